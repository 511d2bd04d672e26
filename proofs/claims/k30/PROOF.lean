import PyProof.Rows.All
import Wide.All
import OpenK.AllK
import Wide.FinOn
import HandS.ForMost
import HandS.IsInst
import HandS.Codes
import HandS.Style
import PySem.Challenge.RW_dotfield_k30_tables
import HandS.Strs
import HandS.More
set_option Elab.async false
set_option linter.all false
set_option maxRecDepth 100000
namespace Z
open PySem PySem.Spec PyProof.Rows L2
/-! ## Readings, step by step (own words over the layer) -/
section
variable {K : PySem.W.Frag} {D : Ends} {H : Hp} {Q : VK} {R : Bool → Hp → Prop}
theorem r_seq {σ : L2.St} {t u : TS} (h : t { D with nx := u D } σ H) : tSeq t u D σ H := h
theorem r_asg {σ : L2.St} {te : TE} {g : TG} (h : te σ H fun x H1 => g x σ H1 D.nx) : tAsg te g D σ H := h
theorem r_gname {σ σ2 : L2.St} {i : Nat} {v : V} {k : L2.St → Hp → Prop} (hs : σ.set i (some v) = σ2) (h : k σ2 H) : gName i v σ H k := by
  subst hs; exact h
theorem r_ret {σ : L2.St} {te : TE} (h : te σ H D.rt) : tRet te D σ H := h
theorem r_retN {σ : L2.St} (h : D.rt .non H) : tRetN D σ H := h
theorem r_drop {σ : L2.St} {te : TE} (h : te σ H fun _ H1 => D.nx σ H1) : tDrop te D σ H := h
theorem r_next {σ : L2.St} (h : D.nx σ H) : tNext D σ H := h
theorem r_brk {σ : L2.St} (h : D.bk σ H) : tBreak D σ H := h
theorem r_cnt {σ : L2.St} (h : D.ct σ H) : tCont D σ H := h
theorem r_if {σ : L2.St} {c : TT} {t u : TS} (h : c σ H fun b H1 => if b = true then t D σ H1 else u D σ H1) : tIfS c t u D σ H := h
theorem r_ifE {σ : L2.St} {c : TT} {t u : TE} (h : c σ H fun b H1 => if b = true then t σ H1 Q else u σ H1 Q) : tIf c t u σ H Q := h
theorem r_test {σ : L2.St} {t : TE} (h : t σ H fun x H' => ∃ k, x = .bl k ∧ R k H') : tTest t σ H R := h
theorem r_tB {σ : L2.St} {t : TE} (h : t σ H fun x H' => ∃ k, x = .bl k ∧ R k H') : tB t σ H R := h
theorem r_bl {b : Bool} {P : Bool → Prop} (q : P b) : ∃ k, V.bl b = V.bl k ∧ P k := ⟨b, rfl, q⟩
theorem r_and {σ : L2.St} {t u : TT} (h : t σ H fun c H1 => if c = true then u σ H1 R else R false H1) : tAnd t u σ H R := h
theorem r_or {σ : L2.St} {t u : TT} (h : t σ H fun c H1 => if c = true then R true H1 else u σ H1 R) : tOr t u σ H R := h
theorem r_not {σ : L2.St} {t : TT} (h : t σ H fun c H1 => R (!c) H1) : tNot t σ H R := h
theorem r_andV {σ : L2.St} {ta tb : TE} (h : ta σ H fun x H1 => ∃ c, x = .bl c ∧ if c = true then tb σ H1 Q else Q (.bl false) H1) : tAndV ta tb σ H Q := h
theorem r_orV {σ : L2.St} {ta tb : TE} (h : ta σ H fun x H1 => ∃ c, x = .bl c ∧ if c = true then Q (.bl true) H1 else tb σ H1 Q) : tOrV ta tb σ H Q := h
theorem r_notV {σ : L2.St} {ta : TE} (h : ta σ H fun x H1 => ∃ c, x = .bl c ∧ Q (.bl (!c)) H1) : tNotV ta σ H Q := h
theorem r_v0 {v : V} {l : List (Option V)} (q : Q v H) : tVar 0 (some v :: l) H Q := ⟨v, rfl, q⟩
theorem r_vS {i : Nat} {x : Option V} {l : List (Option V)} (q : tVar i l H Q) : tVar (i + 1) (x :: l) H Q := q
theorem r_v1 {a : Option V} {v : V} {l : List (Option V)} (q : Q v H) : tVar 1 (a :: some v :: l) H Q := ⟨v, rfl, q⟩
theorem r_v2 {a b : Option V} {v : V} {l : List (Option V)} (q : Q v H) : tVar 2 (a :: b :: some v :: l) H Q := ⟨v, rfl, q⟩
theorem r_var {σ : L2.St} {i : Nat} {v : V} (h : σ[i]? = some (some v)) (q : Q v H) : tVar i σ H Q := ⟨v, h, q⟩
theorem r_c {σ : L2.St} {v : V} (q : Q v H) : tC v σ H Q := q
theorem r_op {σ : L2.St} {r : R2} {ta tb : TE} (h : ta σ H fun x H1 => tb σ H1 fun y H2 => r x y H2 Q) : tOp r ta tb σ H Q := h
theorem r_un {σ : L2.St} {r : V → Hp → VK → Prop} {ta : TE} (h : ta σ H fun x H1 => r x H1 Q) : tUn r ta σ H Q := h
theorem r_chain {σ : L2.St} {r r' : R2} {ta tb tc : TE} (h : ta σ H fun x H1 => tb σ H1 fun y H2 => r x y H2 fun z H3 => ∃ k, z = .bl k ∧ (if k = true then tc σ H3 fun w' H4 => r' y w' H4 Q else Q (.bl false) H3)) : tChain r r' ta tb tc σ H Q := h
theorem r_nil {σ : L2.St} {P : List V → Hp → Prop} (q : P [] H) : tNil σ H P := q
theorem r_cons {σ : L2.St} {ta : TE} {tr : TA} {P : List V → Hp → Prop} (h : ta σ H fun x H1 => tr σ H1 fun xs H2 => P (x :: xs) H2) : tCons ta tr σ H P := h
theorem r_I0 {g : Int → Int → V} {i j : Int} (q : Q (g i j) H) : rI0 g (.int i) (.int j) H Q := ⟨i, j, rfl, rfl, q⟩
theorem r_I {C : Int → Int → Prop} {g : Int → Int → V} {i j : Int} (c : C i j) (q : Q (g i j) H) : rI C g (.int i) (.int j) H Q := ⟨i, j, rfl, rfl, c, q⟩
theorem r_U {g : Int → V} {i : Int} (q : Q (g i) H) : rU g (.int i) H Q := ⟨i, rfl, q⟩
/-- a truth that is not looked into -/
def dB (p : Prop) [Decidable p] : Bool := decide p
theorem dB_t {p : Prop} [Decidable p] (h : p) : dB p = true := decide_eq_true h
theorem dB_f {p : Prop} [Decidable p] (h : ¬ p) : dB p = false := decide_eq_false h
theorem dB_of {p : Prop} [Decidable p] (h : dB p = true) : p := of_decide_eq_true h
theorem dB_iff {p q : Prop} [Decidable p] [Decidable q] (h : p ↔ q) : dB p = dB q := by
  by_cases c : p
  · rw [dB_t c, dB_t (h.mp c)]
  · rw [dB_f c, dB_f (fun z => c (h.mpr z))]
theorem r_lt {i j : Int} (q : Q (.bl (dB (i < j))) H) : rI0 (fun i j => .bl (decide (i < j))) (.int i) (.int j) H Q := ⟨i, j, rfl, rfl, q⟩
theorem r_le {i j : Int} (q : Q (.bl (dB (i ≤ j))) H) : rI0 (fun i j => .bl (decide (i ≤ j))) (.int i) (.int j) H Q := ⟨i, j, rfl, rfl, q⟩
theorem r_gt {i j : Int} (q : Q (.bl (dB (j < i))) H) : rI0 (fun i j => .bl (decide (j < i))) (.int i) (.int j) H Q := ⟨i, j, rfl, rfl, q⟩
theorem r_ge {i j : Int} (q : Q (.bl (dB (j ≤ i))) H) : rI0 (fun i j => .bl (decide (j ≤ i))) (.int i) (.int j) H Q := ⟨i, j, rfl, rfl, q⟩
theorem eq_int (i j : Int) : decide (V.int i = V.int j) = dB (i = j) := by
  unfold dB
  by_cases h : i = j
  · subst h; simp
  · simp [h]
theorem eq_bl (i j : Bool) : decide (V.bl i = V.bl j) = dB (i = j) := by
  unfold dB
  by_cases h : i = j
  · subst h; simp
  · simp [h]
theorem eq_str (i j : Str) : decide (V.str i = V.str j) = dB (i = j) := by
  unfold dB
  by_cases h : i = j
  · subst h; simp
  · simp [h]
theorem not_dB (p : Prop) [Decidable p] : (!dB p) = dB (¬ p) := by
  by_cases h : p
  · rw [dB_t h, dB_f (fun z => z h)]; rfl
  · rw [dB_f h, dB_t h]; rfl
theorem r_eqI {i j : Int} (q : Q (.bl (dB (i = j))) H) : rEq (.int i) (.int j) H Q := ⟨rfl, by rw [eq_int]; exact q⟩
theorem r_neI {i j : Int} (q : Q (.bl (dB (¬ i = j))) H) : rNe (.int i) (.int j) H Q := ⟨rfl, by rw [eq_int, not_dB]; exact q⟩
theorem r_eqB {i j : Bool} (q : Q (.bl (dB (i = j))) H) : rEq (.bl i) (.bl j) H Q := ⟨rfl, by rw [eq_bl]; exact q⟩
theorem r_neB {i j : Bool} (q : Q (.bl (dB (¬ i = j))) H) : rNe (.bl i) (.bl j) H Q := ⟨rfl, by rw [eq_bl, not_dB]; exact q⟩
theorem r_eqS {i j : Str} (q : Q (.bl (dB (i = j))) H) : rEq (.str i) (.str j) H Q := ⟨rfl, by rw [eq_str]; exact q⟩
theorem r_neS {i j : Str} (q : Q (.bl (dB (¬ i = j))) H) : rNe (.str i) (.str j) H Q := ⟨rfl, by rw [eq_str, not_dB]; exact q⟩
/-! tests that are decided -/
theorem i_t {A B : Prop} (h : A) : if true = true then A else B := h
theorem i_f {A B : Prop} (h : B) : if false = true then A else B := by rw [if_neg Bool.false_ne_true]; exact h
theorem i_2 {p : Prop} [Decidable p] {A B : Prop} (h1 : p → A) (h2 : ¬ p → B) : if dB p = true then A else B := by
  by_cases h : p
  · rw [dB_t h]; exact h1 h
  · rw [dB_f h, if_neg Bool.false_ne_true]; exact h2 h
theorem i_2n {p : Prop} [Decidable p] {A B : Prop} (h1 : ¬ p → A) (h2 : p → B) : if (!dB p) = true then A else B := by
  by_cases h : p
  · rw [dB_t h]; exact i_f (h2 h)
  · rw [dB_f h]; exact i_t (h1 h)
theorem i_2b {b : Bool} {A B : Prop} (h1 : b = true → A) (h2 : b = false → B) : if b = true then A else B := by
  cases b with
  | true => exact h1 rfl
  | false => exact i_f (h2 rfl)
theorem i_dt {p : Prop} [Decidable p] {A B : Prop} (h : p) (a : A) : if dB p = true then A else B := by rw [dB_t h]; exact a
theorem i_df {p : Prop} [Decidable p] {A B : Prop} (h : ¬ p) (b : B) : if dB p = true then A else B := by rw [dB_f h, if_neg Bool.false_ne_true]; exact b
theorem i_dtn {p : Prop} [Decidable p] {A B : Prop} (h : ¬ p) (a : A) : if (!dB p) = true then A else B := by rw [dB_f h]; exact a
theorem i_dfn {p : Prop} [Decidable p] {A B : Prop} (h : p) (b : B) : if (!dB p) = true then A else B := by rw [dB_t h]; exact i_f b
theorem i_nt {A B : Prop} (h : A) : if (!false) = true then A else B := h
theorem i_nf {A B : Prop} (h : B) : if (!true) = true then A else B := i_f h
theorem kx {CX : CXT} {P : Program} {w : World} {K : PySem.W.Frag} {mg : Str → Option Value} {base : Heap} {N : List Str} {qual : Str} {scope : Scope} {f : Addr} {cd : Value} {A : Around} {outer : List Env} {s : Shared} {H : Hp} {E : XK} :
    (cxOf CX P w K mg base N qual scope f cd A outer s H E).K = K := rfl
/-! heaps -/
theorem s_at {H H' : Hp} {a : Addr} {o : HO} (s : Same H H') (h : H a = some o) : H' a = some o := s _ _ h
theorem s_upd {H : Hp} {p : Addr} {o : HO} (h : H p = none) : Same H (upd H p o) := fun b x e => by
  rw [upd_ne (ne_of_none e h)]
  exact e
/-- an object that H does not know may change -/
theorem s_mut {H H' : Hp} {p : Addr} {o : HO} (e : Same H H') (h : H p = none) : Same H (upd H' p o) := fun a u ha => by
  rw [upd_ne (ne_of_none ha h)]
  exact e a u ha
theorem s_back {H H' : Hp} {p : Addr} (e : Same H H') (h : H' p = none) : H p = none := e.free h
theorem ne_of' {H : Hp} {a b : Addr} {o : HO} (h' : H b = none) (h : H a = some o) : a ≠ b := ne_of_none h h'
theorem ne_new {H H' : Hp} {a b : Addr} {o : HO} (h : H a = some o) (s : Same H H') (h' : H' b = none) : a ≠ b := ne_of_none (s _ _ h) h'
theorem sq_l {H : Hp} {a : Addr} {xs : List V} (h : H a = some (.lst xs)) : SqL K H a xs := .inl (.inl h)
theorem sq_t {H : Hp} {a : Addr} {xs : List V} (h : H a = some (.tup xs)) : SqT K H a xs := .inl (.inl h)
theorem s_sq {H H' : Hp} {a : Addr} {xs : List V} (s : Same H H') (h : SqL K H a xs) : SqL K H' a xs := s.seq h
theorem s_rd {H H' : Hp} {a : Addr} {u : HO} (e : Same H H') (h : Rd H a u) : Rd H' a u := by
  rcases h with h | ⟨o, h⟩
  · exact .inl (e a _ h)
  · exact .inr ⟨o, e a _ h⟩
theorem s_st {H H' : Hp} {a : Addr} {xs : List V} (s : Same H H') (h : SqT K H a xs) : SqT K H' a xs := by
  rcases h with h | h
  · exact .inl (s_rd s h)
  · exact .inr h
theorem sz {n : Nat} (h : n ≤ 100000) : n ≤ sizeLine := Nat.le_trans h (by decide)
theorem szl {n : Nat} (h : n < 100000) : n < sizeLine := Nat.lt_of_lt_of_le h (by decide)
/-! lists -/
theorem r_ixL {p : Addr} {xs : List V} {i : Int} {v : V} (h : SqL K H p xs) (ha : atI xs i = some v) (q : Q v H) : rIxL K (.ref p) (.int i) H Q := ⟨p, xs, i, v, rfl, rfl, h, ha, q⟩
theorem r_ixT {p : Addr} {xs : List V} {i : Int} {v : V} (h : SqT K H p xs) (ha : atI xs i = some v) (q : Q v H) : rIxT K (.ref p) (.int i) H Q := ⟨p, xs, i, v, rfl, rfl, h, ha, q⟩
theorem r_new {σ : L2.St} {t : TA} (h : t σ H fun xs H1 => xs.length ≤ sizeLine ∧ ∀ p, H1 p = none → Q (.ref p) (upd H1 p (.lst xs))) : tLst t σ H Q := h
theorem r_tup {σ : L2.St} {t : TA} (h : t σ H fun xs H1 => xs.length ≤ sizeLine ∧ ∀ p, H1 p = none → Q (.ref p) (upd H1 p (.tup xs))) : tTup t σ H Q := h
theorem r_cb {σ : L2.St} {r : List V → Hp → VK → Prop} {t : TA} (h : t σ H fun vs H1 => r vs H1 Q) : tCB r t σ H Q := h
theorem r_call {σ : L2.St} {sp : Sp} {E : XK} {t : TA} (h : t σ H fun vs H1 => sp (vs ++ []) H1 Q E) : tCall sp [] E t σ H Q := h
theorem r_bm {σ : L2.St} {T : String} {r : V → List V → Hp → VK → Prop} {to : TE} {t : TA} (h : to σ H fun x H1 => tyV K T x H1 ∧ t σ H1 fun xs H2 => r x xs H2 Q) : tBM K T r to t σ H Q := h
theorem ty_lst {x : Addr} {xs : List V} {P : Prop} (h : SqL K H x xs) (q : P) : tyV K "list" (.ref x) H ∧ P := ⟨Or.inl ⟨rfl, xs, h⟩, q⟩
theorem r_append {l : Addr} {xs : List V} {y : V} (h : H l = some (.lst xs)) (z : xs.length < sizeLine) (q : Q .non (upd H l (.lst (xs ++ [y])))) : rAppend (.ref l) [y] H Q := ⟨l, xs, y, rfl, rfl, h, z, q⟩
def cLen (K : PySem.W.Frag) : List V → Hp → VK → Prop := fun xs H Q => ∃ p ys, xs = [.ref p] ∧ (SqL K H p ys ∨ SqT K H p ys) ∧ Q (.int ys.length) H
theorem call_len {X : Cx} : CallR X (.builtin "len") (cLen X.K) := call_len_seq
theorem r_lenL {p : Addr} {ys : List V} (h : SqL K H p ys) (q : Q (.int ys.length) H) : cLen K [.ref p] H Q := ⟨p, ys, rfl, .inl h, q⟩
theorem r_lenT {p : Addr} {ys : List V} (h : SqT K H p ys) (q : Q (.int ys.length) H) : cLen K [.ref p] H Q := ⟨p, ys, rfl, .inr h, q⟩
def cInt : List V → Hp → VK → Prop := fun xs H Q => (∃ i, xs = [.int i] ∧ Q (.int i) H) ∨ ∃ k, xs = [.bl k] ∧ Q (.int (if k then 1 else 0)) H
theorem call_int {X : Cx} : CallR X (.type "int") cInt := call_int1
theorem r_int {i : Int} (q : Q (.int i) H) : cInt [.int i] H Q := .inl ⟨i, rfl, q⟩
def cIsN : R2 := fun x y H Q => y = .non ∧ Q (.bl (decide (x = .non))) H
def cNotN : R2 := fun x y H Q => y = .non ∧ Q (.bl (!decide (x = .non))) H
theorem op_isN {X : Cx} : OpR X (compareOp .Is) cIsN := L2.op_isN
theorem op_notN {X : Cx} : OpR X (compareOp .IsNot) cNotN := L2.op_notN
theorem r_notN {x : V} (q : Q (.bl (!dB (x = .non))) H) : cNotN x .non H Q := ⟨rfl, q⟩
theorem r_isN {x : V} (q : Q (.bl (dB (x = .non))) H) : cIsN x .non H Q := ⟨rfl, q⟩
theorem r_isi {x c : V} {t u : Value} {b : Bool} (h1 : ClsV c u) (h2 : TyX K H x t) (h3 : PySem.W.kitOne K t u = some b) (q : Q (.bl b) H) : rIsi K [x, c] H Q := ⟨x, c, t, u, b, rfl, h1, h2, h3, q⟩
/-! slices -/
theorem r_sl {σ : L2.St} {r : V → Option Int → Option Int → Hp → VK → Prop} {te : TE} {tl th : TO} (h : te σ H fun x H1 => tl σ H1 fun l H2 => th σ H2 fun u H3 => r x l u H3 Q) : tSl r te tl th σ H Q := h
theorem r_noPart {σ : L2.St} {P : Option Int → Hp → Prop} (q : P none H) : tNoPart σ H P := q
theorem r_part {σ : L2.St} {t : TE} {P : Option Int → Hp → Prop} (h : t σ H fun x H1 => ∃ i, x = .int i ∧ P (some i) H1) : tPart t σ H P := h
theorem r_pint {i : Int} {P : Int → Prop} (q : P i) : ∃ j, V.int i = .int j ∧ P j := ⟨i, rfl, q⟩
theorem r_slL {a : Addr} {xs : List V} {lo hi : Option Int} (h : SqL K H a xs) (q : ∀ p, H p = none → Q (.ref p) (upd H p (.lst (cutV xs lo hi)))) : rSlL K (.ref a) lo hi H Q := ⟨a, xs, rfl, h, q⟩
theorem r_aug {σ σ2 : L2.St} {i : Nat} {te : TE} {ti : TIp} {x : V} (hx : σ[i]? = some (some x)) (h : te σ H fun y H1 => ti x y H1 fun z H2 => D.nx (σ.set i (some z)) H2) : tAug i te ti D σ H := ⟨x, hx, h⟩
/-! loops -/
theorem for_lst {σ : L2.St} {tl : TE} {g : TG} {tb : TS} (h : tl σ H fun x H1 => ∃ a, x = .ref a ∧ (∃ xs, SqL K H1 a xs) ∧ ∃ W : Nat → Nat → L2.St → Hp → Prop, (∃ m, W 0 m σ H1) ∧ ∀ i m σ H, W i m σ H →
  ((Itl K a).stop i H ∧ D.nx σ H) ∨ ((Itl K a).go i H ∧ ∃ N : L2.St → Hp → Prop, (∀ σ' H', N σ' H' → ∃ m', m' < m ∧ W (i + 1) m' σ' H') ∧ ∀ x H', (Itl K a).yld i H x H' → g x σ H' fun σ2 H2 => tb { D with nx := N, ct := N, bk := D.nx } σ2 H2)) : tFor (iList K tl) g tb D σ H := h
theorem lst_go {σ : L2.St} {a : Addr} {xs : List V} {g : TG} {tb : TS} (hs0 : SqL K H a xs) (Pv : Nat → L2.St → Hp → Prop) (h0 : Pv 0 σ H) (hl : ∀ i σ H, i ≤ xs.length → Pv i σ H → SqL K H a xs)
    (hs : ∀ i x σ H, xs[i]? = some x → Pv i σ H → g x σ H fun σ2 H2 => tb { D with nx := Pv (i + 1), ct := Pv (i + 1), bk := D.nx } σ2 H2) (hd : ∀ σ H, Pv xs.length σ H → D.nx σ H) :
    ∃ a', V.ref a = .ref a' ∧ (∃ xs, SqL K H a' xs) ∧ ∃ W : Nat → Nat → L2.St → Hp → Prop, (∃ m, W 0 m σ H) ∧ ∀ i m σ H, W i m σ H →
  ((Itl K a').stop i H ∧ D.nx σ H) ∨ ((Itl K a').go i H ∧ ∃ N : L2.St → Hp → Prop, (∀ σ' H', N σ' H' → ∃ m', m' < m ∧ W (i + 1) m' σ' H') ∧ ∀ x H', (Itl K a').yld i H x H' → g x σ H' fun σ2 H2 => tb { D with nx := N, ct := N, bk := D.nx } σ2 H2) :=
  ⟨a, rfl, ⟨xs, hs0⟩, for_list (K := K) Pv h0 hl hs hd⟩
theorem for_rng {σ : L2.St} {ta : TA} {g : TG} {tb : TS} (h : ta σ H fun vs H1 => ∃ j : Int, vs = [.int j] ∧ -(2 ^ 62) ≤ j ∧ j < 2 ^ 62 ∧ ∃ W : Nat → Nat → L2.St → Hp → Prop, (∃ m, W 0 m σ H1) ∧ ∀ i m σ H, W i m σ H →
  ((Itr 0 j.toNat).stop i H ∧ D.nx σ H) ∨ ((Itr 0 j.toNat).go i H ∧ ∃ N : L2.St → Hp → Prop, (∀ σ' H', N σ' H' → ∃ m', m' < m ∧ W (i + 1) m' σ' H') ∧ ∀ x H', (Itr 0 j.toNat).yld i H x H' → g x σ H' fun σ2 H2 => tb { D with nx := N, ct := N, bk := D.nx } σ2 H2)) : tFor (iRng1 ta) g tb D σ H := h
theorem rng_go {σ : L2.St} {j : Int} {g : TG} {tb : TS} (n : Nat) (hj : j.toNat = n) (hb : -(2 ^ 62) ≤ j ∧ j < 2 ^ 62) (Pv : Nat → L2.St → Hp → Prop) (h0 : Pv 0 σ H)
    (hs : ∀ i σ H, i < n → Pv i σ H → g (.int (i : Nat)) σ H fun σ2 H2 => tb { D with nx := Pv (i + 1), ct := Pv (i + 1), bk := D.nx } σ2 H2) (hd : ∀ σ H, Pv n σ H → D.nx σ H) :
    ∃ j' : Int, [V.int j] = [.int j'] ∧ -(2 ^ 62) ≤ j' ∧ j' < 2 ^ 62 ∧ ∃ W : Nat → Nat → L2.St → Hp → Prop, (∃ m, W 0 m σ H) ∧ ∀ i m σ H, W i m σ H →
  ((Itr 0 j'.toNat).stop i H ∧ D.nx σ H) ∨ ((Itr 0 j'.toNat).go i H ∧ ∃ N : L2.St → Hp → Prop, (∀ σ' H', N σ' H' → ∃ m', m' < m ∧ W (i + 1) m' σ' H') ∧ ∀ x H', (Itr 0 j'.toNat).yld i H x H' → g x σ H' fun σ2 H2 => tb { D with nx := N, ct := N, bk := D.nx } σ2 H2) := by
  subst hj
  refine ⟨j, rfl, hb.1, hb.2, for_range (lo := 0) Pv h0 (fun i σ H hi p => ?_) hd⟩
  have e : (0 : Int) + (i : Nat) = (i : Nat) := Int.zero_add _
  rw [e]
  exact hs i σ H hi p
theorem for_rng2 {σ : L2.St} {ta : TA} {g : TG} {tb : TS} (h : ta σ H fun vs H1 => ∃ i j : Int, vs = [.int i, .int j] ∧ (-(2 ^ 62) ≤ i ∧ i < 2 ^ 62 ∧ -(2 ^ 62) ≤ j ∧ j < 2 ^ 62) ∧ ∃ W : Nat → Nat → L2.St → Hp → Prop, (∃ m, W 0 m σ H1) ∧ ∀ k m σ H, W k m σ H →
  ((Itr i (j - i).toNat).stop k H ∧ D.nx σ H) ∨ ((Itr i (j - i).toNat).go k H ∧ ∃ N : L2.St → Hp → Prop, (∀ σ' H', N σ' H' → ∃ m', m' < m ∧ W (k + 1) m' σ' H') ∧ ∀ x H', (Itr i (j - i).toNat).yld k H x H' → g x σ H' fun σ2 H2 => tb { D with nx := N, ct := N, bk := D.nx } σ2 H2)) : tFor (iRng2 ta) g tb D σ H := h
theorem rng_go2 {σ : L2.St} {a j : Int} {g : TG} {tb : TS} (n : Nat) (hj : (j - a).toNat = n) (hb : -(2 ^ 62) ≤ a ∧ a < 2 ^ 62 ∧ -(2 ^ 62) ≤ j ∧ j < 2 ^ 62) (Pv : Nat → L2.St → Hp → Prop) (h0 : Pv 0 σ H)
    (hs : ∀ i σ H, i < n → Pv i σ H → g (.int (a + (i : Nat))) σ H fun σ2 H2 => tb { D with nx := Pv (i + 1), ct := Pv (i + 1), bk := D.nx } σ2 H2) (hd : ∀ σ H, Pv n σ H → D.nx σ H) :
    ∃ i' j' : Int, [V.int a, V.int j] = [.int i', .int j'] ∧ (-(2 ^ 62) ≤ i' ∧ i' < 2 ^ 62 ∧ -(2 ^ 62) ≤ j' ∧ j' < 2 ^ 62) ∧ ∃ W : Nat → Nat → L2.St → Hp → Prop, (∃ m, W 0 m σ H) ∧ ∀ k m σ H, W k m σ H →
  ((Itr i' (j' - i').toNat).stop k H ∧ D.nx σ H) ∨ ((Itr i' (j' - i').toNat).go k H ∧ ∃ N : L2.St → Hp → Prop, (∀ σ' H', N σ' H' → ∃ m', m' < m ∧ W (k + 1) m' σ' H') ∧ ∀ x H', (Itr i' (j' - i').toNat).yld k H x H' → g x σ H' fun σ2 H2 => tb { D with nx := N, ct := N, bk := D.nx } σ2 H2) := by
  subst hj
  exact ⟨a, j, rfl, hb, for_range (lo := a) Pv h0 hs hd⟩
end
theorem for_enum {D : Ends} {H : Hp} {K : PySem.W.Frag} {σ : L2.St} {ta : TA} {g : TG} {tb : TS} (h : ta σ H fun vs H1 => ∃ a xs, vs = [.ref a] ∧ SqL K H1 a xs ∧ ∃ W : Nat → Nat → L2.St → Hp → Prop, (∃ m, W 0 m σ H1) ∧ ∀ i m σ H, W i m σ H →
  ((Ite K a).stop i H ∧ D.nx σ H) ∨ ((Ite K a).go i H ∧ ∃ N : L2.St → Hp → Prop, (∀ σ' H', N σ' H' → ∃ m', m' < m ∧ W (i + 1) m' σ' H') ∧ ∀ x H', (Ite K a).yld i H x H' → g x σ H' fun σ2 H2 => tb { D with nx := N, ct := N, bk := D.nx } σ2 H2)) : tFor (iEnum K ta) g tb D σ H := h
theorem enum_go {D : Ends} {H : Hp} {K : PySem.W.Frag} {σ : L2.St} {a : Addr} {xs : List V} {g : TG} {tb : TS} (hs0 : SqL K H a xs) (Pv : Nat → L2.St → Hp → Prop) (h0 : Pv 0 σ H) (hl : ∀ i σ H, i ≤ xs.length → Pv i σ H → SqL K H a xs)
    (hs : ∀ i x σ H T, xs[i]? = some x → Pv i σ H → H T = none → g (.ref T) σ (upd H T (.tup [.int (i : Nat), x])) fun σ2 H2 => tb { D with nx := Pv (i + 1), ct := Pv (i + 1), bk := D.nx } σ2 H2) (hd : ∀ σ H, Pv xs.length σ H → D.nx σ H) :
    ∃ a' xs', [V.ref a] = [.ref a'] ∧ SqL K H a' xs' ∧ ∃ W : Nat → Nat → L2.St → Hp → Prop, (∃ m, W 0 m σ H) ∧ ∀ i m σ H, W i m σ H →
  ((Ite K a').stop i H ∧ D.nx σ H) ∨ ((Ite K a').go i H ∧ ∃ N : L2.St → Hp → Prop, (∀ σ' H', N σ' H' → ∃ m', m' < m ∧ W (i + 1) m' σ' H') ∧ ∀ x H', (Ite K a').yld i H x H' → g x σ H' fun σ2 H2 => tb { D with nx := N, ct := N, bk := D.nx } σ2 H2) := by
  refine ⟨a, xs, rfl, hs0, fun i m σ H => m = xs.length - i ∧ i ≤ xs.length ∧ Pv i σ H, ⟨xs.length, by simp, Nat.zero_le _, h0⟩, ?_⟩
  rintro i m σ H ⟨rfl, hi, p⟩
  have q := hl i σ H hi p
  by_cases hlt : i < xs.length
  · refine .inr ⟨⟨xs, xs[i], q, by simp [hlt]⟩, Pv (i + 1), fun σ' H' p' => ⟨xs.length - (i + 1), by omega, rfl, hlt, p'⟩, fun x H' y => ?_⟩
    obtain ⟨T, x, rfl, hT, rfl, hx⟩ := y
    exact hs i x σ H T (hx xs q) p hT
  · have e : i = xs.length := by omega
    subst e
    exact .inl ⟨⟨xs, q, Nat.le_refl _⟩, hd σ H p⟩
theorem r_pair {H : Hp} {K : PySem.W.Frag} {σ σ2 : L2.St} {i j : Nat} {T : Addr} {x y : V} {k : L2.St → Hp → Prop} (hT : H T = some (.tup [x, y])) (hs : (σ.set i (some x)).set j (some y) = σ2) (h : k σ2 H) :
    gTup K 2 (gCons (gName i) (gCons (gName j) gNil)) (.ref T) σ H k := by
  subst hs
  exact ⟨T, [x, y], rfl, .inl (.inl hT), rfl, x, [y], rfl, y, [], rfl, rfl, h⟩
theorem r_three {H : Hp} {K : PySem.W.Frag} {σ σ2 : L2.St} {i j l : Nat} {T : Addr} {x y z : V} {k : L2.St → Hp → Prop} (hT : H T = some (.tup [x, y, z])) (hs : ((σ.set i (some x)).set j (some y)).set l (some z) = σ2) (h : k σ2 H) :
    gTup K 3 (gCons (gName i) (gCons (gName j) (gCons (gName l) gNil))) (.ref T) σ H k := by
  subst hs
  exact ⟨T, [x, y, z], rfl, .inl (.inl hT), rfl, x, [y, z], rfl, y, [z], rfl, z, [], rfl, rfl, h⟩
theorem r_gsub {H : Hp} {σ : L2.St} {to ti : TE} {t : TSet} {v : V} {k : L2.St → Hp → Prop} (h : to σ H fun o H1 => ti σ H1 fun i H2 => t o i v H2 fun H3 => k σ H3) : gSub to ti t v σ H k := h
theorem r_setL {H : Hp} {p : Addr} {xs : List V} {k : Int} {j : Nat} {v : V} {Q : Hp → Prop} (hp : H p = some (.lst xs)) (e : k = (j : Int)) (hj : j < xs.length) (q : Q (upd H p (.lst (xs.set j v)))) : rSetL (.ref p) (.int k) v H Q := by
  subst e
  refine ⟨p, xs, (j : Int), j, rfl, rfl, hp, ?_, q⟩
  unfold ixN
  rw [if_pos (by omega), if_pos (by omega), Int.toNat_natCast]
theorem r_rep {H : Hp} {Q : VK} {l : Addr} {k : Int} {v : V} (hl : H l = some (.lst [v])) (h1 : -(2 ^ 63) ≤ k) (h2 : k < 100000) (q : ∀ p, H p = none → Q (.ref p) (upd H p (.lst (List.replicate k.toNat v)))) : rRep (.ref l) (.int k) H Q := by
  refine ⟨l, k, [v], rfl, rfl, hl, h1, Int.lt_trans h2 (by decide), sz (by show 1 * k.toNat ≤ 100000; omega), fun p hp => ?_⟩
  have e : (List.replicate k.toNat [v]).flatten = List.replicate k.toNat v := by
    generalize k.toNat = n
    induction n with
    | zero => rfl
    | succ n ih => rw [List.replicate_succ, List.flatten_cons, ih, List.replicate_succ]; rfl
  rw [e]
  exact q p hp
theorem r_cat {H : Hp} {Q : VK} {l b : Addr} {xs zs : List V} (hl : H l = some (.lst xs)) (hb : H b = some (.lst zs)) (hz : xs.length + zs.length ≤ 100000) (q : ∀ p, H p = none → Q (.ref p) (upd H p (.lst (xs ++ zs)))) : rCat (.ref l) (.ref b) H Q :=
  ⟨l, b, xs, zs, rfl, rfl, hl, hb, sz hz, q⟩
def cList (K : PySem.W.Frag) : List V → Hp → VK → Prop := fun xs H Q => ∃ p ys, xs = [.ref p] ∧ (SqL K H p ys ∨ SqT K H p ys) ∧ ∀ l, H l = none → Q (.ref l) (upd H l (.lst ys))
theorem call_list {X : Cx} : CallR X (.type "list") (cList X.K) := call_list_of
theorem r_list {H : Hp} {K : PySem.W.Frag} {Q : VK} {p : Addr} {ys : List V} (h : SqL K H p ys) (q : ∀ l, H l = none → Q (.ref l) (upd H l (.lst ys))) : cList K [.ref p] H Q := ⟨p, ys, rfl, .inl h, q⟩
theorem r_intB {H : Hp} {Q : VK} {b : Bool} (q : Q (.int (if b then 1 else 0)) H) : cInt [.bl b] H Q := .inr ⟨b, rfl, q⟩
/-! two lists of ints compared -/
theorem dp_ints {K : PySem.W.Frag} {H : Hp} : ∀ ns : List Int, DpAll K H (ns.map V.int) (ns.map PyData.int)
  | [] => .nil
  | n :: r => .cons (.int n) (dp_ints r)
theorem depth_ints : ∀ ns : List Int, PyData.depthAll (ns.map PyData.int) = 0
  | [] => rfl
  | n :: r => by
    show max 0 (PyData.depthAll (r.map PyData.int)) = 0
    rw [depth_ints r]; rfl
theorem lay_ints : ∀ ns : List Int, PyData.canLayAll0 (ns.map PyData.int) = true
  | [] => rfl
  | n :: r => by
    show (true && PyData.canLayAll0 (r.map PyData.int)) = true
    rw [lay_ints r]; rfl
theorem shaped_ints (ns : List Int) : SeqAt.shaped (.list (ns.map PyData.int)) = true := by
  have h1 : (PyData.list (ns.map PyData.int)).canLay0 = true := lay_ints ns
  have h2 : (PyData.list (ns.map PyData.int)).depth ≤ 64 := by
    show PyData.depthAll (ns.map PyData.int) + 1 ≤ 64
    rw [depth_ints ns]; decide
  unfold SeqAt.shaped
  rw [h1, decide_eq_true h2]; rfl
theorem eqv_ints : ∀ ns : List Int, PyData.eqv (.list (ns.map PyData.int)) (.list (ns.map PyData.int)) = true := by
  intro ns
  unfold PyData.eqv
  induction ns with
  | nil => rfl
  | cons n r ih => simp [PyData.eqvAll, PyData.eqv, ih]
theorem r_eqL {H : Hp} {K : PySem.W.Frag} {Q : VK} {a b : Addr} {ns : List Int} (ha : SqL K H a (ns.map V.int)) (hb : SqL K H b (ns.map V.int)) (q : Q (.bl true) H) : rEqD K (.ref a) (.ref b) H Q :=
  ⟨_, _, .lst ha (dp_ints ns), .lst hb (dp_ints ns), shaped_ints ns, shaped_ints ns, by rw [eqv_ints]; exact q⟩
theorem eqv_ints2 : ∀ ns ms : List Int, PyData.eqv (.list (ns.map PyData.int)) (.list (ms.map PyData.int)) = dB (ns = ms) := by
  intro ns
  induction ns with
  | nil =>
    intro ms
    cases ms with
    | nil => rw [dB_t rfl]; simp [PyData.eqv, PyData.eqvAll]
    | cons m r => rw [dB_f (by simp)]; simp [PyData.eqv, PyData.eqvAll]
  | cons n ns ih =>
    intro ms
    cases ms with
    | nil => rw [dB_f (by simp)]; simp [PyData.eqv, PyData.eqvAll]
    | cons m r =>
      have i2 := ih r
      unfold PyData.eqv at i2
      have e : PyData.eqv (.list ((n :: ns).map PyData.int)) (.list ((m :: r).map PyData.int)) = ((n == m) && PyData.eqv (.list (ns.map PyData.int)) (.list (r.map PyData.int))) := by
        unfold PyData.eqv
        simp [PyData.eqvAll, PyData.eqv]
      rw [e, ih r]
      by_cases h : n = m
      · subst h
        by_cases h2 : ns = r
        · subst h2; rw [dB_t rfl, dB_t rfl]; simp
        · rw [dB_f h2, dB_f (by intro z; injection z with _ z; exact h2 z)]; simp
      · rw [dB_f (p := n :: ns = m :: r) (by intro z; injection z with z _; exact h z)]; simp [h]
theorem r_eqL2 {H : Hp} {K : PySem.W.Frag} {Q : VK} {a b : Addr} {ns ms : List Int} (ha : SqL K H a (ns.map V.int)) (hb : SqL K H b (ms.map V.int)) (q : Q (.bl (dB (ns = ms))) H) : rEqD K (.ref a) (.ref b) H Q :=
  ⟨_, _, .lst ha (dp_ints ns), .lst hb (dp_ints ms), shaped_ints ns, shaped_ints ms, by rw [eqv_ints2]; exact q⟩
theorem r_sum {K : PySem.W.Frag} {H : Hp} {Q : VK} {a : Addr} {ns : List Int} (h : SqL K H a (ns.map V.int)) (q : Q (.int ns.sum) H) : rSum K [.ref a] H Q := ⟨a, ns, rfl, h, q⟩
/-! comprehensions whose elements leave all as it was -/
theorem lc_rng {H : Hp} {Q : VK} {σ : L2.St} {ta : TA} {g : TG} {tt : TT} {te : TE} {vs : List Nat} (h : ta σ H fun ws H1 => ∃ j : Int, ws = [V.int j] ∧ -(2 ^ 62) ≤ j ∧ j < 2 ^ 62 ∧ ∀ D, H1 D = none → ∃ W : Nat → Nat → Hp → Prop, (∃ m, W 0 m (upd H1 D (.lst []))) ∧ ∀ i m H, W i m H →
  ((Itr 0 j.toNat).stop i H ∧ Q (.ref D) H) ∨ ((Itr 0 j.toNat).go i H ∧ ∃ Nx : Hp → Prop, (∀ H', Nx H' → ∃ m', m' < m ∧ W (i + 1) m' H') ∧ ∀ x H', (Itr 0 j.toNat).yld i H x H' → g x (wipe σ vs) H' fun σ2 H2 => wipe σ2 vs = wipe σ vs ∧ tt σ2 H2 fun b H3 =>
    if b = true then te σ2 H3 fun y H4 => ∃ acc, H4 D = some (.lst acc) ∧ acc.length < sizeLine ∧ Nx (upd H4 D (.lst (acc ++ [y]))) else Nx H3)) : tLc (iRng1 ta) g tt te vs σ H Q := h
theorem lc_lst {H : Hp} {K : PySem.W.Frag} {Q : VK} {σ : L2.St} {tl : TE} {g : TG} {tt : TT} {te : TE} {vs : List Nat} (h : tl σ H fun x H1 => ∃ a, x = .ref a ∧ (∃ xs, SqL K H1 a xs) ∧ ∀ D, H1 D = none → ∃ W : Nat → Nat → Hp → Prop, (∃ m, W 0 m (upd H1 D (.lst []))) ∧ ∀ i m H, W i m H →
  ((Itl K a).stop i H ∧ Q (.ref D) H) ∨ ((Itl K a).go i H ∧ ∃ Nx : Hp → Prop, (∀ H', Nx H' → ∃ m', m' < m ∧ W (i + 1) m' H') ∧ ∀ x H', (Itl K a).yld i H x H' → g x (wipe σ vs) H' fun σ2 H2 => wipe σ2 vs = wipe σ vs ∧ tt σ2 H2 fun b H3 =>
    if b = true then te σ2 H3 fun y H4 => ∃ acc, H4 D = some (.lst acc) ∧ acc.length < sizeLine ∧ Nx (upd H4 D (.lst (acc ++ [y]))) else Nx H3)) : tLc (iList K tl) g tt te vs σ H Q := h
theorem lcr_pure {H1 : Hp} {Qd : Addr → Hp → Prop} {σ : L2.St} {te : TE} {vs : List Nat} {sl : Nat} {j : Int} (n : Nat) (f : Nat → V) (hj : j.toNat = n) (hb : -(2 ^ 62) ≤ j ∧ j < 2 ^ 62) (hz : n ≤ 100000) (hw : ∀ v : Option V, wipe ((wipe σ vs).set sl v) vs = wipe σ vs)
    (hs : ∀ i H2, i < n → Same H1 H2 → ∀ k : VK, (∀ H5, Same H2 H5 → k (f i) H5) → te ((wipe σ vs).set sl (some (V.int (i : Nat)))) H2 k)
    (hd : ∀ D H2, H1 D = none → Same H1 H2 → H2 D = some (.lst ((List.range n).map f)) → Qd D H2) :
    ∃ j' : Int, [V.int j] = [V.int j'] ∧ -(2 ^ 62) ≤ j' ∧ j' < 2 ^ 62 ∧ ∀ D, H1 D = none → ∃ W : Nat → Nat → Hp → Prop, (∃ m, W 0 m (upd H1 D (.lst []))) ∧ ∀ i m H, W i m H →
  ((Itr 0 j'.toNat).stop i H ∧ Qd D H) ∨ ((Itr 0 j'.toNat).go i H ∧ ∃ Nx : Hp → Prop, (∀ H', Nx H' → ∃ m', m' < m ∧ W (i + 1) m' H') ∧ ∀ x H', (Itr 0 j'.toNat).yld i H x H' → gName sl x (wipe σ vs) H' fun σ2 H2 => wipe σ2 vs = wipe σ vs ∧ tYes σ2 H2 fun b H3 =>
    if b = true then te σ2 H3 fun y H4 => ∃ acc, H4 D = some (.lst acc) ∧ acc.length < sizeLine ∧ Nx (upd H4 D (.lst (acc ++ [y]))) else Nx H3) := by
  refine ⟨j, rfl, hb.1, hb.2, fun D hD => ?_⟩
  subst hj
  refine lc_range (lo := 0) (fun i H2 => Same H1 H2 ∧ H2 D = some (.lst ((List.range i).map f))) ⟨s_upd hD, upd_same⟩ (fun i H2 hi ⟨s2, hl⟩ => ?_) (fun H2 ⟨s2, hl⟩ => hd D H2 hD s2 hl)
  have e : (0 : Int) + (i : Nat) = (i : Nat) := Int.zero_add _
  rw [e]
  refine ⟨hw _, i_t (B := Same H1 H2 ∧ H2 D = some (.lst ((List.range (i + 1)).map f))) ?_⟩
  refine (hs i H2 hi s2 _ fun H5 s5 => ⟨_, s5 _ _ hl, szl (by rw [List.length_map, List.length_range]; omega), s_mut (s2.trans s5) hD, ?_⟩)
  rw [List.range_succ, List.map_append]
  exact upd_same
theorem lcl_pure {H1 : Hp} {K : PySem.W.Frag} {Qd : Addr → Hp → Prop} {σ : L2.St} {te : TE} {vs : List Nat} {sl : Nat} {a : Addr} {xs : List V} (f : V → V) (hx : SqL K H1 a xs) (hz : xs.length ≤ 100000) (hw : ∀ v : Option V, wipe ((wipe σ vs).set sl v) vs = wipe σ vs)
    (hs : ∀ (i : Nat) x H2, xs[i]? = some x → Same H1 H2 → ∀ k : VK, (∀ H5, Same H2 H5 → k (f x) H5) → te ((wipe σ vs).set sl (some x)) H2 k)
    (hd : ∀ D H2, H1 D = none → Same H1 H2 → H2 D = some (.lst (xs.map f)) → Qd D H2) :
    ∃ a', V.ref a = .ref a' ∧ (∃ xs, SqL K H1 a' xs) ∧ ∀ D, H1 D = none → ∃ W : Nat → Nat → Hp → Prop, (∃ m, W 0 m (upd H1 D (.lst []))) ∧ ∀ i m H, W i m H →
  ((Itl K a').stop i H ∧ Qd D H) ∨ ((Itl K a').go i H ∧ ∃ Nx : Hp → Prop, (∀ H', Nx H' → ∃ m', m' < m ∧ W (i + 1) m' H') ∧ ∀ x H', (Itl K a').yld i H x H' → gName sl x (wipe σ vs) H' fun σ2 H2 => wipe σ2 vs = wipe σ vs ∧ tYes σ2 H2 fun b H3 =>
    if b = true then te σ2 H3 fun y H4 => ∃ acc, H4 D = some (.lst acc) ∧ acc.length < sizeLine ∧ Nx (upd H4 D (.lst (acc ++ [y]))) else Nx H3) := by
  refine ⟨a, rfl, ⟨xs, hx⟩, fun D hD => ?_⟩
  refine lc_list (K := K) (xs := xs) (fun i H2 => Same H1 H2 ∧ H2 D = some (.lst ((xs.take i).map f))) ⟨s_upd hD, upd_same⟩ (fun i H2 _ p => p.1.seq hx) (fun i x H2 hi ⟨s2, hl⟩ => ?_) (fun H2 ⟨s2, hl⟩ => hd D H2 hD s2 (by rw [List.take_length] at hl; exact hl))
  have hlt := (List.getElem?_eq_some_iff.mp hi).1
  refine ⟨hw _, i_t (B := Same H1 H2 ∧ H2 D = some (.lst ((xs.take (i + 1)).map f))) ?_⟩
  refine (hs i x H2 hi s2 _ fun H5 s5 => ⟨_, s5 _ _ hl, szl (by rw [List.length_map, List.length_take]; omega), s_mut (s2.trans s5) hD, ?_⟩)
  rw [List.take_add_one, hi, List.map_append]
  exact upd_same
theorem lcl_idx {H1 : Hp} {K : PySem.W.Frag} {Qd : Addr → Hp → Prop} {σ : L2.St} {te : TE} {vs : List Nat} {sl : Nat} {a : Addr} {xs : List V} (f : Nat → V) (hx : SqL K H1 a xs) (hz : xs.length ≤ 100000) (hw : ∀ v : Option V, wipe ((wipe σ vs).set sl v) vs = wipe σ vs)
    (hs : ∀ (i : Nat) x H2, xs[i]? = some x → Same H1 H2 → ∀ k : VK, (∀ H5, Same H2 H5 → k (f i) H5) → te ((wipe σ vs).set sl (some x)) H2 k)
    (hd : ∀ D H2, H1 D = none → Same H1 H2 → H2 D = some (.lst ((List.range xs.length).map f)) → Qd D H2) :
    ∃ a', V.ref a = .ref a' ∧ (∃ xs, SqL K H1 a' xs) ∧ ∀ D, H1 D = none → ∃ W : Nat → Nat → Hp → Prop, (∃ m, W 0 m (upd H1 D (.lst []))) ∧ ∀ i m H, W i m H →
  ((Itl K a').stop i H ∧ Qd D H) ∨ ((Itl K a').go i H ∧ ∃ Nx : Hp → Prop, (∀ H', Nx H' → ∃ m', m' < m ∧ W (i + 1) m' H') ∧ ∀ x H', (Itl K a').yld i H x H' → gName sl x (wipe σ vs) H' fun σ2 H2 => wipe σ2 vs = wipe σ vs ∧ tYes σ2 H2 fun b H3 =>
    if b = true then te σ2 H3 fun y H4 => ∃ acc, H4 D = some (.lst acc) ∧ acc.length < sizeLine ∧ Nx (upd H4 D (.lst (acc ++ [y]))) else Nx H3) := by
  refine ⟨a, rfl, ⟨xs, hx⟩, fun D hD => ?_⟩
  refine lc_list (K := K) (xs := xs) (fun i H2 => Same H1 H2 ∧ H2 D = some (.lst ((List.range i).map f))) ⟨s_upd hD, upd_same⟩ (fun i H2 _ p => p.1.seq hx) (fun i x H2 hi ⟨s2, hl⟩ => ?_) (fun H2 ⟨s2, hl⟩ => hd D H2 hD s2 hl)
  have hlt := (List.getElem?_eq_some_iff.mp hi).1
  refine ⟨hw _, i_t (B := Same H1 H2 ∧ H2 D = some (.lst ((List.range (i + 1)).map f))) ?_⟩
  refine (hs i x H2 hi s2 _ fun H5 s5 => ⟨_, s5 _ _ hl, szl (by rw [List.length_map, List.length_range]; omega), s_mut (s2.trans s5) hD, ?_⟩)
  rw [List.range_succ, List.map_append]
  exact upd_same
theorem lc_rng2 {H : Hp} {Q : VK} {σ : L2.St} {ta : TA} {g : TG} {tt : TT} {te : TE} {vs : List Nat} (h : ta σ H fun ws H1 => ∃ a j : Int, ws = [V.int a, V.int j] ∧ (-(2 ^ 62) ≤ a ∧ a < 2 ^ 62 ∧ -(2 ^ 62) ≤ j ∧ j < 2 ^ 62) ∧ ∀ D, H1 D = none → ∃ W : Nat → Nat → Hp → Prop, (∃ m, W 0 m (upd H1 D (.lst []))) ∧ ∀ i m H, W i m H →
  ((Itr a (j - a).toNat).stop i H ∧ Q (.ref D) H) ∨ ((Itr a (j - a).toNat).go i H ∧ ∃ Nx : Hp → Prop, (∀ H', Nx H' → ∃ m', m' < m ∧ W (i + 1) m' H') ∧ ∀ x H', (Itr a (j - a).toNat).yld i H x H' → g x (wipe σ vs) H' fun σ2 H2 => wipe σ2 vs = wipe σ vs ∧ tt σ2 H2 fun b H3 =>
    if b = true then te σ2 H3 fun y H4 => ∃ acc, H4 D = some (.lst acc) ∧ acc.length < sizeLine ∧ Nx (upd H4 D (.lst (acc ++ [y]))) else Nx H3)) : tLc (iRng2 ta) g tt te vs σ H Q := h
/-- a comprehension over range(a, j) with a test; elements and tests leave all as it was -/
theorem lcr2_filt {H1 : Hp} {Qd : Addr → Hp → Prop} {σ : L2.St} {tt : TT} {te : TE} {vs : List Nat} {sl : Nat} {a j : Int} (n : Nat) (p : Nat → Bool) (f : Nat → V) (hj : (j - a).toNat = n) (hb : -(2 ^ 62) ≤ a ∧ a < 2 ^ 62 ∧ -(2 ^ 62) ≤ j ∧ j < 2 ^ 62) (hz : n ≤ 100000) (hw : ∀ v : Option V, wipe ((wipe σ vs).set sl v) vs = wipe σ vs)
    (ht : ∀ i H2, i < n → Same H1 H2 → ∀ k : Bool → Hp → Prop, (∀ H5, Same H2 H5 → k (p i) H5) → tt ((wipe σ vs).set sl (some (V.int (a + (i : Nat))))) H2 k)
    (hs : ∀ i H2, i < n → Same H1 H2 → ∀ k : VK, (∀ H5, Same H2 H5 → k (f i) H5) → te ((wipe σ vs).set sl (some (V.int (a + (i : Nat))))) H2 k)
    (hd : ∀ D H2, H1 D = none → Same H1 H2 → H2 D = some (.lst (((List.range n).filter p).map f)) → Qd D H2) :
    ∃ a' j' : Int, [V.int a, V.int j] = [V.int a', V.int j'] ∧ (-(2 ^ 62) ≤ a' ∧ a' < 2 ^ 62 ∧ -(2 ^ 62) ≤ j' ∧ j' < 2 ^ 62) ∧ ∀ D, H1 D = none → ∃ W : Nat → Nat → Hp → Prop, (∃ m, W 0 m (upd H1 D (.lst []))) ∧ ∀ i m H, W i m H →
  ((Itr a' (j' - a').toNat).stop i H ∧ Qd D H) ∨ ((Itr a' (j' - a').toNat).go i H ∧ ∃ Nx : Hp → Prop, (∀ H', Nx H' → ∃ m', m' < m ∧ W (i + 1) m' H') ∧ ∀ x H', (Itr a' (j' - a').toNat).yld i H x H' → gName sl x (wipe σ vs) H' fun σ2 H2 => wipe σ2 vs = wipe σ vs ∧ tt σ2 H2 fun b H3 =>
    if b = true then te σ2 H3 fun y H4 => ∃ acc, H4 D = some (.lst acc) ∧ acc.length < sizeLine ∧ Nx (upd H4 D (.lst (acc ++ [y]))) else Nx H3) := by
  refine ⟨a, j, rfl, hb, fun D hD => ?_⟩
  subst hj
  refine lc_range (lo := a) (fun i H2 => Same H1 H2 ∧ H2 D = some (.lst (((List.range i).filter p).map f))) ⟨s_upd hD, upd_same⟩ (fun i H2 hi ⟨s2, hl⟩ => ?_) (fun H2 ⟨s2, hl⟩ => hd D H2 hD s2 hl)
  refine ⟨hw _, ht i H2 hi s2 _ fun H5 s5 => ?_⟩
  have hl5 := s5 _ _ hl
  cases hp : p i with
  | true =>
    refine i_t ?_
    refine (hs i H5 hi (s2.trans s5) _ fun H6 s6 => ⟨_, s6 _ _ hl5, szl ?_, s_mut ((s2.trans s5).trans s6) hD, ?_⟩)
    · rw [List.length_map]
      have := List.length_filter_le p (List.range i)
      rw [List.length_range] at this
      omega
    · rw [List.range_succ, List.filter_append, List.filter_cons, hp, if_pos rfl, List.filter_nil, List.map_append]
      exact upd_same
  | false =>
    refine i_f ⟨s2.trans s5, ?_⟩
    rw [List.range_succ, List.filter_append, List.filter_cons, hp, if_neg Bool.false_ne_true, List.filter_nil, List.append_nil]
    exact hl5
theorem lcr_filt {H1 : Hp} {Qd : Addr → Hp → Prop} {σ : L2.St} {tt : TT} {te : TE} {vs : List Nat} {sl : Nat} {j : Int} (n : Nat) (p : Nat → Bool) (f : Nat → V) (hj : j.toNat = n) (hb : -(2 ^ 62) ≤ j ∧ j < 2 ^ 62) (hz : n ≤ 100000) (hw : ∀ v : Option V, wipe ((wipe σ vs).set sl v) vs = wipe σ vs)
    (ht : ∀ i H2, i < n → Same H1 H2 → ∀ k : Bool → Hp → Prop, (∀ H5, Same H2 H5 → k (p i) H5) → tt ((wipe σ vs).set sl (some (V.int (i : Nat)))) H2 k)
    (hs : ∀ i H2, i < n → Same H1 H2 → ∀ k : VK, (∀ H5, Same H2 H5 → k (f i) H5) → te ((wipe σ vs).set sl (some (V.int (i : Nat)))) H2 k)
    (hd : ∀ D H2, H1 D = none → Same H1 H2 → H2 D = some (.lst (((List.range n).filter p).map f)) → Qd D H2) :
    ∃ j' : Int, [V.int j] = [V.int j'] ∧ -(2 ^ 62) ≤ j' ∧ j' < 2 ^ 62 ∧ ∀ D, H1 D = none → ∃ W : Nat → Nat → Hp → Prop, (∃ m, W 0 m (upd H1 D (.lst []))) ∧ ∀ i m H, W i m H →
  ((Itr 0 j'.toNat).stop i H ∧ Qd D H) ∨ ((Itr 0 j'.toNat).go i H ∧ ∃ Nx : Hp → Prop, (∀ H', Nx H' → ∃ m', m' < m ∧ W (i + 1) m' H') ∧ ∀ x H', (Itr 0 j'.toNat).yld i H x H' → gName sl x (wipe σ vs) H' fun σ2 H2 => wipe σ2 vs = wipe σ vs ∧ tt σ2 H2 fun b H3 =>
    if b = true then te σ2 H3 fun y H4 => ∃ acc, H4 D = some (.lst acc) ∧ acc.length < sizeLine ∧ Nx (upd H4 D (.lst (acc ++ [y]))) else Nx H3) := by
  refine ⟨j, rfl, hb.1, hb.2, fun D hD => ?_⟩
  subst hj
  refine lc_range (lo := 0) (fun i H2 => Same H1 H2 ∧ H2 D = some (.lst (((List.range i).filter p).map f))) ⟨s_upd hD, upd_same⟩ (fun i H2 hi ⟨s2, hl⟩ => ?_) (fun H2 ⟨s2, hl⟩ => hd D H2 hD s2 hl)
  have e0 : (0 : Int) + (i : Nat) = (i : Nat) := Int.zero_add _
  rw [e0]
  refine ⟨hw _, ht i H2 hi s2 _ fun H5 s5 => ?_⟩
  have hl5 := s5 _ _ hl
  cases hp : p i with
  | true =>
    refine i_t ?_
    refine (hs i H5 hi (s2.trans s5) _ fun H6 s6 => ⟨_, s6 _ _ hl5, szl ?_, s_mut ((s2.trans s5).trans s6) hD, ?_⟩)
    · rw [List.length_map]
      have := List.length_filter_le p (List.range i)
      rw [List.length_range] at this
      omega
    · rw [List.range_succ, List.filter_append, List.filter_cons, hp, if_pos rfl, List.filter_nil, List.map_append]
      exact upd_same
  | false =>
    refine i_f ⟨s2.trans s5, ?_⟩
    rw [List.range_succ, List.filter_append, List.filter_cons, hp, if_neg Bool.false_ne_true, List.filter_nil, List.append_nil]
    exact hl5
/-! ranges with a step -/
theorem for_rng3 {D : Ends} {H : Hp} {σ : L2.St} {ta : TA} {g : TG} {tb : TS} (h : ta σ H fun vs H1 => ∃ (i j c : Int) (n : Nat), vs = [V.int i, V.int j, V.int c] ∧ RgC i j c n ∧ ∃ W : Nat → Nat → L2.St → Hp → Prop, (∃ m, W 0 m σ H1) ∧ ∀ k m σ H, W k m σ H →
  ((Itc i c n).stop k H ∧ D.nx σ H) ∨ ((Itc i c n).go k H ∧ ∃ N : L2.St → Hp → Prop, (∀ σ' H', N σ' H' → ∃ m', m' < m ∧ W (k + 1) m' σ' H') ∧ ∀ x H', (Itc i c n).yld k H x H' → g x σ H' fun σ2 H2 => tb { D with nx := N, ct := N, bk := D.nx } σ2 H2)) : tFor (iRng3 ta) g tb D σ H := h
theorem rng_go3 {D : Ends} {H1 : Hp} {σ : L2.St} {a j c : Int} {g : TG} {tb : TS} (n : Nat) (hr : RgC a j c n) (Pv : Nat → L2.St → Hp → Prop) (h0 : Pv 0 σ H1)
    (hs : ∀ i σ H, i < n → Pv i σ H → g (V.int (a + (i : Nat) * c)) σ H fun σ2 H2 => tb { D with nx := Pv (i + 1), ct := Pv (i + 1), bk := D.nx } σ2 H2) (hd : ∀ σ H, Pv n σ H → D.nx σ H) :
    ∃ (i' j' c' : Int) (n' : Nat), [V.int a, V.int j, V.int c] = [V.int i', V.int j', V.int c'] ∧ RgC i' j' c' n' ∧ ∃ W : Nat → Nat → L2.St → Hp → Prop, (∃ m, W 0 m σ H1) ∧ ∀ k m σ H, W k m σ H →
  ((Itc i' c' n').stop k H ∧ D.nx σ H) ∨ ((Itc i' c' n').go k H ∧ ∃ N : L2.St → Hp → Prop, (∀ σ' H', N σ' H' → ∃ m', m' < m ∧ W (k + 1) m' σ' H') ∧ ∀ x H', (Itc i' c' n').yld k H x H' → g x σ H' fun σ2 H2 => tb { D with nx := N, ct := N, bk := D.nx } σ2 H2) :=
  ⟨a, j, c, n, rfl, hr, for_rangeC (lo := a) (c := c) Pv h0 hs hd⟩
theorem lc_rng3 {H : Hp} {Q : VK} {σ : L2.St} {ta : TA} {g : TG} {tt : TT} {te : TE} {vs : List Nat} (h : ta σ H fun ws H1 => ∃ (lo j c : Int) (n : Nat), ws = [V.int lo, V.int j, V.int c] ∧ RgC lo j c n ∧ ∀ D, H1 D = none → ∃ W : Nat → Nat → Hp → Prop, (∃ m, W 0 m (upd H1 D (.lst []))) ∧ ∀ i m H, W i m H →
  ((Itc lo c n).stop i H ∧ Q (.ref D) H) ∨ ((Itc lo c n).go i H ∧ ∃ Nx : Hp → Prop, (∀ H', Nx H' → ∃ m', m' < m ∧ W (i + 1) m' H') ∧ ∀ x H', (Itc lo c n).yld i H x H' → g x (wipe σ vs) H' fun σ2 H2 => wipe σ2 vs = wipe σ vs ∧ tt σ2 H2 fun b H3 =>
    if b = true then te σ2 H3 fun y H4 => ∃ acc, H4 D = some (.lst acc) ∧ acc.length < sizeLine ∧ Nx (upd H4 D (.lst (acc ++ [y]))) else Nx H3)) : tLc (iRng3 ta) g tt te vs σ H Q := h
theorem lcr3_pure {H1 : Hp} {Qd : Addr → Hp → Prop} {σ : L2.St} {te : TE} {vs : List Nat} {sl : Nat} {a j c : Int} (n : Nat) (f : Nat → V) (hr : RgC a j c n) (hz : n ≤ 100000) (hw : ∀ v : Option V, wipe ((wipe σ vs).set sl v) vs = wipe σ vs)
    (hs : ∀ i H2, i < n → Same H1 H2 → ∀ k : VK, (∀ H5, Same H2 H5 → k (f i) H5) → te ((wipe σ vs).set sl (some (V.int (a + (i : Nat) * c)))) H2 k)
    (hd : ∀ D H2, H1 D = none → Same H1 H2 → H2 D = some (.lst ((List.range n).map f)) → Qd D H2) :
    ∃ (i' j' c' : Int) (n' : Nat), [V.int a, V.int j, V.int c] = [V.int i', V.int j', V.int c'] ∧ RgC i' j' c' n' ∧ ∀ D, H1 D = none → ∃ W : Nat → Nat → Hp → Prop, (∃ m, W 0 m (upd H1 D (.lst []))) ∧ ∀ i m H, W i m H →
  ((Itc i' c' n').stop i H ∧ Qd D H) ∨ ((Itc i' c' n').go i H ∧ ∃ Nx : Hp → Prop, (∀ H', Nx H' → ∃ m', m' < m ∧ W (i + 1) m' H') ∧ ∀ x H', (Itc i' c' n').yld i H x H' → gName sl x (wipe σ vs) H' fun σ2 H2 => wipe σ2 vs = wipe σ vs ∧ tYes σ2 H2 fun b H3 =>
    if b = true then te σ2 H3 fun y H4 => ∃ acc, H4 D = some (.lst acc) ∧ acc.length < sizeLine ∧ Nx (upd H4 D (.lst (acc ++ [y]))) else Nx H3) := by
  refine ⟨a, j, c, n, rfl, hr, fun D hD => ?_⟩
  refine ⟨fun i m H2 => m = n - i ∧ i ≤ n ∧ Same H1 H2 ∧ H2 D = some (.lst ((List.range i).map f)), ⟨n, by simp, Nat.zero_le _, s_upd hD, upd_same⟩, ?_⟩
  rintro i m H2 ⟨rfl, hi, s2, hl⟩
  by_cases hlt : i < n
  · refine .inr ⟨hlt, fun H' => Same H1 H' ∧ H' D = some (.lst ((List.range (i + 1)).map f)), fun H' p' => ⟨n - (i + 1), by omega, rfl, hlt, p'.1, p'.2⟩, fun x H' y => ?_⟩
    obtain ⟨e, y⟩ := y
    subst e y
    refine ⟨hw _, i_t (B := Same H1 H' ∧ H' D = some (HO.lst ((List.range (i + 1)).map f))) ?_⟩
    refine (hs i _ hlt s2 _ fun H5 s5 => ⟨_, s5 _ _ hl, szl (by rw [List.length_map, List.length_range]; omega), s_mut (s2.trans s5) hD, ?_⟩)
    rw [List.range_succ, List.map_append]
    exact upd_same
  · have e : i = n := by omega
    subst e
    exact .inl ⟨Nat.le_refl _, hd D H2 hD s2 hl⟩
/-! instances -/
def fldP (K : PySem.W.Frag) (f : Str) : V → Hp → VK → Prop := fun x H1 Q => ∃ a C dx fs v, x = .ref a ∧ H1 a = some (.ins C dx fs) ∧ Cls K C ∧ NoAttr K C f ∧ fs.lookup f = some v ∧ Q v H1
theorem r_fld {H : Hp} {K : PySem.W.Frag} {Q : VK} {σ : L2.St} {ta : TE} {f : Str} (h : ta σ H fun x H1 => fldP K f x H1 Q) : tFld K ta f σ H Q := h
theorem r_fldP {H : Hp} {K : PySem.W.Frag} {Q : VK} {f : Str} {a C dx : Addr} {fs : List (Str × V)} {v : V} (h : H a = some (.ins C dx fs)) (c : Cls K C) (n : NoAttr K C f) (l : fs.lookup f = some v) (q : Q v H) : fldP K f (.ref a) H Q := ⟨a, C, dx, fs, v, rfl, h, c, n, l, q⟩
def setP (K : PySem.W.Frag) (f : Str) (y : V) : V → Hp → (Hp → Prop) → Prop := fun x H2 k => ∃ a C dx fs, x = .ref a ∧ H2 a = some (.ins C dx fs) ∧ Cls K C ∧ NoAttr K C f ∧ fs.length < 1000 ∧ k (upd H2 a (.ins C dx (putF f y fs)))
theorem r_sfld {D : Ends} {H : Hp} {K : PySem.W.Frag} {σ : L2.St} {ta tv : TE} {f : Str} (h : tv σ H fun y H1 => ta σ H1 fun x H2 => setP K f y x H2 fun H3 => D.nx σ H3) : sFld K ta tv f D σ H := h
theorem r_setP {H : Hp} {K : PySem.W.Frag} {f : Str} {y : V} {a C dx : Addr} {fs : List (Str × V)} {k : Hp → Prop} (h : H a = some (.ins C dx fs)) (c : Cls K C) (n : NoAttr K C f) (l : fs.length < 1000) (q : k (upd H a (.ins C dx (putF f y fs)))) : setP K f y (.ref a) H k := ⟨a, C, dx, fs, rfl, h, c, n, l, q⟩
theorem r_make {H : Hp} {Q : VK} {σ : L2.St} {C : Addr} {sp : Sp} {E : XK} {t : TA} (h : t σ H fun vs H1 => ∀ x dx, H1 x = none → H1 dx = none → dx ≠ x → sp (.ref x :: (vs ++ [])) (upd (upd H1 dx (.own x)) x (.ins C dx [])) (fun v H2 => v = .non ∧ Q (.ref x) H2) E) : tMake C sp [] E t σ H Q := h
def objP (C : Addr) (m : Str) : V → Hp → (Hp → Prop) → Prop := fun x H1 k => ∃ a dx fs, x = .ref a ∧ H1 a = some (.ins C dx fs) ∧ fs.lookup m = none ∧ k H1
theorem r_meth {H : Hp} {Q : VK} {σ : L2.St} {C : Addr} {m : Str} {sp : Sp} {E : XK} {ta : TE} {t : TA} (h : ta σ H fun x H1 => objP C m x H1 fun H1 => t σ H1 fun vs H2 => sp (x :: (vs ++ [])) H2 Q E) : tMeth C m sp [] E ta t σ H Q := h
theorem r_objP {H : Hp} {m : Str} {a C dx : Addr} {fs : List (Str × V)} {k : Hp → Prop} (h : H a = some (.ins C dx fs)) (l : fs.lookup m = none) (q : k H) : objP C m (.ref a) H k := ⟨a, dx, fs, rfl, h, l, q⟩
theorem look_1 {f : Str} {v : V} {r : List (Str × V)} : List.lookup f ((f, v) :: r) = some v := by simp [List.lookup]
theorem look_s {f g : Str} {v : V} {r : List (Str × V)} (h : ¬ f = g) : List.lookup f ((g, v) :: r) = List.lookup f r := by
  have e : (f == g) = false := by simp [h]
  simp [List.lookup, e]
theorem look_0 {f : Str} : List.lookup f ([] : List (Str × V)) = none := rfl
theorem put_s {f g : Str} {v x : V} {r : List (Str × V)} (h : ¬ g = f) : putF f v ((g, x) :: r) = (g, x) :: putF f v r := if_neg h
theorem put_1 {f : Str} {v x : V} {r : List (Str × V)} : putF f v ((f, x) :: r) = (f, v) :: r := if_pos rfl
theorem put_0 {f : Str} {v : V} : putF f v [] = [(f, v)] := rfl
theorem cut_mid {xs : List V} {a b : Nat} (h : a ≤ b) : cutV xs (some (a : Int)) (some (b : Int)) = (xs.drop a).take (b - a) := by
  unfold cutV
  rw [HT.sIx_nat, HT.sIx_nat]
  by_cases h1 : b ≤ xs.length
  · rw [Nat.min_eq_left h1, Nat.min_eq_left (by omega)]
  · by_cases h2 : a ≤ xs.length
    · rw [Nat.min_eq_right (by omega), Nat.min_eq_left h2, List.take_of_length_le (by rw [List.length_drop]; omega), List.take_of_length_le (by rw [List.length_drop]; omega)]
    · rw [Nat.min_eq_right (by omega), Nat.min_eq_right (by omega), List.drop_length, List.drop_of_length_le (by omega)]
      simp
theorem c_pow {i j : Int} (h0 : 0 ≤ j) (h1 : j ≤ 1000000) (h2 : i.natAbs < 2 ^ 64) : CPow i j := ⟨h0, h1, h2⟩
theorem c_mulR {i j : Int} (h0 : -18446744073709551616 < j) (h1 : j < 18446744073709551616) : CMul i j := .inr ⟨h0, h1⟩
theorem c_mulL {i j : Int} (h0 : -18446744073709551616 < i) (h1 : i < 18446744073709551616) : CMul i j := .inl ⟨h0, h1⟩
theorem c_div {i j : Int} (h0 : 0 < j) (h1 : j < 1073741824) : CDiv i j := ⟨h0, h1⟩
theorem r_cut {D : Ends} {H : Hp} {σ : L2.St} {t u : TS} (Mid : L2.St → Hp → Prop) (h : t { D with nx := Mid } σ H) (k : ∀ σ' H', Mid σ' H' → u D σ' H') : C8.tCut t u D σ H := ⟨Mid, h, k⟩
theorem cut_to {xs : List V} {k : Nat} : cutV xs none (some (k : Int)) = xs.take k := by
  unfold cutV
  rw [HT.sIx_none, HT.sIx_nat, List.drop_zero, Nat.sub_zero]
  by_cases h : k ≤ xs.length
  · rw [Nat.min_eq_left h]
  · rw [Nat.min_eq_right (by omega), List.take_length, List.take_of_length_le (by omega)]
theorem cut_all {xs : List V} {k : Nat} (h : xs.length ≤ k) : cutV xs none (some (k : Int)) = xs := by
  rw [cut_to, List.take_of_length_le h]
theorem len4 {ns : List Int} (h : ns.length = 4) : ∃ a b c d, ns = [a, b, c, d] := by
  match ns, h with
  | [a, b, c, d], _ => exact ⟨a, b, c, d, rfl⟩
theorem len3 {ns : List Int} (h : ns.length = 3) : ∃ a b c, ns = [a, b, c] := by
  match ns, h with
  | [a, b, c], _ => exact ⟨a, b, c, rfl⟩
theorem len2 {ns : List Int} (h : ns.length = 2) : ∃ a b, ns = [a, b] := by
  match ns, h with
  | [a, b], _ => exact ⟨a, b, rfl⟩
theorem len7 {ns : List Int} (h : ns.length = 7) : ∃ a b c d e f g, ns = [a, b, c, d, e, f, g] := by
  match ns, h with
  | [a, b, c, d, e, f, g], _ => exact ⟨a, b, c, d, e, f, g, rfl⟩
theorem len6 {ns : List Int} (h : ns.length = 6) : ∃ a b c d e f, ns = [a, b, c, d, e, f] := by
  match ns, h with
  | [a, b, c, d, e, f], _ => exact ⟨a, b, c, d, e, f, rfl⟩
theorem r_take {K : PySem.W.Frag} {H : Hp} {Q : VK} {a : Addr} {ns : List Int} {k : Int} (n : Nat) (hk : k = (n : Int)) (h : SqL K H a (ns.map V.int)) (q : ∀ p H1, H p = none → Same H H1 → H1 p = some (.lst ((ns.take n).map V.int)) → Q (.ref p) H1) : rSlL K (.ref a) none (some k) H Q := by
  subst hk
  refine ⟨a, ns.map V.int, rfl, h, fun p hp => ?_⟩
  rw [cut_to, ← List.map_take]
  exact q p _ hp (s_upd hp) upd_same
/-- the script's first items: the whole of it -/
theorem r_script {K : PySem.W.Frag} {H : Hp} {Q : VK} {a : Addr} {ns : List Int} {k : Int} (hk : 63 ≤ k) (h : SqL K H a (ns.map V.int)) (hn : ns.length ≤ 63) (q : ∀ p H1, H p = none → Same H H1 → H1 p = some (.lst (ns.map V.int)) → Q (.ref p) H1) : rSlL K (.ref a) none (some k) H Q := by
  refine ⟨a, ns.map V.int, rfl, h, fun p hp => ?_⟩
  have e : k = ((k.toNat : Nat) : Int) := by omega
  rw [e, cut_all (by rw [List.length_map]; omega)]
  exact q p _ hp (s_upd hp) upd_same
/-! list facts -/
theorem at_map {ns : List Int} {i : Int} {j : Nat} {n : Int} (e : i = (j : Int)) (h : ns[j]? = some n) : atI (ns.map V.int) i = some (.int n) := by
  subst e
  exact atI_nat (by rw [List.getElem?_map, h]; rfl)
theorem at_lt {α : Type} {xs : List α} {i : Int} {j : Nat} (e : i = (j : Int)) (h : j < xs.length) : atI xs i = some xs[j] := by
  subst e
  exact atI_nat (List.getElem?_eq_getElem h)
theorem get_map {ns : List Int} {i : Nat} {x : V} (h : (ns.map V.int)[i]? = some x) : ∃ n, ns[i]? = some n ∧ x = .int n := by
  rw [List.getElem?_map] at h
  cases e : ns[i]? with
  | none => rw [e] at h; cases h
  | some z => rw [e] at h; exact ⟨z, rfl, (Option.some.inj h).symm⟩
theorem flat_ints (ns : List Int) : (ns.map V.int).all flatV = true := by
  rw [List.all_eq_true]; intro v hv; obtain ⟨n, _, rfl⟩ := List.mem_map.mp hv; rfl
theorem inV_ints (n : Int) (ns : List Int) : inV (.int n) (ns.map V.int) = dB (n ∈ ns) := by
  unfold inV
  induction ns with
  | nil => rw [dB_f (by simp)]; rfl
  | cons m r ih =>
    rw [List.map_cons, List.any_cons, ih]
    show ((m == n) || dB (n ∈ r)) = _
    by_cases h : m = n
    · subst h; rw [dB_t (List.mem_cons_self ..)]; simp
    · by_cases h2 : n ∈ r
      · rw [dB_t h2, dB_t (List.mem_cons_of_mem _ h2)]; simp
      · rw [dB_f h2, dB_f (fun z => by rcases List.mem_cons.mp z with z | z; exact h z.symm; exact h2 z)]; simp [h]
theorem r_inI {K : PySem.W.Frag} {H : Hp} {Q : VK} {p : Addr} {ns : List Int} {n : Int} (h : SqL K H p (ns.map V.int)) (q : Q (.bl (dB (n ∈ ns))) H) : rIn K false (.int n) (.ref p) H Q :=
  ⟨p, ns.map V.int, rfl, .inl h, rfl, flat_ints ns, by rw [inV_ints]; exact q⟩
theorem cut_from {xs : List V} {k : Nat} : cutV xs (some (k : Int)) none = xs.drop k := by
  unfold cutV
  rw [HT.sIx_none, HT.sIx_nat]
  by_cases h : k ≤ xs.length
  · rw [Nat.min_eq_left h, List.take_of_length_le (by rw [List.length_drop]; omega)]
  · rw [Nat.min_eq_right (by omega), List.drop_length, List.drop_of_length_le (by omega)]; simp
/-! any of ints -/
def rAnyI (K : PySem.W.Frag) : List V → Hp → VK → Prop := fun vs H Q => ∃ (a : Addr) (ns : List Int), vs = [V.ref a] ∧ SqL K H a (ns.map V.int) ∧ Q (.bl (ns.any (· != 0))) H
theorem truth_ints {prog : Program} {w : World} {A : Around} {ns : List Int} {its : List Value} (r : Vals (ns.map V.int) its) :
    TruthOf prog w A (fun i v => its.toArray[i]? = some v) (fun i => (ns.map (· != 0)).getD i false) := fun i v s Q E hv hq => by
  have hv' : its[i]? = some v := by simpa using hv
  have hl := r.length
  have hi : i < ns.length := by
    have := (List.getElem?_eq_some_iff.mp hv').1
    rw [List.length_map] at hl
    omega
  obtain ⟨u, hu, ru⟩ := r.get (i := i) (x := .int ns[i]) (by rw [List.getElem?_map, List.getElem?_eq_getElem hi]; rfl)
  rw [hv'] at hu
  cases hu
  obtain ⟨t, rfl⟩ := ru
  have hg : (ns.map (· != 0)).getD i false = (ns[i] != 0) := by rw [List.getD_eq_getElem?_getD, List.getElem?_map, List.getElem?_eq_getElem hi]; rfl
  have hq' : Q ((ns.map (· != 0)).getD i false) s := hq
  rw [hg] at hq'
  exact truthy_int hq'
theorem cr_anyI {X : Cx} (hc : X.calm = true) : CallR X (.builtin "any") (rAnyI X.K) := by
  intro pins s σ H vs us Q I r h
  obtain ⟨a, ns, rfl, hs, q⟩ := h
  obtain ⟨its, rv, hl, _⟩ := I.list hs
  rw [Vals.ref1 r]
  have hlen := rv.length
  rw [List.length_map] at hlen
  refine call_any_walk (iter_any hl.isList fun s₂ e2 st hne => ?_)
  subst e2
  refine ⟨_, _, _, _, _, _, _, rfl, Walks.list (A := X.A.in1) (I.ok.hd hc) _ a hne its.toArray, st, truth_ints rv, fun h' tk hk => ?_⟩
  refine ⟨.bl _, H, I.kept fun b o eo => hk b o (fun hmem => ?_) (Heap.get?_push_of_some _ eo), ?_, q⟩
  · rcases List.mem_cons.mp hmem with e1 | hmem
    · exact absurd (e1 ▸ Heap.lt_size eo) (Nat.lt_irrefl _)
    · cases hmem
  · show Value.bool _ = Value.bool _
    have e := L2.any_range (ns.map (· != 0))
    rw [List.any_map, List.length_map] at e
    rw [List.size_toArray, ← hlen, e]; rfl
theorem r_anyI {K : PySem.W.Frag} {H : Hp} {Q : VK} {a : Addr} {ns : List Int} (h : SqL K H a (ns.map V.int)) (q : Q (.bl (ns.any (· != 0))) H) : rAnyI K [.ref a] H Q := ⟨a, ns, rfl, h, q⟩
theorem r_isB {i j : Bool} {H : Hp} {Q : VK} (q : Q (.bl (dB (i = j))) H) : rIsB (.bl i) (.bl j) H Q := ⟨i, j, rfl, rfl, q⟩
theorem r_notB {i j : Bool} {H : Hp} {Q : VK} (q : Q (.bl (!dB (i = j))) H) : rNotB (.bl i) (.bl j) H Q := ⟨i, j, rfl, rfl, q⟩
theorem r_neL {H : Hp} {K : PySem.W.Frag} {Q : VK} {a b : Addr} {ns : List Int} (ha : SqL K H a (ns.map V.int)) (hb : SqL K H b (ns.map V.int)) (q : Q (.bl false) H) : rNeD K (.ref a) (.ref b) H Q :=
  ⟨_, _, .lst ha (dp_ints ns), .lst hb (dp_ints ns), shaped_ints ns, shaped_ints ns, by rw [eqv_ints]; exact q⟩
/-! ## what the top has written -/
def valsOk (us : Array Value) (xs : List V) : Bool := decide (us.size ≤ 100000) && decide (us.toList.mapM absV = some xs)
theorem rel_of {u : Value} {x : V} (h : absV u = some x) : RelV x u := by
  cases u <;> first | (cases h; rfl) | (cases h; exact ⟨_, rfl⟩) | (cases h)
theorem vals_of : ∀ {us : List Value} {xs : List V}, us.mapM absV = some xs → Vals xs us
  | [], xs, h => by
    have e : some [] = some xs := h
    cases e; exact .nil
  | u :: us, xs, h => by
    rw [List.mapM_cons] at h
    cases e1 : absV u with
    | none => rw [e1] at h; cases h
    | some x =>
      cases e2 : us.mapM absV with
      | none => rw [e1, e2] at h; cases h
      | some ys =>
        rw [e1, e2] at h
        have e : some (x :: ys) = some xs := h
        cases e
        exact .cons (rel_of e1) (vals_of e2)
theorem sqt_of {K : PySem.W.Frag} {H : Hp} {A : Addr} {dd : Option Addr} {its : Array Value} {n : Nat} {ss : Array (Option Value)} {xs : List V}
    (lk : K.lookup A = some ⟨.type "tuple", dd, .seq its n, ss⟩) (h : valsOk its xs = true) : SqT K H A xs := by
  unfold valsOk at h
  rw [Bool.and_eq_true] at h
  exact .inr ⟨_, its, n, lk, rfl, rfl, sz (of_decide_eq_true h.1), vals_of (of_decide_eq_true h.2)⟩
end Z

namespace Z
open PySem PySem.Spec PyProof.Rows L2
/-! ## nested tuples and dicts that the top has written -/
inductive Tr where
  | i (n : Int)
  | s (x : Str)
  | t (l : List Tr)
mutual
def okT (K : PySem.W.Frag) : Value → Tr → Bool
  | .int m _, .i n => decide (m = n)
  | .str y _, .s x => decide (y = x)
  | .ref a, .t l => match K.lookup a with
    | some ⟨.type "tuple", none, .seq its _, _⟩ => decide (its.size ≤ 100000) && okL K its.toList l
    | _ => false
  | _, _ => false
def okL (K : PySem.W.Frag) : List Value → List Tr → Bool
  | [], [] => true
  | v :: vs, t :: ts => okT K v t && okL K vs ts
  | _, _ => false
end
/-- what an item is -/
def VT (K : PySem.W.Frag) : V → Tr → Prop
  | .int m, .i n => m = n
  | .str y, .s x => y = x
  | .ref a, .t l => okT K (.ref a) (.t l) = true
  | _, _ => False
theorem okT_V {K : PySem.W.Frag} {v : Value} {t : Tr} (h : okT K v t = true) : ∃ x, RelV x v ∧ VT K x t := by
  cases t with
  | i n =>
    cases v with
    | int m t =>
      have z : m = n := of_decide_eq_true h
      exact ⟨.int m, ⟨t, rfl⟩, z⟩
    | _ => exact absurd (show false = true from h) Bool.false_ne_true
  | s y =>
    cases v with
    | str m t =>
      have z : m = y := of_decide_eq_true h
      exact ⟨.str m, ⟨t, rfl⟩, z⟩
    | _ => exact absurd (show false = true from h) Bool.false_ne_true
  | t l =>
    cases v with
    | ref a => exact ⟨.ref a, rfl, h⟩
    | _ => exact absurd (show false = true from h) Bool.false_ne_true
theorem okL_V {K : PySem.W.Frag} : ∀ {vs : List Value} {ts : List Tr}, okL K vs ts = true → ∃ xs : List V, Vals xs vs ∧ xs.length = ts.length ∧ ∀ (i : Nat) (c : Tr), ts[i]? = some c → ∃ x, xs[i]? = some x ∧ VT K x c
  | [], [], _ => ⟨[], .nil, rfl, fun i c h => by simp at h⟩
  | v :: vs, t :: ts, h => by
    unfold okL at h
    rw [Bool.and_eq_true] at h
    obtain ⟨x, r, q⟩ := okT_V h.1
    obtain ⟨xs, rs, hl, qs⟩ := okL_V h.2
    refine ⟨x :: xs, .cons r rs, by simp [hl], fun i c hi => ?_⟩
    match i with
    | 0 => simp at hi; subst hi; exact ⟨x, rfl, q⟩
    | i + 1 => exact qs i c (by simpa using hi)
  | [], _ :: _, h => by unfold okL at h; cases h
  | _ :: _, [], h => by unfold okL at h; cases h
theorem tr_tup {K : PySem.W.Frag} {a : Addr} {l : List Tr} (h : okT K (.ref a) (.t l) = true) :
    ∃ xs : List V, (∀ H, SqT K H a xs) ∧ xs.length = l.length ∧ (∀ (i : Nat) (c : Tr), l[i]? = some c → ∃ x, xs[i]? = some x ∧ VT K x c) ∧ ∀ H, tyV K "tuple" (.ref a) H := by
  unfold okT at h
  split at h
  · rename_i its n ss e
    rw [Bool.and_eq_true] at h
    obtain ⟨xs, rs, hl, q⟩ := okL_V h.2
    exact ⟨xs, fun H => .inr ⟨_, its, n, e, rfl, rfl, sz (of_decide_eq_true h.1), rs⟩, hl, q, fun H => .inr (.inl ⟨rfl, _, e, rfl, rfl⟩)⟩
  · cases h
theorem vt_i {K : PySem.W.Frag} {x : V} {n : Int} (h : VT K x (.i n)) : x = .int n := by
  cases x <;> first | (cases h; rfl) | cases h
theorem vt_s {K : PySem.W.Frag} {x : V} {y : Str} (h : VT K x (.s y)) : x = .str y := by
  cases x <;> first | (cases h; rfl) | cases h
theorem vt_t {K : PySem.W.Frag} {x : V} {l : List Tr} (h : VT K x (.t l)) : ∃ a, x = .ref a ∧ okT K (.ref a) (.t l) = true := by
  cases x <;> first | exact ⟨_, rfl, h⟩ | cases h
/-- t[i] of a written tuple -/
theorem r_tr {K : PySem.W.Frag} {H : Hp} {Q : VK} {a : Addr} {l : List Tr} {i : Int} {j : Nat} {c : Tr} (h : okT K (.ref a) (.t l) = true) (e : i = (j : Int)) (hc : l[j]? = some c) (q : ∀ x, VT K x c → Q x H) : rIxT K (.ref a) (.int i) H Q := by
  obtain ⟨xs, hs, _, hx, _⟩ := tr_tup h
  obtain ⟨x, e1, e2⟩ := hx j c hc
  subst e
  exact ⟨a, xs, j, x, rfl, rfl, hs H, atI_nat e1, q x e2⟩
theorem r_trI {K : PySem.W.Frag} {H : Hp} {Q : VK} {a : Addr} {l : List Tr} {i : Int} {j : Nat} {n : Int} (h : okT K (.ref a) (.t l) = true) (e : i = (j : Int)) (hc : l[j]? = some (.i n)) (q : Q (.int n) H) : rIxT K (.ref a) (.int i) H Q :=
  r_tr h e hc fun x hx => by rw [vt_i hx]; exact q
theorem r_trT {K : PySem.W.Frag} {H : Hp} {Q : VK} {a : Addr} {l m : List Tr} {i : Int} {j : Nat} (h : okT K (.ref a) (.t l) = true) (e : i = (j : Int)) (hc : l[j]? = some (.t m)) (q : ∀ b, okT K (.ref b) (.t m) = true → Q (.ref b) H) : rIxT K (.ref a) (.int i) H Q :=
  r_tr h e hc fun x hx => by obtain ⟨b, rfl, hb⟩ := vt_t hx; exact q b hb
/-- t.index(x) of a written tuple of texts -/
theorem tr_strs {K : PySem.W.Frag} {a : Addr} {ys : List Str} (h : okT K (.ref a) (.t (ys.map .s)) = true) : (∀ H, SqT K H a (ys.map V.str)) ∧ ∀ H, tyV K "tuple" (.ref a) H := by
  obtain ⟨xs, hs, hl, hx, ht⟩ := tr_tup h
  refine ⟨?_, ht⟩
  rw [show ys.map V.str = xs from ?_]; exact hs
  refine List.ext_getElem (by rw [hl, List.length_map, List.length_map]) fun i h1 h2 => ?_
  rw [List.length_map] at h1
  obtain ⟨x, e1, e2⟩ := hx i (.s ys[i]) (by rw [List.getElem?_map, List.getElem?_eq_getElem h1]; rfl)
  rw [vt_s e2, List.getElem?_eq_getElem h2] at e1
  rw [List.getElem_map]
  exact (Option.some.inj e1).symm
theorem r_tidx {K : PySem.W.Frag} {H : Hp} {Q : VK} {p : Addr} {ys : List Str} {z : Str} (j : Nat) (h : SqT K H p (ys.map V.str)) (e : ys[j]? = some z) (hn : ∀ m, m < j → ys[m]? ≠ some z) (q : Q (.int (j : Nat)) H) :
    ∃ p', ∃ ys : List Str, ∃ z' j, V.ref p = .ref p' ∧ [V.str z] = [.str z'] ∧ SqT K H p' (ys.map V.str) ∧ ys[j]? = some z' ∧ (∀ m, m < j → ys[m]? ≠ some z') ∧ Q (.int (j : Nat)) H := ⟨p, ys, z, j, rfl, rfl, h, e, hn, q⟩
/-- d[k] of a written dict -/
def KD (K : PySem.W.Frag) (w : World) (a : Addr) : Prop := ∃ es n, K.lookup a = some ⟨.type "dict", none, .dict es n, #[]⟩ ∧ PySem.W.KeysLit w.params es.toList
theorem r_kd {K : PySem.W.Frag} {w : World} {H : Hp} {Q : VK} {a : Addr} {z : Str} {u : Value} {v : V} (D : KD K w a) (h : PySem.W.nsIn K a z = some (some u)) (r : RelV v u) (q : Q v H) : rIxD K w (.ref a) (.str z) H Q := by
  obtain ⟨es, n, e, k⟩ := D
  exact ⟨a, z, v, rfl, rfl, ⟨es, n, u, e, k, h, r⟩, q⟩
theorem kd_mk {K : PySem.W.Frag} {w : World} {a : Addr} {es : Array DictEntry} {n : Nat} (e : K.lookup a = some ⟨.type "dict", none, .dict es n, #[]⟩) (k : PySem.W.KeysLit w.params es.toList) : KD K w a := ⟨es, n, e, k⟩
end Z

/-! ## the words: wtm_at "1" one step, "r" steps as far as they go, "h" a heap fact, "s" a side condition, "n" two addresses apart, "m" all that was tracked is as it was -/
local macro_rules | `(tactic| wtm_at "s") => `(tactic| first
  | (with_reducible assumption)
  | ((with_reducible refine Z.c_div ?_ ?_) <;> first | omega | decide)
  | ((with_reducible refine Z.c_mulR ?_ ?_) <;> first | omega | decide)
  | ((with_reducible refine Z.c_mulL ?_ ?_) <;> first | omega | decide)
  | ((with_reducible refine Z.c_pow ?_ ?_ ?_) <;> first | omega | decide)
  | omega | decide)
local macro_rules | `(tactic| wtm_at "n") => `(tactic| first
  | assumption | exact Ne.symm (by assumption)
  | exact Z.ne_of' (by assumption) (by wtm_at "h")
  | exact Ne.symm (Z.ne_of' (by assumption) (by wtm_at "h")))
local macro_rules | `(tactic| wtm_at "h") => `(tactic| with_reducible first
  | exact L2.upd_same
  | assumption
  | exact Eq.trans (L2.upd_ne (by wtm_at "n")) (by wtm_at "h")
  | exact Z.s_at (by assumption) (by wtm_at "h"))
local macro_rules | `(tactic| wtm_at "ql") => `(tactic| with_reducible first
  | assumption
  | exact Z.sq_l (by wtm_at "h")
  | exact Z.s_sq (by assumption) (by wtm_at "ql")
  | exact Z.s_sq (Z.s_upd (by assumption)) (by wtm_at "ql"))
local macro_rules | `(tactic| wtm_at "qt") => `(tactic| with_reducible first
  | assumption
  | exact Z.sq_t (by wtm_at "h")
  | exact Z.s_st (by assumption) (by wtm_at "qt")
  | exact Z.s_st (Z.s_upd (by assumption)) (by wtm_at "qt"))
local macro_rules | `(tactic| wtm_at "f") => `(tactic| with_reducible first
  | assumption
  | exact Z.s_back (by assumption) (by wtm_at "f"))
local macro_rules | `(tactic| wtm_at "m") => `(tactic| with_reducible first
  | exact L2.Same.refl _
  | assumption
  | exact L2.Same.trans (by wtm_at "m") (Z.s_upd (by assumption))
  | exact Z.s_mut (by wtm_at "m") (by wtm_at "f")
  | exact L2.Same.trans (by wtm_at "m") (by assumption))
local macro_rules | `(tactic| wtm_at "z") => `(tactic| first
  | (refine Z.szl ?_; simp only [List.length_map, List.length_append, List.length_cons, List.length_nil]; omega)
  | (refine Z.sz ?_; simp only [List.length_map, List.length_append, List.length_cons, List.length_nil]; omega))
local macro_rules | `(tactic| wtm_at "set") => `(tactic| (simp only [List.set_cons_zero, List.set_cons_succ]; rfl))
local macro_rules | `(tactic| wtm_at "1") => `(tactic| with_reducible first
  | refine Z.r_seq ?_ | refine Z.r_asg ?_
  | (refine' Z.r_gname ?c ?_; (case c => wtm_at "set"))
  | refine Z.r_v0 ?_ | refine Z.r_v1 ?_ | refine Z.r_v2 ?_ | refine Z.r_vS ?_ | refine Z.r_c ?_
  | refine Z.r_op ?_ | refine Z.r_lt ?_ | refine Z.r_le ?_ | refine Z.r_gt ?_ | refine Z.r_ge ?_ | refine Z.r_I0 ?_ | (refine' Z.r_I ?c ?_; (case c => wtm_at "s")) | refine Z.r_cons ?_ | refine Z.r_nil ?_
  | refine Z.r_eqI ?_ | refine Z.r_neI ?_ | refine Z.r_test ?_ | refine Z.r_bl ?_ | refine Z.r_if ?_
  | refine Z.r_cb ?_ | refine Z.r_call ?_ | refine Z.r_int ?_
  | refine Z.r_ret ?_ | refine Z.r_drop ?_ | refine Z.r_next ?_ | refine Z.r_brk ?_ | refine Z.r_cnt ?_ | refine Z.r_retN ?_
  | refine Z.i_t ?_ | refine Z.i_f ?_ | refine Z.i_nt ?_ | refine Z.i_nf ?_
  | refine Z.r_and ?_ | refine Z.r_or ?_ | refine Z.r_not ?_ | refine Z.r_andV ?_ | refine Z.r_orV ?_ | refine Z.r_notV ?_ | refine Z.r_tB ?_ | refine Z.r_ifE ?_
  | refine Z.r_chain ?_ | refine Z.r_un ?_ | refine Z.r_U ?_
  | refine Z.r_new ?_ | refine Z.r_tup ?_ | refine Z.r_bm ?_ | (refine' Z.ty_lst ?c ?_; (case c => wtm_at "ql"))
  | (refine' Z.r_append ?c ?d ?_; (case c => wtm_at "h"); (case d => wtm_at "z"))
  | (refine' Z.r_lenL ?c ?_; (case c => first | assumption | exact Z.sq_l (by assumption))) | (refine' Z.r_lenT ?c ?_; (case c => first | assumption | exact Z.sq_t (by assumption)))
  | (refine' Z.r_lenL ?c ?_; (case c => wtm_at "ql")) | (refine' Z.r_lenT ?c ?_; (case c => wtm_at "qt"))
  | refine Z.r_sl ?_ | refine Z.r_noPart ?_ | refine Z.r_part ?_ | refine Z.r_pint ?_
  | refine Z.r_isB ?_ | refine Z.r_notB ?_ | refine Z.r_eqB ?_ | refine Z.r_neB ?_ | refine Z.r_eqS ?_ | refine Z.r_neS ?_
  | refine Z.r_fld ?_ | refine Z.r_sfld ?_ | refine Z.r_make ?_ | refine Z.r_meth ?_ | refine Z.for_rng3 ?_ | refine Z.lc_rng3 ?_ | refine Z.lc_rng ?_ | refine Z.lc_rng2 ?_ | refine Z.lc_lst ?_ | refine Z.r_gsub ?_ | refine Z.for_enum ?_ | refine Z.r_intB ?_
  | refine Z.for_lst ?_ | refine Z.for_rng ?_ | refine Z.for_rng2 ?_)
local macro_rules | `(tactic| wtm_at "w") => `(tactic| simp only [L2.wipe, List.map_cons, List.map_nil, List.set_cons_zero, List.set_cons_succ])
local macro_rules | `(tactic| wtm_at "r") => `(tactic| repeat (wtm_at "1"))

namespace M_k30
open PySem PySem.Spec PyProof.Rows L2
def topS (i : Nat) : Stmt := PySem.Challenge.pw_dotfield_k30_tables.main.body.getD i (.Pass ⟨0, 0, 0, 0⟩)
abbrev s_count_bits : Stmt := (topS 4)
abbrev sl_count_bits : List Str := ["mode", "version"]
abbrev pl_count_bits : List Str := ["mode", "version"]
theorem sc_count_bits : FnScope sl_count_bits pl_count_bits (defScope s_count_bits) := ⟨rfl, rfl, rfl, by decide +kernel, rfl, by decide +kernel, by decide +kernel⟩
abbrev s_blocks_of : Stmt := (topS 7)
abbrev sl_blocks_of : List Str := ["version", "level"]
abbrev pl_blocks_of : List Str := ["version", "level"]
theorem sc_blocks_of : FnScope sl_blocks_of pl_blocks_of (defScope s_blocks_of) := ⟨rfl, rfl, rfl, by decide +kernel, rfl, by decide +kernel, by decide +kernel⟩
abbrev s_check_count : Stmt := (topS 5)
abbrev sl_check_count : List Str := ["version", "level"]
abbrev pl_check_count : List Str := ["version", "level"]
theorem sc_check_count : FnScope sl_check_count pl_check_count (defScope s_check_count) := ⟨rfl, rfl, rfl, by decide +kernel, rfl, by decide +kernel, by decide +kernel⟩
abbrev s_block_count : Stmt := (topS 6)
abbrev sl_block_count : List Str := ["version", "level"]
abbrev pl_block_count : List Str := ["version", "level"]
theorem sc_block_count : FnScope sl_block_count pl_block_count (defScope s_block_count) := ⟨rfl, rfl, rfl, by decide +kernel, rfl, by decide +kernel, by decide +kernel⟩
abbrev s_alignment : Stmt := (topS 13)
abbrev sl_alignment : List Str := ["version", "count", "last", "step", "k"]
abbrev pl_alignment : List Str := ["version"]
theorem sc_alignment : FnScope sl_alignment pl_alignment (defScope s_alignment) := ⟨rfl, rfl, rfl, by decide +kernel, rfl, by decide +kernel, by decide +kernel⟩
abbrev s_alignment_modules : Stmt := (topS 10)
abbrev sl_alignment_modules : List Str := ["version", "places", "patterns", "over_timing"]
abbrev pl_alignment_modules : List Str := ["version"]
theorem sc_alignment_modules : FnScope sl_alignment_modules pl_alignment_modules (defScope s_alignment_modules) := ⟨rfl, rfl, rfl, by decide +kernel, rfl, by decide +kernel, by decide +kernel⟩
abbrev s_data_modules : Stmt := (topS 9)
abbrev sl_data_modules : List Str := ["version", "side", "finders", "timing", "format_words_and_dark_module", "version_words", "functions"]
abbrev pl_data_modules : List Str := ["version"]
theorem sc_data_modules : FnScope sl_data_modules pl_data_modules (defScope s_data_modules) := ⟨rfl, rfl, rfl, by decide +kernel, rfl, by decide +kernel, by decide +kernel⟩
abbrev s_total_words : Stmt := (topS 8)
abbrev sl_total_words : List Str := ["version"]
abbrev pl_total_words : List Str := ["version"]
theorem sc_total_words : FnScope sl_total_words pl_total_words (defScope s_total_words) := ⟨rfl, rfl, rfl, by decide +kernel, rfl, by decide +kernel, by decide +kernel⟩
abbrev s_block_sizes : Stmt := (topS 11)
abbrev sl_block_sizes : List Str := ["version", "level", "words", "blocks", "longer", "size"]
abbrev pl_block_sizes : List Str := ["version", "level"]
theorem sc_block_sizes : FnScope sl_block_sizes pl_block_sizes (defScope s_block_sizes) := ⟨rfl, rfl, rfl, by decide +kernel, rfl, by decide +kernel, by decide +kernel⟩
abbrev s_data_words : Stmt := (topS 12)
abbrev sl_data_words : List Str := ["version", "level"]
abbrev pl_data_words : List Str := ["version", "level"]
theorem sc_data_words : FnScope sl_data_words pl_data_words (defScope s_data_words) := ⟨rfl, rfl, rfl, by decide +kernel, rfl, by decide +kernel, by decide +kernel⟩
abbrev s__law_cell : Stmt := (topS 15)
abbrev sl__law_cell : List Str := ["script", "k"]
abbrev pl__law_cell : List Str := ["script", "k"]
theorem sc__law_cell : FnScope sl__law_cell pl__law_cell (defScope s__law_cell) := ⟨rfl, rfl, rfl, by decide +kernel, rfl, by decide +kernel, by decide +kernel⟩
abbrev s__law_checks : Stmt := (topS 16)
abbrev sl__law_checks : List Str := ["level"]
abbrev pl__law_checks : List Str := ["level"]
theorem sc__law_checks : FnScope sl__law_checks pl__law_checks (defScope s__law_checks) := ⟨rfl, rfl, rfl, by decide +kernel, rfl, by decide +kernel, by decide +kernel⟩
abbrev s__law_blocks : Stmt := (topS 17)
abbrev sl__law_blocks : List Str := ["level"]
abbrev pl__law_blocks : List Str := ["level"]
theorem sc__law_blocks : FnScope sl__law_blocks pl__law_blocks (defScope s__law_blocks) := ⟨rfl, rfl, rfl, by decide +kernel, rfl, by decide +kernel, by decide +kernel⟩
abbrev s__law_alignment : Stmt := (topS 18)
abbrev sl__law_alignment : List Str := ["version", "many", "last", "step", "k"]
abbrev pl__law_alignment : List Str := ["version"]
theorem sc__law_alignment : FnScope sl__law_alignment pl__law_alignment (defScope s__law_alignment) := ⟨rfl, rfl, rfl, by decide +kernel, rfl, by decide +kernel, by decide +kernel⟩
abbrev s__law_words : Stmt := (topS 19)
abbrev sl__law_words : List Str := ["version", "size", "many", "taken"]
abbrev pl__law_words : List Str := ["version"]
theorem sc__law_words : FnScope sl__law_words pl__law_words (defScope s__law_words) := ⟨rfl, rfl, rfl, by decide +kernel, rfl, by decide +kernel, by decide +kernel⟩
abbrev s_law : Stmt := (topS 20)
abbrev sl_law : List Str := ["script", "version", "level", "checks", "many", "words", "due", "k", "found", "places", "group", "bits", "mode"]
abbrev pl_law : List Str := ["script"]
theorem sc_law : FnScope sl_law pl_law (defScope s_law) := ⟨rfl, rfl, rfl, by decide +kernel, rfl, by decide +kernel, by decide +kernel⟩
def ckT : List (List Nat) := [[7, 10, 15, 20, 26, 18, 20, 24, 30, 18, 20, 24, 26, 30, 22, 24, 28, 30, 28, 28, 28, 28, 30, 30, 26, 28, 30, 30, 30, 30, 30, 30, 30, 30, 30, 30, 30, 30, 30, 30], [10, 16, 26, 18, 24, 16, 18, 22, 22, 26, 30, 22, 22, 24, 24, 28, 28, 26, 26, 26, 26, 28, 28, 28, 28, 28, 28, 28, 28, 28, 28, 28, 28, 28, 28, 28, 28, 28, 28, 28], [13, 22, 18, 26, 18, 24, 18, 22, 20, 24, 28, 26, 24, 20, 30, 24, 28, 28, 26, 30, 28, 30, 30, 30, 30, 28, 30, 30, 30, 30, 30, 30, 30, 30, 30, 30, 30, 30, 30, 30], [17, 28, 22, 16, 22, 28, 26, 26, 24, 28, 24, 28, 22, 24, 24, 30, 28, 28, 26, 28, 30, 24, 30, 30, 30, 30, 30, 30, 30, 30, 30, 30, 30, 30, 30, 30, 30, 30, 30, 30]]
def bkT : List (List Nat) := [[1, 1, 1, 1, 1, 2, 2, 2, 2, 4, 4, 4, 4, 4, 6, 6, 6, 6, 7, 8, 8, 9, 9, 10, 12, 12, 12, 13, 14, 15, 16, 17, 18, 19, 19, 20, 21, 22, 24, 25], [1, 1, 1, 2, 2, 4, 4, 4, 5, 5, 5, 8, 9, 9, 10, 10, 11, 13, 14, 16, 17, 17, 18, 20, 21, 23, 25, 26, 28, 29, 31, 33, 35, 37, 38, 40, 43, 45, 47, 49], [1, 1, 2, 2, 4, 4, 6, 6, 8, 8, 8, 10, 12, 16, 12, 17, 16, 18, 21, 20, 23, 23, 25, 27, 29, 34, 34, 35, 38, 40, 43, 45, 48, 51, 53, 56, 59, 62, 65, 68], [1, 1, 2, 4, 4, 4, 5, 6, 8, 8, 11, 11, 16, 16, 18, 16, 19, 21, 25, 25, 25, 34, 30, 32, 35, 37, 40, 42, 45, 48, 51, 54, 57, 60, 63, 66, 70, 74, 77, 81]]
def ckN (v l : Nat) : Nat := (ckT.getD l []).getD (v - 1) 0
def bkN (v l : Nat) : Nat := (bkT.getD l []).getD (v - 1) 0
def lvs : List Str := ["L", "M", "Q", "H"]
def lvS (l : Nat) : Str := lvs.getD l ""
def lvTree : List Z.Tr := lvs.map .s
def rowT (v : Nat) : List Z.Tr := (List.range 4).map fun l => .t [.i (ckN (v + 1) l : Nat), .i (bkN (v + 1) l : Nat)]
def bkTree : List Z.Tr := (List.range 40).map fun v => .t (rowT v)
theorem bk_at {v : Nat} (h1 : 1 ≤ v) (h : v ≤ 40) : bkTree[v - 1]? = some (.t (rowT (v - 1))) := by
  unfold bkTree; rw [List.getElem?_map, List.getElem?_range (by omega)]; rfl
theorem row_at {v l : Nat} (h1 : 1 ≤ v) (h : l < 4) : (rowT (v - 1))[l]? = some (.t [.i (ckN v l : Nat), .i (bkN v l : Nat)]) := by
  unfold rowT; rw [List.getElem?_map, List.getElem?_range h, show v - 1 + 1 = v by omega]; rfl
theorem lv_ne : ∀ l, l < 4 → ∀ m, m < l → lvs[m]? ≠ some (lvS l) := by decide +kernel
theorem lv_at : ∀ l, l < 4 → lvs[l]? = some (lvS l) := by decide +kernel
theorem bk_pos : ∀ l, l < 4 → ∀ v, v < 40 → 0 < bkN (v + 1) l ∧ bkN (v + 1) l < 100 ∧ ckN (v + 1) l < 100 := by decide +kernel
theorem bk_pos' {v l : Nat} (h1 : 1 ≤ v) (h : v ≤ 40) (hl : l < 4) : 0 < bkN v l ∧ bkN v l < 100 ∧ ckN v l < 100 := by
  have := bk_pos l hl (v - 1) (by omega)
  rwa [show v - 1 + 1 = v by omega] at this
def modes : List Str := ["numeric", "alphanumeric", "byte"]
def cbT : List (List Nat) := [[10, 12, 14], [9, 11, 13], [8, 16, 16]]

def grp (v : Nat) : Nat := if v < 10 then 0 else if v < 27 then 1 else 2
def cbN (m v : Nat) : Nat := (cbT.getD m []).getD (grp v) 0
def cbTree (m : Nat) : Z.Tr := .t ((cbT.getD m []).map fun n => .i (n : Nat))
theorem tri_at {l : List Nat} {g : Nat} (h : g < l.length) : (l.map fun n : Nat => Z.Tr.i (n : Nat))[g]? = some (.i (l.getD g 0 : Nat)) := by
  rw [List.getElem?_map, List.getD_eq_getElem?_getD, List.getElem?_eq_getElem h]; rfl
theorem cb_len : ∀ m, m < 3 → (cbT.getD m []).length = 3 := by decide +kernel
theorem cb_at (m : Nat) (hm : m < 3) (g : Nat) (hg : g < 3) : ((cbT.getD m []).map fun n : Nat => Z.Tr.i (n : Nat))[g]? = some (.i ((cbT.getD m []).getD g 0 : Nat)) := tri_at (by rw [cb_len m hm]; exact hg)
def cntA (v : Int) : Int := v / 7 + 2
def stepA (v : Int) : Int := if v = 32 then 26 else (4 * v + 2 * cntA v + 1) / (2 * cntA v - 2) * 2
def alN (v : Int) : List Int := if v = 1 then [] else 6 :: (List.range (cntA v - 1).toNat).map fun k : Nat => 4 * v + 10 - stepA v * (cntA v - 2 - (k : Int))
theorem al_len {v : Int} (h1 : 1 ≤ v) (h : v ≤ 40) : ((alN v).length : Int) = if v = 1 then 0 else cntA v := by
  unfold alN
  split
  · rfl
  · rw [List.length_cons, List.length_map, List.length_range]
    unfold cntA
    omega
def takA (v : Int) : Int := 192 + 2 * (17 + 4 * v - 16) + 31 + (if 7 ≤ v then 36 else 0) + (if v = 1 then 0 else 25 * (cntA v * cntA v - 3) - 10 * (cntA v - 2))
def twN (v : Int) : Int := ((17 + 4 * v) * (17 + 4 * v) - takA v) / 8
theorem tw_lim : ∀ v, v < 40 → 0 ≤ twN ((v + 1 : Nat) : Int) ∧ twN ((v + 1 : Nat) : Int) < 4000 := by decide +kernel
theorem tw_lim' {v : Nat} (h1 : 1 ≤ v) (h : v ≤ 40) : 0 ≤ twN (v : Int) ∧ twN (v : Int) < 4000 := by
  have := tw_lim (v - 1) (by omega)
  rwa [show v - 1 + 1 = v by omega] at this
theorem st_lim : ∀ v, v < 40 → 0 ≤ stepA ((v + 1 : Nat) : Int) ∧ stepA ((v + 1 : Nat) : Int) < 100 := by decide +kernel
theorem st_lim' {v : Nat} (h1 : 1 ≤ v) (h : v ≤ 40) : 0 ≤ stepA (v : Int) ∧ stepA (v : Int) < 100 := by
  have := st_lim (v - 1) (by omega)
  rwa [show v - 1 + 1 = v by omega] at this
def szN (v l : Nat) : List Int := List.replicate (bkN v l - (twN v % (bkN v l : Nat)).toNat) (twN v / (bkN v l : Nat) - (ckN v l : Nat)) ++ List.replicate (twN v % (bkN v l : Nat)).toNat (twN v / (bkN v l : Nat) - (ckN v l : Nat) + 1)
theorem sum_rep (x : Int) : ∀ n : Nat, (List.replicate n x).sum = (n : Int) * x
  | 0 => by simp
  | n + 1 => by rw [List.replicate_succ, List.sum_cons, sum_rep x n, Int.natCast_succ, Int.add_mul]; omega
theorem sz_sum {v l : Nat} (h1 : 1 ≤ v) (h : v ≤ 40) (hl : l < 4) : (szN v l).sum = twN v - (bkN v l : Nat) * (ckN v l : Nat) := by
  have hb := bk_pos' h1 h hl
  have ht := tw_lim' h1 h
  have hr0 := Int.emod_nonneg (twN v) (show ((bkN v l : Nat) : Int) ≠ 0 by omega)
  have hr1 := Int.emod_lt_of_pos (twN v) (show (0 : Int) < ((bkN v l : Nat) : Int) by omega)
  have hd := Int.emod_add_mul_ediv (twN v) ((bkN v l : Nat) : Int)
  unfold szN
  rw [List.sum_append, sum_rep, sum_rep]
  rw [show ((bkN v l - (twN v % ((bkN v l : Nat) : Int)).toNat : Nat) : Int) = ((bkN v l : Nat) : Int) - twN v % ((bkN v l : Nat) : Int) by omega, show (((twN v % ((bkN v l : Nat) : Int)).toNat : Nat) : Int) = twN v % ((bkN v l : Nat) : Int) by omega]
  generalize twN v % ((bkN v l : Nat) : Int) = r at *
  generalize twN v / ((bkN v l : Nat) : Int) = d at *
  generalize ((bkN v l : Nat) : Int) = b at *
  generalize ((ckN v l : Nat) : Int) = c at *
  grind
structure Top (K : PySem.W.Frag) (mg : Str → Option Value) (w : World) where
  a_count_bits : Addr
  d_count_bits : FuncData
  F_count_bits : Fun K "count_bits" "count_bits" s_count_bits a_count_bits d_count_bits
  b_count_bits : Binds K d_count_bits pl_count_bits []
  g_count_bits : mg "count_bits" = some (.ref a_count_bits)
  a_blocks_of : Addr
  d_blocks_of : FuncData
  F_blocks_of : Fun K "blocks_of" "blocks_of" s_blocks_of a_blocks_of d_blocks_of
  b_blocks_of : Binds K d_blocks_of pl_blocks_of []
  g_blocks_of : mg "blocks_of" = some (.ref a_blocks_of)
  a_check_count : Addr
  d_check_count : FuncData
  F_check_count : Fun K "check_count" "check_count" s_check_count a_check_count d_check_count
  b_check_count : Binds K d_check_count pl_check_count []
  g_check_count : mg "check_count" = some (.ref a_check_count)
  a_block_count : Addr
  d_block_count : FuncData
  F_block_count : Fun K "block_count" "block_count" s_block_count a_block_count d_block_count
  b_block_count : Binds K d_block_count pl_block_count []
  g_block_count : mg "block_count" = some (.ref a_block_count)
  a_alignment : Addr
  d_alignment : FuncData
  F_alignment : Fun K "alignment" "alignment" s_alignment a_alignment d_alignment
  b_alignment : Binds K d_alignment pl_alignment []
  g_alignment : mg "alignment" = some (.ref a_alignment)
  a_alignment_modules : Addr
  d_alignment_modules : FuncData
  F_alignment_modules : Fun K "alignment_modules" "alignment_modules" s_alignment_modules a_alignment_modules d_alignment_modules
  b_alignment_modules : Binds K d_alignment_modules pl_alignment_modules []
  g_alignment_modules : mg "alignment_modules" = some (.ref a_alignment_modules)
  a_data_modules : Addr
  d_data_modules : FuncData
  F_data_modules : Fun K "data_modules" "data_modules" s_data_modules a_data_modules d_data_modules
  b_data_modules : Binds K d_data_modules pl_data_modules []
  g_data_modules : mg "data_modules" = some (.ref a_data_modules)
  a_total_words : Addr
  d_total_words : FuncData
  F_total_words : Fun K "total_words" "total_words" s_total_words a_total_words d_total_words
  b_total_words : Binds K d_total_words pl_total_words []
  g_total_words : mg "total_words" = some (.ref a_total_words)
  a_block_sizes : Addr
  d_block_sizes : FuncData
  F_block_sizes : Fun K "block_sizes" "block_sizes" s_block_sizes a_block_sizes d_block_sizes
  b_block_sizes : Binds K d_block_sizes pl_block_sizes []
  g_block_sizes : mg "block_sizes" = some (.ref a_block_sizes)
  a_data_words : Addr
  d_data_words : FuncData
  F_data_words : Fun K "data_words" "data_words" s_data_words a_data_words d_data_words
  b_data_words : Binds K d_data_words pl_data_words []
  g_data_words : mg "data_words" = some (.ref a_data_words)
  a__law_cell : Addr
  d__law_cell : FuncData
  F__law_cell : Fun K "_law_cell" "_law_cell" s__law_cell a__law_cell d__law_cell
  b__law_cell : Binds K d__law_cell pl__law_cell []
  g__law_cell : mg "_law_cell" = some (.ref a__law_cell)
  a__law_checks : Addr
  d__law_checks : FuncData
  F__law_checks : Fun K "_law_checks" "_law_checks" s__law_checks a__law_checks d__law_checks
  b__law_checks : Binds K d__law_checks pl__law_checks []
  g__law_checks : mg "_law_checks" = some (.ref a__law_checks)
  a__law_blocks : Addr
  d__law_blocks : FuncData
  F__law_blocks : Fun K "_law_blocks" "_law_blocks" s__law_blocks a__law_blocks d__law_blocks
  b__law_blocks : Binds K d__law_blocks pl__law_blocks []
  g__law_blocks : mg "_law_blocks" = some (.ref a__law_blocks)
  a__law_alignment : Addr
  d__law_alignment : FuncData
  F__law_alignment : Fun K "_law_alignment" "_law_alignment" s__law_alignment a__law_alignment d__law_alignment
  b__law_alignment : Binds K d__law_alignment pl__law_alignment []
  g__law_alignment : mg "_law_alignment" = some (.ref a__law_alignment)
  a__law_words : Addr
  d__law_words : FuncData
  F__law_words : Fun K "_law_words" "_law_words" s__law_words a__law_words d__law_words
  b__law_words : Binds K d__law_words pl__law_words []
  g__law_words : mg "_law_words" = some (.ref a__law_words)
  a_law : Addr
  d_law : FuncData
  F_law : Fun K "law" "law" s_law a_law d_law
  b_law : Binds K d_law pl_law []
  g_law : mg "law" = some (.ref a_law)
  a_LEVELS : Addr
  m_LEVELS : mg "LEVELS" = some (.ref a_LEVELS)
  t_LEVELS : Z.okT K (.ref a_LEVELS) (.t lvTree) = true
  a_BLOCKS : Addr
  m_BLOCKS : mg "BLOCKS" = some (.ref a_BLOCKS)
  t_BLOCKS : Z.okT K (.ref a_BLOCKS) (.t bkTree) = true
  a_COUNT_BITS : Addr
  m_COUNT_BITS : mg "COUNT_BITS" = some (.ref a_COUNT_BITS)
  d_COUNT_BITS : Z.KD K w a_COUNT_BITS
  u_COUNT_BITS_0 : Value
  k_COUNT_BITS_0 : PySem.W.nsIn K a_COUNT_BITS "numeric" = some (some u_COUNT_BITS_0)
  t_COUNT_BITS_0 : Z.okT K u_COUNT_BITS_0 (cbTree 0) = true
  u_COUNT_BITS_1 : Value
  k_COUNT_BITS_1 : PySem.W.nsIn K a_COUNT_BITS "alphanumeric" = some (some u_COUNT_BITS_1)
  t_COUNT_BITS_1 : Z.okT K u_COUNT_BITS_1 (cbTree 1) = true
  u_COUNT_BITS_2 : Value
  k_COUNT_BITS_2 : PySem.W.nsIn K a_COUNT_BITS "byte" = some (some u_COUNT_BITS_2)
  t_COUNT_BITS_2 : Z.okT K u_COUNT_BITS_2 (cbTree 2) = true
  n_range : mg "range" = none
  n_len : mg "len" = none
  n_sum : mg "sum" = none
  n_int : mg "int" = none
  n_isinstance : mg "isinstance" = none
  n_list : mg "list" = none
section
variable {P : Program} {w : World} {K : PySem.W.Frag} {mg : Str → Option Value} {base : Heap}
def sp_count_bits (K : PySem.W.Frag) : Sp := fun vs H Q _ => ∃ (m v : Nat), vs = [.str (modes.getD m ""), .int v] ∧ m < 3 ∧ 1 ≤ v ∧ v ≤ 40 ∧ Q (.int (cbN m v : Nat)) H
set_option maxHeartbeats 2000000 in
theorem ok_count_bits (T : Top K mg w) : FnOk P w K mg base CX0 1 T.a_count_bits T.d_count_bits pl_count_bits (sp_count_bits K) := by
  refine T.F_count_bits.ok sc_count_bits (fun vs H Q E h => ?_) (fun cdv A outer s H vs Q E hr h => ?_)
  · obtain ⟨m, v, rfl, _⟩ := h
    rfl
  · obtain ⟨m, v, rfl, hm, h1, h40, q⟩ := h
    have hu := hu_of hr
    refine ⟨_, (pss_cons (ps_if (pt_cmpR op_lt (pv 1) pe_int (nomark _)) (pss_one (ps_ret (pe_ix (show IxR _ (rIxT K) from ix_tup) (pe_ix (show IxR _ (rIxD K w) from ix_kdict) (pe_glob (v := .ref T.a_COUNT_BITS) (u := .ref T.a_COUNT_BITS) rfl T.m_COUNT_BITS rfl) (pv 0) (fun _ _ => rfl)) pe_int (fun _ _ => rfl)))) pss_nil)
      (pss_cons (ps_if (pt_cmpR op_lt (pv 1) pe_int (nomark _)) (pss_one (ps_ret (pe_ix (show IxR _ (rIxT K) from ix_tup) (pe_ix (show IxR _ (rIxD K w) from ix_kdict) (pe_glob (v := .ref T.a_COUNT_BITS) (u := .ref T.a_COUNT_BITS) rfl T.m_COUNT_BITS rfl) (pv 0) (fun _ _ => rfl)) pe_int (fun _ _ => rfl)))) pss_nil)
      (pss_one (ps_ret (pe_ix (show IxR _ (rIxT K) from ix_tup) (pe_ix (show IxR _ (rIxD K w) from ix_kdict) (pe_glob (v := .ref T.a_COUNT_BITS) (u := .ref T.a_COUNT_BITS) rfl T.m_COUNT_BITS rfl) (pv 0) (fun _ _ => rfl)) pe_int (fun _ _ => rfl)))))), ?_⟩
    show (_ : L2.TS) _ [some _, some _] H
    try simp only [Z.kx]
    have key : ∀ (k : VK), (∀ b, Z.okT K (.ref b) (.t ((cbT.getD m []).map fun n : Nat => Z.Tr.i (n : Nat))) = true → k (.ref b) H) → rIxD K w (.ref T.a_COUNT_BITS) (.str (modes.getD m "")) H k := by
      intro k hk
      match m, hm with
      | 0, _ =>
        obtain ⟨y, ry, vy⟩ := Z.okT_V T.t_COUNT_BITS_0
        refine Z.r_kd T.d_COUNT_BITS T.k_COUNT_BITS_0 ry ?_
        obtain ⟨b, rfl, hb⟩ := Z.vt_t vy
        exact hk b hb
      | 1, _ =>
        obtain ⟨y, ry, vy⟩ := Z.okT_V T.t_COUNT_BITS_1
        refine Z.r_kd T.d_COUNT_BITS T.k_COUNT_BITS_1 ry ?_
        obtain ⟨b, rfl, hb⟩ := Z.vt_t vy
        exact hk b hb
      | 2, _ =>
        obtain ⟨y, ry, vy⟩ := Z.okT_V T.t_COUNT_BITS_2
        refine Z.r_kd T.d_COUNT_BITS T.k_COUNT_BITS_2 ry ?_
        obtain ⟨b, rfl, hb⟩ := Z.vt_t vy
        exact hk b hb
    wtm_at "r"
    with_reducible refine Z.i_2 (fun h => ?_) (fun h => ?_)
    · have e : cbN m v = (cbT.getD m []).getD 0 0 := by unfold cbN grp; rw [if_pos (by omega)]
      rw [e] at q
      wtm_at "r"
      refine key _ fun b hb => ?_
      wtm_at "r"
      refine Z.r_trI hb (j := 0) rfl (cb_at m hm 0 (by decide)) ?_
      wtm_at "r"
      exact q
    · wtm_at "r"
      with_reducible refine Z.i_2 (fun h2 => ?_) (fun h2 => ?_)
      · have e : cbN m v = (cbT.getD m []).getD 1 0 := by unfold cbN grp; rw [if_neg (by omega), if_pos (by omega)]
        rw [e] at q
        wtm_at "r"
        refine key _ fun b hb => ?_
        wtm_at "r"
        refine Z.r_trI hb (j := 1) rfl (cb_at m hm 1 (by decide)) ?_
        wtm_at "r"
        exact q
      · have e : cbN m v = (cbT.getD m []).getD 2 0 := by unfold cbN grp; rw [if_neg (by omega), if_neg (by omega)]
        rw [e] at q
        wtm_at "r"
        refine key _ fun b hb => ?_
        wtm_at "r"
        refine Z.r_trI hb (j := 2) rfl (cb_at m hm 2 (by decide)) ?_
        wtm_at "r"
        exact q
def sp_blocks_of (K : PySem.W.Frag) : Sp := fun vs H Q _ => ∃ (v l : Nat), vs = [.int v, .str (lvS l)] ∧ 1 ≤ v ∧ v ≤ 40 ∧ l < 4 ∧ ∀ b, Z.okT K (.ref b) (.t [.i (ckN v l : Nat), .i (bkN v l : Nat)]) = true → Q (.ref b) H
set_option maxHeartbeats 2000000 in
theorem ok_blocks_of (T : Top K mg w) : FnOk P w K mg base CX0 1 T.a_blocks_of T.d_blocks_of pl_blocks_of (sp_blocks_of K) := by
  refine T.F_blocks_of.ok sc_blocks_of (fun vs H Q E h => ?_) (fun cdv A outer s H vs Q E hr h => ?_)
  · obtain ⟨v, l, rfl, _⟩ := h
    rfl
  · obtain ⟨v, l, rfl, h1, h40, hl, q⟩ := h
    have hu := hu_of hr
    refine ⟨_, (pss_one (ps_ret (pe_ix (show IxR _ (rIxT K) from ix_tup) (pe_ix (show IxR _ (rIxT K) from ix_tup) (pe_glob (v := .ref T.a_BLOCKS) (u := .ref T.a_BLOCKS) rfl T.m_BLOCKS rfl) (pe_op op_sub (pv 0) pe_int) (fun _ _ => rfl)) (pe_bm PySem.F.plainAttrs_tuple PySem.F.slot_tuple_index PySem.F.type_tuple_index mt_tup_index (pe_glob (v := .ref T.a_LEVELS) (u := .ref T.a_LEVELS) rfl T.m_LEVELS rfl) (pa_cons (pv 1) pa_nil)) (fun _ _ => rfl)))), ?_⟩
    show (_ : L2.TS) _ [some _, some _] H
    try simp only [Z.kx]
    wtm_at "r"
    refine Z.r_trT T.t_BLOCKS (j := v - 1) (by omega) (bk_at h1 h40) fun b hb => ?_
    wtm_at "r"
    refine ⟨(Z.tr_strs (ys := lvs) T.t_LEVELS).2 _, ?_⟩
    wtm_at "r"
    refine ⟨_, lvs, _, l, rfl, rfl, (Z.tr_strs (ys := lvs) T.t_LEVELS).1 _, lv_at l hl, lv_ne l hl, ?_⟩
    refine Z.r_trT hb (j := l) rfl (row_at h1 hl) fun c hc => ?_
    wtm_at "r"
    exact q c hc
def sp_check_count (K : PySem.W.Frag) : Sp := fun vs H Q _ => ∃ (v l : Nat), vs = [.int v, .str (lvS l)] ∧ 1 ≤ v ∧ v ≤ 40 ∧ l < 4 ∧ Q (.int (ckN v l : Nat)) H
set_option maxHeartbeats 2000000 in
theorem ok_check_count (T : Top K mg w) : FnOk P w K mg base CX0 2 T.a_check_count T.d_check_count pl_check_count (sp_check_count K) := by
  refine T.F_check_count.ok sc_check_count (fun vs H Q E h => ?_) (fun cdv A outer s H vs Q E hr h => ?_)
  · obtain ⟨v, l, rfl, _⟩ := h
    rfl
  · obtain ⟨v, l, rfl, h1, h40, hl, q⟩ := h
    have hu := hu_of hr
    refine ⟨_, (pss_one (ps_ret (pe_ix (show IxR _ (rIxT K) from ix_tup) (pe_call (ok_blocks_of T) (hr.mono (by decide)) (by rfl) T.g_blocks_of T.F_blocks_of.kp T.b_blocks_of .nil pass0 (pa_cons (pv 0) (pa_cons (pv 1) pa_nil))) pe_int (fun _ _ => rfl)))), ?_⟩
    show (_ : L2.TS) _ [some _, some _] H
    try simp only [Z.kx]
    wtm_at "r"
    refine ⟨v, l, rfl, h1, h40, hl, fun b hb => ?_⟩
    wtm_at "r"
    refine Z.r_trI hb (j := 0) rfl rfl ?_
    wtm_at "r"
    exact q
def sp_block_count (K : PySem.W.Frag) : Sp := fun vs H Q _ => ∃ (v l : Nat), vs = [.int v, .str (lvS l)] ∧ 1 ≤ v ∧ v ≤ 40 ∧ l < 4 ∧ Q (.int (bkN v l : Nat)) H
set_option maxHeartbeats 2000000 in
theorem ok_block_count (T : Top K mg w) : FnOk P w K mg base CX0 2 T.a_block_count T.d_block_count pl_block_count (sp_block_count K) := by
  refine T.F_block_count.ok sc_block_count (fun vs H Q E h => ?_) (fun cdv A outer s H vs Q E hr h => ?_)
  · obtain ⟨v, l, rfl, _⟩ := h
    rfl
  · obtain ⟨v, l, rfl, h1, h40, hl, q⟩ := h
    have hu := hu_of hr
    refine ⟨_, (pss_one (ps_ret (pe_ix (show IxR _ (rIxT K) from ix_tup) (pe_call (ok_blocks_of T) (hr.mono (by decide)) (by rfl) T.g_blocks_of T.F_blocks_of.kp T.b_blocks_of .nil pass0 (pa_cons (pv 0) (pa_cons (pv 1) pa_nil))) pe_int (fun _ _ => rfl)))), ?_⟩
    show (_ : L2.TS) _ [some _, some _] H
    try simp only [Z.kx]
    wtm_at "r"
    refine ⟨v, l, rfl, h1, h40, hl, fun b hb => ?_⟩
    wtm_at "r"
    refine Z.r_trI hb (j := 1) rfl rfl ?_
    wtm_at "r"
    exact q
def sp_alignment (K : PySem.W.Frag) : Sp := fun vs H Q _ => ∃ (v : Nat), vs = [.int v] ∧ 1 ≤ v ∧ v ≤ 40 ∧ ∀ (p : Addr) (H1 : Hp), Same H H1 → H p = none → H1 p = some (.lst ((alN v).map V.int)) → Q (.ref p) H1
set_option maxHeartbeats 2000000 in
theorem ok_alignment (T : Top K mg w) : FnOk P w K mg base CX0 1 T.a_alignment T.d_alignment pl_alignment (sp_alignment K) := by
  refine T.F_alignment.ok sc_alignment (fun vs H Q E h => ?_) (fun cdv A outer s H vs Q E hr h => ?_)
  · obtain ⟨v, rfl, _⟩ := h
    rfl
  · obtain ⟨v, rfl, h1, h40, q⟩ := h
    have hu := hu_of hr
    refine ⟨_, (pss_cons (ps_if (pt_cmpR op_eq (pv 0) pe_int (nomark _)) (pss_one (ps_ret (pe_lst pa_nil))) pss_nil)
      (pss_cons (ps_set (i := 1) sc_alignment.nd rfl (Or.inl rfl) (pe_op op_add (pe_op op_fdiv (pv 0) pe_int) pe_int))
      (pss_cons (ps_set (i := 2) sc_alignment.nd rfl (Or.inr rfl) (pe_op op_add (pe_op op_mul pe_int (pv 0)) pe_int))
      (C8.pss_cut (ps_set (i := 3) sc_alignment.nd rfl (Or.inr rfl) (pe_ifExp (pt_cmpR op_eq (pv 0) pe_int (nomark _)) pe_int (pe_op op_mul (pe_op op_fdiv (pe_op op_add (pe_op op_add (pe_op op_mul pe_int (pv 0)) (pe_op op_mul pe_int (pv 1))) pe_int) (pe_op op_sub (pe_op op_mul pe_int (pv 1)) pe_int)) pe_int)))
      (pss_one (ps_ret (pe_op op_cat (pe_lst (pa_cons pe_int pa_nil)) (pe_lc (own := [("k", 4)]) (tt := tYes) rfl sc_alignment.nd (pi_range3 rfl T.n_range (pa_cons (pe_op op_sub (pv 1) pe_int) (pa_cons (pe_un un_neg pe_int) (pa_cons (pe_un un_neg pe_int) pa_nil)))) (blkOk_by (N := sl_alignment) (sc := defScope s_alignment) (by decide +kernel)) (fun _ _ _ _ _ => (pg_name (i := 4) sc_alignment.nd rfl (Or.inl rfl))) (fun _ _ _ _ _ => pts_nil) (fun _ _ _ _ _ => (pe_op op_sub (pv 2) (pe_op op_mul (pv 3) (pv 4)))))))))))), ?_⟩
    show (_ : L2.TS) _ [some _, none, none, none, none] H
    try simp only [Z.kx]
    have hst := st_lim' h1 h40
    wtm_at "r"
    with_reducible refine Z.i_2 (fun h => ?_) (fun h => ?_)
    · wtm_at "r"
      refine ⟨by show 0 ≤ sizeLine; decide, fun p hp => ?_⟩
      refine q p _ (Z.s_upd hp) hp ?_
      rw [show alN v = [] by unfold alN; rw [if_pos (by omega)]]
      exact L2.upd_same
    · wtm_at "r"
      refine Z.r_cut (fun σ H2 => σ = [some (.int v), some (.int (cntA v)), some (.int (4 * (v : Int) + 10)), some (.int (stepA v)), none] ∧ H2 = H) ?_ ?_
      · wtm_at "r"
        with_reducible refine Z.i_2 (fun h => ?_) (fun h => ?_)
        · wtm_at "r"
          refine ⟨?_, rfl⟩
          rw [show stepA v = 26 by unfold stepA; rw [if_pos (by omega)]]; rfl
        · wtm_at "r"
          refine ⟨?_, rfl⟩
          rw [show stepA v = (4 * (v : Int) + 2 * cntA v + 1) / (2 * cntA v - 2) * 2 by unfold stepA; rw [if_neg (by omega)]]; rfl
      rintro σ H2 ⟨rfl, rfl⟩
      have hc : cntA v = (v : Int) / 7 + 2 := rfl
      wtm_at "r"
      refine ⟨by show 1 ≤ sizeLine; decide, fun o ho => ?_⟩
      wtm_at "r"
      refine Z.lcr3_pure (cntA v - 1).toNat (fun i => V.int (4 * (v : Int) + 10 - stepA v * (cntA v - 2 - (i : Int)))) (by have := RgC.neg (i := cntA v - 2) (j := -1) (by omega) (by omega) (by omega) (by omega); rw [show (cntA v - 2 - -1).toNat = (cntA v - 1).toNat by omega] at this; exact this) (by omega) (fun _ => rfl) ?_ ?_
      · intro i H5 hi s5 k kq
        wtm_at "w"
        wtm_at "r"
        rw [show cntA v - 2 + (i : Int) * -1 = cntA v - 2 - (i : Int) by omega]
        exact kq _ (Same.refl _)
      · intro D H5 hD s5 hl5
        refine Z.r_cat (s5 _ _ L2.upd_same) hl5 (by rw [List.length_map, List.length_range]; show 1 + _ ≤ 100000; omega) (fun p hp => ?_)
        refine q p _ ((Z.s_upd ho).trans (s5.trans (Z.s_upd hp))) (Z.s_back ((Z.s_upd ho).trans s5) hp) ?_
        rw [L2.upd_same, show alN v = 6 :: (List.range (cntA v - 1).toNat).map fun k : Nat => 4 * (v : Int) + 10 - stepA v * (cntA v - 2 - (k : Int)) by unfold alN; rw [if_neg (by omega)], List.map_cons, List.map_map]
        rfl
def sp_alignment_modules (K : PySem.W.Frag) : Sp := fun vs H Q _ => ∃ (v : Nat), vs = [.int v] ∧ 1 ≤ v ∧ v ≤ 40 ∧ ∀ H1, Same H H1 → Q (.int (if (v : Int) = 1 then 0 else 25 * (cntA v * cntA v - 3) - 10 * (cntA v - 2))) H1
set_option maxHeartbeats 2000000 in
theorem ok_alignment_modules (T : Top K mg w) : FnOk P w K mg base CX0 2 T.a_alignment_modules T.d_alignment_modules pl_alignment_modules (sp_alignment_modules K) := by
  refine T.F_alignment_modules.ok sc_alignment_modules (fun vs H Q E h => ?_) (fun cdv A outer s H vs Q E hr h => ?_)
  · obtain ⟨v, rfl, _⟩ := h
    rfl
  · obtain ⟨v, rfl, h1, h40, q⟩ := h
    have hu := hu_of hr
    refine ⟨_, (pss_cons (ps_set (i := 1) sc_alignment_modules.nd rfl (Or.inl rfl) (pe_callB (show CallR _ _ (Z.cLen K) from Z.call_len) (by rfl) T.n_len (by decide +kernel) (pa_cons (pe_call (ok_alignment T) (hr.mono (by decide)) (by rfl) T.g_alignment T.F_alignment.kp T.b_alignment .nil pass0 (pa_cons (pv 0) pa_nil)) pa_nil)))
      (pss_cons (ps_if (pt_cmpR op_eq (pv 1) pe_int (nomark _)) (pss_one (ps_ret pe_int)) pss_nil)
      (pss_cons (ps_set (i := 2) sc_alignment_modules.nd rfl (Or.inl rfl) (pe_op op_sub (pe_op op_mul (pv 1) (pv 1)) pe_int))
      (pss_cons (ps_set (i := 3) sc_alignment_modules.nd rfl (Or.inl rfl) (pe_op op_mul pe_int (pe_op op_sub (pv 1) pe_int)))
      (pss_one (ps_ret (pe_op op_sub (pe_op op_mul pe_int (pv 2)) (pe_op op_mul pe_int (pv 3))))))))), ?_⟩
    show (_ : L2.TS) _ [some _, none, none, none] H
    try simp only [Z.kx]
    have hal := al_len (v := (v : Int)) (by omega) (by omega)
    wtm_at "r"
    refine ⟨v, rfl, h1, h40, fun p H1 s1 n1 hl => ?_⟩
    wtm_at "r"
    rw [List.length_map, hal]
    by_cases h : (v : Int) = 1
    · rw [if_pos h]
      wtm_at "r"
      with_reducible refine Z.i_dt rfl ?_
      wtm_at "r"
      have q' := q H1 s1
      rw [if_pos h] at q'
      exact q'
    · rw [if_neg h]
      have hc : cntA v = (v : Int) / 7 + 2 := rfl
      wtm_at "r"
      with_reducible refine Z.i_df (by omega) ?_
      wtm_at "r"
      have q' := q H1 s1
      rw [if_neg h] at q'
      rw [show 25 * (cntA v * cntA v - 3) - 5 * (2 * (cntA v - 2)) = 25 * (cntA v * cntA v - 3) - 10 * (cntA v - 2) by omega]
      exact q' 
def sp_data_modules (K : PySem.W.Frag) : Sp := fun vs H Q _ => ∃ (v : Nat), vs = [.int v] ∧ 1 ≤ v ∧ v ≤ 40 ∧ ∀ H1, Same H H1 → Q (.int ((17 + 4 * (v : Int)) * (17 + 4 * (v : Int)) - takA v)) H1
set_option maxHeartbeats 2000000 in
theorem ok_data_modules (T : Top K mg w) : FnOk P w K mg base CX0 3 T.a_data_modules T.d_data_modules pl_data_modules (sp_data_modules K) := by
  refine T.F_data_modules.ok sc_data_modules (fun vs H Q E h => ?_) (fun cdv A outer s H vs Q E hr h => ?_)
  · obtain ⟨v, rfl, _⟩ := h
    rfl
  · obtain ⟨v, rfl, h1, h40, q⟩ := h
    have hu := hu_of hr
    refine ⟨_, (pss_cons (ps_set (i := 1) sc_data_modules.nd rfl (Or.inl rfl) (pe_op op_add pe_int (pe_op op_mul pe_int (pv 0))))
      (pss_cons (ps_set (i := 2) sc_data_modules.nd rfl (Or.inl rfl) (pe_op op_mul (pe_op op_mul pe_int pe_int) pe_int))
      (pss_cons (ps_set (i := 3) sc_data_modules.nd rfl (Or.inl rfl) (pe_op op_mul pe_int (pe_op op_sub (pv 1) pe_int)))
      (pss_cons (ps_set (i := 4) sc_data_modules.nd rfl (Or.inl rfl) (pe_op op_add (pe_op op_mul pe_int pe_int) pe_int))
      (C8.pss_cut (ps_set (i := 5) sc_data_modules.nd rfl (Or.inl rfl) (pe_ifExp (pt_cmpR op_ge (pv 0) pe_int (nomark _)) (pe_op op_mul pe_int pe_int) pe_int))
      (pss_cons (ps_set (i := 6) sc_data_modules.nd rfl (Or.inl rfl) (pe_op op_add (pe_op op_add (pe_op op_add (pv 2) (pv 3)) (pv 4)) (pv 5)))
      (pss_one (ps_ret (pe_op op_sub (pe_op op_sub (pe_op op_mul (pv 1) (pv 1)) (pv 6)) (pe_call (ok_alignment_modules T) (hr.mono (by decide)) (by rfl) T.g_alignment_modules T.F_alignment_modules.kp T.b_alignment_modules .nil pass0 (pa_cons (pv 0) pa_nil))))))))))), ?_⟩
    show (_ : L2.TS) _ [some _, none, none, none, none, none, none] H
    try simp only [Z.kx]
    wtm_at "r"
    refine Z.r_cut (fun σ H2 => σ = [some (.int v), some (.int (17 + 4 * (v : Int))), some (.int 192), some (.int (2 * (17 + 4 * (v : Int) - 16))), some (.int 31), some (.int (if 7 ≤ (v : Int) then 36 else 0)), none] ∧ H2 = H) ?_ ?_
    · wtm_at "r"
      with_reducible refine Z.i_2 (fun h => ?_) (fun h => ?_)
      · wtm_at "r"
        refine ⟨?_, rfl⟩
        rw [if_pos h]; rfl
      · wtm_at "r"
        refine ⟨?_, rfl⟩
        rw [if_neg h]; rfl
    rintro σ H2 ⟨rfl, rfl⟩
    wtm_at "r"
    refine ⟨v, rfl, h1, h40, fun H3 s3 => ?_⟩
    wtm_at "r"
    have q' := q H3 s3
    have e : (17 + 4 * (v : Int)) * (17 + 4 * (v : Int)) - (192 + 2 * (17 + 4 * (v : Int) - 16) + 31 + (if 7 ≤ (v : Int) then 36 else 0)) - (if (v : Int) = 1 then 0 else 25 * (cntA v * cntA v - 3) - 10 * (cntA v - 2)) = (17 + 4 * (v : Int)) * (17 + 4 * (v : Int)) - takA v := by
      unfold takA
      generalize (17 + 4 * (v : Int)) * (17 + 4 * (v : Int)) = z
      generalize (if 7 ≤ (v : Int) then (36 : Int) else 0) = y
      generalize (if (v : Int) = 1 then (0 : Int) else 25 * (cntA v * cntA v - 3) - 10 * (cntA v - 2)) = x
      omega
    rw [← e] at q'
    exact q' 
def sp_total_words (K : PySem.W.Frag) : Sp := fun vs H Q _ => ∃ (v : Nat), vs = [.int v] ∧ 1 ≤ v ∧ v ≤ 40 ∧ ∀ H1, Same H H1 → Q (.int (twN v)) H1
set_option maxHeartbeats 2000000 in
theorem ok_total_words (T : Top K mg w) : FnOk P w K mg base CX0 4 T.a_total_words T.d_total_words pl_total_words (sp_total_words K) := by
  refine T.F_total_words.ok sc_total_words (fun vs H Q E h => ?_) (fun cdv A outer s H vs Q E hr h => ?_)
  · obtain ⟨v, rfl, _⟩ := h
    rfl
  · obtain ⟨v, rfl, h1, h40, q⟩ := h
    have hu := hu_of hr
    refine ⟨_, (pss_one (ps_ret (pe_op op_fdiv (pe_call (ok_data_modules T) (hr.mono (by decide)) (by rfl) T.g_data_modules T.F_data_modules.kp T.b_data_modules .nil pass0 (pa_cons (pv 0) pa_nil)) pe_int))), ?_⟩
    show (_ : L2.TS) _ [some _] H
    try simp only [Z.kx]
    wtm_at "r"
    refine ⟨v, rfl, h1, h40, fun H3 s3 => ?_⟩
    wtm_at "r"
    exact q H3 s3
def sp_block_sizes (K : PySem.W.Frag) : Sp := fun vs H Q _ => ∃ (v l : Nat), vs = [.int v, .str (lvS l)] ∧ 1 ≤ v ∧ v ≤ 40 ∧ l < 4 ∧ ∀ (p : Addr) (H1 : Hp), Same H H1 → H p = none → H1 p = some (.lst ((szN v l).map V.int)) → Q (.ref p) H1
set_option maxHeartbeats 2000000 in
theorem ok_block_sizes (T : Top K mg w) : FnOk P w K mg base CX0 5 T.a_block_sizes T.d_block_sizes pl_block_sizes (sp_block_sizes K) := by
  refine T.F_block_sizes.ok sc_block_sizes (fun vs H Q E h => ?_) (fun cdv A outer s H vs Q E hr h => ?_)
  · obtain ⟨v, l, rfl, _⟩ := h
    rfl
  · obtain ⟨v, l, rfl, h1, h40, hl, q⟩ := h
    have hu := hu_of hr
    refine ⟨_, (pss_cons (ps_set (i := 2) sc_block_sizes.nd rfl (Or.inl rfl) (pe_call (ok_total_words T) (hr.mono (by decide)) (by rfl) T.g_total_words T.F_total_words.kp T.b_total_words .nil pass0 (pa_cons (pv 0) pa_nil)))
      (pss_cons (ps_set (i := 3) sc_block_sizes.nd rfl (Or.inl rfl) (pe_call (ok_block_count T) (hr.mono (by decide)) (by rfl) T.g_block_count T.F_block_count.kp T.b_block_count .nil pass0 (pa_cons (pv 0) (pa_cons (pv 1) pa_nil))))
      (pss_cons (ps_set (i := 4) sc_block_sizes.nd rfl (Or.inl rfl) (pe_op op_mod (pv 2) (pv 3)))
      (pss_cons (ps_set (i := 5) sc_block_sizes.nd rfl (Or.inl rfl) (pe_op op_sub (pe_op op_fdiv (pv 2) (pv 3)) (pe_call (ok_check_count T) (hr.mono (by decide)) (by rfl) T.g_check_count T.F_check_count.kp T.b_check_count .nil pass0 (pa_cons (pv 0) (pa_cons (pv 1) pa_nil)))))
      (pss_one (ps_ret (pe_op op_cat (pe_op op_rep (pe_lst (pa_cons (pv 5) pa_nil)) (pe_op op_sub (pv 3) (pv 4))) (pe_op op_rep (pe_lst (pa_cons (pe_op op_add (pv 5) pe_int) pa_nil)) (pv 4))))))))), ?_⟩
    show (_ : L2.TS) _ [some _, some _, none, none, none, none] H
    try simp only [Z.kx]
    have hb := bk_pos' h1 h40 hl
    have ht := tw_lim' h1 h40
    wtm_at "r"
    refine ⟨v, rfl, h1, h40, fun H1 s1 => ?_⟩
    wtm_at "r"
    refine ⟨v, l, rfl, h1, h40, hl, ?_⟩
    wtm_at "r"
    refine ⟨v, l, rfl, h1, h40, hl, ?_⟩
    have hr0 := Int.emod_nonneg (twN v) (show ((bkN v l : Nat) : Int) ≠ 0 by omega)
    have hr1 := Int.emod_lt_of_pos (twN v) (show (0 : Int) < ((bkN v l : Nat) : Int) by omega)
    wtm_at "r"
    refine ⟨by show 1 ≤ sizeLine; decide, fun o1 n1 => ?_⟩
    wtm_at "r"
    refine Z.r_rep L2.upd_same (by omega) (by omega) (fun p1 m1 => ?_)
    wtm_at "r"
    refine ⟨by show 1 ≤ sizeLine; decide, fun o2 n2 => ?_⟩
    wtm_at "r"
    refine Z.r_rep L2.upd_same (by omega) (by omega) (fun p2 m2 => ?_)
    refine Z.r_cat (Z.s_upd m2 _ _ (Z.s_upd n2 _ _ L2.upd_same)) L2.upd_same (by rw [List.length_replicate, List.length_replicate]; omega) (fun p np => ?_)
    refine q p _ (s1.trans ((((Z.s_upd n1).trans (Z.s_upd m1)).trans (Z.s_upd n2)).trans ((Z.s_upd m2).trans (Z.s_upd np)))) (Z.s_back (s1.trans ((((Z.s_upd n1).trans (Z.s_upd m1)).trans (Z.s_upd n2)).trans (Z.s_upd m2))) np) ?_
    rw [L2.upd_same]
    unfold szN
    rw [List.map_append, List.map_replicate, List.map_replicate, show (((bkN v l : Nat) : Int) - twN v % ((bkN v l : Nat) : Int)).toNat = bkN v l - (twN v % ((bkN v l : Nat) : Int)).toNat by omega]
def sp_data_words (K : PySem.W.Frag) : Sp := fun vs H Q _ => ∃ (v l : Nat), vs = [.int v, .str (lvS l)] ∧ 1 ≤ v ∧ v ≤ 40 ∧ l < 4 ∧ ∀ H1, Same H H1 → Q (.int (twN v - (bkN v l : Nat) * (ckN v l : Nat))) H1
set_option maxHeartbeats 2000000 in
theorem ok_data_words (T : Top K mg w) : FnOk P w K mg base CX0 6 T.a_data_words T.d_data_words pl_data_words (sp_data_words K) := by
  refine T.F_data_words.ok sc_data_words (fun vs H Q E h => ?_) (fun cdv A outer s H vs Q E hr h => ?_)
  · obtain ⟨v, l, rfl, _⟩ := h
    rfl
  · obtain ⟨v, l, rfl, h1, h40, hl, q⟩ := h
    have hu := hu_of hr
    refine ⟨_, (pss_one (ps_ret (pe_callB (show CallR _ _ (rSum K) from cr_sum rfl) (by rfl) T.n_sum (by decide +kernel) (pa_cons (pe_call (ok_block_sizes T) (hr.mono (by decide)) (by rfl) T.g_block_sizes T.F_block_sizes.kp T.b_block_sizes .nil pass0 (pa_cons (pv 0) (pa_cons (pv 1) pa_nil))) pa_nil)))), ?_⟩
    show (_ : L2.TS) _ [some _, some _] H
    try simp only [Z.kx]
    wtm_at "r"
    refine ⟨v, l, rfl, h1, h40, hl, fun p H1 s1 n1 hp => ?_⟩
    wtm_at "r"
    refine Z.r_sum (Z.sq_l hp) ?_
    rw [sz_sum h1 h40 hl]
    wtm_at "r"
    exact q H1 s1
def sp__law_cell (K : PySem.W.Frag) : Sp := fun vs H Q _ => ∃ (a : Addr) (ns : List Int) (k : Nat), vs = [.ref a, .int k] ∧ SqL K H a (ns.map V.int) ∧ k < 100 ∧ ∀ z : Int, Q (.int z) H
set_option maxHeartbeats 2000000 in
theorem ok__law_cell (T : Top K mg w) : FnOk P w K mg base CX0 1 T.a__law_cell T.d__law_cell pl__law_cell (sp__law_cell K) := by
  refine T.F__law_cell.ok sc__law_cell (fun vs H Q E h => ?_) (fun cdv A outer s H vs Q E hr h => ?_)
  · obtain ⟨a, ns, k, rfl, _⟩ := h
    rfl
  · obtain ⟨a, ns, k, rfl, hS, hk, q⟩ := h
    have hu := hu_of hr
    refine ⟨_, (pss_cons (ps_if (pt_cmpR op_lt (pv 1) (pe_callB (show CallR _ _ (Z.cLen K) from Z.call_len) (by rfl) T.n_len (by decide +kernel) (pa_cons (pv 0) pa_nil)) (nomark _)) (pss_one (ps_ret (pe_callTy Z.call_int (by rfl) T.n_int (by decide +kernel) (pa_cons (pe_ix (show IxR _ (rIxL K) from ix_list) (pv 0) (pv 1) (fun _ _ => rfl)) pa_nil)))) pss_nil)
      (pss_one (ps_ret pe_int))), ?_⟩
    show (_ : L2.TS) _ [some _, some _] H
    try simp only [Z.kx]
    wtm_at "r"
    with_reducible refine Z.i_2 (fun h => ?_) (fun h => ?_)
    · rw [List.length_map] at h
      have h' : k < ns.length := by omega
      wtm_at "r"
      refine Z.r_ixL hS (Z.at_map rfl (List.getElem?_eq_getElem h')) ?_
      wtm_at "r"
      exact q _
    · wtm_at "r"
      exact q _
end
theorem tab_len : ∀ l, l < 4 → (ckT.getD l []).length = 40 ∧ (bkT.getD l []).length = 40 := by decide +kernel
def nw (ns : List Nat) : List V := ns.map fun n => V.int (n : Nat)
theorem nw_at {ns : List Nat} {i : Int} {j : Nat} (e : i = (j : Int)) (h : j < ns.length) : atI (nw ns) i = some (.int (ns.getD j 0 : Nat)) := by
  subst e
  refine atI_nat ?_
  unfold nw
  rw [List.getElem?_map, List.getElem?_eq_getElem h, List.getD_eq_getElem?_getD, List.getElem?_eq_getElem h]
  rfl
theorem lv_dec : (lvS 0 = "L") ∧ ¬ (lvS 1 = "L") ∧ (lvS 1 = "M") ∧ ¬ (lvS 2 = "L") ∧ ¬ (lvS 2 = "M") ∧ (lvS 2 = "Q") ∧ ¬ (lvS 3 = "L") ∧ ¬ (lvS 3 = "M") ∧ ¬ (lvS 3 = "Q") := by decide +kernel
theorem at3_0 : ∀ g, g < 3 → atI [V.int 10, V.int 12, V.int 14] ((g : Nat) : Int) = some (.int ((cbT.getD 0 []).getD g 0 : Nat)) := by
  intro g hg
  match g, hg with
  | 0, _ => rfl
  | 1, _ => rfl
  | 2, _ => rfl
theorem at3_1 : ∀ g, g < 3 → atI [V.int 9, V.int 11, V.int 13] ((g : Nat) : Int) = some (.int ((cbT.getD 1 []).getD g 0 : Nat)) := by
  intro g hg
  match g, hg with
  | 0, _ => rfl
  | 1, _ => rfl
  | 2, _ => rfl
theorem at3_2 : ∀ g, g < 3 → atI [V.int 8, V.int 16, V.int 16] ((g : Nat) : Int) = some (.int ((cbT.getD 2 []).getD g 0 : Nat)) := by
  intro g hg
  match g, hg with
  | 0, _ => rfl
  | 1, _ => rfl
  | 2, _ => rfl
theorem grp_lt (v : Nat) : grp v < 3 := by unfold grp; split <;> (try split) <;> omega
theorem md_at : ∀ m, m < 3 → [V.str "numeric", V.str "alphanumeric", V.str "byte"][m]? = some (.str (modes.getD m "")) := by
  intro m hm
  match m, hm with
  | 0, _ => rfl
  | 1, _ => rfl
  | 2, _ => rfl
section
variable {P : Program} {w : World} {K : PySem.W.Frag} {mg : Str → Option Value} {base : Heap}
def sp__law_checks {K : PySem.W.Frag} {mg : Str → Option Value} {w : World} (T : Top K mg w) : Sp := fun vs H Q _ => ∃ (l : Nat), vs = [.str (lvS l)] ∧ l < 4 ∧ ∀ (p : Addr) (H1 : Hp), Same H H1 → H p = none → H1 p = some (.lst (nw (ckT.getD l []))) → Q (.ref p) H1
set_option maxHeartbeats 2000000 in
theorem ok__law_checks (T : Top K mg w) : FnOk P w K mg base CX0 1 T.a__law_checks T.d__law_checks pl__law_checks (sp__law_checks T) := by
  refine T.F__law_checks.ok sc__law_checks (fun vs H Q E h => ?_) (fun cdv A outer s H vs Q E hr h => ?_)
  · obtain ⟨l, rfl, _⟩ := h
    rfl
  · obtain ⟨l, rfl, hl, q⟩ := h
    have hu := hu_of hr
    refine ⟨_, (pss_cons (ps_if (pt_cmpR op_eq (pv 0) pe_str (nomark _)) (pss_one (ps_ret (pe_lst (pa_cons pe_int (pa_cons pe_int (pa_cons pe_int (pa_cons pe_int (pa_cons pe_int (pa_cons pe_int (pa_cons pe_int (pa_cons pe_int (pa_cons pe_int (pa_cons pe_int (pa_cons pe_int (pa_cons pe_int (pa_cons pe_int (pa_cons pe_int (pa_cons pe_int (pa_cons pe_int (pa_cons pe_int (pa_cons pe_int (pa_cons pe_int (pa_cons pe_int (pa_cons pe_int (pa_cons pe_int (pa_cons pe_int (pa_cons pe_int (pa_cons pe_int (pa_cons pe_int (pa_cons pe_int (pa_cons pe_int (pa_cons pe_int (pa_cons pe_int (pa_cons pe_int (pa_cons pe_int (pa_cons pe_int (pa_cons pe_int (pa_cons pe_int (pa_cons pe_int (pa_cons pe_int (pa_cons pe_int (pa_cons pe_int (pa_cons pe_int pa_nil))))))))))))))))))))))))))))))))))))))))))) pss_nil)
      (pss_cons (ps_if (pt_cmpR op_eq (pv 0) pe_str (nomark _)) (pss_one (ps_ret (pe_lst (pa_cons pe_int (pa_cons pe_int (pa_cons pe_int (pa_cons pe_int (pa_cons pe_int (pa_cons pe_int (pa_cons pe_int (pa_cons pe_int (pa_cons pe_int (pa_cons pe_int (pa_cons pe_int (pa_cons pe_int (pa_cons pe_int (pa_cons pe_int (pa_cons pe_int (pa_cons pe_int (pa_cons pe_int (pa_cons pe_int (pa_cons pe_int (pa_cons pe_int (pa_cons pe_int (pa_cons pe_int (pa_cons pe_int (pa_cons pe_int (pa_cons pe_int (pa_cons pe_int (pa_cons pe_int (pa_cons pe_int (pa_cons pe_int (pa_cons pe_int (pa_cons pe_int (pa_cons pe_int (pa_cons pe_int (pa_cons pe_int (pa_cons pe_int (pa_cons pe_int (pa_cons pe_int (pa_cons pe_int (pa_cons pe_int (pa_cons pe_int pa_nil))))))))))))))))))))))))))))))))))))))))))) pss_nil)
      (pss_cons (ps_if (pt_cmpR op_eq (pv 0) pe_str (nomark _)) (pss_one (ps_ret (pe_lst (pa_cons pe_int (pa_cons pe_int (pa_cons pe_int (pa_cons pe_int (pa_cons pe_int (pa_cons pe_int (pa_cons pe_int (pa_cons pe_int (pa_cons pe_int (pa_cons pe_int (pa_cons pe_int (pa_cons pe_int (pa_cons pe_int (pa_cons pe_int (pa_cons pe_int (pa_cons pe_int (pa_cons pe_int (pa_cons pe_int (pa_cons pe_int (pa_cons pe_int (pa_cons pe_int (pa_cons pe_int (pa_cons pe_int (pa_cons pe_int (pa_cons pe_int (pa_cons pe_int (pa_cons pe_int (pa_cons pe_int (pa_cons pe_int (pa_cons pe_int (pa_cons pe_int (pa_cons pe_int (pa_cons pe_int (pa_cons pe_int (pa_cons pe_int (pa_cons pe_int (pa_cons pe_int (pa_cons pe_int (pa_cons pe_int (pa_cons pe_int pa_nil))))))))))))))))))))))))))))))))))))))))))) pss_nil)
      (pss_one (ps_ret (pe_lst (pa_cons pe_int (pa_cons pe_int (pa_cons pe_int (pa_cons pe_int (pa_cons pe_int (pa_cons pe_int (pa_cons pe_int (pa_cons pe_int (pa_cons pe_int (pa_cons pe_int (pa_cons pe_int (pa_cons pe_int (pa_cons pe_int (pa_cons pe_int (pa_cons pe_int (pa_cons pe_int (pa_cons pe_int (pa_cons pe_int (pa_cons pe_int (pa_cons pe_int (pa_cons pe_int (pa_cons pe_int (pa_cons pe_int (pa_cons pe_int (pa_cons pe_int (pa_cons pe_int (pa_cons pe_int (pa_cons pe_int (pa_cons pe_int (pa_cons pe_int (pa_cons pe_int (pa_cons pe_int (pa_cons pe_int (pa_cons pe_int (pa_cons pe_int (pa_cons pe_int (pa_cons pe_int (pa_cons pe_int (pa_cons pe_int (pa_cons pe_int pa_nil)))))))))))))))))))))))))))))))))))))))))))))), ?_⟩
    show (_ : L2.TS) _ [some _] H
    try simp only [Z.kx]
    match l, hl with
    | 0, _ =>
      wtm_at "r"
      with_reducible refine Z.i_dt lv_dec.1 ?_
      wtm_at "r"
      refine ⟨by show 40 ≤ sizeLine; decide, fun p hp => ?_⟩
      exact q p _ (Z.s_upd hp) hp L2.upd_same
    | 1, _ =>
      wtm_at "r"
      with_reducible refine Z.i_df lv_dec.2.1 ?_
      wtm_at "r"
      with_reducible refine Z.i_dt lv_dec.2.2.1 ?_
      wtm_at "r"
      refine ⟨by show 40 ≤ sizeLine; decide, fun p hp => ?_⟩
      exact q p _ (Z.s_upd hp) hp L2.upd_same
    | 2, _ =>
      wtm_at "r"
      with_reducible refine Z.i_df lv_dec.2.2.2.1 ?_
      wtm_at "r"
      with_reducible refine Z.i_df lv_dec.2.2.2.2.1 ?_
      wtm_at "r"
      with_reducible refine Z.i_dt lv_dec.2.2.2.2.2.1 ?_
      wtm_at "r"
      refine ⟨by show 40 ≤ sizeLine; decide, fun p hp => ?_⟩
      exact q p _ (Z.s_upd hp) hp L2.upd_same
    | 3, _ =>
      wtm_at "r"
      with_reducible refine Z.i_df lv_dec.2.2.2.2.2.2.1 ?_
      wtm_at "r"
      with_reducible refine Z.i_df lv_dec.2.2.2.2.2.2.2.1 ?_
      wtm_at "r"
      with_reducible refine Z.i_df lv_dec.2.2.2.2.2.2.2.2 ?_
      wtm_at "r"
      refine ⟨by show 40 ≤ sizeLine; decide, fun p hp => ?_⟩
      exact q p _ (Z.s_upd hp) hp L2.upd_same
def sp__law_blocks {K : PySem.W.Frag} {mg : Str → Option Value} {w : World} (T : Top K mg w) : Sp := fun vs H Q _ => ∃ (l : Nat), vs = [.str (lvS l)] ∧ l < 4 ∧ ∀ (p : Addr) (H1 : Hp), Same H H1 → H p = none → H1 p = some (.lst (nw (bkT.getD l []))) → Q (.ref p) H1
set_option maxHeartbeats 2000000 in
theorem ok__law_blocks (T : Top K mg w) : FnOk P w K mg base CX0 1 T.a__law_blocks T.d__law_blocks pl__law_blocks (sp__law_blocks T) := by
  refine T.F__law_blocks.ok sc__law_blocks (fun vs H Q E h => ?_) (fun cdv A outer s H vs Q E hr h => ?_)
  · obtain ⟨l, rfl, _⟩ := h
    rfl
  · obtain ⟨l, rfl, hl, q⟩ := h
    have hu := hu_of hr
    refine ⟨_, (pss_cons (ps_if (pt_cmpR op_eq (pv 0) pe_str (nomark _)) (pss_one (ps_ret (pe_lst (pa_cons pe_int (pa_cons pe_int (pa_cons pe_int (pa_cons pe_int (pa_cons pe_int (pa_cons pe_int (pa_cons pe_int (pa_cons pe_int (pa_cons pe_int (pa_cons pe_int (pa_cons pe_int (pa_cons pe_int (pa_cons pe_int (pa_cons pe_int (pa_cons pe_int (pa_cons pe_int (pa_cons pe_int (pa_cons pe_int (pa_cons pe_int (pa_cons pe_int (pa_cons pe_int (pa_cons pe_int (pa_cons pe_int (pa_cons pe_int (pa_cons pe_int (pa_cons pe_int (pa_cons pe_int (pa_cons pe_int (pa_cons pe_int (pa_cons pe_int (pa_cons pe_int (pa_cons pe_int (pa_cons pe_int (pa_cons pe_int (pa_cons pe_int (pa_cons pe_int (pa_cons pe_int (pa_cons pe_int (pa_cons pe_int (pa_cons pe_int pa_nil))))))))))))))))))))))))))))))))))))))))))) pss_nil)
      (pss_cons (ps_if (pt_cmpR op_eq (pv 0) pe_str (nomark _)) (pss_one (ps_ret (pe_lst (pa_cons pe_int (pa_cons pe_int (pa_cons pe_int (pa_cons pe_int (pa_cons pe_int (pa_cons pe_int (pa_cons pe_int (pa_cons pe_int (pa_cons pe_int (pa_cons pe_int (pa_cons pe_int (pa_cons pe_int (pa_cons pe_int (pa_cons pe_int (pa_cons pe_int (pa_cons pe_int (pa_cons pe_int (pa_cons pe_int (pa_cons pe_int (pa_cons pe_int (pa_cons pe_int (pa_cons pe_int (pa_cons pe_int (pa_cons pe_int (pa_cons pe_int (pa_cons pe_int (pa_cons pe_int (pa_cons pe_int (pa_cons pe_int (pa_cons pe_int (pa_cons pe_int (pa_cons pe_int (pa_cons pe_int (pa_cons pe_int (pa_cons pe_int (pa_cons pe_int (pa_cons pe_int (pa_cons pe_int (pa_cons pe_int (pa_cons pe_int pa_nil))))))))))))))))))))))))))))))))))))))))))) pss_nil)
      (pss_cons (ps_if (pt_cmpR op_eq (pv 0) pe_str (nomark _)) (pss_one (ps_ret (pe_lst (pa_cons pe_int (pa_cons pe_int (pa_cons pe_int (pa_cons pe_int (pa_cons pe_int (pa_cons pe_int (pa_cons pe_int (pa_cons pe_int (pa_cons pe_int (pa_cons pe_int (pa_cons pe_int (pa_cons pe_int (pa_cons pe_int (pa_cons pe_int (pa_cons pe_int (pa_cons pe_int (pa_cons pe_int (pa_cons pe_int (pa_cons pe_int (pa_cons pe_int (pa_cons pe_int (pa_cons pe_int (pa_cons pe_int (pa_cons pe_int (pa_cons pe_int (pa_cons pe_int (pa_cons pe_int (pa_cons pe_int (pa_cons pe_int (pa_cons pe_int (pa_cons pe_int (pa_cons pe_int (pa_cons pe_int (pa_cons pe_int (pa_cons pe_int (pa_cons pe_int (pa_cons pe_int (pa_cons pe_int (pa_cons pe_int (pa_cons pe_int pa_nil))))))))))))))))))))))))))))))))))))))))))) pss_nil)
      (pss_one (ps_ret (pe_lst (pa_cons pe_int (pa_cons pe_int (pa_cons pe_int (pa_cons pe_int (pa_cons pe_int (pa_cons pe_int (pa_cons pe_int (pa_cons pe_int (pa_cons pe_int (pa_cons pe_int (pa_cons pe_int (pa_cons pe_int (pa_cons pe_int (pa_cons pe_int (pa_cons pe_int (pa_cons pe_int (pa_cons pe_int (pa_cons pe_int (pa_cons pe_int (pa_cons pe_int (pa_cons pe_int (pa_cons pe_int (pa_cons pe_int (pa_cons pe_int (pa_cons pe_int (pa_cons pe_int (pa_cons pe_int (pa_cons pe_int (pa_cons pe_int (pa_cons pe_int (pa_cons pe_int (pa_cons pe_int (pa_cons pe_int (pa_cons pe_int (pa_cons pe_int (pa_cons pe_int (pa_cons pe_int (pa_cons pe_int (pa_cons pe_int (pa_cons pe_int pa_nil)))))))))))))))))))))))))))))))))))))))))))))), ?_⟩
    show (_ : L2.TS) _ [some _] H
    try simp only [Z.kx]
    match l, hl with
    | 0, _ =>
      wtm_at "r"
      with_reducible refine Z.i_dt lv_dec.1 ?_
      wtm_at "r"
      refine ⟨by show 40 ≤ sizeLine; decide, fun p hp => ?_⟩
      exact q p _ (Z.s_upd hp) hp L2.upd_same
    | 1, _ =>
      wtm_at "r"
      with_reducible refine Z.i_df lv_dec.2.1 ?_
      wtm_at "r"
      with_reducible refine Z.i_dt lv_dec.2.2.1 ?_
      wtm_at "r"
      refine ⟨by show 40 ≤ sizeLine; decide, fun p hp => ?_⟩
      exact q p _ (Z.s_upd hp) hp L2.upd_same
    | 2, _ =>
      wtm_at "r"
      with_reducible refine Z.i_df lv_dec.2.2.2.1 ?_
      wtm_at "r"
      with_reducible refine Z.i_df lv_dec.2.2.2.2.1 ?_
      wtm_at "r"
      with_reducible refine Z.i_dt lv_dec.2.2.2.2.2.1 ?_
      wtm_at "r"
      refine ⟨by show 40 ≤ sizeLine; decide, fun p hp => ?_⟩
      exact q p _ (Z.s_upd hp) hp L2.upd_same
    | 3, _ =>
      wtm_at "r"
      with_reducible refine Z.i_df lv_dec.2.2.2.2.2.2.1 ?_
      wtm_at "r"
      with_reducible refine Z.i_df lv_dec.2.2.2.2.2.2.2.1 ?_
      wtm_at "r"
      with_reducible refine Z.i_df lv_dec.2.2.2.2.2.2.2.2 ?_
      wtm_at "r"
      refine ⟨by show 40 ≤ sizeLine; decide, fun p hp => ?_⟩
      exact q p _ (Z.s_upd hp) hp L2.upd_same
def sp__law_alignment (K : PySem.W.Frag) : Sp := fun vs H Q _ => ∃ (v : Nat), vs = [.int v] ∧ 1 ≤ v ∧ v ≤ 40 ∧ ∀ (p : Addr) (H1 : Hp), Same H H1 → H p = none → H1 p = some (.lst ((alN v).map V.int)) → Q (.ref p) H1
set_option maxHeartbeats 2000000 in
theorem ok__law_alignment (T : Top K mg w) : FnOk P w K mg base CX0 1 T.a__law_alignment T.d__law_alignment pl__law_alignment (sp__law_alignment K) := by
  refine T.F__law_alignment.ok sc__law_alignment (fun vs H Q E h => ?_) (fun cdv A outer s H vs Q E hr h => ?_)
  · obtain ⟨v, rfl, _⟩ := h
    rfl
  · obtain ⟨v, rfl, h1, h40, q⟩ := h
    have hu := hu_of hr
    refine ⟨_, (pss_cons (ps_if (pt_cmpR op_eq (pv 0) pe_int (nomark _)) (pss_one (ps_ret (pe_lst pa_nil))) pss_nil)
      (pss_cons (ps_set (i := 1) sc__law_alignment.nd rfl (Or.inr rfl) (pe_op op_add (pe_op op_fdiv (pv 0) pe_int) pe_int))
      (pss_cons (ps_set (i := 2) sc__law_alignment.nd rfl (Or.inr rfl) (pe_op op_add (pe_op op_mul pe_int (pv 0)) pe_int))
      (pss_cons (ps_set (i := 3) sc__law_alignment.nd rfl (Or.inr rfl) pe_int)
      (C8.pss_cut (ps_if (pt_cmpR op_ne (pv 0) pe_int (nomark _)) (pss_one (ps_set (i := 3) sc__law_alignment.nd rfl (Or.inr rfl) (pe_op op_mul (pe_op op_fdiv (pe_op op_add (pe_op op_add (pe_op op_mul pe_int (pv 0)) (pe_op op_mul pe_int (pv 1))) pe_int) (pe_op op_sub (pe_op op_mul pe_int (pv 1)) pe_int)) pe_int))) pss_nil)
      (pss_one (ps_ret (pe_op op_cat (pe_lst (pa_cons pe_int pa_nil)) (pe_lc (own := [("k", 4)]) (tt := tYes) rfl sc__law_alignment.nd (pi_range1 rfl T.n_range (pa_cons (pe_op op_sub (pv 1) pe_int) pa_nil)) (blkOk_by (N := sl__law_alignment) (sc := defScope s__law_alignment) (by decide +kernel)) (fun _ _ _ _ _ => (pg_name (i := 4) sc__law_alignment.nd rfl (Or.inl rfl))) (fun _ _ _ _ _ => pts_nil) (fun _ _ _ _ _ => (pe_op op_sub (pv 2) (pe_op op_mul (pv 3) (pe_op op_sub (pe_op op_sub (pv 1) pe_int) (pv 4)))))))))))))), ?_⟩
    show (_ : L2.TS) _ [some _, none, none, none, none] H
    try simp only [Z.kx]
    have hst := st_lim' h1 h40
    wtm_at "r"
    with_reducible refine Z.i_2 (fun h => ?_) (fun h => ?_)
    · wtm_at "r"
      refine ⟨by show 0 ≤ sizeLine; decide, fun p hp => ?_⟩
      refine q p _ (Z.s_upd hp) hp ?_
      rw [show alN v = [] by unfold alN; rw [if_pos (by omega)]]
      exact L2.upd_same
    · wtm_at "r"
      refine Z.r_cut (fun σ H2 => σ = [some (.int v), some (.int (cntA v)), some (.int (4 * (v : Int) + 10)), some (.int (stepA v)), none] ∧ H2 = H) ?_ ?_
      · wtm_at "r"
        with_reducible refine Z.i_2 (fun h => ?_) (fun h => ?_)
        · wtm_at "r"
          refine ⟨?_, rfl⟩
          rw [show stepA v = (4 * (v : Int) + 2 * cntA v + 1) / (2 * cntA v - 2) * 2 by unfold stepA; rw [if_neg h]]; rfl
        · wtm_at "r"
          refine ⟨?_, rfl⟩
          rw [show stepA v = 26 by unfold stepA; rw [if_pos (by omega)]]; rfl
      rintro σ H2 ⟨rfl, rfl⟩
      have hc : cntA v = (v : Int) / 7 + 2 := rfl
      wtm_at "r"
      refine ⟨by show 1 ≤ sizeLine; decide, fun o ho => ?_⟩
      wtm_at "r"
      refine Z.lcr_pure (cntA v - 1).toNat (fun i => V.int (4 * (v : Int) + 10 - stepA v * (cntA v - 2 - (i : Int)))) rfl ⟨by omega, by omega⟩ (by omega) (fun _ => rfl) ?_ ?_
      · intro i H5 hi s5 k kq
        wtm_at "w"
        wtm_at "r"
        exact kq _ (Same.refl _)
      · intro D H5 hD s5 hl5
        refine Z.r_cat (s5 _ _ L2.upd_same) hl5 (by rw [List.length_map, List.length_range]; show 1 + _ ≤ 100000; omega) (fun p hp => ?_)
        refine q p _ ((Z.s_upd ho).trans (s5.trans (Z.s_upd hp))) (Z.s_back ((Z.s_upd ho).trans s5) hp) ?_
        rw [L2.upd_same, show alN v = 6 :: (List.range (cntA v - 1).toNat).map fun k : Nat => 4 * (v : Int) + 10 - stepA v * (cntA v - 2 - (k : Int)) by unfold alN; rw [if_neg (by omega)], List.map_cons, List.map_map]
        rfl
def sp__law_words (K : PySem.W.Frag) : Sp := fun vs H Q _ => ∃ (v : Nat), vs = [.int v] ∧ 1 ≤ v ∧ v ≤ 40 ∧ ∀ (H1 : Hp), Same H H1 → Q (.int (twN v)) H1
set_option maxHeartbeats 2000000 in
theorem ok__law_words (T : Top K mg w) : FnOk P w K mg base CX0 2 T.a__law_words T.d__law_words pl__law_words (sp__law_words K) := by
  refine T.F__law_words.ok sc__law_words (fun vs H Q E h => ?_) (fun cdv A outer s H vs Q E hr h => ?_)
  · obtain ⟨v, rfl, _⟩ := h
    rfl
  · obtain ⟨v, rfl, h1, h40, q⟩ := h
    have hu := hu_of hr
    refine ⟨_, (pss_cons (ps_set (i := 1) sc__law_words.nd rfl (Or.inl rfl) (pe_op op_add pe_int (pe_op op_mul pe_int (pv 0))))
      (pss_cons (ps_set (i := 2) sc__law_words.nd rfl (Or.inl rfl) (pe_callB (show CallR _ _ (Z.cLen K) from Z.call_len) (by rfl) T.n_len (by decide +kernel) (pa_cons (pe_call (ok__law_alignment T) (hr.mono (by decide)) (by rfl) T.g__law_alignment T.F__law_alignment.kp T.b__law_alignment .nil pass0 (pa_cons (pv 0) pa_nil)) pa_nil)))
      (pss_cons (ps_set (i := 3) sc__law_words.nd rfl (Or.inl rfl) (pe_op op_add (pe_op op_add (pe_op op_mul pe_int pe_int) (pe_op op_mul pe_int (pe_op op_sub (pv 1) pe_int))) pe_int))
      (C8.pss_cut (ps_if (pt_cmpR op_gt (pv 2) pe_int (nomark _)) (pss_one (ps_set (i := 3) sc__law_words.nd rfl (Or.inl rfl) (pe_op op_sub (pe_op op_add (pv 3) (pe_op op_mul pe_int (pe_op op_sub (pe_op op_mul (pv 2) (pv 2)) pe_int))) (pe_op op_mul pe_int (pe_op op_sub (pv 2) pe_int))))) pss_nil)
      (C8.pss_cut (ps_if (pt_cmpR op_ge (pv 0) pe_int (nomark _)) (pss_one (ps_set (i := 3) sc__law_words.nd rfl (Or.inl rfl) (pe_op op_add (pv 3) pe_int))) pss_nil)
      (pss_one (ps_ret (pe_op op_fdiv (pe_op op_sub (pe_op op_mul (pv 1) (pv 1)) (pv 3)) pe_int)))))))), ?_⟩
    show (_ : L2.TS) _ [some _, none, none, none] H
    try simp only [Z.kx]
    have hal := al_len (v := (v : Int)) (by omega) (by omega)
    have hc : cntA v = (v : Int) / 7 + 2 := rfl
    wtm_at "r"
    refine ⟨v, rfl, h1, h40, fun p H1 s1 n1 hl => ?_⟩
    wtm_at "r"
    rw [List.length_map, hal]
    refine Z.r_cut (fun σ H2 => σ = [some (.int v), some (.int (17 + 4 * (v : Int))), some (.int (if (v : Int) = 1 then 0 else cntA v)), some (.int (192 + 2 * (17 + 4 * (v : Int) - 16) + 31 + (if (v : Int) = 1 then 0 else 25 * (cntA v * cntA v - 3) - 10 * (cntA v - 2))))] ∧ H2 = H1) ?_ ?_
    · by_cases h : (v : Int) = 1
      · rw [if_pos h, if_pos h]
        wtm_at "r"
        with_reducible refine Z.i_df (by omega) ?_
        wtm_at "r"
        exact ⟨by rw [show (192 : Int) + 2 * (17 + 4 * (v : Int) - 16) + 31 + 0 = 3 * 64 + 2 * (17 + 4 * (v : Int) - 16) + 31 by omega], rfl⟩
      · rw [if_neg h, if_neg h]
        wtm_at "r"
        with_reducible refine Z.i_dt (by omega) ?_
        wtm_at "r"
        refine ⟨?_, rfl⟩
        rw [show 192 + 2 * (17 + 4 * (v : Int) - 16) + 31 + (25 * (cntA v * cntA v - 3) - 10 * (cntA v - 2)) = 192 + 2 * (17 + 4 * (v : Int) - 16) + 31 + 25 * (cntA v * cntA v - 3) - 10 * (cntA v - 2) by omega]; rfl
    rintro σ H2 ⟨rfl, rfl⟩
    refine Z.r_cut (fun σ H3 => ∃ x, σ = [some (.int v), some (.int (17 + 4 * (v : Int))), x, some (.int (takA v))] ∧ H3 = H2) ?_ ?_
    · wtm_at "r"
      with_reducible refine Z.i_2 (fun h => ?_) (fun h => ?_)
      · wtm_at "r"
        refine ⟨some (.int (if (v : Int) = 1 then 0 else cntA v)), ?_, rfl⟩
        rw [show takA v = 192 + 2 * (17 + 4 * (v : Int) - 16) + 31 + (if (v : Int) = 1 then 0 else 25 * (cntA v * cntA v - 3) - 10 * (cntA v - 2)) + 36 by unfold takA; rw [if_pos h]; omega]
      · wtm_at "r"
        refine ⟨some (.int (if (v : Int) = 1 then 0 else cntA v)), ?_, rfl⟩
        rw [show takA v = 192 + 2 * (17 + 4 * (v : Int) - 16) + 31 + (if (v : Int) = 1 then 0 else 25 * (cntA v * cntA v - 3) - 10 * (cntA v - 2)) by unfold takA; rw [if_neg h]; omega]
    rintro σ H3 ⟨x, rfl, rfl⟩
    wtm_at "r"
    exact q H3 s1
def sp_law (K : PySem.W.Frag) : Sp := fun vs H Q _ => ∃ (a : Addr) (ns : List Int), vs = [.ref a] ∧ SqL K H a (ns.map V.int) ∧ ns.length ≤ 63 ∧ ∀ H1, Q (.bl true) H1
set_option maxHeartbeats 2000000 in
theorem ok_law (T : Top K mg w) : FnOk P w K mg base CX0 7 T.a_law T.d_law pl_law (sp_law K) := by
  refine T.F_law.ok sc_law (fun vs H Q E h => ?_) (fun cdv A outer s H vs Q E hr h => ?_)
  · obtain ⟨a, ns, rfl, _⟩ := h
    rfl
  · obtain ⟨a, ns, rfl, hS, hn, q⟩ := h
    have hu := hu_of hr
    refine ⟨_, (pss_cons (ps_set (i := 1) sc_law.nd rfl (Or.inr rfl) (pe_op op_add pe_int (pe_op op_mod (pe_call (ok__law_cell T) (hr.mono (by decide)) (by rfl) T.g__law_cell T.F__law_cell.kp T.b__law_cell .nil pass0 (pa_cons (pv 0) (pa_cons pe_int pa_nil))) pe_int)))
      (pss_cons (ps_set (i := 2) sc_law.nd rfl (Or.inl rfl) (pe_ix (show IxR _ (rIxL K) from ix_list) (pe_lst (pa_cons pe_str (pa_cons pe_str (pa_cons pe_str (pa_cons pe_str pa_nil))))) (pe_op op_mod (pe_call (ok__law_cell T) (hr.mono (by decide)) (by rfl) T.g__law_cell T.F__law_cell.kp T.b__law_cell .nil pass0 (pa_cons (pv 0) (pa_cons pe_int pa_nil))) pe_int) (fun _ _ => rfl)))
      (pss_cons (ps_set (i := 3) sc_law.nd rfl (Or.inr rfl) (pe_ix (show IxR _ (rIxL K) from ix_list) (pe_call (ok__law_checks T) (hr.mono (by decide)) (by rfl) T.g__law_checks T.F__law_checks.kp T.b__law_checks .nil pass0 (pa_cons (pv 2) pa_nil)) (pe_op op_sub (pv 1) pe_int) (fun _ _ => rfl)))
      (pss_cons (ps_set (i := 4) sc_law.nd rfl (Or.inr rfl) (pe_ix (show IxR _ (rIxL K) from ix_list) (pe_call (ok__law_blocks T) (hr.mono (by decide)) (by rfl) T.g__law_blocks T.F__law_blocks.kp T.b__law_blocks .nil pass0 (pa_cons (pv 2) pa_nil)) (pe_op op_sub (pv 1) pe_int) (fun _ _ => rfl)))
      (pss_cons (ps_set (i := 5) sc_law.nd rfl (Or.inr rfl) (pe_call (ok__law_words T) (hr.mono (by decide)) (by rfl) T.g__law_words T.F__law_words.kp T.b__law_words .nil pass0 (pa_cons (pv 1) pa_nil)))
      (pss_cons (ps_if (PW.pt (pw_or (pt_cmpR op_ne (pe_call (ok_check_count T) (hr.mono (by decide)) (by rfl) T.g_check_count T.F_check_count.kp T.b_check_count .nil pass0 (pa_cons (pv 1) (pa_cons (pv 2) pa_nil))) (pv 3) (nomark _)) (pw_or1 (pt_cmpR op_ne (pe_call (ok_total_words T) (hr.mono (by decide)) (by rfl) T.g_total_words T.F_total_words.kp T.b_total_words .nil pass0 (pa_cons (pv 1) pa_nil)) (pv 5) (nomark _))))) (pss_one (ps_ret pe_bl)) pss_nil)
      (pss_cons (ps_setLc (i := 6) (own := [("k", 7)]) (tt := tYes) rfl sc_law.nd rfl rfl (sw_true rfl rfl rfl (by decide +kernel)) (pi_range1 rfl T.n_range (pa_cons (pe_op op_sub (pv 4) (pe_op op_mod (pv 5) (pv 4))) pa_nil)) (blkOk_by (N := sl_law) (sc := defScope s_law) (by decide +kernel)) (fun _ _ _ _ _ => (pg_name (i := 7) sc_law.nd rfl (Or.inl rfl))) (fun _ _ _ _ _ => pts_nil) (fun _ _ _ _ _ => (pe_op op_sub (pe_op op_fdiv (pv 5) (pv 4)) (pv 3))))
      (pss_cons (ps_set (i := 6) sc_law.nd rfl (Or.inl rfl) (pe_op op_cat (pv 6) (pe_lc (own := [("k", 7)]) (tt := tYes) rfl sc_law.nd (pi_range1 rfl T.n_range (pa_cons (pe_op op_mod (pv 5) (pv 4)) pa_nil)) (blkOk_by (N := sl_law) (sc := defScope s_law) (by decide +kernel)) (fun _ _ _ _ _ => (pg_name (i := 7) sc_law.nd rfl (Or.inl rfl))) (fun _ _ _ _ _ => pts_nil) (fun _ _ _ _ _ => (pe_op op_add (pe_op op_sub (pe_op op_fdiv (pv 5) (pv 4)) (pv 3)) pe_int)))))
      (pss_cons (ps_set (i := 8) sc_law.nd rfl (Or.inl rfl) (pe_call (ok_block_sizes T) (hr.mono (by decide)) (by rfl) T.g_block_sizes T.F_block_sizes.kp T.b_block_sizes .nil pass0 (pa_cons (pv 1) (pa_cons (pv 2) pa_nil))))
      (pss_cons (ps_if (PW.pt (pw_or (pt_not (pt_val (pe_callB (show CallR _ _ (rIsi K) from call_isi) (by rfl) T.n_isinstance (by decide +kernel) (pa_cons (pv 8) (pa_cons (pe_bltn (v := .ty "list") (u := .type "list") (by rfl) T.n_list (by decide +kernel) rfl) pa_nil))))) (pw_or (pt_cmpR (op_neD (hr.units)) (pv 8) (pv 6) (nomark _)) (pw_or1 (pt_cmpR op_ne (pe_call (ok_data_words T) (hr.mono (by decide)) (by rfl) T.g_data_words T.F_data_words.kp T.b_data_words .nil pass0 (pa_cons (pv 1) (pa_cons (pv 2) pa_nil))) (pe_op op_sub (pv 5) (pe_op op_mul (pv 4) (pv 3))) (nomark _)))))) (pss_one (ps_ret pe_bl)) pss_nil)
      (pss_cons (ps_expr (pe_bm PySem.F.plainAttrs_list PySem.F.slot_list_append PySem.F.type_list_append mt_append (pv 8) (pa_cons pe_int pa_nil)))
      (pss_cons (ps_set (i := 9) sc_law.nd rfl (Or.inl rfl) (pe_call (ok_alignment T) (hr.mono (by decide)) (by rfl) T.g_alignment T.F_alignment.kp T.b_alignment .nil pass0 (pa_cons (pv 1) pa_nil)))
      (pss_cons (ps_if (pt_cmpR (op_neD (hr.units)) (pv 9) (pe_call (ok__law_alignment T) (hr.mono (by decide)) (by rfl) T.g__law_alignment T.F__law_alignment.kp T.b__law_alignment .nil pass0 (pa_cons (pv 1) pa_nil)) (nomark _)) (pss_one (ps_ret pe_bl)) pss_nil)
      (pss_cons (ps_expr (pe_bm PySem.F.plainAttrs_list PySem.F.slot_list_append PySem.F.type_list_append mt_append (pv 9) (pa_cons pe_int pa_nil)))
      (pss_cons (ps_if (PW.pt (pw_or (pt_cmpR (op_neD (hr.units)) (pe_call (ok_block_sizes T) (hr.mono (by decide)) (by rfl) T.g_block_sizes T.F_block_sizes.kp T.b_block_sizes .nil pass0 (pa_cons (pv 1) (pa_cons (pv 2) pa_nil))) (pv 6) (nomark _)) (pw_or1 (pt_cmpR (op_neD (hr.units)) (pe_call (ok_alignment T) (hr.mono (by decide)) (by rfl) T.g_alignment T.F_alignment.kp T.b_alignment .nil pass0 (pa_cons (pv 1) pa_nil)) (pe_call (ok__law_alignment T) (hr.mono (by decide)) (by rfl) T.g__law_alignment T.F__law_alignment.kp T.b__law_alignment .nil pass0 (pa_cons (pv 1) pa_nil)) (nomark _))))) (pss_one (ps_ret pe_bl)) pss_nil)
      (pss_cons (ps_set (i := 10) sc_law.nd rfl (Or.inl rfl) pe_int)
      (C8.pss_cut (ps_if (pt_cmpR op_gt (pv 1) pe_int (nomark _)) (pss_one (ps_set (i := 10) sc_law.nd rfl (Or.inl rfl) pe_int)) pss_nil)
      (C8.pss_cut (ps_if (pt_cmpR op_gt (pv 1) pe_int (nomark _)) (pss_one (ps_set (i := 10) sc_law.nd rfl (Or.inl rfl) pe_int)) pss_nil)
      (pss_cons (ps_set (i := 11) sc_law.nd rfl (Or.inl rfl) (pe_lst (pa_cons (pe_ix (show IxR _ (rIxL K) from ix_list) (pe_lst (pa_cons pe_int (pa_cons pe_int (pa_cons pe_int pa_nil)))) (pv 10) (fun _ _ => rfl)) (pa_cons (pe_ix (show IxR _ (rIxL K) from ix_list) (pe_lst (pa_cons pe_int (pa_cons pe_int (pa_cons pe_int pa_nil)))) (pv 10) (fun _ _ => rfl)) (pa_cons (pe_ix (show IxR _ (rIxL K) from ix_list) (pe_lst (pa_cons pe_int (pa_cons pe_int (pa_cons pe_int pa_nil)))) (pv 10) (fun _ _ => rfl)) pa_nil)))))
      (pss_one (ps_ret (pe_cmpR (op_eqD (hr.units)) (pe_lc (own := [("mode", 12)]) (tt := tYes) rfl sc_law.nd (pi_list (pe_lst (pa_cons pe_str (pa_cons pe_str (pa_cons pe_str pa_nil))))) (blkOk_by (N := sl_law) (sc := defScope s_law) (by decide +kernel)) (fun _ _ _ _ _ => (pg_name (i := 12) sc_law.nd rfl (Or.inl rfl))) (fun _ _ _ _ _ => pts_nil) (fun _ _ _ _ _ => (pe_call (ok_count_bits T) (hr.mono (by decide)) (by rfl) T.g_count_bits T.F_count_bits.kp T.b_count_bits .nil pass0 (pa_cons (pv 12) (pa_cons (pv 1) pa_nil))))) (pv 11) (nomark _))))))))))))))))))))))), ?_⟩
    show (_ : L2.TS) _ [some _, none, none, none, none, none, none, none, none, none, none, none, none] H
    try simp only [Z.kx]
    wtm_at "r"
    refine ⟨a, ns, 0, rfl, hS, by decide, fun z0 => ?_⟩
    wtm_at "r"
    obtain ⟨v, ev, h1, h40⟩ : ∃ v : Nat, 1 + z0 % 40 = (v : Int) ∧ 1 ≤ v ∧ v ≤ 40 := ⟨(1 + z0 % 40).toNat, by omega, by omega, by omega⟩
    rw [ev]
    refine ⟨by show 4 ≤ sizeLine; decide, fun o1 n1 => ?_⟩
    have s1 : Same H (upd H o1 (.lst [V.str "L", V.str "M", V.str "Q", V.str "H"])) := Z.s_upd n1
    have hl1 : (upd H o1 (.lst [V.str "L", V.str "M", V.str "Q", V.str "H"])) o1 = some (.lst [V.str "L", V.str "M", V.str "Q", V.str "H"]) := L2.upd_same
    generalize upd H o1 (.lst [V.str "L", V.str "M", V.str "Q", V.str "H"]) = H1 at s1 hl1
    wtm_at "r"
    refine ⟨a, ns, 1, rfl, Z.s_sq s1 hS, by decide, fun z1 => ?_⟩
    wtm_at "r"
    obtain ⟨l, el, hl⟩ : ∃ l : Nat, z1 % 4 = (l : Int) ∧ l < 4 := ⟨(z1 % 4).toNat, by omega, by omega⟩
    rw [el]
    refine Z.r_ixL (Z.sq_l hl1) (v := .str (lvS l)) (by
      match l, hl with
      | 0, _ => rfl
      | 1, _ => rfl
      | 2, _ => rfl
      | 3, _ => rfl) ?_
    have hb := bk_pos' h1 h40 hl
    have ht := tw_lim' h1 h40
    have hlen := tab_len l hl
    wtm_at "r"
    refine ⟨l, rfl, hl, fun p2 H2 s2 n2 h2 => ?_⟩
    wtm_at "r"
    refine Z.r_ixL (Z.sq_l h2) (nw_at (j := v - 1) (by omega) (by omega)) ?_
    wtm_at "r"
    refine ⟨l, rfl, hl, fun p3 H3 s3 n3 h3 => ?_⟩
    wtm_at "r"
    refine Z.r_ixL (Z.sq_l h3) (nw_at (j := v - 1) (by omega) (by omega)) ?_
    rw [show (ckT.getD l []).getD (v - 1) 0 = ckN v l from rfl, show (bkT.getD l []).getD (v - 1) 0 = bkN v l from rfl]
    wtm_at "r"
    refine ⟨v, rfl, h1, h40, fun H4 s4 => ?_⟩
    wtm_at "r"
    refine ⟨v, l, rfl, h1, h40, hl, ?_⟩
    wtm_at "r"
    with_reducible refine Z.i_df (not_not_intro rfl) ?_
    wtm_at "r"
    refine ⟨v, rfl, h1, h40, fun H5 s5 => ?_⟩
    wtm_at "r"
    with_reducible refine Z.i_df (not_not_intro rfl) ?_
    have hr0 := Int.emod_nonneg (twN v) (show ((bkN v l : Nat) : Int) ≠ 0 by omega)
    have hr1 := Int.emod_lt_of_pos (twN v) (show (0 : Int) < ((bkN v l : Nat) : Int) by omega)
    wtm_at "r"
    refine Z.lcr_pure (bkN v l - (twN v % (bkN v l : Nat)).toNat) (fun i => V.int (twN v / (bkN v l : Nat) - (ckN v l : Nat))) (by omega) ⟨by omega, by omega⟩ (by omega) (fun _ => rfl) ?_ ?_
    · intro i H6 hi s6 k kq
      wtm_at "w"
      wtm_at "r"
      exact kq _ (Same.refl _)
    intro D1 H6 nD1 s6 hD1
    wtm_at "r"
    refine Z.lcr_pure (twN v % (bkN v l : Nat)).toNat (fun i => V.int (twN v / (bkN v l : Nat) - (ckN v l : Nat) + 1)) (by omega) ⟨by omega, by omega⟩ (by omega) (fun _ => rfl) ?_ ?_
    · intro i H6 hi s6 k kq
      wtm_at "w"
      wtm_at "r"
      exact kq _ (Same.refl _)
    intro D2 H7 nD2 s7 hD2
    refine Z.r_cat (s7 _ _ hD1) hD2 (by rw [List.length_map, List.length_map, List.length_range, List.length_range]; omega) (fun pd nd => ?_)
    have s8 : Same H7 (upd H7 pd (.lst ((szN v l).map V.int))) := Z.s_upd nd
    have e8 : (List.range (bkN v l - (twN v % (bkN v l : Nat)).toNat)).map (fun i => V.int (twN v / (bkN v l : Nat) - (ckN v l : Nat))) ++ (List.range (twN v % (bkN v l : Nat)).toNat).map (fun i => V.int (twN v / (bkN v l : Nat) - (ckN v l : Nat) + 1)) = (szN v l).map V.int := by
      unfold szN
      rw [List.map_append, List.map_replicate, List.map_replicate, List.map_const', List.map_const', List.length_range, List.length_range]
    rw [e8]
    have h8 : (upd H7 pd (.lst ((szN v l).map V.int))) pd = some (.lst ((szN v l).map V.int)) := L2.upd_same
    generalize upd H7 pd (.lst ((szN v l).map V.int)) = H8 at s8 h8
    have lsz : (szN v l).length ≤ 1000 := by unfold szN; rw [List.length_append, List.length_replicate, List.length_replicate]; omega
    wtm_at "r"
    refine ⟨v, l, rfl, h1, h40, hl, fun pf H9 s9 nf hf => ?_⟩
    wtm_at "r"
    refine Z.r_isi (b := true) (.ty "list") (.base (.lst hf)) (kit_ty (by decide +kernel)) ?_
    wtm_at "r"
    refine Z.r_neL (Z.sq_l hf) (Z.sq_l (s9 _ _ h8)) ?_
    wtm_at "r"
    refine ⟨v, l, rfl, h1, h40, hl, fun H10 s10 => ?_⟩
    have hf10 := s10 _ _ hf
    wtm_at "r"
    with_reducible refine Z.i_df (not_not_intro rfl) ?_
    wtm_at "r"
    have h811 : (upd H10 pf (.lst ((szN v l).map V.int ++ [V.int 5]))) pd = some (.lst ((szN v l).map V.int)) := (upd_ne (ne_of_none h8 nf)).trans (s10 _ _ (s9 _ _ h8))
    generalize upd H10 pf (.lst ((szN v l).map V.int ++ [V.int 5])) = H11 at h811
    wtm_at "r"
    refine ⟨v, rfl, h1, h40, fun pp H12 s12 np hp => ?_⟩
    wtm_at "r"
    refine ⟨v, rfl, h1, h40, fun pq H13 s13 nq hq => ?_⟩
    refine Z.r_neL (Z.sq_l (s13 _ _ hp)) (Z.sq_l hq) ?_
    have lal : (alN v).length ≤ 1000 := by
      have hal := al_len (v := (v : Int)) (by omega) (by omega)
      have hc : cntA v = (v : Int) / 7 + 2 := rfl
      split at hal <;> omega
    have hp13 := s13 _ _ hp
    wtm_at "r"
    have h814 : (upd H13 pp (.lst ((alN v).map V.int ++ [V.int 7]))) pd = some (.lst ((szN v l).map V.int)) := (upd_ne (ne_of_none h811 np)).trans (s13 _ _ (s12 _ _ h811))
    generalize upd H13 pp (.lst ((alN v).map V.int ++ [V.int 7])) = H14 at h814
    wtm_at "r"
    refine ⟨v, l, rfl, h1, h40, hl, fun pg H15 s15 ng hg => ?_⟩
    wtm_at "r"
    refine Z.r_neL (Z.sq_l hg) (Z.sq_l (s15 _ _ h814)) ?_
    wtm_at "r"
    refine ⟨v, rfl, h1, h40, fun ph H16 s16 nh hh => ?_⟩
    wtm_at "r"
    refine ⟨v, rfl, h1, h40, fun pi H17 s17 ni hi => ?_⟩
    refine Z.r_neL (Z.sq_l (s17 _ _ hh)) (Z.sq_l hi) ?_
    wtm_at "r"
    refine Z.r_cut (fun σ H18 => ∃ g : Nat, g = (if 9 < v then 1 else 0) ∧ σ = [some (.ref a), some (.int v), some (.str (lvS l)), some (.int (ckN v l : Nat)), some (.int (bkN v l : Nat)), some (.int (twN v)), some (.ref pd), none, some (.ref pf), some (.ref pp), some (.int g), none, none] ∧ H18 = H17) ?_ ?_
    · wtm_at "r"
      with_reducible refine Z.i_2 (fun h => ?_) (fun h => ?_)
      · wtm_at "r"
        exact ⟨1, by rw [if_pos (by omega)], rfl, rfl⟩
      · wtm_at "r"
        exact ⟨0, by rw [if_neg (by omega)], rfl, rfl⟩
    rintro σ H18 ⟨g0, hg0, rfl, rfl⟩
    refine Z.r_cut (fun σ H19 => σ = [some (.ref a), some (.int v), some (.str (lvS l)), some (.int (ckN v l : Nat)), some (.int (bkN v l : Nat)), some (.int (twN v)), some (.ref pd), none, some (.ref pf), some (.ref pp), some (.int (grp v : Nat)), none, none] ∧ H19 = H18) ?_ ?_
    · wtm_at "r"
      with_reducible refine Z.i_2 (fun h => ?_) (fun h => ?_)
      · wtm_at "r"
        have e : grp v = 2 := by unfold grp; rw [if_neg (by omega), if_neg (by omega)]
        rw [e]
        exact ⟨rfl, rfl⟩
      · wtm_at "r"
        have e : grp v = g0 := by
          unfold grp
          rw [hg0]
          by_cases h9 : 9 < v
          · rw [if_pos h9, if_neg (show ¬ v < 10 by omega), if_pos (show v < 27 by omega)]
          · rw [if_neg h9, if_pos (show v < 10 by omega)]
        rw [e]
        exact ⟨rfl, rfl⟩
    rintro σ H19 ⟨rfl, rfl⟩
    have hgl := grp_lt v
    wtm_at "r"
    refine ⟨by show 3 ≤ sizeLine; decide, fun b1 m1 => ?_⟩
    wtm_at "r"
    refine Z.r_ixL (Z.sq_l L2.upd_same) (at3_0 _ hgl) ?_
    wtm_at "r"
    refine ⟨by show 3 ≤ sizeLine; decide, fun b2 m2 => ?_⟩
    wtm_at "r"
    refine Z.r_ixL (Z.sq_l L2.upd_same) (at3_1 _ hgl) ?_
    wtm_at "r"
    refine ⟨by show 3 ≤ sizeLine; decide, fun b3 m3 => ?_⟩
    wtm_at "r"
    refine Z.r_ixL (Z.sq_l L2.upd_same) (at3_2 _ hgl) ?_
    wtm_at "r"
    refine ⟨by show 3 ≤ sizeLine; decide, fun pb mb => ?_⟩
    generalize upd (upd (upd _ b1 _) b2 _) b3 _ = H20 at mb
    have hb21 : (upd H20 pb (.lst [V.int (cbN 0 v : Nat), V.int (cbN 1 v : Nat), V.int (cbN 2 v : Nat)])) pb = some (.lst [V.int (cbN 0 v : Nat), V.int (cbN 1 v : Nat), V.int (cbN 2 v : Nat)]) := L2.upd_same
    generalize hG : upd H20 pb (.lst [V.int (cbN 0 v : Nat), V.int (cbN 1 v : Nat), V.int (cbN 2 v : Nat)]) = H21 at hb21
    have hG2 : upd H20 pb (.lst [V.int ((cbT.getD 0 []).getD (grp v) 0 : Nat), V.int ((cbT.getD 1 []).getD (grp v) 0 : Nat), V.int ((cbT.getD 2 []).getD (grp v) 0 : Nat)]) = H21 := hG
    wtm_at "r"
    rw [hG2]
    refine ⟨by show 3 ≤ sizeLine; decide, fun om nm => ?_⟩
    wtm_at "r"
    refine Z.lcl_idx (K := K) (fun m => V.int (cbN m v : Nat)) (Z.sq_l L2.upd_same) (by show 3 ≤ 100000; decide) (fun _ => rfl) ?_ ?_
    · intro i x H22 hx s22 k kq
      have hi3 : i < 3 := (List.getElem?_eq_some_iff.mp hx).1
      rw [md_at i hi3] at hx
      cases hx
      wtm_at "w"
      wtm_at "r"
      exact ⟨i, v, rfl, hi3, h1, h40, kq _ (Same.refl _)⟩
    · intro D H22 nD s22 hD
      wtm_at "r"
      refine Z.r_eqL2 (ns := [(cbN 0 v : Int), (cbN 1 v : Int), (cbN 2 v : Int)]) (ms := [(cbN 0 v : Int), (cbN 1 v : Int), (cbN 2 v : Int)]) (Z.sq_l hD) (Z.sq_l (s22 _ _ (Z.s_upd nm _ _ hb21))) ?_
      rw [Z.dB_t rfl]
      exact q _
end
theorem all_mk {l : PySem.W.OpenLaw} {w : World} {K : PySem.W.Frag} {h : Heap} {mg : Str → Option Value} {fa : Addr} (X : K.In h) (G : h.Ns mainGlobals mg) (hfa : mg "law" = some (.ref fa))
    {f0 : Addr} {od0 an0 : Option Addr} {sl0 : Array (Option Value)} {oc0 kV0 dc0 pm0 cd0 ct0 : Value}
    {f1 : Addr} {od1 an1 : Option Addr} {sl1 : Array (Option Value)} {oc1 kV1 dc1 pm1 cd1 ct1 : Value}
    {f2 : Addr} {od2 an2 : Option Addr} {sl2 : Array (Option Value)} {oc2 kV2 dc2 pm2 cd2 ct2 : Value}
    {f3 : Addr} {od3 an3 : Option Addr} {sl3 : Array (Option Value)} {oc3 kV3 dc3 pm3 cd3 ct3 : Value}
    {f4 : Addr} {od4 an4 : Option Addr} {sl4 : Array (Option Value)} {oc4 kV4 dc4 pm4 cd4 ct4 : Value}
    {f5 : Addr} {od5 an5 : Option Addr} {sl5 : Array (Option Value)} {oc5 kV5 dc5 pm5 cd5 ct5 : Value}
    {f6 : Addr} {od6 an6 : Option Addr} {sl6 : Array (Option Value)} {oc6 kV6 dc6 pm6 cd6 ct6 : Value}
    {f7 : Addr} {od7 an7 : Option Addr} {sl7 : Array (Option Value)} {oc7 kV7 dc7 pm7 cd7 ct7 : Value}
    {f8 : Addr} {od8 an8 : Option Addr} {sl8 : Array (Option Value)} {oc8 kV8 dc8 pm8 cd8 ct8 : Value}
    {f9 : Addr} {od9 an9 : Option Addr} {sl9 : Array (Option Value)} {oc9 kV9 dc9 pm9 cd9 ct9 : Value}
    {f10 : Addr} {od10 an10 : Option Addr} {sl10 : Array (Option Value)} {oc10 kV10 dc10 pm10 cd10 ct10 : Value}
    {f11 : Addr} {od11 an11 : Option Addr} {sl11 : Array (Option Value)} {oc11 kV11 dc11 pm11 cd11 ct11 : Value}
    {f12 : Addr} {od12 an12 : Option Addr} {sl12 : Array (Option Value)} {oc12 kV12 dc12 pm12 cd12 ct12 : Value}
    {f13 : Addr} {od13 an13 : Option Addr} {sl13 : Array (Option Value)} {oc13 kV13 dc13 pm13 cd13 ct13 : Value}
    {f14 : Addr} {od14 an14 : Option Addr} {sl14 : Array (Option Value)} {oc14 kV14 dc14 pm14 cd14 ct14 : Value}
    {f15 : Addr} {od15 an15 : Option Addr} {sl15 : Array (Option Value)} {oc15 kV15 dc15 pm15 cd15 ct15 : Value}
    {A_LEVELS : Addr}
    {A_BLOCKS : Addr}
    {A_COUNT_BITS : Addr} {es_COUNT_BITS : Array DictEntry} {en_COUNT_BITS : Nat}
    {u_COUNT_BITS_0 : Value}
    {u_COUNT_BITS_1 : Value}
    {u_COUNT_BITS_2 : Value}
    (a0 : PySem.W.nsIn K mainGlobals "count_bits" = some (some (.ref f0)))
    (l0 : K.lookup f0 = some ⟨oc0, od0, .func (PySem.W.fnOf "count_bits" "count_bits" (defArgs s_count_bits) (defBody s_count_bits) (defScope s_count_bits) .none kV0 dc0 pm0 an0 cd0 ct0), sl0⟩)
    (c0 : PySem.W.codeIn K cd0 "count_bits" = true) (k0 : PySem.W.keepIn K (.ref f0) = true)
    (a1 : PySem.W.nsIn K mainGlobals "blocks_of" = some (some (.ref f1)))
    (l1 : K.lookup f1 = some ⟨oc1, od1, .func (PySem.W.fnOf "blocks_of" "blocks_of" (defArgs s_blocks_of) (defBody s_blocks_of) (defScope s_blocks_of) .none kV1 dc1 pm1 an1 cd1 ct1), sl1⟩)
    (c1 : PySem.W.codeIn K cd1 "blocks_of" = true) (k1 : PySem.W.keepIn K (.ref f1) = true)
    (a2 : PySem.W.nsIn K mainGlobals "check_count" = some (some (.ref f2)))
    (l2 : K.lookup f2 = some ⟨oc2, od2, .func (PySem.W.fnOf "check_count" "check_count" (defArgs s_check_count) (defBody s_check_count) (defScope s_check_count) .none kV2 dc2 pm2 an2 cd2 ct2), sl2⟩)
    (c2 : PySem.W.codeIn K cd2 "check_count" = true) (k2 : PySem.W.keepIn K (.ref f2) = true)
    (a3 : PySem.W.nsIn K mainGlobals "block_count" = some (some (.ref f3)))
    (l3 : K.lookup f3 = some ⟨oc3, od3, .func (PySem.W.fnOf "block_count" "block_count" (defArgs s_block_count) (defBody s_block_count) (defScope s_block_count) .none kV3 dc3 pm3 an3 cd3 ct3), sl3⟩)
    (c3 : PySem.W.codeIn K cd3 "block_count" = true) (k3 : PySem.W.keepIn K (.ref f3) = true)
    (a4 : PySem.W.nsIn K mainGlobals "alignment" = some (some (.ref f4)))
    (l4 : K.lookup f4 = some ⟨oc4, od4, .func (PySem.W.fnOf "alignment" "alignment" (defArgs s_alignment) (defBody s_alignment) (defScope s_alignment) .none kV4 dc4 pm4 an4 cd4 ct4), sl4⟩)
    (c4 : PySem.W.codeIn K cd4 "alignment" = true) (k4 : PySem.W.keepIn K (.ref f4) = true)
    (a5 : PySem.W.nsIn K mainGlobals "alignment_modules" = some (some (.ref f5)))
    (l5 : K.lookup f5 = some ⟨oc5, od5, .func (PySem.W.fnOf "alignment_modules" "alignment_modules" (defArgs s_alignment_modules) (defBody s_alignment_modules) (defScope s_alignment_modules) .none kV5 dc5 pm5 an5 cd5 ct5), sl5⟩)
    (c5 : PySem.W.codeIn K cd5 "alignment_modules" = true) (k5 : PySem.W.keepIn K (.ref f5) = true)
    (a6 : PySem.W.nsIn K mainGlobals "data_modules" = some (some (.ref f6)))
    (l6 : K.lookup f6 = some ⟨oc6, od6, .func (PySem.W.fnOf "data_modules" "data_modules" (defArgs s_data_modules) (defBody s_data_modules) (defScope s_data_modules) .none kV6 dc6 pm6 an6 cd6 ct6), sl6⟩)
    (c6 : PySem.W.codeIn K cd6 "data_modules" = true) (k6 : PySem.W.keepIn K (.ref f6) = true)
    (a7 : PySem.W.nsIn K mainGlobals "total_words" = some (some (.ref f7)))
    (l7 : K.lookup f7 = some ⟨oc7, od7, .func (PySem.W.fnOf "total_words" "total_words" (defArgs s_total_words) (defBody s_total_words) (defScope s_total_words) .none kV7 dc7 pm7 an7 cd7 ct7), sl7⟩)
    (c7 : PySem.W.codeIn K cd7 "total_words" = true) (k7 : PySem.W.keepIn K (.ref f7) = true)
    (a8 : PySem.W.nsIn K mainGlobals "block_sizes" = some (some (.ref f8)))
    (l8 : K.lookup f8 = some ⟨oc8, od8, .func (PySem.W.fnOf "block_sizes" "block_sizes" (defArgs s_block_sizes) (defBody s_block_sizes) (defScope s_block_sizes) .none kV8 dc8 pm8 an8 cd8 ct8), sl8⟩)
    (c8 : PySem.W.codeIn K cd8 "block_sizes" = true) (k8 : PySem.W.keepIn K (.ref f8) = true)
    (a9 : PySem.W.nsIn K mainGlobals "data_words" = some (some (.ref f9)))
    (l9 : K.lookup f9 = some ⟨oc9, od9, .func (PySem.W.fnOf "data_words" "data_words" (defArgs s_data_words) (defBody s_data_words) (defScope s_data_words) .none kV9 dc9 pm9 an9 cd9 ct9), sl9⟩)
    (c9 : PySem.W.codeIn K cd9 "data_words" = true) (k9 : PySem.W.keepIn K (.ref f9) = true)
    (a10 : PySem.W.nsIn K mainGlobals "_law_cell" = some (some (.ref f10)))
    (l10 : K.lookup f10 = some ⟨oc10, od10, .func (PySem.W.fnOf "_law_cell" "_law_cell" (defArgs s__law_cell) (defBody s__law_cell) (defScope s__law_cell) .none kV10 dc10 pm10 an10 cd10 ct10), sl10⟩)
    (c10 : PySem.W.codeIn K cd10 "_law_cell" = true) (k10 : PySem.W.keepIn K (.ref f10) = true)
    (a11 : PySem.W.nsIn K mainGlobals "_law_checks" = some (some (.ref f11)))
    (l11 : K.lookup f11 = some ⟨oc11, od11, .func (PySem.W.fnOf "_law_checks" "_law_checks" (defArgs s__law_checks) (defBody s__law_checks) (defScope s__law_checks) .none kV11 dc11 pm11 an11 cd11 ct11), sl11⟩)
    (c11 : PySem.W.codeIn K cd11 "_law_checks" = true) (k11 : PySem.W.keepIn K (.ref f11) = true)
    (a12 : PySem.W.nsIn K mainGlobals "_law_blocks" = some (some (.ref f12)))
    (l12 : K.lookup f12 = some ⟨oc12, od12, .func (PySem.W.fnOf "_law_blocks" "_law_blocks" (defArgs s__law_blocks) (defBody s__law_blocks) (defScope s__law_blocks) .none kV12 dc12 pm12 an12 cd12 ct12), sl12⟩)
    (c12 : PySem.W.codeIn K cd12 "_law_blocks" = true) (k12 : PySem.W.keepIn K (.ref f12) = true)
    (a13 : PySem.W.nsIn K mainGlobals "_law_alignment" = some (some (.ref f13)))
    (l13 : K.lookup f13 = some ⟨oc13, od13, .func (PySem.W.fnOf "_law_alignment" "_law_alignment" (defArgs s__law_alignment) (defBody s__law_alignment) (defScope s__law_alignment) .none kV13 dc13 pm13 an13 cd13 ct13), sl13⟩)
    (c13 : PySem.W.codeIn K cd13 "_law_alignment" = true) (k13 : PySem.W.keepIn K (.ref f13) = true)
    (a14 : PySem.W.nsIn K mainGlobals "_law_words" = some (some (.ref f14)))
    (l14 : K.lookup f14 = some ⟨oc14, od14, .func (PySem.W.fnOf "_law_words" "_law_words" (defArgs s__law_words) (defBody s__law_words) (defScope s__law_words) .none kV14 dc14 pm14 an14 cd14 ct14), sl14⟩)
    (c14 : PySem.W.codeIn K cd14 "_law_words" = true) (k14 : PySem.W.keepIn K (.ref f14) = true)
    (a15 : PySem.W.nsIn K mainGlobals "law" = some (some (.ref f15)))
    (l15 : K.lookup f15 = some ⟨oc15, od15, .func (PySem.W.fnOf "law" "law" (defArgs s_law) (defBody s_law) (defScope s_law) .none kV15 dc15 pm15 an15 cd15 ct15), sl15⟩)
    (c15 : PySem.W.codeIn K cd15 "law" = true) (k15 : PySem.W.keepIn K (.ref f15) = true)
    (m_LEVELS : PySem.W.nsIn K mainGlobals "LEVELS" = some (some (.ref A_LEVELS))) (tr_LEVELS : Z.okT K (.ref A_LEVELS) (.t lvTree) = true)
    (m_BLOCKS : PySem.W.nsIn K mainGlobals "BLOCKS" = some (some (.ref A_BLOCKS))) (tr_BLOCKS : Z.okT K (.ref A_BLOCKS) (.t bkTree) = true)
    (m_COUNT_BITS : PySem.W.nsIn K mainGlobals "COUNT_BITS" = some (some (.ref A_COUNT_BITS))) (ld_COUNT_BITS : K.lookup A_COUNT_BITS = some ⟨.type "dict", none, .dict es_COUNT_BITS en_COUNT_BITS, #[]⟩) (kl_COUNT_BITS : PySem.W.KeysLit w.params es_COUNT_BITS.toList)
    (k_COUNT_BITS_0 : PySem.W.nsIn K A_COUNT_BITS "numeric" = some (some u_COUNT_BITS_0)) (tr_COUNT_BITS_0 : Z.okT K u_COUNT_BITS_0 (cbTree 0) = true)
    (k_COUNT_BITS_1 : PySem.W.nsIn K A_COUNT_BITS "alphanumeric" = some (some u_COUNT_BITS_1)) (tr_COUNT_BITS_1 : Z.okT K u_COUNT_BITS_1 (cbTree 1) = true)
    (k_COUNT_BITS_2 : PySem.W.nsIn K A_COUNT_BITS "byte" = some (some u_COUNT_BITS_2)) (tr_COUNT_BITS_2 : Z.okT K u_COUNT_BITS_2 (cbTree 2) = true)
    (z_range : PySem.W.nsIn K mainGlobals "range" = some none)
    (z_len : PySem.W.nsIn K mainGlobals "len" = some none)
    (z_sum : PySem.W.nsIn K mainGlobals "sum" = some none)
    (z_int : PySem.W.nsIn K mainGlobals "int" = some none)
    (z_isinstance : PySem.W.nsIn K mainGlobals "isinstance" = some none)
    (z_list : PySem.W.nsIn K mainGlobals "list" = some none) :
    ∃ fd : FuncData, (∀ (s : Shared) (v : Value), BindsTo s fd ⟨[v], []⟩ [("script", v)]) ∧ ∀ base : Heap, K.In base → base.Ns mainGlobals mg → FnOk l.prog w K mg base CX0 7 fa fd pl_law (sp_law K) := by
  have e := hfa.symm.trans (PySem.W.mg_of X G a15)
  cases e
  let T : Top K mg w := {
    a_count_bits := f0,
    d_count_bits := _,
    F_count_bits := fun_mk (st := s_count_bits) l0 c0 k0,
    b_count_bits := (fun_mk (st := s_count_bits) l0 c0 k0).binds (ps := pl_count_bits) fun _ _ _ _ _ _ us hl => match us, hl with | [_, _], _ => rfl,
    g_count_bits := PySem.W.mg_of X G a0,
    a_blocks_of := f1,
    d_blocks_of := _,
    F_blocks_of := fun_mk (st := s_blocks_of) l1 c1 k1,
    b_blocks_of := (fun_mk (st := s_blocks_of) l1 c1 k1).binds (ps := pl_blocks_of) fun _ _ _ _ _ _ us hl => match us, hl with | [_, _], _ => rfl,
    g_blocks_of := PySem.W.mg_of X G a1,
    a_check_count := f2,
    d_check_count := _,
    F_check_count := fun_mk (st := s_check_count) l2 c2 k2,
    b_check_count := (fun_mk (st := s_check_count) l2 c2 k2).binds (ps := pl_check_count) fun _ _ _ _ _ _ us hl => match us, hl with | [_, _], _ => rfl,
    g_check_count := PySem.W.mg_of X G a2,
    a_block_count := f3,
    d_block_count := _,
    F_block_count := fun_mk (st := s_block_count) l3 c3 k3,
    b_block_count := (fun_mk (st := s_block_count) l3 c3 k3).binds (ps := pl_block_count) fun _ _ _ _ _ _ us hl => match us, hl with | [_, _], _ => rfl,
    g_block_count := PySem.W.mg_of X G a3,
    a_alignment := f4,
    d_alignment := _,
    F_alignment := fun_mk (st := s_alignment) l4 c4 k4,
    b_alignment := (fun_mk (st := s_alignment) l4 c4 k4).binds (ps := pl_alignment) fun _ _ _ _ _ _ us hl => match us, hl with | [_], _ => rfl,
    g_alignment := PySem.W.mg_of X G a4,
    a_alignment_modules := f5,
    d_alignment_modules := _,
    F_alignment_modules := fun_mk (st := s_alignment_modules) l5 c5 k5,
    b_alignment_modules := (fun_mk (st := s_alignment_modules) l5 c5 k5).binds (ps := pl_alignment_modules) fun _ _ _ _ _ _ us hl => match us, hl with | [_], _ => rfl,
    g_alignment_modules := PySem.W.mg_of X G a5,
    a_data_modules := f6,
    d_data_modules := _,
    F_data_modules := fun_mk (st := s_data_modules) l6 c6 k6,
    b_data_modules := (fun_mk (st := s_data_modules) l6 c6 k6).binds (ps := pl_data_modules) fun _ _ _ _ _ _ us hl => match us, hl with | [_], _ => rfl,
    g_data_modules := PySem.W.mg_of X G a6,
    a_total_words := f7,
    d_total_words := _,
    F_total_words := fun_mk (st := s_total_words) l7 c7 k7,
    b_total_words := (fun_mk (st := s_total_words) l7 c7 k7).binds (ps := pl_total_words) fun _ _ _ _ _ _ us hl => match us, hl with | [_], _ => rfl,
    g_total_words := PySem.W.mg_of X G a7,
    a_block_sizes := f8,
    d_block_sizes := _,
    F_block_sizes := fun_mk (st := s_block_sizes) l8 c8 k8,
    b_block_sizes := (fun_mk (st := s_block_sizes) l8 c8 k8).binds (ps := pl_block_sizes) fun _ _ _ _ _ _ us hl => match us, hl with | [_, _], _ => rfl,
    g_block_sizes := PySem.W.mg_of X G a8,
    a_data_words := f9,
    d_data_words := _,
    F_data_words := fun_mk (st := s_data_words) l9 c9 k9,
    b_data_words := (fun_mk (st := s_data_words) l9 c9 k9).binds (ps := pl_data_words) fun _ _ _ _ _ _ us hl => match us, hl with | [_, _], _ => rfl,
    g_data_words := PySem.W.mg_of X G a9,
    a__law_cell := f10,
    d__law_cell := _,
    F__law_cell := fun_mk (st := s__law_cell) l10 c10 k10,
    b__law_cell := (fun_mk (st := s__law_cell) l10 c10 k10).binds (ps := pl__law_cell) fun _ _ _ _ _ _ us hl => match us, hl with | [_, _], _ => rfl,
    g__law_cell := PySem.W.mg_of X G a10,
    a__law_checks := f11,
    d__law_checks := _,
    F__law_checks := fun_mk (st := s__law_checks) l11 c11 k11,
    b__law_checks := (fun_mk (st := s__law_checks) l11 c11 k11).binds (ps := pl__law_checks) fun _ _ _ _ _ _ us hl => match us, hl with | [_], _ => rfl,
    g__law_checks := PySem.W.mg_of X G a11,
    a__law_blocks := f12,
    d__law_blocks := _,
    F__law_blocks := fun_mk (st := s__law_blocks) l12 c12 k12,
    b__law_blocks := (fun_mk (st := s__law_blocks) l12 c12 k12).binds (ps := pl__law_blocks) fun _ _ _ _ _ _ us hl => match us, hl with | [_], _ => rfl,
    g__law_blocks := PySem.W.mg_of X G a12,
    a__law_alignment := f13,
    d__law_alignment := _,
    F__law_alignment := fun_mk (st := s__law_alignment) l13 c13 k13,
    b__law_alignment := (fun_mk (st := s__law_alignment) l13 c13 k13).binds (ps := pl__law_alignment) fun _ _ _ _ _ _ us hl => match us, hl with | [_], _ => rfl,
    g__law_alignment := PySem.W.mg_of X G a13,
    a__law_words := f14,
    d__law_words := _,
    F__law_words := fun_mk (st := s__law_words) l14 c14 k14,
    b__law_words := (fun_mk (st := s__law_words) l14 c14 k14).binds (ps := pl__law_words) fun _ _ _ _ _ _ us hl => match us, hl with | [_], _ => rfl,
    g__law_words := PySem.W.mg_of X G a14,
    a_law := fa,
    d_law := _,
    F_law := fun_mk (st := s_law) l15 c15 k15,
    b_law := (fun_mk (st := s_law) l15 c15 k15).binds (ps := pl_law) fun _ _ _ _ _ _ us hl => match us, hl with | [_], _ => rfl,
    g_law := PySem.W.mg_of X G a15,
    a_LEVELS := A_LEVELS,
    m_LEVELS := PySem.W.mg_of X G m_LEVELS,
    t_LEVELS := tr_LEVELS,
    a_BLOCKS := A_BLOCKS,
    m_BLOCKS := PySem.W.mg_of X G m_BLOCKS,
    t_BLOCKS := tr_BLOCKS,
    a_COUNT_BITS := A_COUNT_BITS,
    m_COUNT_BITS := PySem.W.mg_of X G m_COUNT_BITS,
    d_COUNT_BITS := Z.kd_mk ld_COUNT_BITS kl_COUNT_BITS,
    u_COUNT_BITS_0 := u_COUNT_BITS_0,
    k_COUNT_BITS_0 := k_COUNT_BITS_0,
    t_COUNT_BITS_0 := tr_COUNT_BITS_0,
    u_COUNT_BITS_1 := u_COUNT_BITS_1,
    k_COUNT_BITS_1 := k_COUNT_BITS_1,
    t_COUNT_BITS_1 := tr_COUNT_BITS_1,
    u_COUNT_BITS_2 := u_COUNT_BITS_2,
    k_COUNT_BITS_2 := k_COUNT_BITS_2,
    t_COUNT_BITS_2 := tr_COUNT_BITS_2,
    n_range := PySem.W.mg_none_of X G z_range,
    n_len := PySem.W.mg_none_of X G z_len,
    n_sum := PySem.W.mg_none_of X G z_sum,
    n_int := PySem.W.mg_none_of X G z_int,
    n_isinstance := PySem.W.mg_none_of X G z_isinstance,
    n_list := PySem.W.mg_none_of X G z_list }
  exact ⟨T.d_law, fun s v => .of_eq rfl, fun base _ _ => ok_law T⟩
end M_k30
open PySem PySem.W PyProof.Rows
set_option maxRecDepth 100000 in
set_option maxHeartbeats 0 in
theorem PySem.Challenge.cw_dotfield_k30_tables_holds : PySem.Challenge.rw_dotfield_k30_tables.Holds := by
  w_on; o_law; k_head; (case hw => w_witness2)
  k_fill
  refine L2.walk_of (l := PySem.Challenge.rw_dotfield_k30_tables) (n := 63) (k := 7) (x := "script") (CX := fun _ => L2.CX0) (sp := fun w => M_k30.sp_law _) rfl (by decide) rfl ⟨rfl, by decide, by decide⟩ (fun w h Y => PySem.W.kIn_of Y) ?F (fun _ _ a ns hl _ hS => ⟨a, ns, rfl, hS, hl, fun _ => rfl⟩) (fun _ _ _ _ _ h => h)
  case F =>
    intro w mg fa h KX G hmg
    refine' M_k30.all_mk KX G hmg ?a0 ?l0 ?c0 ?k0 ?a1 ?l1 ?c1 ?k1 ?a2 ?l2 ?c2 ?k2 ?a3 ?l3 ?c3 ?k3 ?a4 ?l4 ?c4 ?k4 ?a5 ?l5 ?c5 ?k5 ?a6 ?l6 ?c6 ?k6 ?a7 ?l7 ?c7 ?k7 ?a8 ?l8 ?c8 ?k8 ?a9 ?l9 ?c9 ?k9 ?a10 ?l10 ?c10 ?k10 ?a11 ?l11 ?c11 ?k11 ?a12 ?l12 ?c12 ?k12 ?a13 ?l13 ?c13 ?k13 ?a14 ?l14 ?c14 ?k14 ?a15 ?l15 ?c15 ?k15 ?m_LEVELS ?tr_LEVELS ?m_BLOCKS ?tr_BLOCKS ?m_COUNT_BITS ?ld_COUNT_BITS ?kl_COUNT_BITS ?k_COUNT_BITS_0 ?tr_COUNT_BITS_0 ?k_COUNT_BITS_1 ?tr_COUNT_BITS_1 ?k_COUNT_BITS_2 ?tr_COUNT_BITS_2 ?z_range ?z_len ?z_sum ?z_int ?z_isinstance ?z_list
    (case a0 => k_is)
    (case l0 => k_is)
    (case c0 => k_is)
    (case k0 => k_is)
    (case a1 => k_is)
    (case l1 => k_is)
    (case c1 => k_is)
    (case k1 => k_is)
    (case a2 => k_is)
    (case l2 => k_is)
    (case c2 => k_is)
    (case k2 => k_is)
    (case a3 => k_is)
    (case l3 => k_is)
    (case c3 => k_is)
    (case k3 => k_is)
    (case a4 => k_is)
    (case l4 => k_is)
    (case c4 => k_is)
    (case k4 => k_is)
    (case a5 => k_is)
    (case l5 => k_is)
    (case c5 => k_is)
    (case k5 => k_is)
    (case a6 => k_is)
    (case l6 => k_is)
    (case c6 => k_is)
    (case k6 => k_is)
    (case a7 => k_is)
    (case l7 => k_is)
    (case c7 => k_is)
    (case k7 => k_is)
    (case a8 => k_is)
    (case l8 => k_is)
    (case c8 => k_is)
    (case k8 => k_is)
    (case a9 => k_is)
    (case l9 => k_is)
    (case c9 => k_is)
    (case k9 => k_is)
    (case a10 => k_is)
    (case l10 => k_is)
    (case c10 => k_is)
    (case k10 => k_is)
    (case a11 => k_is)
    (case l11 => k_is)
    (case c11 => k_is)
    (case k11 => k_is)
    (case a12 => k_is)
    (case l12 => k_is)
    (case c12 => k_is)
    (case k12 => k_is)
    (case a13 => k_is)
    (case l13 => k_is)
    (case c13 => k_is)
    (case k13 => k_is)
    (case a14 => k_is)
    (case l14 => k_is)
    (case c14 => k_is)
    (case k14 => k_is)
    (case a15 => k_is)
    (case l15 => k_is)
    (case c15 => k_is)
    (case k15 => k_is)
    (case m_LEVELS => k_is)
    (case tr_LEVELS => kernel_rfl)
    (case m_BLOCKS => k_is)
    (case tr_BLOCKS => kernel_rfl)
    (case m_COUNT_BITS => k_is)
    (case ld_COUNT_BITS => k_is)
    (case kl_COUNT_BITS => repeat (first | exact trivial | refine ⟨⟨_, _, rfl, rfl⟩, ?_⟩))
    (case k_COUNT_BITS_0 => k_is)
    (case tr_COUNT_BITS_0 => kernel_rfl)
    (case k_COUNT_BITS_1 => k_is)
    (case tr_COUNT_BITS_1 => kernel_rfl)
    (case k_COUNT_BITS_2 => k_is)
    (case tr_COUNT_BITS_2 => kernel_rfl)
    (case z_range => k_is)
    (case z_len => k_is)
    (case z_sum => k_is)
    (case z_int => k_is)
    (case z_isinstance => k_is)
    (case z_list => k_is)

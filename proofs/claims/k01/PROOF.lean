import PyProof.Rows.All
import Wide.All
import OpenK.AllK
import Wide.FinOn
import HandS.ForMost
import HandS.IsInst
import HandS.Codes
import HandS.Style
import PySem.Challenge.RW_dotfield_k01_bits_written
set_option Elab.async false
set_option linter.all false
set_option maxRecDepth 100000
namespace Z
open PySem PySem.Spec PyProof.Rows L2
/-! ## Readings, step by step (own words over the layer) -/
section
variable {K : PySem.W.Frag} {D : Ends} {H : Hp} {Q : VK} {R : Bool → Hp → Prop}
theorem r_seq {σ : L2.St} {t u : TS} (h : t { D with nx := u D } σ H) : tSeq t u D σ H := h
theorem r_asg {σ : L2.St} {te : TE} {g : TG} (h : te σ H fun x H1 => g x σ H1 D.nx) : tAsg te g D σ H := h
theorem r_gname {σ σ2 : L2.St} {i : Nat} {v : V} {k : L2.St → Hp → Prop} (hs : σ.set i (some v) = σ2) (h : k σ2 H) : gName i v σ H k := by
  subst hs; exact h
theorem r_ret {σ : L2.St} {te : TE} (h : te σ H D.rt) : tRet te D σ H := h
theorem r_retN {σ : L2.St} (h : D.rt .non H) : tRetN D σ H := h
theorem r_drop {σ : L2.St} {te : TE} (h : te σ H fun _ H1 => D.nx σ H1) : tDrop te D σ H := h
theorem r_next {σ : L2.St} (h : D.nx σ H) : tNext D σ H := h
theorem r_brk {σ : L2.St} (h : D.bk σ H) : tBreak D σ H := h
theorem r_cnt {σ : L2.St} (h : D.ct σ H) : tCont D σ H := h
theorem r_if {σ : L2.St} {c : TT} {t u : TS} (h : c σ H fun b H1 => if b = true then t D σ H1 else u D σ H1) : tIfS c t u D σ H := h
theorem r_ifE {σ : L2.St} {c : TT} {t u : TE} (h : c σ H fun b H1 => if b = true then t σ H1 Q else u σ H1 Q) : tIf c t u σ H Q := h
theorem r_test {σ : L2.St} {t : TE} (h : t σ H fun x H' => ∃ k, x = .bl k ∧ R k H') : tTest t σ H R := h
theorem r_tB {σ : L2.St} {t : TE} (h : t σ H fun x H' => ∃ k, x = .bl k ∧ R k H') : tB t σ H R := h
theorem r_bl {b : Bool} {P : Bool → Prop} (q : P b) : ∃ k, V.bl b = V.bl k ∧ P k := ⟨b, rfl, q⟩
theorem r_and {σ : L2.St} {t u : TT} (h : t σ H fun c H1 => if c = true then u σ H1 R else R false H1) : tAnd t u σ H R := h
theorem r_or {σ : L2.St} {t u : TT} (h : t σ H fun c H1 => if c = true then R true H1 else u σ H1 R) : tOr t u σ H R := h
theorem r_not {σ : L2.St} {t : TT} (h : t σ H fun c H1 => R (!c) H1) : tNot t σ H R := h
theorem r_andV {σ : L2.St} {ta tb : TE} (h : ta σ H fun x H1 => ∃ c, x = .bl c ∧ if c = true then tb σ H1 Q else Q (.bl false) H1) : tAndV ta tb σ H Q := h
theorem r_orV {σ : L2.St} {ta tb : TE} (h : ta σ H fun x H1 => ∃ c, x = .bl c ∧ if c = true then Q (.bl true) H1 else tb σ H1 Q) : tOrV ta tb σ H Q := h
theorem r_notV {σ : L2.St} {ta : TE} (h : ta σ H fun x H1 => ∃ c, x = .bl c ∧ Q (.bl (!c)) H1) : tNotV ta σ H Q := h
theorem r_v0 {v : V} {l : List (Option V)} (q : Q v H) : tVar 0 (some v :: l) H Q := ⟨v, rfl, q⟩
theorem r_vS {i : Nat} {x : Option V} {l : List (Option V)} (q : tVar i l H Q) : tVar (i + 1) (x :: l) H Q := q
theorem r_v1 {a : Option V} {v : V} {l : List (Option V)} (q : Q v H) : tVar 1 (a :: some v :: l) H Q := ⟨v, rfl, q⟩
theorem r_v2 {a b : Option V} {v : V} {l : List (Option V)} (q : Q v H) : tVar 2 (a :: b :: some v :: l) H Q := ⟨v, rfl, q⟩
theorem r_var {σ : L2.St} {i : Nat} {v : V} (h : σ[i]? = some (some v)) (q : Q v H) : tVar i σ H Q := ⟨v, h, q⟩
theorem r_c {σ : L2.St} {v : V} (q : Q v H) : tC v σ H Q := q
theorem r_op {σ : L2.St} {r : R2} {ta tb : TE} (h : ta σ H fun x H1 => tb σ H1 fun y H2 => r x y H2 Q) : tOp r ta tb σ H Q := h
theorem r_un {σ : L2.St} {r : V → Hp → VK → Prop} {ta : TE} (h : ta σ H fun x H1 => r x H1 Q) : tUn r ta σ H Q := h
theorem r_chain {σ : L2.St} {r r' : R2} {ta tb tc : TE} (h : ta σ H fun x H1 => tb σ H1 fun y H2 => r x y H2 fun z H3 => ∃ k, z = .bl k ∧ (if k = true then tc σ H3 fun w' H4 => r' y w' H4 Q else Q (.bl false) H3)) : tChain r r' ta tb tc σ H Q := h
theorem r_nil {σ : L2.St} {P : List V → Hp → Prop} (q : P [] H) : tNil σ H P := q
theorem r_cons {σ : L2.St} {ta : TE} {tr : TA} {P : List V → Hp → Prop} (h : ta σ H fun x H1 => tr σ H1 fun xs H2 => P (x :: xs) H2) : tCons ta tr σ H P := h
theorem r_I0 {g : Int → Int → V} {i j : Int} (q : Q (g i j) H) : rI0 g (.int i) (.int j) H Q := ⟨i, j, rfl, rfl, q⟩
theorem r_I {C : Int → Int → Prop} {g : Int → Int → V} {i j : Int} (c : C i j) (q : Q (g i j) H) : rI C g (.int i) (.int j) H Q := ⟨i, j, rfl, rfl, c, q⟩
theorem r_U {g : Int → V} {i : Int} (q : Q (g i) H) : rU g (.int i) H Q := ⟨i, rfl, q⟩
/-- a truth that is not looked into -/
def dB (p : Prop) [Decidable p] : Bool := decide p
theorem dB_t {p : Prop} [Decidable p] (h : p) : dB p = true := decide_eq_true h
theorem dB_f {p : Prop} [Decidable p] (h : ¬ p) : dB p = false := decide_eq_false h
theorem dB_of {p : Prop} [Decidable p] (h : dB p = true) : p := of_decide_eq_true h
theorem dB_iff {p q : Prop} [Decidable p] [Decidable q] (h : p ↔ q) : dB p = dB q := by
  by_cases c : p
  · rw [dB_t c, dB_t (h.mp c)]
  · rw [dB_f c, dB_f (fun z => c (h.mpr z))]
theorem r_lt {i j : Int} (q : Q (.bl (dB (i < j))) H) : rI0 (fun i j => .bl (decide (i < j))) (.int i) (.int j) H Q := ⟨i, j, rfl, rfl, q⟩
theorem r_le {i j : Int} (q : Q (.bl (dB (i ≤ j))) H) : rI0 (fun i j => .bl (decide (i ≤ j))) (.int i) (.int j) H Q := ⟨i, j, rfl, rfl, q⟩
theorem r_gt {i j : Int} (q : Q (.bl (dB (j < i))) H) : rI0 (fun i j => .bl (decide (j < i))) (.int i) (.int j) H Q := ⟨i, j, rfl, rfl, q⟩
theorem r_ge {i j : Int} (q : Q (.bl (dB (j ≤ i))) H) : rI0 (fun i j => .bl (decide (j ≤ i))) (.int i) (.int j) H Q := ⟨i, j, rfl, rfl, q⟩
theorem eq_int (i j : Int) : decide (V.int i = V.int j) = dB (i = j) := by
  unfold dB
  by_cases h : i = j
  · subst h; simp
  · simp [h]
theorem eq_bl (i j : Bool) : decide (V.bl i = V.bl j) = dB (i = j) := by
  unfold dB
  by_cases h : i = j
  · subst h; simp
  · simp [h]
theorem eq_str (i j : Str) : decide (V.str i = V.str j) = dB (i = j) := by
  unfold dB
  by_cases h : i = j
  · subst h; simp
  · simp [h]
theorem not_dB (p : Prop) [Decidable p] : (!dB p) = dB (¬ p) := by
  by_cases h : p
  · rw [dB_t h, dB_f (fun z => z h)]; rfl
  · rw [dB_f h, dB_t h]; rfl
theorem r_eqI {i j : Int} (q : Q (.bl (dB (i = j))) H) : rEq (.int i) (.int j) H Q := ⟨rfl, by rw [eq_int]; exact q⟩
theorem r_neI {i j : Int} (q : Q (.bl (dB (¬ i = j))) H) : rNe (.int i) (.int j) H Q := ⟨rfl, by rw [eq_int, not_dB]; exact q⟩
theorem r_eqB {i j : Bool} (q : Q (.bl (dB (i = j))) H) : rEq (.bl i) (.bl j) H Q := ⟨rfl, by rw [eq_bl]; exact q⟩
theorem r_neB {i j : Bool} (q : Q (.bl (dB (¬ i = j))) H) : rNe (.bl i) (.bl j) H Q := ⟨rfl, by rw [eq_bl, not_dB]; exact q⟩
theorem r_eqS {i j : Str} (q : Q (.bl (dB (i = j))) H) : rEq (.str i) (.str j) H Q := ⟨rfl, by rw [eq_str]; exact q⟩
theorem r_neS {i j : Str} (q : Q (.bl (dB (¬ i = j))) H) : rNe (.str i) (.str j) H Q := ⟨rfl, by rw [eq_str, not_dB]; exact q⟩
/-! tests that are decided -/
theorem i_t {A B : Prop} (h : A) : if true = true then A else B := h
theorem i_f {A B : Prop} (h : B) : if false = true then A else B := by rw [if_neg Bool.false_ne_true]; exact h
theorem i_2 {p : Prop} [Decidable p] {A B : Prop} (h1 : p → A) (h2 : ¬ p → B) : if dB p = true then A else B := by
  by_cases h : p
  · rw [dB_t h]; exact h1 h
  · rw [dB_f h, if_neg Bool.false_ne_true]; exact h2 h
theorem i_2n {p : Prop} [Decidable p] {A B : Prop} (h1 : ¬ p → A) (h2 : p → B) : if (!dB p) = true then A else B := by
  by_cases h : p
  · rw [dB_t h]; exact i_f (h2 h)
  · rw [dB_f h]; exact i_t (h1 h)
theorem i_2b {b : Bool} {A B : Prop} (h1 : b = true → A) (h2 : b = false → B) : if b = true then A else B := by
  cases b with
  | true => exact h1 rfl
  | false => exact i_f (h2 rfl)
theorem i_dt {p : Prop} [Decidable p] {A B : Prop} (h : p) (a : A) : if dB p = true then A else B := by rw [dB_t h]; exact a
theorem i_df {p : Prop} [Decidable p] {A B : Prop} (h : ¬ p) (b : B) : if dB p = true then A else B := by rw [dB_f h, if_neg Bool.false_ne_true]; exact b
theorem i_dtn {p : Prop} [Decidable p] {A B : Prop} (h : ¬ p) (a : A) : if (!dB p) = true then A else B := by rw [dB_f h]; exact a
theorem i_dfn {p : Prop} [Decidable p] {A B : Prop} (h : p) (b : B) : if (!dB p) = true then A else B := by rw [dB_t h]; exact i_f b
theorem i_nt {A B : Prop} (h : A) : if (!false) = true then A else B := h
theorem i_nf {A B : Prop} (h : B) : if (!true) = true then A else B := i_f h
theorem kx {CX : CXT} {P : Program} {w : World} {K : PySem.W.Frag} {mg : Str → Option Value} {base : Heap} {N : List Str} {qual : Str} {scope : Scope} {f : Addr} {cd : Value} {A : Around} {outer : List Env} {s : Shared} {H : Hp} {E : XK} :
    (cxOf CX P w K mg base N qual scope f cd A outer s H E).K = K := rfl
/-! heaps -/
theorem s_at {H H' : Hp} {a : Addr} {o : HO} (s : Same H H') (h : H a = some o) : H' a = some o := s _ _ h
theorem s_upd {H : Hp} {p : Addr} {o : HO} (h : H p = none) : Same H (upd H p o) := fun b x e => by
  rw [upd_ne (ne_of_none e h)]
  exact e
/-- an object that H does not know may change -/
theorem s_mut {H H' : Hp} {p : Addr} {o : HO} (e : Same H H') (h : H p = none) : Same H (upd H' p o) := fun a u ha => by
  rw [upd_ne (ne_of_none ha h)]
  exact e a u ha
theorem s_back {H H' : Hp} {p : Addr} (e : Same H H') (h : H' p = none) : H p = none := e.free h
theorem ne_of' {H : Hp} {a b : Addr} {o : HO} (h' : H b = none) (h : H a = some o) : a ≠ b := ne_of_none h h'
theorem ne_new {H H' : Hp} {a b : Addr} {o : HO} (h : H a = some o) (s : Same H H') (h' : H' b = none) : a ≠ b := ne_of_none (s _ _ h) h'
theorem sq_l {H : Hp} {a : Addr} {xs : List V} (h : H a = some (.lst xs)) : SqL K H a xs := .inl (.inl h)
theorem sq_t {H : Hp} {a : Addr} {xs : List V} (h : H a = some (.tup xs)) : SqT K H a xs := .inl (.inl h)
theorem s_sq {H H' : Hp} {a : Addr} {xs : List V} (s : Same H H') (h : SqL K H a xs) : SqL K H' a xs := s.seq h
theorem s_rd {H H' : Hp} {a : Addr} {u : HO} (e : Same H H') (h : Rd H a u) : Rd H' a u := by
  rcases h with h | ⟨o, h⟩
  · exact .inl (e a _ h)
  · exact .inr ⟨o, e a _ h⟩
theorem s_st {H H' : Hp} {a : Addr} {xs : List V} (s : Same H H') (h : SqT K H a xs) : SqT K H' a xs := by
  rcases h with h | h
  · exact .inl (s_rd s h)
  · exact .inr h
theorem sz {n : Nat} (h : n ≤ 100000) : n ≤ sizeLine := Nat.le_trans h (by decide)
theorem szl {n : Nat} (h : n < 100000) : n < sizeLine := Nat.lt_of_lt_of_le h (by decide)
/-! lists -/
theorem r_ixL {p : Addr} {xs : List V} {i : Int} {v : V} (h : SqL K H p xs) (ha : atI xs i = some v) (q : Q v H) : rIxL K (.ref p) (.int i) H Q := ⟨p, xs, i, v, rfl, rfl, h, ha, q⟩
theorem r_ixT {p : Addr} {xs : List V} {i : Int} {v : V} (h : SqT K H p xs) (ha : atI xs i = some v) (q : Q v H) : rIxT K (.ref p) (.int i) H Q := ⟨p, xs, i, v, rfl, rfl, h, ha, q⟩
theorem r_new {σ : L2.St} {t : TA} (h : t σ H fun xs H1 => xs.length ≤ sizeLine ∧ ∀ p, H1 p = none → Q (.ref p) (upd H1 p (.lst xs))) : tLst t σ H Q := h
theorem r_tup {σ : L2.St} {t : TA} (h : t σ H fun xs H1 => xs.length ≤ sizeLine ∧ ∀ p, H1 p = none → Q (.ref p) (upd H1 p (.tup xs))) : tTup t σ H Q := h
theorem r_cb {σ : L2.St} {r : List V → Hp → VK → Prop} {t : TA} (h : t σ H fun vs H1 => r vs H1 Q) : tCB r t σ H Q := h
theorem r_call {σ : L2.St} {sp : Sp} {E : XK} {t : TA} (h : t σ H fun vs H1 => sp (vs ++ []) H1 Q E) : tCall sp [] E t σ H Q := h
theorem r_bm {σ : L2.St} {T : String} {r : V → List V → Hp → VK → Prop} {to : TE} {t : TA} (h : to σ H fun x H1 => tyV K T x H1 ∧ t σ H1 fun xs H2 => r x xs H2 Q) : tBM K T r to t σ H Q := h
theorem ty_lst {x : Addr} {xs : List V} {P : Prop} (h : SqL K H x xs) (q : P) : tyV K "list" (.ref x) H ∧ P := ⟨Or.inl ⟨rfl, xs, h⟩, q⟩
theorem r_append {l : Addr} {xs : List V} {y : V} (h : H l = some (.lst xs)) (z : xs.length < sizeLine) (q : Q .non (upd H l (.lst (xs ++ [y])))) : rAppend (.ref l) [y] H Q := ⟨l, xs, y, rfl, rfl, h, z, q⟩
def cLen (K : PySem.W.Frag) : List V → Hp → VK → Prop := fun xs H Q => ∃ p ys, xs = [.ref p] ∧ (SqL K H p ys ∨ SqT K H p ys) ∧ Q (.int ys.length) H
theorem call_len {X : Cx} : CallR X (.builtin "len") (cLen X.K) := call_len_seq
theorem r_lenL {p : Addr} {ys : List V} (h : SqL K H p ys) (q : Q (.int ys.length) H) : cLen K [.ref p] H Q := ⟨p, ys, rfl, .inl h, q⟩
theorem r_lenT {p : Addr} {ys : List V} (h : SqT K H p ys) (q : Q (.int ys.length) H) : cLen K [.ref p] H Q := ⟨p, ys, rfl, .inr h, q⟩
def cInt : List V → Hp → VK → Prop := fun xs H Q => (∃ i, xs = [.int i] ∧ Q (.int i) H) ∨ ∃ k, xs = [.bl k] ∧ Q (.int (if k then 1 else 0)) H
theorem call_int {X : Cx} : CallR X (.type "int") cInt := call_int1
theorem r_int {i : Int} (q : Q (.int i) H) : cInt [.int i] H Q := .inl ⟨i, rfl, q⟩
def cIsN : R2 := fun x y H Q => y = .non ∧ Q (.bl (decide (x = .non))) H
def cNotN : R2 := fun x y H Q => y = .non ∧ Q (.bl (!decide (x = .non))) H
theorem op_isN {X : Cx} : OpR X (compareOp .Is) cIsN := L2.op_isN
theorem op_notN {X : Cx} : OpR X (compareOp .IsNot) cNotN := L2.op_notN
theorem r_notN {x : V} (q : Q (.bl (!dB (x = .non))) H) : cNotN x .non H Q := ⟨rfl, q⟩
theorem r_isN {x : V} (q : Q (.bl (dB (x = .non))) H) : cIsN x .non H Q := ⟨rfl, q⟩
theorem r_isi {x c : V} {t u : Value} {b : Bool} (h1 : ClsV c u) (h2 : TyX K H x t) (h3 : PySem.W.kitOne K t u = some b) (q : Q (.bl b) H) : rIsi K [x, c] H Q := ⟨x, c, t, u, b, rfl, h1, h2, h3, q⟩
/-! slices -/
theorem r_sl {σ : L2.St} {r : V → Option Int → Option Int → Hp → VK → Prop} {te : TE} {tl th : TO} (h : te σ H fun x H1 => tl σ H1 fun l H2 => th σ H2 fun u H3 => r x l u H3 Q) : tSl r te tl th σ H Q := h
theorem r_noPart {σ : L2.St} {P : Option Int → Hp → Prop} (q : P none H) : tNoPart σ H P := q
theorem r_part {σ : L2.St} {t : TE} {P : Option Int → Hp → Prop} (h : t σ H fun x H1 => ∃ i, x = .int i ∧ P (some i) H1) : tPart t σ H P := h
theorem r_pint {i : Int} {P : Int → Prop} (q : P i) : ∃ j, V.int i = .int j ∧ P j := ⟨i, rfl, q⟩
theorem r_slL {a : Addr} {xs : List V} {lo hi : Option Int} (h : SqL K H a xs) (q : ∀ p, H p = none → Q (.ref p) (upd H p (.lst (cutV xs lo hi)))) : rSlL K (.ref a) lo hi H Q := ⟨a, xs, rfl, h, q⟩
theorem r_aug {σ σ2 : L2.St} {i : Nat} {te : TE} {ti : TIp} {x : V} (hx : σ[i]? = some (some x)) (h : te σ H fun y H1 => ti x y H1 fun z H2 => D.nx (σ.set i (some z)) H2) : tAug i te ti D σ H := ⟨x, hx, h⟩
/-! loops -/
theorem for_lst {σ : L2.St} {tl : TE} {g : TG} {tb : TS} (h : tl σ H fun x H1 => ∃ a, x = .ref a ∧ (∃ xs, SqL K H1 a xs) ∧ ∃ W : Nat → Nat → L2.St → Hp → Prop, (∃ m, W 0 m σ H1) ∧ ∀ i m σ H, W i m σ H →
  ((Itl K a).stop i H ∧ D.nx σ H) ∨ ((Itl K a).go i H ∧ ∃ N : L2.St → Hp → Prop, (∀ σ' H', N σ' H' → ∃ m', m' < m ∧ W (i + 1) m' σ' H') ∧ ∀ x H', (Itl K a).yld i H x H' → g x σ H' fun σ2 H2 => tb { D with nx := N, ct := N, bk := D.nx } σ2 H2)) : tFor (iList K tl) g tb D σ H := h
theorem lst_go {σ : L2.St} {a : Addr} {xs : List V} {g : TG} {tb : TS} (hs0 : SqL K H a xs) (Pv : Nat → L2.St → Hp → Prop) (h0 : Pv 0 σ H) (hl : ∀ i σ H, i ≤ xs.length → Pv i σ H → SqL K H a xs)
    (hs : ∀ i x σ H, xs[i]? = some x → Pv i σ H → g x σ H fun σ2 H2 => tb { D with nx := Pv (i + 1), ct := Pv (i + 1), bk := D.nx } σ2 H2) (hd : ∀ σ H, Pv xs.length σ H → D.nx σ H) :
    ∃ a', V.ref a = .ref a' ∧ (∃ xs, SqL K H a' xs) ∧ ∃ W : Nat → Nat → L2.St → Hp → Prop, (∃ m, W 0 m σ H) ∧ ∀ i m σ H, W i m σ H →
  ((Itl K a').stop i H ∧ D.nx σ H) ∨ ((Itl K a').go i H ∧ ∃ N : L2.St → Hp → Prop, (∀ σ' H', N σ' H' → ∃ m', m' < m ∧ W (i + 1) m' σ' H') ∧ ∀ x H', (Itl K a').yld i H x H' → g x σ H' fun σ2 H2 => tb { D with nx := N, ct := N, bk := D.nx } σ2 H2) :=
  ⟨a, rfl, ⟨xs, hs0⟩, for_list (K := K) Pv h0 hl hs hd⟩
theorem for_rng {σ : L2.St} {ta : TA} {g : TG} {tb : TS} (h : ta σ H fun vs H1 => ∃ j : Int, vs = [.int j] ∧ -(2 ^ 62) ≤ j ∧ j < 2 ^ 62 ∧ ∃ W : Nat → Nat → L2.St → Hp → Prop, (∃ m, W 0 m σ H1) ∧ ∀ i m σ H, W i m σ H →
  ((Itr 0 j.toNat).stop i H ∧ D.nx σ H) ∨ ((Itr 0 j.toNat).go i H ∧ ∃ N : L2.St → Hp → Prop, (∀ σ' H', N σ' H' → ∃ m', m' < m ∧ W (i + 1) m' σ' H') ∧ ∀ x H', (Itr 0 j.toNat).yld i H x H' → g x σ H' fun σ2 H2 => tb { D with nx := N, ct := N, bk := D.nx } σ2 H2)) : tFor (iRng1 ta) g tb D σ H := h
theorem rng_go {σ : L2.St} {j : Int} {g : TG} {tb : TS} (n : Nat) (hj : j.toNat = n) (hb : -(2 ^ 62) ≤ j ∧ j < 2 ^ 62) (Pv : Nat → L2.St → Hp → Prop) (h0 : Pv 0 σ H)
    (hs : ∀ i σ H, i < n → Pv i σ H → g (.int (i : Nat)) σ H fun σ2 H2 => tb { D with nx := Pv (i + 1), ct := Pv (i + 1), bk := D.nx } σ2 H2) (hd : ∀ σ H, Pv n σ H → D.nx σ H) :
    ∃ j' : Int, [V.int j] = [.int j'] ∧ -(2 ^ 62) ≤ j' ∧ j' < 2 ^ 62 ∧ ∃ W : Nat → Nat → L2.St → Hp → Prop, (∃ m, W 0 m σ H) ∧ ∀ i m σ H, W i m σ H →
  ((Itr 0 j'.toNat).stop i H ∧ D.nx σ H) ∨ ((Itr 0 j'.toNat).go i H ∧ ∃ N : L2.St → Hp → Prop, (∀ σ' H', N σ' H' → ∃ m', m' < m ∧ W (i + 1) m' σ' H') ∧ ∀ x H', (Itr 0 j'.toNat).yld i H x H' → g x σ H' fun σ2 H2 => tb { D with nx := N, ct := N, bk := D.nx } σ2 H2) := by
  subst hj
  refine ⟨j, rfl, hb.1, hb.2, for_range (lo := 0) Pv h0 (fun i σ H hi p => ?_) hd⟩
  have e : (0 : Int) + (i : Nat) = (i : Nat) := Int.zero_add _
  rw [e]
  exact hs i σ H hi p
theorem for_rng2 {σ : L2.St} {ta : TA} {g : TG} {tb : TS} (h : ta σ H fun vs H1 => ∃ i j : Int, vs = [.int i, .int j] ∧ (-(2 ^ 62) ≤ i ∧ i < 2 ^ 62 ∧ -(2 ^ 62) ≤ j ∧ j < 2 ^ 62) ∧ ∃ W : Nat → Nat → L2.St → Hp → Prop, (∃ m, W 0 m σ H1) ∧ ∀ k m σ H, W k m σ H →
  ((Itr i (j - i).toNat).stop k H ∧ D.nx σ H) ∨ ((Itr i (j - i).toNat).go k H ∧ ∃ N : L2.St → Hp → Prop, (∀ σ' H', N σ' H' → ∃ m', m' < m ∧ W (k + 1) m' σ' H') ∧ ∀ x H', (Itr i (j - i).toNat).yld k H x H' → g x σ H' fun σ2 H2 => tb { D with nx := N, ct := N, bk := D.nx } σ2 H2)) : tFor (iRng2 ta) g tb D σ H := h
theorem rng_go2 {σ : L2.St} {a j : Int} {g : TG} {tb : TS} (n : Nat) (hj : (j - a).toNat = n) (hb : -(2 ^ 62) ≤ a ∧ a < 2 ^ 62 ∧ -(2 ^ 62) ≤ j ∧ j < 2 ^ 62) (Pv : Nat → L2.St → Hp → Prop) (h0 : Pv 0 σ H)
    (hs : ∀ i σ H, i < n → Pv i σ H → g (.int (a + (i : Nat))) σ H fun σ2 H2 => tb { D with nx := Pv (i + 1), ct := Pv (i + 1), bk := D.nx } σ2 H2) (hd : ∀ σ H, Pv n σ H → D.nx σ H) :
    ∃ i' j' : Int, [V.int a, V.int j] = [.int i', .int j'] ∧ (-(2 ^ 62) ≤ i' ∧ i' < 2 ^ 62 ∧ -(2 ^ 62) ≤ j' ∧ j' < 2 ^ 62) ∧ ∃ W : Nat → Nat → L2.St → Hp → Prop, (∃ m, W 0 m σ H) ∧ ∀ k m σ H, W k m σ H →
  ((Itr i' (j' - i').toNat).stop k H ∧ D.nx σ H) ∨ ((Itr i' (j' - i').toNat).go k H ∧ ∃ N : L2.St → Hp → Prop, (∀ σ' H', N σ' H' → ∃ m', m' < m ∧ W (k + 1) m' σ' H') ∧ ∀ x H', (Itr i' (j' - i').toNat).yld k H x H' → g x σ H' fun σ2 H2 => tb { D with nx := N, ct := N, bk := D.nx } σ2 H2) := by
  subst hj
  exact ⟨a, j, rfl, hb, for_range (lo := a) Pv h0 hs hd⟩
end
theorem for_enum {D : Ends} {H : Hp} {K : PySem.W.Frag} {σ : L2.St} {ta : TA} {g : TG} {tb : TS} (h : ta σ H fun vs H1 => ∃ a xs, vs = [.ref a] ∧ SqL K H1 a xs ∧ ∃ W : Nat → Nat → L2.St → Hp → Prop, (∃ m, W 0 m σ H1) ∧ ∀ i m σ H, W i m σ H →
  ((Ite K a).stop i H ∧ D.nx σ H) ∨ ((Ite K a).go i H ∧ ∃ N : L2.St → Hp → Prop, (∀ σ' H', N σ' H' → ∃ m', m' < m ∧ W (i + 1) m' σ' H') ∧ ∀ x H', (Ite K a).yld i H x H' → g x σ H' fun σ2 H2 => tb { D with nx := N, ct := N, bk := D.nx } σ2 H2)) : tFor (iEnum K ta) g tb D σ H := h
theorem enum_go {D : Ends} {H : Hp} {K : PySem.W.Frag} {σ : L2.St} {a : Addr} {xs : List V} {g : TG} {tb : TS} (hs0 : SqL K H a xs) (Pv : Nat → L2.St → Hp → Prop) (h0 : Pv 0 σ H) (hl : ∀ i σ H, i ≤ xs.length → Pv i σ H → SqL K H a xs)
    (hs : ∀ i x σ H T, xs[i]? = some x → Pv i σ H → H T = none → g (.ref T) σ (upd H T (.tup [.int (i : Nat), x])) fun σ2 H2 => tb { D with nx := Pv (i + 1), ct := Pv (i + 1), bk := D.nx } σ2 H2) (hd : ∀ σ H, Pv xs.length σ H → D.nx σ H) :
    ∃ a' xs', [V.ref a] = [.ref a'] ∧ SqL K H a' xs' ∧ ∃ W : Nat → Nat → L2.St → Hp → Prop, (∃ m, W 0 m σ H) ∧ ∀ i m σ H, W i m σ H →
  ((Ite K a').stop i H ∧ D.nx σ H) ∨ ((Ite K a').go i H ∧ ∃ N : L2.St → Hp → Prop, (∀ σ' H', N σ' H' → ∃ m', m' < m ∧ W (i + 1) m' σ' H') ∧ ∀ x H', (Ite K a').yld i H x H' → g x σ H' fun σ2 H2 => tb { D with nx := N, ct := N, bk := D.nx } σ2 H2) := by
  refine ⟨a, xs, rfl, hs0, fun i m σ H => m = xs.length - i ∧ i ≤ xs.length ∧ Pv i σ H, ⟨xs.length, by simp, Nat.zero_le _, h0⟩, ?_⟩
  rintro i m σ H ⟨rfl, hi, p⟩
  have q := hl i σ H hi p
  by_cases hlt : i < xs.length
  · refine .inr ⟨⟨xs, xs[i], q, by simp [hlt]⟩, Pv (i + 1), fun σ' H' p' => ⟨xs.length - (i + 1), by omega, rfl, hlt, p'⟩, fun x H' y => ?_⟩
    obtain ⟨T, x, rfl, hT, rfl, hx⟩ := y
    exact hs i x σ H T (hx xs q) p hT
  · have e : i = xs.length := by omega
    subst e
    exact .inl ⟨⟨xs, q, Nat.le_refl _⟩, hd σ H p⟩
theorem r_pair {H : Hp} {K : PySem.W.Frag} {σ σ2 : L2.St} {i j : Nat} {T : Addr} {x y : V} {k : L2.St → Hp → Prop} (hT : H T = some (.tup [x, y])) (hs : (σ.set i (some x)).set j (some y) = σ2) (h : k σ2 H) :
    gTup K 2 (gCons (gName i) (gCons (gName j) gNil)) (.ref T) σ H k := by
  subst hs
  exact ⟨T, [x, y], rfl, .inl (.inl hT), rfl, x, [y], rfl, y, [], rfl, rfl, h⟩
theorem r_three {H : Hp} {K : PySem.W.Frag} {σ σ2 : L2.St} {i j l : Nat} {T : Addr} {x y z : V} {k : L2.St → Hp → Prop} (hT : H T = some (.tup [x, y, z])) (hs : ((σ.set i (some x)).set j (some y)).set l (some z) = σ2) (h : k σ2 H) :
    gTup K 3 (gCons (gName i) (gCons (gName j) (gCons (gName l) gNil))) (.ref T) σ H k := by
  subst hs
  exact ⟨T, [x, y, z], rfl, .inl (.inl hT), rfl, x, [y, z], rfl, y, [z], rfl, z, [], rfl, rfl, h⟩
theorem r_gsub {H : Hp} {σ : L2.St} {to ti : TE} {t : TSet} {v : V} {k : L2.St → Hp → Prop} (h : to σ H fun o H1 => ti σ H1 fun i H2 => t o i v H2 fun H3 => k σ H3) : gSub to ti t v σ H k := h
theorem r_setL {H : Hp} {p : Addr} {xs : List V} {k : Int} {j : Nat} {v : V} {Q : Hp → Prop} (hp : H p = some (.lst xs)) (e : k = (j : Int)) (hj : j < xs.length) (q : Q (upd H p (.lst (xs.set j v)))) : rSetL (.ref p) (.int k) v H Q := by
  subst e
  refine ⟨p, xs, (j : Int), j, rfl, rfl, hp, ?_, q⟩
  unfold ixN
  rw [if_pos (by omega), if_pos (by omega), Int.toNat_natCast]
theorem r_rep {H : Hp} {Q : VK} {l : Addr} {k : Int} {v : V} (hl : H l = some (.lst [v])) (h1 : -(2 ^ 63) ≤ k) (h2 : k < 100000) (q : ∀ p, H p = none → Q (.ref p) (upd H p (.lst (List.replicate k.toNat v)))) : rRep (.ref l) (.int k) H Q := by
  refine ⟨l, k, [v], rfl, rfl, hl, h1, Int.lt_trans h2 (by decide), sz (by show 1 * k.toNat ≤ 100000; omega), fun p hp => ?_⟩
  have e : (List.replicate k.toNat [v]).flatten = List.replicate k.toNat v := by
    generalize k.toNat = n
    induction n with
    | zero => rfl
    | succ n ih => rw [List.replicate_succ, List.flatten_cons, ih, List.replicate_succ]; rfl
  rw [e]
  exact q p hp
theorem r_cat {H : Hp} {Q : VK} {l b : Addr} {xs zs : List V} (hl : H l = some (.lst xs)) (hb : H b = some (.lst zs)) (hz : xs.length + zs.length ≤ 100000) (q : ∀ p, H p = none → Q (.ref p) (upd H p (.lst (xs ++ zs)))) : rCat (.ref l) (.ref b) H Q :=
  ⟨l, b, xs, zs, rfl, rfl, hl, hb, sz hz, q⟩
def cList (K : PySem.W.Frag) : List V → Hp → VK → Prop := fun xs H Q => ∃ p ys, xs = [.ref p] ∧ (SqL K H p ys ∨ SqT K H p ys) ∧ ∀ l, H l = none → Q (.ref l) (upd H l (.lst ys))
theorem call_list {X : Cx} : CallR X (.type "list") (cList X.K) := call_list_of
theorem r_list {H : Hp} {K : PySem.W.Frag} {Q : VK} {p : Addr} {ys : List V} (h : SqL K H p ys) (q : ∀ l, H l = none → Q (.ref l) (upd H l (.lst ys))) : cList K [.ref p] H Q := ⟨p, ys, rfl, .inl h, q⟩
theorem r_intB {H : Hp} {Q : VK} {b : Bool} (q : Q (.int (if b then 1 else 0)) H) : cInt [.bl b] H Q := .inr ⟨b, rfl, q⟩
/-! two lists of ints compared -/
theorem dp_ints {K : PySem.W.Frag} {H : Hp} : ∀ ns : List Int, DpAll K H (ns.map V.int) (ns.map PyData.int)
  | [] => .nil
  | n :: r => .cons (.int n) (dp_ints r)
theorem depth_ints : ∀ ns : List Int, PyData.depthAll (ns.map PyData.int) = 0
  | [] => rfl
  | n :: r => by
    show max 0 (PyData.depthAll (r.map PyData.int)) = 0
    rw [depth_ints r]; rfl
theorem lay_ints : ∀ ns : List Int, PyData.canLayAll0 (ns.map PyData.int) = true
  | [] => rfl
  | n :: r => by
    show (true && PyData.canLayAll0 (r.map PyData.int)) = true
    rw [lay_ints r]; rfl
theorem shaped_ints (ns : List Int) : SeqAt.shaped (.list (ns.map PyData.int)) = true := by
  have h1 : (PyData.list (ns.map PyData.int)).canLay0 = true := lay_ints ns
  have h2 : (PyData.list (ns.map PyData.int)).depth ≤ 64 := by
    show PyData.depthAll (ns.map PyData.int) + 1 ≤ 64
    rw [depth_ints ns]; decide
  unfold SeqAt.shaped
  rw [h1, decide_eq_true h2]; rfl
theorem eqv_ints : ∀ ns : List Int, PyData.eqv (.list (ns.map PyData.int)) (.list (ns.map PyData.int)) = true := by
  intro ns
  unfold PyData.eqv
  induction ns with
  | nil => rfl
  | cons n r ih => simp [PyData.eqvAll, PyData.eqv, ih]
theorem r_eqL {H : Hp} {K : PySem.W.Frag} {Q : VK} {a b : Addr} {ns : List Int} (ha : SqL K H a (ns.map V.int)) (hb : SqL K H b (ns.map V.int)) (q : Q (.bl true) H) : rEqD K (.ref a) (.ref b) H Q :=
  ⟨_, _, .lst ha (dp_ints ns), .lst hb (dp_ints ns), shaped_ints ns, shaped_ints ns, by rw [eqv_ints]; exact q⟩
theorem eqv_ints2 : ∀ ns ms : List Int, PyData.eqv (.list (ns.map PyData.int)) (.list (ms.map PyData.int)) = dB (ns = ms) := by
  intro ns
  induction ns with
  | nil =>
    intro ms
    cases ms with
    | nil => rw [dB_t rfl]; simp [PyData.eqv, PyData.eqvAll]
    | cons m r => rw [dB_f (by simp)]; simp [PyData.eqv, PyData.eqvAll]
  | cons n ns ih =>
    intro ms
    cases ms with
    | nil => rw [dB_f (by simp)]; simp [PyData.eqv, PyData.eqvAll]
    | cons m r =>
      have i2 := ih r
      unfold PyData.eqv at i2
      have e : PyData.eqv (.list ((n :: ns).map PyData.int)) (.list ((m :: r).map PyData.int)) = ((n == m) && PyData.eqv (.list (ns.map PyData.int)) (.list (r.map PyData.int))) := by
        unfold PyData.eqv
        simp [PyData.eqvAll, PyData.eqv]
      rw [e, ih r]
      by_cases h : n = m
      · subst h
        by_cases h2 : ns = r
        · subst h2; rw [dB_t rfl, dB_t rfl]; simp
        · rw [dB_f h2, dB_f (by intro z; injection z with _ z; exact h2 z)]; simp
      · rw [dB_f (p := n :: ns = m :: r) (by intro z; injection z with z _; exact h z)]; simp [h]
theorem r_eqL2 {H : Hp} {K : PySem.W.Frag} {Q : VK} {a b : Addr} {ns ms : List Int} (ha : SqL K H a (ns.map V.int)) (hb : SqL K H b (ms.map V.int)) (q : Q (.bl (dB (ns = ms))) H) : rEqD K (.ref a) (.ref b) H Q :=
  ⟨_, _, .lst ha (dp_ints ns), .lst hb (dp_ints ms), shaped_ints ns, shaped_ints ms, by rw [eqv_ints2]; exact q⟩
theorem r_sum {K : PySem.W.Frag} {H : Hp} {Q : VK} {a : Addr} {ns : List Int} (h : SqL K H a (ns.map V.int)) (q : Q (.int ns.sum) H) : rSum K [.ref a] H Q := ⟨a, ns, rfl, h, q⟩
/-! comprehensions whose elements leave all as it was -/
theorem lc_rng {H : Hp} {Q : VK} {σ : L2.St} {ta : TA} {g : TG} {tt : TT} {te : TE} {vs : List Nat} (h : ta σ H fun ws H1 => ∃ j : Int, ws = [V.int j] ∧ -(2 ^ 62) ≤ j ∧ j < 2 ^ 62 ∧ ∀ D, H1 D = none → ∃ W : Nat → Nat → Hp → Prop, (∃ m, W 0 m (upd H1 D (.lst []))) ∧ ∀ i m H, W i m H →
  ((Itr 0 j.toNat).stop i H ∧ Q (.ref D) H) ∨ ((Itr 0 j.toNat).go i H ∧ ∃ Nx : Hp → Prop, (∀ H', Nx H' → ∃ m', m' < m ∧ W (i + 1) m' H') ∧ ∀ x H', (Itr 0 j.toNat).yld i H x H' → g x (wipe σ vs) H' fun σ2 H2 => wipe σ2 vs = wipe σ vs ∧ tt σ2 H2 fun b H3 =>
    if b = true then te σ2 H3 fun y H4 => ∃ acc, H4 D = some (.lst acc) ∧ acc.length < sizeLine ∧ Nx (upd H4 D (.lst (acc ++ [y]))) else Nx H3)) : tLc (iRng1 ta) g tt te vs σ H Q := h
theorem lc_lst {H : Hp} {K : PySem.W.Frag} {Q : VK} {σ : L2.St} {tl : TE} {g : TG} {tt : TT} {te : TE} {vs : List Nat} (h : tl σ H fun x H1 => ∃ a, x = .ref a ∧ (∃ xs, SqL K H1 a xs) ∧ ∀ D, H1 D = none → ∃ W : Nat → Nat → Hp → Prop, (∃ m, W 0 m (upd H1 D (.lst []))) ∧ ∀ i m H, W i m H →
  ((Itl K a).stop i H ∧ Q (.ref D) H) ∨ ((Itl K a).go i H ∧ ∃ Nx : Hp → Prop, (∀ H', Nx H' → ∃ m', m' < m ∧ W (i + 1) m' H') ∧ ∀ x H', (Itl K a).yld i H x H' → g x (wipe σ vs) H' fun σ2 H2 => wipe σ2 vs = wipe σ vs ∧ tt σ2 H2 fun b H3 =>
    if b = true then te σ2 H3 fun y H4 => ∃ acc, H4 D = some (.lst acc) ∧ acc.length < sizeLine ∧ Nx (upd H4 D (.lst (acc ++ [y]))) else Nx H3)) : tLc (iList K tl) g tt te vs σ H Q := h
theorem lcr_pure {H1 : Hp} {Qd : Addr → Hp → Prop} {σ : L2.St} {te : TE} {vs : List Nat} {sl : Nat} {j : Int} (n : Nat) (f : Nat → V) (hj : j.toNat = n) (hb : -(2 ^ 62) ≤ j ∧ j < 2 ^ 62) (hz : n ≤ 100000) (hw : ∀ v : Option V, wipe ((wipe σ vs).set sl v) vs = wipe σ vs)
    (hs : ∀ i H2, i < n → Same H1 H2 → ∀ k : VK, (∀ H5, Same H2 H5 → k (f i) H5) → te ((wipe σ vs).set sl (some (V.int (i : Nat)))) H2 k)
    (hd : ∀ D H2, H1 D = none → Same H1 H2 → H2 D = some (.lst ((List.range n).map f)) → Qd D H2) :
    ∃ j' : Int, [V.int j] = [V.int j'] ∧ -(2 ^ 62) ≤ j' ∧ j' < 2 ^ 62 ∧ ∀ D, H1 D = none → ∃ W : Nat → Nat → Hp → Prop, (∃ m, W 0 m (upd H1 D (.lst []))) ∧ ∀ i m H, W i m H →
  ((Itr 0 j'.toNat).stop i H ∧ Qd D H) ∨ ((Itr 0 j'.toNat).go i H ∧ ∃ Nx : Hp → Prop, (∀ H', Nx H' → ∃ m', m' < m ∧ W (i + 1) m' H') ∧ ∀ x H', (Itr 0 j'.toNat).yld i H x H' → gName sl x (wipe σ vs) H' fun σ2 H2 => wipe σ2 vs = wipe σ vs ∧ tYes σ2 H2 fun b H3 =>
    if b = true then te σ2 H3 fun y H4 => ∃ acc, H4 D = some (.lst acc) ∧ acc.length < sizeLine ∧ Nx (upd H4 D (.lst (acc ++ [y]))) else Nx H3) := by
  refine ⟨j, rfl, hb.1, hb.2, fun D hD => ?_⟩
  subst hj
  refine lc_range (lo := 0) (fun i H2 => Same H1 H2 ∧ H2 D = some (.lst ((List.range i).map f))) ⟨s_upd hD, upd_same⟩ (fun i H2 hi ⟨s2, hl⟩ => ?_) (fun H2 ⟨s2, hl⟩ => hd D H2 hD s2 hl)
  have e : (0 : Int) + (i : Nat) = (i : Nat) := Int.zero_add _
  rw [e]
  refine ⟨hw _, i_t (B := Same H1 H2 ∧ H2 D = some (.lst ((List.range (i + 1)).map f))) ?_⟩
  refine (hs i H2 hi s2 _ fun H5 s5 => ⟨_, s5 _ _ hl, szl (by rw [List.length_map, List.length_range]; omega), s_mut (s2.trans s5) hD, ?_⟩)
  rw [List.range_succ, List.map_append]
  exact upd_same
theorem lcl_pure {H1 : Hp} {K : PySem.W.Frag} {Qd : Addr → Hp → Prop} {σ : L2.St} {te : TE} {vs : List Nat} {sl : Nat} {a : Addr} {xs : List V} (f : V → V) (hx : SqL K H1 a xs) (hz : xs.length ≤ 100000) (hw : ∀ v : Option V, wipe ((wipe σ vs).set sl v) vs = wipe σ vs)
    (hs : ∀ (i : Nat) x H2, xs[i]? = some x → Same H1 H2 → ∀ k : VK, (∀ H5, Same H2 H5 → k (f x) H5) → te ((wipe σ vs).set sl (some x)) H2 k)
    (hd : ∀ D H2, H1 D = none → Same H1 H2 → H2 D = some (.lst (xs.map f)) → Qd D H2) :
    ∃ a', V.ref a = .ref a' ∧ (∃ xs, SqL K H1 a' xs) ∧ ∀ D, H1 D = none → ∃ W : Nat → Nat → Hp → Prop, (∃ m, W 0 m (upd H1 D (.lst []))) ∧ ∀ i m H, W i m H →
  ((Itl K a').stop i H ∧ Qd D H) ∨ ((Itl K a').go i H ∧ ∃ Nx : Hp → Prop, (∀ H', Nx H' → ∃ m', m' < m ∧ W (i + 1) m' H') ∧ ∀ x H', (Itl K a').yld i H x H' → gName sl x (wipe σ vs) H' fun σ2 H2 => wipe σ2 vs = wipe σ vs ∧ tYes σ2 H2 fun b H3 =>
    if b = true then te σ2 H3 fun y H4 => ∃ acc, H4 D = some (.lst acc) ∧ acc.length < sizeLine ∧ Nx (upd H4 D (.lst (acc ++ [y]))) else Nx H3) := by
  refine ⟨a, rfl, ⟨xs, hx⟩, fun D hD => ?_⟩
  refine lc_list (K := K) (xs := xs) (fun i H2 => Same H1 H2 ∧ H2 D = some (.lst ((xs.take i).map f))) ⟨s_upd hD, upd_same⟩ (fun i H2 _ p => p.1.seq hx) (fun i x H2 hi ⟨s2, hl⟩ => ?_) (fun H2 ⟨s2, hl⟩ => hd D H2 hD s2 (by rw [List.take_length] at hl; exact hl))
  have hlt := (List.getElem?_eq_some_iff.mp hi).1
  refine ⟨hw _, i_t (B := Same H1 H2 ∧ H2 D = some (.lst ((xs.take (i + 1)).map f))) ?_⟩
  refine (hs i x H2 hi s2 _ fun H5 s5 => ⟨_, s5 _ _ hl, szl (by rw [List.length_map, List.length_take]; omega), s_mut (s2.trans s5) hD, ?_⟩)
  rw [List.take_add_one, hi, List.map_append]
  exact upd_same
theorem lcl_idx {H1 : Hp} {K : PySem.W.Frag} {Qd : Addr → Hp → Prop} {σ : L2.St} {te : TE} {vs : List Nat} {sl : Nat} {a : Addr} {xs : List V} (f : Nat → V) (hx : SqL K H1 a xs) (hz : xs.length ≤ 100000) (hw : ∀ v : Option V, wipe ((wipe σ vs).set sl v) vs = wipe σ vs)
    (hs : ∀ (i : Nat) x H2, xs[i]? = some x → Same H1 H2 → ∀ k : VK, (∀ H5, Same H2 H5 → k (f i) H5) → te ((wipe σ vs).set sl (some x)) H2 k)
    (hd : ∀ D H2, H1 D = none → Same H1 H2 → H2 D = some (.lst ((List.range xs.length).map f)) → Qd D H2) :
    ∃ a', V.ref a = .ref a' ∧ (∃ xs, SqL K H1 a' xs) ∧ ∀ D, H1 D = none → ∃ W : Nat → Nat → Hp → Prop, (∃ m, W 0 m (upd H1 D (.lst []))) ∧ ∀ i m H, W i m H →
  ((Itl K a').stop i H ∧ Qd D H) ∨ ((Itl K a').go i H ∧ ∃ Nx : Hp → Prop, (∀ H', Nx H' → ∃ m', m' < m ∧ W (i + 1) m' H') ∧ ∀ x H', (Itl K a').yld i H x H' → gName sl x (wipe σ vs) H' fun σ2 H2 => wipe σ2 vs = wipe σ vs ∧ tYes σ2 H2 fun b H3 =>
    if b = true then te σ2 H3 fun y H4 => ∃ acc, H4 D = some (.lst acc) ∧ acc.length < sizeLine ∧ Nx (upd H4 D (.lst (acc ++ [y]))) else Nx H3) := by
  refine ⟨a, rfl, ⟨xs, hx⟩, fun D hD => ?_⟩
  refine lc_list (K := K) (xs := xs) (fun i H2 => Same H1 H2 ∧ H2 D = some (.lst ((List.range i).map f))) ⟨s_upd hD, upd_same⟩ (fun i H2 _ p => p.1.seq hx) (fun i x H2 hi ⟨s2, hl⟩ => ?_) (fun H2 ⟨s2, hl⟩ => hd D H2 hD s2 hl)
  have hlt := (List.getElem?_eq_some_iff.mp hi).1
  refine ⟨hw _, i_t (B := Same H1 H2 ∧ H2 D = some (.lst ((List.range (i + 1)).map f))) ?_⟩
  refine (hs i x H2 hi s2 _ fun H5 s5 => ⟨_, s5 _ _ hl, szl (by rw [List.length_map, List.length_range]; omega), s_mut (s2.trans s5) hD, ?_⟩)
  rw [List.range_succ, List.map_append]
  exact upd_same
theorem lc_rng2 {H : Hp} {Q : VK} {σ : L2.St} {ta : TA} {g : TG} {tt : TT} {te : TE} {vs : List Nat} (h : ta σ H fun ws H1 => ∃ a j : Int, ws = [V.int a, V.int j] ∧ (-(2 ^ 62) ≤ a ∧ a < 2 ^ 62 ∧ -(2 ^ 62) ≤ j ∧ j < 2 ^ 62) ∧ ∀ D, H1 D = none → ∃ W : Nat → Nat → Hp → Prop, (∃ m, W 0 m (upd H1 D (.lst []))) ∧ ∀ i m H, W i m H →
  ((Itr a (j - a).toNat).stop i H ∧ Q (.ref D) H) ∨ ((Itr a (j - a).toNat).go i H ∧ ∃ Nx : Hp → Prop, (∀ H', Nx H' → ∃ m', m' < m ∧ W (i + 1) m' H') ∧ ∀ x H', (Itr a (j - a).toNat).yld i H x H' → g x (wipe σ vs) H' fun σ2 H2 => wipe σ2 vs = wipe σ vs ∧ tt σ2 H2 fun b H3 =>
    if b = true then te σ2 H3 fun y H4 => ∃ acc, H4 D = some (.lst acc) ∧ acc.length < sizeLine ∧ Nx (upd H4 D (.lst (acc ++ [y]))) else Nx H3)) : tLc (iRng2 ta) g tt te vs σ H Q := h
/-- a comprehension over range(a, j) with a test; elements and tests leave all as it was -/
theorem lcr2_filt {H1 : Hp} {Qd : Addr → Hp → Prop} {σ : L2.St} {tt : TT} {te : TE} {vs : List Nat} {sl : Nat} {a j : Int} (n : Nat) (p : Nat → Bool) (f : Nat → V) (hj : (j - a).toNat = n) (hb : -(2 ^ 62) ≤ a ∧ a < 2 ^ 62 ∧ -(2 ^ 62) ≤ j ∧ j < 2 ^ 62) (hz : n ≤ 100000) (hw : ∀ v : Option V, wipe ((wipe σ vs).set sl v) vs = wipe σ vs)
    (ht : ∀ i H2, i < n → Same H1 H2 → ∀ k : Bool → Hp → Prop, (∀ H5, Same H2 H5 → k (p i) H5) → tt ((wipe σ vs).set sl (some (V.int (a + (i : Nat))))) H2 k)
    (hs : ∀ i H2, i < n → Same H1 H2 → ∀ k : VK, (∀ H5, Same H2 H5 → k (f i) H5) → te ((wipe σ vs).set sl (some (V.int (a + (i : Nat))))) H2 k)
    (hd : ∀ D H2, H1 D = none → Same H1 H2 → H2 D = some (.lst (((List.range n).filter p).map f)) → Qd D H2) :
    ∃ a' j' : Int, [V.int a, V.int j] = [V.int a', V.int j'] ∧ (-(2 ^ 62) ≤ a' ∧ a' < 2 ^ 62 ∧ -(2 ^ 62) ≤ j' ∧ j' < 2 ^ 62) ∧ ∀ D, H1 D = none → ∃ W : Nat → Nat → Hp → Prop, (∃ m, W 0 m (upd H1 D (.lst []))) ∧ ∀ i m H, W i m H →
  ((Itr a' (j' - a').toNat).stop i H ∧ Qd D H) ∨ ((Itr a' (j' - a').toNat).go i H ∧ ∃ Nx : Hp → Prop, (∀ H', Nx H' → ∃ m', m' < m ∧ W (i + 1) m' H') ∧ ∀ x H', (Itr a' (j' - a').toNat).yld i H x H' → gName sl x (wipe σ vs) H' fun σ2 H2 => wipe σ2 vs = wipe σ vs ∧ tt σ2 H2 fun b H3 =>
    if b = true then te σ2 H3 fun y H4 => ∃ acc, H4 D = some (.lst acc) ∧ acc.length < sizeLine ∧ Nx (upd H4 D (.lst (acc ++ [y]))) else Nx H3) := by
  refine ⟨a, j, rfl, hb, fun D hD => ?_⟩
  subst hj
  refine lc_range (lo := a) (fun i H2 => Same H1 H2 ∧ H2 D = some (.lst (((List.range i).filter p).map f))) ⟨s_upd hD, upd_same⟩ (fun i H2 hi ⟨s2, hl⟩ => ?_) (fun H2 ⟨s2, hl⟩ => hd D H2 hD s2 hl)
  refine ⟨hw _, ht i H2 hi s2 _ fun H5 s5 => ?_⟩
  have hl5 := s5 _ _ hl
  cases hp : p i with
  | true =>
    refine i_t ?_
    refine (hs i H5 hi (s2.trans s5) _ fun H6 s6 => ⟨_, s6 _ _ hl5, szl ?_, s_mut ((s2.trans s5).trans s6) hD, ?_⟩)
    · rw [List.length_map]
      have := List.length_filter_le p (List.range i)
      rw [List.length_range] at this
      omega
    · rw [List.range_succ, List.filter_append, List.filter_cons, hp, if_pos rfl, List.filter_nil, List.map_append]
      exact upd_same
  | false =>
    refine i_f ⟨s2.trans s5, ?_⟩
    rw [List.range_succ, List.filter_append, List.filter_cons, hp, if_neg Bool.false_ne_true, List.filter_nil, List.append_nil]
    exact hl5
theorem lcr_filt {H1 : Hp} {Qd : Addr → Hp → Prop} {σ : L2.St} {tt : TT} {te : TE} {vs : List Nat} {sl : Nat} {j : Int} (n : Nat) (p : Nat → Bool) (f : Nat → V) (hj : j.toNat = n) (hb : -(2 ^ 62) ≤ j ∧ j < 2 ^ 62) (hz : n ≤ 100000) (hw : ∀ v : Option V, wipe ((wipe σ vs).set sl v) vs = wipe σ vs)
    (ht : ∀ i H2, i < n → Same H1 H2 → ∀ k : Bool → Hp → Prop, (∀ H5, Same H2 H5 → k (p i) H5) → tt ((wipe σ vs).set sl (some (V.int (i : Nat)))) H2 k)
    (hs : ∀ i H2, i < n → Same H1 H2 → ∀ k : VK, (∀ H5, Same H2 H5 → k (f i) H5) → te ((wipe σ vs).set sl (some (V.int (i : Nat)))) H2 k)
    (hd : ∀ D H2, H1 D = none → Same H1 H2 → H2 D = some (.lst (((List.range n).filter p).map f)) → Qd D H2) :
    ∃ j' : Int, [V.int j] = [V.int j'] ∧ -(2 ^ 62) ≤ j' ∧ j' < 2 ^ 62 ∧ ∀ D, H1 D = none → ∃ W : Nat → Nat → Hp → Prop, (∃ m, W 0 m (upd H1 D (.lst []))) ∧ ∀ i m H, W i m H →
  ((Itr 0 j'.toNat).stop i H ∧ Qd D H) ∨ ((Itr 0 j'.toNat).go i H ∧ ∃ Nx : Hp → Prop, (∀ H', Nx H' → ∃ m', m' < m ∧ W (i + 1) m' H') ∧ ∀ x H', (Itr 0 j'.toNat).yld i H x H' → gName sl x (wipe σ vs) H' fun σ2 H2 => wipe σ2 vs = wipe σ vs ∧ tt σ2 H2 fun b H3 =>
    if b = true then te σ2 H3 fun y H4 => ∃ acc, H4 D = some (.lst acc) ∧ acc.length < sizeLine ∧ Nx (upd H4 D (.lst (acc ++ [y]))) else Nx H3) := by
  refine ⟨j, rfl, hb.1, hb.2, fun D hD => ?_⟩
  subst hj
  refine lc_range (lo := 0) (fun i H2 => Same H1 H2 ∧ H2 D = some (.lst (((List.range i).filter p).map f))) ⟨s_upd hD, upd_same⟩ (fun i H2 hi ⟨s2, hl⟩ => ?_) (fun H2 ⟨s2, hl⟩ => hd D H2 hD s2 hl)
  have e0 : (0 : Int) + (i : Nat) = (i : Nat) := Int.zero_add _
  rw [e0]
  refine ⟨hw _, ht i H2 hi s2 _ fun H5 s5 => ?_⟩
  have hl5 := s5 _ _ hl
  cases hp : p i with
  | true =>
    refine i_t ?_
    refine (hs i H5 hi (s2.trans s5) _ fun H6 s6 => ⟨_, s6 _ _ hl5, szl ?_, s_mut ((s2.trans s5).trans s6) hD, ?_⟩)
    · rw [List.length_map]
      have := List.length_filter_le p (List.range i)
      rw [List.length_range] at this
      omega
    · rw [List.range_succ, List.filter_append, List.filter_cons, hp, if_pos rfl, List.filter_nil, List.map_append]
      exact upd_same
  | false =>
    refine i_f ⟨s2.trans s5, ?_⟩
    rw [List.range_succ, List.filter_append, List.filter_cons, hp, if_neg Bool.false_ne_true, List.filter_nil, List.append_nil]
    exact hl5
/-! ranges with a step -/
theorem for_rng3 {D : Ends} {H : Hp} {σ : L2.St} {ta : TA} {g : TG} {tb : TS} (h : ta σ H fun vs H1 => ∃ (i j c : Int) (n : Nat), vs = [V.int i, V.int j, V.int c] ∧ RgC i j c n ∧ ∃ W : Nat → Nat → L2.St → Hp → Prop, (∃ m, W 0 m σ H1) ∧ ∀ k m σ H, W k m σ H →
  ((Itc i c n).stop k H ∧ D.nx σ H) ∨ ((Itc i c n).go k H ∧ ∃ N : L2.St → Hp → Prop, (∀ σ' H', N σ' H' → ∃ m', m' < m ∧ W (k + 1) m' σ' H') ∧ ∀ x H', (Itc i c n).yld k H x H' → g x σ H' fun σ2 H2 => tb { D with nx := N, ct := N, bk := D.nx } σ2 H2)) : tFor (iRng3 ta) g tb D σ H := h
theorem rng_go3 {D : Ends} {H1 : Hp} {σ : L2.St} {a j c : Int} {g : TG} {tb : TS} (n : Nat) (hr : RgC a j c n) (Pv : Nat → L2.St → Hp → Prop) (h0 : Pv 0 σ H1)
    (hs : ∀ i σ H, i < n → Pv i σ H → g (V.int (a + (i : Nat) * c)) σ H fun σ2 H2 => tb { D with nx := Pv (i + 1), ct := Pv (i + 1), bk := D.nx } σ2 H2) (hd : ∀ σ H, Pv n σ H → D.nx σ H) :
    ∃ (i' j' c' : Int) (n' : Nat), [V.int a, V.int j, V.int c] = [V.int i', V.int j', V.int c'] ∧ RgC i' j' c' n' ∧ ∃ W : Nat → Nat → L2.St → Hp → Prop, (∃ m, W 0 m σ H1) ∧ ∀ k m σ H, W k m σ H →
  ((Itc i' c' n').stop k H ∧ D.nx σ H) ∨ ((Itc i' c' n').go k H ∧ ∃ N : L2.St → Hp → Prop, (∀ σ' H', N σ' H' → ∃ m', m' < m ∧ W (k + 1) m' σ' H') ∧ ∀ x H', (Itc i' c' n').yld k H x H' → g x σ H' fun σ2 H2 => tb { D with nx := N, ct := N, bk := D.nx } σ2 H2) :=
  ⟨a, j, c, n, rfl, hr, for_rangeC (lo := a) (c := c) Pv h0 hs hd⟩
theorem lc_rng3 {H : Hp} {Q : VK} {σ : L2.St} {ta : TA} {g : TG} {tt : TT} {te : TE} {vs : List Nat} (h : ta σ H fun ws H1 => ∃ (lo j c : Int) (n : Nat), ws = [V.int lo, V.int j, V.int c] ∧ RgC lo j c n ∧ ∀ D, H1 D = none → ∃ W : Nat → Nat → Hp → Prop, (∃ m, W 0 m (upd H1 D (.lst []))) ∧ ∀ i m H, W i m H →
  ((Itc lo c n).stop i H ∧ Q (.ref D) H) ∨ ((Itc lo c n).go i H ∧ ∃ Nx : Hp → Prop, (∀ H', Nx H' → ∃ m', m' < m ∧ W (i + 1) m' H') ∧ ∀ x H', (Itc lo c n).yld i H x H' → g x (wipe σ vs) H' fun σ2 H2 => wipe σ2 vs = wipe σ vs ∧ tt σ2 H2 fun b H3 =>
    if b = true then te σ2 H3 fun y H4 => ∃ acc, H4 D = some (.lst acc) ∧ acc.length < sizeLine ∧ Nx (upd H4 D (.lst (acc ++ [y]))) else Nx H3)) : tLc (iRng3 ta) g tt te vs σ H Q := h
theorem lcr3_pure {H1 : Hp} {Qd : Addr → Hp → Prop} {σ : L2.St} {te : TE} {vs : List Nat} {sl : Nat} {a j c : Int} (n : Nat) (f : Nat → V) (hr : RgC a j c n) (hz : n ≤ 100000) (hw : ∀ v : Option V, wipe ((wipe σ vs).set sl v) vs = wipe σ vs)
    (hs : ∀ i H2, i < n → Same H1 H2 → ∀ k : VK, (∀ H5, Same H2 H5 → k (f i) H5) → te ((wipe σ vs).set sl (some (V.int (a + (i : Nat) * c)))) H2 k)
    (hd : ∀ D H2, H1 D = none → Same H1 H2 → H2 D = some (.lst ((List.range n).map f)) → Qd D H2) :
    ∃ (i' j' c' : Int) (n' : Nat), [V.int a, V.int j, V.int c] = [V.int i', V.int j', V.int c'] ∧ RgC i' j' c' n' ∧ ∀ D, H1 D = none → ∃ W : Nat → Nat → Hp → Prop, (∃ m, W 0 m (upd H1 D (.lst []))) ∧ ∀ i m H, W i m H →
  ((Itc i' c' n').stop i H ∧ Qd D H) ∨ ((Itc i' c' n').go i H ∧ ∃ Nx : Hp → Prop, (∀ H', Nx H' → ∃ m', m' < m ∧ W (i + 1) m' H') ∧ ∀ x H', (Itc i' c' n').yld i H x H' → gName sl x (wipe σ vs) H' fun σ2 H2 => wipe σ2 vs = wipe σ vs ∧ tYes σ2 H2 fun b H3 =>
    if b = true then te σ2 H3 fun y H4 => ∃ acc, H4 D = some (.lst acc) ∧ acc.length < sizeLine ∧ Nx (upd H4 D (.lst (acc ++ [y]))) else Nx H3) := by
  refine ⟨a, j, c, n, rfl, hr, fun D hD => ?_⟩
  refine ⟨fun i m H2 => m = n - i ∧ i ≤ n ∧ Same H1 H2 ∧ H2 D = some (.lst ((List.range i).map f)), ⟨n, by simp, Nat.zero_le _, s_upd hD, upd_same⟩, ?_⟩
  rintro i m H2 ⟨rfl, hi, s2, hl⟩
  by_cases hlt : i < n
  · refine .inr ⟨hlt, fun H' => Same H1 H' ∧ H' D = some (.lst ((List.range (i + 1)).map f)), fun H' p' => ⟨n - (i + 1), by omega, rfl, hlt, p'.1, p'.2⟩, fun x H' y => ?_⟩
    obtain ⟨e, y⟩ := y
    subst e y
    refine ⟨hw _, i_t (B := Same H1 H' ∧ H' D = some (HO.lst ((List.range (i + 1)).map f))) ?_⟩
    refine (hs i _ hlt s2 _ fun H5 s5 => ⟨_, s5 _ _ hl, szl (by rw [List.length_map, List.length_range]; omega), s_mut (s2.trans s5) hD, ?_⟩)
    rw [List.range_succ, List.map_append]
    exact upd_same
  · have e : i = n := by omega
    subst e
    exact .inl ⟨Nat.le_refl _, hd D H2 hD s2 hl⟩
/-! instances -/
def fldP (K : PySem.W.Frag) (f : Str) : V → Hp → VK → Prop := fun x H1 Q => ∃ a C dx fs v, x = .ref a ∧ H1 a = some (.ins C dx fs) ∧ Cls K C ∧ NoAttr K C f ∧ fs.lookup f = some v ∧ Q v H1
theorem r_fld {H : Hp} {K : PySem.W.Frag} {Q : VK} {σ : L2.St} {ta : TE} {f : Str} (h : ta σ H fun x H1 => fldP K f x H1 Q) : tFld K ta f σ H Q := h
theorem r_fldP {H : Hp} {K : PySem.W.Frag} {Q : VK} {f : Str} {a C dx : Addr} {fs : List (Str × V)} {v : V} (h : H a = some (.ins C dx fs)) (c : Cls K C) (n : NoAttr K C f) (l : fs.lookup f = some v) (q : Q v H) : fldP K f (.ref a) H Q := ⟨a, C, dx, fs, v, rfl, h, c, n, l, q⟩
def setP (K : PySem.W.Frag) (f : Str) (y : V) : V → Hp → (Hp → Prop) → Prop := fun x H2 k => ∃ a C dx fs, x = .ref a ∧ H2 a = some (.ins C dx fs) ∧ Cls K C ∧ NoAttr K C f ∧ fs.length < 1000 ∧ k (upd H2 a (.ins C dx (putF f y fs)))
theorem r_sfld {D : Ends} {H : Hp} {K : PySem.W.Frag} {σ : L2.St} {ta tv : TE} {f : Str} (h : tv σ H fun y H1 => ta σ H1 fun x H2 => setP K f y x H2 fun H3 => D.nx σ H3) : sFld K ta tv f D σ H := h
theorem r_setP {H : Hp} {K : PySem.W.Frag} {f : Str} {y : V} {a C dx : Addr} {fs : List (Str × V)} {k : Hp → Prop} (h : H a = some (.ins C dx fs)) (c : Cls K C) (n : NoAttr K C f) (l : fs.length < 1000) (q : k (upd H a (.ins C dx (putF f y fs)))) : setP K f y (.ref a) H k := ⟨a, C, dx, fs, rfl, h, c, n, l, q⟩
theorem r_make {H : Hp} {Q : VK} {σ : L2.St} {C : Addr} {sp : Sp} {E : XK} {t : TA} (h : t σ H fun vs H1 => ∀ x dx, H1 x = none → H1 dx = none → dx ≠ x → sp (.ref x :: (vs ++ [])) (upd (upd H1 dx (.own x)) x (.ins C dx [])) (fun v H2 => v = .non ∧ Q (.ref x) H2) E) : tMake C sp [] E t σ H Q := h
def objP (C : Addr) (m : Str) : V → Hp → (Hp → Prop) → Prop := fun x H1 k => ∃ a dx fs, x = .ref a ∧ H1 a = some (.ins C dx fs) ∧ fs.lookup m = none ∧ k H1
theorem r_meth {H : Hp} {Q : VK} {σ : L2.St} {C : Addr} {m : Str} {sp : Sp} {E : XK} {ta : TE} {t : TA} (h : ta σ H fun x H1 => objP C m x H1 fun H1 => t σ H1 fun vs H2 => sp (x :: (vs ++ [])) H2 Q E) : tMeth C m sp [] E ta t σ H Q := h
theorem r_objP {H : Hp} {m : Str} {a C dx : Addr} {fs : List (Str × V)} {k : Hp → Prop} (h : H a = some (.ins C dx fs)) (l : fs.lookup m = none) (q : k H) : objP C m (.ref a) H k := ⟨a, dx, fs, rfl, h, l, q⟩
theorem look_1 {f : Str} {v : V} {r : List (Str × V)} : List.lookup f ((f, v) :: r) = some v := by simp [List.lookup]
theorem look_s {f g : Str} {v : V} {r : List (Str × V)} (h : ¬ f = g) : List.lookup f ((g, v) :: r) = List.lookup f r := by
  have e : (f == g) = false := by simp [h]
  simp [List.lookup, e]
theorem look_0 {f : Str} : List.lookup f ([] : List (Str × V)) = none := rfl
theorem put_s {f g : Str} {v x : V} {r : List (Str × V)} (h : ¬ g = f) : putF f v ((g, x) :: r) = (g, x) :: putF f v r := if_neg h
theorem put_1 {f : Str} {v x : V} {r : List (Str × V)} : putF f v ((f, x) :: r) = (f, v) :: r := if_pos rfl
theorem put_0 {f : Str} {v : V} : putF f v [] = [(f, v)] := rfl
theorem cut_mid {xs : List V} {a b : Nat} (h : a ≤ b) : cutV xs (some (a : Int)) (some (b : Int)) = (xs.drop a).take (b - a) := by
  unfold cutV
  rw [HT.sIx_nat, HT.sIx_nat]
  by_cases h1 : b ≤ xs.length
  · rw [Nat.min_eq_left h1, Nat.min_eq_left (by omega)]
  · by_cases h2 : a ≤ xs.length
    · rw [Nat.min_eq_right (by omega), Nat.min_eq_left h2, List.take_of_length_le (by rw [List.length_drop]; omega), List.take_of_length_le (by rw [List.length_drop]; omega)]
    · rw [Nat.min_eq_right (by omega), Nat.min_eq_right (by omega), List.drop_length, List.drop_of_length_le (by omega)]
      simp
theorem c_pow {i j : Int} (h0 : 0 ≤ j) (h1 : j ≤ 1000000) (h2 : i.natAbs < 2 ^ 64) : CPow i j := ⟨h0, h1, h2⟩
theorem c_mulR {i j : Int} (h0 : -18446744073709551616 < j) (h1 : j < 18446744073709551616) : CMul i j := .inr ⟨h0, h1⟩
theorem c_mulL {i j : Int} (h0 : -18446744073709551616 < i) (h1 : i < 18446744073709551616) : CMul i j := .inl ⟨h0, h1⟩
theorem c_div {i j : Int} (h0 : 0 < j) (h1 : j < 1073741824) : CDiv i j := ⟨h0, h1⟩
theorem r_cut {D : Ends} {H : Hp} {σ : L2.St} {t u : TS} (Mid : L2.St → Hp → Prop) (h : t { D with nx := Mid } σ H) (k : ∀ σ' H', Mid σ' H' → u D σ' H') : C8.tCut t u D σ H := ⟨Mid, h, k⟩
theorem cut_to {xs : List V} {k : Nat} : cutV xs none (some (k : Int)) = xs.take k := by
  unfold cutV
  rw [HT.sIx_none, HT.sIx_nat, List.drop_zero, Nat.sub_zero]
  by_cases h : k ≤ xs.length
  · rw [Nat.min_eq_left h]
  · rw [Nat.min_eq_right (by omega), List.take_length, List.take_of_length_le (by omega)]
theorem cut_all {xs : List V} {k : Nat} (h : xs.length ≤ k) : cutV xs none (some (k : Int)) = xs := by
  rw [cut_to, List.take_of_length_le h]
theorem len4 {ns : List Int} (h : ns.length = 4) : ∃ a b c d, ns = [a, b, c, d] := by
  match ns, h with
  | [a, b, c, d], _ => exact ⟨a, b, c, d, rfl⟩
theorem len3 {ns : List Int} (h : ns.length = 3) : ∃ a b c, ns = [a, b, c] := by
  match ns, h with
  | [a, b, c], _ => exact ⟨a, b, c, rfl⟩
theorem len2 {ns : List Int} (h : ns.length = 2) : ∃ a b, ns = [a, b] := by
  match ns, h with
  | [a, b], _ => exact ⟨a, b, rfl⟩
theorem len7 {ns : List Int} (h : ns.length = 7) : ∃ a b c d e f g, ns = [a, b, c, d, e, f, g] := by
  match ns, h with
  | [a, b, c, d, e, f, g], _ => exact ⟨a, b, c, d, e, f, g, rfl⟩
theorem len6 {ns : List Int} (h : ns.length = 6) : ∃ a b c d e f, ns = [a, b, c, d, e, f] := by
  match ns, h with
  | [a, b, c, d, e, f], _ => exact ⟨a, b, c, d, e, f, rfl⟩
theorem r_take {K : PySem.W.Frag} {H : Hp} {Q : VK} {a : Addr} {ns : List Int} {k : Int} (n : Nat) (hk : k = (n : Int)) (h : SqL K H a (ns.map V.int)) (q : ∀ p H1, H p = none → Same H H1 → H1 p = some (.lst ((ns.take n).map V.int)) → Q (.ref p) H1) : rSlL K (.ref a) none (some k) H Q := by
  subst hk
  refine ⟨a, ns.map V.int, rfl, h, fun p hp => ?_⟩
  rw [cut_to, ← List.map_take]
  exact q p _ hp (s_upd hp) upd_same
/-- the script's first items: the whole of it -/
theorem r_script {K : PySem.W.Frag} {H : Hp} {Q : VK} {a : Addr} {ns : List Int} {k : Int} (hk : 63 ≤ k) (h : SqL K H a (ns.map V.int)) (hn : ns.length ≤ 63) (q : ∀ p H1, H p = none → Same H H1 → H1 p = some (.lst (ns.map V.int)) → Q (.ref p) H1) : rSlL K (.ref a) none (some k) H Q := by
  refine ⟨a, ns.map V.int, rfl, h, fun p hp => ?_⟩
  have e : k = ((k.toNat : Nat) : Int) := by omega
  rw [e, cut_all (by rw [List.length_map]; omega)]
  exact q p _ hp (s_upd hp) upd_same
/-! list facts -/
theorem at_map {ns : List Int} {i : Int} {j : Nat} {n : Int} (e : i = (j : Int)) (h : ns[j]? = some n) : atI (ns.map V.int) i = some (.int n) := by
  subst e
  exact atI_nat (by rw [List.getElem?_map, h]; rfl)
theorem at_lt {α : Type} {xs : List α} {i : Int} {j : Nat} (e : i = (j : Int)) (h : j < xs.length) : atI xs i = some xs[j] := by
  subst e
  exact atI_nat (List.getElem?_eq_getElem h)
theorem get_map {ns : List Int} {i : Nat} {x : V} (h : (ns.map V.int)[i]? = some x) : ∃ n, ns[i]? = some n ∧ x = .int n := by
  rw [List.getElem?_map] at h
  cases e : ns[i]? with
  | none => rw [e] at h; cases h
  | some z => rw [e] at h; exact ⟨z, rfl, (Option.some.inj h).symm⟩
theorem flat_ints (ns : List Int) : (ns.map V.int).all flatV = true := by
  rw [List.all_eq_true]; intro v hv; obtain ⟨n, _, rfl⟩ := List.mem_map.mp hv; rfl
theorem inV_ints (n : Int) (ns : List Int) : inV (.int n) (ns.map V.int) = dB (n ∈ ns) := by
  unfold inV
  induction ns with
  | nil => rw [dB_f (by simp)]; rfl
  | cons m r ih =>
    rw [List.map_cons, List.any_cons, ih]
    show ((m == n) || dB (n ∈ r)) = _
    by_cases h : m = n
    · subst h; rw [dB_t (List.mem_cons_self ..)]; simp
    · by_cases h2 : n ∈ r
      · rw [dB_t h2, dB_t (List.mem_cons_of_mem _ h2)]; simp
      · rw [dB_f h2, dB_f (fun z => by rcases List.mem_cons.mp z with z | z; exact h z.symm; exact h2 z)]; simp [h]
theorem r_inI {K : PySem.W.Frag} {H : Hp} {Q : VK} {p : Addr} {ns : List Int} {n : Int} (h : SqL K H p (ns.map V.int)) (q : Q (.bl (dB (n ∈ ns))) H) : rIn K false (.int n) (.ref p) H Q :=
  ⟨p, ns.map V.int, rfl, .inl h, rfl, flat_ints ns, by rw [inV_ints]; exact q⟩
theorem cut_from {xs : List V} {k : Nat} : cutV xs (some (k : Int)) none = xs.drop k := by
  unfold cutV
  rw [HT.sIx_none, HT.sIx_nat]
  by_cases h : k ≤ xs.length
  · rw [Nat.min_eq_left h, List.take_of_length_le (by rw [List.length_drop]; omega)]
  · rw [Nat.min_eq_right (by omega), List.drop_length, List.drop_of_length_le (by omega)]; simp
/-! any of ints -/
def rAnyI (K : PySem.W.Frag) : List V → Hp → VK → Prop := fun vs H Q => ∃ (a : Addr) (ns : List Int), vs = [V.ref a] ∧ SqL K H a (ns.map V.int) ∧ Q (.bl (ns.any (· != 0))) H
theorem truth_ints {prog : Program} {w : World} {A : Around} {ns : List Int} {its : List Value} (r : Vals (ns.map V.int) its) :
    TruthOf prog w A (fun i v => its.toArray[i]? = some v) (fun i => (ns.map (· != 0)).getD i false) := fun i v s Q E hv hq => by
  have hv' : its[i]? = some v := by simpa using hv
  have hl := r.length
  have hi : i < ns.length := by
    have := (List.getElem?_eq_some_iff.mp hv').1
    rw [List.length_map] at hl
    omega
  obtain ⟨u, hu, ru⟩ := r.get (i := i) (x := .int ns[i]) (by rw [List.getElem?_map, List.getElem?_eq_getElem hi]; rfl)
  rw [hv'] at hu
  cases hu
  obtain ⟨t, rfl⟩ := ru
  have hg : (ns.map (· != 0)).getD i false = (ns[i] != 0) := by rw [List.getD_eq_getElem?_getD, List.getElem?_map, List.getElem?_eq_getElem hi]; rfl
  have hq' : Q ((ns.map (· != 0)).getD i false) s := hq
  rw [hg] at hq'
  exact truthy_int hq'
theorem cr_anyI {X : Cx} (hc : X.calm = true) : CallR X (.builtin "any") (rAnyI X.K) := by
  intro pins s σ H vs us Q I r h
  obtain ⟨a, ns, rfl, hs, q⟩ := h
  obtain ⟨its, rv, hl, _⟩ := I.list hs
  rw [Vals.ref1 r]
  have hlen := rv.length
  rw [List.length_map] at hlen
  refine call_any_walk (iter_any hl.isList fun s₂ e2 st hne => ?_)
  subst e2
  refine ⟨_, _, _, _, _, _, _, rfl, Walks.list (A := X.A.in1) (I.ok.hd hc) _ a hne its.toArray, st, truth_ints rv, fun h' tk hk => ?_⟩
  refine ⟨.bl _, H, I.kept fun b o eo => hk b o (fun hmem => ?_) (Heap.get?_push_of_some _ eo), ?_, q⟩
  · rcases List.mem_cons.mp hmem with e1 | hmem
    · exact absurd (e1 ▸ Heap.lt_size eo) (Nat.lt_irrefl _)
    · cases hmem
  · show Value.bool _ = Value.bool _
    have e := L2.any_range (ns.map (· != 0))
    rw [List.any_map, List.length_map] at e
    rw [List.size_toArray, ← hlen, e]; rfl
theorem r_anyI {K : PySem.W.Frag} {H : Hp} {Q : VK} {a : Addr} {ns : List Int} (h : SqL K H a (ns.map V.int)) (q : Q (.bl (ns.any (· != 0))) H) : rAnyI K [.ref a] H Q := ⟨a, ns, rfl, h, q⟩
theorem r_isB {i j : Bool} {H : Hp} {Q : VK} (q : Q (.bl (dB (i = j))) H) : rIsB (.bl i) (.bl j) H Q := ⟨i, j, rfl, rfl, q⟩
theorem r_notB {i j : Bool} {H : Hp} {Q : VK} (q : Q (.bl (!dB (i = j))) H) : rNotB (.bl i) (.bl j) H Q := ⟨i, j, rfl, rfl, q⟩
theorem r_neL {H : Hp} {K : PySem.W.Frag} {Q : VK} {a b : Addr} {ns : List Int} (ha : SqL K H a (ns.map V.int)) (hb : SqL K H b (ns.map V.int)) (q : Q (.bl false) H) : rNeD K (.ref a) (.ref b) H Q :=
  ⟨_, _, .lst ha (dp_ints ns), .lst hb (dp_ints ns), shaped_ints ns, shaped_ints ns, by rw [eqv_ints]; exact q⟩
/-! ## what the top has written -/
def valsOk (us : Array Value) (xs : List V) : Bool := decide (us.size ≤ 100000) && decide (us.toList.mapM absV = some xs)
theorem rel_of {u : Value} {x : V} (h : absV u = some x) : RelV x u := by
  cases u <;> first | (cases h; rfl) | (cases h; exact ⟨_, rfl⟩) | (cases h)
theorem vals_of : ∀ {us : List Value} {xs : List V}, us.mapM absV = some xs → Vals xs us
  | [], xs, h => by
    have e : some [] = some xs := h
    cases e; exact .nil
  | u :: us, xs, h => by
    rw [List.mapM_cons] at h
    cases e1 : absV u with
    | none => rw [e1] at h; cases h
    | some x =>
      cases e2 : us.mapM absV with
      | none => rw [e1, e2] at h; cases h
      | some ys =>
        rw [e1, e2] at h
        have e : some (x :: ys) = some xs := h
        cases e
        exact .cons (rel_of e1) (vals_of e2)
theorem sqt_of {K : PySem.W.Frag} {H : Hp} {A : Addr} {dd : Option Addr} {its : Array Value} {n : Nat} {ss : Array (Option Value)} {xs : List V}
    (lk : K.lookup A = some ⟨.type "tuple", dd, .seq its n, ss⟩) (h : valsOk its xs = true) : SqT K H A xs := by
  unfold valsOk at h
  rw [Bool.and_eq_true] at h
  exact .inr ⟨_, its, n, lk, rfl, rfl, sz (of_decide_eq_true h.1), vals_of (of_decide_eq_true h.2)⟩
end Z

/-! ## the words: wtm_at "1" one step, "r" steps as far as they go, "h" a heap fact, "s" a side condition, "n" two addresses apart, "m" all that was tracked is as it was -/
local macro_rules | `(tactic| wtm_at "s") => `(tactic| first
  | (with_reducible assumption)
  | ((with_reducible refine Z.c_div ?_ ?_) <;> first | omega | decide)
  | ((with_reducible refine Z.c_mulR ?_ ?_) <;> first | omega | decide)
  | ((with_reducible refine Z.c_mulL ?_ ?_) <;> first | omega | decide)
  | ((with_reducible refine Z.c_pow ?_ ?_ ?_) <;> first | omega | decide)
  | omega | decide)
local macro_rules | `(tactic| wtm_at "n") => `(tactic| first
  | assumption | exact Ne.symm (by assumption)
  | exact Z.ne_of' (by assumption) (by wtm_at "h")
  | exact Ne.symm (Z.ne_of' (by assumption) (by wtm_at "h")))
local macro_rules | `(tactic| wtm_at "h") => `(tactic| with_reducible first
  | exact L2.upd_same
  | assumption
  | exact Eq.trans (L2.upd_ne (by wtm_at "n")) (by wtm_at "h")
  | exact Z.s_at (by assumption) (by wtm_at "h"))
local macro_rules | `(tactic| wtm_at "ql") => `(tactic| with_reducible first
  | assumption
  | exact Z.sq_l (by wtm_at "h")
  | exact Z.s_sq (by assumption) (by wtm_at "ql")
  | exact Z.s_sq (Z.s_upd (by assumption)) (by wtm_at "ql"))
local macro_rules | `(tactic| wtm_at "qt") => `(tactic| with_reducible first
  | assumption
  | exact Z.sq_t (by wtm_at "h")
  | exact Z.s_st (by assumption) (by wtm_at "qt")
  | exact Z.s_st (Z.s_upd (by assumption)) (by wtm_at "qt"))
local macro_rules | `(tactic| wtm_at "f") => `(tactic| with_reducible first
  | assumption
  | exact Z.s_back (by assumption) (by wtm_at "f"))
local macro_rules | `(tactic| wtm_at "m") => `(tactic| with_reducible first
  | exact L2.Same.refl _
  | assumption
  | exact L2.Same.trans (by wtm_at "m") (Z.s_upd (by assumption))
  | exact Z.s_mut (by wtm_at "m") (by wtm_at "f")
  | exact L2.Same.trans (by wtm_at "m") (by assumption))
local macro_rules | `(tactic| wtm_at "z") => `(tactic| first
  | (refine Z.szl ?_; simp only [List.length_map, List.length_append, List.length_cons, List.length_nil]; omega)
  | (refine Z.sz ?_; simp only [List.length_map, List.length_append, List.length_cons, List.length_nil]; omega))
local macro_rules | `(tactic| wtm_at "set") => `(tactic| (simp only [List.set_cons_zero, List.set_cons_succ]; rfl))
local macro_rules | `(tactic| wtm_at "1") => `(tactic| with_reducible first
  | refine Z.r_seq ?_ | refine Z.r_asg ?_
  | (refine' Z.r_gname ?c ?_; (case c => wtm_at "set"))
  | refine Z.r_v0 ?_ | refine Z.r_v1 ?_ | refine Z.r_v2 ?_ | refine Z.r_vS ?_ | refine Z.r_c ?_
  | refine Z.r_op ?_ | refine Z.r_lt ?_ | refine Z.r_le ?_ | refine Z.r_gt ?_ | refine Z.r_ge ?_ | refine Z.r_I0 ?_ | (refine' Z.r_I ?c ?_; (case c => wtm_at "s")) | refine Z.r_cons ?_ | refine Z.r_nil ?_
  | refine Z.r_eqI ?_ | refine Z.r_neI ?_ | refine Z.r_test ?_ | refine Z.r_bl ?_ | refine Z.r_if ?_
  | refine Z.r_cb ?_ | refine Z.r_call ?_ | refine Z.r_int ?_
  | refine Z.r_ret ?_ | refine Z.r_drop ?_ | refine Z.r_next ?_ | refine Z.r_brk ?_ | refine Z.r_cnt ?_ | refine Z.r_retN ?_
  | refine Z.i_t ?_ | refine Z.i_f ?_ | refine Z.i_nt ?_ | refine Z.i_nf ?_
  | refine Z.r_and ?_ | refine Z.r_or ?_ | refine Z.r_not ?_ | refine Z.r_andV ?_ | refine Z.r_orV ?_ | refine Z.r_notV ?_ | refine Z.r_tB ?_ | refine Z.r_ifE ?_
  | refine Z.r_chain ?_ | refine Z.r_un ?_ | refine Z.r_U ?_
  | refine Z.r_new ?_ | refine Z.r_tup ?_ | refine Z.r_bm ?_ | (refine' Z.ty_lst ?c ?_; (case c => wtm_at "ql"))
  | (refine' Z.r_append ?c ?d ?_; (case c => wtm_at "h"); (case d => wtm_at "z"))
  | (refine' Z.r_lenL ?c ?_; (case c => first | assumption | exact Z.sq_l (by assumption))) | (refine' Z.r_lenT ?c ?_; (case c => first | assumption | exact Z.sq_t (by assumption)))
  | (refine' Z.r_lenL ?c ?_; (case c => wtm_at "ql")) | (refine' Z.r_lenT ?c ?_; (case c => wtm_at "qt"))
  | refine Z.r_sl ?_ | refine Z.r_noPart ?_ | refine Z.r_part ?_ | refine Z.r_pint ?_
  | refine Z.r_isB ?_ | refine Z.r_notB ?_ | refine Z.r_eqB ?_ | refine Z.r_neB ?_ | refine Z.r_eqS ?_ | refine Z.r_neS ?_
  | refine Z.r_fld ?_ | refine Z.r_sfld ?_ | refine Z.r_make ?_ | refine Z.r_meth ?_ | refine Z.for_rng3 ?_ | refine Z.lc_rng3 ?_ | refine Z.lc_rng ?_ | refine Z.lc_rng2 ?_ | refine Z.lc_lst ?_ | refine Z.r_gsub ?_ | refine Z.for_enum ?_ | refine Z.r_intB ?_
  | refine Z.for_lst ?_ | refine Z.for_rng ?_ | refine Z.for_rng2 ?_)
local macro_rules | `(tactic| wtm_at "w") => `(tactic| simp only [L2.wipe, List.map_cons, List.map_nil, List.set_cons_zero, List.set_cons_succ])
local macro_rules | `(tactic| wtm_at "r") => `(tactic| repeat (wtm_at "1"))

namespace M_k01
open PySem PySem.Spec PyProof.Rows L2
def topS (i : Nat) : Stmt := PySem.Challenge.pw_dotfield_k01_bits_written.main.body.getD i (.Pass ⟨0, 0, 0, 0⟩)
abbrev s_BitWriter___init__ : Stmt := (inClass (topS 1) 0)
abbrev sl_BitWriter___init__ : List Str := ["self"]
abbrev pl_BitWriter___init__ : List Str := ["self"]
theorem sc_BitWriter___init__ : FnScope sl_BitWriter___init__ pl_BitWriter___init__ (defScope s_BitWriter___init__) := ⟨rfl, rfl, rfl, by decide +kernel, rfl, by decide +kernel, by decide +kernel⟩
abbrev s_BitWriter_write : Stmt := (inClass (topS 1) 1)
abbrev sl_BitWriter_write : List Str := ["self", "width", "value", "shift"]
abbrev pl_BitWriter_write : List Str := ["self", "width", "value"]
theorem sc_BitWriter_write : FnScope sl_BitWriter_write pl_BitWriter_write (defScope s_BitWriter_write) := ⟨rfl, rfl, rfl, by decide +kernel, rfl, by decide +kernel, by decide +kernel⟩
abbrev s_BitWriter_bit_list : Stmt := (inClass (topS 1) 2)
abbrev sl_BitWriter_bit_list : List Str := ["self"]
abbrev pl_BitWriter_bit_list : List Str := ["self"]
theorem sc_BitWriter_bit_list : FnScope sl_BitWriter_bit_list pl_BitWriter_bit_list (defScope s_BitWriter_bit_list) := ⟨rfl, rfl, rfl, by decide +kernel, rfl, by decide +kernel, by decide +kernel⟩
abbrev s_value_of : Stmt := (topS 2)
abbrev sl_value_of : List Str := ["bits", "value", "bit"]
abbrev pl_value_of : List Str := ["bits"]
theorem sc_value_of : FnScope sl_value_of pl_value_of (defScope s_value_of) := ⟨rfl, rfl, rfl, by decide +kernel, rfl, by decide +kernel, by decide +kernel⟩
abbrev s_BitWriter_byte_list : Stmt := (inClass (topS 1) 3)
abbrev sl_BitWriter_byte_list : List Str := ["self", "missing", "padded", "start"]
abbrev pl_BitWriter_byte_list : List Str := ["self"]
theorem sc_BitWriter_byte_list : FnScope sl_BitWriter_byte_list pl_BitWriter_byte_list (defScope s_BitWriter_byte_list) := ⟨rfl, rfl, rfl, by decide +kernel, rfl, by decide +kernel, by decide +kernel⟩
abbrev s_BitWriter_bits_written : Stmt := (inClass (topS 1) 4)
abbrev sl_BitWriter_bits_written : List Str := ["self"]
abbrev pl_BitWriter_bits_written : List Str := ["self"]
theorem sc_BitWriter_bits_written : FnScope sl_BitWriter_bits_written pl_BitWriter_bits_written (defScope s_BitWriter_bits_written) := ⟨rfl, rfl, rfl, by decide +kernel, rfl, by decide +kernel, by decide +kernel⟩
abbrev s__law_draw : Stmt := (topS 4)
abbrev sl__law_draw : List Str := ["cell", "many", "bound", "numbers", "k", "seed", "mixed"]
abbrev pl__law_draw : List Str := ["cell", "many", "bound"]
theorem sc__law_draw : FnScope sl__law_draw pl__law_draw (defScope s__law_draw) := ⟨rfl, rfl, rfl, by decide +kernel, rfl, by decide +kernel, by decide +kernel⟩
abbrev s__law_is_integer : Stmt := (topS 5)
abbrev sl__law_is_integer : List Str := ["actual"]
abbrev pl__law_is_integer : List Str := ["actual"]
theorem sc__law_is_integer : FnScope sl__law_is_integer pl__law_is_integer (defScope s__law_is_integer) := ⟨rfl, rfl, rfl, by decide +kernel, rfl, by decide +kernel, by decide +kernel⟩
abbrev s__law_same : Stmt := (topS 6)
abbrev sl__law_same : List Str := ["actual", "expected", "k"]
abbrev pl__law_same : List Str := ["actual", "expected"]
theorem sc__law_same : FnScope sl__law_same pl__law_same (defScope s__law_same) := ⟨rfl, rfl, rfl, by decide +kernel, rfl, by decide +kernel, by decide +kernel⟩
abbrev s__law_field : Stmt := (topS 7)
abbrev sl__law_field : List Str := ["cell", "numbers", "width", "value"]
abbrev pl__law_field : List Str := ["cell"]
theorem sc__law_field : FnScope sl__law_field pl__law_field (defScope s__law_field) := ⟨rfl, rfl, rfl, by decide +kernel, rfl, by decide +kernel, by decide +kernel⟩
abbrev s__law_bytes : Stmt := (topS 8)
abbrev sl__law_bytes : List Str := ["bits", "whole", "result", "k", "byte", "bit"]
abbrev pl__law_bytes : List Str := ["bits"]
theorem sc__law_bytes : FnScope sl__law_bytes pl__law_bytes (defScope s__law_bytes) := ⟨rfl, rfl, rfl, by decide +kernel, rfl, by decide +kernel, by decide +kernel⟩
abbrev s__law_right : Stmt := (topS 9)
abbrev sl__law_right : List Str := ["writer", "bits", "many", "first", "second"]
abbrev pl__law_right : List Str := ["writer", "bits"]
theorem sc__law_right : FnScope sl__law_right pl__law_right (defScope s__law_right) := ⟨rfl, rfl, rfl, by decide +kernel, rfl, by decide +kernel, by decide +kernel⟩
abbrev s_law : Stmt := (topS 10)
abbrev sl_law : List Str := ["script", "writers", "bits", "cell", "width", "value", "more", "which", "k"]
abbrev pl_law : List Str := ["script"]
theorem sc_law : FnScope sl_law pl_law (defScope s_law) := ⟨rfl, rfl, rfl, by decide +kernel, rfl, by decide +kernel, by decide +kernel⟩
def nv (cs : List Nat) : List V := cs.map fun c => V.int (c : Nat)
theorem nv_len (cs : List Nat) : (nv cs).length = cs.length := List.length_map _
theorem nv_int (cs : List Nat) : nv cs = (cs.map fun c : Nat => (c : Int)).map V.int := by
  unfold nv; rw [List.map_map]; rfl
theorem nv_get {cs : List Nat} {i : Nat} {x : V} (h : (nv cs)[i]? = some x) : ∃ c, cs[i]? = some c ∧ x = .int (c : Nat) := by
  unfold nv at h
  rw [List.getElem?_map] at h
  cases e : cs[i]? with
  | none => rw [e] at h; cases h
  | some z => rw [e] at h; exact ⟨z, rfl, (Option.some.inj h).symm⟩
theorem nv_at {cs : List Nat} {i : Int} {j : Nat} (e : i = (j : Int)) (h : j < cs.length) : atI (nv cs) i = some (.int (cs.getD j 0 : Nat)) := by
  subst e
  refine atI_nat ?_
  unfold nv
  rw [List.getElem?_map, List.getElem?_eq_getElem h, List.getD_eq_getElem?_getD, List.getElem?_eq_getElem h]
  rfl
theorem nv_set (cs : List Nat) (j c : Nat) : (nv cs).set j (.int (c : Nat)) = nv (cs.set j c) := by
  unfold nv; rw [List.map_set]
theorem nv_rep (n : Nat) : List.replicate n (V.int 0) = nv (List.replicate n 0) := by
  unfold nv; rw [List.map_replicate]; rfl
/-! ints that are naturals -/
theorem nat_shr (b k : Nat) : ((b : Int) / 2 ^ ((k : Nat) : Int).toNat) = ((b >>> k : Nat) : Int) := by
  rw [Int.toNat_natCast, Nat.shiftRight_eq_div_pow]
  have e : (2 : Int) ^ k = ((2 ^ k : Nat) : Int) := by simp
  rw [e]; rfl
theorem nat_shl (b k : Nat) : ((b : Int) * 2 ^ ((k : Nat) : Int).toNat) = ((b <<< k : Nat) : Int) := by
  rw [Int.toNat_natCast, Nat.shiftLeft_eq]
  have e : (2 : Int) ^ k = ((2 ^ k : Nat) : Int) := by simp
  rw [e]; rfl
theorem nat_xor (a b : Nat) : Builtin.bitXor (a : Int) (b : Int) = ((a ^^^ b : Nat) : Int) := by
  rw [Bits.bitXor_pp (Int.natCast_nonneg _) (Int.natCast_nonneg _)]; rfl
theorem nat_and (a b : Nat) : Builtin.bitAnd (a : Int) (b : Int) = ((a &&& b : Nat) : Int) := by
  unfold Builtin.bitAnd
  rw [decide_eq_true (Int.natCast_nonneg a), decide_eq_true (Int.natCast_nonneg b)]
  rfl
theorem nat_and1 (a : Nat) : Builtin.bitAnd (a : Int) 1 = ((a % 2 : Nat) : Int) := by
  rw [show (1 : Int) = ((1 : Nat) : Int) from rfl, nat_and, Nat.and_one_is_mod]
def valN (bs : List Nat) : Nat := bs.foldl (fun v b => 2 * v + b) 0
theorem valN_take {bs : List Nat} {i b : Nat} (e : bs[i]? = some b) : valN (bs.take (i + 1)) = 2 * valN (bs.take i) + b := by
  unfold valN
  rw [List.take_add_one, e, List.foldl_append]
  rfl
/-- the bits of a field, the first i of them -/
def fbs (w v i : Nat) : List Nat := (List.range i).map fun k => (v >>> (w - 1 - k)) % 2
theorem fbs_succ (w v i : Nat) : fbs w v (i + 1) = fbs w v i ++ [(v >>> (w - 1 - i)) % 2] := by
  unfold fbs
  rw [List.range_succ, List.map_append]
  rfl
theorem fbs_len (w v i : Nat) : (fbs w v i).length = i := by unfold fbs; rw [List.length_map, List.length_range]
theorem nv_app (a b : List Nat) : nv (a ++ b) = nv a ++ nv b := List.map_append ..
theorem nv_cut (cs : List Nat) {a b : Nat} (h : a ≤ b) : cutV (nv cs) (some (a : Int)) (some (b : Int)) = nv ((cs.drop a).take (b - a)) := by
  rw [Z.cut_mid h]
  unfold nv
  rw [List.map_take, List.map_drop]
/-- filled up to whole bytes -/
def padded (bs : List Nat) : List Nat := bs ++ List.replicate ((8 - bs.length % 8) % 8) 0
theorem padded_len (bs : List Nat) : (padded bs).length % 8 = 0 ∧ (padded bs).length ≤ bs.length + 7 := by
  unfold padded
  rw [List.length_append, List.length_replicate]
  omega
def chunk (bs : List Nat) (i : Nat) : List Nat := ((padded bs).drop (8 * i)).take 8
def bytesN (bs : List Nat) (n : Nat) : List Nat := (List.range n).map fun i => valN (chunk bs i)
theorem bytesN_succ (bs : List Nat) (n : Nat) : bytesN bs (n + 1) = bytesN bs n ++ [valN (chunk bs n)] := by
  unfold bytesN
  rw [List.range_succ, List.map_append]
  rfl
theorem bytesN_len (bs : List Nat) (n : Nat) : (bytesN bs n).length = n := by unfold bytesN; rw [List.length_map, List.length_range]
def toBytes (bs : List Nat) : List Nat := bytesN bs ((padded bs).length / 8)
theorem rg8 {n : Nat} (h : n % 8 = 0) (hl : n ≤ 100000) : RgC 0 (n : Int) 8 (n / 8) := by
  have e : Builtin.Range.rangeSize 0 (n : Int) 8 = ((n / 8 : Nat) : Int) := by
    rw [PyProof.Rows.rangeSize_pos (by decide) (by omega)]
    omega
  refine ⟨by decide, by decide, ?_, e⟩
  unfold Builtin.Range.small
  rw [e]
  have fl : ∀ z : Int, -9223372036854775808 ≤ z → z < 9223372036854775808 → Builtin.Range.rangeFitsLong z = true := fun z a b => by
    have a' : -(2 ^ 63) ≤ z := Int.le_trans (by decide) a
    have b' : z < 2 ^ 63 := Int.lt_of_lt_of_le b (by decide)
    unfold Builtin.Range.rangeFitsLong
    rw [decide_eq_true a', decide_eq_true b']; rfl
  rw [fl 0 (by decide) (by decide), fl n (by omega) (by omega), fl 8 (by decide) (by decide), fl _ (by omega) (by omega), if_pos (show (8 : Int) > 0 by decide), fl _ (by omega) (by omega), Bool.or_true]
  rfl
theorem two_pos (n : Int) : (0 : Int) < 1 * 2 ^ n.toNat := by
  rw [Int.one_mul]
  exact Int.pow_pos (by decide)
/-- a writer stands at p, its bits at b -/
def WAt (C : Addr) (H : Hp) (p b : Addr) (bs : List Nat) : Prop := (∃ dx, H p = some (.ins C dx [("_bits", .ref b)])) ∧ H b = some (.lst (nv bs))
theorem WAt.same {C : Addr} {H H' : Hp} {p b : Addr} {bs : List Nat} (w : WAt C H p b bs) (s : Same H H') : WAt C H' p b bs := ⟨⟨w.1.choose, s _ _ w.1.choose_spec⟩, s _ _ w.2⟩
theorem no_w : ¬ (("write" : Str) = "_bits") := by decide +kernel
theorem no_bl : ¬ (("bit_list" : Str) = "_bits") := by decide +kernel
theorem no_by : ¬ (("byte_list" : Str) = "_bits") := by decide +kernel
theorem no_bw : ¬ (("bits_written" : Str) = "_bits") := by decide +kernel
def put2 {α : Type} (f : Nat → α) (t : Nat) (x : α) : Nat → α := fun j => if j = t then x else f j
theorem put2_same {α : Type} (f : Nat → α) (t : Nat) (x : α) : put2 f t x t = x := if_pos rfl
theorem put2_ne {α : Type} (f : Nat → α) {t j : Nat} (x : α) (h : j ≠ t) : put2 f t x j = f j := if_neg h
theorem two_at (f : Nat → Addr) {t : Nat} (h : t < 2) : ([V.ref (f 0), V.ref (f 1)] : List V)[t]? = some (.ref (f t)) := by
  rcases (by omega : t = 0 ∨ t = 1) with e | e <;> subst e <;> rfl
theorem two_set (f : Nat → Addr) {t : Nat} (h : t < 2) (e : Addr) : ([V.ref (f 0), V.ref (f 1)] : List V).set t (.ref e) = [V.ref (put2 f t e 0), V.ref (put2 f t e 1)] := by
  rcases (by omega : t = 0 ∨ t = 1) with e | e <;> subst e <;> rfl
/-- what stands between two turns -/
structure IV (C : Addr) (H : Hp) (pW pB : Addr) (w b c : Nat → Addr) (bs : Nat → List Nat) (i : Nat) : Prop where
  hW : H pW = some (.lst [.ref (w 0), .ref (w 1)])
  hB : H pB = some (.lst [.ref (c 0), .ref (c 1)])
  A : ∀ j, j < 2 → WAt C H (w j) (b j) (bs j)
  Cc : ∀ j, j < 2 → H (c j) = some (.lst (nv (bs j)))
  l : ∀ j, j < 2 → (bs j).length ≤ 32 * i
  nb : ∀ j k, j < 2 → k < 2 → j ≠ k → b j ≠ b k
  nW : ∀ j, j < 2 → pW ≠ b j
  nWB : pW ≠ pB
  nB : ∀ j, j < 2 → pB ≠ b j
  nC : ∀ j k, j < 2 → k < 2 → c j ≠ b k
  nCB : ∀ j, j < 2 → c j ≠ pB
theorem IV.same {C : Addr} {H H' : Hp} {pW pB : Addr} {w b c : Nat → Addr} {bs : Nat → List Nat} {i : Nat} (v : IV C H pW pB w b c bs i) (s : Same H H') : IV C H' pW pB w b c bs i :=
  ⟨s _ _ v.hW, s _ _ v.hB, fun j h => (v.A j h).same s, fun j h => s _ _ (v.Cc j h), v.l, v.nb, v.nW, v.nWB, v.nB, v.nC, v.nCB⟩
structure Top (K : PySem.W.Frag) (mg : Str → Option Value) where
  a_BitWriter___init__ : Addr
  d_BitWriter___init__ : FuncData
  F_BitWriter___init__ : Fun K "__init__" "BitWriter.__init__" s_BitWriter___init__ a_BitWriter___init__ d_BitWriter___init__
  b_BitWriter___init__ : Binds K d_BitWriter___init__ pl_BitWriter___init__ []
  a_BitWriter_write : Addr
  d_BitWriter_write : FuncData
  F_BitWriter_write : Fun K "write" "BitWriter.write" s_BitWriter_write a_BitWriter_write d_BitWriter_write
  b_BitWriter_write : Binds K d_BitWriter_write pl_BitWriter_write []
  a_BitWriter_bit_list : Addr
  d_BitWriter_bit_list : FuncData
  F_BitWriter_bit_list : Fun K "bit_list" "BitWriter.bit_list" s_BitWriter_bit_list a_BitWriter_bit_list d_BitWriter_bit_list
  b_BitWriter_bit_list : Binds K d_BitWriter_bit_list pl_BitWriter_bit_list []
  a_value_of : Addr
  d_value_of : FuncData
  F_value_of : Fun K "value_of" "value_of" s_value_of a_value_of d_value_of
  b_value_of : Binds K d_value_of pl_value_of []
  g_value_of : mg "value_of" = some (.ref a_value_of)
  a_BitWriter_byte_list : Addr
  d_BitWriter_byte_list : FuncData
  F_BitWriter_byte_list : Fun K "byte_list" "BitWriter.byte_list" s_BitWriter_byte_list a_BitWriter_byte_list d_BitWriter_byte_list
  b_BitWriter_byte_list : Binds K d_BitWriter_byte_list pl_BitWriter_byte_list []
  a_BitWriter_bits_written : Addr
  d_BitWriter_bits_written : FuncData
  F_BitWriter_bits_written : Fun K "bits_written" "BitWriter.bits_written" s_BitWriter_bits_written a_BitWriter_bits_written d_BitWriter_bits_written
  b_BitWriter_bits_written : Binds K d_BitWriter_bits_written pl_BitWriter_bits_written []
  a__law_draw : Addr
  d__law_draw : FuncData
  F__law_draw : Fun K "_law_draw" "_law_draw" s__law_draw a__law_draw d__law_draw
  b__law_draw : Binds K d__law_draw pl__law_draw []
  g__law_draw : mg "_law_draw" = some (.ref a__law_draw)
  a__law_is_integer : Addr
  d__law_is_integer : FuncData
  F__law_is_integer : Fun K "_law_is_integer" "_law_is_integer" s__law_is_integer a__law_is_integer d__law_is_integer
  b__law_is_integer : Binds K d__law_is_integer pl__law_is_integer []
  g__law_is_integer : mg "_law_is_integer" = some (.ref a__law_is_integer)
  a__law_same : Addr
  d__law_same : FuncData
  F__law_same : Fun K "_law_same" "_law_same" s__law_same a__law_same d__law_same
  b__law_same : Binds K d__law_same pl__law_same []
  g__law_same : mg "_law_same" = some (.ref a__law_same)
  a__law_field : Addr
  d__law_field : FuncData
  F__law_field : Fun K "_law_field" "_law_field" s__law_field a__law_field d__law_field
  b__law_field : Binds K d__law_field pl__law_field []
  g__law_field : mg "_law_field" = some (.ref a__law_field)
  a__law_bytes : Addr
  d__law_bytes : FuncData
  F__law_bytes : Fun K "_law_bytes" "_law_bytes" s__law_bytes a__law_bytes d__law_bytes
  b__law_bytes : Binds K d__law_bytes pl__law_bytes []
  g__law_bytes : mg "_law_bytes" = some (.ref a__law_bytes)
  a__law_right : Addr
  d__law_right : FuncData
  F__law_right : Fun K "_law_right" "_law_right" s__law_right a__law_right d__law_right
  b__law_right : Binds K d__law_right pl__law_right []
  g__law_right : mg "_law_right" = some (.ref a__law_right)
  a_law : Addr
  d_law : FuncData
  F_law : Fun K "law" "law" s_law a_law d_law
  b_law : Binds K d_law pl_law []
  g_law : mg "law" = some (.ref a_law)
  a_BitWriter : Addr
  cl_BitWriter : Cls K a_BitWriter
  g_BitWriter : mg "BitWriter" = some (.ref a_BitWriter)
  M_BitWriter : Mk K a_BitWriter a_BitWriter___init__
  me_BitWriter_write : Meth K a_BitWriter "write" a_BitWriter_write
  me_BitWriter_bit_list : Meth K a_BitWriter "bit_list" a_BitWriter_bit_list
  me_BitWriter_byte_list : Meth K a_BitWriter "byte_list" a_BitWriter_byte_list
  me_BitWriter_bits_written : Meth K a_BitWriter "bits_written" a_BitWriter_bits_written
  no_BitWriter__bits : NoAttr K a_BitWriter "_bits"
  n_range : mg "range" = none
  n_list : mg "list" = none
  n_len : mg "len" = none
  n_int : mg "int" = none
  n_isinstance : mg "isinstance" = none
  n_bool : mg "bool" = none
section
variable {P : Program} {w : World} {K : PySem.W.Frag} {mg : Str → Option Value} {base : Heap}
def sp_BitWriter___init__ {K : PySem.W.Frag} {mg : Str → Option Value} (T : Top K mg) : Sp := fun vs H Q _ => ∃ (p dx : Addr), vs = [.ref p] ∧ H p = some (.ins T.a_BitWriter dx []) ∧ ∀ (b : Addr) (H1 : Hp), H b = none → (∀ a o, H a = some o → a ≠ p → H1 a = some o) → H1 p = some (.ins T.a_BitWriter dx [("_bits", .ref b)]) → H1 b = some (.lst []) → Q .non H1
set_option maxHeartbeats 2000000 in
theorem ok_BitWriter___init__ (T : Top K mg) : FnOk P w K mg base CX0 1 T.a_BitWriter___init__ T.d_BitWriter___init__ pl_BitWriter___init__ (sp_BitWriter___init__ T) := by
  refine T.F_BitWriter___init__.ok sc_BitWriter___init__ (fun vs H Q E h => ?_) (fun cdv A outer s H vs Q E hr h => ?_)
  · obtain ⟨p, dx, rfl, _⟩ := h
    rfl
  · obtain ⟨p, dx, rfl, hp, q⟩ := h
    have hu := hu_of hr
    refine ⟨_, (pss_one (ps_fld (pv 0) (pe_lst pa_nil) rfl)), ?_⟩
    show (_ : L2.TS) _ [some _] H
    try simp only [Z.kx]
    wtm_at "r"
    refine ⟨Nat.zero_le _, fun b hb => ?_⟩
    have npb : p ≠ b := ne_of_none hp hb
    wtm_at "r"
    refine Z.r_setP (by wtm_at "h") T.cl_BitWriter T.no_BitWriter__bits (by show 0 < 1000; decide) ?_
    refine q b _ hb (fun a o ha hne => ?_) L2.upd_same ?_
    · rw [upd_ne hne, upd_ne (ne_of_none ha hb)]; exact ha
    · rw [upd_ne npb.symm]; exact L2.upd_same
def sp_BitWriter_write {K : PySem.W.Frag} {mg : Str → Option Value} (T : Top K mg) : Sp := fun vs H Q _ => ∃ (p b : Addr) (bs : List Nat) (w v : Nat), vs = [.ref p, .int w, .int v] ∧ WAt T.a_BitWriter H p b bs ∧ bs.length ≤ 5000 ∧ w ≤ 32 ∧ ∀ H1, (∀ a o, H a = some o → a ≠ b → H1 a = some o) → H1 b = some (.lst (nv (bs ++ fbs w v w))) → Q .non H1
set_option maxHeartbeats 2000000 in
theorem ok_BitWriter_write (T : Top K mg) : FnOk P w K mg base CX0 1 T.a_BitWriter_write T.d_BitWriter_write pl_BitWriter_write (sp_BitWriter_write T) := by
  refine T.F_BitWriter_write.ok sc_BitWriter_write (fun vs H Q E h => ?_) (fun cdv A outer s H vs Q E hr h => ?_)
  · obtain ⟨p, b, bs, w, v, rfl, _⟩ := h
    rfl
  · obtain ⟨p, b, bs, w, v, rfl, hw, hl, hw32, q⟩ := h
    have hu := hu_of hr
    refine ⟨_, (pss_one (ps_for PassesOwn.never rfl (pi_range3 rfl T.n_range (pa_cons (pe_op op_sub (pv 1) pe_int) (pa_cons (pe_un un_neg pe_int) (pa_cons (pe_un un_neg pe_int) pa_nil)))) (pg_name (i := 3) sc_BitWriter_write.nd rfl (Or.inl rfl)) (pss_one (ps_expr (pe_bm PySem.F.plainAttrs_list PySem.F.slot_list_append PySem.F.type_list_append mt_append (pe_fld (pv 0) rfl) (pa_cons (pe_op op_and (pe_op op_shr (pv 2) (pv 3)) pe_int) pa_nil)))))), ?_⟩
    show (_ : L2.TS) _ [some _, some _, some _, none] H
    try simp only [Z.kx]
    obtain ⟨⟨dx, hp⟩, hb⟩ := hw
    have npb : p ≠ b := ne_of hp hb (by intro z; cases z)
    wtm_at "r"
    refine Z.rng_go3 w (by have := RgC.neg (i := (w : Int) - 1) (j := -1) (by omega) (by omega) (by omega) (by omega); rw [show ((w : Int) - 1 - -1).toNat = w by omega] at this; exact this) (fun i σ H2 => ∃ (x : Option V), σ = [some (.ref p), some (.int w), some (.int v), x] ∧ (∀ a o, H a = some o → a ≠ b → H2 a = some o) ∧ H2 b = some (.lst (nv (bs ++ fbs w v i)))) ?_ ?_ ?_
    · refine ⟨none, rfl, fun a o ha _ => ha, ?_⟩
      show H b = some (.lst (nv (bs ++ [])))
      rw [List.append_nil]; exact hb
    · rintro i σ H2 hi ⟨x, rfl, kp, hl⟩
      wtm_at "r"
      refine Z.r_fldP (kp _ _ hp npb) T.cl_BitWriter T.no_BitWriter__bits Z.look_1 ?_
      wtm_at "r"
      have e : (w : Int) - 1 + (i : Nat) * (-1 : Int) = ((w - 1 - i : Nat) : Int) := by omega
      rw [e]
      wtm_at "r"
      rw [nat_shr, nat_and1]
      refine Z.r_append hl (Z.szl (by rw [nv_len, List.length_append, fbs_len]; omega)) ?_
      refine ⟨_, rfl, fun a o ha hne => by rw [upd_ne hne]; exact kp a o ha hne, ?_⟩
      rw [fbs_succ, ← List.append_assoc, nv_app (bs ++ fbs w v i)]
      exact L2.upd_same
    · rintro σ H2 ⟨x, rfl, kp, hl⟩
      exact q H2 kp hl
def sp_BitWriter_bit_list {K : PySem.W.Frag} {mg : Str → Option Value} (T : Top K mg) : Sp := fun vs H Q _ => ∃ (p b : Addr) (bs : List Nat), vs = [.ref p] ∧ WAt T.a_BitWriter H p b bs ∧ bs.length ≤ 5000 ∧ ∀ (l : Addr) (H1 : Hp), Same H H1 → H l = none → H1 l = some (.lst (nv bs)) → Q (.ref l) H1
set_option maxHeartbeats 2000000 in
theorem ok_BitWriter_bit_list (T : Top K mg) : FnOk P w K mg base CX0 1 T.a_BitWriter_bit_list T.d_BitWriter_bit_list pl_BitWriter_bit_list (sp_BitWriter_bit_list T) := by
  refine T.F_BitWriter_bit_list.ok sc_BitWriter_bit_list (fun vs H Q E h => ?_) (fun cdv A outer s H vs Q E hr h => ?_)
  · obtain ⟨p, b, bs, rfl, _⟩ := h
    rfl
  · obtain ⟨p, b, bs, rfl, hw, hl, q⟩ := h
    have hu := hu_of hr
    refine ⟨_, (pss_one (ps_ret (pe_callTy (show CallR _ _ (Z.cList K) from Z.call_list) (by rfl) T.n_list (by decide +kernel) (pa_cons (pe_fld (pv 0) rfl) pa_nil)))), ?_⟩
    show (_ : L2.TS) _ [some _] H
    try simp only [Z.kx]
    obtain ⟨⟨dx, hp⟩, hb⟩ := hw
    wtm_at "r"
    refine Z.r_fldP hp T.cl_BitWriter T.no_BitWriter__bits Z.look_1 ?_
    wtm_at "r"
    refine Z.r_list (Z.sq_l hb) (fun l hl => ?_)
    exact q l _ (Z.s_upd hl) hl L2.upd_same
def sp_value_of (K : PySem.W.Frag) : Sp := fun vs H Q _ => ∃ (a : Addr) (bs : List Nat), vs = [.ref a] ∧ SqL K H a (nv bs) ∧ Q (.int (valN bs : Nat)) H
set_option maxHeartbeats 2000000 in
theorem ok_value_of (T : Top K mg) : FnOk P w K mg base CX0 1 T.a_value_of T.d_value_of pl_value_of (sp_value_of K) := by
  refine T.F_value_of.ok sc_value_of (fun vs H Q E h => ?_) (fun cdv A outer s H vs Q E hr h => ?_)
  · obtain ⟨a, bs, rfl, _⟩ := h
    rfl
  · obtain ⟨a, bs, rfl, hS, q⟩ := h
    have hu := hu_of hr
    refine ⟨_, (pss_cons (ps_set (i := 1) sc_value_of.nd rfl (Or.inl rfl) pe_int)
      (pss_cons (ps_for PassesOwn.never rfl (pi_list (pv 0)) (pg_name (i := 2) sc_value_of.nd rfl (Or.inl rfl)) (pss_one (ps_set (i := 1) sc_value_of.nd rfl (Or.inl rfl) (pe_op op_add (pe_op op_mul pe_int (pv 1)) (pv 2)))))
      (pss_one (ps_ret (pv 1))))), ?_⟩
    show (_ : L2.TS) _ [some _, none, none] H
    try simp only [Z.kx]
    wtm_at "r"
    refine Z.lst_go hS (fun i σ H2 => ∃ (x : Option V), σ = [some (.ref a), some (.int (valN (bs.take i) : Nat)), x] ∧ H2 = H) ⟨none, rfl, rfl⟩ (fun i σ H2 _ ⟨_, _, e⟩ => by subst e; exact hS) ?_ ?_
    · rintro i y σ H2 hi ⟨x, rfl, rfl⟩
      obtain ⟨b, hbi, rfl⟩ := nv_get hi
      wtm_at "r"
      rw [show (2 : Int) * (valN (bs.take i) : Nat) + (b : Nat) = ((2 * valN (bs.take i) + b : Nat) : Int) by omega, ← valN_take hbi]
      exact ⟨_, rfl, rfl⟩
    · rintro σ H2 ⟨x, rfl, rfl⟩
      rw [nv_len, List.take_length]
      wtm_at "r"
      exact q
def sp_BitWriter_byte_list {K : PySem.W.Frag} {mg : Str → Option Value} (T : Top K mg) : Sp := fun vs H Q _ => ∃ (p b : Addr) (bs : List Nat), vs = [.ref p] ∧ WAt T.a_BitWriter H p b bs ∧ bs.length ≤ 5000 ∧ ∀ (l : Addr) (H1 : Hp), Same H H1 → H l = none → H1 l = some (.lst (nv (toBytes bs))) → Q (.ref l) H1
set_option maxHeartbeats 2000000 in
theorem ok_BitWriter_byte_list (T : Top K mg) : FnOk P w K mg base CX0 2 T.a_BitWriter_byte_list T.d_BitWriter_byte_list pl_BitWriter_byte_list (sp_BitWriter_byte_list T) := by
  refine T.F_BitWriter_byte_list.ok sc_BitWriter_byte_list (fun vs H Q E h => ?_) (fun cdv A outer s H vs Q E hr h => ?_)
  · obtain ⟨p, b, bs, rfl, _⟩ := h
    rfl
  · obtain ⟨p, b, bs, rfl, hw, hl, q⟩ := h
    have hu := hu_of hr
    refine ⟨_, (pss_cons (ps_set (i := 1) sc_BitWriter_byte_list.nd rfl (Or.inl rfl) (pe_op op_mod (pe_un un_neg (pe_callB (show CallR _ _ (Z.cLen K) from Z.call_len) (by rfl) T.n_len (by decide +kernel) (pa_cons (pe_fld (pv 0) rfl) pa_nil))) pe_int))
      (pss_cons (ps_set (i := 2) sc_BitWriter_byte_list.nd rfl (Or.inr rfl) (pe_op op_cat (pe_fld (pv 0) rfl) (pe_op op_rep (pe_lst (pa_cons pe_int pa_nil)) (pv 1))))
      (pss_one (ps_ret (pe_lc (own := [("start", 3)]) (tt := tYes) rfl sc_BitWriter_byte_list.nd (pi_range3 rfl T.n_range (pa_cons pe_int (pa_cons (pe_callB (show CallR _ _ (Z.cLen K) from Z.call_len) (by rfl) T.n_len (by decide +kernel) (pa_cons (pv 2) pa_nil)) (pa_cons pe_int pa_nil)))) (blkOk_by (N := sl_BitWriter_byte_list) (sc := defScope s_BitWriter_byte_list) (by decide +kernel)) (fun _ _ _ _ _ => (pg_name (i := 3) sc_BitWriter_byte_list.nd rfl (Or.inl rfl))) (fun _ _ _ _ _ => pts_nil) (fun _ _ _ _ _ => (pe_call (ok_value_of T) (hr.mono (by decide)) (by rfl) T.g_value_of T.F_value_of.kp T.b_value_of .nil pass0 (pa_cons (pe_slice (show SlR _ (rSlL K) from sl_list) (pv 2) (po_some (pv 3)) (po_some (pe_op op_add (pv 3) pe_int))) pa_nil)))))))), ?_⟩
    show (_ : L2.TS) _ [some _, none, none, none] H
    try simp only [Z.kx]
    obtain ⟨⟨dx, hp⟩, hb⟩ := hw
    wtm_at "r"
    refine Z.r_fldP hp T.cl_BitWriter T.no_BitWriter__bits Z.look_1 ?_
    wtm_at "r"
    rw [nv_len]
    refine Z.r_fldP hp T.cl_BitWriter T.no_BitWriter__bits Z.look_1 ?_
    wtm_at "r"
    refine ⟨by show 1 ≤ sizeLine; decide, fun z hz => ?_⟩
    wtm_at "r"
    refine Z.r_rep L2.upd_same (by omega) (by omega) (fun y hy => ?_)
    rw [nv_rep]
    refine Z.r_cat (by wtm_at "h") L2.upd_same (by rw [nv_len, nv_len, List.length_replicate]; omega) (fun d hd => ?_)
    have s0 := (Z.s_upd (o := .lst [V.int 0]) hz).trans ((Z.s_upd (o := .lst (nv (List.replicate (-(bs.length : Int) % 8).toNat 0))) hy).trans (Z.s_upd (o := .lst (nv bs ++ nv (List.replicate (-(bs.length : Int) % 8).toNat 0))) hd))
    have hl0 : (upd (upd (upd H z (.lst [V.int 0])) y (.lst (nv (List.replicate (-(bs.length : Int) % 8).toNat 0)))) d (.lst (nv bs ++ nv (List.replicate (-(bs.length : Int) % 8).toNat 0)))) d = some (.lst (nv (padded bs))) := by
      rw [L2.upd_same, ← nv_app, show (-(bs.length : Int) % 8).toNat = (8 - bs.length % 8) % 8 by omega]
      rfl
    generalize upd (upd (upd H z (.lst [V.int 0])) y (.lst (nv (List.replicate (-(bs.length : Int) % 8).toNat 0)))) d (.lst (nv bs ++ nv (List.replicate (-(bs.length : Int) % 8).toNat 0))) = H1 at s0 hl0
    have hpl := padded_len bs
    wtm_at "r"
    rw [nv_len]
    refine Z.lcr3_pure ((padded bs).length / 8) (fun i => V.int (valN (chunk bs i) : Nat)) (rg8 hpl.1 (by omega)) (by omega) (fun _ => rfl) ?_ ?_
    · intro i H2 hi s2 k kq
      wtm_at "w"
      have e : (0 : Int) + (i : Nat) * 8 = ((8 * i : Nat) : Int) := by omega
      rw [e]
      wtm_at "r"
      refine Z.r_slL (Z.sq_l (s2 _ _ hl0)) (fun c hc => ?_)
      rw [show ((8 * i : Nat) : Int) + 8 = ((8 * i + 8 : Nat) : Int) by omega, nv_cut _ (by omega), show 8 * i + 8 - 8 * i = 8 by omega]
      wtm_at "r"
      exact ⟨c, _, rfl, Z.sq_l L2.upd_same, kq _ (Z.s_upd hc)⟩
    · intro D H2 hD s2 hl
      refine q D H2 (s0.trans s2) (Z.s_back s0 hD) ?_
      rw [hl]
      show some (HO.lst _) = some (HO.lst (nv ((List.range _).map _)))
      unfold nv
      rw [List.map_map]
      rfl
def sp_BitWriter_bits_written {K : PySem.W.Frag} {mg : Str → Option Value} (T : Top K mg) : Sp := fun vs H Q _ => ∃ (p b : Addr) (bs : List Nat), vs = [.ref p] ∧ WAt T.a_BitWriter H p b bs ∧ bs.length ≤ 5000 ∧ Q (.int bs.length) H
set_option maxHeartbeats 2000000 in
theorem ok_BitWriter_bits_written (T : Top K mg) : FnOk P w K mg base CX0 1 T.a_BitWriter_bits_written T.d_BitWriter_bits_written pl_BitWriter_bits_written (sp_BitWriter_bits_written T) := by
  refine T.F_BitWriter_bits_written.ok sc_BitWriter_bits_written (fun vs H Q E h => ?_) (fun cdv A outer s H vs Q E hr h => ?_)
  · obtain ⟨p, b, bs, rfl, _⟩ := h
    rfl
  · obtain ⟨p, b, bs, rfl, hw, hl, q⟩ := h
    have hu := hu_of hr
    refine ⟨_, (pss_one (ps_ret (pe_callB (show CallR _ _ (Z.cLen K) from Z.call_len) (by rfl) T.n_len (by decide +kernel) (pa_cons (pe_fld (pv 0) rfl) pa_nil)))), ?_⟩
    show (_ : L2.TS) _ [some _] H
    try simp only [Z.kx]
    obtain ⟨⟨dx, hp⟩, hb⟩ := hw
    wtm_at "r"
    refine Z.r_fldP hp T.cl_BitWriter T.no_BitWriter__bits Z.look_1 ?_
    wtm_at "r"
    rw [nv_len]
    exact q
def sp__law_draw (K : PySem.W.Frag) : Sp := fun vs H Q _ => ∃ (c m b : Int), vs = [.int c, .int m, .int b] ∧ 0 ≤ m ∧ m ≤ 1000 ∧ 0 < b ∧ b < 1073741824 ∧ ∀ (p : Addr) (ns : List Int) (H1 : Hp), Same H H1 → H p = none → H1 p = some (.lst (ns.map V.int)) → (ns.length : Int) = m → (∀ n ∈ ns, 0 ≤ n ∧ n < b) → Q (.ref p) H1
set_option maxHeartbeats 2000000 in
theorem ok__law_draw (T : Top K mg) : FnOk P w K mg base CX0 1 T.a__law_draw T.d__law_draw pl__law_draw (sp__law_draw K) := by
  refine T.F__law_draw.ok sc__law_draw (fun vs H Q E h => ?_) (fun cdv A outer s H vs Q E hr h => ?_)
  · obtain ⟨c, m, b, rfl, _⟩ := h
    rfl
  · obtain ⟨c, m, b, rfl, m0, m1, b0, b1, q⟩ := h
    have hu := hu_of hr
    refine ⟨_, (pss_cons (ps_set (i := 3) sc__law_draw.nd rfl (Or.inl rfl) (pe_lst pa_nil))
      (pss_cons (ps_if (pt_cmpR op_ge (pv 0) (pe_op op_pow pe_int pe_int) (nomark _)) (pss_cons (ps_for PassesOwn.never rfl (pi_range1 rfl T.n_range (pa_cons (pv 1) pa_nil)) (pg_name (i := 4) sc__law_draw.nd rfl (Or.inl rfl)) (pss_cons (ps_expr (pe_bm PySem.F.plainAttrs_list PySem.F.slot_list_append PySem.F.type_list_append mt_append (pv 3) (pa_cons (pe_op op_mod (pe_callTy Z.call_int (by rfl) T.n_int (by decide +kernel) (pa_cons (pv 0) pa_nil)) (pv 2)) pa_nil)))
      (pss_one (ps_set (i := 0) sc__law_draw.nd rfl (Or.inl rfl) (pe_op op_fdiv (pv 0) (pv 2))))))
      (pss_one (ps_ret (pv 3)))) pss_nil)
      (pss_cons (ps_set (i := 5) sc__law_draw.nd rfl (Or.inl rfl) (pe_op op_mod (pe_callTy Z.call_int (by rfl) T.n_int (by decide +kernel) (pa_cons (pv 0) pa_nil)) pe_int))
      (pss_cons (ps_for PassesOwn.never rfl (pi_range1 rfl T.n_range (pa_cons (pv 1) pa_nil)) (pg_name (i := 4) sc__law_draw.nd rfl (Or.inl rfl)) (pss_cons (ps_set (i := 5) sc__law_draw.nd rfl (Or.inl rfl) (pe_op op_mod (pe_callTy Z.call_int (by rfl) T.n_int (by decide +kernel) (pa_cons (pe_op op_add (pe_op op_add (pe_op op_mul (pv 5) pe_int) pe_int) (pv 4)) pa_nil)) pe_int))
      (pss_cons (ps_set (i := 6) sc__law_draw.nd rfl (Or.inl rfl) (pe_op op_mod (pe_callTy Z.call_int (by rfl) T.n_int (by decide +kernel) (pa_cons (pe_op op_add (pe_op op_mul (pv 5) pe_int) (pe_op op_mul pe_int (pv 4))) pa_nil)) pe_int))
      (pss_one (ps_expr (pe_bm PySem.F.plainAttrs_list PySem.F.slot_list_append PySem.F.type_list_append mt_append (pv 3) (pa_cons (pe_op op_mod (pe_callTy Z.call_int (by rfl) T.n_int (by decide +kernel) (pa_cons (pe_op op_fdiv (pv 6) pe_int) pa_nil)) (pv 2)) pa_nil)))))))
      (pss_one (ps_ret (pv 3))))))), ?_⟩
    show (_ : L2.TS) _ [some _, some _, some _, none, none, none, none] H
    try simp only [Z.kx]
    wtm_at "r"
    refine ⟨Nat.zero_le _, fun p hp => ?_⟩
    wtm_at "r"
    
    with_reducible refine Z.i_2 (fun hx => ?_) (fun hx => ?_) <;> clear hx
    · -- the digits of a great cell
      wtm_at "r"
      refine Z.rng_go m.toNat rfl ⟨by omega, by omega⟩ (fun i σ H2 => ∃ (c : Int) (k : Option V) (ns : List Int), σ = [some (.int c), some (.int m), some (.int b), some (.ref p), k, none, none] ∧ Same H H2 ∧ H2 p = some (.lst (ns.map V.int)) ∧ ns.length = i ∧ (∀ n ∈ ns, 0 ≤ n ∧ n < b)) ?_ ?_ ?_
      · exact ⟨_, none, [], rfl, Z.s_upd hp, L2.upd_same, rfl, fun n hn => by cases hn⟩
      · rintro i σ H2 hi ⟨c, k, ns, rfl, sm, hl, el, hb⟩
        wtm_at "r"
        refine ⟨_, _, ns ++ [c % b], rfl, Z.s_mut sm hp, ?_, by simp [el], fun n hn => ?_⟩
        · rw [List.map_append]; exact L2.upd_same
        · rcases List.mem_append.mp hn with h | h
          · exact hb n h
          · rw [List.mem_singleton] at h; subst h; exact ⟨Int.emod_nonneg _ (by omega), Int.emod_lt_of_pos _ (by omega)⟩
      · rintro σ H2 ⟨c, k, ns, rfl, sm, hl, el, hb⟩
        wtm_at "r"
        exact q p ns H2 sm hp hl (by omega) hb
    · wtm_at "r"
      refine Z.rng_go m.toNat rfl ⟨by omega, by omega⟩ (fun i σ H2 => ∃ (s : Int) (k x : Option V) (ns : List Int), σ = [some (.int c), some (.int m), some (.int b), some (.ref p), k, some (.int s), x] ∧ Same H H2 ∧ H2 p = some (.lst (ns.map V.int)) ∧ ns.length = i ∧ (∀ n ∈ ns, 0 ≤ n ∧ n < b)) ?_ ?_ ?_
      · exact ⟨_, none, none, [], rfl, Z.s_upd hp, L2.upd_same, rfl, fun n hn => by cases hn⟩
      · rintro i σ H2 hi ⟨s, k, x, ns, rfl, sm, hl, el, hb⟩
        wtm_at "r"
        refine ⟨_, _, _, ns ++ [((s * 48271 + 12345 + (i : Nat)) % 2147483647 * 69621 + 977 * (i : Nat)) % 2147483629 / 3 % b], rfl, Z.s_mut sm hp, ?_, by simp [el], fun n hn => ?_⟩
        · rw [List.map_append]; exact L2.upd_same
        · rcases List.mem_append.mp hn with h | h
          · exact hb n h
          · rw [List.mem_singleton] at h; subst h; exact ⟨Int.emod_nonneg _ (by omega), Int.emod_lt_of_pos _ (by omega)⟩
      · rintro σ H2 ⟨s, k, x, ns, rfl, sm, hl, el, hb⟩
        wtm_at "r"
        exact q p ns H2 sm hp hl (by omega) hb
def sp__law_is_integer (K : PySem.W.Frag) : Sp := fun vs H Q _ => ∃ (i : Int), vs = [.int i] ∧ Q (.bl true) H
set_option maxHeartbeats 2000000 in
theorem ok__law_is_integer (T : Top K mg) : FnOk P w K mg base CX0 1 T.a__law_is_integer T.d__law_is_integer pl__law_is_integer (sp__law_is_integer K) := by
  refine T.F__law_is_integer.ok sc__law_is_integer (fun vs H Q E h => ?_) (fun cdv A outer s H vs Q E hr h => ?_)
  · obtain ⟨i, rfl, _⟩ := h
    rfl
  · obtain ⟨i, rfl, q⟩ := h
    have hu := hu_of hr
    refine ⟨_, (pss_one (ps_ret (pe_and (pe_callB (show CallR _ _ (rIsi K) from call_isi) (by rfl) T.n_isinstance (by decide +kernel) (pa_cons (pv 0) (pa_cons (pe_bltn (v := .ty "int") (u := .type "int") (by rfl) T.n_int (by decide +kernel) rfl) pa_nil))) (pe_one (pe_not (pe_callB (show CallR _ _ (rIsi K) from call_isi) (by rfl) T.n_isinstance (by decide +kernel) (pa_cons (pv 0) (pa_cons (pe_bltn (v := .ty "bool") (u := .type "bool") (by rfl) T.n_bool (by decide +kernel) rfl) pa_nil)))))))), ?_⟩
    show (_ : L2.TS) _ [some _] H
    try simp only [Z.kx]
    wtm_at "r"
    refine Z.r_isi (b := true) (.ty "int") (.base (.int _)) (kit_ty (by decide +kernel)) ?_
    wtm_at "r"
    refine Z.r_isi (b := false) (.ty "bool") (.base (.int _)) (kit_ty (by decide +kernel)) ?_
    wtm_at "r"
    exact q
def sp__law_same (K : PySem.W.Frag) : Sp := fun vs H Q _ => ∃ (a b : Addr) (ns : List Int), vs = [.ref a, .ref b] ∧ H a = some (.lst (ns.map V.int)) ∧ SqL K H b (ns.map V.int) ∧ ns.length ≤ 100000 ∧ Q (.bl true) H
set_option maxHeartbeats 2000000 in
theorem ok__law_same (T : Top K mg) : FnOk P w K mg base CX0 2 T.a__law_same T.d__law_same pl__law_same (sp__law_same K) := by
  refine T.F__law_same.ok sc__law_same (fun vs H Q E h => ?_) (fun cdv A outer s H vs Q E hr h => ?_)
  · obtain ⟨a, b, ns, rfl, _⟩ := h
    rfl
  · obtain ⟨a, b, ns, rfl, ha, hb, hn, q⟩ := h
    have hu := hu_of hr
    refine ⟨_, (pss_cons (ps_if (PW.pt (pw_or (pt_not (pt_val (pe_callB (show CallR _ _ (rIsi K) from call_isi) (by rfl) T.n_isinstance (by decide +kernel) (pa_cons (pv 0) (pa_cons (pe_bltn (v := .ty "list") (u := .type "list") (by rfl) T.n_list (by decide +kernel) rfl) pa_nil))))) (pw_or1 (pt_cmpR op_ne (pe_callB (show CallR _ _ (Z.cLen K) from Z.call_len) (by rfl) T.n_len (by decide +kernel) (pa_cons (pv 0) pa_nil)) (pe_callB (show CallR _ _ (Z.cLen K) from Z.call_len) (by rfl) T.n_len (by decide +kernel) (pa_cons (pv 1) pa_nil)) (nomark _))))) (pss_one (ps_ret pe_bl)) pss_nil)
      (pss_cons (ps_for PassesOwn.never rfl (pi_range1 rfl T.n_range (pa_cons (pe_callB (show CallR _ _ (Z.cLen K) from Z.call_len) (by rfl) T.n_len (by decide +kernel) (pa_cons (pv 1) pa_nil)) pa_nil)) (pg_name (i := 2) sc__law_same.nd rfl (Or.inl rfl)) (pss_one (ps_if (PW.pt (pw_or (pt_not (pt_val (pe_call (ok__law_is_integer T) (hr.mono (by decide)) (by rfl) T.g__law_is_integer T.F__law_is_integer.kp T.b__law_is_integer .nil pass0 (pa_cons (pe_ix (show IxR _ (rIxL K) from ix_list) (pv 0) (pv 2) (fun _ _ => rfl)) pa_nil)))) (pw_or1 (pt_cmpR op_ne (pe_ix (show IxR _ (rIxL K) from ix_list) (pv 0) (pv 2) (fun _ _ => rfl)) (pe_ix (show IxR _ (rIxL K) from ix_list) (pv 1) (pv 2) (fun _ _ => rfl)) (nomark _))))) (pss_one (ps_ret pe_bl)) pss_nil)))
      (pss_one (ps_ret pe_bl)))), ?_⟩
    show (_ : L2.TS) _ [some _, some _, none] H
    try simp only [Z.kx]
    wtm_at "r"
    refine Z.r_isi (b := true) (.ty "list") (.base (.lst ha)) (kit_ty (by decide +kernel)) ?_
    wtm_at "r"
    with_reducible refine Z.i_df (not_not_intro rfl) ?_
    wtm_at "r"
    rw [List.length_map]
    refine Z.rng_go ns.length (by omega) ⟨by omega, by omega⟩ (fun i σ H2 => ∃ (k : Option V), σ = [some (.ref a), some (.ref b), k] ∧ H2 = H) ⟨none, rfl, rfl⟩ ?_ ?_
    · rintro i σ H2 hi ⟨k, rfl, rfl⟩
      wtm_at "r"
      refine Z.r_ixL (Z.sq_l ha) (Z.at_map rfl (List.getElem?_eq_getElem hi)) ?_
      wtm_at "r"
      refine ⟨_, rfl, ?_⟩
      wtm_at "r"
      refine Z.r_ixL (Z.sq_l ha) (Z.at_map rfl (List.getElem?_eq_getElem hi)) ?_
      wtm_at "r"
      refine Z.r_ixL hb (Z.at_map rfl (List.getElem?_eq_getElem hi)) ?_
      wtm_at "r"
      with_reducible refine Z.i_df (not_not_intro rfl) ?_
      wtm_at "r"
      exact ⟨_, rfl, rfl⟩
    · rintro σ H2 ⟨k, rfl, rfl⟩
      wtm_at "r"
      exact q
def sp__law_field (K : PySem.W.Frag) : Sp := fun vs H Q _ => ∃ (c : Int), vs = [.int c] ∧ ∀ (t : Addr) (w v : Nat) (m : Int) (H1 : Hp), Same H H1 → H t = none → H1 t = some (.tup [.int w, .int v, .int m]) → w ≤ 32 → 0 ≤ m ∧ m < 1048576 → Q (.ref t) H1
set_option maxHeartbeats 2000000 in
theorem ok__law_field (T : Top K mg) : FnOk P w K mg base CX0 2 T.a__law_field T.d__law_field pl__law_field (sp__law_field K) := by
  refine T.F__law_field.ok sc__law_field (fun vs H Q E h => ?_) (fun cdv A outer s H vs Q E hr h => ?_)
  · obtain ⟨c, rfl, _⟩ := h
    rfl
  · obtain ⟨c, rfl, q⟩ := h
    have hu := hu_of hr
    refine ⟨_, (pss_cons (ps_set (i := 1) sc__law_field.nd rfl (Or.inl rfl) (pe_call (ok__law_draw T) (hr.mono (by decide)) (by rfl) T.g__law_draw T.F__law_draw.kp T.b__law_draw .nil pass0 (pa_cons (pv 0) (pa_cons pe_int (pa_cons (pe_op op_shl pe_int pe_int) pa_nil)))))
      (pss_cons (ps_set (i := 2) sc__law_field.nd rfl (Or.inl rfl) (pe_op op_mod (pe_ix (show IxR _ (rIxL K) from ix_list) (pv 1) pe_int (fun _ _ => rfl)) pe_int))
      (pss_cons (ps_set (i := 3) sc__law_field.nd rfl (Or.inl rfl) (pe_op op_add (pe_ix (show IxR _ (rIxL K) from ix_list) (pv 1) pe_int (fun _ _ => rfl)) (pe_op op_shl (pe_ix (show IxR _ (rIxL K) from ix_list) (pv 1) pe_int (fun _ _ => rfl)) pe_int)))
      (C8.pss_cut (ps_if (pt_cmpR op_eq (pe_op op_mod (pe_op op_fdiv (pe_ix (show IxR _ (rIxL K) from ix_list) (pv 1) pe_int (fun _ _ => rfl)) pe_int) pe_int) pe_int (nomark _)) (pss_one (ps_set (i := 3) sc__law_field.nd rfl (Or.inl rfl) pe_int)) pss_nil)
      (C8.pss_cut (ps_if (pt_cmpR op_eq (pe_op op_mod (pe_op op_fdiv (pe_ix (show IxR _ (rIxL K) from ix_list) (pv 1) pe_int (fun _ _ => rfl)) pe_int) pe_int) pe_int (nomark _)) (pss_one (ps_set (i := 3) sc__law_field.nd rfl (Or.inl rfl) (pe_op op_sub (pe_op op_shl pe_int (pv 2)) pe_int))) pss_nil)
      (pss_one (ps_ret (pe_tup (pa_cons (pv 2) (pa_cons (pe_op op_mod (pe_callTy Z.call_int (by rfl) T.n_int (by decide +kernel) (pa_cons (pv 3) pa_nil)) (pe_op op_shl pe_int (pv 2))) (pa_cons (pe_ix (show IxR _ (rIxL K) from ix_list) (pv 1) pe_int (fun _ _ => rfl)) pa_nil))))))))))), ?_⟩
    show (_ : L2.TS) _ [some _, none, none, none] H
    try simp only [Z.kx]
    wtm_at "r"
    rw [show (1 : Int) * 2 ^ Int.toNat 20 = 1048576 by decide]
    refine ⟨_, _, _, rfl, by decide, by decide, by decide, by decide, fun d ms H3 s3 hd hm el hb => ?_⟩
    obtain ⟨m0, m1, m2, m3, rfl⟩ := Z.len4 (ns := ms) (by omega)
    have hb0 := hb m0 (by simp)
    have hb2 := hb m2 (by simp)
    have hb3 := hb m3 (by simp)
    wtm_at "r"
    refine Z.r_ixL (Z.sq_l hm) (v := .int m0) rfl ?_
    wtm_at "r"
    refine Z.r_ixL (Z.sq_l hm) (v := .int m1) rfl ?_
    wtm_at "r"
    refine Z.r_ixL (Z.sq_l hm) (v := .int m2) rfl ?_
    wtm_at "r"
    have p33 := two_pos (m0 % 33)
    refine Z.r_cut (fun σ H4 => ∃ (u : Int), σ = [some (.int c), some (.ref d), some (.int (m0 % 33)), some (.int u)] ∧ H4 = H3) ?_ ?_
    · wtm_at "r"
      refine Z.r_ixL (Z.sq_l hm) (v := .int m0) rfl ?_
      wtm_at "r"
      with_reducible refine Z.i_2 (fun h => ?_) (fun h => ?_)
      · wtm_at "r"
        exact ⟨_, rfl, rfl⟩
      · wtm_at "r"
        exact ⟨_, rfl, rfl⟩
    rintro σ H4 ⟨u, rfl, rfl⟩
    refine Z.r_cut (fun σ H5 => ∃ (u : Int), σ = [some (.int c), some (.ref d), some (.int (m0 % 33)), some (.int u)] ∧ H5 = H4) ?_ ?_
    · wtm_at "r"
      refine Z.r_ixL (Z.sq_l hm) (v := .int m0) rfl ?_
      wtm_at "r"
      with_reducible refine Z.i_2 (fun h => ?_) (fun h => ?_)
      · wtm_at "r"
        exact ⟨_, rfl, rfl⟩
      · wtm_at "r"
        exact ⟨_, rfl, rfl⟩
    rintro σ H5 ⟨u, rfl, rfl⟩
    wtm_at "r"
    refine Z.r_ixL (Z.sq_l hm) (v := .int m3) rfl ?_
    wtm_at "r"
    refine ⟨by show 3 ≤ sizeLine; decide, fun t ht => ?_⟩
    have e1 : m0 % 33 = (((m0 % 33).toNat : Nat) : Int) := by omega
    have e2 : u % (1 * 2 ^ (m0 % 33).toNat) = (((u % (1 * 2 ^ (m0 % 33).toNat)).toNat : Nat) : Int) := by
      have := Int.emod_nonneg u (show (1 * 2 ^ (m0 % 33).toNat : Int) ≠ 0 by omega)
      omega
    refine q t (m0 % 33).toNat (u % (1 * 2 ^ (m0 % 33).toNat)).toNat m3 _ (s3.trans (Z.s_upd ht)) (Z.s_back s3 ht) ?_ (by omega) hb3
    rw [L2.upd_same, ← e1, ← e2]
def sp__law_bytes (K : PySem.W.Frag) : Sp := fun vs H Q _ => ∃ (a : Addr) (bs : List Nat), vs = [.ref a] ∧ H a = some (.lst (nv bs)) ∧ bs.length ≤ 5000 ∧ ∀ (l : Addr) (H1 : Hp), Same H H1 → H l = none → H1 l = some (.lst (nv (toBytes bs))) → Q (.ref l) H1
set_option maxHeartbeats 2000000 in
theorem ok__law_bytes (T : Top K mg) : FnOk P w K mg base CX0 1 T.a__law_bytes T.d__law_bytes pl__law_bytes (sp__law_bytes K) := by
  refine T.F__law_bytes.ok sc__law_bytes (fun vs H Q E h => ?_) (fun cdv A outer s H vs Q E hr h => ?_)
  · obtain ⟨a, bs, rfl, _⟩ := h
    rfl
  · obtain ⟨a, bs, rfl, hS, hl, q⟩ := h
    have hu := hu_of hr
    refine ⟨_, (pss_cons (ps_set (i := 1) sc__law_bytes.nd rfl (Or.inl rfl) (pe_op op_cat (pv 0) (pe_op op_rep (pe_lst (pa_cons pe_int pa_nil)) (pe_op op_mod (pe_callTy Z.call_int (by rfl) T.n_int (by decide +kernel) (pa_cons (pe_op op_sub pe_int (pe_callB (show CallR _ _ (Z.cLen K) from Z.call_len) (by rfl) T.n_len (by decide +kernel) (pa_cons (pv 0) pa_nil))) pa_nil)) pe_int))))
      (pss_cons (ps_set (i := 2) sc__law_bytes.nd rfl (Or.inl rfl) (pe_lst pa_nil))
      (pss_cons (ps_for PassesOwn.never rfl (pi_range1 rfl T.n_range (pa_cons (pe_op op_fdiv (pe_callB (show CallR _ _ (Z.cLen K) from Z.call_len) (by rfl) T.n_len (by decide +kernel) (pa_cons (pv 1) pa_nil)) pe_int) pa_nil)) (pg_name (i := 3) sc__law_bytes.nd rfl (Or.inl rfl)) (pss_cons (ps_set (i := 4) sc__law_bytes.nd rfl (Or.inl rfl) pe_int)
      (pss_cons (ps_for PassesOwn.never rfl (pi_list (pe_slice (show SlR _ (rSlL K) from sl_list) (pv 1) (po_some (pe_op op_mul pe_int (pv 3))) (po_some (pe_op op_add (pe_op op_mul pe_int (pv 3)) pe_int)))) (pg_name (i := 5) sc__law_bytes.nd rfl (Or.inl rfl)) (pss_one (ps_set (i := 4) sc__law_bytes.nd rfl (Or.inl rfl) (pe_op op_add (pe_op op_mul pe_int (pv 4)) (pv 5)))))
      (pss_one (ps_expr (pe_bm PySem.F.plainAttrs_list PySem.F.slot_list_append PySem.F.type_list_append mt_append (pv 2) (pa_cons (pv 4) pa_nil)))))))
      (pss_one (ps_ret (pv 2)))))), ?_⟩
    show (_ : L2.TS) _ [some _, none, none, none, none, none] H
    try simp only [Z.kx]
    wtm_at "r"
    refine ⟨by show 1 ≤ sizeLine; decide, fun z hz => ?_⟩
    have hS1 : SqL K (upd H z (.lst [V.int 0])) a (nv bs) := Z.s_sq (Z.s_upd hz) (Z.sq_l hS)
    wtm_at "r"
    rw [nv_len]
    refine Z.r_rep L2.upd_same (by omega) (by omega) (fun y hy => ?_)
    rw [nv_rep]
    refine Z.r_cat (by wtm_at "h") L2.upd_same (by rw [nv_len, nv_len, List.length_replicate]; omega) (fun d hd => ?_)
    have s0 := (Z.s_upd (o := .lst [V.int 0]) hz).trans ((Z.s_upd (o := .lst (nv (List.replicate ((8 - (bs.length : Int)) % 8).toNat 0))) hy).trans (Z.s_upd (o := .lst (nv bs ++ nv (List.replicate ((8 - (bs.length : Int)) % 8).toNat 0))) hd))
    have hl0 : (upd (upd (upd H z (.lst [V.int 0])) y (.lst (nv (List.replicate ((8 - (bs.length : Int)) % 8).toNat 0)))) d (.lst (nv bs ++ nv (List.replicate ((8 - (bs.length : Int)) % 8).toNat 0)))) d = some (.lst (nv (padded bs))) := by
      rw [L2.upd_same, ← nv_app, show ((8 - (bs.length : Int)) % 8).toNat = (8 - bs.length % 8) % 8 by omega]
      rfl
    generalize upd (upd (upd H z (.lst [V.int 0])) y (.lst (nv (List.replicate ((8 - (bs.length : Int)) % 8).toNat 0)))) d (.lst (nv bs ++ nv (List.replicate ((8 - (bs.length : Int)) % 8).toNat 0))) = H1 at s0 hl0
    have hpl := padded_len bs
    wtm_at "r"
    refine ⟨Nat.zero_le _, fun r hr0 => ?_⟩
    have hrH := Z.s_back s0 hr0
    wtm_at "r"
    rw [nv_len]
    refine Z.rng_go ((padded bs).length / 8) (by omega) ⟨by omega, by omega⟩ (fun i σ H2 => ∃ (x3 x4 x5 : Option V), σ = [some (.ref a), some (.ref d), some (.ref r), x3, x4, x5] ∧ Same H H2 ∧ H2 d = some (.lst (nv (padded bs))) ∧ H2 r = some (.lst (nv (bytesN bs i)))) ⟨_, _, _, rfl, s0.trans (Z.s_upd hr0), (Z.s_upd hr0) _ _ hl0, L2.upd_same⟩ ?_ ?_
    · rintro i σ H2 hi ⟨x3, x4, x5, rfl, s2, hd2, hr2⟩
      have nrd : d ≠ r := ne_of_none hl0 hr0
      wtm_at "r"
      refine Z.r_slL (Z.sq_l hd2) (fun c hc => ?_)
      have ncr : r ≠ c := ne_of_none hr2 hc
      rw [show (8 : Int) * (i : Nat) + 8 = ((8 * i + 8 : Nat) : Int) by omega, show (8 : Int) * (i : Nat) = ((8 * i : Nat) : Int) by omega, nv_cut _ (by omega), show 8 * i + 8 - 8 * i = 8 by omega]
      have s3 : Same H2 (upd H2 c (.lst (nv (chunk bs i)))) := Z.s_upd hc
      have hc3 : (upd H2 c (.lst (nv (chunk bs i)))) c = some (.lst (nv (chunk bs i))) := L2.upd_same
      rw [show List.take 8 (List.drop (8 * i) (padded bs)) = chunk bs i from rfl]
      generalize upd H2 c (.lst (nv (chunk bs i))) = H3 at s3 hc3
      refine Z.lst_go (Z.sq_l hc3) (fun j σ H4 => ∃ (x5 : Option V), σ = [some (.ref a), some (.ref d), some (.ref r), some (.int (i : Nat)), some (.int (valN ((chunk bs i).take j) : Nat)), x5] ∧ H4 = H3) ⟨_, rfl, rfl⟩ (fun i σ H2 _ ⟨_, _, e⟩ => by subst e; exact Z.sq_l hc3) ?_ ?_
      · rintro j y σ H4 hj ⟨x5, rfl, rfl⟩
        obtain ⟨b, hbi, rfl⟩ := nv_get hj
        wtm_at "r"
        rw [show (2 : Int) * (valN ((chunk bs i).take j) : Nat) + (b : Nat) = ((2 * valN ((chunk bs i).take j) + b : Nat) : Int) by omega, ← valN_take hbi]
        exact ⟨_, rfl, rfl⟩
      · rintro σ H4 ⟨x5, rfl, rfl⟩
        rw [nv_len, List.take_length]
        wtm_at "r"
        refine Z.r_append (s3 _ _ hr2) (Z.szl (by rw [nv_len, bytesN_len]; omega)) ?_
        refine ⟨_, _, _, rfl, Z.s_mut (s2.trans s3) hrH, ?_, ?_⟩
        · rw [upd_ne nrd]; exact s3 _ _ hd2
        · rw [bytesN_succ, nv_app]; exact L2.upd_same
    · rintro σ H2 ⟨x3, x4, x5, rfl, s2, hd2, hr2⟩
      wtm_at "r"
      exact q r H2 s2 hrH hr2
def sp__law_right {K : PySem.W.Frag} {mg : Str → Option Value} (T : Top K mg) : Sp := fun vs H Q _ => ∃ (p b c : Addr) (bs : List Nat), vs = [.ref p, .ref c] ∧ WAt T.a_BitWriter H p b bs ∧ H c = some (.lst (nv bs)) ∧ bs.length ≤ 5000 ∧ ∀ H1, Same H H1 → Q (.bl true) H1
set_option maxHeartbeats 2000000 in
theorem ok__law_right (T : Top K mg) : FnOk P w K mg base CX0 3 T.a__law_right T.d__law_right pl__law_right (sp__law_right T) := by
  refine T.F__law_right.ok sc__law_right (fun vs H Q E h => ?_) (fun cdv A outer s H vs Q E hr h => ?_)
  · obtain ⟨p, b, c, bs, rfl, _⟩ := h
    rfl
  · obtain ⟨p, b, c, bs, rfl, hw, hc, hl, q⟩ := h
    have hu := hu_of hr
    refine ⟨_, (pss_cons (ps_set (i := 2) sc__law_right.nd rfl (Or.inl rfl) (pe_meth0 (pv 0) T.cl_BitWriter T.me_BitWriter_bits_written (ok_BitWriter_bits_written T) (hr.mono (by decide)) T.b_BitWriter_bits_written .nil pass0))
      (pss_cons (ps_if (PW.pt (pw_or (pt_not (pt_val (pe_call (ok__law_is_integer T) (hr.mono (by decide)) (by rfl) T.g__law_is_integer T.F__law_is_integer.kp T.b__law_is_integer .nil pass0 (pa_cons (pv 2) pa_nil)))) (pw_or1 (pt_cmpR op_ne (pv 2) (pe_callB (show CallR _ _ (Z.cLen K) from Z.call_len) (by rfl) T.n_len (by decide +kernel) (pa_cons (pv 1) pa_nil)) (nomark _))))) (pss_one (ps_ret pe_bl)) pss_nil)
      (pss_cons (ps_set (i := 3) sc__law_right.nd rfl (Or.inl rfl) (pe_meth0 (pv 0) T.cl_BitWriter T.me_BitWriter_bit_list (ok_BitWriter_bit_list T) (hr.mono (by decide)) T.b_BitWriter_bit_list .nil pass0))
      (pss_cons (ps_set (i := 4) sc__law_right.nd rfl (Or.inl rfl) (pe_meth0 (pv 0) T.cl_BitWriter T.me_BitWriter_byte_list (ok_BitWriter_byte_list T) (hr.mono (by decide)) T.b_BitWriter_byte_list .nil pass0))
      (pss_cons (ps_if (PW.pt (pw_or (pt_not (pt_val (pe_call (ok__law_same T) (hr.mono (by decide)) (by rfl) T.g__law_same T.F__law_same.kp T.b__law_same .nil pass0 (pa_cons (pv 3) (pa_cons (pv 1) pa_nil))))) (pw_or1 (pt_not (pt_val (pe_call (ok__law_same T) (hr.mono (by decide)) (by rfl) T.g__law_same T.F__law_same.kp T.b__law_same .nil pass0 (pa_cons (pv 4) (pa_cons (pe_call (ok__law_bytes T) (hr.mono (by decide)) (by rfl) T.g__law_bytes T.F__law_bytes.kp T.b__law_bytes .nil pass0 (pa_cons (pv 1) pa_nil)) pa_nil)))))))) (pss_one (ps_ret pe_bl)) pss_nil)
      (pss_cons (ps_expr (pe_bm PySem.F.plainAttrs_list PySem.F.slot_list_append PySem.F.type_list_append mt_append (pv 3) (pa_cons pe_int pa_nil)))
      (pss_cons (ps_expr (pe_bm PySem.F.plainAttrs_list PySem.F.slot_list_append PySem.F.type_list_append mt_append (pv 4) (pa_cons pe_int pa_nil)))
      (pss_one (ps_ret (pe_and (pe_call (ok__law_same T) (hr.mono (by decide)) (by rfl) T.g__law_same T.F__law_same.kp T.b__law_same .nil pass0 (pa_cons (pe_meth0 (pv 0) T.cl_BitWriter T.me_BitWriter_bit_list (ok_BitWriter_bit_list T) (hr.mono (by decide)) T.b_BitWriter_bit_list .nil pass0) (pa_cons (pv 1) pa_nil))) (pe_one (pe_call (ok__law_same T) (hr.mono (by decide)) (by rfl) T.g__law_same T.F__law_same.kp T.b__law_same .nil pass0 (pa_cons (pe_meth0 (pv 0) T.cl_BitWriter T.me_BitWriter_byte_list (ok_BitWriter_byte_list T) (hr.mono (by decide)) T.b_BitWriter_byte_list .nil pass0) (pa_cons (pe_call (ok__law_bytes T) (hr.mono (by decide)) (by rfl) T.g__law_bytes T.F__law_bytes.kp T.b__law_bytes .nil pass0 (pa_cons (pv 1) pa_nil)) pa_nil)))))))))))))), ?_⟩
    show (_ : L2.TS) _ [some _, some _, none, none, none] H
    try simp only [Z.kx]
    obtain ⟨⟨dx, hp⟩, hb⟩ := id hw
    wtm_at "r"
    refine Z.r_objP hp ((Z.look_s no_bw).trans Z.look_0) ?_
    wtm_at "r"
    refine ⟨p, b, bs, rfl, hw, hl, ?_⟩
    wtm_at "r"
    refine ⟨_, rfl, ?_⟩
    wtm_at "r"
    rw [nv_len]
    with_reducible refine Z.i_df (not_not_intro rfl) ?_
    wtm_at "r"
    refine Z.r_objP hp ((Z.look_s no_bl).trans Z.look_0) ?_
    wtm_at "r"
    refine ⟨p, b, bs, rfl, hw, hl, fun f H1 s1 nf hf => ?_⟩
    have hw1 := hw.same s1
    wtm_at "r"
    refine Z.r_objP (s1 _ _ hp) ((Z.look_s no_by).trans Z.look_0) ?_
    wtm_at "r"
    refine ⟨p, b, bs, rfl, hw1, hl, fun g H2 s2 ng hg => ?_⟩
    have hw2 := hw1.same s2
    have hc2 : H2 c = some (.lst (nv bs)) := s2 _ _ (s1 _ _ hc)
    have hf2 := s2 _ _ hf
    have hlb : (toBytes bs).length ≤ 6000 := by
      unfold toBytes
      rw [bytesN_len]
      have := padded_len bs
      omega
    wtm_at "r"
    refine ⟨f, c, bs.map (fun c : Nat => (c : Int)), rfl, by rw [← nv_int]; exact hf2, by rw [← nv_int]; exact Z.sq_l hc2, by rw [List.length_map]; omega, ?_⟩
    wtm_at "r"
    refine ⟨c, bs, rfl, hc2, hl, fun y H3 s3 ny hy => ?_⟩
    wtm_at "r"
    refine ⟨g, y, (toBytes bs).map (fun c : Nat => (c : Int)), rfl, by rw [← nv_int]; exact s3 _ _ hg, by rw [← nv_int]; exact Z.sq_l hy, by rw [List.length_map]; omega, ?_⟩
    wtm_at "r"
    have t3 := s1.trans (s2.trans s3)
    have ngH := Z.s_back s1 ng
    refine Z.r_append (s3 _ _ hf2) (Z.szl (by rw [nv_len]; omega)) ?_
    have s4 : Same H (upd H3 f (.lst (nv bs ++ [V.int 1]))) := Z.s_mut t3 nf
    have hg4 : (upd H3 f (.lst (nv bs ++ [V.int 1]))) g = some (.lst (nv (toBytes bs))) := (upd_ne (ne_of_none hf ng).symm).trans (s3 _ _ hg)
    generalize upd H3 f (.lst (nv bs ++ [V.int 1])) = H4 at s4 hg4
    wtm_at "r"
    refine Z.r_append hg4 (Z.szl (by rw [nv_len]; omega)) ?_
    have s5 : Same H (upd H4 g (.lst (nv (toBytes bs) ++ [V.int 1]))) := Z.s_mut s4 ngH
    generalize upd H4 g (.lst (nv (toBytes bs) ++ [V.int 1])) = H5 at s5
    have hw5 := hw.same s5
    wtm_at "r"
    refine Z.r_objP (s5 _ _ hp) ((Z.look_s no_bl).trans Z.look_0) ?_
    wtm_at "r"
    refine ⟨p, b, bs, rfl, hw5, hl, fun f6 H6 s6 nf6 hf6 => ?_⟩
    wtm_at "r"
    refine ⟨f6, c, bs.map (fun c : Nat => (c : Int)), rfl, by rw [← nv_int]; exact hf6, by rw [← nv_int]; exact Z.sq_l (s6 _ _ (s5 _ _ hc)), by rw [List.length_map]; omega, ?_⟩
    wtm_at "r"
    refine Z.r_objP (s6 _ _ (s5 _ _ hp)) ((Z.look_s no_by).trans Z.look_0) ?_
    wtm_at "r"
    refine ⟨p, b, bs, rfl, hw5.same s6, hl, fun g7 H7 s7 ng7 hg7 => ?_⟩
    wtm_at "r"
    refine ⟨c, bs, rfl, s7 _ _ (s6 _ _ (s5 _ _ hc)), hl, fun y8 H8 s8 ny8 hy8 => ?_⟩
    wtm_at "r"
    refine ⟨g7, y8, (toBytes bs).map (fun c : Nat => (c : Int)), rfl, by rw [← nv_int]; exact s8 _ _ hg7, by rw [← nv_int]; exact Z.sq_l hy8, by rw [List.length_map]; omega, ?_⟩
    exact q _ (s5.trans (s6.trans (s7.trans s8)))
def sp_law (K : PySem.W.Frag) : Sp := fun vs H Q _ => ∃ (a : Addr) (ns : List Int), vs = [.ref a] ∧ SqL K H a (ns.map V.int) ∧ ns.length ≤ 63 ∧ ∀ H1, Q (.bl true) H1
set_option maxHeartbeats 2000000 in
theorem ok_law (T : Top K mg) : FnOk P w K mg base CX0 4 T.a_law T.d_law pl_law (sp_law K) := by
  refine T.F_law.ok sc_law (fun vs H Q E h => ?_) (fun cdv A outer s H vs Q E hr h => ?_)
  · obtain ⟨a, ns, rfl, _⟩ := h
    rfl
  · obtain ⟨a, ns, rfl, hS, hn, q⟩ := h
    have hu := hu_of hr
    refine ⟨_, (pss_cons (ps_set (i := 1) sc_law.nd rfl (Or.inl rfl) (pe_lst (pa_cons (pe_make0 T.M_BitWriter (ok_BitWriter___init__ T) (hr.mono (by decide)) rfl T.g_BitWriter T.b_BitWriter___init__ .nil pass0) (pa_cons (pe_make0 T.M_BitWriter (ok_BitWriter___init__ T) (hr.mono (by decide)) rfl T.g_BitWriter T.b_BitWriter___init__ .nil pass0) pa_nil))))
      (pss_cons (ps_set (i := 2) sc_law.nd rfl (Or.inl rfl) (pe_lst (pa_cons (pe_lst pa_nil) (pa_cons (pe_lst pa_nil) pa_nil))))
      (pss_cons (ps_for PassesOwn.never rfl (pi_list (pe_slice (show SlR _ (rSlL K) from sl_list) (pv 0) po_none (po_some pe_int))) (pg_name (i := 3) sc_law.nd rfl (Or.inl rfl)) (pss_cons (ps_asg (pe_call (ok__law_field T) (hr.mono (by decide)) (by rfl) T.g__law_field T.F__law_field.kp T.b__law_field .nil pass0 (pa_cons (pv 3) pa_nil)) (pg_tup rfl (pgs_cons (pg_name (i := 4) sc_law.nd rfl (Or.inr rfl)) (pgs_cons (pg_name (i := 5) sc_law.nd rfl (Or.inr rfl)) (pgs_cons (pg_name (i := 6) sc_law.nd rfl (Or.inl rfl)) pgs_nil)))))
      (pss_cons (ps_set (i := 7) sc_law.nd rfl (Or.inl rfl) (pe_op op_mod (pv 6) pe_int))
      (pss_cons (ps_if (pt_cmpR Z.op_notN (pe_meth (pe_ix (show IxR _ (rIxL K) from ix_list) (pv 1) (pv 7) (fun _ _ => rfl)) T.cl_BitWriter T.me_BitWriter_write (ok_BitWriter_write T) (hr.mono (by decide)) T.b_BitWriter_write .nil pass0 (pa_cons (pv 4) (pa_cons (pv 5) pa_nil))) pe_non (nomark _)) (pss_one (ps_ret pe_bl)) pss_nil)
      (pss_cons (ps_asg (pe_op op_cat (pe_ix (show IxR _ (rIxL K) from ix_list) (pv 2) (pv 7) (fun _ _ => rfl)) (pe_lc (own := [("k", 8)]) (tt := tYes) rfl sc_law.nd (pi_range1 rfl T.n_range (pa_cons (pv 4) pa_nil)) (blkOk_by (N := sl_law) (sc := defScope s_law) (by decide +kernel)) (fun _ _ _ _ _ => (pg_name (i := 8) sc_law.nd rfl (Or.inl rfl))) (fun _ _ _ _ _ => pts_nil) (fun _ _ _ _ _ => (pe_op op_and (pe_op op_shr (pv 5) (pe_op op_sub (pe_op op_sub (pv 4) pe_int) (pv 8))) pe_int)))) (pg_sub (pv 2) (pv 7) set_list))
      (pss_one (ps_if (PW.pt (pw_and (pt_cmpR op_eq (pe_op op_mod (pe_op op_fdiv (pv 6) pe_int) pe_int) pe_int (nomark _)) (pw_and1 (pt_not (pt_val (pe_call (ok__law_right T) (hr.mono (by decide)) (by rfl) T.g__law_right T.F__law_right.kp T.b__law_right .nil pass0 (pa_cons (pe_ix (show IxR _ (rIxL K) from ix_list) (pv 1) (pv 7) (fun _ _ => rfl)) (pa_cons (pe_ix (show IxR _ (rIxL K) from ix_list) (pv 2) (pv 7) (fun _ _ => rfl)) pa_nil)))))))) (pss_one (ps_ret pe_bl)) pss_nil)))))))
      (pss_one (ps_ret (pe_and (pe_call (ok__law_right T) (hr.mono (by decide)) (by rfl) T.g__law_right T.F__law_right.kp T.b__law_right .nil pass0 (pa_cons (pe_ix (show IxR _ (rIxL K) from ix_list) (pv 1) pe_int (fun _ _ => rfl)) (pa_cons (pe_ix (show IxR _ (rIxL K) from ix_list) (pv 2) pe_int (fun _ _ => rfl)) pa_nil))) (pe_one (pe_call (ok__law_right T) (hr.mono (by decide)) (by rfl) T.g__law_right T.F__law_right.kp T.b__law_right .nil pass0 (pa_cons (pe_ix (show IxR _ (rIxL K) from ix_list) (pv 1) pe_int (fun _ _ => rfl)) (pa_cons (pe_ix (show IxR _ (rIxL K) from ix_list) (pv 2) pe_int (fun _ _ => rfl)) pa_nil)))))))))), ?_⟩
    show (_ : L2.TS) _ [some _, none, none, none, none, none, none, none, none] H
    try simp only [Z.kx]
    wtm_at "r"
    intro w0 x0 nw0 nx0 ne0
    refine ⟨w0, x0, rfl, L2.upd_same, fun b0 H1 nb0 k1 hw0 hb0 => ⟨rfl, ?_⟩⟩
    have s1 : Same H H1 := Same.made nw0 nx0 k1
    wtm_at "r"
    intro w1 x1 nw1 nx1 ne1
    refine ⟨w1, x1, rfl, L2.upd_same, fun b1 H2 nb1 k2 hw1 hb1 => ⟨rfl, ?_⟩⟩
    have s2 : Same H1 H2 := Same.made nw1 nx1 k2
    have nbb : b0 ≠ b1 := by
      have h : (upd (upd H1 x1 (.own w1)) w1 (.ins T.a_BitWriter x1 [])) b0 = some (.lst []) := by
        rw [upd_ne (ne_of_none hb0 nw1), upd_ne (ne_of_none hb0 nx1)]; exact hb0
      exact ne_of_none h nb1
    wtm_at "r"
    refine ⟨by show 2 ≤ sizeLine; decide, fun pW nW => ?_⟩
    have s3 : Same H2 (upd H2 pW (.lst [.ref w0, .ref w1])) := Z.s_upd nW
    have hW3 : (upd H2 pW (.lst [.ref w0, .ref w1])) pW = some (.lst [.ref w0, .ref w1]) := L2.upd_same
    generalize upd H2 pW (.lst [.ref w0, .ref w1]) = H3 at s3 hW3
    wtm_at "r"
    refine ⟨Nat.zero_le _, fun c0 nc0 => ?_⟩
    wtm_at "r"
    refine ⟨Nat.zero_le _, fun c1 nc1 => ?_⟩
    wtm_at "r"
    refine ⟨by show 2 ≤ sizeLine; decide, fun pB nB => ?_⟩
    have s6 : Same H3 (upd (upd (upd H3 c0 (.lst [])) c1 (.lst [])) pB (.lst [.ref c0, .ref c1])) := (Z.s_upd nc0).trans ((Z.s_upd nc1).trans (Z.s_upd nB))
    have hB6 : (upd (upd (upd H3 c0 (.lst [])) c1 (.lst [])) pB (.lst [.ref c0, .ref c1])) pB = some (.lst [.ref c0, .ref c1]) := L2.upd_same
    have ncc : c0 ≠ c1 := ne_of_none (H := upd H3 c0 (.lst [])) L2.upd_same nc1
    have nc0B : c0 ≠ pB := ne_of_none (H := upd (upd H3 c0 (.lst [])) c1 (.lst [])) ((upd_ne ncc).trans L2.upd_same) nB
    have nc1B : c1 ≠ pB := ne_of_none (H := upd (upd H3 c0 (.lst [])) c1 (.lst [])) L2.upd_same nB
    have hc06 : (upd (upd (upd H3 c0 (.lst [])) c1 (.lst [])) pB (.lst [.ref c0, .ref c1])) c0 = some (.lst []) := (upd_ne nc0B).trans ((upd_ne ncc).trans L2.upd_same)
    have hc16 : (upd (upd (upd H3 c0 (.lst [])) c1 (.lst [])) pB (.lst [.ref c0, .ref c1])) c1 = some (.lst []) := (upd_ne nc1B).trans L2.upd_same
    have fc0 : H3 c0 = none := nc0
    have fc1 : H3 c1 = none := Z.s_back (Z.s_upd nc0) nc1
    have fB : H3 pB = none := Z.s_back (Z.s_upd nc0) (Z.s_back (Z.s_upd nc1) nB)
    generalize upd (upd (upd H3 c0 (.lst [])) c1 (.lst [])) pB (.lst [.ref c0, .ref c1]) = H6 at s6 hB6 hc06 hc16
    have hw03 := s3 _ _ (s2 _ _ hw0)
    have hw13 := s3 _ _ hw1
    have hb03 := s3 _ _ (s2 _ _ hb0)
    have hb13 := s3 _ _ hb1
    have iv0 : IV T.a_BitWriter H6 pW pB (fun j => if j = 0 then w0 else w1) (fun j => if j = 0 then b0 else b1) (fun j => if j = 0 then c0 else c1) (fun _ => []) 0 := by
      have c2 : ∀ j : Nat, j < 2 → j = 0 ∨ j = 1 := fun j h => by omega
      have nWb0 : pW ≠ b0 := (ne_of_none (s2 _ _ hb0) nW).symm
      have nWb1 : pW ≠ b1 := (ne_of_none hb1 nW).symm
      refine ⟨s6 _ _ hW3, hB6, fun j h => ?_, fun j h => ?_, fun j h => Nat.zero_le _, fun j k h1 h2 h3 => ?_, fun j h => ?_, ne_of_none hW3 fB, fun j h => ?_, fun j k h1 h2 => ?_, fun j h => ?_⟩
      · rcases c2 j h with e | e <;> subst e
        · exact ⟨⟨_, s6 _ _ hw03⟩, s6 _ _ hb03⟩
        · exact ⟨⟨_, s6 _ _ hw13⟩, s6 _ _ hb13⟩
      · rcases c2 j h with e | e <;> subst e
        · exact hc06
        · exact hc16
      · rcases c2 j h1 with e | e <;> rcases c2 k h2 with e' | e' <;> subst e <;> subst e'
        · exact absurd rfl h3
        · exact nbb
        · exact nbb.symm
        · exact absurd rfl h3
      · rcases c2 j h with e | e <;> subst e
        · exact nWb0
        · exact nWb1
      · rcases c2 j h with e | e <;> subst e
        · exact (ne_of_none hb03 fB).symm
        · exact (ne_of_none hb13 fB).symm
      · rcases c2 j h1 with e | e <;> rcases c2 k h2 with e' | e' <;> subst e <;> subst e'
        · exact (ne_of_none hb03 fc0).symm
        · exact (ne_of_none hb13 fc0).symm
        · exact (ne_of_none hb03 fc1).symm
        · exact (ne_of_none hb13 fc1).symm
      · rcases c2 j h with e | e <;> subst e
        · exact nc0B
        · exact nc1B
    have s06 : Same H H6 := s1.trans (s2.trans (s3.trans s6))
    wtm_at "r"
    refine Z.r_take 40 rfl (Z.s_sq s06 hS) (fun p H7 np s7 hl7 => ?_)
    refine Z.lst_go (Z.sq_l hl7) (fun i σ H8 => ∃ (x3 x4 x5 x6 x7 x8 : Option V) (w b c : Nat → Addr) (bs : Nat → List Nat), σ = [some (.ref a), some (.ref pW), some (.ref pB), x3, x4, x5, x6, x7, x8] ∧ IV T.a_BitWriter H8 pW pB w b c bs i ∧ (∀ j, j < 2 → p ≠ b j) ∧ p ≠ pB ∧ H8 p = some (.lst ((ns.take 40).map V.int))) ?_ ?_ ?_ ?_
    · exact ⟨_, _, _, _, _, _, _, _, _, _, rfl, iv0.same s7, fun j h => (ne_of_none (iv0.A j h).2 np).symm, (ne_of_none hB6 np).symm, hl7⟩
    · rintro i σ H8 _ ⟨x3, x4, x5, x6, x7, x8, w, b, c, bs, _, _, _, _, hp⟩
      exact Z.sq_l hp
    · rintro i y σ H8 hi ⟨x3, x4, x5, x6, x7, x8, w, b, c, bs, rfl, iv, npb, npB, hp⟩
      have hi40 : i < 40 := by
        have := (List.getElem?_eq_some_iff.mp hi).1
        rw [List.length_map, List.length_take] at this
        omega
      obtain ⟨z, _, rfl⟩ := Z.get_map hi
      wtm_at "r"
      refine ⟨z, rfl, fun tp wd v m H9 s9 ntp htp h32 hm => ?_⟩
      refine Z.r_three htp (by wtm_at "set") ?_
      have iv9 := iv.same s9
      obtain ⟨t, ht, et⟩ : ∃ t : Nat, t < 2 ∧ m % 2 = (t : Int) := ⟨(m % 2).toNat, by omega, by omega⟩
      wtm_at "r"
      rw [et]
      refine Z.r_ixL (Z.sq_l iv9.hW) (atI_nat (two_at w ht)) ?_
      wtm_at "r"
      obtain ⟨dx, hwt⟩ := (iv9.A t ht).1
      have hbt := (iv9.A t ht).2
      refine Z.r_objP hwt ((Z.look_s no_w).trans Z.look_0) ?_
      wtm_at "r"
      have lt := iv9.l t ht
      refine ⟨w t, b t, bs t, wd, v, rfl, iv9.A t ht, by omega, h32, fun H10 k10 hb10 => ?_⟩
      wtm_at "r"
      refine Z.r_notN ?_
      wtm_at "r"
      with_reducible refine Z.i_dfn rfl ?_
      have hB10 := k10 _ _ iv9.hB (iv9.nB t ht)
      wtm_at "r"
      refine Z.r_ixL (Z.sq_l hB10) (atI_nat (two_at c ht)) ?_
      wtm_at "r"
      refine Z.lcr_pure wd (fun k => V.int ((v >>> (wd - 1 - k)) % 2 : Nat)) (by omega) ⟨by omega, by omega⟩ (by omega) (fun _ => rfl) ?_ ?_
      · intro k H11 hk s11 kk kq
        wtm_at "w"
        have e : (wd : Int) - 1 - (k : Nat) = ((wd - 1 - k : Nat) : Int) := by omega
        wtm_at "r"
        rw [e]
        wtm_at "r"
        rw [nat_shr, nat_and1]
        exact kq _ (Same.refl _)
      · intro D H11 hD s11 hD11
        have hct : H11 (c t) = some (.lst (nv (bs t))) := s11 _ _ (k10 _ _ (iv9.Cc t ht) (iv9.nC t t ht ht))
        refine Z.r_cat hct hD11 (by rw [nv_len, List.length_map, List.length_range]; omega) (fun e he => ?_)
        have eb : nv (bs t) ++ (List.range wd).map (fun k => V.int ((v >>> (wd - 1 - k)) % 2 : Nat)) = nv (bs t ++ fbs wd v wd) := by
          rw [nv_app]
          unfold fbs nv
          rw [List.map_map]
          rfl
        rw [eb]
        have s12 : Same H11 (upd H11 e (.lst (nv (bs t ++ fbs wd v wd)))) := Z.s_upd he
        have he12 : (upd H11 e (.lst (nv (bs t ++ fbs wd v wd)))) e = some (.lst (nv (bs t ++ fbs wd v wd))) := L2.upd_same
        generalize upd H11 e (.lst (nv (bs t ++ fbs wd v wd))) = H12 at s12 he12
        have t12 : Same H10 H12 := s11.trans s12
        have fe : H10 e = none := Z.s_back s11 he
        have neB : pB ≠ e := ne_of_none hB10 fe
        wtm_at "r"
        refine Z.r_setL (t12 _ _ hB10) (j := t) rfl ht ?_
        rw [two_set c ht]
        have k13 : ∀ q o, H9 q = some o → q ≠ b t → q ≠ pB → (upd H12 pB (.lst [.ref (put2 c t e 0), .ref (put2 c t e 1)])) q = some o := fun q o hq h1 h2 => (upd_ne h2).trans (t12 _ _ (k10 q o hq h1))
        have hB13 : (upd H12 pB (.lst [.ref (put2 c t e 0), .ref (put2 c t e 1)])) pB = some (.lst [.ref (put2 c t e 0), .ref (put2 c t e 1)]) := L2.upd_same
        have he13 : (upd H12 pB (.lst [.ref (put2 c t e 0), .ref (put2 c t e 1)])) e = some (.lst (nv (bs t ++ fbs wd v wd))) := (upd_ne neB.symm).trans he12
        have hb13' : (upd H12 pB (.lst [.ref (put2 c t e 0), .ref (put2 c t e 1)])) (b t) = some (.lst (nv (bs t ++ fbs wd v wd))) := (upd_ne (iv9.nB t ht).symm).trans (t12 _ _ hb10)
        generalize upd H12 pB (.lst [.ref (put2 c t e 0), .ref (put2 c t e 1)]) = H13 at k13 hB13 he13 hb13'
        have insne : ∀ q C d fs, H9 q = some (.ins C d fs) → H13 q = some (.ins C d fs) := fun q C d fs hq => k13 _ _ hq (ne_of hq hbt (by intro z; cases z)) (ne_of hq iv9.hB (by intro z; cases z))
        have neb : ∀ j, j < 2 → b j ≠ e := fun j hj => by
          by_cases h : j = t
          · subst h; exact ne_of_none hb10 fe
          · exact ne_of_none (k10 _ _ (iv9.A j hj).2 (iv9.nb j t hj ht h)) fe
        have iv13 : IV T.a_BitWriter H13 pW pB w b (put2 c t e) (put2 bs t (bs t ++ fbs wd v wd)) (i + 1) := by
          refine ⟨k13 _ _ iv9.hW (iv9.nW t ht) iv9.nWB, hB13, fun j hj => ?_, fun j hj => ?_, fun j hj => ?_, iv9.nb, iv9.nW, iv9.nWB, iv9.nB, fun j k hj hk => ?_, fun j hj => ?_⟩
          · obtain ⟨dj, hwj⟩ := (iv9.A j hj).1
            by_cases h : j = t
            · subst h; rw [put2_same]; exact ⟨⟨dj, insne _ _ _ _ hwj⟩, hb13'⟩
            · rw [put2_ne _ _ h]
              exact ⟨⟨dj, insne _ _ _ _ hwj⟩, k13 _ _ (iv9.A j hj).2 (iv9.nb j t hj ht h) (iv9.nB j hj).symm⟩
          · by_cases h : j = t
            · subst h; rw [put2_same, put2_same]; exact he13
            · rw [put2_ne _ _ h, put2_ne _ _ h]
              exact k13 _ _ (iv9.Cc j hj) (iv9.nC j t hj ht) (iv9.nCB j hj)
          · have := iv9.l j hj
            by_cases h : j = t
            · subst h; rw [put2_same, List.length_append, fbs_len]; omega
            · rw [put2_ne _ _ h]; omega
          · by_cases h : j = t
            · subst h; rw [put2_same]; exact (neb k hk).symm
            · rw [put2_ne _ _ h]; exact iv9.nC j k hj hk
          · by_cases h : j = t
            · subst h; rw [put2_same]; exact neB.symm
            · rw [put2_ne _ _ h]; exact iv9.nCB j hj
        have hp13 := k13 _ _ (s9 _ _ hp) (npb t ht) npB
        wtm_at "r"
        have fin : ∀ H14, Same H13 H14 → ∃ (y3 y4 y5 y6 y7 y8 : Option V) (w b c : Nat → Addr) (bs : Nat → List Nat), ([some (.ref a), some (.ref pW), some (.ref pB), some (.int z), some (.int wd), some (.int v), some (.int m), some (.int t), x8] : List (Option V)) = [some (.ref a), some (.ref pW), some (.ref pB), y3, y4, y5, y6, y7, y8] ∧ IV T.a_BitWriter H14 pW pB w b c bs (i + 1) ∧ (∀ j, j < 2 → p ≠ b j) ∧ p ≠ pB ∧ H14 p = some (.lst ((ns.take 40).map V.int)) := fun H14 s14 =>
          ⟨_, _, _, _, _, x8, w, b, put2 c t e, put2 bs t (bs t ++ fbs wd v wd), rfl, iv13.same s14, npb, npB, s14 _ _ hp13⟩
        with_reducible refine Z.i_2 (fun h => ?_) (fun h => ?_)
        · wtm_at "r"
          refine Z.r_ixL (Z.sq_l iv13.hW) (atI_nat (two_at w ht)) ?_
          wtm_at "r"
          refine Z.r_ixL (Z.sq_l iv13.hB) (atI_nat (two_at (put2 c t e) ht)) ?_
          wtm_at "r"
          have lt13 := iv13.l t ht
          refine ⟨w t, b t, _, _, rfl, iv13.A t ht, iv13.Cc t ht, by omega, fun H14 s14 => ?_⟩
          wtm_at "r"
          exact fin H14 s14
        · wtm_at "r"
          exact fin H13 (Same.refl _)
    · rintro σ H8 ⟨x3, x4, x5, x6, x7, x8, w, b, c, bs, rfl, iv, npb, npB, hp⟩
      have hlen : ((ns.take 40).map V.int).length ≤ 40 := by rw [List.length_map, List.length_take]; omega
      have l0 := iv.l 0 (by decide)
      have l1 := iv.l 1 (by decide)
      wtm_at "r"
      refine Z.r_ixL (Z.sq_l iv.hW) (v := .ref (w 0)) rfl ?_
      wtm_at "r"
      refine Z.r_ixL (Z.sq_l iv.hB) (v := .ref (c 0)) rfl ?_
      wtm_at "r"
      refine ⟨w 0, b 0, c 0, bs 0, rfl, iv.A 0 (by decide), iv.Cc 0 (by decide), by omega, fun H9 s9 => ?_⟩
      have iv9 := iv.same s9
      wtm_at "r"
      refine Z.r_ixL (Z.sq_l iv9.hW) (v := .ref (w 1)) rfl ?_
      wtm_at "r"
      refine Z.r_ixL (Z.sq_l iv9.hB) (v := .ref (c 1)) rfl ?_
      wtm_at "r"
      exact ⟨w 1, b 1, c 1, bs 1, rfl, iv9.A 1 (by decide), iv9.Cc 1 (by decide), by omega, fun H10 s10 => q _⟩
end
theorem all_mk {l : PySem.W.OpenLaw} {w : World} {K : PySem.W.Frag} {h : Heap} {mg : Str → Option Value} {fa : Addr} (X : K.In h) (G : h.Ns mainGlobals mg) (hfa : mg "law" = some (.ref fa))
    {f0 : Addr} {od0 an0 : Option Addr} {sl0 : Array (Option Value)} {oc0 kV0 dc0 pm0 cd0 ct0 : Value}
    {f1 : Addr} {od1 an1 : Option Addr} {sl1 : Array (Option Value)} {oc1 kV1 dc1 pm1 cd1 ct1 : Value}
    {f2 : Addr} {od2 an2 : Option Addr} {sl2 : Array (Option Value)} {oc2 kV2 dc2 pm2 cd2 ct2 : Value}
    {f3 : Addr} {od3 an3 : Option Addr} {sl3 : Array (Option Value)} {oc3 kV3 dc3 pm3 cd3 ct3 : Value}
    {f4 : Addr} {od4 an4 : Option Addr} {sl4 : Array (Option Value)} {oc4 kV4 dc4 pm4 cd4 ct4 : Value}
    {f5 : Addr} {od5 an5 : Option Addr} {sl5 : Array (Option Value)} {oc5 kV5 dc5 pm5 cd5 ct5 : Value}
    {f6 : Addr} {od6 an6 : Option Addr} {sl6 : Array (Option Value)} {oc6 kV6 dc6 pm6 cd6 ct6 : Value}
    {f7 : Addr} {od7 an7 : Option Addr} {sl7 : Array (Option Value)} {oc7 kV7 dc7 pm7 cd7 ct7 : Value}
    {f8 : Addr} {od8 an8 : Option Addr} {sl8 : Array (Option Value)} {oc8 kV8 dc8 pm8 cd8 ct8 : Value}
    {f9 : Addr} {od9 an9 : Option Addr} {sl9 : Array (Option Value)} {oc9 kV9 dc9 pm9 cd9 ct9 : Value}
    {f10 : Addr} {od10 an10 : Option Addr} {sl10 : Array (Option Value)} {oc10 kV10 dc10 pm10 cd10 ct10 : Value}
    {f11 : Addr} {od11 an11 : Option Addr} {sl11 : Array (Option Value)} {oc11 kV11 dc11 pm11 cd11 ct11 : Value}
    {f12 : Addr} {od12 an12 : Option Addr} {sl12 : Array (Option Value)} {oc12 kV12 dc12 pm12 cd12 ct12 : Value}
    {C_BitWriter : Addr}
    (aC_BitWriter : PySem.W.nsIn K mainGlobals "BitWriter" = some (some (.ref C_BitWriter)))
    (a0 : PySem.W.findIn K (.ref C_BitWriter) "__init__" = some (some (.ref f0)))
    (i0 : PySem.W.isFn K (.ref f0) = true)
    (l0 : K.lookup f0 = some ⟨oc0, od0, .func (PySem.W.fnOf "__init__" "BitWriter.__init__" (defArgs s_BitWriter___init__) (defBody s_BitWriter___init__) (defScope s_BitWriter___init__) .none kV0 dc0 pm0 an0 cd0 ct0), sl0⟩)
    (c0 : PySem.W.codeIn K cd0 "BitWriter.__init__" = true) (k0 : PySem.W.keepIn K (.ref f0) = true)
    (a1 : PySem.W.findIn K (.ref C_BitWriter) "write" = some (some (.ref f1)))
    (i1 : PySem.W.isFn K (.ref f1) = true)
    (l1 : K.lookup f1 = some ⟨oc1, od1, .func (PySem.W.fnOf "write" "BitWriter.write" (defArgs s_BitWriter_write) (defBody s_BitWriter_write) (defScope s_BitWriter_write) .none kV1 dc1 pm1 an1 cd1 ct1), sl1⟩)
    (c1 : PySem.W.codeIn K cd1 "BitWriter.write" = true) (k1 : PySem.W.keepIn K (.ref f1) = true)
    (a2 : PySem.W.findIn K (.ref C_BitWriter) "bit_list" = some (some (.ref f2)))
    (i2 : PySem.W.isFn K (.ref f2) = true)
    (l2 : K.lookup f2 = some ⟨oc2, od2, .func (PySem.W.fnOf "bit_list" "BitWriter.bit_list" (defArgs s_BitWriter_bit_list) (defBody s_BitWriter_bit_list) (defScope s_BitWriter_bit_list) .none kV2 dc2 pm2 an2 cd2 ct2), sl2⟩)
    (c2 : PySem.W.codeIn K cd2 "BitWriter.bit_list" = true) (k2 : PySem.W.keepIn K (.ref f2) = true)
    (a3 : PySem.W.nsIn K mainGlobals "value_of" = some (some (.ref f3)))
    (l3 : K.lookup f3 = some ⟨oc3, od3, .func (PySem.W.fnOf "value_of" "value_of" (defArgs s_value_of) (defBody s_value_of) (defScope s_value_of) .none kV3 dc3 pm3 an3 cd3 ct3), sl3⟩)
    (c3 : PySem.W.codeIn K cd3 "value_of" = true) (k3 : PySem.W.keepIn K (.ref f3) = true)
    (a4 : PySem.W.findIn K (.ref C_BitWriter) "byte_list" = some (some (.ref f4)))
    (i4 : PySem.W.isFn K (.ref f4) = true)
    (l4 : K.lookup f4 = some ⟨oc4, od4, .func (PySem.W.fnOf "byte_list" "BitWriter.byte_list" (defArgs s_BitWriter_byte_list) (defBody s_BitWriter_byte_list) (defScope s_BitWriter_byte_list) .none kV4 dc4 pm4 an4 cd4 ct4), sl4⟩)
    (c4 : PySem.W.codeIn K cd4 "BitWriter.byte_list" = true) (k4 : PySem.W.keepIn K (.ref f4) = true)
    (a5 : PySem.W.findIn K (.ref C_BitWriter) "bits_written" = some (some (.ref f5)))
    (i5 : PySem.W.isFn K (.ref f5) = true)
    (l5 : K.lookup f5 = some ⟨oc5, od5, .func (PySem.W.fnOf "bits_written" "BitWriter.bits_written" (defArgs s_BitWriter_bits_written) (defBody s_BitWriter_bits_written) (defScope s_BitWriter_bits_written) .none kV5 dc5 pm5 an5 cd5 ct5), sl5⟩)
    (c5 : PySem.W.codeIn K cd5 "BitWriter.bits_written" = true) (k5 : PySem.W.keepIn K (.ref f5) = true)
    (a6 : PySem.W.nsIn K mainGlobals "_law_draw" = some (some (.ref f6)))
    (l6 : K.lookup f6 = some ⟨oc6, od6, .func (PySem.W.fnOf "_law_draw" "_law_draw" (defArgs s__law_draw) (defBody s__law_draw) (defScope s__law_draw) .none kV6 dc6 pm6 an6 cd6 ct6), sl6⟩)
    (c6 : PySem.W.codeIn K cd6 "_law_draw" = true) (k6 : PySem.W.keepIn K (.ref f6) = true)
    (a7 : PySem.W.nsIn K mainGlobals "_law_is_integer" = some (some (.ref f7)))
    (l7 : K.lookup f7 = some ⟨oc7, od7, .func (PySem.W.fnOf "_law_is_integer" "_law_is_integer" (defArgs s__law_is_integer) (defBody s__law_is_integer) (defScope s__law_is_integer) .none kV7 dc7 pm7 an7 cd7 ct7), sl7⟩)
    (c7 : PySem.W.codeIn K cd7 "_law_is_integer" = true) (k7 : PySem.W.keepIn K (.ref f7) = true)
    (a8 : PySem.W.nsIn K mainGlobals "_law_same" = some (some (.ref f8)))
    (l8 : K.lookup f8 = some ⟨oc8, od8, .func (PySem.W.fnOf "_law_same" "_law_same" (defArgs s__law_same) (defBody s__law_same) (defScope s__law_same) .none kV8 dc8 pm8 an8 cd8 ct8), sl8⟩)
    (c8 : PySem.W.codeIn K cd8 "_law_same" = true) (k8 : PySem.W.keepIn K (.ref f8) = true)
    (a9 : PySem.W.nsIn K mainGlobals "_law_field" = some (some (.ref f9)))
    (l9 : K.lookup f9 = some ⟨oc9, od9, .func (PySem.W.fnOf "_law_field" "_law_field" (defArgs s__law_field) (defBody s__law_field) (defScope s__law_field) .none kV9 dc9 pm9 an9 cd9 ct9), sl9⟩)
    (c9 : PySem.W.codeIn K cd9 "_law_field" = true) (k9 : PySem.W.keepIn K (.ref f9) = true)
    (a10 : PySem.W.nsIn K mainGlobals "_law_bytes" = some (some (.ref f10)))
    (l10 : K.lookup f10 = some ⟨oc10, od10, .func (PySem.W.fnOf "_law_bytes" "_law_bytes" (defArgs s__law_bytes) (defBody s__law_bytes) (defScope s__law_bytes) .none kV10 dc10 pm10 an10 cd10 ct10), sl10⟩)
    (c10 : PySem.W.codeIn K cd10 "_law_bytes" = true) (k10 : PySem.W.keepIn K (.ref f10) = true)
    (a11 : PySem.W.nsIn K mainGlobals "_law_right" = some (some (.ref f11)))
    (l11 : K.lookup f11 = some ⟨oc11, od11, .func (PySem.W.fnOf "_law_right" "_law_right" (defArgs s__law_right) (defBody s__law_right) (defScope s__law_right) .none kV11 dc11 pm11 an11 cd11 ct11), sl11⟩)
    (c11 : PySem.W.codeIn K cd11 "_law_right" = true) (k11 : PySem.W.keepIn K (.ref f11) = true)
    (a12 : PySem.W.nsIn K mainGlobals "law" = some (some (.ref f12)))
    (l12 : K.lookup f12 = some ⟨oc12, od12, .func (PySem.W.fnOf "law" "law" (defArgs s_law) (defBody s_law) (defScope s_law) .none kV12 dc12 pm12 an12 cd12 ct12), sl12⟩)
    (c12 : PySem.W.codeIn K cd12 "law" = true) (k12 : PySem.W.keepIn K (.ref f12) = true)
    (pg_BitWriter : PySem.W.plainGet K C_BitWriter Str.empty = true) (hd_BitWriter : PySem.W.hasDictIn K C_BitWriter = true) (po_BitWriter : PySem.W.plainOver K C_BitWriter = true) (sa_BitWriter : PySem.W.findIn K (.ref C_BitWriter) "__setattr__" = some (some (.builtin "object.__setattr__"))) (mk_BitWriter : PySem.W.makesIn K C_BitWriter = true) (kc_BitWriter : PySem.W.keepIn K (.ref C_BitWriter) = true)
    (no_BitWriter__bits : PySem.W.findIn K (.ref C_BitWriter) "_bits" = some none)
    (z_range : PySem.W.nsIn K mainGlobals "range" = some none)
    (z_list : PySem.W.nsIn K mainGlobals "list" = some none)
    (z_len : PySem.W.nsIn K mainGlobals "len" = some none)
    (z_int : PySem.W.nsIn K mainGlobals "int" = some none)
    (z_isinstance : PySem.W.nsIn K mainGlobals "isinstance" = some none)
    (z_bool : PySem.W.nsIn K mainGlobals "bool" = some none) :
    ∃ fd : FuncData, (∀ (s : Shared) (v : Value), BindsTo s fd ⟨[v], []⟩ [("script", v)]) ∧ ∀ base : Heap, K.In base → base.Ns mainGlobals mg → FnOk l.prog w K mg base CX0 4 fa fd pl_law (sp_law K) := by
  have e := hfa.symm.trans (PySem.W.mg_of X G a12)
  cases e
  let T : Top K mg := {
    a_BitWriter___init__ := f0,
    d_BitWriter___init__ := _,
    F_BitWriter___init__ := fun_mk (st := s_BitWriter___init__) l0 c0 k0,
    b_BitWriter___init__ := (fun_mk (st := s_BitWriter___init__) l0 c0 k0).binds (ps := pl_BitWriter___init__) fun _ _ _ _ _ _ us hl => match us, hl with | [_], _ => rfl,
    a_BitWriter_write := f1,
    d_BitWriter_write := _,
    F_BitWriter_write := fun_mk (st := s_BitWriter_write) l1 c1 k1,
    b_BitWriter_write := (fun_mk (st := s_BitWriter_write) l1 c1 k1).binds (ps := pl_BitWriter_write) fun _ _ _ _ _ _ us hl => match us, hl with | [_, _, _], _ => rfl,
    a_BitWriter_bit_list := f2,
    d_BitWriter_bit_list := _,
    F_BitWriter_bit_list := fun_mk (st := s_BitWriter_bit_list) l2 c2 k2,
    b_BitWriter_bit_list := (fun_mk (st := s_BitWriter_bit_list) l2 c2 k2).binds (ps := pl_BitWriter_bit_list) fun _ _ _ _ _ _ us hl => match us, hl with | [_], _ => rfl,
    a_value_of := f3,
    d_value_of := _,
    F_value_of := fun_mk (st := s_value_of) l3 c3 k3,
    b_value_of := (fun_mk (st := s_value_of) l3 c3 k3).binds (ps := pl_value_of) fun _ _ _ _ _ _ us hl => match us, hl with | [_], _ => rfl,
    g_value_of := PySem.W.mg_of X G a3,
    a_BitWriter_byte_list := f4,
    d_BitWriter_byte_list := _,
    F_BitWriter_byte_list := fun_mk (st := s_BitWriter_byte_list) l4 c4 k4,
    b_BitWriter_byte_list := (fun_mk (st := s_BitWriter_byte_list) l4 c4 k4).binds (ps := pl_BitWriter_byte_list) fun _ _ _ _ _ _ us hl => match us, hl with | [_], _ => rfl,
    a_BitWriter_bits_written := f5,
    d_BitWriter_bits_written := _,
    F_BitWriter_bits_written := fun_mk (st := s_BitWriter_bits_written) l5 c5 k5,
    b_BitWriter_bits_written := (fun_mk (st := s_BitWriter_bits_written) l5 c5 k5).binds (ps := pl_BitWriter_bits_written) fun _ _ _ _ _ _ us hl => match us, hl with | [_], _ => rfl,
    a__law_draw := f6,
    d__law_draw := _,
    F__law_draw := fun_mk (st := s__law_draw) l6 c6 k6,
    b__law_draw := (fun_mk (st := s__law_draw) l6 c6 k6).binds (ps := pl__law_draw) fun _ _ _ _ _ _ us hl => match us, hl with | [_, _, _], _ => rfl,
    g__law_draw := PySem.W.mg_of X G a6,
    a__law_is_integer := f7,
    d__law_is_integer := _,
    F__law_is_integer := fun_mk (st := s__law_is_integer) l7 c7 k7,
    b__law_is_integer := (fun_mk (st := s__law_is_integer) l7 c7 k7).binds (ps := pl__law_is_integer) fun _ _ _ _ _ _ us hl => match us, hl with | [_], _ => rfl,
    g__law_is_integer := PySem.W.mg_of X G a7,
    a__law_same := f8,
    d__law_same := _,
    F__law_same := fun_mk (st := s__law_same) l8 c8 k8,
    b__law_same := (fun_mk (st := s__law_same) l8 c8 k8).binds (ps := pl__law_same) fun _ _ _ _ _ _ us hl => match us, hl with | [_, _], _ => rfl,
    g__law_same := PySem.W.mg_of X G a8,
    a__law_field := f9,
    d__law_field := _,
    F__law_field := fun_mk (st := s__law_field) l9 c9 k9,
    b__law_field := (fun_mk (st := s__law_field) l9 c9 k9).binds (ps := pl__law_field) fun _ _ _ _ _ _ us hl => match us, hl with | [_], _ => rfl,
    g__law_field := PySem.W.mg_of X G a9,
    a__law_bytes := f10,
    d__law_bytes := _,
    F__law_bytes := fun_mk (st := s__law_bytes) l10 c10 k10,
    b__law_bytes := (fun_mk (st := s__law_bytes) l10 c10 k10).binds (ps := pl__law_bytes) fun _ _ _ _ _ _ us hl => match us, hl with | [_], _ => rfl,
    g__law_bytes := PySem.W.mg_of X G a10,
    a__law_right := f11,
    d__law_right := _,
    F__law_right := fun_mk (st := s__law_right) l11 c11 k11,
    b__law_right := (fun_mk (st := s__law_right) l11 c11 k11).binds (ps := pl__law_right) fun _ _ _ _ _ _ us hl => match us, hl with | [_, _], _ => rfl,
    g__law_right := PySem.W.mg_of X G a11,
    a_law := fa,
    d_law := _,
    F_law := fun_mk (st := s_law) l12 c12 k12,
    b_law := (fun_mk (st := s_law) l12 c12 k12).binds (ps := pl_law) fun _ _ _ _ _ _ us hl => match us, hl with | [_], _ => rfl,
    g_law := PySem.W.mg_of X G a12,
    a_BitWriter := C_BitWriter,
    cl_BitWriter := ⟨pg_BitWriter, hd_BitWriter, po_BitWriter, sa_BitWriter⟩,
    g_BitWriter := PySem.W.mg_of X G aC_BitWriter,
    M_BitWriter := ⟨mk_BitWriter, a0, i0, kc_BitWriter⟩,
    me_BitWriter_write := ⟨a1, i1, k1⟩,
    me_BitWriter_bit_list := ⟨a2, i2, k2⟩,
    me_BitWriter_byte_list := ⟨a4, i4, k4⟩,
    me_BitWriter_bits_written := ⟨a5, i5, k5⟩,
    no_BitWriter__bits := no_BitWriter__bits,
    n_range := PySem.W.mg_none_of X G z_range,
    n_list := PySem.W.mg_none_of X G z_list,
    n_len := PySem.W.mg_none_of X G z_len,
    n_int := PySem.W.mg_none_of X G z_int,
    n_isinstance := PySem.W.mg_none_of X G z_isinstance,
    n_bool := PySem.W.mg_none_of X G z_bool }
  exact ⟨T.d_law, fun s v => .of_eq rfl, fun base _ _ => ok_law T⟩
end M_k01
open PySem PySem.W PyProof.Rows
set_option maxRecDepth 100000 in
set_option maxHeartbeats 0 in
theorem PySem.Challenge.cw_dotfield_k01_bits_written_holds : PySem.Challenge.rw_dotfield_k01_bits_written.Holds := by
  w_on; o_law; k_head; (case hw => w_witness2)
  k_fill
  refine L2.walk_of (l := PySem.Challenge.rw_dotfield_k01_bits_written) (n := 63) (k := 4) (x := "script") (CX := fun _ => L2.CX0) (sp := fun w => M_k01.sp_law _) rfl (by decide) rfl ⟨rfl, by decide, by decide⟩ (fun w h Y => PySem.W.kIn_of Y) ?F (fun _ _ a ns hl _ hS => ⟨a, ns, rfl, hS, hl, fun _ => rfl⟩) (fun _ _ _ _ _ h => h)
  case F =>
    intro w mg fa h KX G hmg
    refine' M_k01.all_mk KX G hmg ?aC_BitWriter ?a0 ?i0 ?l0 ?c0 ?k0 ?a1 ?i1 ?l1 ?c1 ?k1 ?a2 ?i2 ?l2 ?c2 ?k2 ?a3 ?l3 ?c3 ?k3 ?a4 ?i4 ?l4 ?c4 ?k4 ?a5 ?i5 ?l5 ?c5 ?k5 ?a6 ?l6 ?c6 ?k6 ?a7 ?l7 ?c7 ?k7 ?a8 ?l8 ?c8 ?k8 ?a9 ?l9 ?c9 ?k9 ?a10 ?l10 ?c10 ?k10 ?a11 ?l11 ?c11 ?k11 ?a12 ?l12 ?c12 ?k12 ?pg_BitWriter ?hd_BitWriter ?po_BitWriter ?sa_BitWriter ?mk_BitWriter ?kc_BitWriter ?no_BitWriter__bits ?z_range ?z_list ?z_len ?z_int ?z_isinstance ?z_bool
    (case aC_BitWriter => k_is)
    (case a0 => k_is)
    (case i0 => k_is)
    (case l0 => k_is)
    (case c0 => k_is)
    (case k0 => k_is)
    (case a1 => k_is)
    (case i1 => k_is)
    (case l1 => k_is)
    (case c1 => k_is)
    (case k1 => k_is)
    (case a2 => k_is)
    (case i2 => k_is)
    (case l2 => k_is)
    (case c2 => k_is)
    (case k2 => k_is)
    (case a3 => k_is)
    (case l3 => k_is)
    (case c3 => k_is)
    (case k3 => k_is)
    (case a4 => k_is)
    (case i4 => k_is)
    (case l4 => k_is)
    (case c4 => k_is)
    (case k4 => k_is)
    (case a5 => k_is)
    (case i5 => k_is)
    (case l5 => k_is)
    (case c5 => k_is)
    (case k5 => k_is)
    (case a6 => k_is)
    (case l6 => k_is)
    (case c6 => k_is)
    (case k6 => k_is)
    (case a7 => k_is)
    (case l7 => k_is)
    (case c7 => k_is)
    (case k7 => k_is)
    (case a8 => k_is)
    (case l8 => k_is)
    (case c8 => k_is)
    (case k8 => k_is)
    (case a9 => k_is)
    (case l9 => k_is)
    (case c9 => k_is)
    (case k9 => k_is)
    (case a10 => k_is)
    (case l10 => k_is)
    (case c10 => k_is)
    (case k10 => k_is)
    (case a11 => k_is)
    (case l11 => k_is)
    (case c11 => k_is)
    (case k11 => k_is)
    (case a12 => k_is)
    (case l12 => k_is)
    (case c12 => k_is)
    (case k12 => k_is)
    (case pg_BitWriter => k_is)
    (case hd_BitWriter => k_is)
    (case po_BitWriter => k_is)
    (case sa_BitWriter => k_is)
    (case mk_BitWriter => k_is)
    (case kc_BitWriter => k_is)
    (case no_BitWriter__bits => k_is)
    (case z_range => k_is)
    (case z_list => k_is)
    (case z_len => k_is)
    (case z_int => k_is)
    (case z_isinstance => k_is)
    (case z_bool => k_is)

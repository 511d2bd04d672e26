import PyProof.Rows.All
import Wide.All
import OpenK.AllK
import Wide.FinOn
import HandS.ForMost
import HandS.IsInst
import HandS.Codes
import HandS.Style
import PySem.Challenge.RW_dotfield_k14_version_words
import HandS.Small
import HandS.WideBits
import KE.KxField
set_option Elab.async false
set_option linter.all false
set_option maxRecDepth 100000
namespace Z
open PySem PySem.Spec PyProof.Rows L2
/-! ## Readings, step by step (own words over the layer) -/
section
variable {K : PySem.W.Frag} {D : Ends} {H : Hp} {Q : VK} {R : Bool → Hp → Prop}
theorem r_seq {σ : L2.St} {t u : TS} (h : t { D with nx := u D } σ H) : tSeq t u D σ H := h
theorem r_asg {σ : L2.St} {te : TE} {g : TG} (h : te σ H fun x H1 => g x σ H1 D.nx) : tAsg te g D σ H := h
theorem r_gname {σ σ2 : L2.St} {i : Nat} {v : V} {k : L2.St → Hp → Prop} (hs : σ.set i (some v) = σ2) (h : k σ2 H) : gName i v σ H k := by
  subst hs; exact h
theorem r_ret {σ : L2.St} {te : TE} (h : te σ H D.rt) : tRet te D σ H := h
theorem r_retN {σ : L2.St} (h : D.rt .non H) : tRetN D σ H := h
theorem r_drop {σ : L2.St} {te : TE} (h : te σ H fun _ H1 => D.nx σ H1) : tDrop te D σ H := h
theorem r_next {σ : L2.St} (h : D.nx σ H) : tNext D σ H := h
theorem r_brk {σ : L2.St} (h : D.bk σ H) : tBreak D σ H := h
theorem r_cnt {σ : L2.St} (h : D.ct σ H) : tCont D σ H := h
theorem r_if {σ : L2.St} {c : TT} {t u : TS} (h : c σ H fun b H1 => if b = true then t D σ H1 else u D σ H1) : tIfS c t u D σ H := h
theorem r_ifE {σ : L2.St} {c : TT} {t u : TE} (h : c σ H fun b H1 => if b = true then t σ H1 Q else u σ H1 Q) : tIf c t u σ H Q := h
theorem r_test {σ : L2.St} {t : TE} (h : t σ H fun x H' => ∃ k, x = .bl k ∧ R k H') : tTest t σ H R := h
theorem r_tB {σ : L2.St} {t : TE} (h : t σ H fun x H' => ∃ k, x = .bl k ∧ R k H') : tB t σ H R := h
theorem r_bl {b : Bool} {P : Bool → Prop} (q : P b) : ∃ k, V.bl b = V.bl k ∧ P k := ⟨b, rfl, q⟩
theorem r_and {σ : L2.St} {t u : TT} (h : t σ H fun c H1 => if c = true then u σ H1 R else R false H1) : tAnd t u σ H R := h
theorem r_or {σ : L2.St} {t u : TT} (h : t σ H fun c H1 => if c = true then R true H1 else u σ H1 R) : tOr t u σ H R := h
theorem r_not {σ : L2.St} {t : TT} (h : t σ H fun c H1 => R (!c) H1) : tNot t σ H R := h
theorem r_andV {σ : L2.St} {ta tb : TE} (h : ta σ H fun x H1 => ∃ c, x = .bl c ∧ if c = true then tb σ H1 Q else Q (.bl false) H1) : tAndV ta tb σ H Q := h
theorem r_orV {σ : L2.St} {ta tb : TE} (h : ta σ H fun x H1 => ∃ c, x = .bl c ∧ if c = true then Q (.bl true) H1 else tb σ H1 Q) : tOrV ta tb σ H Q := h
theorem r_notV {σ : L2.St} {ta : TE} (h : ta σ H fun x H1 => ∃ c, x = .bl c ∧ Q (.bl (!c)) H1) : tNotV ta σ H Q := h
theorem r_v0 {v : V} {l : List (Option V)} (q : Q v H) : tVar 0 (some v :: l) H Q := ⟨v, rfl, q⟩
theorem r_vS {i : Nat} {x : Option V} {l : List (Option V)} (q : tVar i l H Q) : tVar (i + 1) (x :: l) H Q := q
theorem r_v1 {a : Option V} {v : V} {l : List (Option V)} (q : Q v H) : tVar 1 (a :: some v :: l) H Q := ⟨v, rfl, q⟩
theorem r_v2 {a b : Option V} {v : V} {l : List (Option V)} (q : Q v H) : tVar 2 (a :: b :: some v :: l) H Q := ⟨v, rfl, q⟩
theorem r_var {σ : L2.St} {i : Nat} {v : V} (h : σ[i]? = some (some v)) (q : Q v H) : tVar i σ H Q := ⟨v, h, q⟩
theorem r_c {σ : L2.St} {v : V} (q : Q v H) : tC v σ H Q := q
theorem r_op {σ : L2.St} {r : R2} {ta tb : TE} (h : ta σ H fun x H1 => tb σ H1 fun y H2 => r x y H2 Q) : tOp r ta tb σ H Q := h
theorem r_un {σ : L2.St} {r : V → Hp → VK → Prop} {ta : TE} (h : ta σ H fun x H1 => r x H1 Q) : tUn r ta σ H Q := h
theorem r_chain {σ : L2.St} {r r' : R2} {ta tb tc : TE} (h : ta σ H fun x H1 => tb σ H1 fun y H2 => r x y H2 fun z H3 => ∃ k, z = .bl k ∧ (if k = true then tc σ H3 fun w' H4 => r' y w' H4 Q else Q (.bl false) H3)) : tChain r r' ta tb tc σ H Q := h
theorem r_nil {σ : L2.St} {P : List V → Hp → Prop} (q : P [] H) : tNil σ H P := q
theorem r_cons {σ : L2.St} {ta : TE} {tr : TA} {P : List V → Hp → Prop} (h : ta σ H fun x H1 => tr σ H1 fun xs H2 => P (x :: xs) H2) : tCons ta tr σ H P := h
theorem r_I0 {g : Int → Int → V} {i j : Int} (q : Q (g i j) H) : rI0 g (.int i) (.int j) H Q := ⟨i, j, rfl, rfl, q⟩
theorem r_I {C : Int → Int → Prop} {g : Int → Int → V} {i j : Int} (c : C i j) (q : Q (g i j) H) : rI C g (.int i) (.int j) H Q := ⟨i, j, rfl, rfl, c, q⟩
theorem r_U {g : Int → V} {i : Int} (q : Q (g i) H) : rU g (.int i) H Q := ⟨i, rfl, q⟩
/-- a truth that is not looked into -/
def dB (p : Prop) [Decidable p] : Bool := decide p
theorem dB_t {p : Prop} [Decidable p] (h : p) : dB p = true := decide_eq_true h
theorem dB_f {p : Prop} [Decidable p] (h : ¬ p) : dB p = false := decide_eq_false h
theorem dB_of {p : Prop} [Decidable p] (h : dB p = true) : p := of_decide_eq_true h
theorem dB_iff {p q : Prop} [Decidable p] [Decidable q] (h : p ↔ q) : dB p = dB q := by
  by_cases c : p
  · rw [dB_t c, dB_t (h.mp c)]
  · rw [dB_f c, dB_f (fun z => c (h.mpr z))]
theorem r_lt {i j : Int} (q : Q (.bl (dB (i < j))) H) : rI0 (fun i j => .bl (decide (i < j))) (.int i) (.int j) H Q := ⟨i, j, rfl, rfl, q⟩
theorem r_le {i j : Int} (q : Q (.bl (dB (i ≤ j))) H) : rI0 (fun i j => .bl (decide (i ≤ j))) (.int i) (.int j) H Q := ⟨i, j, rfl, rfl, q⟩
theorem r_gt {i j : Int} (q : Q (.bl (dB (j < i))) H) : rI0 (fun i j => .bl (decide (j < i))) (.int i) (.int j) H Q := ⟨i, j, rfl, rfl, q⟩
theorem r_ge {i j : Int} (q : Q (.bl (dB (j ≤ i))) H) : rI0 (fun i j => .bl (decide (j ≤ i))) (.int i) (.int j) H Q := ⟨i, j, rfl, rfl, q⟩
theorem eq_int (i j : Int) : decide (V.int i = V.int j) = dB (i = j) := by
  unfold dB
  by_cases h : i = j
  · subst h; simp
  · simp [h]
theorem eq_bl (i j : Bool) : decide (V.bl i = V.bl j) = dB (i = j) := by
  unfold dB
  by_cases h : i = j
  · subst h; simp
  · simp [h]
theorem eq_str (i j : Str) : decide (V.str i = V.str j) = dB (i = j) := by
  unfold dB
  by_cases h : i = j
  · subst h; simp
  · simp [h]
theorem not_dB (p : Prop) [Decidable p] : (!dB p) = dB (¬ p) := by
  by_cases h : p
  · rw [dB_t h, dB_f (fun z => z h)]; rfl
  · rw [dB_f h, dB_t h]; rfl
theorem r_eqI {i j : Int} (q : Q (.bl (dB (i = j))) H) : rEq (.int i) (.int j) H Q := ⟨rfl, by rw [eq_int]; exact q⟩
theorem r_neI {i j : Int} (q : Q (.bl (dB (¬ i = j))) H) : rNe (.int i) (.int j) H Q := ⟨rfl, by rw [eq_int, not_dB]; exact q⟩
theorem r_eqB {i j : Bool} (q : Q (.bl (dB (i = j))) H) : rEq (.bl i) (.bl j) H Q := ⟨rfl, by rw [eq_bl]; exact q⟩
theorem r_neB {i j : Bool} (q : Q (.bl (dB (¬ i = j))) H) : rNe (.bl i) (.bl j) H Q := ⟨rfl, by rw [eq_bl, not_dB]; exact q⟩
theorem r_eqS {i j : Str} (q : Q (.bl (dB (i = j))) H) : rEq (.str i) (.str j) H Q := ⟨rfl, by rw [eq_str]; exact q⟩
theorem r_neS {i j : Str} (q : Q (.bl (dB (¬ i = j))) H) : rNe (.str i) (.str j) H Q := ⟨rfl, by rw [eq_str, not_dB]; exact q⟩
/-! tests that are decided -/
theorem i_t {A B : Prop} (h : A) : if true = true then A else B := h
theorem i_f {A B : Prop} (h : B) : if false = true then A else B := by rw [if_neg Bool.false_ne_true]; exact h
theorem i_2 {p : Prop} [Decidable p] {A B : Prop} (h1 : p → A) (h2 : ¬ p → B) : if dB p = true then A else B := by
  by_cases h : p
  · rw [dB_t h]; exact h1 h
  · rw [dB_f h, if_neg Bool.false_ne_true]; exact h2 h
theorem i_2n {p : Prop} [Decidable p] {A B : Prop} (h1 : ¬ p → A) (h2 : p → B) : if (!dB p) = true then A else B := by
  by_cases h : p
  · rw [dB_t h]; exact i_f (h2 h)
  · rw [dB_f h]; exact i_t (h1 h)
theorem i_2b {b : Bool} {A B : Prop} (h1 : b = true → A) (h2 : b = false → B) : if b = true then A else B := by
  cases b with
  | true => exact h1 rfl
  | false => exact i_f (h2 rfl)
theorem i_dt {p : Prop} [Decidable p] {A B : Prop} (h : p) (a : A) : if dB p = true then A else B := by rw [dB_t h]; exact a
theorem i_df {p : Prop} [Decidable p] {A B : Prop} (h : ¬ p) (b : B) : if dB p = true then A else B := by rw [dB_f h, if_neg Bool.false_ne_true]; exact b
theorem i_dtn {p : Prop} [Decidable p] {A B : Prop} (h : ¬ p) (a : A) : if (!dB p) = true then A else B := by rw [dB_f h]; exact a
theorem i_dfn {p : Prop} [Decidable p] {A B : Prop} (h : p) (b : B) : if (!dB p) = true then A else B := by rw [dB_t h]; exact i_f b
theorem i_nt {A B : Prop} (h : A) : if (!false) = true then A else B := h
theorem i_nf {A B : Prop} (h : B) : if (!true) = true then A else B := i_f h
theorem kx {CX : CXT} {P : Program} {w : World} {K : PySem.W.Frag} {mg : Str → Option Value} {base : Heap} {N : List Str} {qual : Str} {scope : Scope} {f : Addr} {cd : Value} {A : Around} {outer : List Env} {s : Shared} {H : Hp} {E : XK} :
    (cxOf CX P w K mg base N qual scope f cd A outer s H E).K = K := rfl
/-! heaps -/
theorem s_at {H H' : Hp} {a : Addr} {o : HO} (s : Same H H') (h : H a = some o) : H' a = some o := s _ _ h
theorem s_upd {H : Hp} {p : Addr} {o : HO} (h : H p = none) : Same H (upd H p o) := fun b x e => by
  rw [upd_ne (ne_of_none e h)]
  exact e
/-- an object that H does not know may change -/
theorem s_mut {H H' : Hp} {p : Addr} {o : HO} (e : Same H H') (h : H p = none) : Same H (upd H' p o) := fun a u ha => by
  rw [upd_ne (ne_of_none ha h)]
  exact e a u ha
theorem s_back {H H' : Hp} {p : Addr} (e : Same H H') (h : H' p = none) : H p = none := e.free h
theorem ne_of' {H : Hp} {a b : Addr} {o : HO} (h' : H b = none) (h : H a = some o) : a ≠ b := ne_of_none h h'
theorem ne_new {H H' : Hp} {a b : Addr} {o : HO} (h : H a = some o) (s : Same H H') (h' : H' b = none) : a ≠ b := ne_of_none (s _ _ h) h'
theorem sq_l {H : Hp} {a : Addr} {xs : List V} (h : H a = some (.lst xs)) : SqL K H a xs := .inl (.inl h)
theorem sq_t {H : Hp} {a : Addr} {xs : List V} (h : H a = some (.tup xs)) : SqT K H a xs := .inl (.inl h)
theorem s_sq {H H' : Hp} {a : Addr} {xs : List V} (s : Same H H') (h : SqL K H a xs) : SqL K H' a xs := s.seq h
theorem s_rd {H H' : Hp} {a : Addr} {u : HO} (e : Same H H') (h : Rd H a u) : Rd H' a u := by
  rcases h with h | ⟨o, h⟩
  · exact .inl (e a _ h)
  · exact .inr ⟨o, e a _ h⟩
theorem s_st {H H' : Hp} {a : Addr} {xs : List V} (s : Same H H') (h : SqT K H a xs) : SqT K H' a xs := by
  rcases h with h | h
  · exact .inl (s_rd s h)
  · exact .inr h
theorem sz {n : Nat} (h : n ≤ 100000) : n ≤ sizeLine := Nat.le_trans h (by decide)
theorem szl {n : Nat} (h : n < 100000) : n < sizeLine := Nat.lt_of_lt_of_le h (by decide)
/-! lists -/
theorem r_ixL {p : Addr} {xs : List V} {i : Int} {v : V} (h : SqL K H p xs) (ha : atI xs i = some v) (q : Q v H) : rIxL K (.ref p) (.int i) H Q := ⟨p, xs, i, v, rfl, rfl, h, ha, q⟩
theorem r_ixT {p : Addr} {xs : List V} {i : Int} {v : V} (h : SqT K H p xs) (ha : atI xs i = some v) (q : Q v H) : rIxT K (.ref p) (.int i) H Q := ⟨p, xs, i, v, rfl, rfl, h, ha, q⟩
theorem r_new {σ : L2.St} {t : TA} (h : t σ H fun xs H1 => xs.length ≤ sizeLine ∧ ∀ p, H1 p = none → Q (.ref p) (upd H1 p (.lst xs))) : tLst t σ H Q := h
theorem r_tup {σ : L2.St} {t : TA} (h : t σ H fun xs H1 => xs.length ≤ sizeLine ∧ ∀ p, H1 p = none → Q (.ref p) (upd H1 p (.tup xs))) : tTup t σ H Q := h
theorem r_cb {σ : L2.St} {r : List V → Hp → VK → Prop} {t : TA} (h : t σ H fun vs H1 => r vs H1 Q) : tCB r t σ H Q := h
theorem r_call {σ : L2.St} {sp : Sp} {E : XK} {t : TA} (h : t σ H fun vs H1 => sp (vs ++ []) H1 Q E) : tCall sp [] E t σ H Q := h
theorem r_bm {σ : L2.St} {T : String} {r : V → List V → Hp → VK → Prop} {to : TE} {t : TA} (h : to σ H fun x H1 => tyV K T x H1 ∧ t σ H1 fun xs H2 => r x xs H2 Q) : tBM K T r to t σ H Q := h
theorem ty_lst {x : Addr} {xs : List V} {P : Prop} (h : SqL K H x xs) (q : P) : tyV K "list" (.ref x) H ∧ P := ⟨Or.inl ⟨rfl, xs, h⟩, q⟩
theorem r_append {l : Addr} {xs : List V} {y : V} (h : H l = some (.lst xs)) (z : xs.length < sizeLine) (q : Q .non (upd H l (.lst (xs ++ [y])))) : rAppend (.ref l) [y] H Q := ⟨l, xs, y, rfl, rfl, h, z, q⟩
def cLen (K : PySem.W.Frag) : List V → Hp → VK → Prop := fun xs H Q => ∃ p ys, xs = [.ref p] ∧ (SqL K H p ys ∨ SqT K H p ys) ∧ Q (.int ys.length) H
theorem call_len {X : Cx} : CallR X (.builtin "len") (cLen X.K) := call_len_seq
theorem r_lenL {p : Addr} {ys : List V} (h : SqL K H p ys) (q : Q (.int ys.length) H) : cLen K [.ref p] H Q := ⟨p, ys, rfl, .inl h, q⟩
theorem r_lenT {p : Addr} {ys : List V} (h : SqT K H p ys) (q : Q (.int ys.length) H) : cLen K [.ref p] H Q := ⟨p, ys, rfl, .inr h, q⟩
def cInt : List V → Hp → VK → Prop := fun xs H Q => (∃ i, xs = [.int i] ∧ Q (.int i) H) ∨ ∃ k, xs = [.bl k] ∧ Q (.int (if k then 1 else 0)) H
theorem call_int {X : Cx} : CallR X (.type "int") cInt := call_int1
theorem r_int {i : Int} (q : Q (.int i) H) : cInt [.int i] H Q := .inl ⟨i, rfl, q⟩
def cIsN : R2 := fun x y H Q => y = .non ∧ Q (.bl (decide (x = .non))) H
def cNotN : R2 := fun x y H Q => y = .non ∧ Q (.bl (!decide (x = .non))) H
theorem op_isN {X : Cx} : OpR X (compareOp .Is) cIsN := L2.op_isN
theorem op_notN {X : Cx} : OpR X (compareOp .IsNot) cNotN := L2.op_notN
theorem r_notN {x : V} (q : Q (.bl (!dB (x = .non))) H) : cNotN x .non H Q := ⟨rfl, q⟩
theorem r_isN {x : V} (q : Q (.bl (dB (x = .non))) H) : cIsN x .non H Q := ⟨rfl, q⟩
theorem r_isi {x c : V} {t u : Value} {b : Bool} (h1 : ClsV c u) (h2 : TyX K H x t) (h3 : PySem.W.kitOne K t u = some b) (q : Q (.bl b) H) : rIsi K [x, c] H Q := ⟨x, c, t, u, b, rfl, h1, h2, h3, q⟩
/-! slices -/
theorem r_sl {σ : L2.St} {r : V → Option Int → Option Int → Hp → VK → Prop} {te : TE} {tl th : TO} (h : te σ H fun x H1 => tl σ H1 fun l H2 => th σ H2 fun u H3 => r x l u H3 Q) : tSl r te tl th σ H Q := h
theorem r_noPart {σ : L2.St} {P : Option Int → Hp → Prop} (q : P none H) : tNoPart σ H P := q
theorem r_part {σ : L2.St} {t : TE} {P : Option Int → Hp → Prop} (h : t σ H fun x H1 => ∃ i, x = .int i ∧ P (some i) H1) : tPart t σ H P := h
theorem r_pint {i : Int} {P : Int → Prop} (q : P i) : ∃ j, V.int i = .int j ∧ P j := ⟨i, rfl, q⟩
theorem r_slL {a : Addr} {xs : List V} {lo hi : Option Int} (h : SqL K H a xs) (q : ∀ p, H p = none → Q (.ref p) (upd H p (.lst (cutV xs lo hi)))) : rSlL K (.ref a) lo hi H Q := ⟨a, xs, rfl, h, q⟩
theorem r_aug {σ σ2 : L2.St} {i : Nat} {te : TE} {ti : TIp} {x : V} (hx : σ[i]? = some (some x)) (h : te σ H fun y H1 => ti x y H1 fun z H2 => D.nx (σ.set i (some z)) H2) : tAug i te ti D σ H := ⟨x, hx, h⟩
/-! loops -/
theorem for_lst {σ : L2.St} {tl : TE} {g : TG} {tb : TS} (h : tl σ H fun x H1 => ∃ a, x = .ref a ∧ (∃ xs, SqL K H1 a xs) ∧ ∃ W : Nat → Nat → L2.St → Hp → Prop, (∃ m, W 0 m σ H1) ∧ ∀ i m σ H, W i m σ H →
  ((Itl K a).stop i H ∧ D.nx σ H) ∨ ((Itl K a).go i H ∧ ∃ N : L2.St → Hp → Prop, (∀ σ' H', N σ' H' → ∃ m', m' < m ∧ W (i + 1) m' σ' H') ∧ ∀ x H', (Itl K a).yld i H x H' → g x σ H' fun σ2 H2 => tb { D with nx := N, ct := N, bk := D.nx } σ2 H2)) : tFor (iList K tl) g tb D σ H := h
theorem lst_go {σ : L2.St} {a : Addr} {xs : List V} {g : TG} {tb : TS} (hs0 : SqL K H a xs) (Pv : Nat → L2.St → Hp → Prop) (h0 : Pv 0 σ H) (hl : ∀ i σ H, i ≤ xs.length → Pv i σ H → SqL K H a xs)
    (hs : ∀ i x σ H, xs[i]? = some x → Pv i σ H → g x σ H fun σ2 H2 => tb { D with nx := Pv (i + 1), ct := Pv (i + 1), bk := D.nx } σ2 H2) (hd : ∀ σ H, Pv xs.length σ H → D.nx σ H) :
    ∃ a', V.ref a = .ref a' ∧ (∃ xs, SqL K H a' xs) ∧ ∃ W : Nat → Nat → L2.St → Hp → Prop, (∃ m, W 0 m σ H) ∧ ∀ i m σ H, W i m σ H →
  ((Itl K a').stop i H ∧ D.nx σ H) ∨ ((Itl K a').go i H ∧ ∃ N : L2.St → Hp → Prop, (∀ σ' H', N σ' H' → ∃ m', m' < m ∧ W (i + 1) m' σ' H') ∧ ∀ x H', (Itl K a').yld i H x H' → g x σ H' fun σ2 H2 => tb { D with nx := N, ct := N, bk := D.nx } σ2 H2) :=
  ⟨a, rfl, ⟨xs, hs0⟩, for_list (K := K) Pv h0 hl hs hd⟩
theorem for_rng {σ : L2.St} {ta : TA} {g : TG} {tb : TS} (h : ta σ H fun vs H1 => ∃ j : Int, vs = [.int j] ∧ -(2 ^ 62) ≤ j ∧ j < 2 ^ 62 ∧ ∃ W : Nat → Nat → L2.St → Hp → Prop, (∃ m, W 0 m σ H1) ∧ ∀ i m σ H, W i m σ H →
  ((Itr 0 j.toNat).stop i H ∧ D.nx σ H) ∨ ((Itr 0 j.toNat).go i H ∧ ∃ N : L2.St → Hp → Prop, (∀ σ' H', N σ' H' → ∃ m', m' < m ∧ W (i + 1) m' σ' H') ∧ ∀ x H', (Itr 0 j.toNat).yld i H x H' → g x σ H' fun σ2 H2 => tb { D with nx := N, ct := N, bk := D.nx } σ2 H2)) : tFor (iRng1 ta) g tb D σ H := h
theorem rng_go {σ : L2.St} {j : Int} {g : TG} {tb : TS} (n : Nat) (hj : j.toNat = n) (hb : -(2 ^ 62) ≤ j ∧ j < 2 ^ 62) (Pv : Nat → L2.St → Hp → Prop) (h0 : Pv 0 σ H)
    (hs : ∀ i σ H, i < n → Pv i σ H → g (.int (i : Nat)) σ H fun σ2 H2 => tb { D with nx := Pv (i + 1), ct := Pv (i + 1), bk := D.nx } σ2 H2) (hd : ∀ σ H, Pv n σ H → D.nx σ H) :
    ∃ j' : Int, [V.int j] = [.int j'] ∧ -(2 ^ 62) ≤ j' ∧ j' < 2 ^ 62 ∧ ∃ W : Nat → Nat → L2.St → Hp → Prop, (∃ m, W 0 m σ H) ∧ ∀ i m σ H, W i m σ H →
  ((Itr 0 j'.toNat).stop i H ∧ D.nx σ H) ∨ ((Itr 0 j'.toNat).go i H ∧ ∃ N : L2.St → Hp → Prop, (∀ σ' H', N σ' H' → ∃ m', m' < m ∧ W (i + 1) m' σ' H') ∧ ∀ x H', (Itr 0 j'.toNat).yld i H x H' → g x σ H' fun σ2 H2 => tb { D with nx := N, ct := N, bk := D.nx } σ2 H2) := by
  subst hj
  refine ⟨j, rfl, hb.1, hb.2, for_range (lo := 0) Pv h0 (fun i σ H hi p => ?_) hd⟩
  have e : (0 : Int) + (i : Nat) = (i : Nat) := Int.zero_add _
  rw [e]
  exact hs i σ H hi p
theorem for_rng2 {σ : L2.St} {ta : TA} {g : TG} {tb : TS} (h : ta σ H fun vs H1 => ∃ i j : Int, vs = [.int i, .int j] ∧ (-(2 ^ 62) ≤ i ∧ i < 2 ^ 62 ∧ -(2 ^ 62) ≤ j ∧ j < 2 ^ 62) ∧ ∃ W : Nat → Nat → L2.St → Hp → Prop, (∃ m, W 0 m σ H1) ∧ ∀ k m σ H, W k m σ H →
  ((Itr i (j - i).toNat).stop k H ∧ D.nx σ H) ∨ ((Itr i (j - i).toNat).go k H ∧ ∃ N : L2.St → Hp → Prop, (∀ σ' H', N σ' H' → ∃ m', m' < m ∧ W (k + 1) m' σ' H') ∧ ∀ x H', (Itr i (j - i).toNat).yld k H x H' → g x σ H' fun σ2 H2 => tb { D with nx := N, ct := N, bk := D.nx } σ2 H2)) : tFor (iRng2 ta) g tb D σ H := h
theorem rng_go2 {σ : L2.St} {a j : Int} {g : TG} {tb : TS} (n : Nat) (hj : (j - a).toNat = n) (hb : -(2 ^ 62) ≤ a ∧ a < 2 ^ 62 ∧ -(2 ^ 62) ≤ j ∧ j < 2 ^ 62) (Pv : Nat → L2.St → Hp → Prop) (h0 : Pv 0 σ H)
    (hs : ∀ i σ H, i < n → Pv i σ H → g (.int (a + (i : Nat))) σ H fun σ2 H2 => tb { D with nx := Pv (i + 1), ct := Pv (i + 1), bk := D.nx } σ2 H2) (hd : ∀ σ H, Pv n σ H → D.nx σ H) :
    ∃ i' j' : Int, [V.int a, V.int j] = [.int i', .int j'] ∧ (-(2 ^ 62) ≤ i' ∧ i' < 2 ^ 62 ∧ -(2 ^ 62) ≤ j' ∧ j' < 2 ^ 62) ∧ ∃ W : Nat → Nat → L2.St → Hp → Prop, (∃ m, W 0 m σ H) ∧ ∀ k m σ H, W k m σ H →
  ((Itr i' (j' - i').toNat).stop k H ∧ D.nx σ H) ∨ ((Itr i' (j' - i').toNat).go k H ∧ ∃ N : L2.St → Hp → Prop, (∀ σ' H', N σ' H' → ∃ m', m' < m ∧ W (k + 1) m' σ' H') ∧ ∀ x H', (Itr i' (j' - i').toNat).yld k H x H' → g x σ H' fun σ2 H2 => tb { D with nx := N, ct := N, bk := D.nx } σ2 H2) := by
  subst hj
  exact ⟨a, j, rfl, hb, for_range (lo := a) Pv h0 hs hd⟩
end
theorem for_enum {D : Ends} {H : Hp} {K : PySem.W.Frag} {σ : L2.St} {ta : TA} {g : TG} {tb : TS} (h : ta σ H fun vs H1 => ∃ a xs, vs = [.ref a] ∧ SqL K H1 a xs ∧ ∃ W : Nat → Nat → L2.St → Hp → Prop, (∃ m, W 0 m σ H1) ∧ ∀ i m σ H, W i m σ H →
  ((Ite K a).stop i H ∧ D.nx σ H) ∨ ((Ite K a).go i H ∧ ∃ N : L2.St → Hp → Prop, (∀ σ' H', N σ' H' → ∃ m', m' < m ∧ W (i + 1) m' σ' H') ∧ ∀ x H', (Ite K a).yld i H x H' → g x σ H' fun σ2 H2 => tb { D with nx := N, ct := N, bk := D.nx } σ2 H2)) : tFor (iEnum K ta) g tb D σ H := h
theorem enum_go {D : Ends} {H : Hp} {K : PySem.W.Frag} {σ : L2.St} {a : Addr} {xs : List V} {g : TG} {tb : TS} (hs0 : SqL K H a xs) (Pv : Nat → L2.St → Hp → Prop) (h0 : Pv 0 σ H) (hl : ∀ i σ H, i ≤ xs.length → Pv i σ H → SqL K H a xs)
    (hs : ∀ i x σ H T, xs[i]? = some x → Pv i σ H → H T = none → g (.ref T) σ (upd H T (.tup [.int (i : Nat), x])) fun σ2 H2 => tb { D with nx := Pv (i + 1), ct := Pv (i + 1), bk := D.nx } σ2 H2) (hd : ∀ σ H, Pv xs.length σ H → D.nx σ H) :
    ∃ a' xs', [V.ref a] = [.ref a'] ∧ SqL K H a' xs' ∧ ∃ W : Nat → Nat → L2.St → Hp → Prop, (∃ m, W 0 m σ H) ∧ ∀ i m σ H, W i m σ H →
  ((Ite K a').stop i H ∧ D.nx σ H) ∨ ((Ite K a').go i H ∧ ∃ N : L2.St → Hp → Prop, (∀ σ' H', N σ' H' → ∃ m', m' < m ∧ W (i + 1) m' σ' H') ∧ ∀ x H', (Ite K a').yld i H x H' → g x σ H' fun σ2 H2 => tb { D with nx := N, ct := N, bk := D.nx } σ2 H2) := by
  refine ⟨a, xs, rfl, hs0, fun i m σ H => m = xs.length - i ∧ i ≤ xs.length ∧ Pv i σ H, ⟨xs.length, by simp, Nat.zero_le _, h0⟩, ?_⟩
  rintro i m σ H ⟨rfl, hi, p⟩
  have q := hl i σ H hi p
  by_cases hlt : i < xs.length
  · refine .inr ⟨⟨xs, xs[i], q, by simp [hlt]⟩, Pv (i + 1), fun σ' H' p' => ⟨xs.length - (i + 1), by omega, rfl, hlt, p'⟩, fun x H' y => ?_⟩
    obtain ⟨T, x, rfl, hT, rfl, hx⟩ := y
    exact hs i x σ H T (hx xs q) p hT
  · have e : i = xs.length := by omega
    subst e
    exact .inl ⟨⟨xs, q, Nat.le_refl _⟩, hd σ H p⟩
theorem r_pair {H : Hp} {K : PySem.W.Frag} {σ σ2 : L2.St} {i j : Nat} {T : Addr} {x y : V} {k : L2.St → Hp → Prop} (hT : H T = some (.tup [x, y])) (hs : (σ.set i (some x)).set j (some y) = σ2) (h : k σ2 H) :
    gTup K 2 (gCons (gName i) (gCons (gName j) gNil)) (.ref T) σ H k := by
  subst hs
  exact ⟨T, [x, y], rfl, .inl (.inl hT), rfl, x, [y], rfl, y, [], rfl, rfl, h⟩
theorem r_three {H : Hp} {K : PySem.W.Frag} {σ σ2 : L2.St} {i j l : Nat} {T : Addr} {x y z : V} {k : L2.St → Hp → Prop} (hT : H T = some (.tup [x, y, z])) (hs : ((σ.set i (some x)).set j (some y)).set l (some z) = σ2) (h : k σ2 H) :
    gTup K 3 (gCons (gName i) (gCons (gName j) (gCons (gName l) gNil))) (.ref T) σ H k := by
  subst hs
  exact ⟨T, [x, y, z], rfl, .inl (.inl hT), rfl, x, [y, z], rfl, y, [z], rfl, z, [], rfl, rfl, h⟩
theorem r_gsub {H : Hp} {σ : L2.St} {to ti : TE} {t : TSet} {v : V} {k : L2.St → Hp → Prop} (h : to σ H fun o H1 => ti σ H1 fun i H2 => t o i v H2 fun H3 => k σ H3) : gSub to ti t v σ H k := h
theorem r_setL {H : Hp} {p : Addr} {xs : List V} {k : Int} {j : Nat} {v : V} {Q : Hp → Prop} (hp : H p = some (.lst xs)) (e : k = (j : Int)) (hj : j < xs.length) (q : Q (upd H p (.lst (xs.set j v)))) : rSetL (.ref p) (.int k) v H Q := by
  subst e
  refine ⟨p, xs, (j : Int), j, rfl, rfl, hp, ?_, q⟩
  unfold ixN
  rw [if_pos (by omega), if_pos (by omega), Int.toNat_natCast]
theorem r_rep {H : Hp} {Q : VK} {l : Addr} {k : Int} {v : V} (hl : H l = some (.lst [v])) (h1 : -(2 ^ 63) ≤ k) (h2 : k < 100000) (q : ∀ p, H p = none → Q (.ref p) (upd H p (.lst (List.replicate k.toNat v)))) : rRep (.ref l) (.int k) H Q := by
  refine ⟨l, k, [v], rfl, rfl, hl, h1, Int.lt_trans h2 (by decide), sz (by show 1 * k.toNat ≤ 100000; omega), fun p hp => ?_⟩
  have e : (List.replicate k.toNat [v]).flatten = List.replicate k.toNat v := by
    generalize k.toNat = n
    induction n with
    | zero => rfl
    | succ n ih => rw [List.replicate_succ, List.flatten_cons, ih, List.replicate_succ]; rfl
  rw [e]
  exact q p hp
theorem r_cat {H : Hp} {Q : VK} {l b : Addr} {xs zs : List V} (hl : H l = some (.lst xs)) (hb : H b = some (.lst zs)) (hz : xs.length + zs.length ≤ 100000) (q : ∀ p, H p = none → Q (.ref p) (upd H p (.lst (xs ++ zs)))) : rCat (.ref l) (.ref b) H Q :=
  ⟨l, b, xs, zs, rfl, rfl, hl, hb, sz hz, q⟩
def cList (K : PySem.W.Frag) : List V → Hp → VK → Prop := fun xs H Q => ∃ p ys, xs = [.ref p] ∧ (SqL K H p ys ∨ SqT K H p ys) ∧ ∀ l, H l = none → Q (.ref l) (upd H l (.lst ys))
theorem call_list {X : Cx} : CallR X (.type "list") (cList X.K) := call_list_of
theorem r_list {H : Hp} {K : PySem.W.Frag} {Q : VK} {p : Addr} {ys : List V} (h : SqL K H p ys) (q : ∀ l, H l = none → Q (.ref l) (upd H l (.lst ys))) : cList K [.ref p] H Q := ⟨p, ys, rfl, .inl h, q⟩
theorem r_intB {H : Hp} {Q : VK} {b : Bool} (q : Q (.int (if b then 1 else 0)) H) : cInt [.bl b] H Q := .inr ⟨b, rfl, q⟩
/-! two lists of ints compared -/
theorem dp_ints {K : PySem.W.Frag} {H : Hp} : ∀ ns : List Int, DpAll K H (ns.map V.int) (ns.map PyData.int)
  | [] => .nil
  | n :: r => .cons (.int n) (dp_ints r)
theorem depth_ints : ∀ ns : List Int, PyData.depthAll (ns.map PyData.int) = 0
  | [] => rfl
  | n :: r => by
    show max 0 (PyData.depthAll (r.map PyData.int)) = 0
    rw [depth_ints r]; rfl
theorem lay_ints : ∀ ns : List Int, PyData.canLayAll0 (ns.map PyData.int) = true
  | [] => rfl
  | n :: r => by
    show (true && PyData.canLayAll0 (r.map PyData.int)) = true
    rw [lay_ints r]; rfl
theorem shaped_ints (ns : List Int) : SeqAt.shaped (.list (ns.map PyData.int)) = true := by
  have h1 : (PyData.list (ns.map PyData.int)).canLay0 = true := lay_ints ns
  have h2 : (PyData.list (ns.map PyData.int)).depth ≤ 64 := by
    show PyData.depthAll (ns.map PyData.int) + 1 ≤ 64
    rw [depth_ints ns]; decide
  unfold SeqAt.shaped
  rw [h1, decide_eq_true h2]; rfl
theorem eqv_ints : ∀ ns : List Int, PyData.eqv (.list (ns.map PyData.int)) (.list (ns.map PyData.int)) = true := by
  intro ns
  unfold PyData.eqv
  induction ns with
  | nil => rfl
  | cons n r ih => simp [PyData.eqvAll, PyData.eqv, ih]
theorem r_eqL {H : Hp} {K : PySem.W.Frag} {Q : VK} {a b : Addr} {ns : List Int} (ha : SqL K H a (ns.map V.int)) (hb : SqL K H b (ns.map V.int)) (q : Q (.bl true) H) : rEqD K (.ref a) (.ref b) H Q :=
  ⟨_, _, .lst ha (dp_ints ns), .lst hb (dp_ints ns), shaped_ints ns, shaped_ints ns, by rw [eqv_ints]; exact q⟩
theorem eqv_ints2 : ∀ ns ms : List Int, PyData.eqv (.list (ns.map PyData.int)) (.list (ms.map PyData.int)) = dB (ns = ms) := by
  intro ns
  induction ns with
  | nil =>
    intro ms
    cases ms with
    | nil => rw [dB_t rfl]; simp [PyData.eqv, PyData.eqvAll]
    | cons m r => rw [dB_f (by simp)]; simp [PyData.eqv, PyData.eqvAll]
  | cons n ns ih =>
    intro ms
    cases ms with
    | nil => rw [dB_f (by simp)]; simp [PyData.eqv, PyData.eqvAll]
    | cons m r =>
      have i2 := ih r
      unfold PyData.eqv at i2
      have e : PyData.eqv (.list ((n :: ns).map PyData.int)) (.list ((m :: r).map PyData.int)) = ((n == m) && PyData.eqv (.list (ns.map PyData.int)) (.list (r.map PyData.int))) := by
        unfold PyData.eqv
        simp [PyData.eqvAll, PyData.eqv]
      rw [e, ih r]
      by_cases h : n = m
      · subst h
        by_cases h2 : ns = r
        · subst h2; rw [dB_t rfl, dB_t rfl]; simp
        · rw [dB_f h2, dB_f (by intro z; injection z with _ z; exact h2 z)]; simp
      · rw [dB_f (p := n :: ns = m :: r) (by intro z; injection z with z _; exact h z)]; simp [h]
theorem r_eqL2 {H : Hp} {K : PySem.W.Frag} {Q : VK} {a b : Addr} {ns ms : List Int} (ha : SqL K H a (ns.map V.int)) (hb : SqL K H b (ms.map V.int)) (q : Q (.bl (dB (ns = ms))) H) : rEqD K (.ref a) (.ref b) H Q :=
  ⟨_, _, .lst ha (dp_ints ns), .lst hb (dp_ints ms), shaped_ints ns, shaped_ints ms, by rw [eqv_ints2]; exact q⟩
theorem r_sum {K : PySem.W.Frag} {H : Hp} {Q : VK} {a : Addr} {ns : List Int} (h : SqL K H a (ns.map V.int)) (q : Q (.int ns.sum) H) : rSum K [.ref a] H Q := ⟨a, ns, rfl, h, q⟩
/-! comprehensions whose elements leave all as it was -/
theorem lc_rng {H : Hp} {Q : VK} {σ : L2.St} {ta : TA} {g : TG} {tt : TT} {te : TE} {vs : List Nat} (h : ta σ H fun ws H1 => ∃ j : Int, ws = [V.int j] ∧ -(2 ^ 62) ≤ j ∧ j < 2 ^ 62 ∧ ∀ D, H1 D = none → ∃ W : Nat → Nat → Hp → Prop, (∃ m, W 0 m (upd H1 D (.lst []))) ∧ ∀ i m H, W i m H →
  ((Itr 0 j.toNat).stop i H ∧ Q (.ref D) H) ∨ ((Itr 0 j.toNat).go i H ∧ ∃ Nx : Hp → Prop, (∀ H', Nx H' → ∃ m', m' < m ∧ W (i + 1) m' H') ∧ ∀ x H', (Itr 0 j.toNat).yld i H x H' → g x (wipe σ vs) H' fun σ2 H2 => wipe σ2 vs = wipe σ vs ∧ tt σ2 H2 fun b H3 =>
    if b = true then te σ2 H3 fun y H4 => ∃ acc, H4 D = some (.lst acc) ∧ acc.length < sizeLine ∧ Nx (upd H4 D (.lst (acc ++ [y]))) else Nx H3)) : tLc (iRng1 ta) g tt te vs σ H Q := h
theorem lc_lst {H : Hp} {K : PySem.W.Frag} {Q : VK} {σ : L2.St} {tl : TE} {g : TG} {tt : TT} {te : TE} {vs : List Nat} (h : tl σ H fun x H1 => ∃ a, x = .ref a ∧ (∃ xs, SqL K H1 a xs) ∧ ∀ D, H1 D = none → ∃ W : Nat → Nat → Hp → Prop, (∃ m, W 0 m (upd H1 D (.lst []))) ∧ ∀ i m H, W i m H →
  ((Itl K a).stop i H ∧ Q (.ref D) H) ∨ ((Itl K a).go i H ∧ ∃ Nx : Hp → Prop, (∀ H', Nx H' → ∃ m', m' < m ∧ W (i + 1) m' H') ∧ ∀ x H', (Itl K a).yld i H x H' → g x (wipe σ vs) H' fun σ2 H2 => wipe σ2 vs = wipe σ vs ∧ tt σ2 H2 fun b H3 =>
    if b = true then te σ2 H3 fun y H4 => ∃ acc, H4 D = some (.lst acc) ∧ acc.length < sizeLine ∧ Nx (upd H4 D (.lst (acc ++ [y]))) else Nx H3)) : tLc (iList K tl) g tt te vs σ H Q := h
theorem lcr_pure {H1 : Hp} {Qd : Addr → Hp → Prop} {σ : L2.St} {te : TE} {vs : List Nat} {sl : Nat} {j : Int} (n : Nat) (f : Nat → V) (hj : j.toNat = n) (hb : -(2 ^ 62) ≤ j ∧ j < 2 ^ 62) (hz : n ≤ 100000) (hw : ∀ v : Option V, wipe ((wipe σ vs).set sl v) vs = wipe σ vs)
    (hs : ∀ i H2, i < n → Same H1 H2 → ∀ k : VK, (∀ H5, Same H2 H5 → k (f i) H5) → te ((wipe σ vs).set sl (some (V.int (i : Nat)))) H2 k)
    (hd : ∀ D H2, H1 D = none → Same H1 H2 → H2 D = some (.lst ((List.range n).map f)) → Qd D H2) :
    ∃ j' : Int, [V.int j] = [V.int j'] ∧ -(2 ^ 62) ≤ j' ∧ j' < 2 ^ 62 ∧ ∀ D, H1 D = none → ∃ W : Nat → Nat → Hp → Prop, (∃ m, W 0 m (upd H1 D (.lst []))) ∧ ∀ i m H, W i m H →
  ((Itr 0 j'.toNat).stop i H ∧ Qd D H) ∨ ((Itr 0 j'.toNat).go i H ∧ ∃ Nx : Hp → Prop, (∀ H', Nx H' → ∃ m', m' < m ∧ W (i + 1) m' H') ∧ ∀ x H', (Itr 0 j'.toNat).yld i H x H' → gName sl x (wipe σ vs) H' fun σ2 H2 => wipe σ2 vs = wipe σ vs ∧ tYes σ2 H2 fun b H3 =>
    if b = true then te σ2 H3 fun y H4 => ∃ acc, H4 D = some (.lst acc) ∧ acc.length < sizeLine ∧ Nx (upd H4 D (.lst (acc ++ [y]))) else Nx H3) := by
  refine ⟨j, rfl, hb.1, hb.2, fun D hD => ?_⟩
  subst hj
  refine lc_range (lo := 0) (fun i H2 => Same H1 H2 ∧ H2 D = some (.lst ((List.range i).map f))) ⟨s_upd hD, upd_same⟩ (fun i H2 hi ⟨s2, hl⟩ => ?_) (fun H2 ⟨s2, hl⟩ => hd D H2 hD s2 hl)
  have e : (0 : Int) + (i : Nat) = (i : Nat) := Int.zero_add _
  rw [e]
  refine ⟨hw _, i_t (B := Same H1 H2 ∧ H2 D = some (.lst ((List.range (i + 1)).map f))) ?_⟩
  refine (hs i H2 hi s2 _ fun H5 s5 => ⟨_, s5 _ _ hl, szl (by rw [List.length_map, List.length_range]; omega), s_mut (s2.trans s5) hD, ?_⟩)
  rw [List.range_succ, List.map_append]
  exact upd_same
theorem lcl_pure {H1 : Hp} {K : PySem.W.Frag} {Qd : Addr → Hp → Prop} {σ : L2.St} {te : TE} {vs : List Nat} {sl : Nat} {a : Addr} {xs : List V} (f : V → V) (hx : SqL K H1 a xs) (hz : xs.length ≤ 100000) (hw : ∀ v : Option V, wipe ((wipe σ vs).set sl v) vs = wipe σ vs)
    (hs : ∀ (i : Nat) x H2, xs[i]? = some x → Same H1 H2 → ∀ k : VK, (∀ H5, Same H2 H5 → k (f x) H5) → te ((wipe σ vs).set sl (some x)) H2 k)
    (hd : ∀ D H2, H1 D = none → Same H1 H2 → H2 D = some (.lst (xs.map f)) → Qd D H2) :
    ∃ a', V.ref a = .ref a' ∧ (∃ xs, SqL K H1 a' xs) ∧ ∀ D, H1 D = none → ∃ W : Nat → Nat → Hp → Prop, (∃ m, W 0 m (upd H1 D (.lst []))) ∧ ∀ i m H, W i m H →
  ((Itl K a').stop i H ∧ Qd D H) ∨ ((Itl K a').go i H ∧ ∃ Nx : Hp → Prop, (∀ H', Nx H' → ∃ m', m' < m ∧ W (i + 1) m' H') ∧ ∀ x H', (Itl K a').yld i H x H' → gName sl x (wipe σ vs) H' fun σ2 H2 => wipe σ2 vs = wipe σ vs ∧ tYes σ2 H2 fun b H3 =>
    if b = true then te σ2 H3 fun y H4 => ∃ acc, H4 D = some (.lst acc) ∧ acc.length < sizeLine ∧ Nx (upd H4 D (.lst (acc ++ [y]))) else Nx H3) := by
  refine ⟨a, rfl, ⟨xs, hx⟩, fun D hD => ?_⟩
  refine lc_list (K := K) (xs := xs) (fun i H2 => Same H1 H2 ∧ H2 D = some (.lst ((xs.take i).map f))) ⟨s_upd hD, upd_same⟩ (fun i H2 _ p => p.1.seq hx) (fun i x H2 hi ⟨s2, hl⟩ => ?_) (fun H2 ⟨s2, hl⟩ => hd D H2 hD s2 (by rw [List.take_length] at hl; exact hl))
  have hlt := (List.getElem?_eq_some_iff.mp hi).1
  refine ⟨hw _, i_t (B := Same H1 H2 ∧ H2 D = some (.lst ((xs.take (i + 1)).map f))) ?_⟩
  refine (hs i x H2 hi s2 _ fun H5 s5 => ⟨_, s5 _ _ hl, szl (by rw [List.length_map, List.length_take]; omega), s_mut (s2.trans s5) hD, ?_⟩)
  rw [List.take_add_one, hi, List.map_append]
  exact upd_same
theorem lcl_idx {H1 : Hp} {K : PySem.W.Frag} {Qd : Addr → Hp → Prop} {σ : L2.St} {te : TE} {vs : List Nat} {sl : Nat} {a : Addr} {xs : List V} (f : Nat → V) (hx : SqL K H1 a xs) (hz : xs.length ≤ 100000) (hw : ∀ v : Option V, wipe ((wipe σ vs).set sl v) vs = wipe σ vs)
    (hs : ∀ (i : Nat) x H2, xs[i]? = some x → Same H1 H2 → ∀ k : VK, (∀ H5, Same H2 H5 → k (f i) H5) → te ((wipe σ vs).set sl (some x)) H2 k)
    (hd : ∀ D H2, H1 D = none → Same H1 H2 → H2 D = some (.lst ((List.range xs.length).map f)) → Qd D H2) :
    ∃ a', V.ref a = .ref a' ∧ (∃ xs, SqL K H1 a' xs) ∧ ∀ D, H1 D = none → ∃ W : Nat → Nat → Hp → Prop, (∃ m, W 0 m (upd H1 D (.lst []))) ∧ ∀ i m H, W i m H →
  ((Itl K a').stop i H ∧ Qd D H) ∨ ((Itl K a').go i H ∧ ∃ Nx : Hp → Prop, (∀ H', Nx H' → ∃ m', m' < m ∧ W (i + 1) m' H') ∧ ∀ x H', (Itl K a').yld i H x H' → gName sl x (wipe σ vs) H' fun σ2 H2 => wipe σ2 vs = wipe σ vs ∧ tYes σ2 H2 fun b H3 =>
    if b = true then te σ2 H3 fun y H4 => ∃ acc, H4 D = some (.lst acc) ∧ acc.length < sizeLine ∧ Nx (upd H4 D (.lst (acc ++ [y]))) else Nx H3) := by
  refine ⟨a, rfl, ⟨xs, hx⟩, fun D hD => ?_⟩
  refine lc_list (K := K) (xs := xs) (fun i H2 => Same H1 H2 ∧ H2 D = some (.lst ((List.range i).map f))) ⟨s_upd hD, upd_same⟩ (fun i H2 _ p => p.1.seq hx) (fun i x H2 hi ⟨s2, hl⟩ => ?_) (fun H2 ⟨s2, hl⟩ => hd D H2 hD s2 hl)
  have hlt := (List.getElem?_eq_some_iff.mp hi).1
  refine ⟨hw _, i_t (B := Same H1 H2 ∧ H2 D = some (.lst ((List.range (i + 1)).map f))) ?_⟩
  refine (hs i x H2 hi s2 _ fun H5 s5 => ⟨_, s5 _ _ hl, szl (by rw [List.length_map, List.length_range]; omega), s_mut (s2.trans s5) hD, ?_⟩)
  rw [List.range_succ, List.map_append]
  exact upd_same
theorem lc_rng2 {H : Hp} {Q : VK} {σ : L2.St} {ta : TA} {g : TG} {tt : TT} {te : TE} {vs : List Nat} (h : ta σ H fun ws H1 => ∃ a j : Int, ws = [V.int a, V.int j] ∧ (-(2 ^ 62) ≤ a ∧ a < 2 ^ 62 ∧ -(2 ^ 62) ≤ j ∧ j < 2 ^ 62) ∧ ∀ D, H1 D = none → ∃ W : Nat → Nat → Hp → Prop, (∃ m, W 0 m (upd H1 D (.lst []))) ∧ ∀ i m H, W i m H →
  ((Itr a (j - a).toNat).stop i H ∧ Q (.ref D) H) ∨ ((Itr a (j - a).toNat).go i H ∧ ∃ Nx : Hp → Prop, (∀ H', Nx H' → ∃ m', m' < m ∧ W (i + 1) m' H') ∧ ∀ x H', (Itr a (j - a).toNat).yld i H x H' → g x (wipe σ vs) H' fun σ2 H2 => wipe σ2 vs = wipe σ vs ∧ tt σ2 H2 fun b H3 =>
    if b = true then te σ2 H3 fun y H4 => ∃ acc, H4 D = some (.lst acc) ∧ acc.length < sizeLine ∧ Nx (upd H4 D (.lst (acc ++ [y]))) else Nx H3)) : tLc (iRng2 ta) g tt te vs σ H Q := h
/-- a comprehension over range(a, j) with a test; elements and tests leave all as it was -/
theorem lcr2_filt {H1 : Hp} {Qd : Addr → Hp → Prop} {σ : L2.St} {tt : TT} {te : TE} {vs : List Nat} {sl : Nat} {a j : Int} (n : Nat) (p : Nat → Bool) (f : Nat → V) (hj : (j - a).toNat = n) (hb : -(2 ^ 62) ≤ a ∧ a < 2 ^ 62 ∧ -(2 ^ 62) ≤ j ∧ j < 2 ^ 62) (hz : n ≤ 100000) (hw : ∀ v : Option V, wipe ((wipe σ vs).set sl v) vs = wipe σ vs)
    (ht : ∀ i H2, i < n → Same H1 H2 → ∀ k : Bool → Hp → Prop, (∀ H5, Same H2 H5 → k (p i) H5) → tt ((wipe σ vs).set sl (some (V.int (a + (i : Nat))))) H2 k)
    (hs : ∀ i H2, i < n → Same H1 H2 → ∀ k : VK, (∀ H5, Same H2 H5 → k (f i) H5) → te ((wipe σ vs).set sl (some (V.int (a + (i : Nat))))) H2 k)
    (hd : ∀ D H2, H1 D = none → Same H1 H2 → H2 D = some (.lst (((List.range n).filter p).map f)) → Qd D H2) :
    ∃ a' j' : Int, [V.int a, V.int j] = [V.int a', V.int j'] ∧ (-(2 ^ 62) ≤ a' ∧ a' < 2 ^ 62 ∧ -(2 ^ 62) ≤ j' ∧ j' < 2 ^ 62) ∧ ∀ D, H1 D = none → ∃ W : Nat → Nat → Hp → Prop, (∃ m, W 0 m (upd H1 D (.lst []))) ∧ ∀ i m H, W i m H →
  ((Itr a' (j' - a').toNat).stop i H ∧ Qd D H) ∨ ((Itr a' (j' - a').toNat).go i H ∧ ∃ Nx : Hp → Prop, (∀ H', Nx H' → ∃ m', m' < m ∧ W (i + 1) m' H') ∧ ∀ x H', (Itr a' (j' - a').toNat).yld i H x H' → gName sl x (wipe σ vs) H' fun σ2 H2 => wipe σ2 vs = wipe σ vs ∧ tt σ2 H2 fun b H3 =>
    if b = true then te σ2 H3 fun y H4 => ∃ acc, H4 D = some (.lst acc) ∧ acc.length < sizeLine ∧ Nx (upd H4 D (.lst (acc ++ [y]))) else Nx H3) := by
  refine ⟨a, j, rfl, hb, fun D hD => ?_⟩
  subst hj
  refine lc_range (lo := a) (fun i H2 => Same H1 H2 ∧ H2 D = some (.lst (((List.range i).filter p).map f))) ⟨s_upd hD, upd_same⟩ (fun i H2 hi ⟨s2, hl⟩ => ?_) (fun H2 ⟨s2, hl⟩ => hd D H2 hD s2 hl)
  refine ⟨hw _, ht i H2 hi s2 _ fun H5 s5 => ?_⟩
  have hl5 := s5 _ _ hl
  cases hp : p i with
  | true =>
    refine i_t ?_
    refine (hs i H5 hi (s2.trans s5) _ fun H6 s6 => ⟨_, s6 _ _ hl5, szl ?_, s_mut ((s2.trans s5).trans s6) hD, ?_⟩)
    · rw [List.length_map]
      have := List.length_filter_le p (List.range i)
      rw [List.length_range] at this
      omega
    · rw [List.range_succ, List.filter_append, List.filter_cons, hp, if_pos rfl, List.filter_nil, List.map_append]
      exact upd_same
  | false =>
    refine i_f ⟨s2.trans s5, ?_⟩
    rw [List.range_succ, List.filter_append, List.filter_cons, hp, if_neg Bool.false_ne_true, List.filter_nil, List.append_nil]
    exact hl5
theorem lcr_filt {H1 : Hp} {Qd : Addr → Hp → Prop} {σ : L2.St} {tt : TT} {te : TE} {vs : List Nat} {sl : Nat} {j : Int} (n : Nat) (p : Nat → Bool) (f : Nat → V) (hj : j.toNat = n) (hb : -(2 ^ 62) ≤ j ∧ j < 2 ^ 62) (hz : n ≤ 100000) (hw : ∀ v : Option V, wipe ((wipe σ vs).set sl v) vs = wipe σ vs)
    (ht : ∀ i H2, i < n → Same H1 H2 → ∀ k : Bool → Hp → Prop, (∀ H5, Same H2 H5 → k (p i) H5) → tt ((wipe σ vs).set sl (some (V.int (i : Nat)))) H2 k)
    (hs : ∀ i H2, i < n → Same H1 H2 → ∀ k : VK, (∀ H5, Same H2 H5 → k (f i) H5) → te ((wipe σ vs).set sl (some (V.int (i : Nat)))) H2 k)
    (hd : ∀ D H2, H1 D = none → Same H1 H2 → H2 D = some (.lst (((List.range n).filter p).map f)) → Qd D H2) :
    ∃ j' : Int, [V.int j] = [V.int j'] ∧ -(2 ^ 62) ≤ j' ∧ j' < 2 ^ 62 ∧ ∀ D, H1 D = none → ∃ W : Nat → Nat → Hp → Prop, (∃ m, W 0 m (upd H1 D (.lst []))) ∧ ∀ i m H, W i m H →
  ((Itr 0 j'.toNat).stop i H ∧ Qd D H) ∨ ((Itr 0 j'.toNat).go i H ∧ ∃ Nx : Hp → Prop, (∀ H', Nx H' → ∃ m', m' < m ∧ W (i + 1) m' H') ∧ ∀ x H', (Itr 0 j'.toNat).yld i H x H' → gName sl x (wipe σ vs) H' fun σ2 H2 => wipe σ2 vs = wipe σ vs ∧ tt σ2 H2 fun b H3 =>
    if b = true then te σ2 H3 fun y H4 => ∃ acc, H4 D = some (.lst acc) ∧ acc.length < sizeLine ∧ Nx (upd H4 D (.lst (acc ++ [y]))) else Nx H3) := by
  refine ⟨j, rfl, hb.1, hb.2, fun D hD => ?_⟩
  subst hj
  refine lc_range (lo := 0) (fun i H2 => Same H1 H2 ∧ H2 D = some (.lst (((List.range i).filter p).map f))) ⟨s_upd hD, upd_same⟩ (fun i H2 hi ⟨s2, hl⟩ => ?_) (fun H2 ⟨s2, hl⟩ => hd D H2 hD s2 hl)
  have e0 : (0 : Int) + (i : Nat) = (i : Nat) := Int.zero_add _
  rw [e0]
  refine ⟨hw _, ht i H2 hi s2 _ fun H5 s5 => ?_⟩
  have hl5 := s5 _ _ hl
  cases hp : p i with
  | true =>
    refine i_t ?_
    refine (hs i H5 hi (s2.trans s5) _ fun H6 s6 => ⟨_, s6 _ _ hl5, szl ?_, s_mut ((s2.trans s5).trans s6) hD, ?_⟩)
    · rw [List.length_map]
      have := List.length_filter_le p (List.range i)
      rw [List.length_range] at this
      omega
    · rw [List.range_succ, List.filter_append, List.filter_cons, hp, if_pos rfl, List.filter_nil, List.map_append]
      exact upd_same
  | false =>
    refine i_f ⟨s2.trans s5, ?_⟩
    rw [List.range_succ, List.filter_append, List.filter_cons, hp, if_neg Bool.false_ne_true, List.filter_nil, List.append_nil]
    exact hl5
/-! ranges with a step -/
theorem for_rng3 {D : Ends} {H : Hp} {σ : L2.St} {ta : TA} {g : TG} {tb : TS} (h : ta σ H fun vs H1 => ∃ (i j c : Int) (n : Nat), vs = [V.int i, V.int j, V.int c] ∧ RgC i j c n ∧ ∃ W : Nat → Nat → L2.St → Hp → Prop, (∃ m, W 0 m σ H1) ∧ ∀ k m σ H, W k m σ H →
  ((Itc i c n).stop k H ∧ D.nx σ H) ∨ ((Itc i c n).go k H ∧ ∃ N : L2.St → Hp → Prop, (∀ σ' H', N σ' H' → ∃ m', m' < m ∧ W (k + 1) m' σ' H') ∧ ∀ x H', (Itc i c n).yld k H x H' → g x σ H' fun σ2 H2 => tb { D with nx := N, ct := N, bk := D.nx } σ2 H2)) : tFor (iRng3 ta) g tb D σ H := h
theorem rng_go3 {D : Ends} {H1 : Hp} {σ : L2.St} {a j c : Int} {g : TG} {tb : TS} (n : Nat) (hr : RgC a j c n) (Pv : Nat → L2.St → Hp → Prop) (h0 : Pv 0 σ H1)
    (hs : ∀ i σ H, i < n → Pv i σ H → g (V.int (a + (i : Nat) * c)) σ H fun σ2 H2 => tb { D with nx := Pv (i + 1), ct := Pv (i + 1), bk := D.nx } σ2 H2) (hd : ∀ σ H, Pv n σ H → D.nx σ H) :
    ∃ (i' j' c' : Int) (n' : Nat), [V.int a, V.int j, V.int c] = [V.int i', V.int j', V.int c'] ∧ RgC i' j' c' n' ∧ ∃ W : Nat → Nat → L2.St → Hp → Prop, (∃ m, W 0 m σ H1) ∧ ∀ k m σ H, W k m σ H →
  ((Itc i' c' n').stop k H ∧ D.nx σ H) ∨ ((Itc i' c' n').go k H ∧ ∃ N : L2.St → Hp → Prop, (∀ σ' H', N σ' H' → ∃ m', m' < m ∧ W (k + 1) m' σ' H') ∧ ∀ x H', (Itc i' c' n').yld k H x H' → g x σ H' fun σ2 H2 => tb { D with nx := N, ct := N, bk := D.nx } σ2 H2) :=
  ⟨a, j, c, n, rfl, hr, for_rangeC (lo := a) (c := c) Pv h0 hs hd⟩
theorem lc_rng3 {H : Hp} {Q : VK} {σ : L2.St} {ta : TA} {g : TG} {tt : TT} {te : TE} {vs : List Nat} (h : ta σ H fun ws H1 => ∃ (lo j c : Int) (n : Nat), ws = [V.int lo, V.int j, V.int c] ∧ RgC lo j c n ∧ ∀ D, H1 D = none → ∃ W : Nat → Nat → Hp → Prop, (∃ m, W 0 m (upd H1 D (.lst []))) ∧ ∀ i m H, W i m H →
  ((Itc lo c n).stop i H ∧ Q (.ref D) H) ∨ ((Itc lo c n).go i H ∧ ∃ Nx : Hp → Prop, (∀ H', Nx H' → ∃ m', m' < m ∧ W (i + 1) m' H') ∧ ∀ x H', (Itc lo c n).yld i H x H' → g x (wipe σ vs) H' fun σ2 H2 => wipe σ2 vs = wipe σ vs ∧ tt σ2 H2 fun b H3 =>
    if b = true then te σ2 H3 fun y H4 => ∃ acc, H4 D = some (.lst acc) ∧ acc.length < sizeLine ∧ Nx (upd H4 D (.lst (acc ++ [y]))) else Nx H3)) : tLc (iRng3 ta) g tt te vs σ H Q := h
theorem lcr3_pure {H1 : Hp} {Qd : Addr → Hp → Prop} {σ : L2.St} {te : TE} {vs : List Nat} {sl : Nat} {a j c : Int} (n : Nat) (f : Nat → V) (hr : RgC a j c n) (hz : n ≤ 100000) (hw : ∀ v : Option V, wipe ((wipe σ vs).set sl v) vs = wipe σ vs)
    (hs : ∀ i H2, i < n → Same H1 H2 → ∀ k : VK, (∀ H5, Same H2 H5 → k (f i) H5) → te ((wipe σ vs).set sl (some (V.int (a + (i : Nat) * c)))) H2 k)
    (hd : ∀ D H2, H1 D = none → Same H1 H2 → H2 D = some (.lst ((List.range n).map f)) → Qd D H2) :
    ∃ (i' j' c' : Int) (n' : Nat), [V.int a, V.int j, V.int c] = [V.int i', V.int j', V.int c'] ∧ RgC i' j' c' n' ∧ ∀ D, H1 D = none → ∃ W : Nat → Nat → Hp → Prop, (∃ m, W 0 m (upd H1 D (.lst []))) ∧ ∀ i m H, W i m H →
  ((Itc i' c' n').stop i H ∧ Qd D H) ∨ ((Itc i' c' n').go i H ∧ ∃ Nx : Hp → Prop, (∀ H', Nx H' → ∃ m', m' < m ∧ W (i + 1) m' H') ∧ ∀ x H', (Itc i' c' n').yld i H x H' → gName sl x (wipe σ vs) H' fun σ2 H2 => wipe σ2 vs = wipe σ vs ∧ tYes σ2 H2 fun b H3 =>
    if b = true then te σ2 H3 fun y H4 => ∃ acc, H4 D = some (.lst acc) ∧ acc.length < sizeLine ∧ Nx (upd H4 D (.lst (acc ++ [y]))) else Nx H3) := by
  refine ⟨a, j, c, n, rfl, hr, fun D hD => ?_⟩
  refine ⟨fun i m H2 => m = n - i ∧ i ≤ n ∧ Same H1 H2 ∧ H2 D = some (.lst ((List.range i).map f)), ⟨n, by simp, Nat.zero_le _, s_upd hD, upd_same⟩, ?_⟩
  rintro i m H2 ⟨rfl, hi, s2, hl⟩
  by_cases hlt : i < n
  · refine .inr ⟨hlt, fun H' => Same H1 H' ∧ H' D = some (.lst ((List.range (i + 1)).map f)), fun H' p' => ⟨n - (i + 1), by omega, rfl, hlt, p'.1, p'.2⟩, fun x H' y => ?_⟩
    obtain ⟨e, y⟩ := y
    subst e y
    refine ⟨hw _, i_t (B := Same H1 H' ∧ H' D = some (HO.lst ((List.range (i + 1)).map f))) ?_⟩
    refine (hs i _ hlt s2 _ fun H5 s5 => ⟨_, s5 _ _ hl, szl (by rw [List.length_map, List.length_range]; omega), s_mut (s2.trans s5) hD, ?_⟩)
    rw [List.range_succ, List.map_append]
    exact upd_same
  · have e : i = n := by omega
    subst e
    exact .inl ⟨Nat.le_refl _, hd D H2 hD s2 hl⟩
/-! instances -/
def fldP (K : PySem.W.Frag) (f : Str) : V → Hp → VK → Prop := fun x H1 Q => ∃ a C dx fs v, x = .ref a ∧ H1 a = some (.ins C dx fs) ∧ Cls K C ∧ NoAttr K C f ∧ fs.lookup f = some v ∧ Q v H1
theorem r_fld {H : Hp} {K : PySem.W.Frag} {Q : VK} {σ : L2.St} {ta : TE} {f : Str} (h : ta σ H fun x H1 => fldP K f x H1 Q) : tFld K ta f σ H Q := h
theorem r_fldP {H : Hp} {K : PySem.W.Frag} {Q : VK} {f : Str} {a C dx : Addr} {fs : List (Str × V)} {v : V} (h : H a = some (.ins C dx fs)) (c : Cls K C) (n : NoAttr K C f) (l : fs.lookup f = some v) (q : Q v H) : fldP K f (.ref a) H Q := ⟨a, C, dx, fs, v, rfl, h, c, n, l, q⟩
def setP (K : PySem.W.Frag) (f : Str) (y : V) : V → Hp → (Hp → Prop) → Prop := fun x H2 k => ∃ a C dx fs, x = .ref a ∧ H2 a = some (.ins C dx fs) ∧ Cls K C ∧ NoAttr K C f ∧ fs.length < 1000 ∧ k (upd H2 a (.ins C dx (putF f y fs)))
theorem r_sfld {D : Ends} {H : Hp} {K : PySem.W.Frag} {σ : L2.St} {ta tv : TE} {f : Str} (h : tv σ H fun y H1 => ta σ H1 fun x H2 => setP K f y x H2 fun H3 => D.nx σ H3) : sFld K ta tv f D σ H := h
theorem r_setP {H : Hp} {K : PySem.W.Frag} {f : Str} {y : V} {a C dx : Addr} {fs : List (Str × V)} {k : Hp → Prop} (h : H a = some (.ins C dx fs)) (c : Cls K C) (n : NoAttr K C f) (l : fs.length < 1000) (q : k (upd H a (.ins C dx (putF f y fs)))) : setP K f y (.ref a) H k := ⟨a, C, dx, fs, rfl, h, c, n, l, q⟩
theorem r_make {H : Hp} {Q : VK} {σ : L2.St} {C : Addr} {sp : Sp} {E : XK} {t : TA} (h : t σ H fun vs H1 => ∀ x dx, H1 x = none → H1 dx = none → dx ≠ x → sp (.ref x :: (vs ++ [])) (upd (upd H1 dx (.own x)) x (.ins C dx [])) (fun v H2 => v = .non ∧ Q (.ref x) H2) E) : tMake C sp [] E t σ H Q := h
def objP (C : Addr) (m : Str) : V → Hp → (Hp → Prop) → Prop := fun x H1 k => ∃ a dx fs, x = .ref a ∧ H1 a = some (.ins C dx fs) ∧ fs.lookup m = none ∧ k H1
theorem r_meth {H : Hp} {Q : VK} {σ : L2.St} {C : Addr} {m : Str} {sp : Sp} {E : XK} {ta : TE} {t : TA} (h : ta σ H fun x H1 => objP C m x H1 fun H1 => t σ H1 fun vs H2 => sp (x :: (vs ++ [])) H2 Q E) : tMeth C m sp [] E ta t σ H Q := h
theorem r_objP {H : Hp} {m : Str} {a C dx : Addr} {fs : List (Str × V)} {k : Hp → Prop} (h : H a = some (.ins C dx fs)) (l : fs.lookup m = none) (q : k H) : objP C m (.ref a) H k := ⟨a, dx, fs, rfl, h, l, q⟩
theorem look_1 {f : Str} {v : V} {r : List (Str × V)} : List.lookup f ((f, v) :: r) = some v := by simp [List.lookup]
theorem look_s {f g : Str} {v : V} {r : List (Str × V)} (h : ¬ f = g) : List.lookup f ((g, v) :: r) = List.lookup f r := by
  have e : (f == g) = false := by simp [h]
  simp [List.lookup, e]
theorem look_0 {f : Str} : List.lookup f ([] : List (Str × V)) = none := rfl
theorem put_s {f g : Str} {v x : V} {r : List (Str × V)} (h : ¬ g = f) : putF f v ((g, x) :: r) = (g, x) :: putF f v r := if_neg h
theorem put_1 {f : Str} {v x : V} {r : List (Str × V)} : putF f v ((f, x) :: r) = (f, v) :: r := if_pos rfl
theorem put_0 {f : Str} {v : V} : putF f v [] = [(f, v)] := rfl
theorem cut_mid {xs : List V} {a b : Nat} (h : a ≤ b) : cutV xs (some (a : Int)) (some (b : Int)) = (xs.drop a).take (b - a) := by
  unfold cutV
  rw [HT.sIx_nat, HT.sIx_nat]
  by_cases h1 : b ≤ xs.length
  · rw [Nat.min_eq_left h1, Nat.min_eq_left (by omega)]
  · by_cases h2 : a ≤ xs.length
    · rw [Nat.min_eq_right (by omega), Nat.min_eq_left h2, List.take_of_length_le (by rw [List.length_drop]; omega), List.take_of_length_le (by rw [List.length_drop]; omega)]
    · rw [Nat.min_eq_right (by omega), Nat.min_eq_right (by omega), List.drop_length, List.drop_of_length_le (by omega)]
      simp
theorem c_pow {i j : Int} (h0 : 0 ≤ j) (h1 : j ≤ 1000000) (h2 : i.natAbs < 2 ^ 64) : CPow i j := ⟨h0, h1, h2⟩
theorem c_mulR {i j : Int} (h0 : -18446744073709551616 < j) (h1 : j < 18446744073709551616) : CMul i j := .inr ⟨h0, h1⟩
theorem c_mulL {i j : Int} (h0 : -18446744073709551616 < i) (h1 : i < 18446744073709551616) : CMul i j := .inl ⟨h0, h1⟩
theorem c_div {i j : Int} (h0 : 0 < j) (h1 : j < 1073741824) : CDiv i j := ⟨h0, h1⟩
theorem r_cut {D : Ends} {H : Hp} {σ : L2.St} {t u : TS} (Mid : L2.St → Hp → Prop) (h : t { D with nx := Mid } σ H) (k : ∀ σ' H', Mid σ' H' → u D σ' H') : C8.tCut t u D σ H := ⟨Mid, h, k⟩
theorem cut_to {xs : List V} {k : Nat} : cutV xs none (some (k : Int)) = xs.take k := by
  unfold cutV
  rw [HT.sIx_none, HT.sIx_nat, List.drop_zero, Nat.sub_zero]
  by_cases h : k ≤ xs.length
  · rw [Nat.min_eq_left h]
  · rw [Nat.min_eq_right (by omega), List.take_length, List.take_of_length_le (by omega)]
theorem cut_all {xs : List V} {k : Nat} (h : xs.length ≤ k) : cutV xs none (some (k : Int)) = xs := by
  rw [cut_to, List.take_of_length_le h]
theorem len4 {ns : List Int} (h : ns.length = 4) : ∃ a b c d, ns = [a, b, c, d] := by
  match ns, h with
  | [a, b, c, d], _ => exact ⟨a, b, c, d, rfl⟩
theorem len3 {ns : List Int} (h : ns.length = 3) : ∃ a b c, ns = [a, b, c] := by
  match ns, h with
  | [a, b, c], _ => exact ⟨a, b, c, rfl⟩
theorem len2 {ns : List Int} (h : ns.length = 2) : ∃ a b, ns = [a, b] := by
  match ns, h with
  | [a, b], _ => exact ⟨a, b, rfl⟩
theorem len7 {ns : List Int} (h : ns.length = 7) : ∃ a b c d e f g, ns = [a, b, c, d, e, f, g] := by
  match ns, h with
  | [a, b, c, d, e, f, g], _ => exact ⟨a, b, c, d, e, f, g, rfl⟩
theorem len6 {ns : List Int} (h : ns.length = 6) : ∃ a b c d e f, ns = [a, b, c, d, e, f] := by
  match ns, h with
  | [a, b, c, d, e, f], _ => exact ⟨a, b, c, d, e, f, rfl⟩
theorem r_take {K : PySem.W.Frag} {H : Hp} {Q : VK} {a : Addr} {ns : List Int} {k : Int} (n : Nat) (hk : k = (n : Int)) (h : SqL K H a (ns.map V.int)) (q : ∀ p H1, H p = none → Same H H1 → H1 p = some (.lst ((ns.take n).map V.int)) → Q (.ref p) H1) : rSlL K (.ref a) none (some k) H Q := by
  subst hk
  refine ⟨a, ns.map V.int, rfl, h, fun p hp => ?_⟩
  rw [cut_to, ← List.map_take]
  exact q p _ hp (s_upd hp) upd_same
/-- the script's first items: the whole of it -/
theorem r_script {K : PySem.W.Frag} {H : Hp} {Q : VK} {a : Addr} {ns : List Int} {k : Int} (hk : 63 ≤ k) (h : SqL K H a (ns.map V.int)) (hn : ns.length ≤ 63) (q : ∀ p H1, H p = none → Same H H1 → H1 p = some (.lst (ns.map V.int)) → Q (.ref p) H1) : rSlL K (.ref a) none (some k) H Q := by
  refine ⟨a, ns.map V.int, rfl, h, fun p hp => ?_⟩
  have e : k = ((k.toNat : Nat) : Int) := by omega
  rw [e, cut_all (by rw [List.length_map]; omega)]
  exact q p _ hp (s_upd hp) upd_same
/-! list facts -/
theorem at_map {ns : List Int} {i : Int} {j : Nat} {n : Int} (e : i = (j : Int)) (h : ns[j]? = some n) : atI (ns.map V.int) i = some (.int n) := by
  subst e
  exact atI_nat (by rw [List.getElem?_map, h]; rfl)
theorem at_lt {α : Type} {xs : List α} {i : Int} {j : Nat} (e : i = (j : Int)) (h : j < xs.length) : atI xs i = some xs[j] := by
  subst e
  exact atI_nat (List.getElem?_eq_getElem h)
theorem get_map {ns : List Int} {i : Nat} {x : V} (h : (ns.map V.int)[i]? = some x) : ∃ n, ns[i]? = some n ∧ x = .int n := by
  rw [List.getElem?_map] at h
  cases e : ns[i]? with
  | none => rw [e] at h; cases h
  | some z => rw [e] at h; exact ⟨z, rfl, (Option.some.inj h).symm⟩
theorem flat_ints (ns : List Int) : (ns.map V.int).all flatV = true := by
  rw [List.all_eq_true]; intro v hv; obtain ⟨n, _, rfl⟩ := List.mem_map.mp hv; rfl
theorem inV_ints (n : Int) (ns : List Int) : inV (.int n) (ns.map V.int) = dB (n ∈ ns) := by
  unfold inV
  induction ns with
  | nil => rw [dB_f (by simp)]; rfl
  | cons m r ih =>
    rw [List.map_cons, List.any_cons, ih]
    show ((m == n) || dB (n ∈ r)) = _
    by_cases h : m = n
    · subst h; rw [dB_t (List.mem_cons_self ..)]; simp
    · by_cases h2 : n ∈ r
      · rw [dB_t h2, dB_t (List.mem_cons_of_mem _ h2)]; simp
      · rw [dB_f h2, dB_f (fun z => by rcases List.mem_cons.mp z with z | z; exact h z.symm; exact h2 z)]; simp [h]
theorem r_inI {K : PySem.W.Frag} {H : Hp} {Q : VK} {p : Addr} {ns : List Int} {n : Int} (h : SqL K H p (ns.map V.int)) (q : Q (.bl (dB (n ∈ ns))) H) : rIn K false (.int n) (.ref p) H Q :=
  ⟨p, ns.map V.int, rfl, .inl h, rfl, flat_ints ns, by rw [inV_ints]; exact q⟩
theorem cut_from {xs : List V} {k : Nat} : cutV xs (some (k : Int)) none = xs.drop k := by
  unfold cutV
  rw [HT.sIx_none, HT.sIx_nat]
  by_cases h : k ≤ xs.length
  · rw [Nat.min_eq_left h, List.take_of_length_le (by rw [List.length_drop]; omega)]
  · rw [Nat.min_eq_right (by omega), List.drop_length, List.drop_of_length_le (by omega)]; simp
/-! any of ints -/
def rAnyI (K : PySem.W.Frag) : List V → Hp → VK → Prop := fun vs H Q => ∃ (a : Addr) (ns : List Int), vs = [V.ref a] ∧ SqL K H a (ns.map V.int) ∧ Q (.bl (ns.any (· != 0))) H
theorem truth_ints {prog : Program} {w : World} {A : Around} {ns : List Int} {its : List Value} (r : Vals (ns.map V.int) its) :
    TruthOf prog w A (fun i v => its.toArray[i]? = some v) (fun i => (ns.map (· != 0)).getD i false) := fun i v s Q E hv hq => by
  have hv' : its[i]? = some v := by simpa using hv
  have hl := r.length
  have hi : i < ns.length := by
    have := (List.getElem?_eq_some_iff.mp hv').1
    rw [List.length_map] at hl
    omega
  obtain ⟨u, hu, ru⟩ := r.get (i := i) (x := .int ns[i]) (by rw [List.getElem?_map, List.getElem?_eq_getElem hi]; rfl)
  rw [hv'] at hu
  cases hu
  obtain ⟨t, rfl⟩ := ru
  have hg : (ns.map (· != 0)).getD i false = (ns[i] != 0) := by rw [List.getD_eq_getElem?_getD, List.getElem?_map, List.getElem?_eq_getElem hi]; rfl
  have hq' : Q ((ns.map (· != 0)).getD i false) s := hq
  rw [hg] at hq'
  exact truthy_int hq'
theorem cr_anyI {X : Cx} (hc : X.calm = true) : CallR X (.builtin "any") (rAnyI X.K) := by
  intro pins s σ H vs us Q I r h
  obtain ⟨a, ns, rfl, hs, q⟩ := h
  obtain ⟨its, rv, hl, _⟩ := I.list hs
  rw [Vals.ref1 r]
  have hlen := rv.length
  rw [List.length_map] at hlen
  refine call_any_walk (iter_any hl.isList fun s₂ e2 st hne => ?_)
  subst e2
  refine ⟨_, _, _, _, _, _, _, rfl, Walks.list (A := X.A.in1) (I.ok.hd hc) _ a hne its.toArray, st, truth_ints rv, fun h' tk hk => ?_⟩
  refine ⟨.bl _, H, I.kept fun b o eo => hk b o (fun hmem => ?_) (Heap.get?_push_of_some _ eo), ?_, q⟩
  · rcases List.mem_cons.mp hmem with e1 | hmem
    · exact absurd (e1 ▸ Heap.lt_size eo) (Nat.lt_irrefl _)
    · cases hmem
  · show Value.bool _ = Value.bool _
    have e := L2.any_range (ns.map (· != 0))
    rw [List.any_map, List.length_map] at e
    rw [List.size_toArray, ← hlen, e]; rfl
theorem r_anyI {K : PySem.W.Frag} {H : Hp} {Q : VK} {a : Addr} {ns : List Int} (h : SqL K H a (ns.map V.int)) (q : Q (.bl (ns.any (· != 0))) H) : rAnyI K [.ref a] H Q := ⟨a, ns, rfl, h, q⟩
theorem r_isB {i j : Bool} {H : Hp} {Q : VK} (q : Q (.bl (dB (i = j))) H) : rIsB (.bl i) (.bl j) H Q := ⟨i, j, rfl, rfl, q⟩
theorem r_notB {i j : Bool} {H : Hp} {Q : VK} (q : Q (.bl (!dB (i = j))) H) : rNotB (.bl i) (.bl j) H Q := ⟨i, j, rfl, rfl, q⟩
theorem r_neL {H : Hp} {K : PySem.W.Frag} {Q : VK} {a b : Addr} {ns : List Int} (ha : SqL K H a (ns.map V.int)) (hb : SqL K H b (ns.map V.int)) (q : Q (.bl false) H) : rNeD K (.ref a) (.ref b) H Q :=
  ⟨_, _, .lst ha (dp_ints ns), .lst hb (dp_ints ns), shaped_ints ns, shaped_ints ns, by rw [eqv_ints]; exact q⟩
/-! ## what the top has written -/
def valsOk (us : Array Value) (xs : List V) : Bool := decide (us.size ≤ 100000) && decide (us.toList.mapM absV = some xs)
theorem rel_of {u : Value} {x : V} (h : absV u = some x) : RelV x u := by
  cases u <;> first | (cases h; rfl) | (cases h; exact ⟨_, rfl⟩) | (cases h)
theorem vals_of : ∀ {us : List Value} {xs : List V}, us.mapM absV = some xs → Vals xs us
  | [], xs, h => by
    have e : some [] = some xs := h
    cases e; exact .nil
  | u :: us, xs, h => by
    rw [List.mapM_cons] at h
    cases e1 : absV u with
    | none => rw [e1] at h; cases h
    | some x =>
      cases e2 : us.mapM absV with
      | none => rw [e1, e2] at h; cases h
      | some ys =>
        rw [e1, e2] at h
        have e : some (x :: ys) = some xs := h
        cases e
        exact .cons (rel_of e1) (vals_of e2)
theorem sqt_of {K : PySem.W.Frag} {H : Hp} {A : Addr} {dd : Option Addr} {its : Array Value} {n : Nat} {ss : Array (Option Value)} {xs : List V}
    (lk : K.lookup A = some ⟨.type "tuple", dd, .seq its n, ss⟩) (h : valsOk its xs = true) : SqT K H A xs := by
  unfold valsOk at h
  rw [Bool.and_eq_true] at h
  exact .inr ⟨_, its, n, lk, rfl, rfl, sz (of_decide_eq_true h.1), vals_of (of_decide_eq_true h.2)⟩
end Z

namespace Z
open PySem PySem.Spec PyProof.Rows L2
/-! ## numbers in base 2 -/
def binS (n : Nat) : Str := ⟨((Nat.toDigits 2 n).map Char.toNat).toArray⟩
def pc : Nat → Nat → Nat
  | 0, _ => 0
  | k + 1, n => n % 2 + pc k (n / 2)
theorem pc_zero : ∀ k, pc k 0 = 0
  | 0 => rfl
  | k + 1 => by show 0 % 2 + pc k (0 / 2) = 0; rw [Nat.zero_mod, Nat.zero_div, pc_zero k]
theorem core_ne : ∀ (f n : Nat) (ds : List Char), 0 < f → Nat.toDigitsCore 2 f n ds ≠ []
  | f + 1, n, ds, _ => by
    unfold Nat.toDigitsCore
    by_cases h : n / 2 = 0
    · simp only [h, if_true]; exact fun z => nomatch z
    · simp only [h, if_false]
      by_cases hf : f = 0
      · subst hf; unfold Nat.toDigitsCore; exact fun z => nomatch z
      · exact core_ne f _ _ (by omega)
theorem core_len : ∀ (f n : Nat) (ds : List Char), (Nat.toDigitsCore 2 f n ds).length ≤ ds.length + f
  | 0, n, ds => by simp [Nat.toDigitsCore]
  | f + 1, n, ds => by
    unfold Nat.toDigitsCore
    by_cases h : n / 2 = 0
    · simp only [h, if_true, List.length_cons]; omega
    · simp only [h, if_false]
      have := core_len f (n / 2) (Nat.digitChar (n % 2) :: ds)
      simp only [List.length_cons] at this
      omega
theorem core_pow : ∀ (k f n : Nat) (ds : List Char), 1 ≤ k → n < 2 ^ k → (Nat.toDigitsCore 2 f n ds).length ≤ ds.length + k
  | _, 0, _, ds, _, _ => by simp [Nat.toDigitsCore]
  | k, f + 1, n, ds, hk, hn => by
    unfold Nat.toDigitsCore
    by_cases h : n / 2 = 0
    · simp only [h, if_true, List.length_cons]; omega
    · simp only [h, if_false]
      have hk2 : 2 ≤ k := by
        by_cases h1 : k = 1
        · subst h1; omega
        · omega
      obtain ⟨j, rfl⟩ : ∃ j, k = j + 1 := ⟨k - 1, by omega⟩
      have hn' : n / 2 < 2 ^ j := by rw [Nat.pow_succ] at hn; omega
      have ih := core_pow j f (n / 2) (Nat.digitChar (n % 2) :: ds) (by omega) hn'
      simp only [List.length_cons] at ih
      omega
theorem digit_one (n : Nat) : (if ((Nat.digitChar (n % 2)).toNat == 49) = true then 1 else 0) = n % 2 := by
  rcases Nat.mod_two_eq_zero_or_one n with h | h <;> rw [h] <;> rfl
theorem core_pc : ∀ (k f n : Nat) (ds : List Char), n < f → n < 2 ^ k → ((Nat.toDigitsCore 2 f n ds).map Char.toNat).count 49 = pc k n + (ds.map Char.toNat).count 49
  | k, f + 1, n, ds, hf, hk => by
    unfold Nat.toDigitsCore
    have hd := digit_one n
    have hc : ((Nat.digitChar (n % 2) :: ds).map Char.toNat).count 49 = n % 2 + (ds.map Char.toNat).count 49 := by
      rw [List.map_cons, List.count_cons, hd, Nat.add_comm]
    by_cases h : n / 2 = 0
    · simp only [h, if_true]
      rw [hc]
      match k, hk with
      | 0, hk => have : n = 0 := by simpa using hk
                 subst this; rfl
      | k + 1, _ => show _ = n % 2 + pc k (n / 2) + _; rw [h, pc_zero, Nat.add_zero]
    · simp only [h, if_false]
      match k, hk with
      | 0, hk => have : n = 0 := by simpa using hk
                 omega
      | k + 1, hk =>
        rw [core_pc k f (n / 2) _ (by omega) (by rw [Nat.pow_succ] at hk; omega), hc]
        show _ = n % 2 + pc k (n / 2) + _
        omega
theorem binS_count {k n : Nat} (hk : n < 2 ^ k) : (binS n).cps.toList.count 49 = pc k n := by
  show ((Nat.toDigitsCore 2 (n + 1) n []).map Char.toNat).count 49 = _
  rw [core_pc k (n + 1) n [] (by omega) hk]; rfl
theorem binS_len {k n : Nat} (h1 : 1 ≤ k) (hk : n < 2 ^ k) : (binS n).length ≤ k := by
  show ((Nat.toDigitsCore 2 (n + 1) n []).map Char.toNat).toArray.size ≤ k
  rw [List.size_toArray, List.length_map]
  have := core_pow k (n + 1) n [] h1 hk
  simpa using this
/-! one sign counted -/
theorem occ_one (s sub : Str) (hi limit : Nat) (h1 : sub.length = 1) : ∀ (n a : Nat) (st : Array Nat × Nat), st.2 ≤ a → st.1.size + n ≤ limit →
    (forIn (List.range' a n) st (StrLaws.occBody s sub hi limit)).run.fst.size = st.1.size + ((List.range' a n).filter fun i => decide (i + 1 ≤ hi) && Builtin.Str.subAt s sub i).length
  | 0, a, st, _, _ => by simp
  | n + 1, a, st, h2, h3 => by
    rw [List.range'_succ, List.forIn_cons]
    by_cases hc : a + 1 ≤ hi ∧ Builtin.Str.subAt s sub a = true
    · have c1 : ((st.fst.size < limit ∧ st.snd ≤ a) ∧ a + 1 ≤ hi) ∧ Builtin.Str.subAt s sub a = true := ⟨⟨⟨by omega, h2⟩, hc.1⟩, hc.2⟩
      have hb : StrLaws.occBody s sub hi limit a st = pure (ForInStep.yield (st.fst.push a, a + 1)) := by unfold StrLaws.occBody; rw [h1, if_pos c1]
      rw [hb, List.filter_cons, if_pos (by rw [decide_eq_true hc.1, hc.2]; rfl)]
      have ih := occ_one s sub hi limit h1 n (a + 1) (st.fst.push a, a + 1) (Nat.le_refl _) (by simp only [Array.size_push]; omega)
      simp only [Array.size_push] at ih
      show (forIn (List.range' (a + 1) n) (st.fst.push a, a + 1) (StrLaws.occBody s sub hi limit)).run.fst.size = _
      rw [ih, List.length_cons]; omega
    · have c1 : ¬ (((st.fst.size < limit ∧ st.snd ≤ a) ∧ a + 1 ≤ hi) ∧ Builtin.Str.subAt s sub a = true) := fun z => hc ⟨z.1.2, z.2⟩
      have c2 : ¬ ((decide (a + 1 ≤ hi) && Builtin.Str.subAt s sub a) = true) := fun z => by
        rw [Bool.and_eq_true, decide_eq_true_eq] at z; exact hc z
      have hb : StrLaws.occBody s sub hi limit a st = pure (ForInStep.yield (st.fst, st.snd)) := by unfold StrLaws.occBody; rw [h1, if_neg c1]
      rw [hb, List.filter_cons, if_neg c2]
      exact occ_one s sub hi limit h1 n (a + 1) st (by omega) (by omega)
theorem filter_count (l : List Nat) (c : Nat) : ((List.range' 0 l.length).filter fun i => decide (l[i]? = some c)).length = l.count c := by
  induction l with
  | nil => rfl
  | cons x l ih =>
    rw [List.length_cons, List.range'_succ, List.filter_cons, List.count_cons]
    have e : ((List.range' (0 + 1) l.length).filter fun i => decide ((x :: l)[i]? = some c)).length = ((List.range' 0 l.length).filter fun i => decide (l[i]? = some c)).length := by
      rw [List.range'_eq_map_range, List.range'_eq_map_range, List.filter_map, List.filter_map, List.length_map, List.length_map]
      congr 1
      refine List.filter_congr fun i _ => ?_
      show decide ((x :: l)[0 + 1 + i]? = some c) = decide (l[0 + i]? = some c)
      rw [show 0 + 1 + i = (0 + i) + 1 by omega, List.getElem?_cons_succ]
    by_cases h : x = c
    · subst h
      rw [if_pos (by simp), List.length_cons, e, ih]; simp
    · rw [if_neg (by simpa using h), e, ih]; simp [h]
theorem sub_one (s : Str) (c i : Nat) (h : i < s.length) : Builtin.Str.subAt s ⟨#[c]⟩ i = decide (s.cps.toList[i]? = some c) := by
  unfold Builtin.Str.subAt
  have hl : i < s.cps.size := h
  have e : s.cps.extract i (i + Str.length ⟨#[c]⟩) = #[s.cps[i]] := by
    apply Array.ext
    · simp [Str.length]; omega
    · intro j h1 h2
      simp at h2
      subst h2
      simp
  rw [e]
  rw [Array.getElem?_toList, Array.getElem?_eq_getElem hl]
  by_cases h2 : s.cps[i] = c
  · subst h2; simp
  · simp [h2]
theorem count_one (s : Str) (c : Nat) : Txt.count s ⟨#[c]⟩ = (s.cps.toList.count c : Nat) := by
  show (((Builtin.Str.occurrences s ⟨#[c]⟩ 0 s.length (s.length + 1)).length : Nat) : Int) = _
  congr 1
  rw [StrLaws.occ_eq, Array.length_toList, occ_one s ⟨#[c]⟩ s.length (s.length + 1) rfl (s.length + 1 - 0) 0 (#[], 0) (Nat.le_refl _) (by simp)]
  rw [← filter_count]
  have e0 : s.cps.toList.length = s.length := by simp [Str.length]
  rw [e0, show s.length + 1 - 0 = s.length + 1 by omega, List.range'_concat, List.filter_append]
  have e1 : ((List.range' 0 s.length).filter fun i => decide (i + 1 ≤ s.length) && Builtin.Str.subAt s ⟨#[c]⟩ i) = (List.range' 0 s.length).filter fun i => decide (s.cps.toList[i]? = some c) := by
    refine List.filter_congr fun i hi => ?_
    have hi2 : i < s.length := by have := List.mem_range'_1.mp hi; omega
    rw [decide_eq_true (by omega : i + 1 ≤ s.length), Bool.true_and, sub_one s c i hi2]
  rw [e1]
  have e2 : ([0 + 1 * s.length].filter fun i => decide (i + 1 ≤ s.length) && Builtin.Str.subAt s ⟨#[c]⟩ i) = [] := by
    rw [List.filter_cons, if_neg (by rw [decide_eq_false (by omega)]; simp)]; rfl
  rw [e2]; simp

theorem bin_digits_ne (n : Nat) : ((Nat.toDigits 2 n).map fun c => (if (98 : Nat) == 88 then c.toUpper else c).toNat).isEmpty = false := by
  have := core_ne (n + 1) n [] (by omega)
  cases h : Nat.toDigits 2 n with
  | nil => exact absurd h this
  | cons _ _ => rfl
theorem fmt_field {f : Builtin.Float.FormatSpec} (n : Nat) (hf : f.fill = 32) (ha : f.align = 62) (hs : f.sign = none) (hw : f.width = none) (hg : f.grouping = none) :
    intField' f (decide ((n : Int) < 0)) [] ((Nat.toDigits 2 n).map fun c => (if (98 : Nat) == 88 then c.toUpper else c).toNat) [] 4 = binS n := by
  rw [decide_eq_false (by omega)]
  unfold intField' binS
  simp only [hf, ha, hs, hw, hg, bin_digits_ne]
  simp
end Z
namespace Z
open PySem PySem.Spec PyProof.Rows L2
open Builtin Float
def fb : FormatSpec := { align := 62, type := some 98 }
theorem fmt_b0 {prog : Program} {w : World} {A : Around} {E : Value → Shared → Prop} {s : Shared} {a : Int} {t : Tok} {spec T : Str} {f : FormatSpec} {Q : Value → Shared → Prop} (hf : f = fb)
    (hp : parseFormatSpec spec.cps.toList "int" 62 = .ok f)
    (hne : (spec.length == 0) = false)
    (hasc : ((spec.cps.toList.drop 1).any (· ≥ 128) || (spec.cps.getD 0 0 ≥ 128 && !([60, 62, 61, 94] : List Nat).contains (spec.cps.getD 1 0))) = false)
    (hT : intField' fb (decide (a < 0)) [] ((Nat.toDigits 2 a.natAbs).map fun c => (if (98 : Nat) == 88 then c.toUpper else c).toNat) [] 4 = T) (hlen : T.length ≤ sizeLine)
    (h : ∀ t' k, Q (.str T t') { s with toks := k }) (hsz : spec.length ≤ sizeLine) :
    wpAny (model prog w) A (formatField (.int a t) spec) Q E s := by
  have hty : f.type.getD (if spec.cps.back? == some 0 then 0 else 100) = 98 := by rw [hf]; rfl
  have hpr : f.precision = none := by rw [hf]; rfl
  have hz : f.noNeg0 = false := by rw [hf]; rfl
  have hal : f.alt = false := by rw [hf]; rfl
  have hw : f.width.getD 0 ≤ 100000 := by rw [hf]; decide
  show wpAny _ _ (holding [.int a t] (pyFormat (.int a t) spec)) Q E s
  refine wpAny_holding ?_
  unfold pyFormat
  refine wpAny_bind (wpAny_mkStr ?_ hsz)
  refine wpAny_bind (m := callSpecial? (.int a t) (Str.ofString "__format__") [.str spec s.toks]) (wpAny_callSpecial?_slot (name := Str.ofString "__format__") (typeIs_int _ a t) F.slot_int_format ?_)
  refine wpAny_call (codeAny_call_builtin F.slot_int_format.plain F.entry_int_format (F.slot_int_format.check _ _ _ _ _ _ _ _ (typeIs_int _ a t) (F.args_int_format_2 _ _) ?_))
  unfold Builtin.«int.__format__»
  simp only [selfAndOne, noKeywords, Int.intOfSelf, asInt?, asStr?, List.isEmpty_nil, if_true, pure_bind, bind_pure, bind_assoc, hne, hasc, Bool.false_eq_true, if_false,
    show (Value.str spec s.toks == Value.none) = false from rfl]
  refine wpAny_bind (wpAny_typeNameOf (T := "str") (typeIs_str _ _ _) (by decide) fun _ => ?_)
  refine wpAny_bind (wpAny_typeNameOfCut_int ?_)
  simp only [hp, hty]
  rw [if_pos (by decide)]
  show wpAny _ _ (if _ then _ else _) _ _ _
  rw [if_neg (by simp [hpr])]
  show wpAny _ _ (if _ then _ else _) _ _ _
  rw [if_neg (by simp [hz])]
  show wpAny _ _ (if _ then _ else _) _ _ _
  rw [if_neg (by decide)]
  show wpAny _ _ (if _ then _ else _) _ _ _
  have hw' : ¬ (f.width.getD 0 > 100000) := by omega
  rw [if_neg (by decide)]
  show wpAny _ _ (if _ then _ else _) _ _ _
  rw [if_neg (by simpa using hw')]
  show wpAny _ _ (retStr _) _ _ _
  have key : ∀ X, X = T → ∀ (A : Around) (Q' : Fin → Shared → Prop) (E' : Value → Shared → Prop) (s' : Shared), (∀ t k, Q' (.done (.ret (.str T t))) { s' with toks := k }) → wpAny (model prog w) A (retStr X) Q' E' s' :=
    fun X e A Q' E' s' hq => PySem.W.KXf.ret_text e (by rw [e]; exact hlen) hq
  refine key _ ?_ _ _ _ _ fun t' k => ?_
  · rw [hal, if_neg Bool.false_ne_true, if_neg (by decide)]
    subst hf
    exact hT
  · exact wpAny_bind (wpAny_isInstance (typeIs_str _ _ _) isSubtype_str_str (wpAny_pure (h t' k)))

theorem fmt_b {prog : Program} {w : World} {A : Around} {E : Value → Shared → Prop} {s : Shared} {Q : Value → Shared → Prop} {n : Nat} {t : Tok} (hn : n < 2 ^ 40)
    (h : ∀ t' k, Q (.str (binS n) t') { s with toks := k }) : wpAny (model prog w) A (formatField (.int (n : Int) t) "b") Q E s := by
  refine fmt_b0 (T := binS n) (f := fb) rfl (by rfl) (by decide) (by decide +kernel) ?_ (Nat.le_trans (binS_len (by decide) hn) (by decide)) h (by decide)
  exact fmt_field n rfl rfl rfl rfl rfl
end Z
namespace Z
open PySem PySem.Spec PyProof.Rows L2
/-- f'{e:b}' -/
def tFb (te : TE) : TE := fun σ H Q => te σ H fun x H1 => ∃ n : Nat, x = .int (n : Int) ∧ n < 2 ^ 40 ∧ Q (.str (binS n)) H1
theorem pe_fmtb {X : Cx} {e : Expr} {te : TE} {pos p1 p2 p3 : Pos} {k : Nat} (he : PE X e te) : PE X (.JoinedStr [.FormattedValue e (-1) (some (.JoinedStr [.Constant (.str "b") k p1] p2)) p3] pos) (tFb te) := ⟨fun pins s σ H Q I h => by
  refine JoinedStr_one (wpAny_FormattedValue_spec (thn (he.run pins s σ H _ I h) fun v s1 ⟨x, H1, I1, rx, n, ex, hn, q⟩ => ?_))
  subst ex
  obtain ⟨t, rfl⟩ := rx
  refine JoinedStr_one (Calls.Constant_str ⟨_, _, rfl, ?_⟩)
  exact fmt_b hn fun t' k => ⟨.str (binS n), H1, I1.tok _, ⟨_, rfl⟩, q⟩⟩
theorem r_fb {te : TE} {σ : L2.St} {H : Hp} {Q : VK} (h : te σ H fun x H1 => ∃ n : Nat, x = .int (n : Int) ∧ n < 2 ^ 40 ∧ Q (.str (binS n)) H1) : tFb te σ H Q := h
theorem r_m1 {r : V → List V → Hp → VK → Prop} {to te : TE} {σ : L2.St} {H : Hp} {Q : VK} (h : to σ H fun x H1 => (∃ a, x = .str a) ∧ te σ H1 fun y H2 => r x [y] H2 Q) : tM1 r to te σ H Q := h
theorem r_cnt1 {H : Hp} {Q : VK} {s : Str} (q : Q (.int (s.cps.toList.count 49 : Nat)) H) : ∃ a b, V.str s = .str a ∧ [V.str "1"] = [.str b] ∧ Q (.int (Txt.count a b)) H :=
  ⟨s, "1", rfl, rfl, by rw [show ("1" : Str) = ⟨#[49]⟩ by rfl, count_one]; exact q⟩
def blN (n : Nat) : Nat := if n = 0 then 0 else n.log2 + 1
theorem bits_nat (n : Nat) : Builtin.Int.intBits (n : Int) = blN n := by
  unfold Builtin.Int.intBits blN
  by_cases h : n = 0
  · subst h; rfl
  · rw [if_neg h, if_neg (by simp; omega)]; rfl
theorem r_bits {te : TE} {σ : L2.St} {H : Hp} {Q : VK} (h : te σ H fun x H1 => ∃ i, x = .int i ∧ Q (.int (Builtin.Int.intBits i : Nat)) H1) : tBits te σ H Q := h
theorem r_bitsI {n : Nat} {H : Hp} {Q : VK} (q : Q (.int (blN n : Nat)) H) : ∃ i, V.int (n : Int) = .int i ∧ Q (.int (Builtin.Int.intBits i : Nat)) H := ⟨n, rfl, by rw [bits_nat]; exact q⟩
theorem r_min2 {i j : Int} {H : Hp} {Q : VK} (q : Q (.int (if j < i then j else i)) H) : ∃ i' j', [V.int i, V.int j] = [V.int i', V.int j'] ∧ Q (.int (if j' < i' then j' else i')) H := ⟨i, j, rfl, q⟩
/-! bits counted -/
theorem pc_xor : ∀ (k a b : Nat), pc k (a ^^^ b) ≤ pc k a + pc k b
  | 0, _, _ => Nat.le_refl _
  | k + 1, a, b => by
    have e : (a ^^^ b) / 2 = a / 2 ^^^ b / 2 := by
      have := Nat.shiftRight_xor_distrib (a := a) (b := b) (i := 1)
      simpa [Nat.shiftRight_eq_div_pow] using this
    have ih := pc_xor k (a / 2) (b / 2)
    have hx := @Nat.xor_mod_two_eq_one a b
    have h1 := Nat.mod_two_eq_zero_or_one a
    have h2 := Nat.mod_two_eq_zero_or_one b
    have h3 := Nat.mod_two_eq_zero_or_one (a ^^^ b)
    show (a ^^^ b) % 2 + pc k ((a ^^^ b) / 2) ≤ (a % 2 + pc k (a / 2)) + (b % 2 + pc k (b / 2))
    rw [e]
    generalize (a ^^^ b) % 2 = z at *
    generalize a % 2 = x at *
    generalize b % 2 = y at *
    generalize pc k (a / 2 ^^^ b / 2) = u at *
    omega
theorem pc_tri (k a b c : Nat) : pc k (a ^^^ c) ≤ pc k (a ^^^ b) + pc k (b ^^^ c) := by
  have := pc_xor k (a ^^^ b) (b ^^^ c)
  rw [Nat.xor_assoc, ← Nat.xor_assoc b b c, Nat.xor_self, Nat.zero_xor] at this
  exact this
def farK (x : Nat) : Nat → Nat
  | 0 => 0
  | k + 1 => farK x k + (x >>> k) % 2
theorem farK_half (x : Nat) : ∀ k, farK x (k + 1) = x % 2 + farK (x / 2) k
  | 0 => by show 0 + (x >>> 0) % 2 = x % 2 + 0; simp
  | k + 1 => by
    have e : x >>> (k + 1) = (x / 2) >>> k := by
      rw [Nat.shiftRight_eq_div_pow, Nat.shiftRight_eq_div_pow, Nat.div_div_eq_div_mul, Nat.pow_succ, Nat.mul_comm]
    show farK x (k + 1) + (x >>> (k + 1)) % 2 = x % 2 + (farK (x / 2) k + ((x / 2) >>> k) % 2)
    rw [farK_half x k, e]; omega
theorem farK_pc : ∀ (k x : Nat), farK x k = pc k x
  | 0, _ => rfl
  | k + 1, x => by
    rw [farK_half, farK_pc k (x / 2)]; rfl
theorem r_while {c : TT} {tb : TS} {D : Ends} {σ : L2.St} {H : Hp} (W : Nat → L2.St → Hp → Prop) (m : Nat) (h0 : W m σ H)
    (hs : ∀ m σ H, W m σ H → c σ H fun b H1 => if b = true then ∃ N : L2.St → Hp → Prop, (∀ σ' H', N σ' H' → ∃ m', m' < m ∧ W m' σ' H') ∧ tb { D with nx := N, ct := N, bk := D.nx } σ H1 else D.nx σ H1) : tWhile c tb D σ H := ⟨W, ⟨m, h0⟩, hs⟩
end Z

/-! ## the words: wtm_at "1" one step, "r" steps as far as they go, "h" a heap fact, "s" a side condition, "n" two addresses apart, "m" all that was tracked is as it was -/
local macro_rules | `(tactic| wtm_at "s") => `(tactic| first
  | (with_reducible assumption)
  | ((with_reducible refine Z.c_div ?_ ?_) <;> first | omega | decide)
  | ((with_reducible refine Z.c_mulR ?_ ?_) <;> first | omega | decide)
  | ((with_reducible refine Z.c_mulL ?_ ?_) <;> first | omega | decide)
  | ((with_reducible refine Z.c_pow ?_ ?_ ?_) <;> first | omega | decide)
  | omega | decide)
local macro_rules | `(tactic| wtm_at "n") => `(tactic| first
  | assumption | exact Ne.symm (by assumption)
  | exact Z.ne_of' (by assumption) (by wtm_at "h")
  | exact Ne.symm (Z.ne_of' (by assumption) (by wtm_at "h")))
local macro_rules | `(tactic| wtm_at "h") => `(tactic| with_reducible first
  | exact L2.upd_same
  | assumption
  | exact Eq.trans (L2.upd_ne (by wtm_at "n")) (by wtm_at "h")
  | exact Z.s_at (by assumption) (by wtm_at "h"))
local macro_rules | `(tactic| wtm_at "ql") => `(tactic| with_reducible first
  | assumption
  | exact Z.sq_l (by wtm_at "h")
  | exact Z.s_sq (by assumption) (by wtm_at "ql")
  | exact Z.s_sq (Z.s_upd (by assumption)) (by wtm_at "ql"))
local macro_rules | `(tactic| wtm_at "qt") => `(tactic| with_reducible first
  | assumption
  | exact Z.sq_t (by wtm_at "h")
  | exact Z.s_st (by assumption) (by wtm_at "qt")
  | exact Z.s_st (Z.s_upd (by assumption)) (by wtm_at "qt"))
local macro_rules | `(tactic| wtm_at "f") => `(tactic| with_reducible first
  | assumption
  | exact Z.s_back (by assumption) (by wtm_at "f"))
local macro_rules | `(tactic| wtm_at "m") => `(tactic| with_reducible first
  | exact L2.Same.refl _
  | assumption
  | exact L2.Same.trans (by wtm_at "m") (Z.s_upd (by assumption))
  | exact Z.s_mut (by wtm_at "m") (by wtm_at "f")
  | exact L2.Same.trans (by wtm_at "m") (by assumption))
local macro_rules | `(tactic| wtm_at "z") => `(tactic| first
  | (refine Z.szl ?_; simp only [List.length_map, List.length_append, List.length_cons, List.length_nil]; omega)
  | (refine Z.sz ?_; simp only [List.length_map, List.length_append, List.length_cons, List.length_nil]; omega))
local macro_rules | `(tactic| wtm_at "set") => `(tactic| (simp only [List.set_cons_zero, List.set_cons_succ]; rfl))
local macro_rules | `(tactic| wtm_at "1") => `(tactic| with_reducible first
  | refine Z.r_seq ?_ | refine Z.r_asg ?_
  | (refine' Z.r_gname ?c ?_; (case c => wtm_at "set"))
  | refine Z.r_v0 ?_ | refine Z.r_v1 ?_ | refine Z.r_v2 ?_ | refine Z.r_vS ?_ | refine Z.r_c ?_
  | refine Z.r_op ?_ | refine Z.r_lt ?_ | refine Z.r_le ?_ | refine Z.r_gt ?_ | refine Z.r_ge ?_ | refine Z.r_I0 ?_ | (refine' Z.r_I ?c ?_; (case c => wtm_at "s")) | refine Z.r_cons ?_ | refine Z.r_nil ?_
  | refine Z.r_eqI ?_ | refine Z.r_neI ?_ | refine Z.r_test ?_ | refine Z.r_bl ?_ | refine Z.r_if ?_
  | refine Z.r_cb ?_ | refine Z.r_call ?_ | refine Z.r_int ?_
  | refine Z.r_ret ?_ | refine Z.r_drop ?_ | refine Z.r_next ?_ | refine Z.r_brk ?_ | refine Z.r_cnt ?_ | refine Z.r_retN ?_
  | refine Z.i_t ?_ | refine Z.i_f ?_ | refine Z.i_nt ?_ | refine Z.i_nf ?_
  | refine Z.r_and ?_ | refine Z.r_or ?_ | refine Z.r_not ?_ | refine Z.r_andV ?_ | refine Z.r_orV ?_ | refine Z.r_notV ?_ | refine Z.r_tB ?_ | refine Z.r_ifE ?_
  | refine Z.r_chain ?_ | refine Z.r_un ?_ | refine Z.r_U ?_
  | refine Z.r_new ?_ | refine Z.r_tup ?_ | refine Z.r_bm ?_ | (refine' Z.ty_lst ?c ?_; (case c => wtm_at "ql"))
  | (refine' Z.r_append ?c ?d ?_; (case c => wtm_at "h"); (case d => wtm_at "z"))
  | (refine' Z.r_lenL ?c ?_; (case c => first | assumption | exact Z.sq_l (by assumption))) | (refine' Z.r_lenT ?c ?_; (case c => first | assumption | exact Z.sq_t (by assumption)))
  | (refine' Z.r_lenL ?c ?_; (case c => wtm_at "ql")) | (refine' Z.r_lenT ?c ?_; (case c => wtm_at "qt"))
  | refine Z.r_sl ?_ | refine Z.r_noPart ?_ | refine Z.r_part ?_ | refine Z.r_pint ?_
  | refine Z.r_isB ?_ | refine Z.r_notB ?_ | refine Z.r_eqB ?_ | refine Z.r_neB ?_ | refine Z.r_eqS ?_ | refine Z.r_neS ?_
  | refine Z.r_fld ?_ | refine Z.r_sfld ?_ | refine Z.r_make ?_ | refine Z.r_meth ?_ | refine Z.for_rng3 ?_ | refine Z.lc_rng3 ?_ | refine Z.lc_rng ?_ | refine Z.lc_rng2 ?_ | refine Z.lc_lst ?_ | refine Z.r_gsub ?_ | refine Z.for_enum ?_ | refine Z.r_intB ?_
  | refine Z.for_lst ?_ | refine Z.for_rng ?_ | refine Z.for_rng2 ?_)
local macro_rules | `(tactic| wtm_at "w") => `(tactic| simp only [L2.wipe, List.map_cons, List.map_nil, List.set_cons_zero, List.set_cons_succ])
local macro_rules | `(tactic| wtm_at "r") => `(tactic| repeat (wtm_at "1"))
local macro_rules | `(tactic| wtm_at "1") => `(tactic| with_reducible first | refine Z.r_fb ?_ | refine Z.r_m1 ?_ | refine Z.r_bits ?_ | refine Z.r_bitsI ?_ | refine Z.r_min2 ?_)

namespace M_k14
open PySem PySem.Spec PyProof.Rows L2
def topS (i : Nat) : Stmt := PySem.Challenge.pw_dotfield_k14_version_words.main.body.getD i (.Pass ⟨0, 0, 0, 0⟩)
abbrev s_remainder : Stmt := (topS 6)
abbrev sl_remainder : List Str := ["a", "g"]
abbrev pl_remainder : List Str := ["a", "g"]
theorem sc_remainder : FnScope sl_remainder pl_remainder (defScope s_remainder) := ⟨rfl, rfl, rfl, by decide +kernel, rfl, by decide +kernel, by decide +kernel⟩
abbrev s_ones : Stmt := (topS 1)
abbrev sl_ones : List Str := ["number"]
abbrev pl_ones : List Str := ["number"]
theorem sc_ones : FnScope sl_ones pl_ones (defScope s_ones) := ⟨rfl, rfl, rfl, by decide +kernel, rfl, by decide +kernel, by decide +kernel⟩
abbrev s_distance : Stmt := (topS 5)
abbrev sl_distance : List Str := ["first", "second"]
abbrev pl_distance : List Str := ["first", "second"]
theorem sc_distance : FnScope sl_distance pl_distance (defScope s_distance) := ⟨rfl, rfl, rfl, by decide +kernel, rfl, by decide +kernel, by decide +kernel⟩
abbrev s_version_word : Stmt := (topS 3)
abbrev sl_version_word : List Str := ["version", "product"]
abbrev pl_version_word : List Str := ["version"]
theorem sc_version_word : FnScope sl_version_word pl_version_word (defScope s_version_word) := ⟨rfl, rfl, rfl, by decide +kernel, rfl, by decide +kernel, by decide +kernel⟩
abbrev s_version_agrees : Stmt := (topS 4)
abbrev sl_version_agrees : List Str := ["version", "first", "second", "word"]
abbrev pl_version_agrees : List Str := ["version", "first", "second"]
theorem sc_version_agrees : FnScope sl_version_agrees pl_version_agrees (defScope s_version_agrees) := ⟨rfl, rfl, rfl, by decide +kernel, rfl, by decide +kernel, by decide +kernel⟩
abbrev s__law_draw : Stmt := (topS 8)
abbrev sl__law_draw : List Str := ["cell", "many", "bound", "numbers", "k", "seed", "mixed"]
abbrev pl__law_draw : List Str := ["cell", "many", "bound"]
theorem sc__law_draw : FnScope sl__law_draw pl__law_draw (defScope s__law_draw) := ⟨rfl, rfl, rfl, by decide +kernel, rfl, by decide +kernel, by decide +kernel⟩
abbrev s__law_is_integer : Stmt := (topS 9)
abbrev sl__law_is_integer : List Str := ["actual"]
abbrev pl__law_is_integer : List Str := ["actual"]
theorem sc__law_is_integer : FnScope sl__law_is_integer pl__law_is_integer (defScope s__law_is_integer) := ⟨rfl, rfl, rfl, by decide +kernel, rfl, by decide +kernel, by decide +kernel⟩
abbrev s__law_left : Stmt := (topS 10)
abbrev sl__law_left : List Str := ["value", "divisor", "size", "more", "rest", "k"]
abbrev pl__law_left : List Str := ["value", "divisor", "size", "more"]
theorem sc__law_left : FnScope sl__law_left pl__law_left (defScope s__law_left) := ⟨rfl, rfl, rfl, by decide +kernel, rfl, by decide +kernel, by decide +kernel⟩
abbrev s__law_far : Stmt := (topS 12)
abbrev sl__law_far : List Str := ["first", "second", "rest", "many", "k"]
abbrev pl__law_far : List Str := ["first", "second"]
theorem sc__law_far : FnScope sl__law_far pl__law_far (defScope s__law_far) := ⟨rfl, rfl, rfl, by decide +kernel, rfl, by decide +kernel, by decide +kernel⟩
abbrev s__law_copy : Stmt := (topS 13)
abbrev sl__law_copy : List Str := ["numbers", "words", "value", "k"]
abbrev pl__law_copy : List Str := ["numbers", "words"]
theorem sc__law_copy : FnScope sl__law_copy pl__law_copy (defScope s__law_copy) := ⟨rfl, rfl, rfl, by decide +kernel, rfl, by decide +kernel, by decide +kernel⟩
abbrev s_law : Stmt := (topS 14)
abbrev sl_law : List Str := ["script", "words", "version", "told", "word", "cell", "numbers", "first", "second", "due", "other"]
abbrev pl_law : List Str := ["script"]
theorem sc_law : FnScope sl_law pl_law (defScope s_law) := ⟨rfl, rfl, rfl, by decide +kernel, rfl, by decide +kernel, by decide +kernel⟩
def allB (f : Nat → Bool) : Nat → Bool
  | 0 => true
  | n + 1 => f n && allB f n
theorem allB_at {f : Nat → Bool} : ∀ {n i : Nat}, allB f n = true → i < n → f i = true
  | n + 1, i, h, hi => by
    unfold allB at h
    rw [Bool.and_eq_true] at h
    by_cases e : i = n
    · subst e; exact h.1
    · exact allB_at h.2 (by omega)
/-! ints that are naturals -/
theorem nat_shr (b k : Nat) : ((b : Int) / 2 ^ ((k : Nat) : Int).toNat) = ((b >>> k : Nat) : Int) := by
  rw [Int.toNat_natCast, Nat.shiftRight_eq_div_pow]
  have e : (2 : Int) ^ k = ((2 ^ k : Nat) : Int) := by simp
  rw [e]; rfl
theorem nat_shl (b k : Nat) : ((b : Int) * 2 ^ ((k : Nat) : Int).toNat) = ((b <<< k : Nat) : Int) := by
  rw [Int.toNat_natCast, Nat.shiftLeft_eq]
  have e : (2 : Int) ^ k = ((2 ^ k : Nat) : Int) := by simp
  rw [e]; rfl
theorem nat_xor (a b : Nat) : Builtin.bitXor (a : Int) (b : Int) = ((a ^^^ b : Nat) : Int) := by
  rw [Bits.bitXor_pp (Int.natCast_nonneg _) (Int.natCast_nonneg _)]; rfl
theorem nat_and (a b : Nat) : Builtin.bitAnd (a : Int) (b : Int) = ((a &&& b : Nat) : Int) := by
  unfold Builtin.bitAnd
  rw [decide_eq_true (Int.natCast_nonneg a), decide_eq_true (Int.natCast_nonneg b)]
  rfl
theorem nat_and1 (a : Nat) : Builtin.bitAnd (a : Int) 1 = ((a % 2 : Nat) : Int) := by
  rw [show (1 : Int) = ((1 : Nat) : Int) from rfl, nat_and, Nat.and_one_is_mod]
/-! ## polynomials -/
def nv (cs : List Nat) : List V := cs.map fun c => V.int (c : Nat)
theorem nv_len (cs : List Nat) : (nv cs).length = cs.length := List.length_map _
theorem nv_int (cs : List Nat) : nv cs = (cs.map fun c : Nat => (c : Int)).map V.int := by
  unfold nv; rw [List.map_map]; rfl
theorem nv_get {cs : List Nat} {i : Nat} {x : V} (h : (nv cs)[i]? = some x) : ∃ c, cs[i]? = some c ∧ x = .int (c : Nat) := by
  unfold nv at h
  rw [List.getElem?_map] at h
  cases e : cs[i]? with
  | none => rw [e] at h; cases h
  | some z => rw [e] at h; exact ⟨z, rfl, (Option.some.inj h).symm⟩
theorem nv_at {cs : List Nat} {i : Int} {j : Nat} (e : i = (j : Int)) (h : j < cs.length) : atI (nv cs) i = some (.int (cs.getD j 0 : Nat)) := by
  subst e
  refine atI_nat ?_
  unfold nv
  rw [List.getElem?_map, List.getElem?_eq_getElem h, List.getD_eq_getElem?_getD, List.getElem?_eq_getElem h]
  rfl
theorem nv_set (cs : List Nat) (j c : Nat) : (nv cs).set j (.int (c : Nat)) = nv (cs.set j c) := by
  unfold nv; rw [List.map_set]
theorem nv_rep (n : Nat) : List.replicate n (V.int 0) = nv (List.replicate n 0) := by
  unfold nv; rw [List.map_replicate]; rfl
/-! ## remainders, words -/
def remF : Nat → Nat → Nat → Option Nat
  | 0, _, _ => none
  | f + 1, a, g => if Z.blN g ≤ Z.blN a then remF f (a ^^^ (g <<< (Z.blN a - Z.blN g))) g else some a
def leftR (v d size more : Nat) : Nat → Nat
  | 0 => v <<< more
  | k + 1 => if (leftR v d size more k >>> (size + more - 1 - k)) % 2 = 1 then leftR v d size more k ^^^ (d <<< (size - 1 - k)) else leftR v d size more k
def leftN (v d size more : Nat) : Nat := (v <<< more) + leftR v d size more size
def farN (a b : Nat) : Nat := Z.farK (a ^^^ b) 20
theorem pc_cut {m : Nat} : ∀ {k n : Nat}, m ≤ k → n < 2 ^ m → Z.pc k n = Z.pc m n := by
  induction m with
  | zero =>
    intro k n _ h
    have : n = 0 := by simpa using h
    subst this
    rw [Z.pc_zero, Z.pc_zero]
  | succ m ih =>
    intro k n hk h
    obtain ⟨j, rfl⟩ : ∃ j, k = j + 1 := ⟨k - 1, by omega⟩
    show n % 2 + Z.pc j (n / 2) = n % 2 + Z.pc m (n / 2)
    rw [ih (by omega) (by rw [Nat.pow_succ] at h; omega)]
theorem far_pc (a b : Nat) : farN a b = Z.pc 20 (a ^^^ b) := Z.farK_pc 20 _
theorem xor20 {a b : Nat} (ha : a < 1048576) (hb : b < 1048576) : a ^^^ b < 1048576 := Nat.xor_lt_two_pow (n := 20) ha hb
def vwN (v : Nat) : Nat := 4096 * v + (remF 40 (4096 * v) 7973).getD 0
def vws : List Nat := (List.range 34).map fun i => vwN (7 + i)
theorem vw_ok : allB (fun v => (remF 40 (4096 * v) 7973).isSome && Nat.beq (vwN v) (leftN v 7973 6 12) && Nat.blt (vwN v) 262144 || Nat.blt v 7) 41 = true := by decide +kernel
theorem vw_rem {v : Nat} (h7 : 7 ≤ v) (h : v < 41) : ∃ r, remF 40 (4096 * v) 7973 = some r ∧ vwN v = 4096 * v + r ∧ vwN v = leftN v 7973 6 12 ∧ vwN v < 262144 := by
  have := allB_at vw_ok h
  rw [Bool.or_eq_true, Bool.and_eq_true, Bool.and_eq_true] at this
  rcases this with ⟨⟨a, b⟩, c⟩ | z
  · obtain ⟨r, hr⟩ := Option.isSome_iff_exists.mp a
    exact ⟨r, hr, by unfold vwN; rw [hr]; rfl, Nat.eq_of_beq_eq_true b, by rw [Nat.blt_eq] at c; exact c⟩
  · rw [Nat.blt_eq] at z; omega
theorem vw_far : allB (fun i => allB (fun j => Nat.ble 8 (farN (vwN (7 + i)) (vwN (7 + j)))) i) 34 = true := by decide +kernel
theorem vw_dist {i j : Nat} (hi : i < 34) (hj : j < i) : 8 ≤ farN (vwN (7 + i)) (vwN (7 + j)) := by
  have h1 : allB (fun j => Nat.ble 8 (farN (vwN (7 + i)) (vwN (7 + j)))) i = true := allB_at (f := fun i => allB (fun j => Nat.ble 8 (farN (vwN (7 + i)) (vwN (7 + j)))) i) vw_far hi
  have h2 : Nat.ble 8 (farN (vwN (7 + i)) (vwN (7 + j))) = true := allB_at (f := fun j => Nat.ble 8 (farN (vwN (7 + i)) (vwN (7 + j)))) h1 hj
  exact Nat.le_of_ble_eq_true h2
theorem vws_get {i : Nat} (h : i < 34) : vws.getD i 0 = vwN (7 + i) := by
  unfold vws
  rw [List.getD_eq_getElem?_getD, List.getElem?_map, List.getElem?_range h]; rfl
theorem vws_take (i : Nat) (h : i ≤ 34) : vws.take i = (List.range i).map fun i => vwN (7 + i) := by
  unfold vws; rw [← List.map_take, List.take_range, Nat.min_eq_left h]
def agN (v a b : Nat) : Bool := Z.dB (farN (vwN v) a ≤ 3 ∨ farN (vwN v) b ≤ 3)
theorem filt_le {p : Nat → Bool} : ∀ {n : Nat}, (∀ i j, i < n → j < i → p i = true → p j = true → False) → ((List.range n).filter p).length ≤ 1
  | 0, _ => by simp
  | n + 1, h => by
    rw [List.range_succ, List.filter_append, List.length_append]
    have ih := filt_le (p := p) (n := n) fun i j hi hj => h i j (by omega) hj
    by_cases c : p n = true
    · have e : (List.range n).filter p = [] := by
        rw [List.filter_eq_nil_iff]
        intro j hj z
        exact h n j (by omega) (List.mem_range.mp hj) c z
      rw [e, List.filter_cons, if_pos c]; simp
    · rw [List.filter_cons, if_neg c]; simpa using ih
theorem ag_one (x : Nat) : ((List.range 34).filter fun i => agN (7 + i) x x).length ≤ 1 := by
  refine filt_le fun i j hi hj hpi hpj => ?_
  have a := Z.dB_of hpi
  have b := Z.dB_of hpj
  rw [or_self] at a b
  have d := vw_dist hi hj
  rw [far_pc] at a b d
  have t := Z.pc_tri 20 (vwN (7 + i)) x (vwN (7 + j))
  rw [Nat.xor_comm x] at t
  omega
structure Top (K : PySem.W.Frag) (mg : Str → Option Value) where
  a_remainder : Addr
  d_remainder : FuncData
  F_remainder : Fun K "remainder" "remainder" s_remainder a_remainder d_remainder
  b_remainder : Binds K d_remainder pl_remainder []
  g_remainder : mg "remainder" = some (.ref a_remainder)
  a_ones : Addr
  d_ones : FuncData
  F_ones : Fun K "ones" "ones" s_ones a_ones d_ones
  b_ones : Binds K d_ones pl_ones []
  g_ones : mg "ones" = some (.ref a_ones)
  a_distance : Addr
  d_distance : FuncData
  F_distance : Fun K "distance" "distance" s_distance a_distance d_distance
  b_distance : Binds K d_distance pl_distance []
  g_distance : mg "distance" = some (.ref a_distance)
  a_version_word : Addr
  d_version_word : FuncData
  F_version_word : Fun K "version_word" "version_word" s_version_word a_version_word d_version_word
  b_version_word : Binds K d_version_word pl_version_word []
  g_version_word : mg "version_word" = some (.ref a_version_word)
  a_version_agrees : Addr
  d_version_agrees : FuncData
  F_version_agrees : Fun K "version_agrees" "version_agrees" s_version_agrees a_version_agrees d_version_agrees
  b_version_agrees : Binds K d_version_agrees pl_version_agrees []
  g_version_agrees : mg "version_agrees" = some (.ref a_version_agrees)
  a__law_draw : Addr
  d__law_draw : FuncData
  F__law_draw : Fun K "_law_draw" "_law_draw" s__law_draw a__law_draw d__law_draw
  b__law_draw : Binds K d__law_draw pl__law_draw []
  g__law_draw : mg "_law_draw" = some (.ref a__law_draw)
  a__law_is_integer : Addr
  d__law_is_integer : FuncData
  F__law_is_integer : Fun K "_law_is_integer" "_law_is_integer" s__law_is_integer a__law_is_integer d__law_is_integer
  b__law_is_integer : Binds K d__law_is_integer pl__law_is_integer []
  g__law_is_integer : mg "_law_is_integer" = some (.ref a__law_is_integer)
  a__law_left : Addr
  d__law_left : FuncData
  F__law_left : Fun K "_law_left" "_law_left" s__law_left a__law_left d__law_left
  b__law_left : Binds K d__law_left pl__law_left []
  g__law_left : mg "_law_left" = some (.ref a__law_left)
  a__law_far : Addr
  d__law_far : FuncData
  F__law_far : Fun K "_law_far" "_law_far" s__law_far a__law_far d__law_far
  b__law_far : Binds K d__law_far pl__law_far []
  g__law_far : mg "_law_far" = some (.ref a__law_far)
  a__law_copy : Addr
  d__law_copy : FuncData
  F__law_copy : Fun K "_law_copy" "_law_copy" s__law_copy a__law_copy d__law_copy
  b__law_copy : Binds K d__law_copy pl__law_copy []
  g__law_copy : mg "_law_copy" = some (.ref a__law_copy)
  a_law : Addr
  d_law : FuncData
  F_law : Fun K "law" "law" s_law a_law d_law
  b_law : Binds K d_law pl_law []
  g_law : mg "law" = some (.ref a_law)
  n_min : mg "min" = none
  n_range : mg "range" = none
  n_int : mg "int" = none
  n_isinstance : mg "isinstance" = none
  n_bool : mg "bool" = none
  n_len : mg "len" = none
section
variable {P : Program} {w : World} {K : PySem.W.Frag} {mg : Str → Option Value} {base : Heap}
def sp_remainder (K : PySem.W.Frag) : Sp := fun vs H Q _ => ∃ (a g f r : Nat), vs = [.int a, .int g] ∧ remF f a g = some r ∧ g < 2 ^ 40 ∧ a < 2 ^ 40 ∧ Q (.int r) H
set_option maxHeartbeats 2000000 in
theorem ok_remainder (T : Top K mg) : FnOk P w K mg base CX0 1 T.a_remainder T.d_remainder pl_remainder (sp_remainder K) := by
  refine T.F_remainder.ok sc_remainder (fun vs H Q E h => ?_) (fun cdv A outer s H vs Q E hr h => ?_)
  · obtain ⟨a, g, f, r, rfl, _⟩ := h
    rfl
  · obtain ⟨a, g, f, r, rfl, hR, hg, ha, q⟩ := h
    have hu := hu_of hr
    refine ⟨_, (pss_cons (ps_while PassesOwn.never (pt_cmpR op_ge (pe_bits (pv 0)) (pe_bits (pv 1)) (nomark _)) (pss_one (ps_set (i := 0) sc_remainder.nd rfl (Or.inl rfl) (pe_op op_xor (pv 0) (pe_op op_shl (pv 1) (pe_op op_sub (pe_bits (pv 0)) (pe_bits (pv 1))))))))
      (pss_one (ps_ret (pv 0)))), ?_⟩
    show (_ : L2.TS) _ [some _, some _] H
    try simp only [Z.kx]
    wtm_at "r"
    refine Z.r_while (fun m σ H2 => ∃ (a : Nat), σ = [some (.int a), some (.int g)] ∧ H2 = H ∧ a < 2 ^ 40 ∧ remF m a g = some r) f ⟨a, rfl, rfl, ha, hR⟩ ?_
    clear hR
    rintro m σ H2 ⟨a, rfl, rfl, ha, hR⟩
    wtm_at "r"
    obtain ⟨m, rfl⟩ : ∃ j, m = j + 1 := by
      cases m with
      | zero => cases hR
      | succ j => exact ⟨j, rfl⟩
    have bl40 : ∀ {x : Nat}, x < 2 ^ 40 → Z.blN x ≤ 40 := by
      intro x hx
      unfold Z.blN
      split
      · omega
      · rename_i h0
        have := (Nat.log2_lt h0).mpr hx
        omega
    have b1 := bl40 ha
    have b2 := bl40 hg
    unfold remF at hR
    with_reducible refine Z.i_2 (fun h => ?_) (fun h => ?_) <;> rw [Z.bits_nat, Z.bits_nat] at h
    · rw [if_pos (by omega)] at hR
      refine ⟨fun σ' H' => ∃ m', m' < m + 1 ∧ ∃ (a : Nat), σ' = [some (.int a), some (.int g)] ∧ H' = H2 ∧ a < 2 ^ 40 ∧ remF m' a g = some r, fun σ' H' z => z, ?_⟩
      wtm_at "r"
      rw [Z.bits_nat, Z.bits_nat, show ((Z.blN a : Nat) : Int) - (Z.blN g : Nat) = ((Z.blN a - Z.blN g : Nat) : Int) by omega]
      refine Z.r_I (Z.c_pow (by omega) (by omega) (by rw [Int.natAbs_natCast]; exact Nat.lt_trans hg (by decide))) ?_
      wtm_at "r"
      rw [nat_shl, nat_xor]
      refine ⟨m, Nat.lt_succ_self m, _, rfl, rfl, Nat.xor_lt_two_pow ha ?_, hR⟩
      have hb : g < 2 ^ Z.blN g := by
        unfold Z.blN
        split
        · rename_i h0; subst h0; decide
        · exact Nat.lt_log2_self
      have hs : g <<< (Z.blN a - Z.blN g) < 2 ^ Z.blN a := by
        rw [Nat.shiftLeft_eq]
        calc g * 2 ^ (Z.blN a - Z.blN g) < 2 ^ Z.blN g * 2 ^ (Z.blN a - Z.blN g) := Nat.mul_lt_mul_of_pos_right hb (Nat.two_pow_pos _)
          _ = 2 ^ Z.blN a := by rw [← Nat.pow_add]; congr 1; omega
      exact Nat.lt_of_lt_of_le hs (Nat.pow_le_pow_right (by decide) b1)
    · rw [if_neg (by omega)] at hR
      cases hR
      wtm_at "r"
      exact q
def sp_ones (K : PySem.W.Frag) : Sp := fun vs H Q _ => ∃ (n : Nat), vs = [.int n] ∧ n < 2 ^ 20 ∧ Q (.int (Z.pc 20 n : Nat)) H
set_option maxHeartbeats 2000000 in
theorem ok_ones (T : Top K mg) : FnOk P w K mg base CX0 1 T.a_ones T.d_ones pl_ones (sp_ones K) := by
  refine T.F_ones.ok sc_ones (fun vs H Q E h => ?_) (fun cdv A outer s H vs Q E hr h => ?_)
  · obtain ⟨n, rfl, _⟩ := h
    rfl
  · obtain ⟨n, rfl, hn, q⟩ := h
    have hu := hu_of hr
    refine ⟨_, (pss_one (ps_ret (pe_m1 PySem.F.slot_str_count PySem.F.type_str_count mt_count (Z.pe_fmtb (pv 0)) pe_str))), ?_⟩
    show (_ : L2.TS) _ [some _] H
    try simp only [Z.kx]
    wtm_at "r"
    refine ⟨n, rfl, Nat.lt_of_lt_of_le hn (Nat.pow_le_pow_right (by decide) (by decide)), ⟨_, rfl⟩, ?_⟩
    wtm_at "r"
    refine Z.r_cnt1 ?_
    rw [Z.binS_count (k := 20) hn]
    exact q
def sp_distance (K : PySem.W.Frag) : Sp := fun vs H Q _ => ∃ (a b : Nat), vs = [.int a, .int b] ∧ a < 1048576 ∧ b < 1048576 ∧ Q (.int (farN a b : Nat)) H
set_option maxHeartbeats 2000000 in
theorem ok_distance (T : Top K mg) : FnOk P w K mg base CX0 2 T.a_distance T.d_distance pl_distance (sp_distance K) := by
  refine T.F_distance.ok sc_distance (fun vs H Q E h => ?_) (fun cdv A outer s H vs Q E hr h => ?_)
  · obtain ⟨a, b, rfl, _⟩ := h
    rfl
  · obtain ⟨a, b, rfl, ha, hb, q⟩ := h
    have hu := hu_of hr
    refine ⟨_, (pss_one (ps_ret (pe_call (ok_ones T) (hr.mono (by decide)) (by rfl) T.g_ones T.F_ones.kp T.b_ones .nil pass0 (pa_cons (pe_op op_xor (pv 0) (pv 1)) pa_nil)))), ?_⟩
    show (_ : L2.TS) _ [some _, some _] H
    try simp only [Z.kx]
    wtm_at "r"
    rw [nat_xor]
    refine ⟨a ^^^ b, rfl, xor20 ha hb, ?_⟩
    rw [← far_pc]
    exact q
def sp_version_word (K : PySem.W.Frag) : Sp := fun vs H Q _ => ∃ (v : Nat), vs = [.int v] ∧ 7 ≤ v ∧ v < 41 ∧ Q (.int (vwN v : Nat)) H
set_option maxHeartbeats 2000000 in
theorem ok_version_word (T : Top K mg) : FnOk P w K mg base CX0 2 T.a_version_word T.d_version_word pl_version_word (sp_version_word K) := by
  refine T.F_version_word.ok sc_version_word (fun vs H Q E h => ?_) (fun cdv A outer s H vs Q E hr h => ?_)
  · obtain ⟨v, rfl, _⟩ := h
    rfl
  · obtain ⟨v, rfl, h7, h41, q⟩ := h
    have hu := hu_of hr
    refine ⟨_, (pss_cons (ps_set (i := 1) sc_version_word.nd rfl (Or.inl rfl) (pe_op op_mul pe_int (pv 0)))
      (pss_one (ps_ret (pe_op op_add (pv 1) (pe_call (ok_remainder T) (hr.mono (by decide)) (by rfl) T.g_remainder T.F_remainder.kp T.b_remainder .nil pass0 (pa_cons (pv 1) (pa_cons pe_int pa_nil))))))), ?_⟩
    show (_ : L2.TS) _ [some _, none] H
    try simp only [Z.kx]
    obtain ⟨r, hr, e1, e2, e3⟩ := vw_rem h7 h41
    wtm_at "r"
    refine ⟨4096 * v, 7973, 40, r, by rw [Int.natCast_mul]; rfl, hr, by decide, by omega, ?_⟩
    wtm_at "r"
    rw [show (4096 : Int) * (v : Nat) + (r : Nat) = ((vwN v : Nat) : Int) by omega]
    exact q
def sp_version_agrees (K : PySem.W.Frag) : Sp := fun vs H Q _ => ∃ (v a b : Nat), vs = [.int v, .int a, .int b] ∧ 7 ≤ v ∧ v < 41 ∧ a < 1048576 ∧ b < 1048576 ∧ Q (.bl (agN v a b)) H
set_option maxHeartbeats 2000000 in
theorem ok_version_agrees (T : Top K mg) : FnOk P w K mg base CX0 3 T.a_version_agrees T.d_version_agrees pl_version_agrees (sp_version_agrees K) := by
  refine T.F_version_agrees.ok sc_version_agrees (fun vs H Q E h => ?_) (fun cdv A outer s H vs Q E hr h => ?_)
  · obtain ⟨v, a, b, rfl, _⟩ := h
    rfl
  · obtain ⟨v, a, b, rfl, h7, h41, ha, hb, q⟩ := h
    have hu := hu_of hr
    refine ⟨_, (pss_cons (ps_set (i := 3) sc_version_agrees.nd rfl (Or.inl rfl) (pe_call (ok_version_word T) (hr.mono (by decide)) (by rfl) T.g_version_word T.F_version_word.kp T.b_version_word .nil pass0 (pa_cons (pv 0) pa_nil)))
      (pss_one (ps_ret (pe_cmpR op_le (pe_callB (call_min2 rfl) (by rfl) T.n_min (by decide +kernel) (pa_cons (pe_call (ok_distance T) (hr.mono (by decide)) (by rfl) T.g_distance T.F_distance.kp T.b_distance .nil pass0 (pa_cons (pv 3) (pa_cons (pv 1) pa_nil))) (pa_cons (pe_call (ok_distance T) (hr.mono (by decide)) (by rfl) T.g_distance T.F_distance.kp T.b_distance .nil pass0 (pa_cons (pv 3) (pa_cons (pv 2) pa_nil))) pa_nil))) pe_int (nomark _))))), ?_⟩
    show (_ : L2.TS) _ [some _, some _, some _, none] H
    try simp only [Z.kx]
    have e3 : vwN v < 1048576 := by obtain ⟨r, hr, e1, e2, e3⟩ := vw_rem h7 h41; omega
    wtm_at "r"
    refine ⟨v, rfl, h7, h41, ?_⟩
    wtm_at "r"
    refine ⟨_, a, rfl, e3, ha, ?_⟩
    wtm_at "r"
    refine ⟨_, b, rfl, e3, hb, ?_⟩
    wtm_at "r"
    refine ⟨_, _, rfl, ?_⟩
    wtm_at "r"
    have e : agN v a b = Z.dB ((if ((farN (vwN v) b : Nat) : Int) < (farN (vwN v) a : Nat) then ((farN (vwN v) b : Nat) : Int) else (farN (vwN v) a : Nat)) ≤ 3) := Z.dB_iff (by split <;> omega)
    rw [← e]
    exact q
def sp__law_draw (K : PySem.W.Frag) : Sp := fun vs H Q _ => ∃ (c m b : Int), vs = [.int c, .int m, .int b] ∧ 0 ≤ m ∧ m ≤ 1000 ∧ 0 < b ∧ b < 1073741824 ∧ ∀ (p : Addr) (ns : List Int) (H1 : Hp), Same H H1 → H p = none → H1 p = some (.lst (ns.map V.int)) → (ns.length : Int) = m → (∀ n ∈ ns, 0 ≤ n ∧ n < b) → Q (.ref p) H1
set_option maxHeartbeats 2000000 in
theorem ok__law_draw (T : Top K mg) : FnOk P w K mg base CX0 1 T.a__law_draw T.d__law_draw pl__law_draw (sp__law_draw K) := by
  refine T.F__law_draw.ok sc__law_draw (fun vs H Q E h => ?_) (fun cdv A outer s H vs Q E hr h => ?_)
  · obtain ⟨c, m, b, rfl, _⟩ := h
    rfl
  · obtain ⟨c, m, b, rfl, m0, m1, b0, b1, q⟩ := h
    have hu := hu_of hr
    refine ⟨_, (pss_cons (ps_set (i := 3) sc__law_draw.nd rfl (Or.inl rfl) (pe_lst pa_nil))
      (pss_cons (ps_if (pt_cmpR op_ge (pv 0) (pe_op op_pow pe_int pe_int) (nomark _)) (pss_cons (ps_for PassesOwn.never rfl (pi_range1 rfl T.n_range (pa_cons (pv 1) pa_nil)) (pg_name (i := 4) sc__law_draw.nd rfl (Or.inl rfl)) (pss_cons (ps_expr (pe_bm PySem.F.plainAttrs_list PySem.F.slot_list_append PySem.F.type_list_append mt_append (pv 3) (pa_cons (pe_op op_mod (pe_callTy Z.call_int (by rfl) T.n_int (by decide +kernel) (pa_cons (pv 0) pa_nil)) (pv 2)) pa_nil)))
      (pss_one (ps_set (i := 0) sc__law_draw.nd rfl (Or.inl rfl) (pe_op op_fdiv (pv 0) (pv 2))))))
      (pss_one (ps_ret (pv 3)))) pss_nil)
      (pss_cons (ps_set (i := 5) sc__law_draw.nd rfl (Or.inl rfl) (pe_op op_mod (pe_callTy Z.call_int (by rfl) T.n_int (by decide +kernel) (pa_cons (pv 0) pa_nil)) pe_int))
      (pss_cons (ps_for PassesOwn.never rfl (pi_range1 rfl T.n_range (pa_cons (pv 1) pa_nil)) (pg_name (i := 4) sc__law_draw.nd rfl (Or.inl rfl)) (pss_cons (ps_set (i := 5) sc__law_draw.nd rfl (Or.inl rfl) (pe_op op_mod (pe_callTy Z.call_int (by rfl) T.n_int (by decide +kernel) (pa_cons (pe_op op_add (pe_op op_add (pe_op op_mul (pv 5) pe_int) pe_int) (pv 4)) pa_nil)) pe_int))
      (pss_cons (ps_set (i := 6) sc__law_draw.nd rfl (Or.inl rfl) (pe_op op_mod (pe_callTy Z.call_int (by rfl) T.n_int (by decide +kernel) (pa_cons (pe_op op_add (pe_op op_mul (pv 5) pe_int) (pe_op op_mul pe_int (pv 4))) pa_nil)) pe_int))
      (pss_one (ps_expr (pe_bm PySem.F.plainAttrs_list PySem.F.slot_list_append PySem.F.type_list_append mt_append (pv 3) (pa_cons (pe_op op_mod (pe_callTy Z.call_int (by rfl) T.n_int (by decide +kernel) (pa_cons (pe_op op_fdiv (pv 6) pe_int) pa_nil)) (pv 2)) pa_nil)))))))
      (pss_one (ps_ret (pv 3))))))), ?_⟩
    show (_ : L2.TS) _ [some _, some _, some _, none, none, none, none] H
    try simp only [Z.kx]
    wtm_at "r"
    refine ⟨Nat.zero_le _, fun p hp => ?_⟩
    wtm_at "r"
    
    with_reducible refine Z.i_2 (fun hx => ?_) (fun hx => ?_) <;> clear hx
    · -- the digits of a great cell
      wtm_at "r"
      refine Z.rng_go m.toNat rfl ⟨by omega, by omega⟩ (fun i σ H2 => ∃ (c : Int) (k : Option V) (ns : List Int), σ = [some (.int c), some (.int m), some (.int b), some (.ref p), k, none, none] ∧ Same H H2 ∧ H2 p = some (.lst (ns.map V.int)) ∧ ns.length = i ∧ (∀ n ∈ ns, 0 ≤ n ∧ n < b)) ?_ ?_ ?_
      · exact ⟨_, none, [], rfl, Z.s_upd hp, L2.upd_same, rfl, fun n hn => by cases hn⟩
      · rintro i σ H2 hi ⟨c, k, ns, rfl, sm, hl, el, hb⟩
        wtm_at "r"
        refine ⟨_, _, ns ++ [c % b], rfl, Z.s_mut sm hp, ?_, by simp [el], fun n hn => ?_⟩
        · rw [List.map_append]; exact L2.upd_same
        · rcases List.mem_append.mp hn with h | h
          · exact hb n h
          · rw [List.mem_singleton] at h; subst h; exact ⟨Int.emod_nonneg _ (by omega), Int.emod_lt_of_pos _ (by omega)⟩
      · rintro σ H2 ⟨c, k, ns, rfl, sm, hl, el, hb⟩
        wtm_at "r"
        exact q p ns H2 sm hp hl (by omega) hb
    · wtm_at "r"
      refine Z.rng_go m.toNat rfl ⟨by omega, by omega⟩ (fun i σ H2 => ∃ (s : Int) (k x : Option V) (ns : List Int), σ = [some (.int c), some (.int m), some (.int b), some (.ref p), k, some (.int s), x] ∧ Same H H2 ∧ H2 p = some (.lst (ns.map V.int)) ∧ ns.length = i ∧ (∀ n ∈ ns, 0 ≤ n ∧ n < b)) ?_ ?_ ?_
      · exact ⟨_, none, none, [], rfl, Z.s_upd hp, L2.upd_same, rfl, fun n hn => by cases hn⟩
      · rintro i σ H2 hi ⟨s, k, x, ns, rfl, sm, hl, el, hb⟩
        wtm_at "r"
        refine ⟨_, _, _, ns ++ [((s * 48271 + 12345 + (i : Nat)) % 2147483647 * 69621 + 977 * (i : Nat)) % 2147483629 / 3 % b], rfl, Z.s_mut sm hp, ?_, by simp [el], fun n hn => ?_⟩
        · rw [List.map_append]; exact L2.upd_same
        · rcases List.mem_append.mp hn with h | h
          · exact hb n h
          · rw [List.mem_singleton] at h; subst h; exact ⟨Int.emod_nonneg _ (by omega), Int.emod_lt_of_pos _ (by omega)⟩
      · rintro σ H2 ⟨s, k, x, ns, rfl, sm, hl, el, hb⟩
        wtm_at "r"
        exact q p ns H2 sm hp hl (by omega) hb
def sp__law_is_integer (K : PySem.W.Frag) : Sp := fun vs H Q _ => ∃ (i : Int), vs = [.int i] ∧ Q (.bl true) H
set_option maxHeartbeats 2000000 in
theorem ok__law_is_integer (T : Top K mg) : FnOk P w K mg base CX0 1 T.a__law_is_integer T.d__law_is_integer pl__law_is_integer (sp__law_is_integer K) := by
  refine T.F__law_is_integer.ok sc__law_is_integer (fun vs H Q E h => ?_) (fun cdv A outer s H vs Q E hr h => ?_)
  · obtain ⟨i, rfl, _⟩ := h
    rfl
  · obtain ⟨i, rfl, q⟩ := h
    have hu := hu_of hr
    refine ⟨_, (pss_one (ps_ret (pe_and (pe_callB (show CallR _ _ (rIsi K) from call_isi) (by rfl) T.n_isinstance (by decide +kernel) (pa_cons (pv 0) (pa_cons (pe_bltn (v := .ty "int") (u := .type "int") (by rfl) T.n_int (by decide +kernel) rfl) pa_nil))) (pe_one (pe_not (pe_callB (show CallR _ _ (rIsi K) from call_isi) (by rfl) T.n_isinstance (by decide +kernel) (pa_cons (pv 0) (pa_cons (pe_bltn (v := .ty "bool") (u := .type "bool") (by rfl) T.n_bool (by decide +kernel) rfl) pa_nil)))))))), ?_⟩
    show (_ : L2.TS) _ [some _] H
    try simp only [Z.kx]
    wtm_at "r"
    refine Z.r_isi (b := true) (.ty "int") (.base (.int _)) (kit_ty (by decide +kernel)) ?_
    wtm_at "r"
    refine Z.r_isi (b := false) (.ty "bool") (.base (.int _)) (kit_ty (by decide +kernel)) ?_
    wtm_at "r"
    exact q
def sp__law_left (K : PySem.W.Frag) : Sp := fun vs H Q _ => ∃ (v d s m : Nat), vs = [.int v, .int d, .int s, .int m] ∧ v < 2 ^ 20 ∧ d < 2 ^ 20 ∧ s ≤ 20 ∧ m ≤ 20 ∧ Q (.int (leftN v d s m : Nat)) H
set_option maxHeartbeats 2000000 in
theorem ok__law_left (T : Top K mg) : FnOk P w K mg base CX0 1 T.a__law_left T.d__law_left pl__law_left (sp__law_left K) := by
  refine T.F__law_left.ok sc__law_left (fun vs H Q E h => ?_) (fun cdv A outer s H vs Q E hr h => ?_)
  · obtain ⟨v, d, s, m, rfl, _⟩ := h
    rfl
  · obtain ⟨v, d, s, m, rfl, hv, hd, hs, hm, q⟩ := h
    have hu := hu_of hr
    refine ⟨_, (pss_cons (ps_set (i := 4) sc__law_left.nd rfl (Or.inl rfl) (pe_op op_shl (pv 0) (pv 3)))
      (pss_cons (ps_for PassesOwn.never rfl (pi_range1 rfl T.n_range (pa_cons (pv 2) pa_nil)) (pg_name (i := 5) sc__law_left.nd rfl (Or.inl rfl)) (pss_one (ps_if (pt_cmpR op_eq (pe_op op_and (pe_op op_shr (pv 4) (pe_op op_sub (pe_op op_sub (pe_op op_add (pv 2) (pv 3)) pe_int) (pv 5))) pe_int) pe_int (nomark _)) (pss_one (ps_set (i := 4) sc__law_left.nd rfl (Or.inl rfl) (pe_op op_xor (pv 4) (pe_op op_shl (pv 1) (pe_op op_sub (pe_op op_sub (pv 2) pe_int) (pv 5)))))) pss_nil)))
      (pss_one (ps_ret (pe_op op_add (pe_op op_shl (pv 0) (pv 3)) (pv 4)))))), ?_⟩
    show (_ : L2.TS) _ [some _, some _, some _, some _, none, none] H
    try simp only [Z.kx]
    wtm_at "r"
    rw [nat_shl]
    refine Z.rng_go s rfl ⟨by omega, by omega⟩ (fun k σ H2 => ∃ (x : Option V), σ = [some (.int v), some (.int d), some (.int s), some (.int m), some (.int (leftR v d s m k : Nat)), x] ∧ H2 = H) ⟨none, rfl, rfl⟩ ?_ ?_
    · rintro k σ H2 hk ⟨x, rfl, rfl⟩
      have e1 : (s : Int) + (m : Nat) - 1 - (k : Nat) = ((s + m - 1 - k : Nat) : Int) := by omega
      have e2 : (s : Int) - 1 - (k : Nat) = ((s - 1 - k : Nat) : Int) := by omega
      wtm_at "r"
      rw [e1, nat_shr, nat_and1]
      with_reducible refine Z.i_2 (fun h => ?_) (fun h => ?_)
      · wtm_at "r"
        rw [e2, nat_shl, nat_xor]
        have e : leftR v d s m (k + 1) = leftR v d s m k ^^^ (d <<< (s - 1 - k)) := by
          show (if _ then _ else _) = _
          rw [if_pos (by omega)]
        rw [← e]
        exact ⟨_, rfl, rfl⟩
      · wtm_at "r"
        have e : leftR v d s m (k + 1) = leftR v d s m k := by
          show (if _ then _ else _) = _
          rw [if_neg (by omega)]
        exact ⟨_, by rw [e], rfl⟩
    · rintro σ H2 ⟨x, rfl, rfl⟩
      wtm_at "r"
      rw [nat_shl, ← Int.natCast_add]
      exact q
def sp__law_far (K : PySem.W.Frag) : Sp := fun vs H Q _ => ∃ (a b : Nat), vs = [.int a, .int b] ∧ Q (.int (farN a b : Nat)) H
set_option maxHeartbeats 2000000 in
theorem ok__law_far (T : Top K mg) : FnOk P w K mg base CX0 1 T.a__law_far T.d__law_far pl__law_far (sp__law_far K) := by
  refine T.F__law_far.ok sc__law_far (fun vs H Q E h => ?_) (fun cdv A outer s H vs Q E hr h => ?_)
  · obtain ⟨a, b, rfl, _⟩ := h
    rfl
  · obtain ⟨a, b, rfl, q⟩ := h
    have hu := hu_of hr
    refine ⟨_, (pss_cons (ps_set (i := 2) sc__law_far.nd rfl (Or.inl rfl) (pe_op op_xor (pv 0) (pv 1)))
      (pss_cons (ps_set (i := 3) sc__law_far.nd rfl (Or.inl rfl) pe_int)
      (pss_cons (ps_for PassesOwn.never rfl (pi_range1 rfl T.n_range (pa_cons pe_int pa_nil)) (pg_name (i := 4) sc__law_far.nd rfl (Or.inl rfl)) (pss_one (ps_set (i := 3) sc__law_far.nd rfl (Or.inl rfl) (pe_op op_add (pv 3) (pe_op op_and (pe_op op_shr (pv 2) (pv 4)) pe_int)))))
      (pss_one (ps_ret (pv 3)))))), ?_⟩
    show (_ : L2.TS) _ [some _, some _, none, none, none] H
    try simp only [Z.kx]
    wtm_at "r"
    rw [nat_xor]
    refine Z.rng_go 20 rfl ⟨by omega, by omega⟩ (fun k σ H2 => ∃ (x : Option V), σ = [some (.int a), some (.int b), some (.int (a ^^^ b : Nat)), some (.int (Z.farK (a ^^^ b) k : Nat)), x] ∧ H2 = H) ⟨none, rfl, rfl⟩ ?_ ?_
    · rintro k σ H2 hk ⟨x, rfl, rfl⟩
      wtm_at "r"
      rw [nat_shr, nat_and1, ← Int.natCast_add]
      exact ⟨_, rfl, rfl⟩
    · rintro σ H2 ⟨x, rfl, rfl⟩
      wtm_at "r"
      exact q
def sp__law_copy (K : PySem.W.Frag) : Sp := fun vs H Q _ => ∃ (a b : Addr) (ms : List Int) (ws : List Nat), vs = [.ref a, .ref b] ∧ SqL K H a (ms.map V.int) ∧ SqL K H b (nv ws) ∧ ms.length = 7 ∧ (∀ n ∈ ms, 0 ≤ n ∧ n < 1048576) ∧ ws.length = 34 ∧ (∀ w ∈ ws, w < 262144) ∧ ∀ z : Nat, z < 262144 → Q (.int z) H
set_option maxHeartbeats 2000000 in
theorem ok__law_copy (T : Top K mg) : FnOk P w K mg base CX0 1 T.a__law_copy T.d__law_copy pl__law_copy (sp__law_copy K) := by
  refine T.F__law_copy.ok sc__law_copy (fun vs H Q E h => ?_) (fun cdv A outer s H vs Q E hr h => ?_)
  · obtain ⟨a, b, ms, ws, rfl, _⟩ := h
    rfl
  · obtain ⟨a, b, ms, ws, rfl, ha, hb, l7, hm, hl, hw, q⟩ := h
    have hu := hu_of hr
    refine ⟨_, (pss_cons (ps_if (pt_cmpR op_eq (pe_op op_mod (pe_ix (show IxR _ (rIxL K) from ix_list) (pv 0) pe_int (fun _ _ => rfl)) pe_int) pe_int (nomark _)) (pss_one (ps_ret (pe_op op_mod (pe_ix (show IxR _ (rIxL K) from ix_list) (pv 0) pe_int (fun _ _ => rfl)) pe_int))) pss_nil)
      (pss_cons (ps_set (i := 2) sc__law_copy.nd rfl (Or.inl rfl) (pe_ix (show IxR _ (rIxL K) from ix_list) (pv 1) (pe_op op_mod (pe_op op_fdiv (pe_ix (show IxR _ (rIxL K) from ix_list) (pv 0) pe_int (fun _ _ => rfl)) pe_int) pe_int) (fun _ _ => rfl)))
      (pss_cons (ps_for PassesOwn.never rfl (pi_range1 rfl T.n_range (pa_cons (pe_op op_mod (pe_op op_fdiv (pe_ix (show IxR _ (rIxL K) from ix_list) (pv 0) pe_int (fun _ _ => rfl)) pe_int) pe_int) pa_nil)) (pg_name (i := 3) sc__law_copy.nd rfl (Or.inl rfl)) (pss_one (ps_set (i := 2) sc__law_copy.nd rfl (Or.inl rfl) (pe_op op_xor (pv 2) (pe_op op_shl pe_int (pe_op op_mod (pe_ix (show IxR _ (rIxL K) from ix_list) (pv 0) (pe_op op_add pe_int (pv 3)) (fun _ _ => rfl)) pe_int))))))
      (pss_one (ps_ret (pv 2)))))), ?_⟩
    show (_ : L2.TS) _ [some _, some _, none, none] H
    try simp only [Z.kx]
    obtain ⟨m0, m1, m2, m3, m4, m5, m6, rfl⟩ := Z.len7 l7
    have hb0 := hm m0 (by simp)
    have hb1 := hm m1 (by simp)
    wtm_at "r"
    refine Z.r_ixL ha (v := .int m0) rfl ?_
    wtm_at "r"
    with_reducible refine Z.i_2 (fun h => ?_) (fun h => ?_)
    · wtm_at "r"
      refine Z.r_ixL ha (v := .int m1) rfl ?_
      wtm_at "r"
      have := q (m1 % 262144).toNat (by omega)
      rw [show (((m1 % 262144).toNat : Nat) : Int) = m1 % 262144 by omega] at this
      exact this
    · wtm_at "r"
      refine Z.r_ixL ha (v := .int m0) rfl ?_
      wtm_at "r"
      have hi : (m0 / 4 % 34).toNat < ws.length := by omega
      refine Z.r_ixL hb (nv_at (j := (m0 / 4 % 34).toNat) (by omega) hi) ?_
      have hw0 : ws.getD (m0 / 4 % 34).toNat 0 < 262144 := by
        rw [List.getD_eq_getElem?_getD, List.getElem?_eq_getElem hi]
        exact hw _ (List.getElem_mem _)
      generalize ws.getD (m0 / 4 % 34).toNat 0 = w0 at hw0
      wtm_at "r"
      refine Z.r_ixL ha (v := .int m0) rfl ?_
      wtm_at "r"
      refine Z.rng_go (m0 / 136 % 6).toNat rfl ⟨by omega, by omega⟩ (fun k σ H2 => ∃ (x : Option V) (w : Nat), σ = [some (.ref a), some (.ref b), some (.int w), x] ∧ H2 = H ∧ w < 262144) ⟨none, w0, rfl, rfl, hw0⟩ ?_ ?_
      · rintro k σ H2 hk ⟨x, w, rfl, rfl, hw1⟩
        have hk' : k < 6 := by omega
        obtain ⟨mk, hmk⟩ : ∃ mk, [m0, m1, m2, m3, m4, m5, m6][1 + k]? = some mk := ⟨_, List.getElem?_eq_getElem (by simp; omega)⟩
        have hmb := hm mk (List.mem_of_getElem? hmk)
        wtm_at "r"
        refine Z.r_ixL ha (Z.at_map (j := 1 + k) (by omega) hmk) ?_
        wtm_at "r"
        obtain ⟨t, et, ht⟩ : ∃ t : Nat, mk % 18 = (t : Int) ∧ t < 18 := ⟨(mk % 18).toNat, by omega, by omega⟩
        rw [et, show (1 : Int) = ((1 : Nat) : Int) from rfl, nat_shl, nat_xor]
        refine ⟨_, _, rfl, rfl, Nat.xor_lt_two_pow (n := 18) hw1 ?_⟩
        rw [Nat.shiftLeft_eq, Nat.one_mul]
        exact Nat.pow_lt_pow_right (by decide) ht
      · rintro σ H2 ⟨x, w, rfl, rfl, hw1⟩
        wtm_at "r"
        exact q w hw1
def sp_law (K : PySem.W.Frag) : Sp := fun vs H Q _ => ∃ (a : Addr) (ns : List Int), vs = [.ref a] ∧ SqL K H a (ns.map V.int) ∧ ns.length ≤ 63 ∧ ∀ H1, Q (.bl true) H1
set_option maxHeartbeats 2000000 in
theorem ok_law (T : Top K mg) : FnOk P w K mg base CX0 4 T.a_law T.d_law pl_law (sp_law K) := by
  refine T.F_law.ok sc_law (fun vs H Q E h => ?_) (fun cdv A outer s H vs Q E hr h => ?_)
  · obtain ⟨a, ns, rfl, _⟩ := h
    rfl
  · obtain ⟨a, ns, rfl, hS, hn, q⟩ := h
    have hu := hu_of hr
    refine ⟨_, (pss_cons (ps_set (i := 1) sc_law.nd rfl (Or.inl rfl) (pe_lst pa_nil))
      (pss_cons (ps_for PassesOwn.never rfl (pi_range2 rfl T.n_range (pa_cons pe_int (pa_cons pe_int pa_nil))) (pg_name (i := 2) sc_law.nd rfl (Or.inl rfl)) (pss_cons (ps_set (i := 3) sc_law.nd rfl (Or.inl rfl) (pe_call (ok_version_word T) (hr.mono (by decide)) (by rfl) T.g_version_word T.F_version_word.kp T.b_version_word .nil pass0 (pa_cons (pv 2) pa_nil)))
      (pss_cons (ps_if (PW.pt (pw_or (pt_not (pt_val (pe_call (ok__law_is_integer T) (hr.mono (by decide)) (by rfl) T.g__law_is_integer T.F__law_is_integer.kp T.b__law_is_integer .nil pass0 (pa_cons (pv 3) pa_nil)))) (pw_or1 (pt_cmpR op_ne (pv 3) (pe_call (ok__law_left T) (hr.mono (by decide)) (by rfl) T.g__law_left T.F__law_left.kp T.b__law_left .nil pass0 (pa_cons (pv 2) (pa_cons pe_int (pa_cons pe_int (pa_cons pe_int pa_nil))))) (nomark _))))) (pss_one (ps_ret pe_bl)) pss_nil)
      (pss_cons (ps_for PassesOwn.never rfl (pi_list (pv 1)) (pg_name (i := 4) sc_law.nd rfl (Or.inl rfl)) (pss_one (ps_if (pt_cmpR op_lt (pe_call (ok__law_far T) (hr.mono (by decide)) (by rfl) T.g__law_far T.F__law_far.kp T.b__law_far .nil pass0 (pa_cons (pv 3) (pa_cons (pv 4) pa_nil))) pe_int (nomark _)) (pss_one (ps_ret pe_bl)) pss_nil)))
      (pss_one (ps_expr (pe_bm PySem.F.plainAttrs_list PySem.F.slot_list_append PySem.F.type_list_append mt_append (pv 1) (pa_cons (pv 3) pa_nil))))))))
      (pss_cons (ps_for PassesOwn.never rfl (pi_list (pe_slice (show SlR _ (rSlL K) from sl_list) (pv 0) po_none (po_some pe_int))) (pg_name (i := 5) sc_law.nd rfl (Or.inl rfl)) (pss_cons (ps_set (i := 6) sc_law.nd rfl (Or.inl rfl) (pe_call (ok__law_draw T) (hr.mono (by decide)) (by rfl) T.g__law_draw T.F__law_draw.kp T.b__law_draw .nil pass0 (pa_cons (pv 5) (pa_cons pe_int (pa_cons (pe_op op_shl pe_int pe_int) pa_nil)))))
      (pss_cons (ps_set (i := 7) sc_law.nd rfl (Or.inr rfl) (pe_call (ok__law_copy T) (hr.mono (by decide)) (by rfl) T.g__law_copy T.F__law_copy.kp T.b__law_copy .nil pass0 (pa_cons (pe_slice (show SlR _ (rSlL K) from sl_list) (pv 6) po_none (po_some pe_int)) (pa_cons (pv 1) pa_nil))))
      (pss_cons (ps_set (i := 8) sc_law.nd rfl (Or.inl rfl) (pe_call (ok__law_copy T) (hr.mono (by decide)) (by rfl) T.g__law_copy T.F__law_copy.kp T.b__law_copy .nil pass0 (pa_cons (pe_slice (show SlR _ (rSlL K) from sl_list) (pv 6) (po_some pe_int) (po_some pe_int)) (pa_cons (pv 1) pa_nil))))
      (pss_cons (ps_set (i := 2) sc_law.nd rfl (Or.inl rfl) (pe_op op_add pe_int (pe_op op_mod (pe_ix (show IxR _ (rIxL K) from ix_list) (pv 6) pe_int (fun _ _ => rfl)) pe_int)))
      (C8.pss_cut (ps_if (pt_cmpR op_gt (pe_op op_mod (pe_op op_fdiv (pe_ix (show IxR _ (rIxL K) from ix_list) (pv 6) pe_int (fun _ _ => rfl)) pe_int) pe_int) pe_int (nomark _)) (pss_one (ps_set (i := 2) sc_law.nd rfl (Or.inl rfl) (pe_op op_add pe_int (pe_op op_mod (pe_op op_fdiv (pe_ix (show IxR _ (rIxL K) from ix_list) (pv 6) pe_int (fun _ _ => rfl)) pe_int) pe_int)))) pss_nil)
      (pss_cons (ps_set (i := 4) sc_law.nd rfl (Or.inl rfl) (pe_ix (show IxR _ (rIxL K) from ix_list) (pv 1) (pe_op op_sub (pv 2) pe_int) (fun _ _ => rfl)))
      (pss_cons (ps_set (i := 9) sc_law.nd rfl (Or.inl rfl) (pe_cmpR op_le (pe_callB (call_min2 rfl) (by rfl) T.n_min (by decide +kernel) (pa_cons (pe_call (ok__law_far T) (hr.mono (by decide)) (by rfl) T.g__law_far T.F__law_far.kp T.b__law_far .nil pass0 (pa_cons (pv 7) (pa_cons (pv 4) pa_nil))) (pa_cons (pe_call (ok__law_far T) (hr.mono (by decide)) (by rfl) T.g__law_far T.F__law_far.kp T.b__law_far .nil pass0 (pa_cons (pv 8) (pa_cons (pv 4) pa_nil))) pa_nil))) pe_int (nomark _)))
      (pss_cons (ps_set (i := 3) sc_law.nd rfl (Or.inl rfl) (pe_call (ok_version_agrees T) (hr.mono (by decide)) (by rfl) T.g_version_agrees T.F_version_agrees.kp T.b_version_agrees .nil pass0 (pa_cons (pv 2) (pa_cons (pv 7) (pa_cons (pv 8) pa_nil)))))
      (pss_cons (ps_if (PW.pt (pw_or (pt_not (pt_val (pe_callB (show CallR _ _ (rIsi K) from call_isi) (by rfl) T.n_isinstance (by decide +kernel) (pa_cons (pv 3) (pa_cons (pe_bltn (v := .ty "bool") (u := .type "bool") (by rfl) T.n_bool (by decide +kernel) rfl) pa_nil))))) (pw_or1 (pt_cmpR op_ne (pv 3) (pv 9) (nomark _))))) (pss_one (ps_ret pe_bl)) pss_nil)
      (pss_one (ps_if (PW.pt (pw_and (pt_cmpR op_eq (pe_op op_mod (pe_ix (show IxR _ (rIxL K) from ix_list) (pv 6) pe_int (fun _ _ => rfl)) pe_int) pe_int (nomark _)) (pw_and1 (pt_cmpR op_gt (pe_callB (show CallR _ _ (Z.cLen K) from Z.call_len) (by rfl) T.n_len (by decide +kernel) (pa_cons (pe_lc (own := [("other", 10)]) rfl sc_law.nd (pi_range2 rfl T.n_range (pa_cons pe_int (pa_cons pe_int pa_nil))) (blkOk_by (N := sl_law) (sc := defScope s_law) (by decide +kernel)) (fun _ _ _ _ _ => (pg_name (i := 10) sc_law.nd rfl (Or.inl rfl))) (fun _ _ _ _ _ => (pts_one (pt_val (pe_call (ok_version_agrees T) (hr.mono (by decide)) (by rfl) T.g_version_agrees T.F_version_agrees.kp T.b_version_agrees .nil pass0 (pa_cons (pv 10) (pa_cons (pv 7) (pa_cons (pv 7) pa_nil))))))) (fun _ _ _ _ _ => (pv 10))) pa_nil)) pe_int (nomark _))))) (pss_one (ps_ret pe_bl)) pss_nil))))))))))))
      (pss_one (ps_ret pe_bl))))), ?_⟩
    show (_ : L2.TS) _ [some _, none, none, none, none, none, none, none, none, none, none] H
    try simp only [Z.kx]
    wtm_at "r"
    refine ⟨by show 0 ≤ sizeLine; decide, fun p hp => ?_⟩
    wtm_at "r"
    refine Z.rng_go2 34 rfl ⟨by omega, by omega, by omega, by omega⟩ (fun i σ H2 => ∃ (x2 x3 x4 : Option V), σ = [some (.ref a), some (.ref p), x2, x3, x4, none, none, none, none, none, none] ∧ Same H H2 ∧ H2 p = some (.lst (nv (vws.take i)))) ⟨_, _, _, rfl, Z.s_upd hp, by exact L2.upd_same⟩ ?_ ?_
    · rintro i σ H2 hi ⟨x2, x3, x4, rfl, s2, hl⟩
      obtain ⟨r, hr, e1, e2, e3⟩ := vw_rem (v := 7 + i) (by omega) (by omega)
      have e7 : (7 : Int) + (i : Nat) = ((7 + i : Nat) : Int) := by omega
      wtm_at "r"
      rw [e7]
      refine ⟨7 + i, rfl, by omega, by omega, ?_⟩
      wtm_at "r"
      refine ⟨_, rfl, ?_⟩
      wtm_at "r"
      refine ⟨7 + i, 7973, 6, 12, rfl, by omega, by decide, by decide, by decide, ?_⟩
      rw [← e2]
      wtm_at "r"
      with_reducible refine Z.i_df (not_not_intro rfl) ?_
      wtm_at "r"
      refine Z.lst_go (Z.sq_l hl) (fun j σ H3 => ∃ (x4 : Option V), σ = [some (.ref a), some (.ref p), some (.int (7 + i : Nat)), some (.int (vwN (7 + i) : Nat)), x4, none, none, none, none, none, none] ∧ H3 = H2) ⟨_, rfl, rfl⟩ (fun j σ H3 _ ⟨_, _, e⟩ => by subst e; exact Z.sq_l hl) ?_ ?_
      · rintro j y σ H3 hj ⟨x4, rfl, rfl⟩
        obtain ⟨c, hc, rfl⟩ := nv_get hj
        have hji : j < i := by
          have := (List.getElem?_eq_some_iff.mp hc).1
          rw [List.length_take] at this; omega
        have ec : c = vwN (7 + j) := by
          rw [vws_take i (by omega), List.getElem?_map, List.getElem?_range hji] at hc
          exact (Option.some.inj hc).symm
        subst ec
        have d := vw_dist (i := i) (by omega) hji
        wtm_at "r"
        refine ⟨_, _, rfl, ?_⟩
        wtm_at "r"
        with_reducible refine Z.i_df (by omega) ?_
        wtm_at "r"
        exact ⟨_, rfl, rfl⟩
      · rintro σ H3 ⟨x4, rfl, rfl⟩
        wtm_at "r"
        refine Z.r_append hl (Z.szl (by rw [nv_len, List.length_take]; omega)) ?_
        refine ⟨_, _, _, rfl, Z.s_mut s2 hp, ?_⟩
        rw [show nv (vws.take (i + 1)) = nv (vws.take i) ++ [V.int (vwN (7 + i) : Nat)] from by
          rw [vws_take (i + 1) (by omega), vws_take i (by omega), List.range_succ, List.map_append]
          exact List.map_append]
        exact L2.upd_same
    rintro σ H2 ⟨x2, x3, x4, rfl, s2, hl⟩
    rw [show vws.take 34 = vws from List.take_of_length_le (by unfold vws; simp)] at hl
    have lw : vws.length = 34 := by unfold vws; simp
    have bw : ∀ w ∈ vws, w < 262144 := fun w hw => by
      unfold vws at hw
      obtain ⟨i, hi, rfl⟩ := List.mem_map.mp hw
      have hi' := List.mem_range.mp hi
      obtain ⟨r, hr, e1, e2, e3⟩ := vw_rem (v := 7 + i) (by omega) (by omega)
      exact e3
    wtm_at "r"
    refine Z.r_take 30 rfl (Z.s_sq s2 hS) (fun pc H3 nc s3 hc3 => ?_)
    have hl3 := s3 _ _ hl
    refine Z.lst_go (Z.sq_l hc3) (fun i σ H4 => ∃ (x2 x3 x4 x5 x6 x7 x8 x9 x10 : Option V), σ = [some (.ref a), some (.ref p), x2, x3, x4, x5, x6, x7, x8, x9, x10] ∧ Same H3 H4) ⟨_, _, _, _, _, _, _, _, _, rfl, Same.refl _⟩ (fun i σ H4 _ ⟨_, _, _, _, _, _, _, _, _, _, s4⟩ => Z.sq_l (s4 _ _ hc3)) ?_ ?_
    · rintro i v σ H4 hi ⟨x2, x3, x4, x5, x6, x7, x8, x9, x10, rfl, s4⟩
      obtain ⟨c, _, rfl⟩ := Z.get_map hi
      wtm_at "r"
      rw [show (1 : Int) * 2 ^ Int.toNat 20 = 1048576 by decide]
      refine ⟨_, _, _, rfl, by decide, by decide, by decide, by decide, fun pm ms H5 s5 nm hm el hb => ?_⟩
      have lms : ms.length = 15 := by omega
      have hl5 := s5 _ _ (s4 _ _ hl3)
      wtm_at "r"
      refine Z.r_take 7 rfl (Z.sq_l hm) (fun p1 H6 n1 s6 h6 => ?_)
      wtm_at "r"
      refine ⟨p1, p, ms.take 7, vws, rfl, Z.sq_l h6, Z.sq_l (s6 _ _ hl5), by rw [List.length_take]; omega, fun n hn => hb n (List.mem_of_mem_take hn), lw, bw, fun f hf => ?_⟩
      wtm_at "r"
      refine Z.r_slL (Z.sq_l (s6 _ _ hm)) (fun p2 n2 => ?_)
      rw [show cutV (ms.map V.int) (some 7) (some 14) = ((ms.drop 7).take 7).map V.int from by rw [show (7 : Int) = ((7 : Nat) : Int) from rfl, show (14 : Int) = ((14 : Nat) : Int) from rfl, Z.cut_mid (by decide), List.map_take, List.map_drop]]
      have s7 : Same H6 (upd H6 p2 (.lst (((ms.drop 7).take 7).map V.int))) := Z.s_upd n2
      have h7 : (upd H6 p2 (.lst (((ms.drop 7).take 7).map V.int))) p2 = some (.lst (((ms.drop 7).take 7).map V.int)) := L2.upd_same
      generalize upd H6 p2 (.lst (((ms.drop 7).take 7).map V.int)) = H7 at s7 h7
      wtm_at "r"
      refine ⟨p2, p, _, vws, rfl, Z.sq_l h7, Z.sq_l (s7 _ _ (s6 _ _ hl5)), by rw [List.length_take, List.length_drop]; omega, fun n hn => hb n (List.mem_of_mem_drop (List.mem_of_mem_take hn)), lw, bw, fun g hg => ?_⟩
      have hm7 := s7 _ _ (s6 _ _ hm)
      have hl7 := s7 _ _ (s6 _ _ hl5)
      have s37 : Same H3 H7 := s4.trans (s5.trans (s6.trans s7))
      have g14 : ms[14]? = some ms[14] := List.getElem?_eq_getElem (by omega)
      have g0 : ms[0]? = some ms[0] := List.getElem?_eq_getElem (by omega)
      have b14 := hb ms[14] (List.getElem_mem _)
      have b0 := hb ms[0] (List.getElem_mem _)
      generalize ms[14] = m14 at g14 b14
      generalize ms[0] = m0 at g0 b0
      wtm_at "r"
      refine Z.r_ixL (Z.sq_l hm7) (Z.at_map (j := 14) rfl g14) ?_
      wtm_at "r"
      refine Z.r_cut (fun σ H8 => ∃ (v : Nat), 7 ≤ v ∧ v < 41 ∧ σ = [some (.ref a), some (.ref p), some (.int v), x3, x4, some (.int c), some (.ref pm), some (.int f), some (.int g), x9, x10] ∧ H8 = H7) ?_ ?_
      · wtm_at "r"
        refine Z.r_ixL (Z.sq_l hm7) (Z.at_map (j := 14) rfl g14) ?_
        wtm_at "r"
        with_reducible refine Z.i_2 (fun h => ?_) (fun h => ?_)
        · wtm_at "r"
          refine Z.r_ixL (Z.sq_l hm7) (Z.at_map (j := 0) rfl g0) ?_
          wtm_at "r"
          exact ⟨(7 + m0 / 4 % 34).toNat, by omega, by omega, by rw [show (((7 + m0 / 4 % 34).toNat : Nat) : Int) = 7 + m0 / 4 % 34 by omega], rfl⟩
        · wtm_at "r"
          exact ⟨(7 + m14 % 34).toNat, by omega, by omega, by rw [show (((7 + m14 % 34).toNat : Nat) : Int) = 7 + m14 % 34 by omega], rfl⟩
      rintro σ H8 ⟨v, v7, v41, rfl, rfl⟩
      wtm_at "r"
      refine Z.r_ixL (Z.sq_l hl7) (nv_at (j := v - 7) (by omega) (by omega)) ?_
      rw [vws_get (by omega), show 7 + (v - 7) = v by omega]
      wtm_at "r"
      refine ⟨f, _, rfl, ?_⟩
      wtm_at "r"
      refine ⟨g, _, rfl, ?_⟩
      wtm_at "r"
      refine ⟨_, _, rfl, ?_⟩
      wtm_at "r"
      refine ⟨v, f, g, rfl, v7, v41, by omega, by omega, ?_⟩
      wtm_at "r"
      refine Z.r_isi (b := true) (.ty "bool") (.base (.bl _)) (kit_ty (by decide +kernel)) ?_
      wtm_at "r"
      have e : agN v f g = Z.dB ((if ((farN g (vwN v) : Nat) : Int) < (farN f (vwN v) : Nat) then ((farN g (vwN v) : Nat) : Int) else (farN f (vwN v) : Nat)) ≤ 3) := Z.dB_iff (by
        unfold farN
        rw [Nat.xor_comm f, Nat.xor_comm g]
        split <;> omega)
      rw [← e]
      with_reducible refine Z.i_df (not_not_intro rfl) ?_
      wtm_at "r"
      refine Z.r_ixL (Z.sq_l hm7) (Z.at_map (j := 14) rfl g14) ?_
      wtm_at "r"
      with_reducible refine Z.i_2 (fun h => ?_) (fun h => ?_)
      · wtm_at "r"
        refine Z.lcr2_filt 34 (fun i => agN (7 + i) f f) (fun i => V.int (7 + (i : Nat))) rfl ⟨by omega, by omega, by omega, by omega⟩ (by decide) (fun _ => rfl) ?_ ?_ ?_
        · intro i H9 hi s9 k hk
          wtm_at "w"
          wtm_at "r"
          refine ⟨7 + i, f, f, by rw [show (7 : Int) + (i : Nat) = ((7 + i : Nat) : Int) by omega]; rfl, by omega, by omega, by omega, by omega, ?_⟩
          exact ⟨_, rfl, hk _ (Same.refl _)⟩
        · intro i H9 hi s9 k hk
          wtm_at "w"
          wtm_at "r"
          exact hk _ (Same.refl _)
        · intro D H9 nD s9 hD
          have hle := ag_one f
          wtm_at "r"
          rw [List.length_map]
          with_reducible refine Z.i_df (by omega) ?_
          wtm_at "r"
          exact ⟨_, _, _, _, _, _, _, _, _, rfl, s37.trans s9⟩
      · wtm_at "r"
        exact ⟨_, _, _, _, _, _, _, _, _, rfl, s37⟩
    · rintro σ H4 ⟨x2, x3, x4, x5, x6, x7, x8, x9, x10, rfl, s4⟩
      wtm_at "r"
      exact q _
end
theorem all_mk {l : PySem.W.OpenLaw} {w : World} {K : PySem.W.Frag} {h : Heap} {mg : Str → Option Value} {fa : Addr} (X : K.In h) (G : h.Ns mainGlobals mg) (hfa : mg "law" = some (.ref fa))
    {f0 : Addr} {od0 an0 : Option Addr} {sl0 : Array (Option Value)} {oc0 kV0 dc0 pm0 cd0 ct0 : Value}
    {f1 : Addr} {od1 an1 : Option Addr} {sl1 : Array (Option Value)} {oc1 kV1 dc1 pm1 cd1 ct1 : Value}
    {f2 : Addr} {od2 an2 : Option Addr} {sl2 : Array (Option Value)} {oc2 kV2 dc2 pm2 cd2 ct2 : Value}
    {f3 : Addr} {od3 an3 : Option Addr} {sl3 : Array (Option Value)} {oc3 kV3 dc3 pm3 cd3 ct3 : Value}
    {f4 : Addr} {od4 an4 : Option Addr} {sl4 : Array (Option Value)} {oc4 kV4 dc4 pm4 cd4 ct4 : Value}
    {f5 : Addr} {od5 an5 : Option Addr} {sl5 : Array (Option Value)} {oc5 kV5 dc5 pm5 cd5 ct5 : Value}
    {f6 : Addr} {od6 an6 : Option Addr} {sl6 : Array (Option Value)} {oc6 kV6 dc6 pm6 cd6 ct6 : Value}
    {f7 : Addr} {od7 an7 : Option Addr} {sl7 : Array (Option Value)} {oc7 kV7 dc7 pm7 cd7 ct7 : Value}
    {f8 : Addr} {od8 an8 : Option Addr} {sl8 : Array (Option Value)} {oc8 kV8 dc8 pm8 cd8 ct8 : Value}
    {f9 : Addr} {od9 an9 : Option Addr} {sl9 : Array (Option Value)} {oc9 kV9 dc9 pm9 cd9 ct9 : Value}
    {f10 : Addr} {od10 an10 : Option Addr} {sl10 : Array (Option Value)} {oc10 kV10 dc10 pm10 cd10 ct10 : Value}
    (a0 : PySem.W.nsIn K mainGlobals "remainder" = some (some (.ref f0)))
    (l0 : K.lookup f0 = some ⟨oc0, od0, .func (PySem.W.fnOf "remainder" "remainder" (defArgs s_remainder) (defBody s_remainder) (defScope s_remainder) .none kV0 dc0 pm0 an0 cd0 ct0), sl0⟩)
    (c0 : PySem.W.codeIn K cd0 "remainder" = true) (k0 : PySem.W.keepIn K (.ref f0) = true)
    (a1 : PySem.W.nsIn K mainGlobals "ones" = some (some (.ref f1)))
    (l1 : K.lookup f1 = some ⟨oc1, od1, .func (PySem.W.fnOf "ones" "ones" (defArgs s_ones) (defBody s_ones) (defScope s_ones) .none kV1 dc1 pm1 an1 cd1 ct1), sl1⟩)
    (c1 : PySem.W.codeIn K cd1 "ones" = true) (k1 : PySem.W.keepIn K (.ref f1) = true)
    (a2 : PySem.W.nsIn K mainGlobals "distance" = some (some (.ref f2)))
    (l2 : K.lookup f2 = some ⟨oc2, od2, .func (PySem.W.fnOf "distance" "distance" (defArgs s_distance) (defBody s_distance) (defScope s_distance) .none kV2 dc2 pm2 an2 cd2 ct2), sl2⟩)
    (c2 : PySem.W.codeIn K cd2 "distance" = true) (k2 : PySem.W.keepIn K (.ref f2) = true)
    (a3 : PySem.W.nsIn K mainGlobals "version_word" = some (some (.ref f3)))
    (l3 : K.lookup f3 = some ⟨oc3, od3, .func (PySem.W.fnOf "version_word" "version_word" (defArgs s_version_word) (defBody s_version_word) (defScope s_version_word) .none kV3 dc3 pm3 an3 cd3 ct3), sl3⟩)
    (c3 : PySem.W.codeIn K cd3 "version_word" = true) (k3 : PySem.W.keepIn K (.ref f3) = true)
    (a4 : PySem.W.nsIn K mainGlobals "version_agrees" = some (some (.ref f4)))
    (l4 : K.lookup f4 = some ⟨oc4, od4, .func (PySem.W.fnOf "version_agrees" "version_agrees" (defArgs s_version_agrees) (defBody s_version_agrees) (defScope s_version_agrees) .none kV4 dc4 pm4 an4 cd4 ct4), sl4⟩)
    (c4 : PySem.W.codeIn K cd4 "version_agrees" = true) (k4 : PySem.W.keepIn K (.ref f4) = true)
    (a5 : PySem.W.nsIn K mainGlobals "_law_draw" = some (some (.ref f5)))
    (l5 : K.lookup f5 = some ⟨oc5, od5, .func (PySem.W.fnOf "_law_draw" "_law_draw" (defArgs s__law_draw) (defBody s__law_draw) (defScope s__law_draw) .none kV5 dc5 pm5 an5 cd5 ct5), sl5⟩)
    (c5 : PySem.W.codeIn K cd5 "_law_draw" = true) (k5 : PySem.W.keepIn K (.ref f5) = true)
    (a6 : PySem.W.nsIn K mainGlobals "_law_is_integer" = some (some (.ref f6)))
    (l6 : K.lookup f6 = some ⟨oc6, od6, .func (PySem.W.fnOf "_law_is_integer" "_law_is_integer" (defArgs s__law_is_integer) (defBody s__law_is_integer) (defScope s__law_is_integer) .none kV6 dc6 pm6 an6 cd6 ct6), sl6⟩)
    (c6 : PySem.W.codeIn K cd6 "_law_is_integer" = true) (k6 : PySem.W.keepIn K (.ref f6) = true)
    (a7 : PySem.W.nsIn K mainGlobals "_law_left" = some (some (.ref f7)))
    (l7 : K.lookup f7 = some ⟨oc7, od7, .func (PySem.W.fnOf "_law_left" "_law_left" (defArgs s__law_left) (defBody s__law_left) (defScope s__law_left) .none kV7 dc7 pm7 an7 cd7 ct7), sl7⟩)
    (c7 : PySem.W.codeIn K cd7 "_law_left" = true) (k7 : PySem.W.keepIn K (.ref f7) = true)
    (a8 : PySem.W.nsIn K mainGlobals "_law_far" = some (some (.ref f8)))
    (l8 : K.lookup f8 = some ⟨oc8, od8, .func (PySem.W.fnOf "_law_far" "_law_far" (defArgs s__law_far) (defBody s__law_far) (defScope s__law_far) .none kV8 dc8 pm8 an8 cd8 ct8), sl8⟩)
    (c8 : PySem.W.codeIn K cd8 "_law_far" = true) (k8 : PySem.W.keepIn K (.ref f8) = true)
    (a9 : PySem.W.nsIn K mainGlobals "_law_copy" = some (some (.ref f9)))
    (l9 : K.lookup f9 = some ⟨oc9, od9, .func (PySem.W.fnOf "_law_copy" "_law_copy" (defArgs s__law_copy) (defBody s__law_copy) (defScope s__law_copy) .none kV9 dc9 pm9 an9 cd9 ct9), sl9⟩)
    (c9 : PySem.W.codeIn K cd9 "_law_copy" = true) (k9 : PySem.W.keepIn K (.ref f9) = true)
    (a10 : PySem.W.nsIn K mainGlobals "law" = some (some (.ref f10)))
    (l10 : K.lookup f10 = some ⟨oc10, od10, .func (PySem.W.fnOf "law" "law" (defArgs s_law) (defBody s_law) (defScope s_law) .none kV10 dc10 pm10 an10 cd10 ct10), sl10⟩)
    (c10 : PySem.W.codeIn K cd10 "law" = true) (k10 : PySem.W.keepIn K (.ref f10) = true)
    (z_min : PySem.W.nsIn K mainGlobals "min" = some none)
    (z_range : PySem.W.nsIn K mainGlobals "range" = some none)
    (z_int : PySem.W.nsIn K mainGlobals "int" = some none)
    (z_isinstance : PySem.W.nsIn K mainGlobals "isinstance" = some none)
    (z_bool : PySem.W.nsIn K mainGlobals "bool" = some none)
    (z_len : PySem.W.nsIn K mainGlobals "len" = some none) :
    ∃ fd : FuncData, (∀ (s : Shared) (v : Value), BindsTo s fd ⟨[v], []⟩ [("script", v)]) ∧ ∀ base : Heap, K.In base → base.Ns mainGlobals mg → FnOk l.prog w K mg base CX0 4 fa fd pl_law (sp_law K) := by
  have e := hfa.symm.trans (PySem.W.mg_of X G a10)
  cases e
  let T : Top K mg := {
    a_remainder := f0,
    d_remainder := _,
    F_remainder := fun_mk (st := s_remainder) l0 c0 k0,
    b_remainder := (fun_mk (st := s_remainder) l0 c0 k0).binds (ps := pl_remainder) fun _ _ _ _ _ _ us hl => match us, hl with | [_, _], _ => rfl,
    g_remainder := PySem.W.mg_of X G a0,
    a_ones := f1,
    d_ones := _,
    F_ones := fun_mk (st := s_ones) l1 c1 k1,
    b_ones := (fun_mk (st := s_ones) l1 c1 k1).binds (ps := pl_ones) fun _ _ _ _ _ _ us hl => match us, hl with | [_], _ => rfl,
    g_ones := PySem.W.mg_of X G a1,
    a_distance := f2,
    d_distance := _,
    F_distance := fun_mk (st := s_distance) l2 c2 k2,
    b_distance := (fun_mk (st := s_distance) l2 c2 k2).binds (ps := pl_distance) fun _ _ _ _ _ _ us hl => match us, hl with | [_, _], _ => rfl,
    g_distance := PySem.W.mg_of X G a2,
    a_version_word := f3,
    d_version_word := _,
    F_version_word := fun_mk (st := s_version_word) l3 c3 k3,
    b_version_word := (fun_mk (st := s_version_word) l3 c3 k3).binds (ps := pl_version_word) fun _ _ _ _ _ _ us hl => match us, hl with | [_], _ => rfl,
    g_version_word := PySem.W.mg_of X G a3,
    a_version_agrees := f4,
    d_version_agrees := _,
    F_version_agrees := fun_mk (st := s_version_agrees) l4 c4 k4,
    b_version_agrees := (fun_mk (st := s_version_agrees) l4 c4 k4).binds (ps := pl_version_agrees) fun _ _ _ _ _ _ us hl => match us, hl with | [_, _, _], _ => rfl,
    g_version_agrees := PySem.W.mg_of X G a4,
    a__law_draw := f5,
    d__law_draw := _,
    F__law_draw := fun_mk (st := s__law_draw) l5 c5 k5,
    b__law_draw := (fun_mk (st := s__law_draw) l5 c5 k5).binds (ps := pl__law_draw) fun _ _ _ _ _ _ us hl => match us, hl with | [_, _, _], _ => rfl,
    g__law_draw := PySem.W.mg_of X G a5,
    a__law_is_integer := f6,
    d__law_is_integer := _,
    F__law_is_integer := fun_mk (st := s__law_is_integer) l6 c6 k6,
    b__law_is_integer := (fun_mk (st := s__law_is_integer) l6 c6 k6).binds (ps := pl__law_is_integer) fun _ _ _ _ _ _ us hl => match us, hl with | [_], _ => rfl,
    g__law_is_integer := PySem.W.mg_of X G a6,
    a__law_left := f7,
    d__law_left := _,
    F__law_left := fun_mk (st := s__law_left) l7 c7 k7,
    b__law_left := (fun_mk (st := s__law_left) l7 c7 k7).binds (ps := pl__law_left) fun _ _ _ _ _ _ us hl => match us, hl with | [_, _, _, _], _ => rfl,
    g__law_left := PySem.W.mg_of X G a7,
    a__law_far := f8,
    d__law_far := _,
    F__law_far := fun_mk (st := s__law_far) l8 c8 k8,
    b__law_far := (fun_mk (st := s__law_far) l8 c8 k8).binds (ps := pl__law_far) fun _ _ _ _ _ _ us hl => match us, hl with | [_, _], _ => rfl,
    g__law_far := PySem.W.mg_of X G a8,
    a__law_copy := f9,
    d__law_copy := _,
    F__law_copy := fun_mk (st := s__law_copy) l9 c9 k9,
    b__law_copy := (fun_mk (st := s__law_copy) l9 c9 k9).binds (ps := pl__law_copy) fun _ _ _ _ _ _ us hl => match us, hl with | [_, _], _ => rfl,
    g__law_copy := PySem.W.mg_of X G a9,
    a_law := fa,
    d_law := _,
    F_law := fun_mk (st := s_law) l10 c10 k10,
    b_law := (fun_mk (st := s_law) l10 c10 k10).binds (ps := pl_law) fun _ _ _ _ _ _ us hl => match us, hl with | [_], _ => rfl,
    g_law := PySem.W.mg_of X G a10,
    n_min := PySem.W.mg_none_of X G z_min,
    n_range := PySem.W.mg_none_of X G z_range,
    n_int := PySem.W.mg_none_of X G z_int,
    n_isinstance := PySem.W.mg_none_of X G z_isinstance,
    n_bool := PySem.W.mg_none_of X G z_bool,
    n_len := PySem.W.mg_none_of X G z_len }
  exact ⟨T.d_law, fun s v => .of_eq rfl, fun base _ _ => ok_law T⟩
end M_k14
open PySem PySem.W PyProof.Rows
set_option maxRecDepth 100000 in
set_option maxHeartbeats 0 in
theorem PySem.Challenge.cw_dotfield_k14_version_words_holds : PySem.Challenge.rw_dotfield_k14_version_words.Holds := by
  w_on; o_law; k_head; (case hw => w_witness2)
  k_fill
  refine L2.walk_of (l := PySem.Challenge.rw_dotfield_k14_version_words) (n := 63) (k := 4) (x := "script") (CX := fun _ => L2.CX0) (sp := fun w => M_k14.sp_law _) rfl (by decide) rfl ⟨rfl, by decide, by decide⟩ (fun w h Y => PySem.W.kIn_of Y) ?F (fun _ _ a ns hl _ hS => ⟨a, ns, rfl, hS, hl, fun _ => rfl⟩) (fun _ _ _ _ _ h => h)
  case F =>
    intro w mg fa h KX G hmg
    refine' M_k14.all_mk KX G hmg ?a0 ?l0 ?c0 ?k0 ?a1 ?l1 ?c1 ?k1 ?a2 ?l2 ?c2 ?k2 ?a3 ?l3 ?c3 ?k3 ?a4 ?l4 ?c4 ?k4 ?a5 ?l5 ?c5 ?k5 ?a6 ?l6 ?c6 ?k6 ?a7 ?l7 ?c7 ?k7 ?a8 ?l8 ?c8 ?k8 ?a9 ?l9 ?c9 ?k9 ?a10 ?l10 ?c10 ?k10 ?z_min ?z_range ?z_int ?z_isinstance ?z_bool ?z_len
    (case a0 => k_is)
    (case l0 => k_is)
    (case c0 => k_is)
    (case k0 => k_is)
    (case a1 => k_is)
    (case l1 => k_is)
    (case c1 => k_is)
    (case k1 => k_is)
    (case a2 => k_is)
    (case l2 => k_is)
    (case c2 => k_is)
    (case k2 => k_is)
    (case a3 => k_is)
    (case l3 => k_is)
    (case c3 => k_is)
    (case k3 => k_is)
    (case a4 => k_is)
    (case l4 => k_is)
    (case c4 => k_is)
    (case k4 => k_is)
    (case a5 => k_is)
    (case l5 => k_is)
    (case c5 => k_is)
    (case k5 => k_is)
    (case a6 => k_is)
    (case l6 => k_is)
    (case c6 => k_is)
    (case k6 => k_is)
    (case a7 => k_is)
    (case l7 => k_is)
    (case c7 => k_is)
    (case k7 => k_is)
    (case a8 => k_is)
    (case l8 => k_is)
    (case c8 => k_is)
    (case k8 => k_is)
    (case a9 => k_is)
    (case l9 => k_is)
    (case c9 => k_is)
    (case k9 => k_is)
    (case a10 => k_is)
    (case l10 => k_is)
    (case c10 => k_is)
    (case k10 => k_is)
    (case z_min => k_is)
    (case z_range => k_is)
    (case z_int => k_is)
    (case z_isinstance => k_is)
    (case z_bool => k_is)
    (case z_len => k_is)

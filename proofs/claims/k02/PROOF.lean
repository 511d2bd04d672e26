import PyProof.Rows.All
import Wide.All
import OpenK.AllK
import Wide.FinOn
import HandS.ForMost
import HandS.IsInst
import HandS.Codes
import HandS.Style
import PySem.Challenge.RW_dotfield_k02_bits_read
import HandS.ForExc
import HandS.ExcInit
import HandS.ExcField
import HandS.ExcIs
import KE.KTypeName
import HandS.CallSlots
import HandS.Defaults
set_option Elab.async false
set_option linter.all false
set_option maxRecDepth 100000
namespace Z
open PySem PySem.Spec PyProof.Rows L2
/-! ## Readings, step by step (own words over the layer) -/
section
variable {K : PySem.W.Frag} {D : Ends} {H : Hp} {Q : VK} {R : Bool → Hp → Prop}
theorem r_seq {σ : L2.St} {t u : TS} (h : t { D with nx := u D } σ H) : tSeq t u D σ H := h
theorem r_asg {σ : L2.St} {te : TE} {g : TG} (h : te σ H fun x H1 => g x σ H1 D.nx) : tAsg te g D σ H := h
theorem r_gname {σ σ2 : L2.St} {i : Nat} {v : V} {k : L2.St → Hp → Prop} (hs : σ.set i (some v) = σ2) (h : k σ2 H) : gName i v σ H k := by
  subst hs; exact h
theorem r_ret {σ : L2.St} {te : TE} (h : te σ H D.rt) : tRet te D σ H := h
theorem r_retN {σ : L2.St} (h : D.rt .non H) : tRetN D σ H := h
theorem r_drop {σ : L2.St} {te : TE} (h : te σ H fun _ H1 => D.nx σ H1) : tDrop te D σ H := h
theorem r_next {σ : L2.St} (h : D.nx σ H) : tNext D σ H := h
theorem r_brk {σ : L2.St} (h : D.bk σ H) : tBreak D σ H := h
theorem r_cnt {σ : L2.St} (h : D.ct σ H) : tCont D σ H := h
theorem r_if {σ : L2.St} {c : TT} {t u : TS} (h : c σ H fun b H1 => if b = true then t D σ H1 else u D σ H1) : tIfS c t u D σ H := h
theorem r_ifE {σ : L2.St} {c : TT} {t u : TE} (h : c σ H fun b H1 => if b = true then t σ H1 Q else u σ H1 Q) : tIf c t u σ H Q := h
theorem r_test {σ : L2.St} {t : TE} (h : t σ H fun x H' => ∃ k, x = .bl k ∧ R k H') : tTest t σ H R := h
theorem r_tB {σ : L2.St} {t : TE} (h : t σ H fun x H' => ∃ k, x = .bl k ∧ R k H') : tB t σ H R := h
theorem r_bl {b : Bool} {P : Bool → Prop} (q : P b) : ∃ k, V.bl b = V.bl k ∧ P k := ⟨b, rfl, q⟩
theorem r_and {σ : L2.St} {t u : TT} (h : t σ H fun c H1 => if c = true then u σ H1 R else R false H1) : tAnd t u σ H R := h
theorem r_or {σ : L2.St} {t u : TT} (h : t σ H fun c H1 => if c = true then R true H1 else u σ H1 R) : tOr t u σ H R := h
theorem r_not {σ : L2.St} {t : TT} (h : t σ H fun c H1 => R (!c) H1) : tNot t σ H R := h
theorem r_andV {σ : L2.St} {ta tb : TE} (h : ta σ H fun x H1 => ∃ c, x = .bl c ∧ if c = true then tb σ H1 Q else Q (.bl false) H1) : tAndV ta tb σ H Q := h
theorem r_orV {σ : L2.St} {ta tb : TE} (h : ta σ H fun x H1 => ∃ c, x = .bl c ∧ if c = true then Q (.bl true) H1 else tb σ H1 Q) : tOrV ta tb σ H Q := h
theorem r_notV {σ : L2.St} {ta : TE} (h : ta σ H fun x H1 => ∃ c, x = .bl c ∧ Q (.bl (!c)) H1) : tNotV ta σ H Q := h
theorem r_v0 {v : V} {l : List (Option V)} (q : Q v H) : tVar 0 (some v :: l) H Q := ⟨v, rfl, q⟩
theorem r_vS {i : Nat} {x : Option V} {l : List (Option V)} (q : tVar i l H Q) : tVar (i + 1) (x :: l) H Q := q
theorem r_v1 {a : Option V} {v : V} {l : List (Option V)} (q : Q v H) : tVar 1 (a :: some v :: l) H Q := ⟨v, rfl, q⟩
theorem r_v2 {a b : Option V} {v : V} {l : List (Option V)} (q : Q v H) : tVar 2 (a :: b :: some v :: l) H Q := ⟨v, rfl, q⟩
theorem r_var {σ : L2.St} {i : Nat} {v : V} (h : σ[i]? = some (some v)) (q : Q v H) : tVar i σ H Q := ⟨v, h, q⟩
theorem r_c {σ : L2.St} {v : V} (q : Q v H) : tC v σ H Q := q
theorem r_op {σ : L2.St} {r : R2} {ta tb : TE} (h : ta σ H fun x H1 => tb σ H1 fun y H2 => r x y H2 Q) : tOp r ta tb σ H Q := h
theorem r_un {σ : L2.St} {r : V → Hp → VK → Prop} {ta : TE} (h : ta σ H fun x H1 => r x H1 Q) : tUn r ta σ H Q := h
theorem r_chain {σ : L2.St} {r r' : R2} {ta tb tc : TE} (h : ta σ H fun x H1 => tb σ H1 fun y H2 => r x y H2 fun z H3 => ∃ k, z = .bl k ∧ (if k = true then tc σ H3 fun w' H4 => r' y w' H4 Q else Q (.bl false) H3)) : tChain r r' ta tb tc σ H Q := h
theorem r_nil {σ : L2.St} {P : List V → Hp → Prop} (q : P [] H) : tNil σ H P := q
theorem r_cons {σ : L2.St} {ta : TE} {tr : TA} {P : List V → Hp → Prop} (h : ta σ H fun x H1 => tr σ H1 fun xs H2 => P (x :: xs) H2) : tCons ta tr σ H P := h
theorem r_I0 {g : Int → Int → V} {i j : Int} (q : Q (g i j) H) : rI0 g (.int i) (.int j) H Q := ⟨i, j, rfl, rfl, q⟩
theorem r_I {C : Int → Int → Prop} {g : Int → Int → V} {i j : Int} (c : C i j) (q : Q (g i j) H) : rI C g (.int i) (.int j) H Q := ⟨i, j, rfl, rfl, c, q⟩
theorem r_U {g : Int → V} {i : Int} (q : Q (g i) H) : rU g (.int i) H Q := ⟨i, rfl, q⟩
/-- a truth that is not looked into -/
def dB (p : Prop) [Decidable p] : Bool := decide p
theorem dB_t {p : Prop} [Decidable p] (h : p) : dB p = true := decide_eq_true h
theorem dB_f {p : Prop} [Decidable p] (h : ¬ p) : dB p = false := decide_eq_false h
theorem dB_of {p : Prop} [Decidable p] (h : dB p = true) : p := of_decide_eq_true h
theorem dB_iff {p q : Prop} [Decidable p] [Decidable q] (h : p ↔ q) : dB p = dB q := by
  by_cases c : p
  · rw [dB_t c, dB_t (h.mp c)]
  · rw [dB_f c, dB_f (fun z => c (h.mpr z))]
theorem r_lt {i j : Int} (q : Q (.bl (dB (i < j))) H) : rI0 (fun i j => .bl (decide (i < j))) (.int i) (.int j) H Q := ⟨i, j, rfl, rfl, q⟩
theorem r_le {i j : Int} (q : Q (.bl (dB (i ≤ j))) H) : rI0 (fun i j => .bl (decide (i ≤ j))) (.int i) (.int j) H Q := ⟨i, j, rfl, rfl, q⟩
theorem r_gt {i j : Int} (q : Q (.bl (dB (j < i))) H) : rI0 (fun i j => .bl (decide (j < i))) (.int i) (.int j) H Q := ⟨i, j, rfl, rfl, q⟩
theorem r_ge {i j : Int} (q : Q (.bl (dB (j ≤ i))) H) : rI0 (fun i j => .bl (decide (j ≤ i))) (.int i) (.int j) H Q := ⟨i, j, rfl, rfl, q⟩
theorem eq_int (i j : Int) : decide (V.int i = V.int j) = dB (i = j) := by
  unfold dB
  by_cases h : i = j
  · subst h; simp
  · simp [h]
theorem eq_bl (i j : Bool) : decide (V.bl i = V.bl j) = dB (i = j) := by
  unfold dB
  by_cases h : i = j
  · subst h; simp
  · simp [h]
theorem eq_str (i j : Str) : decide (V.str i = V.str j) = dB (i = j) := by
  unfold dB
  by_cases h : i = j
  · subst h; simp
  · simp [h]
theorem not_dB (p : Prop) [Decidable p] : (!dB p) = dB (¬ p) := by
  by_cases h : p
  · rw [dB_t h, dB_f (fun z => z h)]; rfl
  · rw [dB_f h, dB_t h]; rfl
theorem r_eqI {i j : Int} (q : Q (.bl (dB (i = j))) H) : rEq (.int i) (.int j) H Q := ⟨rfl, by rw [eq_int]; exact q⟩
theorem r_neI {i j : Int} (q : Q (.bl (dB (¬ i = j))) H) : rNe (.int i) (.int j) H Q := ⟨rfl, by rw [eq_int, not_dB]; exact q⟩
theorem r_eqB {i j : Bool} (q : Q (.bl (dB (i = j))) H) : rEq (.bl i) (.bl j) H Q := ⟨rfl, by rw [eq_bl]; exact q⟩
theorem r_neB {i j : Bool} (q : Q (.bl (dB (¬ i = j))) H) : rNe (.bl i) (.bl j) H Q := ⟨rfl, by rw [eq_bl, not_dB]; exact q⟩
theorem r_eqS {i j : Str} (q : Q (.bl (dB (i = j))) H) : rEq (.str i) (.str j) H Q := ⟨rfl, by rw [eq_str]; exact q⟩
theorem r_neS {i j : Str} (q : Q (.bl (dB (¬ i = j))) H) : rNe (.str i) (.str j) H Q := ⟨rfl, by rw [eq_str, not_dB]; exact q⟩
/-! tests that are decided -/
theorem i_t {A B : Prop} (h : A) : if true = true then A else B := h
theorem i_f {A B : Prop} (h : B) : if false = true then A else B := by rw [if_neg Bool.false_ne_true]; exact h
theorem i_2 {p : Prop} [Decidable p] {A B : Prop} (h1 : p → A) (h2 : ¬ p → B) : if dB p = true then A else B := by
  by_cases h : p
  · rw [dB_t h]; exact h1 h
  · rw [dB_f h, if_neg Bool.false_ne_true]; exact h2 h
theorem i_2n {p : Prop} [Decidable p] {A B : Prop} (h1 : ¬ p → A) (h2 : p → B) : if (!dB p) = true then A else B := by
  by_cases h : p
  · rw [dB_t h]; exact i_f (h2 h)
  · rw [dB_f h]; exact i_t (h1 h)
theorem i_2b {b : Bool} {A B : Prop} (h1 : b = true → A) (h2 : b = false → B) : if b = true then A else B := by
  cases b with
  | true => exact h1 rfl
  | false => exact i_f (h2 rfl)
theorem i_dt {p : Prop} [Decidable p] {A B : Prop} (h : p) (a : A) : if dB p = true then A else B := by rw [dB_t h]; exact a
theorem i_df {p : Prop} [Decidable p] {A B : Prop} (h : ¬ p) (b : B) : if dB p = true then A else B := by rw [dB_f h, if_neg Bool.false_ne_true]; exact b
theorem i_dtn {p : Prop} [Decidable p] {A B : Prop} (h : ¬ p) (a : A) : if (!dB p) = true then A else B := by rw [dB_f h]; exact a
theorem i_dfn {p : Prop} [Decidable p] {A B : Prop} (h : p) (b : B) : if (!dB p) = true then A else B := by rw [dB_t h]; exact i_f b
theorem i_nt {A B : Prop} (h : A) : if (!false) = true then A else B := h
theorem i_nf {A B : Prop} (h : B) : if (!true) = true then A else B := i_f h
theorem kx {CX : CXT} {P : Program} {w : World} {K : PySem.W.Frag} {mg : Str → Option Value} {base : Heap} {N : List Str} {qual : Str} {scope : Scope} {f : Addr} {cd : Value} {A : Around} {outer : List Env} {s : Shared} {H : Hp} {E : XK} :
    (cxOf CX P w K mg base N qual scope f cd A outer s H E).K = K := rfl
/-! heaps -/
theorem s_at {H H' : Hp} {a : Addr} {o : HO} (s : Same H H') (h : H a = some o) : H' a = some o := s _ _ h
theorem s_upd {H : Hp} {p : Addr} {o : HO} (h : H p = none) : Same H (upd H p o) := fun b x e => by
  rw [upd_ne (ne_of_none e h)]
  exact e
/-- an object that H does not know may change -/
theorem s_mut {H H' : Hp} {p : Addr} {o : HO} (e : Same H H') (h : H p = none) : Same H (upd H' p o) := fun a u ha => by
  rw [upd_ne (ne_of_none ha h)]
  exact e a u ha
theorem s_back {H H' : Hp} {p : Addr} (e : Same H H') (h : H' p = none) : H p = none := e.free h
theorem ne_of' {H : Hp} {a b : Addr} {o : HO} (h' : H b = none) (h : H a = some o) : a ≠ b := ne_of_none h h'
theorem ne_new {H H' : Hp} {a b : Addr} {o : HO} (h : H a = some o) (s : Same H H') (h' : H' b = none) : a ≠ b := ne_of_none (s _ _ h) h'
theorem sq_l {H : Hp} {a : Addr} {xs : List V} (h : H a = some (.lst xs)) : SqL K H a xs := .inl (.inl h)
theorem sq_t {H : Hp} {a : Addr} {xs : List V} (h : H a = some (.tup xs)) : SqT K H a xs := .inl (.inl h)
theorem s_sq {H H' : Hp} {a : Addr} {xs : List V} (s : Same H H') (h : SqL K H a xs) : SqL K H' a xs := s.seq h
theorem s_rd {H H' : Hp} {a : Addr} {u : HO} (e : Same H H') (h : Rd H a u) : Rd H' a u := by
  rcases h with h | ⟨o, h⟩
  · exact .inl (e a _ h)
  · exact .inr ⟨o, e a _ h⟩
theorem s_st {H H' : Hp} {a : Addr} {xs : List V} (s : Same H H') (h : SqT K H a xs) : SqT K H' a xs := by
  rcases h with h | h
  · exact .inl (s_rd s h)
  · exact .inr h
theorem sz {n : Nat} (h : n ≤ 100000) : n ≤ sizeLine := Nat.le_trans h (by decide)
theorem szl {n : Nat} (h : n < 100000) : n < sizeLine := Nat.lt_of_lt_of_le h (by decide)
/-! lists -/
theorem r_ixL {p : Addr} {xs : List V} {i : Int} {v : V} (h : SqL K H p xs) (ha : atI xs i = some v) (q : Q v H) : rIxL K (.ref p) (.int i) H Q := ⟨p, xs, i, v, rfl, rfl, h, ha, q⟩
theorem r_ixT {p : Addr} {xs : List V} {i : Int} {v : V} (h : SqT K H p xs) (ha : atI xs i = some v) (q : Q v H) : rIxT K (.ref p) (.int i) H Q := ⟨p, xs, i, v, rfl, rfl, h, ha, q⟩
theorem r_new {σ : L2.St} {t : TA} (h : t σ H fun xs H1 => xs.length ≤ sizeLine ∧ ∀ p, H1 p = none → Q (.ref p) (upd H1 p (.lst xs))) : tLst t σ H Q := h
theorem r_tup {σ : L2.St} {t : TA} (h : t σ H fun xs H1 => xs.length ≤ sizeLine ∧ ∀ p, H1 p = none → Q (.ref p) (upd H1 p (.tup xs))) : tTup t σ H Q := h
theorem r_cb {σ : L2.St} {r : List V → Hp → VK → Prop} {t : TA} (h : t σ H fun vs H1 => r vs H1 Q) : tCB r t σ H Q := h
theorem r_call {σ : L2.St} {sp : Sp} {E : XK} {t : TA} (h : t σ H fun vs H1 => sp (vs ++ []) H1 Q E) : tCall sp [] E t σ H Q := h
theorem r_bm {σ : L2.St} {T : String} {r : V → List V → Hp → VK → Prop} {to : TE} {t : TA} (h : to σ H fun x H1 => tyV K T x H1 ∧ t σ H1 fun xs H2 => r x xs H2 Q) : tBM K T r to t σ H Q := h
theorem ty_lst {x : Addr} {xs : List V} {P : Prop} (h : SqL K H x xs) (q : P) : tyV K "list" (.ref x) H ∧ P := ⟨Or.inl ⟨rfl, xs, h⟩, q⟩
theorem r_append {l : Addr} {xs : List V} {y : V} (h : H l = some (.lst xs)) (z : xs.length < sizeLine) (q : Q .non (upd H l (.lst (xs ++ [y])))) : rAppend (.ref l) [y] H Q := ⟨l, xs, y, rfl, rfl, h, z, q⟩
def cLen (K : PySem.W.Frag) : List V → Hp → VK → Prop := fun xs H Q => ∃ p ys, xs = [.ref p] ∧ (SqL K H p ys ∨ SqT K H p ys) ∧ Q (.int ys.length) H
theorem call_len {X : Cx} : CallR X (.builtin "len") (cLen X.K) := call_len_seq
theorem r_lenL {p : Addr} {ys : List V} (h : SqL K H p ys) (q : Q (.int ys.length) H) : cLen K [.ref p] H Q := ⟨p, ys, rfl, .inl h, q⟩
theorem r_lenT {p : Addr} {ys : List V} (h : SqT K H p ys) (q : Q (.int ys.length) H) : cLen K [.ref p] H Q := ⟨p, ys, rfl, .inr h, q⟩
def cInt : List V → Hp → VK → Prop := fun xs H Q => (∃ i, xs = [.int i] ∧ Q (.int i) H) ∨ ∃ k, xs = [.bl k] ∧ Q (.int (if k then 1 else 0)) H
theorem call_int {X : Cx} : CallR X (.type "int") cInt := call_int1
theorem r_int {i : Int} (q : Q (.int i) H) : cInt [.int i] H Q := .inl ⟨i, rfl, q⟩
def cIsN : R2 := fun x y H Q => y = .non ∧ Q (.bl (decide (x = .non))) H
def cNotN : R2 := fun x y H Q => y = .non ∧ Q (.bl (!decide (x = .non))) H
theorem op_isN {X : Cx} : OpR X (compareOp .Is) cIsN := L2.op_isN
theorem op_notN {X : Cx} : OpR X (compareOp .IsNot) cNotN := L2.op_notN
theorem r_notN {x : V} (q : Q (.bl (!dB (x = .non))) H) : cNotN x .non H Q := ⟨rfl, q⟩
theorem r_isN {x : V} (q : Q (.bl (dB (x = .non))) H) : cIsN x .non H Q := ⟨rfl, q⟩
theorem r_isi {x c : V} {t u : Value} {b : Bool} (h1 : ClsV c u) (h2 : TyX K H x t) (h3 : PySem.W.kitOne K t u = some b) (q : Q (.bl b) H) : rIsi K [x, c] H Q := ⟨x, c, t, u, b, rfl, h1, h2, h3, q⟩
/-! slices -/
theorem r_sl {σ : L2.St} {r : V → Option Int → Option Int → Hp → VK → Prop} {te : TE} {tl th : TO} (h : te σ H fun x H1 => tl σ H1 fun l H2 => th σ H2 fun u H3 => r x l u H3 Q) : tSl r te tl th σ H Q := h
theorem r_noPart {σ : L2.St} {P : Option Int → Hp → Prop} (q : P none H) : tNoPart σ H P := q
theorem r_part {σ : L2.St} {t : TE} {P : Option Int → Hp → Prop} (h : t σ H fun x H1 => ∃ i, x = .int i ∧ P (some i) H1) : tPart t σ H P := h
theorem r_pint {i : Int} {P : Int → Prop} (q : P i) : ∃ j, V.int i = .int j ∧ P j := ⟨i, rfl, q⟩
theorem r_slL {a : Addr} {xs : List V} {lo hi : Option Int} (h : SqL K H a xs) (q : ∀ p, H p = none → Q (.ref p) (upd H p (.lst (cutV xs lo hi)))) : rSlL K (.ref a) lo hi H Q := ⟨a, xs, rfl, h, q⟩
theorem r_aug {σ σ2 : L2.St} {i : Nat} {te : TE} {ti : TIp} {x : V} (hx : σ[i]? = some (some x)) (h : te σ H fun y H1 => ti x y H1 fun z H2 => D.nx (σ.set i (some z)) H2) : tAug i te ti D σ H := ⟨x, hx, h⟩
/-! loops -/
theorem for_lst {σ : L2.St} {tl : TE} {g : TG} {tb : TS} (h : tl σ H fun x H1 => ∃ a, x = .ref a ∧ (∃ xs, SqL K H1 a xs) ∧ ∃ W : Nat → Nat → L2.St → Hp → Prop, (∃ m, W 0 m σ H1) ∧ ∀ i m σ H, W i m σ H →
  ((Itl K a).stop i H ∧ D.nx σ H) ∨ ((Itl K a).go i H ∧ ∃ N : L2.St → Hp → Prop, (∀ σ' H', N σ' H' → ∃ m', m' < m ∧ W (i + 1) m' σ' H') ∧ ∀ x H', (Itl K a).yld i H x H' → g x σ H' fun σ2 H2 => tb { D with nx := N, ct := N, bk := D.nx } σ2 H2)) : tFor (iList K tl) g tb D σ H := h
theorem lst_go {σ : L2.St} {a : Addr} {xs : List V} {g : TG} {tb : TS} (hs0 : SqL K H a xs) (Pv : Nat → L2.St → Hp → Prop) (h0 : Pv 0 σ H) (hl : ∀ i σ H, i ≤ xs.length → Pv i σ H → SqL K H a xs)
    (hs : ∀ i x σ H, xs[i]? = some x → Pv i σ H → g x σ H fun σ2 H2 => tb { D with nx := Pv (i + 1), ct := Pv (i + 1), bk := D.nx } σ2 H2) (hd : ∀ σ H, Pv xs.length σ H → D.nx σ H) :
    ∃ a', V.ref a = .ref a' ∧ (∃ xs, SqL K H a' xs) ∧ ∃ W : Nat → Nat → L2.St → Hp → Prop, (∃ m, W 0 m σ H) ∧ ∀ i m σ H, W i m σ H →
  ((Itl K a').stop i H ∧ D.nx σ H) ∨ ((Itl K a').go i H ∧ ∃ N : L2.St → Hp → Prop, (∀ σ' H', N σ' H' → ∃ m', m' < m ∧ W (i + 1) m' σ' H') ∧ ∀ x H', (Itl K a').yld i H x H' → g x σ H' fun σ2 H2 => tb { D with nx := N, ct := N, bk := D.nx } σ2 H2) :=
  ⟨a, rfl, ⟨xs, hs0⟩, for_list (K := K) Pv h0 hl hs hd⟩
theorem for_rng {σ : L2.St} {ta : TA} {g : TG} {tb : TS} (h : ta σ H fun vs H1 => ∃ j : Int, vs = [.int j] ∧ -(2 ^ 62) ≤ j ∧ j < 2 ^ 62 ∧ ∃ W : Nat → Nat → L2.St → Hp → Prop, (∃ m, W 0 m σ H1) ∧ ∀ i m σ H, W i m σ H →
  ((Itr 0 j.toNat).stop i H ∧ D.nx σ H) ∨ ((Itr 0 j.toNat).go i H ∧ ∃ N : L2.St → Hp → Prop, (∀ σ' H', N σ' H' → ∃ m', m' < m ∧ W (i + 1) m' σ' H') ∧ ∀ x H', (Itr 0 j.toNat).yld i H x H' → g x σ H' fun σ2 H2 => tb { D with nx := N, ct := N, bk := D.nx } σ2 H2)) : tFor (iRng1 ta) g tb D σ H := h
theorem rng_go {σ : L2.St} {j : Int} {g : TG} {tb : TS} (n : Nat) (hj : j.toNat = n) (hb : -(2 ^ 62) ≤ j ∧ j < 2 ^ 62) (Pv : Nat → L2.St → Hp → Prop) (h0 : Pv 0 σ H)
    (hs : ∀ i σ H, i < n → Pv i σ H → g (.int (i : Nat)) σ H fun σ2 H2 => tb { D with nx := Pv (i + 1), ct := Pv (i + 1), bk := D.nx } σ2 H2) (hd : ∀ σ H, Pv n σ H → D.nx σ H) :
    ∃ j' : Int, [V.int j] = [.int j'] ∧ -(2 ^ 62) ≤ j' ∧ j' < 2 ^ 62 ∧ ∃ W : Nat → Nat → L2.St → Hp → Prop, (∃ m, W 0 m σ H) ∧ ∀ i m σ H, W i m σ H →
  ((Itr 0 j'.toNat).stop i H ∧ D.nx σ H) ∨ ((Itr 0 j'.toNat).go i H ∧ ∃ N : L2.St → Hp → Prop, (∀ σ' H', N σ' H' → ∃ m', m' < m ∧ W (i + 1) m' σ' H') ∧ ∀ x H', (Itr 0 j'.toNat).yld i H x H' → g x σ H' fun σ2 H2 => tb { D with nx := N, ct := N, bk := D.nx } σ2 H2) := by
  subst hj
  refine ⟨j, rfl, hb.1, hb.2, for_range (lo := 0) Pv h0 (fun i σ H hi p => ?_) hd⟩
  have e : (0 : Int) + (i : Nat) = (i : Nat) := Int.zero_add _
  rw [e]
  exact hs i σ H hi p
theorem for_rng2 {σ : L2.St} {ta : TA} {g : TG} {tb : TS} (h : ta σ H fun vs H1 => ∃ i j : Int, vs = [.int i, .int j] ∧ (-(2 ^ 62) ≤ i ∧ i < 2 ^ 62 ∧ -(2 ^ 62) ≤ j ∧ j < 2 ^ 62) ∧ ∃ W : Nat → Nat → L2.St → Hp → Prop, (∃ m, W 0 m σ H1) ∧ ∀ k m σ H, W k m σ H →
  ((Itr i (j - i).toNat).stop k H ∧ D.nx σ H) ∨ ((Itr i (j - i).toNat).go k H ∧ ∃ N : L2.St → Hp → Prop, (∀ σ' H', N σ' H' → ∃ m', m' < m ∧ W (k + 1) m' σ' H') ∧ ∀ x H', (Itr i (j - i).toNat).yld k H x H' → g x σ H' fun σ2 H2 => tb { D with nx := N, ct := N, bk := D.nx } σ2 H2)) : tFor (iRng2 ta) g tb D σ H := h
theorem rng_go2 {σ : L2.St} {a j : Int} {g : TG} {tb : TS} (n : Nat) (hj : (j - a).toNat = n) (hb : -(2 ^ 62) ≤ a ∧ a < 2 ^ 62 ∧ -(2 ^ 62) ≤ j ∧ j < 2 ^ 62) (Pv : Nat → L2.St → Hp → Prop) (h0 : Pv 0 σ H)
    (hs : ∀ i σ H, i < n → Pv i σ H → g (.int (a + (i : Nat))) σ H fun σ2 H2 => tb { D with nx := Pv (i + 1), ct := Pv (i + 1), bk := D.nx } σ2 H2) (hd : ∀ σ H, Pv n σ H → D.nx σ H) :
    ∃ i' j' : Int, [V.int a, V.int j] = [.int i', .int j'] ∧ (-(2 ^ 62) ≤ i' ∧ i' < 2 ^ 62 ∧ -(2 ^ 62) ≤ j' ∧ j' < 2 ^ 62) ∧ ∃ W : Nat → Nat → L2.St → Hp → Prop, (∃ m, W 0 m σ H) ∧ ∀ k m σ H, W k m σ H →
  ((Itr i' (j' - i').toNat).stop k H ∧ D.nx σ H) ∨ ((Itr i' (j' - i').toNat).go k H ∧ ∃ N : L2.St → Hp → Prop, (∀ σ' H', N σ' H' → ∃ m', m' < m ∧ W (k + 1) m' σ' H') ∧ ∀ x H', (Itr i' (j' - i').toNat).yld k H x H' → g x σ H' fun σ2 H2 => tb { D with nx := N, ct := N, bk := D.nx } σ2 H2) := by
  subst hj
  exact ⟨a, j, rfl, hb, for_range (lo := a) Pv h0 hs hd⟩
end
theorem for_enum {D : Ends} {H : Hp} {K : PySem.W.Frag} {σ : L2.St} {ta : TA} {g : TG} {tb : TS} (h : ta σ H fun vs H1 => ∃ a xs, vs = [.ref a] ∧ SqL K H1 a xs ∧ ∃ W : Nat → Nat → L2.St → Hp → Prop, (∃ m, W 0 m σ H1) ∧ ∀ i m σ H, W i m σ H →
  ((Ite K a).stop i H ∧ D.nx σ H) ∨ ((Ite K a).go i H ∧ ∃ N : L2.St → Hp → Prop, (∀ σ' H', N σ' H' → ∃ m', m' < m ∧ W (i + 1) m' σ' H') ∧ ∀ x H', (Ite K a).yld i H x H' → g x σ H' fun σ2 H2 => tb { D with nx := N, ct := N, bk := D.nx } σ2 H2)) : tFor (iEnum K ta) g tb D σ H := h
theorem enum_go {D : Ends} {H : Hp} {K : PySem.W.Frag} {σ : L2.St} {a : Addr} {xs : List V} {g : TG} {tb : TS} (hs0 : SqL K H a xs) (Pv : Nat → L2.St → Hp → Prop) (h0 : Pv 0 σ H) (hl : ∀ i σ H, i ≤ xs.length → Pv i σ H → SqL K H a xs)
    (hs : ∀ i x σ H T, xs[i]? = some x → Pv i σ H → H T = none → g (.ref T) σ (upd H T (.tup [.int (i : Nat), x])) fun σ2 H2 => tb { D with nx := Pv (i + 1), ct := Pv (i + 1), bk := D.nx } σ2 H2) (hd : ∀ σ H, Pv xs.length σ H → D.nx σ H) :
    ∃ a' xs', [V.ref a] = [.ref a'] ∧ SqL K H a' xs' ∧ ∃ W : Nat → Nat → L2.St → Hp → Prop, (∃ m, W 0 m σ H) ∧ ∀ i m σ H, W i m σ H →
  ((Ite K a').stop i H ∧ D.nx σ H) ∨ ((Ite K a').go i H ∧ ∃ N : L2.St → Hp → Prop, (∀ σ' H', N σ' H' → ∃ m', m' < m ∧ W (i + 1) m' σ' H') ∧ ∀ x H', (Ite K a').yld i H x H' → g x σ H' fun σ2 H2 => tb { D with nx := N, ct := N, bk := D.nx } σ2 H2) := by
  refine ⟨a, xs, rfl, hs0, fun i m σ H => m = xs.length - i ∧ i ≤ xs.length ∧ Pv i σ H, ⟨xs.length, by simp, Nat.zero_le _, h0⟩, ?_⟩
  rintro i m σ H ⟨rfl, hi, p⟩
  have q := hl i σ H hi p
  by_cases hlt : i < xs.length
  · refine .inr ⟨⟨xs, xs[i], q, by simp [hlt]⟩, Pv (i + 1), fun σ' H' p' => ⟨xs.length - (i + 1), by omega, rfl, hlt, p'⟩, fun x H' y => ?_⟩
    obtain ⟨T, x, rfl, hT, rfl, hx⟩ := y
    exact hs i x σ H T (hx xs q) p hT
  · have e : i = xs.length := by omega
    subst e
    exact .inl ⟨⟨xs, q, Nat.le_refl _⟩, hd σ H p⟩
theorem r_pair {H : Hp} {K : PySem.W.Frag} {σ σ2 : L2.St} {i j : Nat} {T : Addr} {x y : V} {k : L2.St → Hp → Prop} (hT : H T = some (.tup [x, y])) (hs : (σ.set i (some x)).set j (some y) = σ2) (h : k σ2 H) :
    gTup K 2 (gCons (gName i) (gCons (gName j) gNil)) (.ref T) σ H k := by
  subst hs
  exact ⟨T, [x, y], rfl, .inl (.inl hT), rfl, x, [y], rfl, y, [], rfl, rfl, h⟩
theorem r_three {H : Hp} {K : PySem.W.Frag} {σ σ2 : L2.St} {i j l : Nat} {T : Addr} {x y z : V} {k : L2.St → Hp → Prop} (hT : H T = some (.tup [x, y, z])) (hs : ((σ.set i (some x)).set j (some y)).set l (some z) = σ2) (h : k σ2 H) :
    gTup K 3 (gCons (gName i) (gCons (gName j) (gCons (gName l) gNil))) (.ref T) σ H k := by
  subst hs
  exact ⟨T, [x, y, z], rfl, .inl (.inl hT), rfl, x, [y, z], rfl, y, [z], rfl, z, [], rfl, rfl, h⟩
theorem r_gsub {H : Hp} {σ : L2.St} {to ti : TE} {t : TSet} {v : V} {k : L2.St → Hp → Prop} (h : to σ H fun o H1 => ti σ H1 fun i H2 => t o i v H2 fun H3 => k σ H3) : gSub to ti t v σ H k := h
theorem r_setL {H : Hp} {p : Addr} {xs : List V} {k : Int} {j : Nat} {v : V} {Q : Hp → Prop} (hp : H p = some (.lst xs)) (e : k = (j : Int)) (hj : j < xs.length) (q : Q (upd H p (.lst (xs.set j v)))) : rSetL (.ref p) (.int k) v H Q := by
  subst e
  refine ⟨p, xs, (j : Int), j, rfl, rfl, hp, ?_, q⟩
  unfold ixN
  rw [if_pos (by omega), if_pos (by omega), Int.toNat_natCast]
theorem r_rep {H : Hp} {Q : VK} {l : Addr} {k : Int} {v : V} (hl : H l = some (.lst [v])) (h1 : -(2 ^ 63) ≤ k) (h2 : k < 100000) (q : ∀ p, H p = none → Q (.ref p) (upd H p (.lst (List.replicate k.toNat v)))) : rRep (.ref l) (.int k) H Q := by
  refine ⟨l, k, [v], rfl, rfl, hl, h1, Int.lt_trans h2 (by decide), sz (by show 1 * k.toNat ≤ 100000; omega), fun p hp => ?_⟩
  have e : (List.replicate k.toNat [v]).flatten = List.replicate k.toNat v := by
    generalize k.toNat = n
    induction n with
    | zero => rfl
    | succ n ih => rw [List.replicate_succ, List.flatten_cons, ih, List.replicate_succ]; rfl
  rw [e]
  exact q p hp
theorem r_cat {H : Hp} {Q : VK} {l b : Addr} {xs zs : List V} (hl : H l = some (.lst xs)) (hb : H b = some (.lst zs)) (hz : xs.length + zs.length ≤ 100000) (q : ∀ p, H p = none → Q (.ref p) (upd H p (.lst (xs ++ zs)))) : rCat (.ref l) (.ref b) H Q :=
  ⟨l, b, xs, zs, rfl, rfl, hl, hb, sz hz, q⟩
def cList (K : PySem.W.Frag) : List V → Hp → VK → Prop := fun xs H Q => ∃ p ys, xs = [.ref p] ∧ (SqL K H p ys ∨ SqT K H p ys) ∧ ∀ l, H l = none → Q (.ref l) (upd H l (.lst ys))
theorem call_list {X : Cx} : CallR X (.type "list") (cList X.K) := call_list_of
theorem r_list {H : Hp} {K : PySem.W.Frag} {Q : VK} {p : Addr} {ys : List V} (h : SqL K H p ys) (q : ∀ l, H l = none → Q (.ref l) (upd H l (.lst ys))) : cList K [.ref p] H Q := ⟨p, ys, rfl, .inl h, q⟩
theorem r_intB {H : Hp} {Q : VK} {b : Bool} (q : Q (.int (if b then 1 else 0)) H) : cInt [.bl b] H Q := .inr ⟨b, rfl, q⟩
/-! two lists of ints compared -/
theorem dp_ints {K : PySem.W.Frag} {H : Hp} : ∀ ns : List Int, DpAll K H (ns.map V.int) (ns.map PyData.int)
  | [] => .nil
  | n :: r => .cons (.int n) (dp_ints r)
theorem depth_ints : ∀ ns : List Int, PyData.depthAll (ns.map PyData.int) = 0
  | [] => rfl
  | n :: r => by
    show max 0 (PyData.depthAll (r.map PyData.int)) = 0
    rw [depth_ints r]; rfl
theorem lay_ints : ∀ ns : List Int, PyData.canLayAll0 (ns.map PyData.int) = true
  | [] => rfl
  | n :: r => by
    show (true && PyData.canLayAll0 (r.map PyData.int)) = true
    rw [lay_ints r]; rfl
theorem shaped_ints (ns : List Int) : SeqAt.shaped (.list (ns.map PyData.int)) = true := by
  have h1 : (PyData.list (ns.map PyData.int)).canLay0 = true := lay_ints ns
  have h2 : (PyData.list (ns.map PyData.int)).depth ≤ 64 := by
    show PyData.depthAll (ns.map PyData.int) + 1 ≤ 64
    rw [depth_ints ns]; decide
  unfold SeqAt.shaped
  rw [h1, decide_eq_true h2]; rfl
theorem eqv_ints : ∀ ns : List Int, PyData.eqv (.list (ns.map PyData.int)) (.list (ns.map PyData.int)) = true := by
  intro ns
  unfold PyData.eqv
  induction ns with
  | nil => rfl
  | cons n r ih => simp [PyData.eqvAll, PyData.eqv, ih]
theorem r_eqL {H : Hp} {K : PySem.W.Frag} {Q : VK} {a b : Addr} {ns : List Int} (ha : SqL K H a (ns.map V.int)) (hb : SqL K H b (ns.map V.int)) (q : Q (.bl true) H) : rEqD K (.ref a) (.ref b) H Q :=
  ⟨_, _, .lst ha (dp_ints ns), .lst hb (dp_ints ns), shaped_ints ns, shaped_ints ns, by rw [eqv_ints]; exact q⟩
theorem eqv_ints2 : ∀ ns ms : List Int, PyData.eqv (.list (ns.map PyData.int)) (.list (ms.map PyData.int)) = dB (ns = ms) := by
  intro ns
  induction ns with
  | nil =>
    intro ms
    cases ms with
    | nil => rw [dB_t rfl]; simp [PyData.eqv, PyData.eqvAll]
    | cons m r => rw [dB_f (by simp)]; simp [PyData.eqv, PyData.eqvAll]
  | cons n ns ih =>
    intro ms
    cases ms with
    | nil => rw [dB_f (by simp)]; simp [PyData.eqv, PyData.eqvAll]
    | cons m r =>
      have i2 := ih r
      unfold PyData.eqv at i2
      have e : PyData.eqv (.list ((n :: ns).map PyData.int)) (.list ((m :: r).map PyData.int)) = ((n == m) && PyData.eqv (.list (ns.map PyData.int)) (.list (r.map PyData.int))) := by
        unfold PyData.eqv
        simp [PyData.eqvAll, PyData.eqv]
      rw [e, ih r]
      by_cases h : n = m
      · subst h
        by_cases h2 : ns = r
        · subst h2; rw [dB_t rfl, dB_t rfl]; simp
        · rw [dB_f h2, dB_f (by intro z; injection z with _ z; exact h2 z)]; simp
      · rw [dB_f (p := n :: ns = m :: r) (by intro z; injection z with z _; exact h z)]; simp [h]
theorem r_eqL2 {H : Hp} {K : PySem.W.Frag} {Q : VK} {a b : Addr} {ns ms : List Int} (ha : SqL K H a (ns.map V.int)) (hb : SqL K H b (ms.map V.int)) (q : Q (.bl (dB (ns = ms))) H) : rEqD K (.ref a) (.ref b) H Q :=
  ⟨_, _, .lst ha (dp_ints ns), .lst hb (dp_ints ms), shaped_ints ns, shaped_ints ms, by rw [eqv_ints2]; exact q⟩
theorem r_sum {K : PySem.W.Frag} {H : Hp} {Q : VK} {a : Addr} {ns : List Int} (h : SqL K H a (ns.map V.int)) (q : Q (.int ns.sum) H) : rSum K [.ref a] H Q := ⟨a, ns, rfl, h, q⟩
/-! comprehensions whose elements leave all as it was -/
theorem lc_rng {H : Hp} {Q : VK} {σ : L2.St} {ta : TA} {g : TG} {tt : TT} {te : TE} {vs : List Nat} (h : ta σ H fun ws H1 => ∃ j : Int, ws = [V.int j] ∧ -(2 ^ 62) ≤ j ∧ j < 2 ^ 62 ∧ ∀ D, H1 D = none → ∃ W : Nat → Nat → Hp → Prop, (∃ m, W 0 m (upd H1 D (.lst []))) ∧ ∀ i m H, W i m H →
  ((Itr 0 j.toNat).stop i H ∧ Q (.ref D) H) ∨ ((Itr 0 j.toNat).go i H ∧ ∃ Nx : Hp → Prop, (∀ H', Nx H' → ∃ m', m' < m ∧ W (i + 1) m' H') ∧ ∀ x H', (Itr 0 j.toNat).yld i H x H' → g x (wipe σ vs) H' fun σ2 H2 => wipe σ2 vs = wipe σ vs ∧ tt σ2 H2 fun b H3 =>
    if b = true then te σ2 H3 fun y H4 => ∃ acc, H4 D = some (.lst acc) ∧ acc.length < sizeLine ∧ Nx (upd H4 D (.lst (acc ++ [y]))) else Nx H3)) : tLc (iRng1 ta) g tt te vs σ H Q := h
theorem lc_lst {H : Hp} {K : PySem.W.Frag} {Q : VK} {σ : L2.St} {tl : TE} {g : TG} {tt : TT} {te : TE} {vs : List Nat} (h : tl σ H fun x H1 => ∃ a, x = .ref a ∧ (∃ xs, SqL K H1 a xs) ∧ ∀ D, H1 D = none → ∃ W : Nat → Nat → Hp → Prop, (∃ m, W 0 m (upd H1 D (.lst []))) ∧ ∀ i m H, W i m H →
  ((Itl K a).stop i H ∧ Q (.ref D) H) ∨ ((Itl K a).go i H ∧ ∃ Nx : Hp → Prop, (∀ H', Nx H' → ∃ m', m' < m ∧ W (i + 1) m' H') ∧ ∀ x H', (Itl K a).yld i H x H' → g x (wipe σ vs) H' fun σ2 H2 => wipe σ2 vs = wipe σ vs ∧ tt σ2 H2 fun b H3 =>
    if b = true then te σ2 H3 fun y H4 => ∃ acc, H4 D = some (.lst acc) ∧ acc.length < sizeLine ∧ Nx (upd H4 D (.lst (acc ++ [y]))) else Nx H3)) : tLc (iList K tl) g tt te vs σ H Q := h
theorem lcr_pure {H1 : Hp} {Qd : Addr → Hp → Prop} {σ : L2.St} {te : TE} {vs : List Nat} {sl : Nat} {j : Int} (n : Nat) (f : Nat → V) (hj : j.toNat = n) (hb : -(2 ^ 62) ≤ j ∧ j < 2 ^ 62) (hz : n ≤ 100000) (hw : ∀ v : Option V, wipe ((wipe σ vs).set sl v) vs = wipe σ vs)
    (hs : ∀ i H2, i < n → Same H1 H2 → ∀ k : VK, (∀ H5, Same H2 H5 → k (f i) H5) → te ((wipe σ vs).set sl (some (V.int (i : Nat)))) H2 k)
    (hd : ∀ D H2, H1 D = none → Same H1 H2 → H2 D = some (.lst ((List.range n).map f)) → Qd D H2) :
    ∃ j' : Int, [V.int j] = [V.int j'] ∧ -(2 ^ 62) ≤ j' ∧ j' < 2 ^ 62 ∧ ∀ D, H1 D = none → ∃ W : Nat → Nat → Hp → Prop, (∃ m, W 0 m (upd H1 D (.lst []))) ∧ ∀ i m H, W i m H →
  ((Itr 0 j'.toNat).stop i H ∧ Qd D H) ∨ ((Itr 0 j'.toNat).go i H ∧ ∃ Nx : Hp → Prop, (∀ H', Nx H' → ∃ m', m' < m ∧ W (i + 1) m' H') ∧ ∀ x H', (Itr 0 j'.toNat).yld i H x H' → gName sl x (wipe σ vs) H' fun σ2 H2 => wipe σ2 vs = wipe σ vs ∧ tYes σ2 H2 fun b H3 =>
    if b = true then te σ2 H3 fun y H4 => ∃ acc, H4 D = some (.lst acc) ∧ acc.length < sizeLine ∧ Nx (upd H4 D (.lst (acc ++ [y]))) else Nx H3) := by
  refine ⟨j, rfl, hb.1, hb.2, fun D hD => ?_⟩
  subst hj
  refine lc_range (lo := 0) (fun i H2 => Same H1 H2 ∧ H2 D = some (.lst ((List.range i).map f))) ⟨s_upd hD, upd_same⟩ (fun i H2 hi ⟨s2, hl⟩ => ?_) (fun H2 ⟨s2, hl⟩ => hd D H2 hD s2 hl)
  have e : (0 : Int) + (i : Nat) = (i : Nat) := Int.zero_add _
  rw [e]
  refine ⟨hw _, i_t (B := Same H1 H2 ∧ H2 D = some (.lst ((List.range (i + 1)).map f))) ?_⟩
  refine (hs i H2 hi s2 _ fun H5 s5 => ⟨_, s5 _ _ hl, szl (by rw [List.length_map, List.length_range]; omega), s_mut (s2.trans s5) hD, ?_⟩)
  rw [List.range_succ, List.map_append]
  exact upd_same
theorem lcl_pure {H1 : Hp} {K : PySem.W.Frag} {Qd : Addr → Hp → Prop} {σ : L2.St} {te : TE} {vs : List Nat} {sl : Nat} {a : Addr} {xs : List V} (f : V → V) (hx : SqL K H1 a xs) (hz : xs.length ≤ 100000) (hw : ∀ v : Option V, wipe ((wipe σ vs).set sl v) vs = wipe σ vs)
    (hs : ∀ (i : Nat) x H2, xs[i]? = some x → Same H1 H2 → ∀ k : VK, (∀ H5, Same H2 H5 → k (f x) H5) → te ((wipe σ vs).set sl (some x)) H2 k)
    (hd : ∀ D H2, H1 D = none → Same H1 H2 → H2 D = some (.lst (xs.map f)) → Qd D H2) :
    ∃ a', V.ref a = .ref a' ∧ (∃ xs, SqL K H1 a' xs) ∧ ∀ D, H1 D = none → ∃ W : Nat → Nat → Hp → Prop, (∃ m, W 0 m (upd H1 D (.lst []))) ∧ ∀ i m H, W i m H →
  ((Itl K a').stop i H ∧ Qd D H) ∨ ((Itl K a').go i H ∧ ∃ Nx : Hp → Prop, (∀ H', Nx H' → ∃ m', m' < m ∧ W (i + 1) m' H') ∧ ∀ x H', (Itl K a').yld i H x H' → gName sl x (wipe σ vs) H' fun σ2 H2 => wipe σ2 vs = wipe σ vs ∧ tYes σ2 H2 fun b H3 =>
    if b = true then te σ2 H3 fun y H4 => ∃ acc, H4 D = some (.lst acc) ∧ acc.length < sizeLine ∧ Nx (upd H4 D (.lst (acc ++ [y]))) else Nx H3) := by
  refine ⟨a, rfl, ⟨xs, hx⟩, fun D hD => ?_⟩
  refine lc_list (K := K) (xs := xs) (fun i H2 => Same H1 H2 ∧ H2 D = some (.lst ((xs.take i).map f))) ⟨s_upd hD, upd_same⟩ (fun i H2 _ p => p.1.seq hx) (fun i x H2 hi ⟨s2, hl⟩ => ?_) (fun H2 ⟨s2, hl⟩ => hd D H2 hD s2 (by rw [List.take_length] at hl; exact hl))
  have hlt := (List.getElem?_eq_some_iff.mp hi).1
  refine ⟨hw _, i_t (B := Same H1 H2 ∧ H2 D = some (.lst ((xs.take (i + 1)).map f))) ?_⟩
  refine (hs i x H2 hi s2 _ fun H5 s5 => ⟨_, s5 _ _ hl, szl (by rw [List.length_map, List.length_take]; omega), s_mut (s2.trans s5) hD, ?_⟩)
  rw [List.take_add_one, hi, List.map_append]
  exact upd_same
theorem lcl_idx {H1 : Hp} {K : PySem.W.Frag} {Qd : Addr → Hp → Prop} {σ : L2.St} {te : TE} {vs : List Nat} {sl : Nat} {a : Addr} {xs : List V} (f : Nat → V) (hx : SqL K H1 a xs) (hz : xs.length ≤ 100000) (hw : ∀ v : Option V, wipe ((wipe σ vs).set sl v) vs = wipe σ vs)
    (hs : ∀ (i : Nat) x H2, xs[i]? = some x → Same H1 H2 → ∀ k : VK, (∀ H5, Same H2 H5 → k (f i) H5) → te ((wipe σ vs).set sl (some x)) H2 k)
    (hd : ∀ D H2, H1 D = none → Same H1 H2 → H2 D = some (.lst ((List.range xs.length).map f)) → Qd D H2) :
    ∃ a', V.ref a = .ref a' ∧ (∃ xs, SqL K H1 a' xs) ∧ ∀ D, H1 D = none → ∃ W : Nat → Nat → Hp → Prop, (∃ m, W 0 m (upd H1 D (.lst []))) ∧ ∀ i m H, W i m H →
  ((Itl K a').stop i H ∧ Qd D H) ∨ ((Itl K a').go i H ∧ ∃ Nx : Hp → Prop, (∀ H', Nx H' → ∃ m', m' < m ∧ W (i + 1) m' H') ∧ ∀ x H', (Itl K a').yld i H x H' → gName sl x (wipe σ vs) H' fun σ2 H2 => wipe σ2 vs = wipe σ vs ∧ tYes σ2 H2 fun b H3 =>
    if b = true then te σ2 H3 fun y H4 => ∃ acc, H4 D = some (.lst acc) ∧ acc.length < sizeLine ∧ Nx (upd H4 D (.lst (acc ++ [y]))) else Nx H3) := by
  refine ⟨a, rfl, ⟨xs, hx⟩, fun D hD => ?_⟩
  refine lc_list (K := K) (xs := xs) (fun i H2 => Same H1 H2 ∧ H2 D = some (.lst ((List.range i).map f))) ⟨s_upd hD, upd_same⟩ (fun i H2 _ p => p.1.seq hx) (fun i x H2 hi ⟨s2, hl⟩ => ?_) (fun H2 ⟨s2, hl⟩ => hd D H2 hD s2 hl)
  have hlt := (List.getElem?_eq_some_iff.mp hi).1
  refine ⟨hw _, i_t (B := Same H1 H2 ∧ H2 D = some (.lst ((List.range (i + 1)).map f))) ?_⟩
  refine (hs i x H2 hi s2 _ fun H5 s5 => ⟨_, s5 _ _ hl, szl (by rw [List.length_map, List.length_range]; omega), s_mut (s2.trans s5) hD, ?_⟩)
  rw [List.range_succ, List.map_append]
  exact upd_same
theorem lc_rng2 {H : Hp} {Q : VK} {σ : L2.St} {ta : TA} {g : TG} {tt : TT} {te : TE} {vs : List Nat} (h : ta σ H fun ws H1 => ∃ a j : Int, ws = [V.int a, V.int j] ∧ (-(2 ^ 62) ≤ a ∧ a < 2 ^ 62 ∧ -(2 ^ 62) ≤ j ∧ j < 2 ^ 62) ∧ ∀ D, H1 D = none → ∃ W : Nat → Nat → Hp → Prop, (∃ m, W 0 m (upd H1 D (.lst []))) ∧ ∀ i m H, W i m H →
  ((Itr a (j - a).toNat).stop i H ∧ Q (.ref D) H) ∨ ((Itr a (j - a).toNat).go i H ∧ ∃ Nx : Hp → Prop, (∀ H', Nx H' → ∃ m', m' < m ∧ W (i + 1) m' H') ∧ ∀ x H', (Itr a (j - a).toNat).yld i H x H' → g x (wipe σ vs) H' fun σ2 H2 => wipe σ2 vs = wipe σ vs ∧ tt σ2 H2 fun b H3 =>
    if b = true then te σ2 H3 fun y H4 => ∃ acc, H4 D = some (.lst acc) ∧ acc.length < sizeLine ∧ Nx (upd H4 D (.lst (acc ++ [y]))) else Nx H3)) : tLc (iRng2 ta) g tt te vs σ H Q := h
/-- a comprehension over range(a, j) with a test; elements and tests leave all as it was -/
theorem lcr2_filt {H1 : Hp} {Qd : Addr → Hp → Prop} {σ : L2.St} {tt : TT} {te : TE} {vs : List Nat} {sl : Nat} {a j : Int} (n : Nat) (p : Nat → Bool) (f : Nat → V) (hj : (j - a).toNat = n) (hb : -(2 ^ 62) ≤ a ∧ a < 2 ^ 62 ∧ -(2 ^ 62) ≤ j ∧ j < 2 ^ 62) (hz : n ≤ 100000) (hw : ∀ v : Option V, wipe ((wipe σ vs).set sl v) vs = wipe σ vs)
    (ht : ∀ i H2, i < n → Same H1 H2 → ∀ k : Bool → Hp → Prop, (∀ H5, Same H2 H5 → k (p i) H5) → tt ((wipe σ vs).set sl (some (V.int (a + (i : Nat))))) H2 k)
    (hs : ∀ i H2, i < n → Same H1 H2 → ∀ k : VK, (∀ H5, Same H2 H5 → k (f i) H5) → te ((wipe σ vs).set sl (some (V.int (a + (i : Nat))))) H2 k)
    (hd : ∀ D H2, H1 D = none → Same H1 H2 → H2 D = some (.lst (((List.range n).filter p).map f)) → Qd D H2) :
    ∃ a' j' : Int, [V.int a, V.int j] = [V.int a', V.int j'] ∧ (-(2 ^ 62) ≤ a' ∧ a' < 2 ^ 62 ∧ -(2 ^ 62) ≤ j' ∧ j' < 2 ^ 62) ∧ ∀ D, H1 D = none → ∃ W : Nat → Nat → Hp → Prop, (∃ m, W 0 m (upd H1 D (.lst []))) ∧ ∀ i m H, W i m H →
  ((Itr a' (j' - a').toNat).stop i H ∧ Qd D H) ∨ ((Itr a' (j' - a').toNat).go i H ∧ ∃ Nx : Hp → Prop, (∀ H', Nx H' → ∃ m', m' < m ∧ W (i + 1) m' H') ∧ ∀ x H', (Itr a' (j' - a').toNat).yld i H x H' → gName sl x (wipe σ vs) H' fun σ2 H2 => wipe σ2 vs = wipe σ vs ∧ tt σ2 H2 fun b H3 =>
    if b = true then te σ2 H3 fun y H4 => ∃ acc, H4 D = some (.lst acc) ∧ acc.length < sizeLine ∧ Nx (upd H4 D (.lst (acc ++ [y]))) else Nx H3) := by
  refine ⟨a, j, rfl, hb, fun D hD => ?_⟩
  subst hj
  refine lc_range (lo := a) (fun i H2 => Same H1 H2 ∧ H2 D = some (.lst (((List.range i).filter p).map f))) ⟨s_upd hD, upd_same⟩ (fun i H2 hi ⟨s2, hl⟩ => ?_) (fun H2 ⟨s2, hl⟩ => hd D H2 hD s2 hl)
  refine ⟨hw _, ht i H2 hi s2 _ fun H5 s5 => ?_⟩
  have hl5 := s5 _ _ hl
  cases hp : p i with
  | true =>
    refine i_t ?_
    refine (hs i H5 hi (s2.trans s5) _ fun H6 s6 => ⟨_, s6 _ _ hl5, szl ?_, s_mut ((s2.trans s5).trans s6) hD, ?_⟩)
    · rw [List.length_map]
      have := List.length_filter_le p (List.range i)
      rw [List.length_range] at this
      omega
    · rw [List.range_succ, List.filter_append, List.filter_cons, hp, if_pos rfl, List.filter_nil, List.map_append]
      exact upd_same
  | false =>
    refine i_f ⟨s2.trans s5, ?_⟩
    rw [List.range_succ, List.filter_append, List.filter_cons, hp, if_neg Bool.false_ne_true, List.filter_nil, List.append_nil]
    exact hl5
theorem lcr_filt {H1 : Hp} {Qd : Addr → Hp → Prop} {σ : L2.St} {tt : TT} {te : TE} {vs : List Nat} {sl : Nat} {j : Int} (n : Nat) (p : Nat → Bool) (f : Nat → V) (hj : j.toNat = n) (hb : -(2 ^ 62) ≤ j ∧ j < 2 ^ 62) (hz : n ≤ 100000) (hw : ∀ v : Option V, wipe ((wipe σ vs).set sl v) vs = wipe σ vs)
    (ht : ∀ i H2, i < n → Same H1 H2 → ∀ k : Bool → Hp → Prop, (∀ H5, Same H2 H5 → k (p i) H5) → tt ((wipe σ vs).set sl (some (V.int (i : Nat)))) H2 k)
    (hs : ∀ i H2, i < n → Same H1 H2 → ∀ k : VK, (∀ H5, Same H2 H5 → k (f i) H5) → te ((wipe σ vs).set sl (some (V.int (i : Nat)))) H2 k)
    (hd : ∀ D H2, H1 D = none → Same H1 H2 → H2 D = some (.lst (((List.range n).filter p).map f)) → Qd D H2) :
    ∃ j' : Int, [V.int j] = [V.int j'] ∧ -(2 ^ 62) ≤ j' ∧ j' < 2 ^ 62 ∧ ∀ D, H1 D = none → ∃ W : Nat → Nat → Hp → Prop, (∃ m, W 0 m (upd H1 D (.lst []))) ∧ ∀ i m H, W i m H →
  ((Itr 0 j'.toNat).stop i H ∧ Qd D H) ∨ ((Itr 0 j'.toNat).go i H ∧ ∃ Nx : Hp → Prop, (∀ H', Nx H' → ∃ m', m' < m ∧ W (i + 1) m' H') ∧ ∀ x H', (Itr 0 j'.toNat).yld i H x H' → gName sl x (wipe σ vs) H' fun σ2 H2 => wipe σ2 vs = wipe σ vs ∧ tt σ2 H2 fun b H3 =>
    if b = true then te σ2 H3 fun y H4 => ∃ acc, H4 D = some (.lst acc) ∧ acc.length < sizeLine ∧ Nx (upd H4 D (.lst (acc ++ [y]))) else Nx H3) := by
  refine ⟨j, rfl, hb.1, hb.2, fun D hD => ?_⟩
  subst hj
  refine lc_range (lo := 0) (fun i H2 => Same H1 H2 ∧ H2 D = some (.lst (((List.range i).filter p).map f))) ⟨s_upd hD, upd_same⟩ (fun i H2 hi ⟨s2, hl⟩ => ?_) (fun H2 ⟨s2, hl⟩ => hd D H2 hD s2 hl)
  have e0 : (0 : Int) + (i : Nat) = (i : Nat) := Int.zero_add _
  rw [e0]
  refine ⟨hw _, ht i H2 hi s2 _ fun H5 s5 => ?_⟩
  have hl5 := s5 _ _ hl
  cases hp : p i with
  | true =>
    refine i_t ?_
    refine (hs i H5 hi (s2.trans s5) _ fun H6 s6 => ⟨_, s6 _ _ hl5, szl ?_, s_mut ((s2.trans s5).trans s6) hD, ?_⟩)
    · rw [List.length_map]
      have := List.length_filter_le p (List.range i)
      rw [List.length_range] at this
      omega
    · rw [List.range_succ, List.filter_append, List.filter_cons, hp, if_pos rfl, List.filter_nil, List.map_append]
      exact upd_same
  | false =>
    refine i_f ⟨s2.trans s5, ?_⟩
    rw [List.range_succ, List.filter_append, List.filter_cons, hp, if_neg Bool.false_ne_true, List.filter_nil, List.append_nil]
    exact hl5
/-! ranges with a step -/
theorem for_rng3 {D : Ends} {H : Hp} {σ : L2.St} {ta : TA} {g : TG} {tb : TS} (h : ta σ H fun vs H1 => ∃ (i j c : Int) (n : Nat), vs = [V.int i, V.int j, V.int c] ∧ RgC i j c n ∧ ∃ W : Nat → Nat → L2.St → Hp → Prop, (∃ m, W 0 m σ H1) ∧ ∀ k m σ H, W k m σ H →
  ((Itc i c n).stop k H ∧ D.nx σ H) ∨ ((Itc i c n).go k H ∧ ∃ N : L2.St → Hp → Prop, (∀ σ' H', N σ' H' → ∃ m', m' < m ∧ W (k + 1) m' σ' H') ∧ ∀ x H', (Itc i c n).yld k H x H' → g x σ H' fun σ2 H2 => tb { D with nx := N, ct := N, bk := D.nx } σ2 H2)) : tFor (iRng3 ta) g tb D σ H := h
theorem rng_go3 {D : Ends} {H1 : Hp} {σ : L2.St} {a j c : Int} {g : TG} {tb : TS} (n : Nat) (hr : RgC a j c n) (Pv : Nat → L2.St → Hp → Prop) (h0 : Pv 0 σ H1)
    (hs : ∀ i σ H, i < n → Pv i σ H → g (V.int (a + (i : Nat) * c)) σ H fun σ2 H2 => tb { D with nx := Pv (i + 1), ct := Pv (i + 1), bk := D.nx } σ2 H2) (hd : ∀ σ H, Pv n σ H → D.nx σ H) :
    ∃ (i' j' c' : Int) (n' : Nat), [V.int a, V.int j, V.int c] = [V.int i', V.int j', V.int c'] ∧ RgC i' j' c' n' ∧ ∃ W : Nat → Nat → L2.St → Hp → Prop, (∃ m, W 0 m σ H1) ∧ ∀ k m σ H, W k m σ H →
  ((Itc i' c' n').stop k H ∧ D.nx σ H) ∨ ((Itc i' c' n').go k H ∧ ∃ N : L2.St → Hp → Prop, (∀ σ' H', N σ' H' → ∃ m', m' < m ∧ W (k + 1) m' σ' H') ∧ ∀ x H', (Itc i' c' n').yld k H x H' → g x σ H' fun σ2 H2 => tb { D with nx := N, ct := N, bk := D.nx } σ2 H2) :=
  ⟨a, j, c, n, rfl, hr, for_rangeC (lo := a) (c := c) Pv h0 hs hd⟩
theorem lc_rng3 {H : Hp} {Q : VK} {σ : L2.St} {ta : TA} {g : TG} {tt : TT} {te : TE} {vs : List Nat} (h : ta σ H fun ws H1 => ∃ (lo j c : Int) (n : Nat), ws = [V.int lo, V.int j, V.int c] ∧ RgC lo j c n ∧ ∀ D, H1 D = none → ∃ W : Nat → Nat → Hp → Prop, (∃ m, W 0 m (upd H1 D (.lst []))) ∧ ∀ i m H, W i m H →
  ((Itc lo c n).stop i H ∧ Q (.ref D) H) ∨ ((Itc lo c n).go i H ∧ ∃ Nx : Hp → Prop, (∀ H', Nx H' → ∃ m', m' < m ∧ W (i + 1) m' H') ∧ ∀ x H', (Itc lo c n).yld i H x H' → g x (wipe σ vs) H' fun σ2 H2 => wipe σ2 vs = wipe σ vs ∧ tt σ2 H2 fun b H3 =>
    if b = true then te σ2 H3 fun y H4 => ∃ acc, H4 D = some (.lst acc) ∧ acc.length < sizeLine ∧ Nx (upd H4 D (.lst (acc ++ [y]))) else Nx H3)) : tLc (iRng3 ta) g tt te vs σ H Q := h
theorem lcr3_pure {H1 : Hp} {Qd : Addr → Hp → Prop} {σ : L2.St} {te : TE} {vs : List Nat} {sl : Nat} {a j c : Int} (n : Nat) (f : Nat → V) (hr : RgC a j c n) (hz : n ≤ 100000) (hw : ∀ v : Option V, wipe ((wipe σ vs).set sl v) vs = wipe σ vs)
    (hs : ∀ i H2, i < n → Same H1 H2 → ∀ k : VK, (∀ H5, Same H2 H5 → k (f i) H5) → te ((wipe σ vs).set sl (some (V.int (a + (i : Nat) * c)))) H2 k)
    (hd : ∀ D H2, H1 D = none → Same H1 H2 → H2 D = some (.lst ((List.range n).map f)) → Qd D H2) :
    ∃ (i' j' c' : Int) (n' : Nat), [V.int a, V.int j, V.int c] = [V.int i', V.int j', V.int c'] ∧ RgC i' j' c' n' ∧ ∀ D, H1 D = none → ∃ W : Nat → Nat → Hp → Prop, (∃ m, W 0 m (upd H1 D (.lst []))) ∧ ∀ i m H, W i m H →
  ((Itc i' c' n').stop i H ∧ Qd D H) ∨ ((Itc i' c' n').go i H ∧ ∃ Nx : Hp → Prop, (∀ H', Nx H' → ∃ m', m' < m ∧ W (i + 1) m' H') ∧ ∀ x H', (Itc i' c' n').yld i H x H' → gName sl x (wipe σ vs) H' fun σ2 H2 => wipe σ2 vs = wipe σ vs ∧ tYes σ2 H2 fun b H3 =>
    if b = true then te σ2 H3 fun y H4 => ∃ acc, H4 D = some (.lst acc) ∧ acc.length < sizeLine ∧ Nx (upd H4 D (.lst (acc ++ [y]))) else Nx H3) := by
  refine ⟨a, j, c, n, rfl, hr, fun D hD => ?_⟩
  refine ⟨fun i m H2 => m = n - i ∧ i ≤ n ∧ Same H1 H2 ∧ H2 D = some (.lst ((List.range i).map f)), ⟨n, by simp, Nat.zero_le _, s_upd hD, upd_same⟩, ?_⟩
  rintro i m H2 ⟨rfl, hi, s2, hl⟩
  by_cases hlt : i < n
  · refine .inr ⟨hlt, fun H' => Same H1 H' ∧ H' D = some (.lst ((List.range (i + 1)).map f)), fun H' p' => ⟨n - (i + 1), by omega, rfl, hlt, p'.1, p'.2⟩, fun x H' y => ?_⟩
    obtain ⟨e, y⟩ := y
    subst e y
    refine ⟨hw _, i_t (B := Same H1 H' ∧ H' D = some (HO.lst ((List.range (i + 1)).map f))) ?_⟩
    refine (hs i _ hlt s2 _ fun H5 s5 => ⟨_, s5 _ _ hl, szl (by rw [List.length_map, List.length_range]; omega), s_mut (s2.trans s5) hD, ?_⟩)
    rw [List.range_succ, List.map_append]
    exact upd_same
  · have e : i = n := by omega
    subst e
    exact .inl ⟨Nat.le_refl _, hd D H2 hD s2 hl⟩
/-! instances -/
def fldP (K : PySem.W.Frag) (f : Str) : V → Hp → VK → Prop := fun x H1 Q => ∃ a C dx fs v, x = .ref a ∧ H1 a = some (.ins C dx fs) ∧ Cls K C ∧ NoAttr K C f ∧ fs.lookup f = some v ∧ Q v H1
theorem r_fld {H : Hp} {K : PySem.W.Frag} {Q : VK} {σ : L2.St} {ta : TE} {f : Str} (h : ta σ H fun x H1 => fldP K f x H1 Q) : tFld K ta f σ H Q := h
theorem r_fldP {H : Hp} {K : PySem.W.Frag} {Q : VK} {f : Str} {a C dx : Addr} {fs : List (Str × V)} {v : V} (h : H a = some (.ins C dx fs)) (c : Cls K C) (n : NoAttr K C f) (l : fs.lookup f = some v) (q : Q v H) : fldP K f (.ref a) H Q := ⟨a, C, dx, fs, v, rfl, h, c, n, l, q⟩
def setP (K : PySem.W.Frag) (f : Str) (y : V) : V → Hp → (Hp → Prop) → Prop := fun x H2 k => ∃ a C dx fs, x = .ref a ∧ H2 a = some (.ins C dx fs) ∧ Cls K C ∧ NoAttr K C f ∧ fs.length < 1000 ∧ k (upd H2 a (.ins C dx (putF f y fs)))
theorem r_sfld {D : Ends} {H : Hp} {K : PySem.W.Frag} {σ : L2.St} {ta tv : TE} {f : Str} (h : tv σ H fun y H1 => ta σ H1 fun x H2 => setP K f y x H2 fun H3 => D.nx σ H3) : sFld K ta tv f D σ H := h
theorem r_setP {H : Hp} {K : PySem.W.Frag} {f : Str} {y : V} {a C dx : Addr} {fs : List (Str × V)} {k : Hp → Prop} (h : H a = some (.ins C dx fs)) (c : Cls K C) (n : NoAttr K C f) (l : fs.length < 1000) (q : k (upd H a (.ins C dx (putF f y fs)))) : setP K f y (.ref a) H k := ⟨a, C, dx, fs, rfl, h, c, n, l, q⟩
theorem r_make {H : Hp} {Q : VK} {σ : L2.St} {C : Addr} {sp : Sp} {E : XK} {t : TA} (h : t σ H fun vs H1 => ∀ x dx, H1 x = none → H1 dx = none → dx ≠ x → sp (.ref x :: (vs ++ [])) (upd (upd H1 dx (.own x)) x (.ins C dx [])) (fun v H2 => v = .non ∧ Q (.ref x) H2) E) : tMake C sp [] E t σ H Q := h
def objP (C : Addr) (m : Str) : V → Hp → (Hp → Prop) → Prop := fun x H1 k => ∃ a dx fs, x = .ref a ∧ H1 a = some (.ins C dx fs) ∧ fs.lookup m = none ∧ k H1
theorem r_meth {H : Hp} {Q : VK} {σ : L2.St} {C : Addr} {m : Str} {sp : Sp} {E : XK} {ta : TE} {t : TA} (h : ta σ H fun x H1 => objP C m x H1 fun H1 => t σ H1 fun vs H2 => sp (x :: (vs ++ [])) H2 Q E) : tMeth C m sp [] E ta t σ H Q := h
theorem r_objP {H : Hp} {m : Str} {a C dx : Addr} {fs : List (Str × V)} {k : Hp → Prop} (h : H a = some (.ins C dx fs)) (l : fs.lookup m = none) (q : k H) : objP C m (.ref a) H k := ⟨a, dx, fs, rfl, h, l, q⟩
theorem look_1 {f : Str} {v : V} {r : List (Str × V)} : List.lookup f ((f, v) :: r) = some v := by simp [List.lookup]
theorem look_s {f g : Str} {v : V} {r : List (Str × V)} (h : ¬ f = g) : List.lookup f ((g, v) :: r) = List.lookup f r := by
  have e : (f == g) = false := by simp [h]
  simp [List.lookup, e]
theorem look_0 {f : Str} : List.lookup f ([] : List (Str × V)) = none := rfl
theorem put_s {f g : Str} {v x : V} {r : List (Str × V)} (h : ¬ g = f) : putF f v ((g, x) :: r) = (g, x) :: putF f v r := if_neg h
theorem put_1 {f : Str} {v x : V} {r : List (Str × V)} : putF f v ((f, x) :: r) = (f, v) :: r := if_pos rfl
theorem put_0 {f : Str} {v : V} : putF f v [] = [(f, v)] := rfl
theorem cut_mid {xs : List V} {a b : Nat} (h : a ≤ b) : cutV xs (some (a : Int)) (some (b : Int)) = (xs.drop a).take (b - a) := by
  unfold cutV
  rw [HT.sIx_nat, HT.sIx_nat]
  by_cases h1 : b ≤ xs.length
  · rw [Nat.min_eq_left h1, Nat.min_eq_left (by omega)]
  · by_cases h2 : a ≤ xs.length
    · rw [Nat.min_eq_right (by omega), Nat.min_eq_left h2, List.take_of_length_le (by rw [List.length_drop]; omega), List.take_of_length_le (by rw [List.length_drop]; omega)]
    · rw [Nat.min_eq_right (by omega), Nat.min_eq_right (by omega), List.drop_length, List.drop_of_length_le (by omega)]
      simp
theorem c_pow {i j : Int} (h0 : 0 ≤ j) (h1 : j ≤ 1000000) (h2 : i.natAbs < 2 ^ 64) : CPow i j := ⟨h0, h1, h2⟩
theorem c_mulR {i j : Int} (h0 : -18446744073709551616 < j) (h1 : j < 18446744073709551616) : CMul i j := .inr ⟨h0, h1⟩
theorem c_mulL {i j : Int} (h0 : -18446744073709551616 < i) (h1 : i < 18446744073709551616) : CMul i j := .inl ⟨h0, h1⟩
theorem c_div {i j : Int} (h0 : 0 < j) (h1 : j < 1073741824) : CDiv i j := ⟨h0, h1⟩
theorem r_cut {D : Ends} {H : Hp} {σ : L2.St} {t u : TS} (Mid : L2.St → Hp → Prop) (h : t { D with nx := Mid } σ H) (k : ∀ σ' H', Mid σ' H' → u D σ' H') : C8.tCut t u D σ H := ⟨Mid, h, k⟩
theorem cut_to {xs : List V} {k : Nat} : cutV xs none (some (k : Int)) = xs.take k := by
  unfold cutV
  rw [HT.sIx_none, HT.sIx_nat, List.drop_zero, Nat.sub_zero]
  by_cases h : k ≤ xs.length
  · rw [Nat.min_eq_left h]
  · rw [Nat.min_eq_right (by omega), List.take_length, List.take_of_length_le (by omega)]
theorem cut_all {xs : List V} {k : Nat} (h : xs.length ≤ k) : cutV xs none (some (k : Int)) = xs := by
  rw [cut_to, List.take_of_length_le h]
theorem len4 {ns : List Int} (h : ns.length = 4) : ∃ a b c d, ns = [a, b, c, d] := by
  match ns, h with
  | [a, b, c, d], _ => exact ⟨a, b, c, d, rfl⟩
theorem len3 {ns : List Int} (h : ns.length = 3) : ∃ a b c, ns = [a, b, c] := by
  match ns, h with
  | [a, b, c], _ => exact ⟨a, b, c, rfl⟩
theorem len2 {ns : List Int} (h : ns.length = 2) : ∃ a b, ns = [a, b] := by
  match ns, h with
  | [a, b], _ => exact ⟨a, b, rfl⟩
theorem len7 {ns : List Int} (h : ns.length = 7) : ∃ a b c d e f g, ns = [a, b, c, d, e, f, g] := by
  match ns, h with
  | [a, b, c, d, e, f, g], _ => exact ⟨a, b, c, d, e, f, g, rfl⟩
theorem len6 {ns : List Int} (h : ns.length = 6) : ∃ a b c d e f, ns = [a, b, c, d, e, f] := by
  match ns, h with
  | [a, b, c, d, e, f], _ => exact ⟨a, b, c, d, e, f, rfl⟩
theorem r_take {K : PySem.W.Frag} {H : Hp} {Q : VK} {a : Addr} {ns : List Int} {k : Int} (n : Nat) (hk : k = (n : Int)) (h : SqL K H a (ns.map V.int)) (q : ∀ p H1, H p = none → Same H H1 → H1 p = some (.lst ((ns.take n).map V.int)) → Q (.ref p) H1) : rSlL K (.ref a) none (some k) H Q := by
  subst hk
  refine ⟨a, ns.map V.int, rfl, h, fun p hp => ?_⟩
  rw [cut_to, ← List.map_take]
  exact q p _ hp (s_upd hp) upd_same
/-- the script's first items: the whole of it -/
theorem r_script {K : PySem.W.Frag} {H : Hp} {Q : VK} {a : Addr} {ns : List Int} {k : Int} (hk : 63 ≤ k) (h : SqL K H a (ns.map V.int)) (hn : ns.length ≤ 63) (q : ∀ p H1, H p = none → Same H H1 → H1 p = some (.lst (ns.map V.int)) → Q (.ref p) H1) : rSlL K (.ref a) none (some k) H Q := by
  refine ⟨a, ns.map V.int, rfl, h, fun p hp => ?_⟩
  have e : k = ((k.toNat : Nat) : Int) := by omega
  rw [e, cut_all (by rw [List.length_map]; omega)]
  exact q p _ hp (s_upd hp) upd_same
/-! list facts -/
theorem at_map {ns : List Int} {i : Int} {j : Nat} {n : Int} (e : i = (j : Int)) (h : ns[j]? = some n) : atI (ns.map V.int) i = some (.int n) := by
  subst e
  exact atI_nat (by rw [List.getElem?_map, h]; rfl)
theorem at_lt {α : Type} {xs : List α} {i : Int} {j : Nat} (e : i = (j : Int)) (h : j < xs.length) : atI xs i = some xs[j] := by
  subst e
  exact atI_nat (List.getElem?_eq_getElem h)
theorem get_map {ns : List Int} {i : Nat} {x : V} (h : (ns.map V.int)[i]? = some x) : ∃ n, ns[i]? = some n ∧ x = .int n := by
  rw [List.getElem?_map] at h
  cases e : ns[i]? with
  | none => rw [e] at h; cases h
  | some z => rw [e] at h; exact ⟨z, rfl, (Option.some.inj h).symm⟩
theorem flat_ints (ns : List Int) : (ns.map V.int).all flatV = true := by
  rw [List.all_eq_true]; intro v hv; obtain ⟨n, _, rfl⟩ := List.mem_map.mp hv; rfl
theorem inV_ints (n : Int) (ns : List Int) : inV (.int n) (ns.map V.int) = dB (n ∈ ns) := by
  unfold inV
  induction ns with
  | nil => rw [dB_f (by simp)]; rfl
  | cons m r ih =>
    rw [List.map_cons, List.any_cons, ih]
    show ((m == n) || dB (n ∈ r)) = _
    by_cases h : m = n
    · subst h; rw [dB_t (List.mem_cons_self ..)]; simp
    · by_cases h2 : n ∈ r
      · rw [dB_t h2, dB_t (List.mem_cons_of_mem _ h2)]; simp
      · rw [dB_f h2, dB_f (fun z => by rcases List.mem_cons.mp z with z | z; exact h z.symm; exact h2 z)]; simp [h]
theorem r_inI {K : PySem.W.Frag} {H : Hp} {Q : VK} {p : Addr} {ns : List Int} {n : Int} (h : SqL K H p (ns.map V.int)) (q : Q (.bl (dB (n ∈ ns))) H) : rIn K false (.int n) (.ref p) H Q :=
  ⟨p, ns.map V.int, rfl, .inl h, rfl, flat_ints ns, by rw [inV_ints]; exact q⟩
theorem cut_from {xs : List V} {k : Nat} : cutV xs (some (k : Int)) none = xs.drop k := by
  unfold cutV
  rw [HT.sIx_none, HT.sIx_nat]
  by_cases h : k ≤ xs.length
  · rw [Nat.min_eq_left h, List.take_of_length_le (by rw [List.length_drop]; omega)]
  · rw [Nat.min_eq_right (by omega), List.drop_length, List.drop_of_length_le (by omega)]; simp
/-! any of ints -/
def rAnyI (K : PySem.W.Frag) : List V → Hp → VK → Prop := fun vs H Q => ∃ (a : Addr) (ns : List Int), vs = [V.ref a] ∧ SqL K H a (ns.map V.int) ∧ Q (.bl (ns.any (· != 0))) H
theorem truth_ints {prog : Program} {w : World} {A : Around} {ns : List Int} {its : List Value} (r : Vals (ns.map V.int) its) :
    TruthOf prog w A (fun i v => its.toArray[i]? = some v) (fun i => (ns.map (· != 0)).getD i false) := fun i v s Q E hv hq => by
  have hv' : its[i]? = some v := by simpa using hv
  have hl := r.length
  have hi : i < ns.length := by
    have := (List.getElem?_eq_some_iff.mp hv').1
    rw [List.length_map] at hl
    omega
  obtain ⟨u, hu, ru⟩ := r.get (i := i) (x := .int ns[i]) (by rw [List.getElem?_map, List.getElem?_eq_getElem hi]; rfl)
  rw [hv'] at hu
  cases hu
  obtain ⟨t, rfl⟩ := ru
  have hg : (ns.map (· != 0)).getD i false = (ns[i] != 0) := by rw [List.getD_eq_getElem?_getD, List.getElem?_map, List.getElem?_eq_getElem hi]; rfl
  have hq' : Q ((ns.map (· != 0)).getD i false) s := hq
  rw [hg] at hq'
  exact truthy_int hq'
theorem cr_anyI {X : Cx} (hc : X.calm = true) : CallR X (.builtin "any") (rAnyI X.K) := by
  intro pins s σ H vs us Q I r h
  obtain ⟨a, ns, rfl, hs, q⟩ := h
  obtain ⟨its, rv, hl, _⟩ := I.list hs
  rw [Vals.ref1 r]
  have hlen := rv.length
  rw [List.length_map] at hlen
  refine call_any_walk (iter_any hl.isList fun s₂ e2 st hne => ?_)
  subst e2
  refine ⟨_, _, _, _, _, _, _, rfl, Walks.list (A := X.A.in1) (I.ok.hd hc) _ a hne its.toArray, st, truth_ints rv, fun h' tk hk => ?_⟩
  refine ⟨.bl _, H, I.kept fun b o eo => hk b o (fun hmem => ?_) (Heap.get?_push_of_some _ eo), ?_, q⟩
  · rcases List.mem_cons.mp hmem with e1 | hmem
    · exact absurd (e1 ▸ Heap.lt_size eo) (Nat.lt_irrefl _)
    · cases hmem
  · show Value.bool _ = Value.bool _
    have e := L2.any_range (ns.map (· != 0))
    rw [List.any_map, List.length_map] at e
    rw [List.size_toArray, ← hlen, e]; rfl
theorem r_anyI {K : PySem.W.Frag} {H : Hp} {Q : VK} {a : Addr} {ns : List Int} (h : SqL K H a (ns.map V.int)) (q : Q (.bl (ns.any (· != 0))) H) : rAnyI K [.ref a] H Q := ⟨a, ns, rfl, h, q⟩
theorem r_isB {i j : Bool} {H : Hp} {Q : VK} (q : Q (.bl (dB (i = j))) H) : rIsB (.bl i) (.bl j) H Q := ⟨i, j, rfl, rfl, q⟩
theorem r_notB {i j : Bool} {H : Hp} {Q : VK} (q : Q (.bl (!dB (i = j))) H) : rNotB (.bl i) (.bl j) H Q := ⟨i, j, rfl, rfl, q⟩
theorem r_neL {H : Hp} {K : PySem.W.Frag} {Q : VK} {a b : Addr} {ns : List Int} (ha : SqL K H a (ns.map V.int)) (hb : SqL K H b (ns.map V.int)) (q : Q (.bl false) H) : rNeD K (.ref a) (.ref b) H Q :=
  ⟨_, _, .lst ha (dp_ints ns), .lst hb (dp_ints ns), shaped_ints ns, shaped_ints ns, by rw [eqv_ints]; exact q⟩
/-! ## what the top has written -/
def valsOk (us : Array Value) (xs : List V) : Bool := decide (us.size ≤ 100000) && decide (us.toList.mapM absV = some xs)
theorem rel_of {u : Value} {x : V} (h : absV u = some x) : RelV x u := by
  cases u <;> first | (cases h; rfl) | (cases h; exact ⟨_, rfl⟩) | (cases h)
theorem vals_of : ∀ {us : List Value} {xs : List V}, us.mapM absV = some xs → Vals xs us
  | [], xs, h => by
    have e : some [] = some xs := h
    cases e; exact .nil
  | u :: us, xs, h => by
    rw [List.mapM_cons] at h
    cases e1 : absV u with
    | none => rw [e1] at h; cases h
    | some x =>
      cases e2 : us.mapM absV with
      | none => rw [e1, e2] at h; cases h
      | some ys =>
        rw [e1, e2] at h
        have e : some (x :: ys) = some xs := h
        cases e
        exact .cons (rel_of e1) (vals_of e2)
theorem sqt_of {K : PySem.W.Frag} {H : Hp} {A : Addr} {dd : Option Addr} {its : Array Value} {n : Nat} {ss : Array (Option Value)} {xs : List V}
    (lk : K.lookup A = some ⟨.type "tuple", dd, .seq its n, ss⟩) (h : valsOk its xs = true) : SqT K H A xs := by
  unfold valsOk at h
  rw [Bool.and_eq_true] at h
  exact .inr ⟨_, its, n, lk, rfl, rfl, sz (of_decide_eq_true h.1), vals_of (of_decide_eq_true h.2)⟩
end Z

namespace Z
open PySem PySem.W PySem.Spec PySem.Calls PyProof.Rows Builtin Builtin.ObjectAttr Builtin.Getset_descriptor
section
variable {prog : Program} {w : World} {A : Around} {E : Value → Shared → Prop} {s : Shared} {K : Frag} {x D : Addr} {ox : Obj} {od : Option Obj}
/-- what an error's class must say, so that `__class__` of its objects is read -/
structure EcC (K : Frag) (D : Addr) : Prop where
  ga : findIn K (.ref D) "__getattribute__" = some (some (.builtin "BaseException.__getattribute__"))
  gg : findIn K (.ref D) "__getattr__" = some none
  sb : subIn K (.ref D) (.type "BaseException") = some true
  hd : hasDictIn K D = true
  cl : findIn K (.ref D) "__class__" = some (some (.builtin "object.__class__"))
  gt : specialIn K (.builtin "object.__class__") "__get__" = some (some (.builtin "getset_descriptor.__get__"))
  tk : takesIn K (.builtin "object.__class__") = some true
  ob : mroIn K D (.type "object") = some true
theorem EcC.find (c : EcC K D) (od : Option Obj) : findObj K D od "__class__" = some (.bind (.builtin "getset_descriptor.__get__") (.builtin "object.__class__")) := by
  obtain ⟨cd, hc, _⟩ := any_some c.hd
  have hc' : clsIn K D = some cd := hc
  unfold findObj; simp [hc', c.cl, c.gt, c.tk]
/-- the call behind it -/
theorem ec_code {R : Result → Shared → Prop} {tk : Tok} (c : EcC K D) (X : K.In s.heap) (I : InstAt s.heap x ox D od) (h : R (.ok (.ret (.ref D))) s) :
    codeAny (model prog w) A (.call (.builtin "BaseException.__getattribute__") ⟨[.ref x, .str "__class__" tk], []⟩) R s := by
  obtain ⟨hp, g, d, t, os⟩ := s
  have La := I.type (M := model prog w)
  have Lb := looks_find (M := model prog w) X I (c.find od)
  have Lc : Looks (model prog w) hp (isInstance (.ref x) (.type "BaseException")) true := La.andThen (looks_subIn X c.sb)
  refine codeAny_call_builtin PySem.F.excAttr_ValueError.ga.plain PySem.F.entry_bexc_ga (@check_slot (model prog w) _ _ ⟨hp, g, d, t, os⟩ "BaseException.__getattribute__" "BaseException" "__getattribute__" (.ref x) [.str "__class__" tk] [] _ (by decide +kernel) (by decide +kernel) Lc (PySem.F.args_bexc_ga (.ref x) (.str "__class__" tk)) ?_)
  unfold Builtin.«object.__getattribute__»
  refine wpAny_bind (wpAny_of_eq (a := ((Value.ref x : Value), [Value.str "__class__" tk])) (by first | rfl | (simp only [slotArgs]; rfl)) (wpAny_bind (wpAny_pure (wpAny_bind (La.at (wpAny_bind (Lb.at ?_)))))))
  show wpAny _ _ (holding [Value.builtin "object.__class__"] (call (.builtin "getset_descriptor.__get__") [.builtin "object.__class__", .ref x, .ref D]) >>= ret) _ _ _
  exact wpAny_bind (wpAny_holding (wpAny_call (class_get (s := ⟨hp, g, d, t, os⟩) X I c.ob (wpAny_pure h))))
theorem ec_no {b : Bool} {v : Value} : (b && onTheHeap (Value.builtin "BaseException.__getattribute__")) = false ∧ (onTheHeap v && Value.builtin "BaseException.__getattribute__" == Value.builtin "object.__getattribute__") = false := by
  have z : (Value.builtin "BaseException.__getattribute__" == Value.builtin "object.__getattribute__") = false := by decide +kernel
  exact ⟨by cases b <;> rfl, by rw [z, Bool.and_false]⟩
/-- e.__class__, e an error -/
theorem ec_get {expr : Bool} {Q : Value → Shared → Prop} (c : EcC K D) (X : K.In s.heap) (I : InstAt s.heap x ox D od) (h : Q (.ref D) { s with toks := s.toks + 1 }) :
    wpAny (model prog w) A (getAttr (.ref x) "__class__" expr) Q E s := by
  obtain ⟨hp, g, d, t, os⟩ := s
  unfold getAttr getAttrBy
  refine wpAny_bind (wpAny_mkText (wpAny_holding (wpAny_bind (I.type.at (wpAny_bind ((looks_findIn (M := model prog w) X c.ga).at ?_))))))
  dsimp only
  rw [ec_no (b := true).2, if_neg Bool.false_ne_true]
  unfold getAttrByItsOwn hookBefore
  rw [if_pos (show onTheHeap (Value.ref D) = true from rfl)]
  refine wpAny_bind ((looks_findIn (M := model prog w) X c.gg).at (wpAny_bind (wpAny_attempt (wpAny_holding ?_))))
  unfold callGetattribute
  rw [ec_no (v := Value.none).1, if_neg Bool.false_ne_true]
  unfold boundAndCalled
  rw [PySem.F.excAttr_ValueError.ga.bind (.ref x)]
  refine wpAny_bind (wpAny_pure (wpAny_call (ec_code (s := ⟨hp, g, d, t + 1, os⟩) c X I ?_)))
  show wpAny _ _ (handedOut (.ref D)) _ _ _
  rw [handedOut_of (v := .ref D) rfl]
  exact wpAny_pure h
theorem ec_getQ {Q : Option Value → Shared → Prop} (c : EcC K D) (X : K.In s.heap) (I : InstAt s.heap x ox D od) (h : Q (some (.ref D)) { s with toks := s.toks + 1 }) :
    wpAny (model prog w) A (getAttr? (.ref x) "__class__") Q E s := by
  obtain ⟨hp, g, d, t, os⟩ := s
  unfold getAttr? getAttrBy? getAttrBy
  refine wpAny_bind (wpAny_mkText (wpAny_bind (wpAny_attempt (wpAny_holding (wpAny_bind (I.type.at (wpAny_bind ((looks_findIn (M := model prog w) X c.ga).at ?_))))))))
  dsimp only
  rw [ec_no (b := true).2, if_neg Bool.false_ne_true]
  unfold getAttrByItsOwn hookBefore
  rw [if_pos (show onTheHeap (Value.ref D) = true from rfl)]
  refine wpAny_bind ((looks_findIn (M := model prog w) X c.gg).at (wpAny_bind (wpAny_attempt (wpAny_holding ?_))))
  unfold callGetattribute
  rw [ec_no (v := Value.none).1, if_neg Bool.false_ne_true]
  unfold boundAndCalled
  rw [PySem.F.excAttr_ValueError.ga.bind (.ref x)]
  refine wpAny_bind (wpAny_pure (wpAny_call (ec_code (s := ⟨hp, g, d, t + 1, os⟩) c X I ?_)))
  show wpAny _ _ (handedOut (.ref D)) _ _ _
  rw [handedOut_of (v := .ref D) rfl]
  first
    | exact wpAny_pure (wpAny_pure h)
    | exact wpAny_pure h
    | exact wpAny_pure (wpAny_bind (wpAny_pure (wpAny_pure h)))
theorem ec_kit (c : EcC K D) : KitX K (.ref x) (.ref D) (fun h => ∃ ox od, InstAt h x ox D od) where
  ty := fun _ _ _ ⟨_, _, I⟩ => I.type
  it := fun _ _ X _ => by
    obtain ⟨cd, hc, _⟩ := any_some c.hd
    unfold clsIn at hc
    split at hc
    · rename_i ho
      exact fun A' Q' E' s' k q => by unfold isType loadHead; exact wpAny_bind (wpAny_loadPart (k _ _ (X _ _ ho)) (wpAny_pure q))
    · cases hc
  ne := fun h tp dd its n sl X htp => Bool.eq_false_iff.mpr fun q => by
    obtain rfl : D = tp := Value.ref.inj (beq_iff_eq.mp q)
    obtain ⟨cd, hc, _⟩ := any_some c.hd
    unfold clsIn at hc
    split at hc
    · rename_i ho
      have z := (X _ _ ho).symm.trans htp
      cases z
    · cases hc
  ca := fun X ⟨_, _, I⟩ k => ec_getQ c X I k
/-- the class C tells its name n -/
structure NmC (K : Frag) (C : Addr) (n : Str) : Prop where
  at_ : ∃ oc od cd k0 k1 t k, K.lookup C = some ⟨oc, od, .cls cd, #[k0, k1, some (.str n t)] ++ k⟩
  rd : readsIn K C (.type "type") = true
  fd : findCls K (.ref C) (.type "type") "__name__" = some (.get (.builtin "getset_descriptor.__get__") (.builtin "type.__name__") (.ref C) (.type "type"))
theorem nm_dga (d : Value) (C : Addr) (tp : Value) : descrGetArgs ⟨[d, .ref C, tp], []⟩ = pure (d, some (.ref C), given tp) := by rfl
theorem nm_get {C : Addr} {n : Str} {expr : Bool} {Q : Value → Shared → Prop} (c : NmC K C n) (X : K.In s.heap) (h : ∀ t u, Q (.str n t) { s with toks := u }) : wpAny (model prog w) A (getAttr (.ref C) "__name__" expr) Q E s := by
  obtain ⟨oc, od, cd, k0, k1, t, k, hC⟩ := c.at_
  refine cls_bind X c.rd c.fd (wpAny_call ?_)
  have hT : typeIn K (.ref C) = some (.type "type") := by
    have r := c.rd
    simp only [readsIn, Bool.and_eq_true, beq_iff_eq] at r
    exact r.1.1.1.2
  obtain ⟨hh, g, dr, tt, os⟩ := s
  have ho : hh.get? C = some ⟨oc, od, .cls cd, #[k0, k1, some (.str n t)] ++ k⟩ := X _ _ hC
  have L0 : Looks (model prog w) hh (typeOf (.ref C)) (.type "type") := looks_typeIn X hT
  have L1 : Looks (model prog w) hh (isSubtype (.type "type") (.type "type")) true := Looks.of_pure (by rw [isSubtype_type]; kernel_rfl)
  refine codeAny_call_builtin KF.slot_gs.plain KF.entry_gs (KF.slot_gs.check _ _ _ _ _ _ _ _ ktyn_type (KF.args_gs _ _ _) ?_)
  unfold Builtin.«getset_descriptor.__get__» descrGet
  rw [nm_dga]
  refine wpAny_bind (wpAny_pure ?_)
  unfold descrGetter descrCheckInstance descrNameAndClass isInstance
  simp only [ktyn_owner]
  repeat lk
  refine ⟨Code.quiet_builtin _ (by decide +kernel), codeAny_builtin ktyn_entry ?_⟩
  unfold Builtin.«type.__name__»
  dsimp only
  unfold keptObject slotAt
  refine wpAny_bind (wpAny_bind (wpAny_loadPart ho (wpAny_pure ?_)))
  have e2 : ((#[k0, k1, some (.str n t)] ++ k)[2]?).join = some (.str n t) := by rw [Array.getElem?_append_left (by simp)]; rfl
  show wpAny _ _ (match ((#[k0, k1, some (.str n t)] ++ k)[2]?).join with | some v => ret v | x => _) _ _ _
  rw [e2]
  exact wpAny_pure (handed_on rfl (h t _))
end
end Z
namespace Z
open PySem PySem.Spec PyProof.Rows L2
/-- an error that the suite holds stands there, with its own fields -/
theorem held_at {X : Cx} {a : Addr} {oe : Obj} {d : Option Addr} {C : Addr} {pn pins : List (Addr × Obj)} {σ : L2.St} {H : Hp} {s : Shared} (I : Inv (X.suite a ((a, oe) :: pn)) pins σ H s) (hz : Zc (.ref C) d oe) (hf : ∃ vs, oe.data = .fields vs)
    {dd : Addr} {fs : List (Str × V)} (ed : d = some dd) (ea : H dd = some (.xd fs)) : ∃ (od : Obj) (mA : Str → Option Value), PySem.W.InstAt s.heap a oe C (some od) ∧ (∀ f, PySem.W.lookIn f od = some (mA f)) ∧ ∀ f, RelO (fs.lookup f) (mA f) := by
  subst ed
  obtain ⟨ha, _⟩ := I.pin (a, oe) (List.mem_append_left _ List.mem_cons_self)
  obtain ⟨vs, hd⟩ := hf
  have hx : ObjOk X.prog X.w H s.heap dd (.xd fs) := I.hok dd _ ea
  obtain ⟨mA, hns, hr⟩ := hx
  obtain ⟨od, ho, hl⟩ := lookIn_ns hns
  exact ⟨od, mA, ⟨ha, hz.1, by unfold PySem.W.notCls; rw [hd] <;> rfl, by rw [hz.2]; exact ho⟩, hl, hr⟩
/-- e.f, e the error that the suite holds: a its place, cls its class, d its fields -/
def tErF (K : PySem.W.Frag) (a : Addr) (cls : Value) (d : Option Addr) (f : Str) (te : TE) : TE := fun σ H Q => te σ H fun x H1 => x = .ref a ∧ ∃ (C : Addr) (dd : Addr) (fs : List (Str × V)) (v : V), cls = .ref C ∧ XfC K C ∧ PySem.W.findIn K (.ref C) f = some none ∧ d = some dd ∧ H1 dd = some (.xd fs) ∧ fs.lookup f = some v ∧ Q v H1
theorem pe_erF {X : Cx} {a : Addr} {oe : Obj} {cls : Value} {d : Option Addr} {pn : List (Addr × Obj)} {e : Expr} {te : TE} {pos : Pos} {n : Str} (hz : Zc cls d oe) (hf : ∃ vs, oe.data = .fields vs) (he : PE (X.suite a ((a, oe) :: pn)) e te)
    (hb : attributeBase e n X.env (eval e X.env) = eval e X.env := by rfl) : PE (X.suite a ((a, oe) :: pn)) (.Attribute e n pos) (tErF X.K a cls d n te) := ⟨fun pins s σ H Q I h => by
  refine attr_of hb (thn (he.run pins s σ H _ I h) fun u s1 ⟨x, H1, I1, rx, ex, C, dd, fs, v, ec, T, hno, ed, ea, l, q⟩ => ?_)
  subst ex ec
  obtain rfl : u = Value.ref a := rx
  obtain ⟨od, mA, J, hl, hr⟩ := held_at I1 hz hf ed ea
  obtain ⟨u, hu, ru⟩ := RelO.some_of (v := v) (o := mA n) (by rw [← l]; exact hr n)
  exact HandSPX.exc_get I1.kIn J T.ga T.gg T.exC (PySem.W.findObj_own T.hdC hno rfl (by rw [hl, hu])) (handed_of ru) ⟨v, H1, I1.tok _, ru, q⟩⟩
/-- isinstance(e, c) of it -/
def rErI (K : PySem.W.Frag) (a : Addr) (cls : Value) (d : Option Addr) : List V → Hp → VK → Prop := fun xs H Q => ∃ (C : Addr) (c : V) (cv : Value) (b : Bool) (dd : Addr) (fs : List (Str × V)), xs = [.ref a, c] ∧ cls = .ref C ∧ EcC K C ∧ (∀ u, RelV c u → u = cv) ∧ PySem.W.kitOne K (.ref C) cv = some b ∧ d = some dd ∧ H dd = some (.xd fs) ∧ Q (.bl b) H
theorem call_erI {X : Cx} {a : Addr} {oe : Obj} {cls : Value} {d : Option Addr} {pn : List (Addr × Obj)} (hz : Zc cls d oe) (hf : ∃ vs, oe.data = .fields vs) : CallR (X.suite a ((a, oe) :: pn)) (.builtin "isinstance") (rErI X.K a cls d) := fun pins s σ H xs us Q I r h => by
  obtain ⟨C, c, cv, b, dd, fs, rfl, rfl, hc, hcv, e, ed, ea, q⟩ := h
  match r with
  | .cons rx (.cons rt .nil) =>
    cases rx
    obtain rfl := hcv _ rt
    obtain ⟨od, mA, J, _, _⟩ := held_at I hz hf ed ea
    exact PySem.W.kia_one (ec_kit hc) I.kIn ⟨oe, some od, J⟩ e (fun z => nomatch z) fun tk => ⟨.bl b, H, I.kept (t' := tk) fun _ _ z => z, rfl, q⟩
/-- self.__class__.__name__ in the making of an error -/
def tCnm (K : PySem.W.Frag) (te : TE) : TE := fun σ H Q => te σ H fun x H1 => ∃ (a C dx : Addr) (fs : List (Str × V)) (n : Str), x = .ref a ∧ EcC K C ∧ NmC K C n ∧ H1 a = some (exo a C (some dx)) ∧ H1 dx = some (exd dx fs) ∧ Q (.str n) H1
theorem pe_cnm {X : Cx} {e : Expr} {te : TE} {pos p2 : Pos} (he : PE X e te) (hb : attributeBase e "__class__" X.env (eval e X.env) = eval e X.env := by rfl)
    (hb2 : attributeBase (.Attribute e "__class__" p2) "__name__" X.env (eval (.Attribute e "__class__" p2) X.env) = eval (.Attribute e "__class__" p2) X.env := by rfl) :
    PE X (.Attribute (.Attribute e "__class__" p2) "__name__" pos) (tCnm X.K te) := ⟨fun pins s σ H Q I h => by
  refine attr_of hb2 (attr_of hb (thn (he.run pins s σ H _ I h) fun u s1 ⟨x, H1, I1, rx, a, C, dx, fs, n, ex, hc, hn, ea, ed, q⟩ => ?_))
  subst ex
  obtain rfl : u = Value.ref a := rx
  obtain ⟨t1, ho⟩ := exo_at I1.hok ea
  obtain ⟨mA, hns, hr⟩ := exd_at I1.hok ed
  obtain ⟨od, hod, _⟩ := lookIn_ns hns
  refine ec_get (ox := { cls := .ref C, dict := some dx, data := .fields #[.ref t1, .none, .none, .none, .bool false, .none] }) (od := some od) hc I1.kIn ⟨ho, rfl, rfl, hod⟩ ?_
  have I2 := I1.tok (s1.toks + 1)
  exact nm_get hn I2.kIn fun t u => ⟨.str n, H1, I2.tok _, ⟨t, rfl⟩, q⟩⟩
/-- o.m(e, ..), what it raises wished for at the caller's slots -/
def tMethX (C : Addr) (m : Str) (sp : Sp) (dvs : List V) (E : L2.St → XK) (ta : TE) (t : TA) : TE := fun σ H Q => ta σ H fun x H1 => ∃ (a dx : Addr) (fs : List (Str × V)), x = .ref a ∧ H1 a = some (.ins C dx fs) ∧ fs.lookup m = none ∧ t σ H1 fun vs H2 => sp (x :: (vs ++ dvs)) H2 Q (E σ)
theorem pe_methX {X : Cx} {CX : CXT} {k : Nat} {f C : Addr} {fd : FuncData} {ps : List Str} {sp : Sp} {dvs : List V} {ds : List Value} {E : L2.St → XK} {m : Str} {pos apos : Pos} {e o : Expr} {es : List Expr} {ta : TE} {t : TA} {pl : Sem Bool} (he : PE X o ta) (c : Cls X.K C) (hm : Meth X.K C m f) (F : FnOk X.prog X.w X.K X.mg X.base CX k f fd ps sp) (hr : Room k X.A) (hb : Binds X.K fd ps ds) (hd : Vals dvs ds) (hx : ∀ σ, PassesAt CX X σ (E σ)) (ha : PA X (e :: es) t)
    (hst : starEach (e :: es) X.env = (false, eval e X.env) :: starEach es X.env := by rfl) (hpl : (backTo pos (starEach es X.env)).any (·.1) = false := by rfl)
    (ht : eval (.Call (.Attribute o m apos) (e :: es) [] pos) X.env = (do let ov ← eval o X.env; standAt apos.atName; let (f, first) ← holding [ov] (getMethod ov m pl); callWith pos f first (backTo pos (starEach (e :: es) X.env)) (backToKw pos (keywordEach [] X.env))) := by rfl) :
    PE X (.Call (.Attribute o m apos) (e :: es) [] pos) (tMethX C m sp dvs E ta t) := ⟨fun pins s σ H Q I h => by
  refine PySem.W.methodCall_KW (pl := pl) (thn (he.run pins s σ H _ I h) fun u s1 ⟨x, H1, I1, rx, a, dx, fs, ex, ea, l, q⟩ => ?_) ht
  subst ex
  obtain rfl : u = Value.ref a := rx
  exact getmeth_ok I1 ea c hm l (PySem.W.callWith_K (first := [.ref a]) (h₀ := X.base) I.ok.mod.kin hm.kp (thn (ha.run pos pins s1 σ H1 _ I1 q) fun us s2 ⟨vs, H2, I2, r, q2⟩ => ⟨I2.kIn, run_fnSD (us := .ref a :: us) (vs := .ref a :: vs) F hr hb hd (hx σ) I2 (.cons rfl r) q2⟩) hst hpl)⟩
theorem vals_arr {its : Array Value} {xs : List V} (h : valsOk its xs = true) : Vals xs its.toList := by
  unfold valsOk at h
  rw [Bool.and_eq_true] at h
  exact vals_of (of_decide_eq_true h.2)
theorem dfl_of {K : PySem.W.Frag} {T : Addr} {oc : Value} {od : Option Addr} {its : Array Value} {n : Nat} {sl : Array (Option Value)} {dvs : List V} (l : K.lookup T = some ⟨oc, od, .seq its n, sl⟩) (h : valsOk its dvs = true) (ne : dvs ≠ []) : DflV K (.ref T) dvs :=
  .inr ⟨ne, T, _, its.toList, n, rfl, l, by rw [Array.toArray_toList], vals_arr h⟩
theorem fund_mk {K : PySem.W.Frag} {x qual : Str} {st : Stmt} {f : Addr} {dvs : List V} {oc : Value} {od an : Option Addr} {osl : Array (Option Value)} {dV kV doc pm cdv ct : Value} (l : K.lookup f = some ⟨oc, od, .func (PySem.W.fnOf x qual (defArgs st) (defBody st) (defScope st) dV kV doc pm an cdv ct), osl⟩)
    (c : PySem.W.codeIn K cdv qual = true) (k : PySem.W.keepIn K (.ref f) = true) (d : DflV K dV dvs) : FunD K x qual (defArgs st) (defBody st) (defScope st) dvs [] f (PySem.W.fnOf x qual (defArgs st) (defBody st) (defScope st) dV kV doc pm an cdv ct) :=
  ⟨⟨oc, od, dV, kV, doc, pm, an, cdv, ct, osl, rfl, l, c, d, .inl rfl⟩, k⟩
/-- an error is made: its class, its fields stand, all else as before -/
theorem r_mkO {σ : L2.St} {H : Hp} {Q : XK} {C : Addr} {sp : Sp} {dvs : List V} {ta : TA} (h : ta σ H fun vs H1 => vs.length ≤ 1000 ∧ ∀ a, H1 a = none → sp (.ref a :: (vs ++ dvs)) (upd H1 a (exo a C none))
    (fun v H2 => v = .non ∧ ∃ (d : Addr) (fs : List (Str × V)), H2 a = some (exo a C (some d)) ∧ H2 d = some (exd d fs) ∧ H1 d = none ∧ Q (.ref C) (some d) (upd (del H2 a) d (.xd fs))) (fun _ _ _ => False)) : tMkO C sp dvs ta σ H Q := h
theorem made_eq {H1 H2 : Hp} {a C d : Addr} {fs : List (Str × V)} (ha : H1 a = none) (k : ∀ b, b ≠ a → b ≠ d → H2 b = upd H1 a (exo a C none) b) : upd (del H2 a) d (.xd fs) = upd H1 d (.xd fs) := by
  funext b
  by_cases hd : b = d
  · subst hd; rw [L2.upd_same, L2.upd_same]
  · rw [L2.upd_ne hd, L2.upd_ne hd]
    by_cases hb : b = a
    · subst hb; rw [del_same, ha]
    · rw [del_ne hb, k b hb hd, L2.upd_ne hb]
theorem r_methX {H : Hp} {Q : VK} {σ : L2.St} {C : Addr} {m : Str} {sp : Sp} {dvs : List V} {E : L2.St → XK} {ta : TE} {t : TA} (h : ta σ H fun x H1 => objP C m x H1 fun H1 => t σ H1 fun vs H2 => sp (x :: (vs ++ dvs)) H2 Q (E σ)) : tMethX C m sp dvs E ta t σ H Q := h
theorem r_erI {K : PySem.W.Frag} {H : Hp} {Q : VK} {a C dd : Addr} {fs : List (Str × V)} {c : V} {cv : Value} {b : Bool} (hC : EcC K C) (hk : PySem.W.kitOne K (.ref C) cv = some b) (hcv : ∀ u, RelV c u → u = cv) (h : H dd = some (.xd fs)) (q : Q (.bl b) H) : rErI K a (.ref C) (some dd) [.ref a, c] H Q :=
  ⟨C, c, cv, b, dd, fs, rfl, rfl, hC, hcv, hk, rfl, h, q⟩
def erP (K : PySem.W.Frag) (a : Addr) (cls : Value) (d : Option Addr) (f : Str) (x : V) (H1 : Hp) (Q : VK) : Prop := x = .ref a ∧ ∃ (C : Addr) (dd : Addr) (fs : List (Str × V)) (v : V), cls = .ref C ∧ XfC K C ∧ PySem.W.findIn K (.ref C) f = some none ∧ d = some dd ∧ H1 dd = some (.xd fs) ∧ fs.lookup f = some v ∧ Q v H1
theorem r_erF {K : PySem.W.Frag} {H : Hp} {Q : VK} {σ : L2.St} {a : Addr} {cls : Value} {d : Option Addr} {f : Str} {te : TE} (h : te σ H fun x H1 => erP K a cls d f x H1 Q) : tErF K a cls d f te σ H Q := h
theorem r_erFP {K : PySem.W.Frag} {H : Hp} {Q : VK} {a C dd : Addr} {f : Str} {fs : List (Str × V)} {v : V} (X : XfC K C) (n : PySem.W.findIn K (.ref C) f = some none) (h : H dd = some (.xd fs)) (l : fs.lookup f = some v) (q : Q v H) : erP K a (.ref C) (some dd) f (.ref a) H Q :=
  ⟨rfl, C, dd, fs, v, rfl, X, n, rfl, h, l, q⟩
theorem r_makeD {H : Hp} {Q : VK} {σ : L2.St} {C : Addr} {sp : Sp} {dvs : List V} {E : XK} {t : TA} (h : t σ H fun vs H1 => ∀ x dx, H1 x = none → H1 dx = none → dx ≠ x → sp (.ref x :: (vs ++ dvs)) (upd (upd H1 dx (.own x)) x (.ins C dx [])) (fun v H2 => v = .non ∧ Q (.ref x) H2) E) : tMake C sp dvs E t σ H Q := h
theorem r_callS {sp : Sp} {E : L2.St → XK} {t : TA} {σ : L2.St} {H : Hp} {Q : VK} (h : t σ H fun vs H1 => sp vs H1 Q (E σ)) : tCallS sp E t σ H Q := h
theorem r_callSD {sp : Sp} {dvs : List V} {E : L2.St → XK} {t : TA} {σ : L2.St} {H : Hp} {Q : VK} (h : t σ H fun vs H1 => sp (vs ++ dvs) H1 Q (E σ)) : tCallSD sp dvs E t σ H Q := h
/-- tuples of a text and an int, compared -/
theorem si_shaped {s : Str} (n : Int) (h : PyData.strOk s = true) : SeqAt.shaped (.tuple [.str s, .int n]) = true := by
  unfold SeqAt.shaped
  simp [PyData.canLay0, PyData.canLayAll0, PyData.depth, PyData.depthAll, h]
theorem si_eqv (s : Str) (n : Int) : PyData.eqv (.tuple [.str s, .int n]) (.tuple [.str s, .int n]) = true := by
  simp [PyData.eqv, PyData.eqvAll]
theorem r_neT {H : Hp} {K : PySem.W.Frag} {Q : VK} {a b : Addr} {s : Str} {n : Int} (hs : PyData.strOk s = true) (ha : SqT K H a [.str s, .int n]) (hb : SqT K H b [.str s, .int n]) (q : Q (.bl false) H) : rNeD K (.ref a) (.ref b) H Q :=
  ⟨_, _, .tup ha (.cons (.str s) (.cons (.int n) .nil)), .tup hb (.cons (.str s) (.cons (.int n) .nil)), si_shaped n hs, si_shaped n hs, by rw [si_eqv]; exact q⟩
end Z

/-! ## the words: wtm_at "1" one step, "r" steps as far as they go, "h" a heap fact, "s" a side condition, "n" two addresses apart, "m" all that was tracked is as it was -/
local macro_rules | `(tactic| wtm_at "s") => `(tactic| first
  | (with_reducible assumption)
  | ((with_reducible refine Z.c_div ?_ ?_) <;> first | omega | decide)
  | ((with_reducible refine Z.c_mulR ?_ ?_) <;> first | omega | decide)
  | ((with_reducible refine Z.c_mulL ?_ ?_) <;> first | omega | decide)
  | ((with_reducible refine Z.c_pow ?_ ?_ ?_) <;> first | omega | decide)
  | omega | decide)
local macro_rules | `(tactic| wtm_at "n") => `(tactic| first
  | assumption | exact Ne.symm (by assumption)
  | exact Z.ne_of' (by assumption) (by wtm_at "h")
  | exact Ne.symm (Z.ne_of' (by assumption) (by wtm_at "h")))
local macro_rules | `(tactic| wtm_at "h") => `(tactic| with_reducible first
  | exact L2.upd_same
  | assumption
  | exact Eq.trans (L2.upd_ne (by wtm_at "n")) (by wtm_at "h")
  | exact Z.s_at (by assumption) (by wtm_at "h"))
local macro_rules | `(tactic| wtm_at "ql") => `(tactic| with_reducible first
  | assumption
  | exact Z.sq_l (by wtm_at "h")
  | exact Z.s_sq (by assumption) (by wtm_at "ql")
  | exact Z.s_sq (Z.s_upd (by assumption)) (by wtm_at "ql"))
local macro_rules | `(tactic| wtm_at "qt") => `(tactic| with_reducible first
  | assumption
  | exact Z.sq_t (by wtm_at "h")
  | exact Z.s_st (by assumption) (by wtm_at "qt")
  | exact Z.s_st (Z.s_upd (by assumption)) (by wtm_at "qt"))
local macro_rules | `(tactic| wtm_at "f") => `(tactic| with_reducible first
  | assumption
  | exact Z.s_back (by assumption) (by wtm_at "f"))
local macro_rules | `(tactic| wtm_at "m") => `(tactic| with_reducible first
  | exact L2.Same.refl _
  | assumption
  | exact L2.Same.trans (by wtm_at "m") (Z.s_upd (by assumption))
  | exact Z.s_mut (by wtm_at "m") (by wtm_at "f")
  | exact L2.Same.trans (by wtm_at "m") (by assumption))
local macro_rules | `(tactic| wtm_at "z") => `(tactic| first
  | (refine Z.szl ?_; simp only [List.length_map, List.length_append, List.length_cons, List.length_nil]; omega)
  | (refine Z.sz ?_; simp only [List.length_map, List.length_append, List.length_cons, List.length_nil]; omega))
local macro_rules | `(tactic| wtm_at "set") => `(tactic| (simp only [List.set_cons_zero, List.set_cons_succ]; rfl))
local macro_rules | `(tactic| wtm_at "1") => `(tactic| with_reducible first
  | refine Z.r_seq ?_ | refine Z.r_asg ?_
  | (refine' Z.r_gname ?c ?_; (case c => wtm_at "set"))
  | refine Z.r_v0 ?_ | refine Z.r_v1 ?_ | refine Z.r_v2 ?_ | refine Z.r_vS ?_ | refine Z.r_c ?_
  | refine Z.r_op ?_ | refine Z.r_lt ?_ | refine Z.r_le ?_ | refine Z.r_gt ?_ | refine Z.r_ge ?_ | refine Z.r_I0 ?_ | (refine' Z.r_I ?c ?_; (case c => wtm_at "s")) | refine Z.r_cons ?_ | refine Z.r_nil ?_
  | refine Z.r_eqI ?_ | refine Z.r_neI ?_ | refine Z.r_test ?_ | refine Z.r_bl ?_ | refine Z.r_if ?_
  | refine Z.r_cb ?_ | refine Z.r_call ?_ | refine Z.r_int ?_
  | refine Z.r_ret ?_ | refine Z.r_drop ?_ | refine Z.r_next ?_ | refine Z.r_brk ?_ | refine Z.r_cnt ?_ | refine Z.r_retN ?_
  | refine Z.i_t ?_ | refine Z.i_f ?_ | refine Z.i_nt ?_ | refine Z.i_nf ?_
  | refine Z.r_and ?_ | refine Z.r_or ?_ | refine Z.r_not ?_ | refine Z.r_andV ?_ | refine Z.r_orV ?_ | refine Z.r_notV ?_ | refine Z.r_tB ?_ | refine Z.r_ifE ?_
  | refine Z.r_chain ?_ | refine Z.r_un ?_ | refine Z.r_U ?_
  | refine Z.r_new ?_ | refine Z.r_tup ?_ | refine Z.r_bm ?_ | (refine' Z.ty_lst ?c ?_; (case c => wtm_at "ql"))
  | (refine' Z.r_append ?c ?d ?_; (case c => wtm_at "h"); (case d => wtm_at "z"))
  | (refine' Z.r_lenL ?c ?_; (case c => first | assumption | exact Z.sq_l (by assumption))) | (refine' Z.r_lenT ?c ?_; (case c => first | assumption | exact Z.sq_t (by assumption)))
  | (refine' Z.r_lenL ?c ?_; (case c => wtm_at "ql")) | (refine' Z.r_lenT ?c ?_; (case c => wtm_at "qt"))
  | refine Z.r_sl ?_ | refine Z.r_noPart ?_ | refine Z.r_part ?_ | refine Z.r_pint ?_
  | refine Z.r_isB ?_ | refine Z.r_notB ?_ | refine Z.r_eqB ?_ | refine Z.r_neB ?_ | refine Z.r_eqS ?_ | refine Z.r_neS ?_
  | refine Z.r_fld ?_ | refine Z.r_sfld ?_ | refine Z.r_make ?_ | refine Z.r_meth ?_ | refine Z.for_rng3 ?_ | refine Z.lc_rng3 ?_ | refine Z.lc_rng ?_ | refine Z.lc_rng2 ?_ | refine Z.lc_lst ?_ | refine Z.r_gsub ?_ | refine Z.for_enum ?_ | refine Z.r_intB ?_
  | refine Z.for_lst ?_ | refine Z.for_rng ?_ | refine Z.for_rng2 ?_)
local macro_rules | `(tactic| wtm_at "w") => `(tactic| simp only [L2.wipe, List.map_cons, List.map_nil, List.set_cons_zero, List.set_cons_succ])
local macro_rules | `(tactic| wtm_at "r") => `(tactic| repeat (wtm_at "1"))
local macro_rules | `(tactic| wtm_at "e") => `(tactic| repeat (first | (with_reducible first | refine Z.r_methX ?_ | refine Z.r_erF ?_) | wtm_at "1"))
local macro_rules | `(tactic| wtm_at "1") => `(tactic| with_reducible first | refine Z.r_callS ?_ | refine Z.r_callSD ?_)

namespace M_k02
open PySem PySem.Spec PyProof.Rows L2
def topS (i : Nat) : Stmt := PySem.Challenge.pw_dotfield_k02_bits_read.main.body.getD i (.Pass ⟨0, 0, 0, 0⟩)
abbrev s_DotfieldError___init__ : Stmt := (inClass (topS 1) 0)
abbrev sl_DotfieldError___init__ : List Str := ["self", "place"]
abbrev pl_DotfieldError___init__ : List Str := ["self", "place"]
theorem sc_DotfieldError___init__ : FnScope sl_DotfieldError___init__ pl_DotfieldError___init__ (defScope s_DotfieldError___init__) := ⟨rfl, rfl, rfl, by decide +kernel, rfl, by decide +kernel, by decide +kernel⟩
abbrev s_BitReader___init__ : Stmt := (inClass (topS 5) 0)
abbrev sl_BitReader___init__ : List Str := ["self", "bits", "at"]
abbrev pl_BitReader___init__ : List Str := ["self", "bits", "at"]
theorem sc_BitReader___init__ : FnScope sl_BitReader___init__ pl_BitReader___init__ (defScope s_BitReader___init__) := ⟨rfl, rfl, rfl, by decide +kernel, rfl, by decide +kernel, by decide +kernel⟩
abbrev s_BitReader_left : Stmt := (inClass (topS 5) 2)
abbrev sl_BitReader_left : List Str := ["self"]
abbrev pl_BitReader_left : List Str := ["self"]
theorem sc_BitReader_left : FnScope sl_BitReader_left pl_BitReader_left (defScope s_BitReader_left) := ⟨rfl, rfl, rfl, by decide +kernel, rfl, by decide +kernel, by decide +kernel⟩
abbrev s_BitReader_at : Stmt := (inClass (topS 5) 3)
abbrev sl_BitReader_at : List Str := ["self"]
abbrev pl_BitReader_at : List Str := ["self"]
theorem sc_BitReader_at : FnScope sl_BitReader_at pl_BitReader_at (defScope s_BitReader_at) := ⟨rfl, rfl, rfl, by decide +kernel, rfl, by decide +kernel, by decide +kernel⟩
abbrev s_value_of : Stmt := (topS 6)
abbrev sl_value_of : List Str := ["bits", "value", "bit"]
abbrev pl_value_of : List Str := ["bits"]
theorem sc_value_of : FnScope sl_value_of pl_value_of (defScope s_value_of) := ⟨rfl, rfl, rfl, by decide +kernel, rfl, by decide +kernel, by decide +kernel⟩
abbrev s_BitReader_read : Stmt := (inClass (topS 5) 1)
abbrev sl_BitReader_read : List Str := ["self", "width", "start"]
abbrev pl_BitReader_read : List Str := ["self", "width"]
theorem sc_BitReader_read : FnScope sl_BitReader_read pl_BitReader_read (defScope s_BitReader_read) := ⟨rfl, rfl, rfl, by decide +kernel, rfl, by decide +kernel, by decide +kernel⟩
abbrev s__law_draw : Stmt := (topS 8)
abbrev sl__law_draw : List Str := ["cell", "many", "bound", "numbers", "k", "seed", "mixed"]
abbrev pl__law_draw : List Str := ["cell", "many", "bound"]
theorem sc__law_draw : FnScope sl__law_draw pl__law_draw (defScope s__law_draw) := ⟨rfl, rfl, rfl, by decide +kernel, rfl, by decide +kernel, by decide +kernel⟩
abbrev s__law_is_integer : Stmt := (topS 9)
abbrev sl__law_is_integer : List Str := ["actual"]
abbrev pl__law_is_integer : List Str := ["actual"]
theorem sc__law_is_integer : FnScope sl__law_is_integer pl__law_is_integer (defScope s__law_is_integer) := ⟨rfl, rfl, rfl, by decide +kernel, rfl, by decide +kernel, by decide +kernel⟩
abbrev s__law_cell : Stmt := (topS 10)
abbrev sl__law_cell : List Str := ["script", "k"]
abbrev pl__law_cell : List Str := ["script", "k"]
theorem sc__law_cell : FnScope sl__law_cell pl__law_cell (defScope s__law_cell) := ⟨rfl, rfl, rfl, by decide +kernel, rfl, by decide +kernel, by decide +kernel⟩
abbrev s__law_due : Stmt := (topS 12)
abbrev sl__law_due : List Str := ["bits", "at", "width", "value", "bit"]
abbrev pl__law_due : List Str := ["bits", "at", "width"]
theorem sc__law_due : FnScope sl__law_due pl__law_due (defScope s__law_due) := ⟨rfl, rfl, rfl, by decide +kernel, rfl, by decide +kernel, by decide +kernel⟩
abbrev s__law_read : Stmt := (topS 11)
abbrev sl__law_read : List Str := ["reader", "width", "error", "right"]
abbrev pl__law_read : List Str := ["reader", "width"]
theorem sc__law_read : FnScope sl__law_read pl__law_read (defScope s__law_read) := ⟨rfl, rfl, rfl, by decide +kernel, rfl, by decide +kernel, by decide +kernel⟩
abbrev s_law : Stmt := (topS 13)
abbrev sl_law : List Str := ["script", "sizes", "bits", "handed", "places", "readers", "cell", "numbers", "which", "width", "due", "told", "k"]
abbrev pl_law : List Str := ["script"]
theorem sc_law : FnScope sl_law pl_law (defScope s_law) := ⟨rfl, rfl, rfl, by decide +kernel, rfl, by decide +kernel, by decide +kernel⟩
def nv (cs : List Nat) : List V := cs.map fun c => V.int (c : Nat)
theorem nv_len (cs : List Nat) : (nv cs).length = cs.length := List.length_map _
theorem nv_int (cs : List Nat) : nv cs = (cs.map fun c : Nat => (c : Int)).map V.int := by
  unfold nv; rw [List.map_map]; rfl
theorem nv_get {cs : List Nat} {i : Nat} {x : V} (h : (nv cs)[i]? = some x) : ∃ c, cs[i]? = some c ∧ x = .int (c : Nat) := by
  unfold nv at h
  rw [List.getElem?_map] at h
  cases e : cs[i]? with
  | none => rw [e] at h; cases h
  | some z => rw [e] at h; exact ⟨z, rfl, (Option.some.inj h).symm⟩
theorem nv_at {cs : List Nat} {i : Int} {j : Nat} (e : i = (j : Int)) (h : j < cs.length) : atI (nv cs) i = some (.int (cs.getD j 0 : Nat)) := by
  subst e
  refine atI_nat ?_
  unfold nv
  rw [List.getElem?_map, List.getElem?_eq_getElem h, List.getD_eq_getElem?_getD, List.getElem?_eq_getElem h]
  rfl
theorem nv_set (cs : List Nat) (j c : Nat) : (nv cs).set j (.int (c : Nat)) = nv (cs.set j c) := by
  unfold nv; rw [List.map_set]
theorem nv_rep (n : Nat) : List.replicate n (V.int 0) = nv (List.replicate n 0) := by
  unfold nv; rw [List.map_replicate]; rfl
/-! ints that are naturals -/
theorem nat_shr (b k : Nat) : ((b : Int) / 2 ^ ((k : Nat) : Int).toNat) = ((b >>> k : Nat) : Int) := by
  rw [Int.toNat_natCast, Nat.shiftRight_eq_div_pow]
  have e : (2 : Int) ^ k = ((2 ^ k : Nat) : Int) := by simp
  rw [e]; rfl
theorem nat_shl (b k : Nat) : ((b : Int) * 2 ^ ((k : Nat) : Int).toNat) = ((b <<< k : Nat) : Int) := by
  rw [Int.toNat_natCast, Nat.shiftLeft_eq]
  have e : (2 : Int) ^ k = ((2 ^ k : Nat) : Int) := by simp
  rw [e]; rfl
theorem nat_xor (a b : Nat) : Builtin.bitXor (a : Int) (b : Int) = ((a ^^^ b : Nat) : Int) := by
  rw [Bits.bitXor_pp (Int.natCast_nonneg _) (Int.natCast_nonneg _)]; rfl
theorem nat_and (a b : Nat) : Builtin.bitAnd (a : Int) (b : Int) = ((a &&& b : Nat) : Int) := by
  unfold Builtin.bitAnd
  rw [decide_eq_true (Int.natCast_nonneg a), decide_eq_true (Int.natCast_nonneg b)]
  rfl
theorem nat_and1 (a : Nat) : Builtin.bitAnd (a : Int) 1 = ((a % 2 : Nat) : Int) := by
  rw [show (1 : Int) = ((1 : Nat) : Int) from rfl, nat_and, Nat.and_one_is_mod]
def valN (bs : List Nat) : Nat := bs.foldl (fun v b => 2 * v + b) 0
theorem valN_take {bs : List Nat} {i b : Nat} (e : bs[i]? = some b) : valN (bs.take (i + 1)) = 2 * valN (bs.take i) + b := by
  unfold valN
  rw [List.take_add_one, e, List.foldl_append]
  rfl
/-- the bits of a field, the first i of them -/
def fbs (w v i : Nat) : List Nat := (List.range i).map fun k => (v >>> (w - 1 - k)) % 2
theorem fbs_succ (w v i : Nat) : fbs w v (i + 1) = fbs w v i ++ [(v >>> (w - 1 - i)) % 2] := by
  unfold fbs
  rw [List.range_succ, List.map_append]
  rfl
theorem fbs_len (w v i : Nat) : (fbs w v i).length = i := by unfold fbs; rw [List.length_map, List.length_range]
theorem nv_app (a b : List Nat) : nv (a ++ b) = nv a ++ nv b := List.map_append ..
theorem nv_cut (cs : List Nat) {a b : Nat} (h : a ≤ b) : cutV (nv cs) (some (a : Int)) (some (b : Int)) = nv ((cs.drop a).take (b - a)) := by
  rw [Z.cut_mid h]
  unfold nv
  rw [List.map_take, List.map_drop]
/-- filled up to whole bytes -/
def padded (bs : List Nat) : List Nat := bs ++ List.replicate ((8 - bs.length % 8) % 8) 0
theorem padded_len (bs : List Nat) : (padded bs).length % 8 = 0 ∧ (padded bs).length ≤ bs.length + 7 := by
  unfold padded
  rw [List.length_append, List.length_replicate]
  omega
def chunk (bs : List Nat) (i : Nat) : List Nat := ((padded bs).drop (8 * i)).take 8
def bytesN (bs : List Nat) (n : Nat) : List Nat := (List.range n).map fun i => valN (chunk bs i)
theorem bytesN_succ (bs : List Nat) (n : Nat) : bytesN bs (n + 1) = bytesN bs n ++ [valN (chunk bs n)] := by
  unfold bytesN
  rw [List.range_succ, List.map_append]
  rfl
theorem bytesN_len (bs : List Nat) (n : Nat) : (bytesN bs n).length = n := by unfold bytesN; rw [List.length_map, List.length_range]
def toBytes (bs : List Nat) : List Nat := bytesN bs ((padded bs).length / 8)
theorem rg8 {n : Nat} (h : n % 8 = 0) (hl : n ≤ 100000) : RgC 0 (n : Int) 8 (n / 8) := by
  have e : Builtin.Range.rangeSize 0 (n : Int) 8 = ((n / 8 : Nat) : Int) := by
    rw [PyProof.Rows.rangeSize_pos (by decide) (by omega)]
    omega
  refine ⟨by decide, by decide, ?_, e⟩
  unfold Builtin.Range.small
  rw [e]
  have fl : ∀ z : Int, -9223372036854775808 ≤ z → z < 9223372036854775808 → Builtin.Range.rangeFitsLong z = true := fun z a b => by
    have a' : -(2 ^ 63) ≤ z := Int.le_trans (by decide) a
    have b' : z < 2 ^ 63 := Int.lt_of_lt_of_le b (by decide)
    unfold Builtin.Range.rangeFitsLong
    rw [decide_eq_true a', decide_eq_true b']; rfl
  rw [fl 0 (by decide) (by decide), fl n (by omega) (by omega), fl 8 (by decide) (by decide), fl _ (by omega) (by omega), if_pos (show (8 : Int) > 0 by decide), fl _ (by omega) (by omega), Bool.or_true]
  rfl
theorem two_pos (n : Int) : (0 : Int) < 1 * 2 ^ n.toNat := by
  rw [Int.one_mul]
  exact Int.pow_pos (by decide)
/-- a writer stands at p, its bits at b -/
def WAt (C : Addr) (H : Hp) (p b : Addr) (bs : List Nat) : Prop := (∃ dx, H p = some (.ins C dx [("_bits", .ref b)])) ∧ H b = some (.lst (nv bs))
theorem WAt.same {C : Addr} {H H' : Hp} {p b : Addr} {bs : List Nat} (w : WAt C H p b bs) (s : Same H H') : WAt C H' p b bs := ⟨⟨w.1.choose, s _ _ w.1.choose_spec⟩, s _ _ w.2⟩
theorem no_w : ¬ (("write" : Str) = "_bits") := by decide +kernel
theorem no_bl : ¬ (("bit_list" : Str) = "_bits") := by decide +kernel
theorem no_by : ¬ (("byte_list" : Str) = "_bits") := by decide +kernel
theorem no_bw : ¬ (("bits_written" : Str) = "_bits") := by decide +kernel
/-- a reader stands at p: its bits at b, its position t -/
def RAt (C : Addr) (H : Hp) (p b : Addr) (t : Int) : Prop := ∃ dx, H p = some (.ins C dx [("_bits", .ref b), ("_position", .int t)])
theorem RAt.same {C : Addr} {H H' : Hp} {p b : Addr} {t : Int} (w : RAt C H p b t) (s : Same H H') : RAt C H' p b t := ⟨w.choose, s _ _ w.choose_spec⟩
theorem f_pb : ¬ (("_position" : Str) = "_bits") := by decide +kernel
theorem f_bp : ¬ (("_bits" : Str) = "_position") := by decide +kernel
theorem f_np : ¬ (("name" : Str) = "place") := by decide +kernel
theorem f_pn : ¬ (("place" : Str) = "name") := by decide +kernel
theorem no_m {m : Str} {x y : V} (h1 : ¬ m = "_bits") (h2 : ¬ m = "_position") : List.lookup m [(("_bits" : Str), x), ("_position", y)] = none := (Z.look_s h1).trans ((Z.look_s h2).trans Z.look_0)
theorem r_1 : ¬ (("read" : Str) = "_bits") := by decide +kernel
theorem r_2 : ¬ (("read" : Str) = "_position") := by decide +kernel
theorem l_1 : ¬ (("left" : Str) = "_bits") := by decide +kernel
theorem l_2 : ¬ (("left" : Str) = "_position") := by decide +kernel
theorem a_1 : ¬ (("at" : Str) = "_bits") := by decide +kernel
theorem a_2 : ¬ (("at" : Str) = "_position") := by decide +kernel
def trunc (n : Nat) : HO := .xd [("name", .str "Truncated"), ("place", .int n)]
theorem nv_toNat : ∀ {ns : List Int}, (∀ n ∈ ns, 0 ≤ n ∧ n < 2) → ns.map V.int = nv (ns.map Int.toNat)
  | [], _ => rfl
  | n :: r, h => by
    have h0 := h n (List.mem_cons_self ..)
    have ih := nv_toNat (ns := r) fun m hm => h m (List.mem_cons_of_mem _ hm)
    unfold nv at ih ⊢
    rw [List.map_cons, List.map_cons, List.map_cons, ih, show ((n.toNat : Nat) : Int) = n by omega]
def put2 {α : Type} (f : Nat → α) (t : Nat) (x : α) : Nat → α := fun j => if j = t then x else f j
theorem put2_same {α : Type} (f : Nat → α) (t : Nat) (x : α) : put2 f t x t = x := if_pos rfl
theorem put2_ne {α : Type} (f : Nat → α) {t j : Nat} (x : α) (h : j ≠ t) : put2 f t x j = f j := if_neg h
theorem two_at (f : Nat → V) {t : Nat} (h : t < 2) : ([f 0, f 1] : List V)[t]? = some (f t) := by
  rcases (by omega : t = 0 ∨ t = 1) with e | e <;> subst e <;> rfl
theorem two_set (f : Nat → V) {t : Nat} (h : t < 2) (x : V) : ([f 0, f 1] : List V).set t x = [put2 f t x 0, put2 f t x 1] := by
  rcases (by omega : t = 0 ∨ t = 1) with e | e <;> subst e <;> rfl
theorem put2_int (t : Nat → Nat) (w x : Nat) : put2 (fun j => V.int (t j : Nat)) w (.int (x : Nat)) = fun j => V.int (put2 t w x j : Nat) := by
  funext j
  unfold put2
  split <;> rfl
/-- what stands between two turns: t what the places tell, u where the readers are -/
structure RV (C : Addr) (H : Hp) (pb ph pp pr : Addr) (r : Nat → Addr) (t u : Nat → Nat) (bs : List Nat) : Prop where
  hb : H pb = some (.lst (nv bs))
  hh : H ph = some (.lst (nv bs))
  hp : H pp = some (.lst [.int (t 0 : Nat), .int (t 1 : Nat)])
  hr : H pr = some (.lst [.ref (r 0), .ref (r 1)])
  A : ∀ j, j < 2 → RAt C H (r j) ph (u j : Nat)
  l : ∀ j, j < 2 → t j ≤ bs.length
  nr : r 0 ≠ r 1
  n1 : pp ≠ pb
  n2 : pp ≠ ph
  n3 : pp ≠ pr
  n4 : pb ≠ pr
  n5 : ph ≠ pr
theorem RV.same {C : Addr} {H H' : Hp} {pb ph pp pr : Addr} {r : Nat → Addr} {t u : Nat → Nat} {bs : List Nat} (v : RV C H pb ph pp pr r t u bs) (s : Same H H') : RV C H' pb ph pp pr r t u bs :=
  ⟨s _ _ v.hb, s _ _ v.hh, s _ _ v.hp, s _ _ v.hr, fun j h => (v.A j h).same s, v.l, v.nr, v.n1, v.n2, v.n3, v.n4, v.n5⟩
theorem RV.nrr {C : Addr} {H : Hp} {pb ph pp pr : Addr} {r : Nat → Addr} {t u : Nat → Nat} {bs : List Nat} (v : RV C H pb ph pp pr r t u bs) {i j : Nat} (hi : i < 2) (hj : j < 2) (h : i ≠ j) : r i ≠ r j := by
  rcases (by omega : i = 0 ∧ j = 1 ∨ i = 1 ∧ j = 0) with ⟨e, e'⟩ | ⟨e, e'⟩ <;> subst e <;> subst e'
  · exact v.nr
  · exact v.nr.symm
/-- a reader has moved -/
theorem RV.moved {C : Addr} {H H' : Hp} {pb ph pp pr : Addr} {r : Nat → Addr} {t u : Nat → Nat} {bs : List Nat} {w x : Nat} (v : RV C H pb ph pp pr r t u bs) (hw : w < 2) (k : ∀ a o, H a = some o → a ≠ r w → H' a = some o) (hx : RAt C H' (r w) ph (x : Nat)) : RV C H' pb ph pp pr r t (put2 u w x) bs := by
  obtain ⟨dx, hrw⟩ := v.A w hw
  have nl : ∀ {a : Addr} {xs : List V}, H a = some (.lst xs) → H' a = some (.lst xs) := fun h => k _ _ h (ne_of h hrw (by intro z; cases z))
  refine ⟨nl v.hb, nl v.hh, nl v.hp, nl v.hr, fun j hj => ?_, v.l, v.nr, v.n1, v.n2, v.n3, v.n4, v.n5⟩
  by_cases e : j = w
  · subst e; rw [put2_same]; exact hx
  · rw [put2_ne _ _ e]
    obtain ⟨dj, hj'⟩ := v.A j hj
    exact ⟨dj, k _ _ hj' (v.nrr hj hw e)⟩
theorem RAt.but {C : Addr} {H : Hp} {q ph x : Addr} {n : Int} {xs ys : List V} (v : RAt C H q ph n) (h : H x = some (.lst xs)) : RAt C (upd H x (.lst ys)) q ph n := by
  obtain ⟨dx, hq⟩ := v
  exact ⟨dx, (upd_ne (ne_of hq h (by intro z; cases z))).trans hq⟩
/-- a place is told anew -/
theorem RV.placed {C : Addr} {H : Hp} {pb ph pp pr : Addr} {r : Nat → Addr} {t u : Nat → Nat} {bs : List Nat} {w x : Nat} (v : RV C H pb ph pp pr r t u bs) (hx : x ≤ bs.length) : RV C (upd H pp (.lst [.int (put2 t w x 0 : Nat), .int (put2 t w x 1 : Nat)])) pb ph pp pr r (put2 t w x) u bs := by
  refine ⟨(upd_ne v.n1.symm).trans v.hb, (upd_ne v.n2.symm).trans v.hh, L2.upd_same, (upd_ne v.n3.symm).trans v.hr, fun j hj => (v.A j hj).but v.hp, fun j hj => ?_, v.nr, v.n1, v.n2, v.n3, v.n4, v.n5⟩
  by_cases e : j = w
  · subst e; rw [put2_same]; exact hx
  · rw [put2_ne _ _ e]; exact v.l j hj
/-- the second reader is another one -/
theorem RV.taken {C : Addr} {H : Hp} {pb ph pp pr : Addr} {r : Nat → Addr} {t u : Nat → Nat} {bs : List Nat} {x : Nat} {e : Addr} (v : RV C H pb ph pp pr r t u bs) (he : RAt C H e ph (x : Nat)) (ne : r 0 ≠ e) : RV C (upd H pr (.lst [.ref (r 0), .ref e])) pb ph pp pr (put2 r 1 e) t (put2 u 1 x) bs := by
  refine ⟨(upd_ne v.n4).trans v.hb, (upd_ne v.n5).trans v.hh, (upd_ne v.n3).trans v.hp, L2.upd_same, fun j hj => ?_, v.l, ne, v.n1, v.n2, v.n3, v.n4, v.n5⟩
  rcases (by omega : j = 0 ∨ j = 1) with z | z <;> subst z
  · exact (v.A 0 hj).but v.hr
  · exact he.but v.hr
theorem ne_err : ¬ (("error" : Str) = "value") := by decide +kernel
theorem ok_err : PyData.strOk ("error" : Str) = true := by decide +kernel
theorem ok_val : PyData.strOk ("value" : Str) = true := by decide +kernel
theorem cut_map (ns : List Int) (lo hi : Option Int) : ∃ ms : List Int, cutV (ns.map V.int) lo hi = ms.map V.int := by
  refine ⟨(ns.drop (HT.sIx (ns.map V.int).length 0 lo)).take (HT.sIx (ns.map V.int).length (ns.map V.int).length hi - HT.sIx (ns.map V.int).length 0 lo), ?_⟩
  unfold cutV
  rw [List.map_take, List.map_drop]
structure Top (K : PySem.W.Frag) (mg : Str → Option Value) where
  a_DotfieldError___init__ : Addr
  d_DotfieldError___init__ : FuncData
  F_DotfieldError___init__ : Fun K "__init__" "DotfieldError.__init__" s_DotfieldError___init__ a_DotfieldError___init__ d_DotfieldError___init__
  b_DotfieldError___init__ : Binds K d_DotfieldError___init__ pl_DotfieldError___init__ []
  a_BitReader___init__ : Addr
  d_BitReader___init__ : FuncData
  F_BitReader___init__ : FunD K "__init__" "BitReader.__init__" (defArgs s_BitReader___init__) (defBody s_BitReader___init__) (defScope s_BitReader___init__) [(.int 0)] [] a_BitReader___init__ d_BitReader___init__
  u_BitReader___init___1 : List Value
  v_BitReader___init___1 : Vals [(.int 0)] u_BitReader___init___1
  b_BitReader___init___1 : Binds K d_BitReader___init__ pl_BitReader___init__ u_BitReader___init___1
  b_BitReader___init__ : Binds K d_BitReader___init__ pl_BitReader___init__ []
  a_BitReader_left : Addr
  d_BitReader_left : FuncData
  F_BitReader_left : Fun K "left" "BitReader.left" s_BitReader_left a_BitReader_left d_BitReader_left
  b_BitReader_left : Binds K d_BitReader_left pl_BitReader_left []
  a_BitReader_at : Addr
  d_BitReader_at : FuncData
  F_BitReader_at : Fun K "at" "BitReader.at" s_BitReader_at a_BitReader_at d_BitReader_at
  b_BitReader_at : Binds K d_BitReader_at pl_BitReader_at []
  a_value_of : Addr
  d_value_of : FuncData
  F_value_of : Fun K "value_of" "value_of" s_value_of a_value_of d_value_of
  b_value_of : Binds K d_value_of pl_value_of []
  g_value_of : mg "value_of" = some (.ref a_value_of)
  a_BitReader_read : Addr
  d_BitReader_read : FuncData
  F_BitReader_read : Fun K "read" "BitReader.read" s_BitReader_read a_BitReader_read d_BitReader_read
  b_BitReader_read : Binds K d_BitReader_read pl_BitReader_read []
  a__law_draw : Addr
  d__law_draw : FuncData
  F__law_draw : Fun K "_law_draw" "_law_draw" s__law_draw a__law_draw d__law_draw
  b__law_draw : Binds K d__law_draw pl__law_draw []
  g__law_draw : mg "_law_draw" = some (.ref a__law_draw)
  a__law_is_integer : Addr
  d__law_is_integer : FuncData
  F__law_is_integer : Fun K "_law_is_integer" "_law_is_integer" s__law_is_integer a__law_is_integer d__law_is_integer
  b__law_is_integer : Binds K d__law_is_integer pl__law_is_integer []
  g__law_is_integer : mg "_law_is_integer" = some (.ref a__law_is_integer)
  a__law_cell : Addr
  d__law_cell : FuncData
  F__law_cell : Fun K "_law_cell" "_law_cell" s__law_cell a__law_cell d__law_cell
  b__law_cell : Binds K d__law_cell pl__law_cell []
  g__law_cell : mg "_law_cell" = some (.ref a__law_cell)
  a__law_due : Addr
  d__law_due : FuncData
  F__law_due : Fun K "_law_due" "_law_due" s__law_due a__law_due d__law_due
  b__law_due : Binds K d__law_due pl__law_due []
  g__law_due : mg "_law_due" = some (.ref a__law_due)
  a__law_read : Addr
  d__law_read : FuncData
  F__law_read : Fun K "_law_read" "_law_read" s__law_read a__law_read d__law_read
  b__law_read : Binds K d__law_read pl__law_read []
  g__law_read : mg "_law_read" = some (.ref a__law_read)
  a_law : Addr
  d_law : FuncData
  F_law : Fun K "law" "law" s_law a_law d_law
  b_law : Binds K d_law pl_law []
  g_law : mg "law" = some (.ref a_law)
  a_BitReader : Addr
  cl_BitReader : Cls K a_BitReader
  g_BitReader : mg "BitReader" = some (.ref a_BitReader)
  M_BitReader : Mk K a_BitReader a_BitReader___init__
  me_BitReader_left : Meth K a_BitReader "left" a_BitReader_left
  me_BitReader_at : Meth K a_BitReader "at" a_BitReader_at
  me_BitReader_read : Meth K a_BitReader "read" a_BitReader_read
  no_BitReader__bits : NoAttr K a_BitReader "_bits"
  no_BitReader__position : NoAttr K a_BitReader "_position"
  a_DotfieldError : Addr
  g_DotfieldError : mg "DotfieldError" = some (.ref a_DotfieldError)
  a_InvalidCount : Addr
  g_InvalidCount : mg "InvalidCount" = some (.ref a_InvalidCount)
  a_Truncated : Addr
  g_Truncated : mg "Truncated" = some (.ref a_Truncated)
  ox_Truncated : OexC K a_Truncated
  ec_Truncated : Z.EcC K a_Truncated
  nm_Truncated : Z.NmC K a_Truncated "Truncated"
  xf_Truncated : XfC K a_Truncated
  ic_Truncated : PySem.W.findIn K (.ref a_Truncated) "__init__" = some (some (.ref a_DotfieldError___init__))
  no_Truncated_place : PySem.W.findIn K (.ref a_Truncated) "place" = some none
  no_Truncated_name : PySem.W.findIn K (.ref a_Truncated) "name" = some none
  ex_Truncated_DotfieldError : PySem.W.exmOne K (.ref a_Truncated) (.ref a_DotfieldError) = some true
  ki_Truncated_Truncated : PySem.W.kitOne K (.ref a_Truncated) (.ref a_Truncated) = some true
  ki_Truncated_InvalidCount : PySem.W.kitOne K (.ref a_Truncated) (.ref a_InvalidCount) = some false
  ki_Truncated_ValueError : PySem.W.kitOne K (.ref a_Truncated) (.type "ValueError") = some true
  it_DotfieldError___init__ : PySem.W.typeIn K (.ref a_DotfieldError___init__) = some (.type "function")
  n_len : mg "len" = none
  n_range : mg "range" = none
  n_int : mg "int" = none
  n_isinstance : mg "isinstance" = none
  n_bool : mg "bool" = none
  n_ValueError : mg "ValueError" = none
  n_list : mg "list" = none
section
variable {P : Program} {w : World} {K : PySem.W.Frag} {mg : Str → Option Value} {base : Heap}
def sp_DotfieldError___init__ (K : PySem.W.Frag) : Sp := fun vs H Q _ => ∃ (a C : Addr) (n : Int), vs = [.ref a, .int n] ∧ ∃ (nm : Str), H a = some (exo a C none) ∧ OexC K C ∧ Z.EcC K C ∧ Z.NmC K C nm ∧ PySem.W.findIn K (.ref C) "place" = some none ∧ PySem.W.findIn K (.ref C) "name" = some none ∧ ∀ d H1, H d = none → d ≠ a → H1 a = some (exo a C (some d)) → H1 d = some (exd d [("name", .str nm), ("place", .int n)]) → (∀ b, b ≠ a → b ≠ d → H1 b = H b) → Q .non H1
set_option maxHeartbeats 2000000 in
theorem ok_DotfieldError___init__ (T : Top K mg) : FnOk P w K mg base CX0 1 T.a_DotfieldError___init__ T.d_DotfieldError___init__ pl_DotfieldError___init__ (sp_DotfieldError___init__ K) := by
  refine T.F_DotfieldError___init__.ok sc_DotfieldError___init__ (fun vs H Q E h => ?_) (fun cdv A outer s H vs Q E hr h => ?_)
  · obtain ⟨a, C, n, rfl, _⟩ := h
    rfl
  · obtain ⟨a, C, n, rfl, nm, hH, ho, he, hn, hp, hnm, q⟩ := h
    have hu := hu_of hr
    refine ⟨_, (pss_cons (ps_ost (pv 0) (pv 1))
      (pss_one (ps_ost (pv 0) (Z.pe_cnm (pv 0))))), ?_⟩
    show (_ : L2.TS) _ [some _, some _] H
    try simp only [Z.kx]
    wtm_at "r"
    refine ⟨_, rfl, _, rfl, a, C, rfl, ho, hp, .inl ⟨hH, fun d hd hda => ?_⟩⟩
    have ha : (upd (upd H d (exd d [(("place" : Str), V.int n)])) a (exo a C (some d))) a = some (exo a C (some d)) := L2.upd_same
    have hd1 : (upd (upd H d (exd d [(("place" : Str), V.int n)])) a (exo a C (some d))) d = some (exd d [(("place" : Str), V.int n)]) := (upd_ne hda).trans L2.upd_same
    refine ⟨_, rfl, a, C, d, _, nm, rfl, he, hn, ha, hd1, ?_⟩
    refine ⟨_, rfl, a, C, rfl, ho, hnm, .inr ⟨d, _, ha, hd1, by show 1 ≤ 900; decide, ?_⟩⟩
    refine q d _ hd hda ((upd_ne hda.symm).trans ha) L2.upd_same (fun b hb hb2 => ?_)
    rw [upd_ne hb2, upd_ne hb, upd_ne hb2]
def sp_BitReader___init__ {K : PySem.W.Frag} {mg : Str → Option Value} (T : Top K mg) : Sp := fun vs H Q _ => ∃ (p b dx : Addr) (t : Int), vs = [.ref p, .ref b, .int t] ∧ H p = some (.ins T.a_BitReader dx []) ∧ ∀ H1, (∀ x o, H x = some o → x ≠ p → H1 x = some o) → RAt T.a_BitReader H1 p b t → Q .non H1
set_option maxHeartbeats 2000000 in
theorem ok_BitReader___init__ (T : Top K mg) : FnOk P w K mg base CX0 1 T.a_BitReader___init__ T.d_BitReader___init__ pl_BitReader___init__ (sp_BitReader___init__ T) := by
  refine T.F_BitReader___init__.ok sc_BitReader___init__ (fun vs H Q E h => ?_) (fun cdv A outer s H vs Q E hr h => ?_)
  · obtain ⟨p, b, dx, t, rfl, _⟩ := h
    rfl
  · obtain ⟨p, b, dx, t, rfl, hp, q⟩ := h
    have hu := hu_of hr
    refine ⟨_, (pss_cons (ps_fld (pv 0) (pv 1) rfl)
      (pss_one (ps_fld (pv 0) (pv 2) rfl))).nox, ?_⟩
    show (_ : L2.TS) _ [some _, some _, some _] H
    try simp only [Z.kx]
    wtm_at "r"
    refine Z.r_setP hp T.cl_BitReader T.no_BitReader__bits (by show 0 < 1000; decide) ?_
    wtm_at "r"
    refine Z.r_setP L2.upd_same T.cl_BitReader T.no_BitReader__position (by show 1 < 1000; decide) ?_
    rw [show putF "_position" (V.int t) (putF "_bits" (V.ref b) []) = [(("_bits" : Str), V.ref b), ("_position", V.int t)] from by rw [Z.put_0, Z.put_s f_bp, Z.put_0]]
    exact q _ (fun x o hx hne => by rw [upd_ne hne, upd_ne hne]; exact hx) ⟨dx, L2.upd_same⟩
def sp_BitReader_left {K : PySem.W.Frag} {mg : Str → Option Value} (T : Top K mg) : Sp := fun vs H Q _ => ∃ (p b : Addr) (bs : List Nat) (t : Int), vs = [.ref p] ∧ RAt T.a_BitReader H p b t ∧ H b = some (.lst (nv bs)) ∧ bs.length ≤ 200 ∧ Q (.int ((bs.length : Nat) - t)) H
set_option maxHeartbeats 2000000 in
theorem ok_BitReader_left (T : Top K mg) : FnOk P w K mg base CX0 1 T.a_BitReader_left T.d_BitReader_left pl_BitReader_left (sp_BitReader_left T) := by
  refine T.F_BitReader_left.ok sc_BitReader_left (fun vs H Q E h => ?_) (fun cdv A outer s H vs Q E hr h => ?_)
  · obtain ⟨p, b, bs, t, rfl, _⟩ := h
    rfl
  · obtain ⟨p, b, bs, t, rfl, hw, hb, hl, q⟩ := h
    have hu := hu_of hr
    refine ⟨_, (pss_one (ps_ret (pe_op op_sub (pe_callB (show CallR _ _ (Z.cLen K) from Z.call_len) (by rfl) T.n_len (by decide +kernel) (pa_cons (pe_fld (pv 0) rfl) pa_nil)) (pe_fld (pv 0) rfl)))), ?_⟩
    show (_ : L2.TS) _ [some _] H
    try simp only [Z.kx]
    obtain ⟨dx, hp⟩ := hw
    wtm_at "r"
    refine Z.r_fldP hp T.cl_BitReader T.no_BitReader__bits Z.look_1 ?_
    wtm_at "r"
    rw [nv_len]
    refine Z.r_fldP hp T.cl_BitReader T.no_BitReader__position ((Z.look_s f_pb).trans Z.look_1) ?_
    wtm_at "r"
    exact q
def sp_BitReader_at {K : PySem.W.Frag} {mg : Str → Option Value} (T : Top K mg) : Sp := fun vs H Q _ => ∃ (p b : Addr) (bs : List Nat) (t : Int), vs = [.ref p] ∧ RAt T.a_BitReader H p b t ∧ H b = some (.lst (nv bs)) ∧ bs.length ≤ 200 ∧ Q (.int t) H
set_option maxHeartbeats 2000000 in
theorem ok_BitReader_at (T : Top K mg) : FnOk P w K mg base CX0 1 T.a_BitReader_at T.d_BitReader_at pl_BitReader_at (sp_BitReader_at T) := by
  refine T.F_BitReader_at.ok sc_BitReader_at (fun vs H Q E h => ?_) (fun cdv A outer s H vs Q E hr h => ?_)
  · obtain ⟨p, b, bs, t, rfl, _⟩ := h
    rfl
  · obtain ⟨p, b, bs, t, rfl, hw, hb, hl, q⟩ := h
    have hu := hu_of hr
    refine ⟨_, (pss_one (ps_ret (pe_fld (pv 0) rfl))), ?_⟩
    show (_ : L2.TS) _ [some _] H
    try simp only [Z.kx]
    obtain ⟨dx, hp⟩ := hw
    wtm_at "r"
    refine Z.r_fldP hp T.cl_BitReader T.no_BitReader__position ((Z.look_s f_pb).trans Z.look_1) ?_
    wtm_at "r"
    exact q
def sp_value_of (K : PySem.W.Frag) : Sp := fun vs H Q _ => ∃ (a : Addr) (bs : List Nat), vs = [.ref a] ∧ SqL K H a (nv bs) ∧ Q (.int (valN bs : Nat)) H
set_option maxHeartbeats 2000000 in
theorem ok_value_of (T : Top K mg) : FnOk P w K mg base CX0 1 T.a_value_of T.d_value_of pl_value_of (sp_value_of K) := by
  refine T.F_value_of.ok sc_value_of (fun vs H Q E h => ?_) (fun cdv A outer s H vs Q E hr h => ?_)
  · obtain ⟨a, bs, rfl, _⟩ := h
    rfl
  · obtain ⟨a, bs, rfl, hS, q⟩ := h
    have hu := hu_of hr
    refine ⟨_, (pss_cons (ps_set (i := 1) sc_value_of.nd rfl (Or.inl rfl) pe_int)
      (pss_cons (ps_for PassesOwn.never rfl (pi_list (pv 0)) (pg_name (i := 2) sc_value_of.nd rfl (Or.inl rfl)) (pss_one (ps_set (i := 1) sc_value_of.nd rfl (Or.inl rfl) (pe_op op_add (pe_op op_mul pe_int (pv 1)) (pv 2)))))
      (pss_one (ps_ret (pv 1))))), ?_⟩
    show (_ : L2.TS) _ [some _, none, none] H
    try simp only [Z.kx]
    wtm_at "r"
    refine Z.lst_go hS (fun i σ H2 => ∃ (x : Option V), σ = [some (.ref a), some (.int (valN (bs.take i) : Nat)), x] ∧ H2 = H) ⟨none, rfl, rfl⟩ (fun i σ H2 _ ⟨_, _, e⟩ => by subst e; exact hS) ?_ ?_
    · rintro i y σ H2 hi ⟨x, rfl, rfl⟩
      obtain ⟨b, hbi, rfl⟩ := nv_get hi
      wtm_at "r"
      rw [show (2 : Int) * (valN (bs.take i) : Nat) + (b : Nat) = ((2 * valN (bs.take i) + b : Nat) : Int) by omega, ← valN_take hbi]
      exact ⟨_, rfl, rfl⟩
    · rintro σ H2 ⟨x, rfl, rfl⟩
      rw [nv_len, List.take_length]
      wtm_at "r"
      exact q
def sp_BitReader_read {K : PySem.W.Frag} {mg : Str → Option Value} (T : Top K mg) : Sp := fun vs H Q E => ∃ (p b : Addr) (bs : List Nat) (t w : Nat), vs = [.ref p, .int w] ∧ RAt T.a_BitReader H p b t ∧ H b = some (.lst (nv bs)) ∧ bs.length ≤ 200 ∧ t ≤ bs.length ∧ (bs.length < t + w → ∀ d, H d = none → E (.ref T.a_Truncated) (some d) (upd H d (trunc bs.length))) ∧ (t + w ≤ bs.length → ∀ H1, (∀ x o, H x = some o → x ≠ p → H1 x = some o) → RAt T.a_BitReader H1 p b ((t + w : Nat) : Int) → Q (.int (valN ((bs.drop t).take w) : Nat)) H1)
set_option maxHeartbeats 2000000 in
theorem ok_BitReader_read (T : Top K mg) : FnOk P w K mg base (L2.CX P w) 3 T.a_BitReader_read T.d_BitReader_read pl_BitReader_read (sp_BitReader_read T) := by
  refine T.F_BitReader_read.okX sc_BitReader_read (fun vs H Q E h => ?_) (fun cdv A outer s H vs Q E hr h => ?_)
  · obtain ⟨p, b, bs, t, w, rfl, _⟩ := h
    rfl
  · obtain ⟨p, b, bs, t, w, rfl, hw, hb, hl, htl, qe, qv⟩ := h
    have hu := hu_of hr
    refine ⟨_, (pss_cons (ps_if (pt_cmpR op_gt (pv 1) (pe_meth0 (pv 0) T.cl_BitReader T.me_BitReader_left (ok_BitReader_left T) (hr.mono (by decide)) T.b_BitReader_left .nil pass0) (nomark _)) (pss_one (ps_raise rfl (takes_of rfl rfl rfl rfl) (pmk_oex T.ox_Truncated T.ic_Truncated T.it_DotfieldError___init__ (ok_DotfieldError___init__ T) (hr.mono (by decide)) T.b_DotfieldError___init__ .nil pass0 (by rfl) T.g_Truncated (pa_cons (pe_callB (show CallR _ _ (Z.cLen K) from Z.call_len) (by rfl) T.n_len (by decide +kernel) (pa_cons (pe_fld (pv 0) rfl) pa_nil)) pa_nil)))) pss_nil)
      (pss_cons (ps_set (i := 2) sc_BitReader_read.nd rfl (Or.inl rfl) (pe_fld (pv 0) rfl))
      (pss_cons (ps_fld (pv 0) (pe_op op_add (pv 2) (pv 1)) rfl)
      (pss_one (ps_ret (pe_call (ok_value_of T) (hr.mono (by decide)) (by rfl) T.g_value_of T.F_value_of.kp T.b_value_of .nil pass0 (pa_cons (pe_slice (show SlR _ (rSlL K) from sl_list) (pe_fld (pv 0) rfl) (po_some (pv 2)) (po_some (pe_fld (pv 0) rfl))) pa_nil))))))), ?_⟩
    show (_ : L2.TS) _ [some _, some _, none] H
    try simp only [Z.kx]
    obtain ⟨dx, hp⟩ := id hw
    wtm_at "r"
    refine Z.r_objP hp (no_m l_1 l_2) ?_
    wtm_at "r"
    refine ⟨p, b, bs, t, rfl, hw, hb, hl, ?_⟩
    wtm_at "r"
    with_reducible refine Z.i_2 (fun h => ?_) (fun h => ?_)
    · wtm_at "r"
      refine Z.r_mkO ?_
      wtm_at "r"
      refine Z.r_fldP hp T.cl_BitReader T.no_BitReader__bits Z.look_1 ?_
      wtm_at "r"
      rw [nv_len]
      refine ⟨by show 1 ≤ 1000; decide, fun e he => ?_⟩
      refine ⟨e, T.a_Truncated, _, rfl, "Truncated", L2.upd_same, T.ox_Truncated, T.ec_Truncated, T.nm_Truncated, T.no_Truncated_place, T.no_Truncated_name, fun d H1 hd hde h1 h2 h3 => ⟨rfl, d, _, h1, h2, (L2.upd_ne hde).symm.trans hd, ?_⟩⟩
      rw [Z.made_eq he h3]
      exact qe (by omega) d ((L2.upd_ne hde).symm.trans hd)
    · wtm_at "r"
      refine Z.r_fldP hp T.cl_BitReader T.no_BitReader__position ((Z.look_s f_pb).trans Z.look_1) ?_
      wtm_at "r"
      refine Z.r_setP hp T.cl_BitReader T.no_BitReader__position (by show 2 < 1000; decide) ?_
      rw [show putF "_position" (V.int ((t : Int) + (w : Int))) [(("_bits" : Str), V.ref b), ("_position", V.int (t : Int))] = [(("_bits" : Str), V.ref b), ("_position", V.int ((t + w : Nat) : Int))] from by rw [Z.put_s f_bp, Z.put_1, Int.natCast_add]]
      have hp1 : (upd H p (.ins T.a_BitReader dx [(("_bits" : Str), V.ref b), ("_position", V.int ((t + w : Nat) : Int))])) p = some (.ins T.a_BitReader dx [(("_bits" : Str), V.ref b), ("_position", V.int ((t + w : Nat) : Int))]) := L2.upd_same
      have k1 : ∀ x o, H x = some o → x ≠ p → (upd H p (.ins T.a_BitReader dx [(("_bits" : Str), V.ref b), ("_position", V.int ((t + w : Nat) : Int))])) x = some o := fun x o hx hne => (upd_ne hne).trans hx
      generalize upd H p (.ins T.a_BitReader dx [(("_bits" : Str), V.ref b), ("_position", V.int ((t + w : Nat) : Int))]) = H1 at hp1 k1
      wtm_at "r"
      refine Z.r_fldP hp1 T.cl_BitReader T.no_BitReader__bits Z.look_1 ?_
      wtm_at "r"
      refine Z.r_fldP hp1 T.cl_BitReader T.no_BitReader__position ((Z.look_s f_pb).trans Z.look_1) ?_
      wtm_at "r"
      have hb1 := k1 _ _ hb (ne_of hb hp (by intro z; cases z))
      refine Z.r_slL (Z.sq_l hb1) (fun c hc => ?_)
      rw [nv_cut _ (by omega), show t + w - t = w by omega]
      wtm_at "r"
      refine ⟨c, _, rfl, Z.sq_l L2.upd_same, qv (by omega) _ (fun x o hx hne => Z.s_upd hc _ _ (k1 x o hx hne)) ⟨dx, Z.s_upd hc _ _ hp1⟩⟩
def sp__law_draw (K : PySem.W.Frag) : Sp := fun vs H Q _ => ∃ (c m b : Int), vs = [.int c, .int m, .int b] ∧ 0 ≤ m ∧ m ≤ 1000 ∧ 0 < b ∧ b < 1073741824 ∧ ∀ (p : Addr) (ns : List Int) (H1 : Hp), Same H H1 → H p = none → H1 p = some (.lst (ns.map V.int)) → (ns.length : Int) = m → (∀ n ∈ ns, 0 ≤ n ∧ n < b) → Q (.ref p) H1
set_option maxHeartbeats 2000000 in
theorem ok__law_draw (T : Top K mg) : FnOk P w K mg base CX0 1 T.a__law_draw T.d__law_draw pl__law_draw (sp__law_draw K) := by
  refine T.F__law_draw.ok sc__law_draw (fun vs H Q E h => ?_) (fun cdv A outer s H vs Q E hr h => ?_)
  · obtain ⟨c, m, b, rfl, _⟩ := h
    rfl
  · obtain ⟨c, m, b, rfl, m0, m1, b0, b1, q⟩ := h
    have hu := hu_of hr
    refine ⟨_, (pss_cons (ps_set (i := 3) sc__law_draw.nd rfl (Or.inl rfl) (pe_lst pa_nil))
      (pss_cons (ps_if (pt_cmpR op_ge (pv 0) (pe_op op_pow pe_int pe_int) (nomark _)) (pss_cons (ps_for PassesOwn.never rfl (pi_range1 rfl T.n_range (pa_cons (pv 1) pa_nil)) (pg_name (i := 4) sc__law_draw.nd rfl (Or.inl rfl)) (pss_cons (ps_expr (pe_bm PySem.F.plainAttrs_list PySem.F.slot_list_append PySem.F.type_list_append mt_append (pv 3) (pa_cons (pe_op op_mod (pe_callTy Z.call_int (by rfl) T.n_int (by decide +kernel) (pa_cons (pv 0) pa_nil)) (pv 2)) pa_nil)))
      (pss_one (ps_set (i := 0) sc__law_draw.nd rfl (Or.inl rfl) (pe_op op_fdiv (pv 0) (pv 2))))))
      (pss_one (ps_ret (pv 3)))) pss_nil)
      (pss_cons (ps_set (i := 5) sc__law_draw.nd rfl (Or.inl rfl) (pe_op op_mod (pe_callTy Z.call_int (by rfl) T.n_int (by decide +kernel) (pa_cons (pv 0) pa_nil)) pe_int))
      (pss_cons (ps_for PassesOwn.never rfl (pi_range1 rfl T.n_range (pa_cons (pv 1) pa_nil)) (pg_name (i := 4) sc__law_draw.nd rfl (Or.inl rfl)) (pss_cons (ps_set (i := 5) sc__law_draw.nd rfl (Or.inl rfl) (pe_op op_mod (pe_callTy Z.call_int (by rfl) T.n_int (by decide +kernel) (pa_cons (pe_op op_add (pe_op op_add (pe_op op_mul (pv 5) pe_int) pe_int) (pv 4)) pa_nil)) pe_int))
      (pss_cons (ps_set (i := 6) sc__law_draw.nd rfl (Or.inl rfl) (pe_op op_mod (pe_callTy Z.call_int (by rfl) T.n_int (by decide +kernel) (pa_cons (pe_op op_add (pe_op op_mul (pv 5) pe_int) (pe_op op_mul pe_int (pv 4))) pa_nil)) pe_int))
      (pss_one (ps_expr (pe_bm PySem.F.plainAttrs_list PySem.F.slot_list_append PySem.F.type_list_append mt_append (pv 3) (pa_cons (pe_op op_mod (pe_callTy Z.call_int (by rfl) T.n_int (by decide +kernel) (pa_cons (pe_op op_fdiv (pv 6) pe_int) pa_nil)) (pv 2)) pa_nil)))))))
      (pss_one (ps_ret (pv 3))))))), ?_⟩
    show (_ : L2.TS) _ [some _, some _, some _, none, none, none, none] H
    try simp only [Z.kx]
    wtm_at "r"
    refine ⟨Nat.zero_le _, fun p hp => ?_⟩
    wtm_at "r"
    
    with_reducible refine Z.i_2 (fun hx => ?_) (fun hx => ?_) <;> clear hx
    · -- the digits of a great cell
      wtm_at "r"
      refine Z.rng_go m.toNat rfl ⟨by omega, by omega⟩ (fun i σ H2 => ∃ (c : Int) (k : Option V) (ns : List Int), σ = [some (.int c), some (.int m), some (.int b), some (.ref p), k, none, none] ∧ Same H H2 ∧ H2 p = some (.lst (ns.map V.int)) ∧ ns.length = i ∧ (∀ n ∈ ns, 0 ≤ n ∧ n < b)) ?_ ?_ ?_
      · exact ⟨_, none, [], rfl, Z.s_upd hp, L2.upd_same, rfl, fun n hn => by cases hn⟩
      · rintro i σ H2 hi ⟨c, k, ns, rfl, sm, hl, el, hb⟩
        wtm_at "r"
        refine ⟨_, _, ns ++ [c % b], rfl, Z.s_mut sm hp, ?_, by simp [el], fun n hn => ?_⟩
        · rw [List.map_append]; exact L2.upd_same
        · rcases List.mem_append.mp hn with h | h
          · exact hb n h
          · rw [List.mem_singleton] at h; subst h; exact ⟨Int.emod_nonneg _ (by omega), Int.emod_lt_of_pos _ (by omega)⟩
      · rintro σ H2 ⟨c, k, ns, rfl, sm, hl, el, hb⟩
        wtm_at "r"
        exact q p ns H2 sm hp hl (by omega) hb
    · wtm_at "r"
      refine Z.rng_go m.toNat rfl ⟨by omega, by omega⟩ (fun i σ H2 => ∃ (s : Int) (k x : Option V) (ns : List Int), σ = [some (.int c), some (.int m), some (.int b), some (.ref p), k, some (.int s), x] ∧ Same H H2 ∧ H2 p = some (.lst (ns.map V.int)) ∧ ns.length = i ∧ (∀ n ∈ ns, 0 ≤ n ∧ n < b)) ?_ ?_ ?_
      · exact ⟨_, none, none, [], rfl, Z.s_upd hp, L2.upd_same, rfl, fun n hn => by cases hn⟩
      · rintro i σ H2 hi ⟨s, k, x, ns, rfl, sm, hl, el, hb⟩
        wtm_at "r"
        refine ⟨_, _, _, ns ++ [((s * 48271 + 12345 + (i : Nat)) % 2147483647 * 69621 + 977 * (i : Nat)) % 2147483629 / 3 % b], rfl, Z.s_mut sm hp, ?_, by simp [el], fun n hn => ?_⟩
        · rw [List.map_append]; exact L2.upd_same
        · rcases List.mem_append.mp hn with h | h
          · exact hb n h
          · rw [List.mem_singleton] at h; subst h; exact ⟨Int.emod_nonneg _ (by omega), Int.emod_lt_of_pos _ (by omega)⟩
      · rintro σ H2 ⟨s, k, x, ns, rfl, sm, hl, el, hb⟩
        wtm_at "r"
        exact q p ns H2 sm hp hl (by omega) hb
def sp__law_is_integer (K : PySem.W.Frag) : Sp := fun vs H Q _ => ∃ (i : Int), vs = [.int i] ∧ Q (.bl true) H
set_option maxHeartbeats 2000000 in
theorem ok__law_is_integer (T : Top K mg) : FnOk P w K mg base CX0 1 T.a__law_is_integer T.d__law_is_integer pl__law_is_integer (sp__law_is_integer K) := by
  refine T.F__law_is_integer.ok sc__law_is_integer (fun vs H Q E h => ?_) (fun cdv A outer s H vs Q E hr h => ?_)
  · obtain ⟨i, rfl, _⟩ := h
    rfl
  · obtain ⟨i, rfl, q⟩ := h
    have hu := hu_of hr
    refine ⟨_, (pss_one (ps_ret (pe_and (pe_callB (show CallR _ _ (rIsi K) from call_isi) (by rfl) T.n_isinstance (by decide +kernel) (pa_cons (pv 0) (pa_cons (pe_bltn (v := .ty "int") (u := .type "int") (by rfl) T.n_int (by decide +kernel) rfl) pa_nil))) (pe_one (pe_not (pe_callB (show CallR _ _ (rIsi K) from call_isi) (by rfl) T.n_isinstance (by decide +kernel) (pa_cons (pv 0) (pa_cons (pe_bltn (v := .ty "bool") (u := .type "bool") (by rfl) T.n_bool (by decide +kernel) rfl) pa_nil)))))))), ?_⟩
    show (_ : L2.TS) _ [some _] H
    try simp only [Z.kx]
    wtm_at "r"
    refine Z.r_isi (b := true) (.ty "int") (.base (.int _)) (kit_ty (by decide +kernel)) ?_
    wtm_at "r"
    refine Z.r_isi (b := false) (.ty "bool") (.base (.int _)) (kit_ty (by decide +kernel)) ?_
    wtm_at "r"
    exact q
def sp__law_cell (K : PySem.W.Frag) : Sp := fun vs H Q _ => ∃ (a : Addr) (ns : List Int) (k : Nat), vs = [.ref a, .int k] ∧ SqL K H a (ns.map V.int) ∧ k < 100 ∧ ∀ z : Int, Q (.int z) H
set_option maxHeartbeats 2000000 in
theorem ok__law_cell (T : Top K mg) : FnOk P w K mg base CX0 1 T.a__law_cell T.d__law_cell pl__law_cell (sp__law_cell K) := by
  refine T.F__law_cell.ok sc__law_cell (fun vs H Q E h => ?_) (fun cdv A outer s H vs Q E hr h => ?_)
  · obtain ⟨a, ns, k, rfl, _⟩ := h
    rfl
  · obtain ⟨a, ns, k, rfl, hS, hk, q⟩ := h
    have hu := hu_of hr
    refine ⟨_, (pss_cons (ps_if (pt_cmpR op_lt (pv 1) (pe_callB (show CallR _ _ (Z.cLen K) from Z.call_len) (by rfl) T.n_len (by decide +kernel) (pa_cons (pv 0) pa_nil)) (nomark _)) (pss_one (ps_ret (pe_ix (show IxR _ (rIxL K) from ix_list) (pv 0) (pv 1) (fun _ _ => rfl)))) pss_nil)
      (pss_one (ps_ret pe_int))), ?_⟩
    show (_ : L2.TS) _ [some _, some _] H
    try simp only [Z.kx]
    wtm_at "r"
    with_reducible refine Z.i_2 (fun h => ?_) (fun h => ?_)
    · rw [List.length_map] at h
      have h' : k < ns.length := by omega
      wtm_at "r"
      refine Z.r_ixL hS (Z.at_map rfl (List.getElem?_eq_getElem h')) ?_
      wtm_at "r"
      exact q _
    · wtm_at "r"
      exact q _
def sp__law_due (K : PySem.W.Frag) : Sp := fun vs H Q _ => ∃ (a : Addr) (bs : List Nat) (t w : Nat), vs = [.ref a, .int t, .int w] ∧ H a = some (.lst (nv bs)) ∧ bs.length ≤ 200 ∧ t ≤ bs.length ∧ (bs.length < t + w → ∀ e H1, Same H H1 → H e = none → H1 e = some (.tup [.str "error", .int bs.length]) → Q (.ref e) H1) ∧ (t + w ≤ bs.length → ∀ e H1, Same H H1 → H e = none → H1 e = some (.tup [.str "value", .int (valN ((bs.drop t).take w) : Nat)]) → Q (.ref e) H1)
set_option maxHeartbeats 2000000 in
theorem ok__law_due (T : Top K mg) : FnOk P w K mg base CX0 1 T.a__law_due T.d__law_due pl__law_due (sp__law_due K) := by
  refine T.F__law_due.ok sc__law_due (fun vs H Q E h => ?_) (fun cdv A outer s H vs Q E hr h => ?_)
  · obtain ⟨a, bs, t, w, rfl, _⟩ := h
    rfl
  · obtain ⟨a, bs, t, w, rfl, hb, hl, htl, qe, qv⟩ := h
    have hu := hu_of hr
    refine ⟨_, (pss_cons (ps_if (pt_cmpR op_gt (pe_op op_add (pv 1) (pv 2)) (pe_callB (show CallR _ _ (Z.cLen K) from Z.call_len) (by rfl) T.n_len (by decide +kernel) (pa_cons (pv 0) pa_nil)) (nomark _)) (pss_one (ps_ret (pe_tup (pa_cons pe_str (pa_cons (pe_callB (show CallR _ _ (Z.cLen K) from Z.call_len) (by rfl) T.n_len (by decide +kernel) (pa_cons (pv 0) pa_nil)) pa_nil))))) pss_nil)
      (pss_cons (ps_set (i := 3) sc__law_due.nd rfl (Or.inl rfl) pe_int)
      (pss_cons (ps_for PassesOwn.never rfl (pi_list (pe_slice (show SlR _ (rSlL K) from sl_list) (pv 0) (po_some (pv 1)) (po_some (pe_op op_add (pv 1) (pv 2))))) (pg_name (i := 4) sc__law_due.nd rfl (Or.inl rfl)) (pss_one (ps_set (i := 3) sc__law_due.nd rfl (Or.inl rfl) (pe_op op_add (pe_op op_mul pe_int (pv 3)) (pv 4)))))
      (pss_one (ps_ret (pe_tup (pa_cons pe_str (pa_cons (pv 3) pa_nil)))))))), ?_⟩
    show (_ : L2.TS) _ [some _, some _, some _, none, none] H
    try simp only [Z.kx]
    wtm_at "r"
    rw [nv_len]
    with_reducible refine Z.i_2 (fun h => ?_) (fun h => ?_)
    · wtm_at "r"
      rw [nv_len]
      wtm_at "r"
      refine ⟨by show 2 ≤ sizeLine; decide, fun e he => ?_⟩
      exact qe (by omega) e _ (Z.s_upd he) he L2.upd_same
    · wtm_at "r"
      refine Z.r_slL (Z.sq_l hb) (fun c hc => ?_)
      have s1 : Same H (upd H c (.lst (cutV (nv bs) (some (t : Int)) (some ((t : Int) + (w : Int)))))) := Z.s_upd hc
      have hc1 : (upd H c (.lst (cutV (nv bs) (some (t : Int)) (some ((t : Int) + (w : Int)))))) c = some (.lst (nv ((bs.drop t).take w))) := by
        rw [L2.upd_same, ← Int.natCast_add, nv_cut _ (by omega), show t + w - t = w by omega]
      generalize upd H c (.lst (cutV (nv bs) (some (t : Int)) (some ((t : Int) + (w : Int))))) = H1 at s1 hc1
      refine Z.lst_go (Z.sq_l hc1) (fun i σ H2 => ∃ (x : Option V), σ = [some (.ref a), some (.int t), some (.int w), some (.int (valN (((bs.drop t).take w).take i) : Nat)), x] ∧ H2 = H1) ⟨none, rfl, rfl⟩ (fun i σ H2 _ ⟨_, _, e⟩ => by subst e; exact Z.sq_l hc1) ?_ ?_
      · rintro i y σ H2 hi ⟨x, rfl, rfl⟩
        obtain ⟨b, hbi, rfl⟩ := nv_get hi
        wtm_at "r"
        rw [show (2 : Int) * (valN (((bs.drop t).take w).take i) : Nat) + (b : Nat) = ((2 * valN (((bs.drop t).take w).take i) + b : Nat) : Int) by omega, ← valN_take hbi]
        exact ⟨_, rfl, rfl⟩
      · rintro σ H2 ⟨x, rfl, rfl⟩
        rw [nv_len, List.take_length]
        wtm_at "r"
        refine ⟨by show 2 ≤ sizeLine; decide, fun e he => ?_⟩
        exact qv (by omega) e _ (s1.trans (Z.s_upd he)) (Z.s_back s1 he) L2.upd_same
def sp__law_read {K : PySem.W.Frag} {mg : Str → Option Value} (T : Top K mg) : Sp := fun vs H Q _ => ∃ (p b : Addr) (bs : List Nat) (t w : Nat), vs = [.ref p, .int w] ∧ RAt T.a_BitReader H p b t ∧ H b = some (.lst (nv bs)) ∧ bs.length ≤ 200 ∧ t ≤ bs.length ∧ (bs.length < t + w → ∀ e H1, Same H H1 → H e = none → H1 e = some (.tup [.str "error", .int bs.length]) → Q (.ref e) H1) ∧ (t + w ≤ bs.length → ∀ e H1, (∀ x o, H x = some o → x ≠ p → H1 x = some o) → RAt T.a_BitReader H1 p b ((t + w : Nat) : Int) → H e = none → H1 e = some (.tup [.str "value", .int (valN ((bs.drop t).take w) : Nat)]) → Q (.ref e) H1)
set_option maxHeartbeats 2000000 in
theorem ok__law_read (T : Top K mg) : FnOk P w K mg base CX0 4 T.a__law_read T.d__law_read pl__law_read (sp__law_read T) := by
  refine T.F__law_read.ok sc__law_read (fun vs H Q E h => ?_) (fun cdv A outer s H vs Q E hr h => ?_)
  · obtain ⟨p, b, bs, t, w, rfl, _⟩ := h
    rfl
  · obtain ⟨p, b, bs, t, w, rfl, hw, hb, hl, htl, qe, qv⟩ := h
    have hu := hu_of hr
    refine ⟨_, (pss_one (ps_try_as (i := 2) rfl rfl sc__law_read.nd rfl rfl ⟨by rfl, by decide +kernel, .inl T.g_DotfieldError⟩ takes0 (fun W pn xe tk pz => (pss_one (ps_ret (pe_tup (pa_cons pe_str (pa_cons (Z.pe_methX (pv 0) T.cl_BitReader T.me_BitReader_read (ok_BitReader_read T) (hr.mono (by decide)) T.b_BitReader_read .nil (fun σ => passAt tk σ) (pa_cons (pv 1) pa_nil)) pa_nil)))))) (fun a oe cls d pn hz hf => (pss_cons (ps_set (i := 3) sc__law_read.nd rfl (Or.inl rfl) (pe_and (pe_callB (show CallR _ _ (Z.rErI K a cls d) from Z.call_erI hz hf) (by rfl) T.n_isinstance (by decide +kernel) (pa_cons (pv 2) (pa_cons (pe_glob (v := .ref T.a_Truncated) (u := .ref T.a_Truncated) rfl T.g_Truncated rfl) pa_nil))) (pe_and (pe_not (pe_callB (show CallR _ _ (Z.rErI K a cls d) from Z.call_erI hz hf) (by rfl) T.n_isinstance (by decide +kernel) (pa_cons (pv 2) (pa_cons (pe_glob (v := .ref T.a_InvalidCount) (u := .ref T.a_InvalidCount) rfl T.g_InvalidCount rfl) pa_nil)))) (pe_one (pe_cmpR op_eq (Z.pe_erF hz hf (pv 2)) pe_str (nomark _))))))
      (pss_one (ps_ret (pe_tup (pa_cons pe_str (pa_cons (pe_and (pv 3) (pe_and (pe_callB (show CallR _ _ (Z.rErI K a cls d) from Z.call_erI hz hf) (by rfl) T.n_isinstance (by decide +kernel) (pa_cons (pv 2) (pa_cons (pe_bltn (v := .ty "ValueError") (u := .type "ValueError") (by rfl) T.n_ValueError (by decide +kernel) rfl) pa_nil))) (pe_one (Z.pe_erF hz hf (pv 2))))) pa_nil))))))))), ?_⟩
    show (_ : L2.TS) _ [some _, some _, none, none] H
    try simp only [Z.kx]
    obtain ⟨dx, hp⟩ := id hw
    wtm_at "e"
    refine Z.r_objP hp (no_m r_1 r_2) ?_
    wtm_at "e"
    refine ⟨p, b, bs, t, w, rfl, hw, hb, hl, htl, fun h d hd => ?_, fun h H1 k1 w1 => ?_⟩
    · refine ⟨true, T.ex_Truncated_DotfieldError, fun _ a ha => ?_, fun q => nomatch q⟩
      have hx : (upd H d (trunc bs.length)) d = some (trunc bs.length) := L2.upd_same
      have s1 : Same H (upd H d (trunc bs.length)) := Z.s_upd hd
      generalize upd H d (trunc bs.length) = H1 at hx s1 ha
      wtm_at "w"
      wtm_at "e"
      refine Z.r_erI T.ec_Truncated T.ki_Truncated_Truncated (fun u h => h) hx ?_
      wtm_at "e"
      refine Z.r_erI T.ec_Truncated T.ki_Truncated_InvalidCount (fun u h => h) hx ?_
      wtm_at "e"
      refine Z.r_erFP T.xf_Truncated T.no_Truncated_name hx Z.look_1 ?_
      wtm_at "e"
      with_reducible refine Z.i_dt trivial ?_
      wtm_at "e"
      refine Z.r_erI T.ec_Truncated T.ki_Truncated_ValueError (fun u h => h) hx ?_
      wtm_at "e"
      refine Z.r_erFP T.xf_Truncated T.no_Truncated_place hx ((Z.look_s f_pn).trans Z.look_1) ?_
      wtm_at "e"
      refine ⟨by show 2 ≤ sizeLine; decide, fun e he => ?_⟩
      exact qe h e _ (s1.trans (Z.s_upd he)) (Z.s_back s1 he) L2.upd_same
    · wtm_at "e"
      refine ⟨by show 2 ≤ sizeLine; decide, fun e he => ?_⟩
      refine qv h e _ (fun x o hx hne => Z.s_upd he _ _ (k1 x o hx hne)) (w1.same (Z.s_upd he)) ?_ L2.upd_same
      cases h0 : H e with
      | none => rfl
      | some o =>
        by_cases hep : e = p
        · obtain ⟨dx1, hp1⟩ := w1
          rw [hep, hp1] at he; cases he
        · rw [k1 e o h0 hep] at he; cases he
def sp_law (K : PySem.W.Frag) : Sp := fun vs H Q _ => ∃ (a : Addr) (ns : List Int), vs = [.ref a] ∧ SqL K H a (ns.map V.int) ∧ ns.length ≤ 63 ∧ ∀ H1, Q (.bl true) H1
set_option maxHeartbeats 2000000 in
theorem ok_law (T : Top K mg) : FnOk P w K mg base CX0 5 T.a_law T.d_law pl_law (sp_law K) := by
  refine T.F_law.ok sc_law (fun vs H Q E h => ?_) (fun cdv A outer s H vs Q E hr h => ?_)
  · obtain ⟨a, ns, rfl, _⟩ := h
    rfl
  · obtain ⟨a, ns, rfl, hS, hn, q⟩ := h
    have hu := hu_of hr
    refine ⟨_, (pss_cons (ps_set (i := 1) sc_law.nd rfl (Or.inl rfl) (pe_call (ok__law_draw T) (hr.mono (by decide)) (by rfl) T.g__law_draw T.F__law_draw.kp T.b__law_draw .nil pass0 (pa_cons (pe_call (ok__law_cell T) (hr.mono (by decide)) (by rfl) T.g__law_cell T.F__law_cell.kp T.b__law_cell .nil pass0 (pa_cons (pv 0) (pa_cons pe_int pa_nil))) (pa_cons pe_int (pa_cons (pe_op op_shl pe_int pe_int) pa_nil)))))
      (pss_cons (ps_set (i := 2) sc_law.nd rfl (Or.inl rfl) (pe_call (ok__law_draw T) (hr.mono (by decide)) (by rfl) T.g__law_draw T.F__law_draw.kp T.b__law_draw .nil pass0 (pa_cons (pe_call (ok__law_cell T) (hr.mono (by decide)) (by rfl) T.g__law_cell T.F__law_cell.kp T.b__law_cell .nil pass0 (pa_cons (pv 0) (pa_cons pe_int pa_nil))) (pa_cons (pe_op op_mod (pe_ix (show IxR _ (rIxL K) from ix_list) (pv 1) pe_int (fun _ _ => rfl)) pe_int) (pa_cons pe_int pa_nil)))))
      (pss_cons (ps_set (i := 3) sc_law.nd rfl (Or.inl rfl) (pe_callTy (show CallR _ _ (Z.cList K) from Z.call_list) (by rfl) T.n_list (by decide +kernel) (pa_cons (pv 2) pa_nil)))
      (pss_cons (ps_set (i := 4) sc_law.nd rfl (Or.inl rfl) (pe_lst (pa_cons (pe_op op_mod (pe_ix (show IxR _ (rIxL K) from ix_list) (pv 1) pe_int (fun _ _ => rfl)) (pe_op op_add (pe_callB (show CallR _ _ (Z.cLen K) from Z.call_len) (by rfl) T.n_len (by decide +kernel) (pa_cons (pv 2) pa_nil)) pe_int)) (pa_cons (pe_op op_mod (pe_ix (show IxR _ (rIxL K) from ix_list) (pv 1) pe_int (fun _ _ => rfl)) (pe_op op_add (pe_callB (show CallR _ _ (Z.cLen K) from Z.call_len) (by rfl) T.n_len (by decide +kernel) (pa_cons (pv 2) pa_nil)) pe_int)) pa_nil))))
      (pss_cons (ps_set (i := 5) sc_law.nd rfl (Or.inl rfl) (pe_lst (pa_cons (pe_make T.M_BitReader (ok_BitReader___init__ T) (hr.mono (by decide)) rfl T.g_BitReader T.b_BitReader___init__ .nil pass0 (pa_cons (pv 3) (pa_cons (pe_ix (show IxR _ (rIxL K) from ix_list) (pv 4) pe_int (fun _ _ => rfl)) pa_nil))) (pa_cons (pe_make T.M_BitReader (ok_BitReader___init__ T) (hr.mono (by decide)) rfl T.g_BitReader T.b_BitReader___init__ .nil pass0 (pa_cons (pv 3) (pa_cons (pe_ix (show IxR _ (rIxL K) from ix_list) (pv 4) pe_int (fun _ _ => rfl)) pa_nil))) pa_nil))))
      (C8.pss_cut (ps_if (pt_cmpR op_eq (pe_op op_mod (pe_op op_fdiv (pe_ix (show IxR _ (rIxL K) from ix_list) (pv 1) pe_int (fun _ _ => rfl)) pe_int) pe_int) pe_int (nomark _)) (pss_cons (ps_asg pe_int (pg_sub (pv 4) pe_int set_list))
      (pss_one (ps_asg (pe_make T.M_BitReader (ok_BitReader___init__ T) (hr.mono (by decide)) rfl T.g_BitReader T.b_BitReader___init___1 T.v_BitReader___init___1 pass0 (pa_cons (pv 3) pa_nil)) (pg_sub (pv 5) pe_int set_list)))) pss_nil)
      (pss_cons (ps_for PassesOwn.never rfl (pi_list (pe_slice (show SlR _ (rSlL K) from sl_list) (pv 0) (po_some pe_int) (po_some pe_int))) (pg_name (i := 6) sc_law.nd rfl (Or.inl rfl)) (pss_cons (ps_set (i := 7) sc_law.nd rfl (Or.inl rfl) (pe_call (ok__law_draw T) (hr.mono (by decide)) (by rfl) T.g__law_draw T.F__law_draw.kp T.b__law_draw .nil pass0 (pa_cons (pv 6) (pa_cons pe_int (pa_cons (pe_op op_shl pe_int pe_int) pa_nil)))))
      (pss_cons (ps_set (i := 8) sc_law.nd rfl (Or.inl rfl) (pe_op op_mod (pe_ix (show IxR _ (rIxL K) from ix_list) (pv 7) pe_int (fun _ _ => rfl)) pe_int))
      (pss_cons (ps_set (i := 9) sc_law.nd rfl (Or.inl rfl) (pe_op op_mod (pe_ix (show IxR _ (rIxL K) from ix_list) (pv 7) pe_int (fun _ _ => rfl)) pe_int))
      (C8.pss_cut (ps_if (pt_cmpR op_gt (pe_op op_mod (pe_op op_fdiv (pe_ix (show IxR _ (rIxL K) from ix_list) (pv 7) pe_int (fun _ _ => rfl)) pe_int) pe_int) pe_int (nomark _)) (pss_one (ps_set (i := 9) sc_law.nd rfl (Or.inl rfl) (pe_op op_mod (pe_ix (show IxR _ (rIxL K) from ix_list) (pv 7) pe_int (fun _ _ => rfl)) pe_int))) pss_nil)
      (C8.pss_cut (ps_set (i := 10) sc_law.nd rfl (Or.inl rfl) (pe_call (ok__law_due T) (hr.mono (by decide)) (by rfl) T.g__law_due T.F__law_due.kp T.b__law_due .nil pass0 (pa_cons (pv 2) (pa_cons (pe_ix (show IxR _ (rIxL K) from ix_list) (pv 4) (pv 8) (fun _ _ => rfl)) (pa_cons (pv 9) pa_nil)))))
      (C8.pss_cut (ps_set (i := 11) sc_law.nd rfl (Or.inl rfl) (pe_call (ok__law_read T) (hr.mono (by decide)) (by rfl) T.g__law_read T.F__law_read.kp T.b__law_read .nil pass0 (pa_cons (pe_ix (show IxR _ (rIxL K) from ix_list) (pv 5) (pv 8) (fun _ _ => rfl)) (pa_cons (pv 9) pa_nil))))
      (pss_cons (ps_if (PW.pt (pw_or (pt_cmpR (op_neD (hr.units)) (pv 11) (pv 10) (nomark _)) (pw_or1 (pt_not (pt_val (pe_call (ok__law_is_integer T) (hr.mono (by decide)) (by rfl) T.g__law_is_integer T.F__law_is_integer.kp T.b__law_is_integer .nil pass0 (pa_cons (pe_ix (show IxR _ (rIxT K) from ix_tup) (pv 11) pe_int (fun _ _ => rfl)) pa_nil))))))) (pss_one (ps_ret pe_bl)) pss_nil)
      (C8.pss_cut (ps_if (pt_cmpR op_eq (pe_ix (show IxR _ (rIxT K) from ix_tup) (pv 10) pe_int (fun _ _ => rfl)) pe_str (nomark _)) (pss_one (ps_asg (pe_op op_add (pe_ix (show IxR _ (rIxL K) from ix_list) (pv 4) (pv 8) (fun _ _ => rfl)) (pv 9)) (pg_sub (pv 4) (pv 8) set_list))) pss_nil)
      (pss_one (ps_for PassesOwn.never rfl (pi_range1 rfl T.n_range (pa_cons pe_int pa_nil)) (pg_name (i := 12) sc_law.nd rfl (Or.inl rfl)) (pss_one (ps_if (PW.pt (pw_or (pt_cmpR op_ne (pe_meth0 (pe_ix (show IxR _ (rIxL K) from ix_list) (pv 5) (pv 12) (fun _ _ => rfl)) T.cl_BitReader T.me_BitReader_at (ok_BitReader_at T) (hr.mono (by decide)) T.b_BitReader_at .nil pass0) (pe_ix (show IxR _ (rIxL K) from ix_list) (pv 4) (pv 12) (fun _ _ => rfl)) (nomark _)) (pw_or1 (pt_cmpR op_ne (pe_meth0 (pe_ix (show IxR _ (rIxL K) from ix_list) (pv 5) (pv 12) (fun _ _ => rfl)) T.cl_BitReader T.me_BitReader_left (ok_BitReader_left T) (hr.mono (by decide)) T.b_BitReader_left .nil pass0) (pe_op op_sub (pe_callB (show CallR _ _ (Z.cLen K) from Z.call_len) (by rfl) T.n_len (by decide +kernel) (pa_cons (pv 2) pa_nil)) (pe_ix (show IxR _ (rIxL K) from ix_list) (pv 4) (pv 12) (fun _ _ => rfl))) (nomark _))))) (pss_one (ps_ret pe_bl)) pss_nil)))))))))))))
      (pss_one (ps_ret (pe_cmpR (op_eqD (hr.units)) (pv 3) (pv 2) (nomark _))))))))))), ?_⟩
    show (_ : L2.TS) _ [some _, none, none, none, none, none, none, none, none, none, none, none, none] H
    try simp only [Z.kx]
    wtm_at "e"
    refine ⟨a, ns, 0, rfl, hS, by decide, fun z0 => ?_⟩
    wtm_at "e"
    rw [show (1 : Int) * 2 ^ Int.toNat 20 = 1048576 by decide]
    refine ⟨_, _, _, rfl, by decide, by decide, by decide, by decide, fun d0 ms H1 s1 nd0 hd0 el hb0 => ?_⟩
    obtain ⟨m0, m1, m2, rfl⟩ := Z.len3 (ns := ms) (by omega)
    have b0 := hb0 m0 (by simp)
    have b1 := hb0 m1 (by simp)
    have b2 := hb0 m2 (by simp)
    wtm_at "e"
    refine ⟨a, ns, 1, rfl, Z.s_sq s1 hS, by decide, fun z1 => ?_⟩
    wtm_at "e"
    refine Z.r_ixL (Z.sq_l hd0) (v := .int m0) rfl ?_
    wtm_at "e"
    refine ⟨_, _, _, rfl, by omega, by omega, by decide, by decide, fun pb ks H2 s2 npb hpb el2 hk2 => ?_⟩
    have lk : (ks.map Int.toNat).length ≤ 200 := by rw [List.length_map]; omega
    rw [nv_toNat hk2] at hpb
    generalize ks.map Int.toNat = bs at hpb lk
    wtm_at "e"
    refine Z.r_list (Z.sq_l hpb) (fun ph nph => ?_)
    have s3 : Same H2 (upd H2 ph (.lst (nv bs))) := Z.s_upd nph
    have hph : (upd H2 ph (.lst (nv bs))) ph = some (.lst (nv bs)) := L2.upd_same
    generalize upd H2 ph (.lst (nv bs)) = H3 at s3 hph
    have hd3 := s3 _ _ (s2 _ _ hd0)
    have hpb3 := s3 _ _ hpb
    wtm_at "e"
    refine Z.r_ixL (Z.sq_l hd3) (v := .int m1) rfl ?_
    wtm_at "e"
    rw [nv_len]
    wtm_at "e"
    refine Z.r_ixL (Z.sq_l hd3) (v := .int m2) rfl ?_
    wtm_at "e"
    rw [nv_len]
    wtm_at "e"
    refine ⟨by show 2 ≤ sizeLine; decide, fun pp npp => ?_⟩
    have et0 : m1 % ((bs.length : Int) + 1) = (((m1 % ((bs.length : Int) + 1)).toNat : Nat) : Int) := by
      have := Int.emod_nonneg m1 (show ((bs.length : Int) + 1) ≠ 0 by omega)
      omega
    have et1 : m2 % ((bs.length : Int) + 1) = (((m2 % ((bs.length : Int) + 1)).toNat : Nat) : Int) := by
      have := Int.emod_nonneg m2 (show ((bs.length : Int) + 1) ≠ 0 by omega)
      omega
    have lt0 : (m1 % ((bs.length : Int) + 1)).toNat ≤ bs.length := by
      have := Int.emod_lt_of_pos m1 (show 0 < ((bs.length : Int) + 1) by omega)
      omega
    have lt1 : (m2 % ((bs.length : Int) + 1)).toNat ≤ bs.length := by
      have := Int.emod_lt_of_pos m2 (show 0 < ((bs.length : Int) + 1) by omega)
      omega
    rw [et0, et1]
    generalize (m1 % ((bs.length : Int) + 1)).toNat = t0 at lt0
    generalize (m2 % ((bs.length : Int) + 1)).toNat = t1 at lt1
    clear et0 et1
    have s4 : Same H3 (upd H3 pp (.lst [.int (t0 : Nat), .int (t1 : Nat)])) := Z.s_upd npp
    have hpp : (upd H3 pp (.lst [.int (t0 : Nat), .int (t1 : Nat)])) pp = some (.lst [.int (t0 : Nat), .int (t1 : Nat)]) := L2.upd_same
    have n1 : pp ≠ pb := (ne_of_none hpb3 npp).symm
    have n2 : pp ≠ ph := (ne_of_none hph npp).symm
    generalize upd H3 pp (.lst [.int (t0 : Nat), .int (t1 : Nat)]) = H4 at s4 hpp
    wtm_at "e"
    refine Z.r_ixL (Z.sq_l hpp) (v := .int (t0 : Nat)) rfl ?_
    wtm_at "e"
    intro r0 x0 nr0 nx0 ne0
    refine ⟨r0, ph, x0, _, rfl, L2.upd_same, fun H5 k5 w5 => ⟨rfl, ?_⟩⟩
    have s5 : Same H4 H5 := Same.made nr0 nx0 k5
    wtm_at "e"
    refine Z.r_ixL (Z.sq_l (s5 _ _ hpp)) (v := .int (t1 : Nat)) rfl ?_
    wtm_at "e"
    intro r1 x1 nr1 nx1 ne1
    refine ⟨r1, ph, x1, _, rfl, L2.upd_same, fun H6 k6 w6 => ⟨rfl, ?_⟩⟩
    have s6 : Same H5 H6 := Same.made nr1 nx1 k6
    have nrr : r0 ≠ r1 := by
      obtain ⟨dx, h⟩ := w5
      exact ne_of_none h nr1
    have w56 := w5.same s6
    wtm_at "e"
    refine ⟨by show 2 ≤ sizeLine; decide, fun pr npr => ?_⟩
    have s7 : Same H6 (upd H6 pr (.lst [.ref r0, .ref r1])) := Z.s_upd npr
    have hpr : (upd H6 pr (.lst [.ref r0, .ref r1])) pr = some (.lst [.ref r0, .ref r1]) := L2.upd_same
    have n3 : pp ≠ pr := ne_of_none (s6 _ _ (s5 _ _ hpp)) npr
    have n4 : pb ≠ pr := ne_of_none (s6 _ _ (s5 _ _ (s4 _ _ hpb3))) npr
    have n5 : ph ≠ pr := ne_of_none (s6 _ _ (s5 _ _ (s4 _ _ hph))) npr
    generalize upd H6 pr (.lst [.ref r0, .ref r1]) = H7 at s7 hpr
    have s47 := s5.trans (s6.trans s7)
    have s37 := s4.trans s47
    have rv : RV T.a_BitReader H7 pb ph pp pr (fun j => if j = 0 then r0 else r1) (fun j => if j = 0 then t0 else t1) (fun j => if j = 0 then t0 else t1) bs := by
      have c2 : ∀ j : Nat, j < 2 → j = 0 ∨ j = 1 := fun j h => by omega
      refine ⟨s37 _ _ hpb3, s37 _ _ hph, s47 _ _ hpp, hpr, fun j h => ?_, fun j h => ?_, nrr, n1, n2, n3, n4, n5⟩
      · rcases c2 j h with e | e <;> subst e
        · exact w56.same s7
        · exact w6.same s7
      · rcases c2 j h with e | e <;> subst e
        · exact lt0
        · exact lt1
    have s07 : Same H H7 := s1.trans (s2.trans (s3.trans s37))
    have hd7 := s37 _ _ hd3
    refine Z.r_cut (fun σ H8 => ∃ (r : Nat → Addr) (t : Nat → Nat), σ = [some (.ref a), some (.ref d0), some (.ref pb), some (.ref ph), some (.ref pp), some (.ref pr), none, none, none, none, none, none, none] ∧ RV T.a_BitReader H8 pb ph pp pr r t t bs ∧ SqL K H8 a (ns.map V.int)) ?_ ?_
    · wtm_at "w"
      wtm_at "e"
      refine Z.r_ixL (Z.sq_l hd7) (v := .int m2) rfl ?_
      wtm_at "e"
      with_reducible refine Z.i_2 (fun h => ?_) (fun h => ?_)
      · wtm_at "e"
        refine Z.r_setL rv.hp (j := 1) rfl (by show 1 < 2; decide) ?_
        have s8 := Z.s_mut (o := .lst ([V.int ((if 0 = 0 then t0 else t1 : Nat) : Int), V.int ((if 1 = 0 then t0 else t1 : Nat) : Int)].set 1 (V.int 0))) s07 (Z.s_back (s1.trans (s2.trans s3)) npp)
        generalize e8 : upd H7 pp _ = H8 at s8
        have rv1 := rv.placed (w := 1) (x := 0) (Nat.zero_le _)
        rw [show upd H7 pp (.lst [.int (put2 (fun j => if j = 0 then t0 else t1) 1 0 0 : Nat), .int (put2 (fun j => if j = 0 then t0 else t1) 1 0 1 : Nat)]) = H8 from e8] at rv1
        wtm_at "e"
        refine Z.r_makeD ?_
        wtm_at "e"
        intro e xe ne nxe nee
        refine ⟨e, ph, xe, 0, rfl, L2.upd_same, fun H9 k9 w9 => ⟨rfl, ?_⟩⟩
        have s9 : Same H8 H9 := Same.made ne nxe k9
        have rv2 := rv1.same s9
        have nre : r0 ≠ e := by
          obtain ⟨dx, h⟩ := rv1.A 0 (by decide)
          exact ne_of_none h ne
        wtm_at "e"
        refine Z.r_setL rv2.hr (j := 1) rfl (by show 1 < 2; decide) ?_
        exact ⟨_, _, rfl, rv2.taken (x := 0) w9 nre, Z.s_sq (Z.s_mut (s8.trans s9) (Z.s_back (s1.trans (s2.trans (s3.trans (s4.trans (s5.trans s6))))) npr)) hS⟩
      · wtm_at "e"
        exact ⟨_, _, rfl, rv, Z.s_sq s07 hS⟩
    rintro σ H8 ⟨r, t, rfl, rv8, hS8⟩
    clear rv s07
    wtm_at "e"
    refine Z.r_slL hS8 (fun p np => ?_)
    obtain ⟨ms, ems⟩ := cut_map ns (some 2) (some 63)
    rw [ems]
    have hp9 : (upd H8 p (.lst (ms.map V.int))) p = some (.lst (ms.map V.int)) := L2.upd_same
    have npp9 : p ≠ pp := (ne_of_none rv8.hp np).symm
    have rv9 := rv8.same (Z.s_upd (o := .lst (ms.map V.int)) np)
    generalize upd H8 p (.lst (ms.map V.int)) = H9 at hp9 rv9
    refine Z.lst_go (Z.sq_l hp9) (fun i σ H8 => ∃ (x6 x7 x8 x9 x10 x11 x12 : Option V) (r : Nat → Addr) (t : Nat → Nat), σ = [some (.ref a), some (.ref d0), some (.ref pb), some (.ref ph), some (.ref pp), some (.ref pr), x6, x7, x8, x9, x10, x11, x12] ∧ RV T.a_BitReader H8 pb ph pp pr r t t bs ∧ H8 p = some (.lst (ms.map V.int))) ?_ ?_ ?_ ?_
    · exact ⟨_, _, _, _, _, _, _, r, t, rfl, rv9, hp9⟩
    · rintro i σ H8 _ ⟨x6, x7, x8, x9, x10, x11, x12, r, t, _, _, hp⟩
      exact Z.sq_l hp
    · clear rv8 rv9 hp9 hS8
      rintro i y σ H8 hi ⟨x6, x7, x8, x9, x10, x11, x12, r, t, rfl, rv, hp⟩
      obtain ⟨z, _, rfl⟩ := Z.get_map hi
      wtm_at "e"
      rw [show (1 : Int) * 2 ^ Int.toNat 20 = 1048576 by decide]
      refine ⟨_, _, _, rfl, by decide, by decide, by decide, by decide, fun d ks H10 s10 nd hd el hb => ?_⟩
      obtain ⟨m0, m1, rfl⟩ := Z.len2 (ns := ks) (by omega)
      have c0 := hb m0 (by simp)
      have c1 := hb m1 (by simp)
      have rv10 := rv.same s10
      have hp10 := s10 _ _ hp
      wtm_at "e"
      refine Z.r_ixL (Z.sq_l hd) (v := .int m0) rfl ?_
      wtm_at "e"
      refine Z.r_ixL (Z.sq_l hd) (v := .int m1) rfl ?_
      wtm_at "e"
      obtain ⟨w, hw, ew⟩ : ∃ w : Nat, w < 2 ∧ m0 % 2 = (w : Int) := ⟨(m0 % 2).toNat, by omega, by omega⟩
      rw [ew]
      refine Z.r_cut (fun σ H11 => ∃ wd : Nat, σ = [some (.ref a), some (.ref d0), some (.ref pb), some (.ref ph), some (.ref pp), some (.ref pr), some (.int z), some (.ref d), some (.int w), some (.int wd), x10, x11, x12] ∧ H11 = H10) ?_ ?_
      · wtm_at "e"
        refine Z.r_ixL (Z.sq_l hd) (v := .int m0) rfl ?_
        wtm_at "e"
        with_reducible refine Z.i_2 (fun h => ?_) (fun h => ?_)
        · wtm_at "e"
          refine Z.r_ixL (Z.sq_l hd) (v := .int m1) rfl ?_
          wtm_at "e"
          refine ⟨(m1 % 9).toNat, ?_, rfl⟩
          rw [show (((m1 % 9).toNat : Nat) : Int) = m1 % 9 by omega]
        · wtm_at "e"
          refine ⟨(m1 % 33).toNat, ?_, rfl⟩
          rw [show (((m1 % 33).toNat : Nat) : Int) = m1 % 33 by omega]
      rintro σ H11 ⟨wd, rfl, rfl⟩
      refine Z.r_cut (fun σ H12 => ∃ (g : Addr) (s : Str) (n : Int), σ = [some (.ref a), some (.ref d0), some (.ref pb), some (.ref ph), some (.ref pp), some (.ref pr), some (.int z), some (.ref d), some (.int w), some (.int wd), some (.ref g), x11, x12] ∧ RV T.a_BitReader H12 pb ph pp pr r t t bs ∧ H12 p = some (.lst (ms.map V.int)) ∧ H12 g = some (.tup [.str s, .int n]) ∧ ((bs.length < t w + wd ∧ s = "error" ∧ n = (bs.length : Nat)) ∨ (t w + wd ≤ bs.length ∧ s = "value" ∧ n = (valN ((bs.drop (t w)).take wd) : Nat)))) ?_ ?_
      · wtm_at "e"
        refine Z.r_ixL (Z.sq_l rv10.hp) (atI_nat (two_at (fun j => V.int (t j : Nat)) hw)) ?_
        wtm_at "e"
        refine ⟨pb, bs, t w, wd, rfl, rv10.hb, lk, rv10.l w hw, fun h e H12 s12 ne he => ?_, fun h e H12 s12 ne he => ?_⟩
        · exact ⟨e, _, _, rfl, rv10.same s12, s12 _ _ hp10, he, .inl ⟨h, rfl, rfl⟩⟩
        · exact ⟨e, _, _, rfl, rv10.same s12, s12 _ _ hp10, he, .inr ⟨h, rfl, rfl⟩⟩
      clear rv10 hp10
      rintro σ H12 ⟨g, s, n, rfl, rv12, hp12, hg, hc⟩
      refine Z.r_cut (fun σ H13 => ∃ (e : Addr) (u : Nat → Nat), σ = [some (.ref a), some (.ref d0), some (.ref pb), some (.ref ph), some (.ref pp), some (.ref pr), some (.int z), some (.ref d), some (.int w), some (.int wd), some (.ref g), some (.ref e), x12] ∧ RV T.a_BitReader H13 pb ph pp pr r t u bs ∧ H13 p = some (.lst (ms.map V.int)) ∧ H13 g = some (.tup [.str s, .int n]) ∧ H13 e = some (.tup [.str s, .int n]) ∧ ((s = "error" ∧ u = t) ∨ (t w + wd ≤ bs.length ∧ s = "value" ∧ u = put2 t w (t w + wd)))) ?_ ?_
      · wtm_at "e"
        refine Z.r_ixL (Z.sq_l rv12.hr) (atI_nat (two_at (fun j => V.ref (r j)) hw)) ?_
        wtm_at "e"
        refine ⟨r w, ph, bs, t w, wd, rfl, rv12.A w hw, rv12.hh, lk, rv12.l w hw, fun h e H13 s13 ne he => ?_, fun h e H13 k13 w13 ne he => ?_⟩
        · rcases hc with ⟨_, rfl, rfl⟩ | ⟨h', _⟩
          · exact ⟨e, t, rfl, rv12.same s13, s13 _ _ hp12, s13 _ _ hg, he, .inl ⟨rfl, rfl⟩⟩
          · omega
        · rcases hc with ⟨h', _⟩ | ⟨_, rfl, rfl⟩
          · omega
          · obtain ⟨dx, hrw⟩ := rv12.A w hw
            exact ⟨e, _, rfl, rv12.moved hw k13 w13, k13 _ _ hp12 (ne_of hp12 hrw (by intro z; cases z)), k13 _ _ hg (ne_of hg hrw (by intro z; cases z)), he, .inr ⟨h, rfl, rfl⟩⟩
      clear hc rv12 hp12 hg
      rintro σ H13 ⟨e, u, rfl, rv13, hp13, hg, he, hc⟩
      have oks : PyData.strOk s = true := by
        rcases hc with ⟨rfl, _⟩ | ⟨_, rfl, _⟩
        · exact ok_err
        · exact ok_val
      wtm_at "e"
      refine Z.r_neT oks (Z.sq_t he) (Z.sq_t hg) ?_
      wtm_at "e"
      refine Z.r_ixT (Z.sq_t he) (v := .int n) rfl ?_
      wtm_at "e"
      refine ⟨n, rfl, ?_⟩
      wtm_at "e"
      refine Z.r_cut (fun σ H14 => ∃ (t' : Nat → Nat), σ = [some (.ref a), some (.ref d0), some (.ref pb), some (.ref ph), some (.ref pp), some (.ref pr), some (.int z), some (.ref d), some (.int w), some (.int wd), some (.ref g), some (.ref e), x12] ∧ RV T.a_BitReader H14 pb ph pp pr r t' t' bs ∧ H14 p = some (.lst (ms.map V.int))) ?_ ?_
      · wtm_at "e"
        refine Z.r_ixT (Z.sq_t hg) (v := .str s) rfl ?_
        wtm_at "e"
        rcases hc with ⟨rfl, rfl⟩ | ⟨h, rfl, rfl⟩
        · with_reducible refine Z.i_df ne_err ?_
          wtm_at "e"
          exact ⟨_, rfl, rv13, hp13⟩
        · with_reducible refine Z.i_dt rfl ?_
          wtm_at "e"
          refine Z.r_ixL (Z.sq_l rv13.hp) (atI_nat (two_at (fun j => V.int (t j : Nat)) hw)) ?_
          wtm_at "e"
          refine Z.r_setL rv13.hp (j := w) rfl (by show w < 2; exact hw) ?_
          have eset : ([V.int (t 0 : Nat), V.int (t 1 : Nat)] : List V).set w (.int ((t w : Nat) + (wd : Nat) : Int)) = [.int (put2 t w (t w + wd) 0 : Nat), .int (put2 t w (t w + wd) 1 : Nat)] := by
            rw [← Int.natCast_add, two_set (fun j => V.int (t j : Nat)) hw, put2_int]
          rw [eset]
          exact ⟨_, rfl, rv13.placed h, (upd_ne npp9).trans hp13⟩
      clear hc rv13 hp13 hg he
      rintro σ H14 ⟨t', rfl, rv, hp⟩
      wtm_at "e"
      refine Z.rng_go 2 rfl ⟨by decide, by decide⟩ (fun i σ H15 => ∃ (x12 : Option V), σ = [some (.ref a), some (.ref d0), some (.ref pb), some (.ref ph), some (.ref pp), some (.ref pr), some (.int z), some (.ref d), some (.int w), some (.int wd), some (.ref g), some (.ref e), x12] ∧ H15 = H14) ⟨_, rfl, rfl⟩ ?_ ?_
      · rintro j σ H15 hj ⟨x12, rfl, rfl⟩
        obtain ⟨dx, hrj⟩ := rv.A j hj
        wtm_at "e"
        refine Z.r_ixL (Z.sq_l rv.hr) (atI_nat (two_at (fun j => V.ref (r j)) hj)) ?_
        wtm_at "e"
        refine Z.r_objP hrj (no_m a_1 a_2) ?_
        wtm_at "e"
        refine ⟨r j, ph, bs, t' j, rfl, rv.A j hj, rv.hh, lk, ?_⟩
        wtm_at "e"
        refine Z.r_ixL (Z.sq_l rv.hp) (atI_nat (two_at (fun j => V.int (t' j : Nat)) hj)) ?_
        wtm_at "e"
        with_reducible refine Z.i_df (not_not_intro rfl) ?_
        wtm_at "e"
        refine Z.r_ixL (Z.sq_l rv.hr) (atI_nat (two_at (fun j => V.ref (r j)) hj)) ?_
        wtm_at "e"
        refine Z.r_objP hrj (no_m l_1 l_2) ?_
        wtm_at "e"
        refine ⟨r j, ph, bs, t' j, rfl, rv.A j hj, rv.hh, lk, ?_⟩
        have hbb := rv.hb
        wtm_at "e"
        rw [nv_len]
        refine Z.r_ixL (Z.sq_l rv.hp) (atI_nat (two_at (fun j => V.int (t' j : Nat)) hj)) ?_
        wtm_at "e"
        with_reducible refine Z.i_df (not_not_intro rfl) ?_
        wtm_at "e"
        exact ⟨_, rfl, rfl⟩
      · rintro σ H15 ⟨x12, rfl, rfl⟩
        exact ⟨_, _, _, _, _, _, _, r, t', rfl, rv, hp⟩
    · rintro σ H8 ⟨x6, x7, x8, x9, x10, x11, x12, r, t, rfl, rv, hp⟩
      wtm_at "e"
      refine Z.r_eqL (ns := bs.map (fun c : Nat => (c : Int))) (by rw [← nv_int]; exact Z.sq_l rv.hh) (by rw [← nv_int]; exact Z.sq_l rv.hb) ?_
      exact q _
end
theorem all_mk {l : PySem.W.OpenLaw} {w : World} {K : PySem.W.Frag} {h : Heap} {mg : Str → Option Value} {fa : Addr} (X : K.In h) (G : h.Ns mainGlobals mg) (hfa : mg "law" = some (.ref fa))
    {f0 : Addr} {od0 an0 : Option Addr} {sl0 : Array (Option Value)} {oc0 kV0 dc0 pm0 cd0 ct0 : Value}
    {f1 : Addr} {od1 an1 : Option Addr} {sl1 : Array (Option Value)} {oc1 kV1 dc1 pm1 cd1 ct1 : Value}
    {DT1 : Addr} {doc1 : Value} {dod1 : Option Addr} {dit1 : Array Value} {dn1 : Nat} {dsl1 : Array (Option Value)}
    {f2 : Addr} {od2 an2 : Option Addr} {sl2 : Array (Option Value)} {oc2 kV2 dc2 pm2 cd2 ct2 : Value}
    {f3 : Addr} {od3 an3 : Option Addr} {sl3 : Array (Option Value)} {oc3 kV3 dc3 pm3 cd3 ct3 : Value}
    {f4 : Addr} {od4 an4 : Option Addr} {sl4 : Array (Option Value)} {oc4 kV4 dc4 pm4 cd4 ct4 : Value}
    {f5 : Addr} {od5 an5 : Option Addr} {sl5 : Array (Option Value)} {oc5 kV5 dc5 pm5 cd5 ct5 : Value}
    {f6 : Addr} {od6 an6 : Option Addr} {sl6 : Array (Option Value)} {oc6 kV6 dc6 pm6 cd6 ct6 : Value}
    {f7 : Addr} {od7 an7 : Option Addr} {sl7 : Array (Option Value)} {oc7 kV7 dc7 pm7 cd7 ct7 : Value}
    {f8 : Addr} {od8 an8 : Option Addr} {sl8 : Array (Option Value)} {oc8 kV8 dc8 pm8 cd8 ct8 : Value}
    {f9 : Addr} {od9 an9 : Option Addr} {sl9 : Array (Option Value)} {oc9 kV9 dc9 pm9 cd9 ct9 : Value}
    {f10 : Addr} {od10 an10 : Option Addr} {sl10 : Array (Option Value)} {oc10 kV10 dc10 pm10 cd10 ct10 : Value}
    {f11 : Addr} {od11 an11 : Option Addr} {sl11 : Array (Option Value)} {oc11 kV11 dc11 pm11 cd11 ct11 : Value}
    {C_BitReader : Addr}
    {C_DotfieldError : Addr}
    {C_InvalidCount : Addr}
    {C_Truncated : Addr}
    {nm_Truncated q_Truncated : Str} {N_Truncated : Addr} {bs_Truncated bm_Truncated : List Value} {sn_Truncated : List Str} {sub_Truncated : List Value} {ab_Truncated : Bool} {col_Truncated : Option Bool} {dd_Truncated : Option Addr} {e0_Truncated e1_Truncated e3_Truncated e5_Truncated : Option Value} {et_Truncated : Tok}
    (aC_BitReader : PySem.W.nsIn K mainGlobals "BitReader" = some (some (.ref C_BitReader)))
    (aC_DotfieldError : PySem.W.nsIn K mainGlobals "DotfieldError" = some (some (.ref C_DotfieldError)))
    (aC_InvalidCount : PySem.W.nsIn K mainGlobals "InvalidCount" = some (some (.ref C_InvalidCount)))
    (aC_Truncated : PySem.W.nsIn K mainGlobals "Truncated" = some (some (.ref C_Truncated)))
    (a0 : PySem.W.findIn K (.ref C_DotfieldError) "__init__" = some (some (.ref f0)))
    (i0 : PySem.W.isFn K (.ref f0) = true)
    (l0 : K.lookup f0 = some ⟨oc0, od0, .func (PySem.W.fnOf "__init__" "DotfieldError.__init__" (defArgs s_DotfieldError___init__) (defBody s_DotfieldError___init__) (defScope s_DotfieldError___init__) .none kV0 dc0 pm0 an0 cd0 ct0), sl0⟩)
    (c0 : PySem.W.codeIn K cd0 "DotfieldError.__init__" = true) (k0 : PySem.W.keepIn K (.ref f0) = true)
    (a1 : PySem.W.findIn K (.ref C_BitReader) "__init__" = some (some (.ref f1)))
    (i1 : PySem.W.isFn K (.ref f1) = true)
    (l1 : K.lookup f1 = some ⟨oc1, od1, .func (PySem.W.fnOf "__init__" "BitReader.__init__" (defArgs s_BitReader___init__) (defBody s_BitReader___init__) (defScope s_BitReader___init__) (.ref DT1) kV1 dc1 pm1 an1 cd1 ct1), sl1⟩)
    (dl1 : K.lookup DT1 = some ⟨doc1, dod1, .seq dit1 dn1, dsl1⟩) (dv1 : Z.valsOk dit1 [(.int 0)] = true)
    (c1 : PySem.W.codeIn K cd1 "BitReader.__init__" = true) (k1 : PySem.W.keepIn K (.ref f1) = true)
    (a2 : PySem.W.findIn K (.ref C_BitReader) "left" = some (some (.ref f2)))
    (i2 : PySem.W.isFn K (.ref f2) = true)
    (l2 : K.lookup f2 = some ⟨oc2, od2, .func (PySem.W.fnOf "left" "BitReader.left" (defArgs s_BitReader_left) (defBody s_BitReader_left) (defScope s_BitReader_left) .none kV2 dc2 pm2 an2 cd2 ct2), sl2⟩)
    (c2 : PySem.W.codeIn K cd2 "BitReader.left" = true) (k2 : PySem.W.keepIn K (.ref f2) = true)
    (a3 : PySem.W.findIn K (.ref C_BitReader) "at" = some (some (.ref f3)))
    (i3 : PySem.W.isFn K (.ref f3) = true)
    (l3 : K.lookup f3 = some ⟨oc3, od3, .func (PySem.W.fnOf "at" "BitReader.at" (defArgs s_BitReader_at) (defBody s_BitReader_at) (defScope s_BitReader_at) .none kV3 dc3 pm3 an3 cd3 ct3), sl3⟩)
    (c3 : PySem.W.codeIn K cd3 "BitReader.at" = true) (k3 : PySem.W.keepIn K (.ref f3) = true)
    (a4 : PySem.W.nsIn K mainGlobals "value_of" = some (some (.ref f4)))
    (l4 : K.lookup f4 = some ⟨oc4, od4, .func (PySem.W.fnOf "value_of" "value_of" (defArgs s_value_of) (defBody s_value_of) (defScope s_value_of) .none kV4 dc4 pm4 an4 cd4 ct4), sl4⟩)
    (c4 : PySem.W.codeIn K cd4 "value_of" = true) (k4 : PySem.W.keepIn K (.ref f4) = true)
    (a5 : PySem.W.findIn K (.ref C_BitReader) "read" = some (some (.ref f5)))
    (i5 : PySem.W.isFn K (.ref f5) = true)
    (l5 : K.lookup f5 = some ⟨oc5, od5, .func (PySem.W.fnOf "read" "BitReader.read" (defArgs s_BitReader_read) (defBody s_BitReader_read) (defScope s_BitReader_read) .none kV5 dc5 pm5 an5 cd5 ct5), sl5⟩)
    (c5 : PySem.W.codeIn K cd5 "BitReader.read" = true) (k5 : PySem.W.keepIn K (.ref f5) = true)
    (a6 : PySem.W.nsIn K mainGlobals "_law_draw" = some (some (.ref f6)))
    (l6 : K.lookup f6 = some ⟨oc6, od6, .func (PySem.W.fnOf "_law_draw" "_law_draw" (defArgs s__law_draw) (defBody s__law_draw) (defScope s__law_draw) .none kV6 dc6 pm6 an6 cd6 ct6), sl6⟩)
    (c6 : PySem.W.codeIn K cd6 "_law_draw" = true) (k6 : PySem.W.keepIn K (.ref f6) = true)
    (a7 : PySem.W.nsIn K mainGlobals "_law_is_integer" = some (some (.ref f7)))
    (l7 : K.lookup f7 = some ⟨oc7, od7, .func (PySem.W.fnOf "_law_is_integer" "_law_is_integer" (defArgs s__law_is_integer) (defBody s__law_is_integer) (defScope s__law_is_integer) .none kV7 dc7 pm7 an7 cd7 ct7), sl7⟩)
    (c7 : PySem.W.codeIn K cd7 "_law_is_integer" = true) (k7 : PySem.W.keepIn K (.ref f7) = true)
    (a8 : PySem.W.nsIn K mainGlobals "_law_cell" = some (some (.ref f8)))
    (l8 : K.lookup f8 = some ⟨oc8, od8, .func (PySem.W.fnOf "_law_cell" "_law_cell" (defArgs s__law_cell) (defBody s__law_cell) (defScope s__law_cell) .none kV8 dc8 pm8 an8 cd8 ct8), sl8⟩)
    (c8 : PySem.W.codeIn K cd8 "_law_cell" = true) (k8 : PySem.W.keepIn K (.ref f8) = true)
    (a9 : PySem.W.nsIn K mainGlobals "_law_due" = some (some (.ref f9)))
    (l9 : K.lookup f9 = some ⟨oc9, od9, .func (PySem.W.fnOf "_law_due" "_law_due" (defArgs s__law_due) (defBody s__law_due) (defScope s__law_due) .none kV9 dc9 pm9 an9 cd9 ct9), sl9⟩)
    (c9 : PySem.W.codeIn K cd9 "_law_due" = true) (k9 : PySem.W.keepIn K (.ref f9) = true)
    (a10 : PySem.W.nsIn K mainGlobals "_law_read" = some (some (.ref f10)))
    (l10 : K.lookup f10 = some ⟨oc10, od10, .func (PySem.W.fnOf "_law_read" "_law_read" (defArgs s__law_read) (defBody s__law_read) (defScope s__law_read) .none kV10 dc10 pm10 an10 cd10 ct10), sl10⟩)
    (c10 : PySem.W.codeIn K cd10 "_law_read" = true) (k10 : PySem.W.keepIn K (.ref f10) = true)
    (a11 : PySem.W.nsIn K mainGlobals "law" = some (some (.ref f11)))
    (l11 : K.lookup f11 = some ⟨oc11, od11, .func (PySem.W.fnOf "law" "law" (defArgs s_law) (defBody s_law) (defScope s_law) .none kV11 dc11 pm11 an11 cd11 ct11), sl11⟩)
    (c11 : PySem.W.codeIn K cd11 "law" = true) (k11 : PySem.W.keepIn K (.ref f11) = true)
    (pg_BitReader : PySem.W.plainGet K C_BitReader Str.empty = true) (hd_BitReader : PySem.W.hasDictIn K C_BitReader = true) (po_BitReader : PySem.W.plainOver K C_BitReader = true) (sa_BitReader : PySem.W.findIn K (.ref C_BitReader) "__setattr__" = some (some (.builtin "object.__setattr__"))) (mk_BitReader : PySem.W.makesIn K C_BitReader = true) (kc_BitReader : PySem.W.keepIn K (.ref C_BitReader) = true)
    (no_BitReader__bits : PySem.W.findIn K (.ref C_BitReader) "_bits" = some none)
    (no_BitReader__position : PySem.W.findIn K (.ref C_BitReader) "_position" = some none)
    (lk_Truncated : K.lookup C_Truncated = some (excClassObj nm_Truncated q_Truncated C_Truncated N_Truncated bs_Truncated bm_Truncated true sn_Truncated sub_Truncated ab_Truncated col_Truncated dd_Truncated e0_Truncated e1_Truncated (some (.str "Truncated" et_Truncated)) e3_Truncated e5_Truncated "ValueError.__new__"))
    (rv_Truncated : PySem.HandSPX.refsVE bm_Truncated = true)
    (sa_Truncated : PySem.W.findIn K (.ref C_Truncated) "__setattr__" = some (some (.builtin "object.__setattr__")))
    (ga_Truncated : PySem.W.findIn K (.ref C_Truncated) "__getattribute__" = some (some (.builtin "BaseException.__getattribute__")))
    (gg_Truncated : PySem.W.findIn K (.ref C_Truncated) "__getattr__" = some none)
    (cl_Truncated : PySem.W.findIn K (.ref C_Truncated) "__class__" = some (some (.builtin "object.__class__")))
    (sb_Truncated : PySem.W.subIn K (.ref C_Truncated) (.type "BaseException") = some true) (ty_Truncated : PySem.W.typeIn K (.ref C_Truncated) = some (.type "type")) (kc_Truncated : PySem.W.keepIn K (.ref C_Truncated) = true) (hd_Truncated : PySem.W.hasDictIn K C_Truncated = true) (ob_Truncated : PySem.W.mroIn K C_Truncated (.type "object") = some true) (rd_Truncated : PySem.W.readsIn K C_Truncated (.type "type") = true)
    (fd_Truncated : PySem.W.findCls K (.ref C_Truncated) (.type "type") "__name__" = some (.get (.builtin "getset_descriptor.__get__") (.builtin "type.__name__") (.ref C_Truncated) (.type "type")))
    (ic_Truncated : PySem.W.findIn K (.ref C_Truncated) "__init__" = some (some (.ref f0)))
    (no_Truncated_place : PySem.W.findIn K (.ref C_Truncated) "place" = some none)
    (no_Truncated_name : PySem.W.findIn K (.ref C_Truncated) "name" = some none)
    (xs_Truncated_DotfieldError : PySem.W.subIn K (.ref C_DotfieldError) (.type "BaseException") = some true) (xh_Truncated_DotfieldError : PySem.W.hasDictIn K C_DotfieldError = true) (xt_Truncated_DotfieldError : PySem.W.typeIn K (.ref C_DotfieldError) = some (.type "type")) (xu_Truncated_DotfieldError : PySem.W.subIn K (.ref C_Truncated) (.ref C_DotfieldError) = some true)
    (ki_Truncated_Truncated : PySem.W.kitOne K (.ref C_Truncated) (.ref C_Truncated) = some true)
    (ki_Truncated_InvalidCount : PySem.W.kitOne K (.ref C_Truncated) (.ref C_InvalidCount) = some false)
    (ki_Truncated_ValueError : PySem.W.kitOne K (.ref C_Truncated) (.type "ValueError") = some true)
    (gt_ : PySem.W.specialIn K (.builtin "object.__class__") "__get__" = some (some (.builtin "getset_descriptor.__get__"))) (tk_ : PySem.W.takesIn K (.builtin "object.__class__") = some true)
    (it_DotfieldError___init__ : PySem.W.typeIn K (.ref f0) = some (.type "function"))
    (z_len : PySem.W.nsIn K mainGlobals "len" = some none)
    (z_range : PySem.W.nsIn K mainGlobals "range" = some none)
    (z_int : PySem.W.nsIn K mainGlobals "int" = some none)
    (z_isinstance : PySem.W.nsIn K mainGlobals "isinstance" = some none)
    (z_bool : PySem.W.nsIn K mainGlobals "bool" = some none)
    (z_ValueError : PySem.W.nsIn K mainGlobals "ValueError" = some none)
    (z_list : PySem.W.nsIn K mainGlobals "list" = some none) :
    ∃ fd : FuncData, (∀ (s : Shared) (v : Value), BindsTo s fd ⟨[v], []⟩ [("script", v)]) ∧ ∀ base : Heap, K.In base → base.Ns mainGlobals mg → FnOk l.prog w K mg base CX0 5 fa fd pl_law (sp_law K) := by
  have e := hfa.symm.trans (PySem.W.mg_of X G a11)
  cases e
  have FD1 := Z.fund_mk (st := s_BitReader___init__) l1 c1 k1 (Z.dfl_of dl1 dv1 (by simp))
  obtain ⟨U1_0, V1_0, B1_0⟩ := FD1.binds1 (ps := pl_BitReader___init__) 3 1 (by simp) (by rfl) (fun T kV doc pm an cdv ct us its hu hi => match us, its, hu, hi with | [_, _, _], [_], _, _ => ⟨_, rfl, rfl⟩)
  obtain ⟨U1_1, V1_1, B1_1⟩ := FD1.binds1 (ps := pl_BitReader___init__) 2 0 (by simp) (by rfl) (fun T kV doc pm an cdv ct us its hu hi => match us, its, hu, hi with | [_, _], [_], _, _ => ⟨_, rfl, rfl⟩)
  cases V1_0
  let T : Top K mg := {
    a_DotfieldError___init__ := f0,
    d_DotfieldError___init__ := _,
    F_DotfieldError___init__ := fun_mk (st := s_DotfieldError___init__) l0 c0 k0,
    b_DotfieldError___init__ := (fun_mk (st := s_DotfieldError___init__) l0 c0 k0).binds (ps := pl_DotfieldError___init__) fun _ _ _ _ _ _ us hl => match us, hl with | [_, _], _ => rfl,
    a_BitReader___init__ := f1,
    d_BitReader___init__ := _,
    u_BitReader___init___1 := U1_1,
    v_BitReader___init___1 := V1_1,
    b_BitReader___init___1 := B1_1,
    F_BitReader___init__ := FD1,
    b_BitReader___init__ := B1_0,
    a_BitReader_left := f2,
    d_BitReader_left := _,
    F_BitReader_left := fun_mk (st := s_BitReader_left) l2 c2 k2,
    b_BitReader_left := (fun_mk (st := s_BitReader_left) l2 c2 k2).binds (ps := pl_BitReader_left) fun _ _ _ _ _ _ us hl => match us, hl with | [_], _ => rfl,
    a_BitReader_at := f3,
    d_BitReader_at := _,
    F_BitReader_at := fun_mk (st := s_BitReader_at) l3 c3 k3,
    b_BitReader_at := (fun_mk (st := s_BitReader_at) l3 c3 k3).binds (ps := pl_BitReader_at) fun _ _ _ _ _ _ us hl => match us, hl with | [_], _ => rfl,
    a_value_of := f4,
    d_value_of := _,
    F_value_of := fun_mk (st := s_value_of) l4 c4 k4,
    b_value_of := (fun_mk (st := s_value_of) l4 c4 k4).binds (ps := pl_value_of) fun _ _ _ _ _ _ us hl => match us, hl with | [_], _ => rfl,
    g_value_of := PySem.W.mg_of X G a4,
    a_BitReader_read := f5,
    d_BitReader_read := _,
    F_BitReader_read := fun_mk (st := s_BitReader_read) l5 c5 k5,
    b_BitReader_read := (fun_mk (st := s_BitReader_read) l5 c5 k5).binds (ps := pl_BitReader_read) fun _ _ _ _ _ _ us hl => match us, hl with | [_, _], _ => rfl,
    a__law_draw := f6,
    d__law_draw := _,
    F__law_draw := fun_mk (st := s__law_draw) l6 c6 k6,
    b__law_draw := (fun_mk (st := s__law_draw) l6 c6 k6).binds (ps := pl__law_draw) fun _ _ _ _ _ _ us hl => match us, hl with | [_, _, _], _ => rfl,
    g__law_draw := PySem.W.mg_of X G a6,
    a__law_is_integer := f7,
    d__law_is_integer := _,
    F__law_is_integer := fun_mk (st := s__law_is_integer) l7 c7 k7,
    b__law_is_integer := (fun_mk (st := s__law_is_integer) l7 c7 k7).binds (ps := pl__law_is_integer) fun _ _ _ _ _ _ us hl => match us, hl with | [_], _ => rfl,
    g__law_is_integer := PySem.W.mg_of X G a7,
    a__law_cell := f8,
    d__law_cell := _,
    F__law_cell := fun_mk (st := s__law_cell) l8 c8 k8,
    b__law_cell := (fun_mk (st := s__law_cell) l8 c8 k8).binds (ps := pl__law_cell) fun _ _ _ _ _ _ us hl => match us, hl with | [_, _], _ => rfl,
    g__law_cell := PySem.W.mg_of X G a8,
    a__law_due := f9,
    d__law_due := _,
    F__law_due := fun_mk (st := s__law_due) l9 c9 k9,
    b__law_due := (fun_mk (st := s__law_due) l9 c9 k9).binds (ps := pl__law_due) fun _ _ _ _ _ _ us hl => match us, hl with | [_, _, _], _ => rfl,
    g__law_due := PySem.W.mg_of X G a9,
    a__law_read := f10,
    d__law_read := _,
    F__law_read := fun_mk (st := s__law_read) l10 c10 k10,
    b__law_read := (fun_mk (st := s__law_read) l10 c10 k10).binds (ps := pl__law_read) fun _ _ _ _ _ _ us hl => match us, hl with | [_, _], _ => rfl,
    g__law_read := PySem.W.mg_of X G a10,
    a_law := fa,
    d_law := _,
    F_law := fun_mk (st := s_law) l11 c11 k11,
    b_law := (fun_mk (st := s_law) l11 c11 k11).binds (ps := pl_law) fun _ _ _ _ _ _ us hl => match us, hl with | [_], _ => rfl,
    g_law := PySem.W.mg_of X G a11,
    a_BitReader := C_BitReader,
    cl_BitReader := ⟨pg_BitReader, hd_BitReader, po_BitReader, sa_BitReader⟩,
    g_BitReader := PySem.W.mg_of X G aC_BitReader,
    M_BitReader := ⟨mk_BitReader, a1, i1, kc_BitReader⟩,
    me_BitReader_left := ⟨a2, i2, k2⟩,
    me_BitReader_at := ⟨a3, i3, k3⟩,
    me_BitReader_read := ⟨a5, i5, k5⟩,
    no_BitReader__bits := no_BitReader__bits,
    no_BitReader__position := no_BitReader__position,
    a_DotfieldError := C_DotfieldError,
    g_DotfieldError := PySem.W.mg_of X G aC_DotfieldError,
    a_InvalidCount := C_InvalidCount,
    g_InvalidCount := PySem.W.mg_of X G aC_InvalidCount,
    a_Truncated := C_Truncated,
    g_Truncated := PySem.W.mg_of X G aC_Truncated,
    ox_Truncated := ⟨⟨_, _, _, _, _, _, _, _, _, _, _, _, _, _, _, lk_Truncated, rv_Truncated⟩, sa_Truncated, sb_Truncated, ty_Truncated, kc_Truncated⟩,
    ec_Truncated := ⟨ga_Truncated, gg_Truncated, sb_Truncated, hd_Truncated, cl_Truncated, gt_, tk_, ob_Truncated⟩,
    nm_Truncated := ⟨⟨_, _, _, _, _, _, #[_, _, _], lk_Truncated⟩, rd_Truncated, fd_Truncated⟩,
    xf_Truncated := ⟨ga_Truncated, gg_Truncated, sb_Truncated, hd_Truncated⟩,
    ic_Truncated := ic_Truncated,
    no_Truncated_place := no_Truncated_place,
    no_Truncated_name := no_Truncated_name,
    ex_Truncated_DotfieldError := PySem.W.exm_ref xs_Truncated_DotfieldError xh_Truncated_DotfieldError xt_Truncated_DotfieldError xu_Truncated_DotfieldError,
    ki_Truncated_Truncated := ki_Truncated_Truncated,
    ki_Truncated_InvalidCount := ki_Truncated_InvalidCount,
    ki_Truncated_ValueError := ki_Truncated_ValueError,
    it_DotfieldError___init__ := it_DotfieldError___init__,
    n_len := PySem.W.mg_none_of X G z_len,
    n_range := PySem.W.mg_none_of X G z_range,
    n_int := PySem.W.mg_none_of X G z_int,
    n_isinstance := PySem.W.mg_none_of X G z_isinstance,
    n_bool := PySem.W.mg_none_of X G z_bool,
    n_ValueError := PySem.W.mg_none_of X G z_ValueError,
    n_list := PySem.W.mg_none_of X G z_list }
  exact ⟨T.d_law, fun s v => .of_eq rfl, fun base _ _ => ok_law T⟩
end M_k02
open PySem PySem.W PyProof.Rows
set_option maxRecDepth 100000 in
set_option maxHeartbeats 0 in
theorem PySem.Challenge.cw_dotfield_k02_bits_read_holds : PySem.Challenge.rw_dotfield_k02_bits_read.Holds := by
  w_on; o_law; k_head; (case hw => w_witness2)
  k_fill
  refine L2.walk_of (l := PySem.Challenge.rw_dotfield_k02_bits_read) (n := 63) (k := 5) (x := "script") (CX := fun _ => L2.CX0) (sp := fun w => M_k02.sp_law _) rfl (by decide) rfl ⟨rfl, by decide, by decide⟩ (fun w h Y => PySem.W.kIn_of Y) ?F (fun _ _ a ns hl _ hS => ⟨a, ns, rfl, hS, hl, fun _ => rfl⟩) (fun _ _ _ _ _ h => h)
  case F =>
    intro w mg fa h KX G hmg
    refine' M_k02.all_mk KX G hmg ?aC_BitReader ?aC_DotfieldError ?aC_InvalidCount ?aC_Truncated ?a0 ?i0 ?l0 ?c0 ?k0 ?a1 ?i1 ?l1 ?dl1 ?dv1 ?c1 ?k1 ?a2 ?i2 ?l2 ?c2 ?k2 ?a3 ?i3 ?l3 ?c3 ?k3 ?a4 ?l4 ?c4 ?k4 ?a5 ?i5 ?l5 ?c5 ?k5 ?a6 ?l6 ?c6 ?k6 ?a7 ?l7 ?c7 ?k7 ?a8 ?l8 ?c8 ?k8 ?a9 ?l9 ?c9 ?k9 ?a10 ?l10 ?c10 ?k10 ?a11 ?l11 ?c11 ?k11 ?pg_BitReader ?hd_BitReader ?po_BitReader ?sa_BitReader ?mk_BitReader ?kc_BitReader ?no_BitReader__bits ?no_BitReader__position ?lk_Truncated ?rv_Truncated ?sa_Truncated ?ga_Truncated ?gg_Truncated ?cl_Truncated ?sb_Truncated ?ty_Truncated ?kc_Truncated ?hd_Truncated ?ob_Truncated ?rd_Truncated ?fd_Truncated ?ic_Truncated ?no_Truncated_place ?no_Truncated_name ?xs_Truncated_DotfieldError ?xh_Truncated_DotfieldError ?xt_Truncated_DotfieldError ?xu_Truncated_DotfieldError ?ki_Truncated_Truncated ?ki_Truncated_InvalidCount ?ki_Truncated_ValueError ?gt_ ?tk_ ?it_DotfieldError___init__ ?z_len ?z_range ?z_int ?z_isinstance ?z_bool ?z_ValueError ?z_list
    (case aC_BitReader => k_is)
    (case aC_DotfieldError => k_is)
    (case aC_InvalidCount => k_is)
    (case aC_Truncated => k_is)
    (case a0 => k_is)
    (case i0 => k_is)
    (case l0 => k_is)
    (case c0 => k_is)
    (case k0 => k_is)
    (case a1 => k_is)
    (case i1 => k_is)
    (case l1 => k_is)
    (case dl1 => k_is)
    (case dv1 => decide +kernel)
    (case c1 => k_is)
    (case k1 => k_is)
    (case a2 => k_is)
    (case i2 => k_is)
    (case l2 => k_is)
    (case c2 => k_is)
    (case k2 => k_is)
    (case a3 => k_is)
    (case i3 => k_is)
    (case l3 => k_is)
    (case c3 => k_is)
    (case k3 => k_is)
    (case a4 => k_is)
    (case l4 => k_is)
    (case c4 => k_is)
    (case k4 => k_is)
    (case a5 => k_is)
    (case i5 => k_is)
    (case l5 => k_is)
    (case c5 => k_is)
    (case k5 => k_is)
    (case a6 => k_is)
    (case l6 => k_is)
    (case c6 => k_is)
    (case k6 => k_is)
    (case a7 => k_is)
    (case l7 => k_is)
    (case c7 => k_is)
    (case k7 => k_is)
    (case a8 => k_is)
    (case l8 => k_is)
    (case c8 => k_is)
    (case k8 => k_is)
    (case a9 => k_is)
    (case l9 => k_is)
    (case c9 => k_is)
    (case k9 => k_is)
    (case a10 => k_is)
    (case l10 => k_is)
    (case c10 => k_is)
    (case k10 => k_is)
    (case a11 => k_is)
    (case l11 => k_is)
    (case c11 => k_is)
    (case k11 => k_is)
    (case pg_BitReader => k_is)
    (case hd_BitReader => k_is)
    (case po_BitReader => k_is)
    (case sa_BitReader => k_is)
    (case mk_BitReader => k_is)
    (case kc_BitReader => k_is)
    (case no_BitReader__bits => k_is)
    (case no_BitReader__position => k_is)
    (case lk_Truncated => k_is)
    (case rv_Truncated => decide +kernel)
    (case sa_Truncated => k_is)
    (case ga_Truncated => k_is)
    (case gg_Truncated => k_is)
    (case cl_Truncated => k_is)
    (case sb_Truncated => k_is)
    (case ty_Truncated => k_is)
    (case kc_Truncated => k_is)
    (case hd_Truncated => k_is)
    (case ob_Truncated => k_is)
    (case rd_Truncated => k_is)
    (case fd_Truncated => k_is)
    (case ic_Truncated => k_is)
    (case no_Truncated_place => k_is)
    (case no_Truncated_name => k_is)
    (case xs_Truncated_DotfieldError => k_is)
    (case xh_Truncated_DotfieldError => k_is)
    (case xt_Truncated_DotfieldError => k_is)
    (case xu_Truncated_DotfieldError => first | k_is | rfl | decide +kernel)
    (case ki_Truncated_Truncated => first | k_is | rfl | decide +kernel)
    (case ki_Truncated_InvalidCount => first | k_is | rfl | decide +kernel)
    (case ki_Truncated_ValueError => first | k_is | rfl | decide +kernel)
    (case gt_ => k_is)
    (case tk_ => k_is)
    (case it_DotfieldError___init__ => k_is)
    (case z_len => k_is)
    (case z_range => k_is)
    (case z_int => k_is)
    (case z_isinstance => k_is)
    (case z_bool => k_is)
    (case z_ValueError => k_is)
    (case z_list => k_is)

import PyProof.Rows.All
import Wide.All
import OpenK.AllK
import Wide.FinOn
import HandS.ForMost
import HandS.IsInst
import HandS.Codes
import HandS.Style
import PySem.Challenge.RW_dotfield_k35_any_bits_as_segments
import HandS.ForExc
import HandS.ExcInit
import HandS.ExcField
import HandS.ExcIs
import KE.KTypeName
import HandS.CallSlots
import HandS.Defaults
import HandS.Strs
import HandS.More
import HandS.Small
import HandS.WideBits
import KE.KxField
import HandS.TryMany
set_option Elab.async false
set_option linter.all false
set_option maxRecDepth 100000
namespace Z
open PySem PySem.Spec PyProof.Rows L2
/-! ## Readings, step by step (own words over the layer) -/
section
variable {K : PySem.W.Frag} {D : Ends} {H : Hp} {Q : VK} {R : Bool → Hp → Prop}
theorem r_seq {σ : L2.St} {t u : TS} (h : t { D with nx := u D } σ H) : tSeq t u D σ H := h
theorem r_asg {σ : L2.St} {te : TE} {g : TG} (h : te σ H fun x H1 => g x σ H1 D.nx) : tAsg te g D σ H := h
theorem r_gname {σ σ2 : L2.St} {i : Nat} {v : V} {k : L2.St → Hp → Prop} (hs : σ.set i (some v) = σ2) (h : k σ2 H) : gName i v σ H k := by
  subst hs; exact h
theorem r_ret {σ : L2.St} {te : TE} (h : te σ H D.rt) : tRet te D σ H := h
theorem r_retN {σ : L2.St} (h : D.rt .non H) : tRetN D σ H := h
theorem r_drop {σ : L2.St} {te : TE} (h : te σ H fun _ H1 => D.nx σ H1) : tDrop te D σ H := h
theorem r_next {σ : L2.St} (h : D.nx σ H) : tNext D σ H := h
theorem r_brk {σ : L2.St} (h : D.bk σ H) : tBreak D σ H := h
theorem r_cnt {σ : L2.St} (h : D.ct σ H) : tCont D σ H := h
theorem r_if {σ : L2.St} {c : TT} {t u : TS} (h : c σ H fun b H1 => if b = true then t D σ H1 else u D σ H1) : tIfS c t u D σ H := h
theorem r_ifE {σ : L2.St} {c : TT} {t u : TE} (h : c σ H fun b H1 => if b = true then t σ H1 Q else u σ H1 Q) : tIf c t u σ H Q := h
theorem r_test {σ : L2.St} {t : TE} (h : t σ H fun x H' => ∃ k, x = .bl k ∧ R k H') : tTest t σ H R := h
theorem r_tB {σ : L2.St} {t : TE} (h : t σ H fun x H' => ∃ k, x = .bl k ∧ R k H') : tB t σ H R := h
theorem r_bl {b : Bool} {P : Bool → Prop} (q : P b) : ∃ k, V.bl b = V.bl k ∧ P k := ⟨b, rfl, q⟩
theorem r_and {σ : L2.St} {t u : TT} (h : t σ H fun c H1 => if c = true then u σ H1 R else R false H1) : tAnd t u σ H R := h
theorem r_or {σ : L2.St} {t u : TT} (h : t σ H fun c H1 => if c = true then R true H1 else u σ H1 R) : tOr t u σ H R := h
theorem r_not {σ : L2.St} {t : TT} (h : t σ H fun c H1 => R (!c) H1) : tNot t σ H R := h
theorem r_andV {σ : L2.St} {ta tb : TE} (h : ta σ H fun x H1 => ∃ c, x = .bl c ∧ if c = true then tb σ H1 Q else Q (.bl false) H1) : tAndV ta tb σ H Q := h
theorem r_orV {σ : L2.St} {ta tb : TE} (h : ta σ H fun x H1 => ∃ c, x = .bl c ∧ if c = true then Q (.bl true) H1 else tb σ H1 Q) : tOrV ta tb σ H Q := h
theorem r_notV {σ : L2.St} {ta : TE} (h : ta σ H fun x H1 => ∃ c, x = .bl c ∧ Q (.bl (!c)) H1) : tNotV ta σ H Q := h
theorem r_v0 {v : V} {l : List (Option V)} (q : Q v H) : tVar 0 (some v :: l) H Q := ⟨v, rfl, q⟩
theorem r_vS {i : Nat} {x : Option V} {l : List (Option V)} (q : tVar i l H Q) : tVar (i + 1) (x :: l) H Q := q
theorem r_v1 {a : Option V} {v : V} {l : List (Option V)} (q : Q v H) : tVar 1 (a :: some v :: l) H Q := ⟨v, rfl, q⟩
theorem r_v2 {a b : Option V} {v : V} {l : List (Option V)} (q : Q v H) : tVar 2 (a :: b :: some v :: l) H Q := ⟨v, rfl, q⟩
theorem r_var {σ : L2.St} {i : Nat} {v : V} (h : σ[i]? = some (some v)) (q : Q v H) : tVar i σ H Q := ⟨v, h, q⟩
theorem r_c {σ : L2.St} {v : V} (q : Q v H) : tC v σ H Q := q
theorem r_op {σ : L2.St} {r : R2} {ta tb : TE} (h : ta σ H fun x H1 => tb σ H1 fun y H2 => r x y H2 Q) : tOp r ta tb σ H Q := h
theorem r_un {σ : L2.St} {r : V → Hp → VK → Prop} {ta : TE} (h : ta σ H fun x H1 => r x H1 Q) : tUn r ta σ H Q := h
theorem r_chain {σ : L2.St} {r r' : R2} {ta tb tc : TE} (h : ta σ H fun x H1 => tb σ H1 fun y H2 => r x y H2 fun z H3 => ∃ k, z = .bl k ∧ (if k = true then tc σ H3 fun w' H4 => r' y w' H4 Q else Q (.bl false) H3)) : tChain r r' ta tb tc σ H Q := h
theorem r_nil {σ : L2.St} {P : List V → Hp → Prop} (q : P [] H) : tNil σ H P := q
theorem r_cons {σ : L2.St} {ta : TE} {tr : TA} {P : List V → Hp → Prop} (h : ta σ H fun x H1 => tr σ H1 fun xs H2 => P (x :: xs) H2) : tCons ta tr σ H P := h
theorem r_I0 {g : Int → Int → V} {i j : Int} (q : Q (g i j) H) : rI0 g (.int i) (.int j) H Q := ⟨i, j, rfl, rfl, q⟩
theorem r_I {C : Int → Int → Prop} {g : Int → Int → V} {i j : Int} (c : C i j) (q : Q (g i j) H) : rI C g (.int i) (.int j) H Q := ⟨i, j, rfl, rfl, c, q⟩
theorem r_U {g : Int → V} {i : Int} (q : Q (g i) H) : rU g (.int i) H Q := ⟨i, rfl, q⟩
/-- a truth that is not looked into -/
def dB (p : Prop) [Decidable p] : Bool := decide p
theorem dB_t {p : Prop} [Decidable p] (h : p) : dB p = true := decide_eq_true h
theorem dB_f {p : Prop} [Decidable p] (h : ¬ p) : dB p = false := decide_eq_false h
theorem dB_of {p : Prop} [Decidable p] (h : dB p = true) : p := of_decide_eq_true h
theorem dB_iff {p q : Prop} [Decidable p] [Decidable q] (h : p ↔ q) : dB p = dB q := by
  by_cases c : p
  · rw [dB_t c, dB_t (h.mp c)]
  · rw [dB_f c, dB_f (fun z => c (h.mpr z))]
theorem r_lt {i j : Int} (q : Q (.bl (dB (i < j))) H) : rI0 (fun i j => .bl (decide (i < j))) (.int i) (.int j) H Q := ⟨i, j, rfl, rfl, q⟩
theorem r_le {i j : Int} (q : Q (.bl (dB (i ≤ j))) H) : rI0 (fun i j => .bl (decide (i ≤ j))) (.int i) (.int j) H Q := ⟨i, j, rfl, rfl, q⟩
theorem r_gt {i j : Int} (q : Q (.bl (dB (j < i))) H) : rI0 (fun i j => .bl (decide (j < i))) (.int i) (.int j) H Q := ⟨i, j, rfl, rfl, q⟩
theorem r_ge {i j : Int} (q : Q (.bl (dB (j ≤ i))) H) : rI0 (fun i j => .bl (decide (j ≤ i))) (.int i) (.int j) H Q := ⟨i, j, rfl, rfl, q⟩
theorem eq_int (i j : Int) : decide (V.int i = V.int j) = dB (i = j) := by
  unfold dB
  by_cases h : i = j
  · subst h; simp
  · simp [h]
theorem eq_bl (i j : Bool) : decide (V.bl i = V.bl j) = dB (i = j) := by
  unfold dB
  by_cases h : i = j
  · subst h; simp
  · simp [h]
theorem eq_str (i j : Str) : decide (V.str i = V.str j) = dB (i = j) := by
  unfold dB
  by_cases h : i = j
  · subst h; simp
  · simp [h]
theorem not_dB (p : Prop) [Decidable p] : (!dB p) = dB (¬ p) := by
  by_cases h : p
  · rw [dB_t h, dB_f (fun z => z h)]; rfl
  · rw [dB_f h, dB_t h]; rfl
theorem r_eqI {i j : Int} (q : Q (.bl (dB (i = j))) H) : rEq (.int i) (.int j) H Q := ⟨rfl, by rw [eq_int]; exact q⟩
theorem r_neI {i j : Int} (q : Q (.bl (dB (¬ i = j))) H) : rNe (.int i) (.int j) H Q := ⟨rfl, by rw [eq_int, not_dB]; exact q⟩
theorem r_eqB {i j : Bool} (q : Q (.bl (dB (i = j))) H) : rEq (.bl i) (.bl j) H Q := ⟨rfl, by rw [eq_bl]; exact q⟩
theorem r_neB {i j : Bool} (q : Q (.bl (dB (¬ i = j))) H) : rNe (.bl i) (.bl j) H Q := ⟨rfl, by rw [eq_bl, not_dB]; exact q⟩
theorem r_eqS {i j : Str} (q : Q (.bl (dB (i = j))) H) : rEq (.str i) (.str j) H Q := ⟨rfl, by rw [eq_str]; exact q⟩
theorem r_neS {i j : Str} (q : Q (.bl (dB (¬ i = j))) H) : rNe (.str i) (.str j) H Q := ⟨rfl, by rw [eq_str, not_dB]; exact q⟩
/-! tests that are decided -/
theorem i_t {A B : Prop} (h : A) : if true = true then A else B := h
theorem i_f {A B : Prop} (h : B) : if false = true then A else B := by rw [if_neg Bool.false_ne_true]; exact h
theorem i_2 {p : Prop} [Decidable p] {A B : Prop} (h1 : p → A) (h2 : ¬ p → B) : if dB p = true then A else B := by
  by_cases h : p
  · rw [dB_t h]; exact h1 h
  · rw [dB_f h, if_neg Bool.false_ne_true]; exact h2 h
theorem i_2n {p : Prop} [Decidable p] {A B : Prop} (h1 : ¬ p → A) (h2 : p → B) : if (!dB p) = true then A else B := by
  by_cases h : p
  · rw [dB_t h]; exact i_f (h2 h)
  · rw [dB_f h]; exact i_t (h1 h)
theorem i_2b {b : Bool} {A B : Prop} (h1 : b = true → A) (h2 : b = false → B) : if b = true then A else B := by
  cases b with
  | true => exact h1 rfl
  | false => exact i_f (h2 rfl)
theorem i_dt {p : Prop} [Decidable p] {A B : Prop} (h : p) (a : A) : if dB p = true then A else B := by rw [dB_t h]; exact a
theorem i_df {p : Prop} [Decidable p] {A B : Prop} (h : ¬ p) (b : B) : if dB p = true then A else B := by rw [dB_f h, if_neg Bool.false_ne_true]; exact b
theorem i_dtn {p : Prop} [Decidable p] {A B : Prop} (h : ¬ p) (a : A) : if (!dB p) = true then A else B := by rw [dB_f h]; exact a
theorem i_dfn {p : Prop} [Decidable p] {A B : Prop} (h : p) (b : B) : if (!dB p) = true then A else B := by rw [dB_t h]; exact i_f b
theorem i_nt {A B : Prop} (h : A) : if (!false) = true then A else B := h
theorem i_nf {A B : Prop} (h : B) : if (!true) = true then A else B := i_f h
theorem kx {CX : CXT} {P : Program} {w : World} {K : PySem.W.Frag} {mg : Str → Option Value} {base : Heap} {N : List Str} {qual : Str} {scope : Scope} {f : Addr} {cd : Value} {A : Around} {outer : List Env} {s : Shared} {H : Hp} {E : XK} :
    (cxOf CX P w K mg base N qual scope f cd A outer s H E).K = K := rfl
/-! heaps -/
theorem s_at {H H' : Hp} {a : Addr} {o : HO} (s : Same H H') (h : H a = some o) : H' a = some o := s _ _ h
theorem s_upd {H : Hp} {p : Addr} {o : HO} (h : H p = none) : Same H (upd H p o) := fun b x e => by
  rw [upd_ne (ne_of_none e h)]
  exact e
/-- an object that H does not know may change -/
theorem s_mut {H H' : Hp} {p : Addr} {o : HO} (e : Same H H') (h : H p = none) : Same H (upd H' p o) := fun a u ha => by
  rw [upd_ne (ne_of_none ha h)]
  exact e a u ha
theorem s_back {H H' : Hp} {p : Addr} (e : Same H H') (h : H' p = none) : H p = none := e.free h
theorem ne_of' {H : Hp} {a b : Addr} {o : HO} (h' : H b = none) (h : H a = some o) : a ≠ b := ne_of_none h h'
theorem ne_new {H H' : Hp} {a b : Addr} {o : HO} (h : H a = some o) (s : Same H H') (h' : H' b = none) : a ≠ b := ne_of_none (s _ _ h) h'
theorem sq_l {H : Hp} {a : Addr} {xs : List V} (h : H a = some (.lst xs)) : SqL K H a xs := .inl (.inl h)
theorem sq_t {H : Hp} {a : Addr} {xs : List V} (h : H a = some (.tup xs)) : SqT K H a xs := .inl (.inl h)
theorem s_sq {H H' : Hp} {a : Addr} {xs : List V} (s : Same H H') (h : SqL K H a xs) : SqL K H' a xs := s.seq h
theorem s_rd {H H' : Hp} {a : Addr} {u : HO} (e : Same H H') (h : Rd H a u) : Rd H' a u := by
  rcases h with h | ⟨o, h⟩
  · exact .inl (e a _ h)
  · exact .inr ⟨o, e a _ h⟩
theorem s_st {H H' : Hp} {a : Addr} {xs : List V} (s : Same H H') (h : SqT K H a xs) : SqT K H' a xs := by
  rcases h with h | h
  · exact .inl (s_rd s h)
  · exact .inr h
theorem sz {n : Nat} (h : n ≤ 100000) : n ≤ sizeLine := Nat.le_trans h (by decide)
theorem szl {n : Nat} (h : n < 100000) : n < sizeLine := Nat.lt_of_lt_of_le h (by decide)
/-! lists -/
theorem r_ixL {p : Addr} {xs : List V} {i : Int} {v : V} (h : SqL K H p xs) (ha : atI xs i = some v) (q : Q v H) : rIxL K (.ref p) (.int i) H Q := ⟨p, xs, i, v, rfl, rfl, h, ha, q⟩
theorem r_ixT {p : Addr} {xs : List V} {i : Int} {v : V} (h : SqT K H p xs) (ha : atI xs i = some v) (q : Q v H) : rIxT K (.ref p) (.int i) H Q := ⟨p, xs, i, v, rfl, rfl, h, ha, q⟩
theorem r_new {σ : L2.St} {t : TA} (h : t σ H fun xs H1 => xs.length ≤ sizeLine ∧ ∀ p, H1 p = none → Q (.ref p) (upd H1 p (.lst xs))) : tLst t σ H Q := h
theorem r_tup {σ : L2.St} {t : TA} (h : t σ H fun xs H1 => xs.length ≤ sizeLine ∧ ∀ p, H1 p = none → Q (.ref p) (upd H1 p (.tup xs))) : tTup t σ H Q := h
theorem r_cb {σ : L2.St} {r : List V → Hp → VK → Prop} {t : TA} (h : t σ H fun vs H1 => r vs H1 Q) : tCB r t σ H Q := h
theorem r_call {σ : L2.St} {sp : Sp} {E : XK} {t : TA} (h : t σ H fun vs H1 => sp (vs ++ []) H1 Q E) : tCall sp [] E t σ H Q := h
theorem r_bm {σ : L2.St} {T : String} {r : V → List V → Hp → VK → Prop} {to : TE} {t : TA} (h : to σ H fun x H1 => tyV K T x H1 ∧ t σ H1 fun xs H2 => r x xs H2 Q) : tBM K T r to t σ H Q := h
theorem ty_lst {x : Addr} {xs : List V} {P : Prop} (h : SqL K H x xs) (q : P) : tyV K "list" (.ref x) H ∧ P := ⟨Or.inl ⟨rfl, xs, h⟩, q⟩
theorem r_append {l : Addr} {xs : List V} {y : V} (h : H l = some (.lst xs)) (z : xs.length < sizeLine) (q : Q .non (upd H l (.lst (xs ++ [y])))) : rAppend (.ref l) [y] H Q := ⟨l, xs, y, rfl, rfl, h, z, q⟩
def cLen (K : PySem.W.Frag) : List V → Hp → VK → Prop := fun xs H Q => ∃ p ys, xs = [.ref p] ∧ (SqL K H p ys ∨ SqT K H p ys) ∧ Q (.int ys.length) H
theorem call_len {X : Cx} : CallR X (.builtin "len") (cLen X.K) := call_len_seq
theorem r_lenL {p : Addr} {ys : List V} (h : SqL K H p ys) (q : Q (.int ys.length) H) : cLen K [.ref p] H Q := ⟨p, ys, rfl, .inl h, q⟩
theorem r_lenT {p : Addr} {ys : List V} (h : SqT K H p ys) (q : Q (.int ys.length) H) : cLen K [.ref p] H Q := ⟨p, ys, rfl, .inr h, q⟩
def cInt : List V → Hp → VK → Prop := fun xs H Q => (∃ i, xs = [.int i] ∧ Q (.int i) H) ∨ ∃ k, xs = [.bl k] ∧ Q (.int (if k then 1 else 0)) H
theorem call_int {X : Cx} : CallR X (.type "int") cInt := call_int1
theorem r_int {i : Int} (q : Q (.int i) H) : cInt [.int i] H Q := .inl ⟨i, rfl, q⟩
def cIsN : R2 := fun x y H Q => y = .non ∧ Q (.bl (decide (x = .non))) H
def cNotN : R2 := fun x y H Q => y = .non ∧ Q (.bl (!decide (x = .non))) H
theorem op_isN {X : Cx} : OpR X (compareOp .Is) cIsN := L2.op_isN
theorem op_notN {X : Cx} : OpR X (compareOp .IsNot) cNotN := L2.op_notN
theorem r_notN {x : V} (q : Q (.bl (!dB (x = .non))) H) : cNotN x .non H Q := ⟨rfl, q⟩
theorem r_isN {x : V} (q : Q (.bl (dB (x = .non))) H) : cIsN x .non H Q := ⟨rfl, q⟩
theorem r_isi {x c : V} {t u : Value} {b : Bool} (h1 : ClsV c u) (h2 : TyX K H x t) (h3 : PySem.W.kitOne K t u = some b) (q : Q (.bl b) H) : rIsi K [x, c] H Q := ⟨x, c, t, u, b, rfl, h1, h2, h3, q⟩
/-! slices -/
theorem r_sl {σ : L2.St} {r : V → Option Int → Option Int → Hp → VK → Prop} {te : TE} {tl th : TO} (h : te σ H fun x H1 => tl σ H1 fun l H2 => th σ H2 fun u H3 => r x l u H3 Q) : tSl r te tl th σ H Q := h
theorem r_noPart {σ : L2.St} {P : Option Int → Hp → Prop} (q : P none H) : tNoPart σ H P := q
theorem r_part {σ : L2.St} {t : TE} {P : Option Int → Hp → Prop} (h : t σ H fun x H1 => ∃ i, x = .int i ∧ P (some i) H1) : tPart t σ H P := h
theorem r_pint {i : Int} {P : Int → Prop} (q : P i) : ∃ j, V.int i = .int j ∧ P j := ⟨i, rfl, q⟩
theorem r_slL {a : Addr} {xs : List V} {lo hi : Option Int} (h : SqL K H a xs) (q : ∀ p, H p = none → Q (.ref p) (upd H p (.lst (cutV xs lo hi)))) : rSlL K (.ref a) lo hi H Q := ⟨a, xs, rfl, h, q⟩
theorem r_aug {σ σ2 : L2.St} {i : Nat} {te : TE} {ti : TIp} {x : V} (hx : σ[i]? = some (some x)) (h : te σ H fun y H1 => ti x y H1 fun z H2 => D.nx (σ.set i (some z)) H2) : tAug i te ti D σ H := ⟨x, hx, h⟩
/-! loops -/
theorem for_lst {σ : L2.St} {tl : TE} {g : TG} {tb : TS} (h : tl σ H fun x H1 => ∃ a, x = .ref a ∧ (∃ xs, SqL K H1 a xs) ∧ ∃ W : Nat → Nat → L2.St → Hp → Prop, (∃ m, W 0 m σ H1) ∧ ∀ i m σ H, W i m σ H →
  ((Itl K a).stop i H ∧ D.nx σ H) ∨ ((Itl K a).go i H ∧ ∃ N : L2.St → Hp → Prop, (∀ σ' H', N σ' H' → ∃ m', m' < m ∧ W (i + 1) m' σ' H') ∧ ∀ x H', (Itl K a).yld i H x H' → g x σ H' fun σ2 H2 => tb { D with nx := N, ct := N, bk := D.nx } σ2 H2)) : tFor (iList K tl) g tb D σ H := h
theorem lst_go {σ : L2.St} {a : Addr} {xs : List V} {g : TG} {tb : TS} (hs0 : SqL K H a xs) (Pv : Nat → L2.St → Hp → Prop) (h0 : Pv 0 σ H) (hl : ∀ i σ H, i ≤ xs.length → Pv i σ H → SqL K H a xs)
    (hs : ∀ i x σ H, xs[i]? = some x → Pv i σ H → g x σ H fun σ2 H2 => tb { D with nx := Pv (i + 1), ct := Pv (i + 1), bk := D.nx } σ2 H2) (hd : ∀ σ H, Pv xs.length σ H → D.nx σ H) :
    ∃ a', V.ref a = .ref a' ∧ (∃ xs, SqL K H a' xs) ∧ ∃ W : Nat → Nat → L2.St → Hp → Prop, (∃ m, W 0 m σ H) ∧ ∀ i m σ H, W i m σ H →
  ((Itl K a').stop i H ∧ D.nx σ H) ∨ ((Itl K a').go i H ∧ ∃ N : L2.St → Hp → Prop, (∀ σ' H', N σ' H' → ∃ m', m' < m ∧ W (i + 1) m' σ' H') ∧ ∀ x H', (Itl K a').yld i H x H' → g x σ H' fun σ2 H2 => tb { D with nx := N, ct := N, bk := D.nx } σ2 H2) :=
  ⟨a, rfl, ⟨xs, hs0⟩, for_list (K := K) Pv h0 hl hs hd⟩
theorem for_rng {σ : L2.St} {ta : TA} {g : TG} {tb : TS} (h : ta σ H fun vs H1 => ∃ j : Int, vs = [.int j] ∧ -(2 ^ 62) ≤ j ∧ j < 2 ^ 62 ∧ ∃ W : Nat → Nat → L2.St → Hp → Prop, (∃ m, W 0 m σ H1) ∧ ∀ i m σ H, W i m σ H →
  ((Itr 0 j.toNat).stop i H ∧ D.nx σ H) ∨ ((Itr 0 j.toNat).go i H ∧ ∃ N : L2.St → Hp → Prop, (∀ σ' H', N σ' H' → ∃ m', m' < m ∧ W (i + 1) m' σ' H') ∧ ∀ x H', (Itr 0 j.toNat).yld i H x H' → g x σ H' fun σ2 H2 => tb { D with nx := N, ct := N, bk := D.nx } σ2 H2)) : tFor (iRng1 ta) g tb D σ H := h
theorem rng_go {σ : L2.St} {j : Int} {g : TG} {tb : TS} (n : Nat) (hj : j.toNat = n) (hb : -(2 ^ 62) ≤ j ∧ j < 2 ^ 62) (Pv : Nat → L2.St → Hp → Prop) (h0 : Pv 0 σ H)
    (hs : ∀ i σ H, i < n → Pv i σ H → g (.int (i : Nat)) σ H fun σ2 H2 => tb { D with nx := Pv (i + 1), ct := Pv (i + 1), bk := D.nx } σ2 H2) (hd : ∀ σ H, Pv n σ H → D.nx σ H) :
    ∃ j' : Int, [V.int j] = [.int j'] ∧ -(2 ^ 62) ≤ j' ∧ j' < 2 ^ 62 ∧ ∃ W : Nat → Nat → L2.St → Hp → Prop, (∃ m, W 0 m σ H) ∧ ∀ i m σ H, W i m σ H →
  ((Itr 0 j'.toNat).stop i H ∧ D.nx σ H) ∨ ((Itr 0 j'.toNat).go i H ∧ ∃ N : L2.St → Hp → Prop, (∀ σ' H', N σ' H' → ∃ m', m' < m ∧ W (i + 1) m' σ' H') ∧ ∀ x H', (Itr 0 j'.toNat).yld i H x H' → g x σ H' fun σ2 H2 => tb { D with nx := N, ct := N, bk := D.nx } σ2 H2) := by
  subst hj
  refine ⟨j, rfl, hb.1, hb.2, for_range (lo := 0) Pv h0 (fun i σ H hi p => ?_) hd⟩
  have e : (0 : Int) + (i : Nat) = (i : Nat) := Int.zero_add _
  rw [e]
  exact hs i σ H hi p
theorem for_rng2 {σ : L2.St} {ta : TA} {g : TG} {tb : TS} (h : ta σ H fun vs H1 => ∃ i j : Int, vs = [.int i, .int j] ∧ (-(2 ^ 62) ≤ i ∧ i < 2 ^ 62 ∧ -(2 ^ 62) ≤ j ∧ j < 2 ^ 62) ∧ ∃ W : Nat → Nat → L2.St → Hp → Prop, (∃ m, W 0 m σ H1) ∧ ∀ k m σ H, W k m σ H →
  ((Itr i (j - i).toNat).stop k H ∧ D.nx σ H) ∨ ((Itr i (j - i).toNat).go k H ∧ ∃ N : L2.St → Hp → Prop, (∀ σ' H', N σ' H' → ∃ m', m' < m ∧ W (k + 1) m' σ' H') ∧ ∀ x H', (Itr i (j - i).toNat).yld k H x H' → g x σ H' fun σ2 H2 => tb { D with nx := N, ct := N, bk := D.nx } σ2 H2)) : tFor (iRng2 ta) g tb D σ H := h
theorem rng_go2 {σ : L2.St} {a j : Int} {g : TG} {tb : TS} (n : Nat) (hj : (j - a).toNat = n) (hb : -(2 ^ 62) ≤ a ∧ a < 2 ^ 62 ∧ -(2 ^ 62) ≤ j ∧ j < 2 ^ 62) (Pv : Nat → L2.St → Hp → Prop) (h0 : Pv 0 σ H)
    (hs : ∀ i σ H, i < n → Pv i σ H → g (.int (a + (i : Nat))) σ H fun σ2 H2 => tb { D with nx := Pv (i + 1), ct := Pv (i + 1), bk := D.nx } σ2 H2) (hd : ∀ σ H, Pv n σ H → D.nx σ H) :
    ∃ i' j' : Int, [V.int a, V.int j] = [.int i', .int j'] ∧ (-(2 ^ 62) ≤ i' ∧ i' < 2 ^ 62 ∧ -(2 ^ 62) ≤ j' ∧ j' < 2 ^ 62) ∧ ∃ W : Nat → Nat → L2.St → Hp → Prop, (∃ m, W 0 m σ H) ∧ ∀ k m σ H, W k m σ H →
  ((Itr i' (j' - i').toNat).stop k H ∧ D.nx σ H) ∨ ((Itr i' (j' - i').toNat).go k H ∧ ∃ N : L2.St → Hp → Prop, (∀ σ' H', N σ' H' → ∃ m', m' < m ∧ W (k + 1) m' σ' H') ∧ ∀ x H', (Itr i' (j' - i').toNat).yld k H x H' → g x σ H' fun σ2 H2 => tb { D with nx := N, ct := N, bk := D.nx } σ2 H2) := by
  subst hj
  exact ⟨a, j, rfl, hb, for_range (lo := a) Pv h0 hs hd⟩
end
theorem for_enum {D : Ends} {H : Hp} {K : PySem.W.Frag} {σ : L2.St} {ta : TA} {g : TG} {tb : TS} (h : ta σ H fun vs H1 => ∃ a xs, vs = [.ref a] ∧ SqL K H1 a xs ∧ ∃ W : Nat → Nat → L2.St → Hp → Prop, (∃ m, W 0 m σ H1) ∧ ∀ i m σ H, W i m σ H →
  ((Ite K a).stop i H ∧ D.nx σ H) ∨ ((Ite K a).go i H ∧ ∃ N : L2.St → Hp → Prop, (∀ σ' H', N σ' H' → ∃ m', m' < m ∧ W (i + 1) m' σ' H') ∧ ∀ x H', (Ite K a).yld i H x H' → g x σ H' fun σ2 H2 => tb { D with nx := N, ct := N, bk := D.nx } σ2 H2)) : tFor (iEnum K ta) g tb D σ H := h
theorem enum_go {D : Ends} {H : Hp} {K : PySem.W.Frag} {σ : L2.St} {a : Addr} {xs : List V} {g : TG} {tb : TS} (hs0 : SqL K H a xs) (Pv : Nat → L2.St → Hp → Prop) (h0 : Pv 0 σ H) (hl : ∀ i σ H, i ≤ xs.length → Pv i σ H → SqL K H a xs)
    (hs : ∀ i x σ H T, xs[i]? = some x → Pv i σ H → H T = none → g (.ref T) σ (upd H T (.tup [.int (i : Nat), x])) fun σ2 H2 => tb { D with nx := Pv (i + 1), ct := Pv (i + 1), bk := D.nx } σ2 H2) (hd : ∀ σ H, Pv xs.length σ H → D.nx σ H) :
    ∃ a' xs', [V.ref a] = [.ref a'] ∧ SqL K H a' xs' ∧ ∃ W : Nat → Nat → L2.St → Hp → Prop, (∃ m, W 0 m σ H) ∧ ∀ i m σ H, W i m σ H →
  ((Ite K a').stop i H ∧ D.nx σ H) ∨ ((Ite K a').go i H ∧ ∃ N : L2.St → Hp → Prop, (∀ σ' H', N σ' H' → ∃ m', m' < m ∧ W (i + 1) m' σ' H') ∧ ∀ x H', (Ite K a').yld i H x H' → g x σ H' fun σ2 H2 => tb { D with nx := N, ct := N, bk := D.nx } σ2 H2) := by
  refine ⟨a, xs, rfl, hs0, fun i m σ H => m = xs.length - i ∧ i ≤ xs.length ∧ Pv i σ H, ⟨xs.length, by simp, Nat.zero_le _, h0⟩, ?_⟩
  rintro i m σ H ⟨rfl, hi, p⟩
  have q := hl i σ H hi p
  by_cases hlt : i < xs.length
  · refine .inr ⟨⟨xs, xs[i], q, by simp [hlt]⟩, Pv (i + 1), fun σ' H' p' => ⟨xs.length - (i + 1), by omega, rfl, hlt, p'⟩, fun x H' y => ?_⟩
    obtain ⟨T, x, rfl, hT, rfl, hx⟩ := y
    exact hs i x σ H T (hx xs q) p hT
  · have e : i = xs.length := by omega
    subst e
    exact .inl ⟨⟨xs, q, Nat.le_refl _⟩, hd σ H p⟩
theorem r_pair {H : Hp} {K : PySem.W.Frag} {σ σ2 : L2.St} {i j : Nat} {T : Addr} {x y : V} {k : L2.St → Hp → Prop} (hT : H T = some (.tup [x, y])) (hs : (σ.set i (some x)).set j (some y) = σ2) (h : k σ2 H) :
    gTup K 2 (gCons (gName i) (gCons (gName j) gNil)) (.ref T) σ H k := by
  subst hs
  exact ⟨T, [x, y], rfl, .inl (.inl hT), rfl, x, [y], rfl, y, [], rfl, rfl, h⟩
theorem r_three {H : Hp} {K : PySem.W.Frag} {σ σ2 : L2.St} {i j l : Nat} {T : Addr} {x y z : V} {k : L2.St → Hp → Prop} (hT : H T = some (.tup [x, y, z])) (hs : ((σ.set i (some x)).set j (some y)).set l (some z) = σ2) (h : k σ2 H) :
    gTup K 3 (gCons (gName i) (gCons (gName j) (gCons (gName l) gNil))) (.ref T) σ H k := by
  subst hs
  exact ⟨T, [x, y, z], rfl, .inl (.inl hT), rfl, x, [y, z], rfl, y, [z], rfl, z, [], rfl, rfl, h⟩
theorem r_gsub {H : Hp} {σ : L2.St} {to ti : TE} {t : TSet} {v : V} {k : L2.St → Hp → Prop} (h : to σ H fun o H1 => ti σ H1 fun i H2 => t o i v H2 fun H3 => k σ H3) : gSub to ti t v σ H k := h
theorem r_setL {H : Hp} {p : Addr} {xs : List V} {k : Int} {j : Nat} {v : V} {Q : Hp → Prop} (hp : H p = some (.lst xs)) (e : k = (j : Int)) (hj : j < xs.length) (q : Q (upd H p (.lst (xs.set j v)))) : rSetL (.ref p) (.int k) v H Q := by
  subst e
  refine ⟨p, xs, (j : Int), j, rfl, rfl, hp, ?_, q⟩
  unfold ixN
  rw [if_pos (by omega), if_pos (by omega), Int.toNat_natCast]
theorem r_rep {H : Hp} {Q : VK} {l : Addr} {k : Int} {v : V} (hl : H l = some (.lst [v])) (h1 : -(2 ^ 63) ≤ k) (h2 : k < 100000) (q : ∀ p, H p = none → Q (.ref p) (upd H p (.lst (List.replicate k.toNat v)))) : rRep (.ref l) (.int k) H Q := by
  refine ⟨l, k, [v], rfl, rfl, hl, h1, Int.lt_trans h2 (by decide), sz (by show 1 * k.toNat ≤ 100000; omega), fun p hp => ?_⟩
  have e : (List.replicate k.toNat [v]).flatten = List.replicate k.toNat v := by
    generalize k.toNat = n
    induction n with
    | zero => rfl
    | succ n ih => rw [List.replicate_succ, List.flatten_cons, ih, List.replicate_succ]; rfl
  rw [e]
  exact q p hp
theorem r_cat {H : Hp} {Q : VK} {l b : Addr} {xs zs : List V} (hl : H l = some (.lst xs)) (hb : H b = some (.lst zs)) (hz : xs.length + zs.length ≤ 100000) (q : ∀ p, H p = none → Q (.ref p) (upd H p (.lst (xs ++ zs)))) : rCat (.ref l) (.ref b) H Q :=
  ⟨l, b, xs, zs, rfl, rfl, hl, hb, sz hz, q⟩
def cList (K : PySem.W.Frag) : List V → Hp → VK → Prop := fun xs H Q => ∃ p ys, xs = [.ref p] ∧ (SqL K H p ys ∨ SqT K H p ys) ∧ ∀ l, H l = none → Q (.ref l) (upd H l (.lst ys))
theorem call_list {X : Cx} : CallR X (.type "list") (cList X.K) := call_list_of
theorem r_list {H : Hp} {K : PySem.W.Frag} {Q : VK} {p : Addr} {ys : List V} (h : SqL K H p ys) (q : ∀ l, H l = none → Q (.ref l) (upd H l (.lst ys))) : cList K [.ref p] H Q := ⟨p, ys, rfl, .inl h, q⟩
theorem r_intB {H : Hp} {Q : VK} {b : Bool} (q : Q (.int (if b then 1 else 0)) H) : cInt [.bl b] H Q := .inr ⟨b, rfl, q⟩
/-! two lists of ints compared -/
theorem dp_ints {K : PySem.W.Frag} {H : Hp} : ∀ ns : List Int, DpAll K H (ns.map V.int) (ns.map PyData.int)
  | [] => .nil
  | n :: r => .cons (.int n) (dp_ints r)
theorem depth_ints : ∀ ns : List Int, PyData.depthAll (ns.map PyData.int) = 0
  | [] => rfl
  | n :: r => by
    show max 0 (PyData.depthAll (r.map PyData.int)) = 0
    rw [depth_ints r]; rfl
theorem lay_ints : ∀ ns : List Int, PyData.canLayAll0 (ns.map PyData.int) = true
  | [] => rfl
  | n :: r => by
    show (true && PyData.canLayAll0 (r.map PyData.int)) = true
    rw [lay_ints r]; rfl
theorem shaped_ints (ns : List Int) : SeqAt.shaped (.list (ns.map PyData.int)) = true := by
  have h1 : (PyData.list (ns.map PyData.int)).canLay0 = true := lay_ints ns
  have h2 : (PyData.list (ns.map PyData.int)).depth ≤ 64 := by
    show PyData.depthAll (ns.map PyData.int) + 1 ≤ 64
    rw [depth_ints ns]; decide
  unfold SeqAt.shaped
  rw [h1, decide_eq_true h2]; rfl
theorem eqv_ints : ∀ ns : List Int, PyData.eqv (.list (ns.map PyData.int)) (.list (ns.map PyData.int)) = true := by
  intro ns
  unfold PyData.eqv
  induction ns with
  | nil => rfl
  | cons n r ih => simp [PyData.eqvAll, PyData.eqv, ih]
theorem r_eqL {H : Hp} {K : PySem.W.Frag} {Q : VK} {a b : Addr} {ns : List Int} (ha : SqL K H a (ns.map V.int)) (hb : SqL K H b (ns.map V.int)) (q : Q (.bl true) H) : rEqD K (.ref a) (.ref b) H Q :=
  ⟨_, _, .lst ha (dp_ints ns), .lst hb (dp_ints ns), shaped_ints ns, shaped_ints ns, by rw [eqv_ints]; exact q⟩
theorem eqv_ints2 : ∀ ns ms : List Int, PyData.eqv (.list (ns.map PyData.int)) (.list (ms.map PyData.int)) = dB (ns = ms) := by
  intro ns
  induction ns with
  | nil =>
    intro ms
    cases ms with
    | nil => rw [dB_t rfl]; simp [PyData.eqv, PyData.eqvAll]
    | cons m r => rw [dB_f (by simp)]; simp [PyData.eqv, PyData.eqvAll]
  | cons n ns ih =>
    intro ms
    cases ms with
    | nil => rw [dB_f (by simp)]; simp [PyData.eqv, PyData.eqvAll]
    | cons m r =>
      have i2 := ih r
      unfold PyData.eqv at i2
      have e : PyData.eqv (.list ((n :: ns).map PyData.int)) (.list ((m :: r).map PyData.int)) = ((n == m) && PyData.eqv (.list (ns.map PyData.int)) (.list (r.map PyData.int))) := by
        unfold PyData.eqv
        simp [PyData.eqvAll, PyData.eqv]
      rw [e, ih r]
      by_cases h : n = m
      · subst h
        by_cases h2 : ns = r
        · subst h2; rw [dB_t rfl, dB_t rfl]; simp
        · rw [dB_f h2, dB_f (by intro z; injection z with _ z; exact h2 z)]; simp
      · rw [dB_f (p := n :: ns = m :: r) (by intro z; injection z with z _; exact h z)]; simp [h]
theorem r_eqL2 {H : Hp} {K : PySem.W.Frag} {Q : VK} {a b : Addr} {ns ms : List Int} (ha : SqL K H a (ns.map V.int)) (hb : SqL K H b (ms.map V.int)) (q : Q (.bl (dB (ns = ms))) H) : rEqD K (.ref a) (.ref b) H Q :=
  ⟨_, _, .lst ha (dp_ints ns), .lst hb (dp_ints ms), shaped_ints ns, shaped_ints ms, by rw [eqv_ints2]; exact q⟩
theorem r_sum {K : PySem.W.Frag} {H : Hp} {Q : VK} {a : Addr} {ns : List Int} (h : SqL K H a (ns.map V.int)) (q : Q (.int ns.sum) H) : rSum K [.ref a] H Q := ⟨a, ns, rfl, h, q⟩
/-! comprehensions whose elements leave all as it was -/
theorem lc_rng {H : Hp} {Q : VK} {σ : L2.St} {ta : TA} {g : TG} {tt : TT} {te : TE} {vs : List Nat} (h : ta σ H fun ws H1 => ∃ j : Int, ws = [V.int j] ∧ -(2 ^ 62) ≤ j ∧ j < 2 ^ 62 ∧ ∀ D, H1 D = none → ∃ W : Nat → Nat → Hp → Prop, (∃ m, W 0 m (upd H1 D (.lst []))) ∧ ∀ i m H, W i m H →
  ((Itr 0 j.toNat).stop i H ∧ Q (.ref D) H) ∨ ((Itr 0 j.toNat).go i H ∧ ∃ Nx : Hp → Prop, (∀ H', Nx H' → ∃ m', m' < m ∧ W (i + 1) m' H') ∧ ∀ x H', (Itr 0 j.toNat).yld i H x H' → g x (wipe σ vs) H' fun σ2 H2 => wipe σ2 vs = wipe σ vs ∧ tt σ2 H2 fun b H3 =>
    if b = true then te σ2 H3 fun y H4 => ∃ acc, H4 D = some (.lst acc) ∧ acc.length < sizeLine ∧ Nx (upd H4 D (.lst (acc ++ [y]))) else Nx H3)) : tLc (iRng1 ta) g tt te vs σ H Q := h
theorem lc_lst {H : Hp} {K : PySem.W.Frag} {Q : VK} {σ : L2.St} {tl : TE} {g : TG} {tt : TT} {te : TE} {vs : List Nat} (h : tl σ H fun x H1 => ∃ a, x = .ref a ∧ (∃ xs, SqL K H1 a xs) ∧ ∀ D, H1 D = none → ∃ W : Nat → Nat → Hp → Prop, (∃ m, W 0 m (upd H1 D (.lst []))) ∧ ∀ i m H, W i m H →
  ((Itl K a).stop i H ∧ Q (.ref D) H) ∨ ((Itl K a).go i H ∧ ∃ Nx : Hp → Prop, (∀ H', Nx H' → ∃ m', m' < m ∧ W (i + 1) m' H') ∧ ∀ x H', (Itl K a).yld i H x H' → g x (wipe σ vs) H' fun σ2 H2 => wipe σ2 vs = wipe σ vs ∧ tt σ2 H2 fun b H3 =>
    if b = true then te σ2 H3 fun y H4 => ∃ acc, H4 D = some (.lst acc) ∧ acc.length < sizeLine ∧ Nx (upd H4 D (.lst (acc ++ [y]))) else Nx H3)) : tLc (iList K tl) g tt te vs σ H Q := h
theorem lcr_pure {H1 : Hp} {Qd : Addr → Hp → Prop} {σ : L2.St} {te : TE} {vs : List Nat} {sl : Nat} {j : Int} (n : Nat) (f : Nat → V) (hj : j.toNat = n) (hb : -(2 ^ 62) ≤ j ∧ j < 2 ^ 62) (hz : n ≤ 100000) (hw : ∀ v : Option V, wipe ((wipe σ vs).set sl v) vs = wipe σ vs)
    (hs : ∀ i H2, i < n → Same H1 H2 → ∀ k : VK, (∀ H5, Same H2 H5 → k (f i) H5) → te ((wipe σ vs).set sl (some (V.int (i : Nat)))) H2 k)
    (hd : ∀ D H2, H1 D = none → Same H1 H2 → H2 D = some (.lst ((List.range n).map f)) → Qd D H2) :
    ∃ j' : Int, [V.int j] = [V.int j'] ∧ -(2 ^ 62) ≤ j' ∧ j' < 2 ^ 62 ∧ ∀ D, H1 D = none → ∃ W : Nat → Nat → Hp → Prop, (∃ m, W 0 m (upd H1 D (.lst []))) ∧ ∀ i m H, W i m H →
  ((Itr 0 j'.toNat).stop i H ∧ Qd D H) ∨ ((Itr 0 j'.toNat).go i H ∧ ∃ Nx : Hp → Prop, (∀ H', Nx H' → ∃ m', m' < m ∧ W (i + 1) m' H') ∧ ∀ x H', (Itr 0 j'.toNat).yld i H x H' → gName sl x (wipe σ vs) H' fun σ2 H2 => wipe σ2 vs = wipe σ vs ∧ tYes σ2 H2 fun b H3 =>
    if b = true then te σ2 H3 fun y H4 => ∃ acc, H4 D = some (.lst acc) ∧ acc.length < sizeLine ∧ Nx (upd H4 D (.lst (acc ++ [y]))) else Nx H3) := by
  refine ⟨j, rfl, hb.1, hb.2, fun D hD => ?_⟩
  subst hj
  refine lc_range (lo := 0) (fun i H2 => Same H1 H2 ∧ H2 D = some (.lst ((List.range i).map f))) ⟨s_upd hD, upd_same⟩ (fun i H2 hi ⟨s2, hl⟩ => ?_) (fun H2 ⟨s2, hl⟩ => hd D H2 hD s2 hl)
  have e : (0 : Int) + (i : Nat) = (i : Nat) := Int.zero_add _
  rw [e]
  refine ⟨hw _, i_t (B := Same H1 H2 ∧ H2 D = some (.lst ((List.range (i + 1)).map f))) ?_⟩
  refine (hs i H2 hi s2 _ fun H5 s5 => ⟨_, s5 _ _ hl, szl (by rw [List.length_map, List.length_range]; omega), s_mut (s2.trans s5) hD, ?_⟩)
  rw [List.range_succ, List.map_append]
  exact upd_same
theorem lcl_pure {H1 : Hp} {K : PySem.W.Frag} {Qd : Addr → Hp → Prop} {σ : L2.St} {te : TE} {vs : List Nat} {sl : Nat} {a : Addr} {xs : List V} (f : V → V) (hx : SqL K H1 a xs) (hz : xs.length ≤ 100000) (hw : ∀ v : Option V, wipe ((wipe σ vs).set sl v) vs = wipe σ vs)
    (hs : ∀ (i : Nat) x H2, xs[i]? = some x → Same H1 H2 → ∀ k : VK, (∀ H5, Same H2 H5 → k (f x) H5) → te ((wipe σ vs).set sl (some x)) H2 k)
    (hd : ∀ D H2, H1 D = none → Same H1 H2 → H2 D = some (.lst (xs.map f)) → Qd D H2) :
    ∃ a', V.ref a = .ref a' ∧ (∃ xs, SqL K H1 a' xs) ∧ ∀ D, H1 D = none → ∃ W : Nat → Nat → Hp → Prop, (∃ m, W 0 m (upd H1 D (.lst []))) ∧ ∀ i m H, W i m H →
  ((Itl K a').stop i H ∧ Qd D H) ∨ ((Itl K a').go i H ∧ ∃ Nx : Hp → Prop, (∀ H', Nx H' → ∃ m', m' < m ∧ W (i + 1) m' H') ∧ ∀ x H', (Itl K a').yld i H x H' → gName sl x (wipe σ vs) H' fun σ2 H2 => wipe σ2 vs = wipe σ vs ∧ tYes σ2 H2 fun b H3 =>
    if b = true then te σ2 H3 fun y H4 => ∃ acc, H4 D = some (.lst acc) ∧ acc.length < sizeLine ∧ Nx (upd H4 D (.lst (acc ++ [y]))) else Nx H3) := by
  refine ⟨a, rfl, ⟨xs, hx⟩, fun D hD => ?_⟩
  refine lc_list (K := K) (xs := xs) (fun i H2 => Same H1 H2 ∧ H2 D = some (.lst ((xs.take i).map f))) ⟨s_upd hD, upd_same⟩ (fun i H2 _ p => p.1.seq hx) (fun i x H2 hi ⟨s2, hl⟩ => ?_) (fun H2 ⟨s2, hl⟩ => hd D H2 hD s2 (by rw [List.take_length] at hl; exact hl))
  have hlt := (List.getElem?_eq_some_iff.mp hi).1
  refine ⟨hw _, i_t (B := Same H1 H2 ∧ H2 D = some (.lst ((xs.take (i + 1)).map f))) ?_⟩
  refine (hs i x H2 hi s2 _ fun H5 s5 => ⟨_, s5 _ _ hl, szl (by rw [List.length_map, List.length_take]; omega), s_mut (s2.trans s5) hD, ?_⟩)
  rw [List.take_add_one, hi, List.map_append]
  exact upd_same
theorem lcl_idx {H1 : Hp} {K : PySem.W.Frag} {Qd : Addr → Hp → Prop} {σ : L2.St} {te : TE} {vs : List Nat} {sl : Nat} {a : Addr} {xs : List V} (f : Nat → V) (hx : SqL K H1 a xs) (hz : xs.length ≤ 100000) (hw : ∀ v : Option V, wipe ((wipe σ vs).set sl v) vs = wipe σ vs)
    (hs : ∀ (i : Nat) x H2, xs[i]? = some x → Same H1 H2 → ∀ k : VK, (∀ H5, Same H2 H5 → k (f i) H5) → te ((wipe σ vs).set sl (some x)) H2 k)
    (hd : ∀ D H2, H1 D = none → Same H1 H2 → H2 D = some (.lst ((List.range xs.length).map f)) → Qd D H2) :
    ∃ a', V.ref a = .ref a' ∧ (∃ xs, SqL K H1 a' xs) ∧ ∀ D, H1 D = none → ∃ W : Nat → Nat → Hp → Prop, (∃ m, W 0 m (upd H1 D (.lst []))) ∧ ∀ i m H, W i m H →
  ((Itl K a').stop i H ∧ Qd D H) ∨ ((Itl K a').go i H ∧ ∃ Nx : Hp → Prop, (∀ H', Nx H' → ∃ m', m' < m ∧ W (i + 1) m' H') ∧ ∀ x H', (Itl K a').yld i H x H' → gName sl x (wipe σ vs) H' fun σ2 H2 => wipe σ2 vs = wipe σ vs ∧ tYes σ2 H2 fun b H3 =>
    if b = true then te σ2 H3 fun y H4 => ∃ acc, H4 D = some (.lst acc) ∧ acc.length < sizeLine ∧ Nx (upd H4 D (.lst (acc ++ [y]))) else Nx H3) := by
  refine ⟨a, rfl, ⟨xs, hx⟩, fun D hD => ?_⟩
  refine lc_list (K := K) (xs := xs) (fun i H2 => Same H1 H2 ∧ H2 D = some (.lst ((List.range i).map f))) ⟨s_upd hD, upd_same⟩ (fun i H2 _ p => p.1.seq hx) (fun i x H2 hi ⟨s2, hl⟩ => ?_) (fun H2 ⟨s2, hl⟩ => hd D H2 hD s2 hl)
  have hlt := (List.getElem?_eq_some_iff.mp hi).1
  refine ⟨hw _, i_t (B := Same H1 H2 ∧ H2 D = some (.lst ((List.range (i + 1)).map f))) ?_⟩
  refine (hs i x H2 hi s2 _ fun H5 s5 => ⟨_, s5 _ _ hl, szl (by rw [List.length_map, List.length_range]; omega), s_mut (s2.trans s5) hD, ?_⟩)
  rw [List.range_succ, List.map_append]
  exact upd_same
theorem lc_rng2 {H : Hp} {Q : VK} {σ : L2.St} {ta : TA} {g : TG} {tt : TT} {te : TE} {vs : List Nat} (h : ta σ H fun ws H1 => ∃ a j : Int, ws = [V.int a, V.int j] ∧ (-(2 ^ 62) ≤ a ∧ a < 2 ^ 62 ∧ -(2 ^ 62) ≤ j ∧ j < 2 ^ 62) ∧ ∀ D, H1 D = none → ∃ W : Nat → Nat → Hp → Prop, (∃ m, W 0 m (upd H1 D (.lst []))) ∧ ∀ i m H, W i m H →
  ((Itr a (j - a).toNat).stop i H ∧ Q (.ref D) H) ∨ ((Itr a (j - a).toNat).go i H ∧ ∃ Nx : Hp → Prop, (∀ H', Nx H' → ∃ m', m' < m ∧ W (i + 1) m' H') ∧ ∀ x H', (Itr a (j - a).toNat).yld i H x H' → g x (wipe σ vs) H' fun σ2 H2 => wipe σ2 vs = wipe σ vs ∧ tt σ2 H2 fun b H3 =>
    if b = true then te σ2 H3 fun y H4 => ∃ acc, H4 D = some (.lst acc) ∧ acc.length < sizeLine ∧ Nx (upd H4 D (.lst (acc ++ [y]))) else Nx H3)) : tLc (iRng2 ta) g tt te vs σ H Q := h
/-- a comprehension over range(a, j) with a test; elements and tests leave all as it was -/
theorem lcr2_filt {H1 : Hp} {Qd : Addr → Hp → Prop} {σ : L2.St} {tt : TT} {te : TE} {vs : List Nat} {sl : Nat} {a j : Int} (n : Nat) (p : Nat → Bool) (f : Nat → V) (hj : (j - a).toNat = n) (hb : -(2 ^ 62) ≤ a ∧ a < 2 ^ 62 ∧ -(2 ^ 62) ≤ j ∧ j < 2 ^ 62) (hz : n ≤ 100000) (hw : ∀ v : Option V, wipe ((wipe σ vs).set sl v) vs = wipe σ vs)
    (ht : ∀ i H2, i < n → Same H1 H2 → ∀ k : Bool → Hp → Prop, (∀ H5, Same H2 H5 → k (p i) H5) → tt ((wipe σ vs).set sl (some (V.int (a + (i : Nat))))) H2 k)
    (hs : ∀ i H2, i < n → Same H1 H2 → ∀ k : VK, (∀ H5, Same H2 H5 → k (f i) H5) → te ((wipe σ vs).set sl (some (V.int (a + (i : Nat))))) H2 k)
    (hd : ∀ D H2, H1 D = none → Same H1 H2 → H2 D = some (.lst (((List.range n).filter p).map f)) → Qd D H2) :
    ∃ a' j' : Int, [V.int a, V.int j] = [V.int a', V.int j'] ∧ (-(2 ^ 62) ≤ a' ∧ a' < 2 ^ 62 ∧ -(2 ^ 62) ≤ j' ∧ j' < 2 ^ 62) ∧ ∀ D, H1 D = none → ∃ W : Nat → Nat → Hp → Prop, (∃ m, W 0 m (upd H1 D (.lst []))) ∧ ∀ i m H, W i m H →
  ((Itr a' (j' - a').toNat).stop i H ∧ Qd D H) ∨ ((Itr a' (j' - a').toNat).go i H ∧ ∃ Nx : Hp → Prop, (∀ H', Nx H' → ∃ m', m' < m ∧ W (i + 1) m' H') ∧ ∀ x H', (Itr a' (j' - a').toNat).yld i H x H' → gName sl x (wipe σ vs) H' fun σ2 H2 => wipe σ2 vs = wipe σ vs ∧ tt σ2 H2 fun b H3 =>
    if b = true then te σ2 H3 fun y H4 => ∃ acc, H4 D = some (.lst acc) ∧ acc.length < sizeLine ∧ Nx (upd H4 D (.lst (acc ++ [y]))) else Nx H3) := by
  refine ⟨a, j, rfl, hb, fun D hD => ?_⟩
  subst hj
  refine lc_range (lo := a) (fun i H2 => Same H1 H2 ∧ H2 D = some (.lst (((List.range i).filter p).map f))) ⟨s_upd hD, upd_same⟩ (fun i H2 hi ⟨s2, hl⟩ => ?_) (fun H2 ⟨s2, hl⟩ => hd D H2 hD s2 hl)
  refine ⟨hw _, ht i H2 hi s2 _ fun H5 s5 => ?_⟩
  have hl5 := s5 _ _ hl
  cases hp : p i with
  | true =>
    refine i_t ?_
    refine (hs i H5 hi (s2.trans s5) _ fun H6 s6 => ⟨_, s6 _ _ hl5, szl ?_, s_mut ((s2.trans s5).trans s6) hD, ?_⟩)
    · rw [List.length_map]
      have := List.length_filter_le p (List.range i)
      rw [List.length_range] at this
      omega
    · rw [List.range_succ, List.filter_append, List.filter_cons, hp, if_pos rfl, List.filter_nil, List.map_append]
      exact upd_same
  | false =>
    refine i_f ⟨s2.trans s5, ?_⟩
    rw [List.range_succ, List.filter_append, List.filter_cons, hp, if_neg Bool.false_ne_true, List.filter_nil, List.append_nil]
    exact hl5
theorem lcr_filt {H1 : Hp} {Qd : Addr → Hp → Prop} {σ : L2.St} {tt : TT} {te : TE} {vs : List Nat} {sl : Nat} {j : Int} (n : Nat) (p : Nat → Bool) (f : Nat → V) (hj : j.toNat = n) (hb : -(2 ^ 62) ≤ j ∧ j < 2 ^ 62) (hz : n ≤ 100000) (hw : ∀ v : Option V, wipe ((wipe σ vs).set sl v) vs = wipe σ vs)
    (ht : ∀ i H2, i < n → Same H1 H2 → ∀ k : Bool → Hp → Prop, (∀ H5, Same H2 H5 → k (p i) H5) → tt ((wipe σ vs).set sl (some (V.int (i : Nat)))) H2 k)
    (hs : ∀ i H2, i < n → Same H1 H2 → ∀ k : VK, (∀ H5, Same H2 H5 → k (f i) H5) → te ((wipe σ vs).set sl (some (V.int (i : Nat)))) H2 k)
    (hd : ∀ D H2, H1 D = none → Same H1 H2 → H2 D = some (.lst (((List.range n).filter p).map f)) → Qd D H2) :
    ∃ j' : Int, [V.int j] = [V.int j'] ∧ -(2 ^ 62) ≤ j' ∧ j' < 2 ^ 62 ∧ ∀ D, H1 D = none → ∃ W : Nat → Nat → Hp → Prop, (∃ m, W 0 m (upd H1 D (.lst []))) ∧ ∀ i m H, W i m H →
  ((Itr 0 j'.toNat).stop i H ∧ Qd D H) ∨ ((Itr 0 j'.toNat).go i H ∧ ∃ Nx : Hp → Prop, (∀ H', Nx H' → ∃ m', m' < m ∧ W (i + 1) m' H') ∧ ∀ x H', (Itr 0 j'.toNat).yld i H x H' → gName sl x (wipe σ vs) H' fun σ2 H2 => wipe σ2 vs = wipe σ vs ∧ tt σ2 H2 fun b H3 =>
    if b = true then te σ2 H3 fun y H4 => ∃ acc, H4 D = some (.lst acc) ∧ acc.length < sizeLine ∧ Nx (upd H4 D (.lst (acc ++ [y]))) else Nx H3) := by
  refine ⟨j, rfl, hb.1, hb.2, fun D hD => ?_⟩
  subst hj
  refine lc_range (lo := 0) (fun i H2 => Same H1 H2 ∧ H2 D = some (.lst (((List.range i).filter p).map f))) ⟨s_upd hD, upd_same⟩ (fun i H2 hi ⟨s2, hl⟩ => ?_) (fun H2 ⟨s2, hl⟩ => hd D H2 hD s2 hl)
  have e0 : (0 : Int) + (i : Nat) = (i : Nat) := Int.zero_add _
  rw [e0]
  refine ⟨hw _, ht i H2 hi s2 _ fun H5 s5 => ?_⟩
  have hl5 := s5 _ _ hl
  cases hp : p i with
  | true =>
    refine i_t ?_
    refine (hs i H5 hi (s2.trans s5) _ fun H6 s6 => ⟨_, s6 _ _ hl5, szl ?_, s_mut ((s2.trans s5).trans s6) hD, ?_⟩)
    · rw [List.length_map]
      have := List.length_filter_le p (List.range i)
      rw [List.length_range] at this
      omega
    · rw [List.range_succ, List.filter_append, List.filter_cons, hp, if_pos rfl, List.filter_nil, List.map_append]
      exact upd_same
  | false =>
    refine i_f ⟨s2.trans s5, ?_⟩
    rw [List.range_succ, List.filter_append, List.filter_cons, hp, if_neg Bool.false_ne_true, List.filter_nil, List.append_nil]
    exact hl5
/-! ranges with a step -/
theorem for_rng3 {D : Ends} {H : Hp} {σ : L2.St} {ta : TA} {g : TG} {tb : TS} (h : ta σ H fun vs H1 => ∃ (i j c : Int) (n : Nat), vs = [V.int i, V.int j, V.int c] ∧ RgC i j c n ∧ ∃ W : Nat → Nat → L2.St → Hp → Prop, (∃ m, W 0 m σ H1) ∧ ∀ k m σ H, W k m σ H →
  ((Itc i c n).stop k H ∧ D.nx σ H) ∨ ((Itc i c n).go k H ∧ ∃ N : L2.St → Hp → Prop, (∀ σ' H', N σ' H' → ∃ m', m' < m ∧ W (k + 1) m' σ' H') ∧ ∀ x H', (Itc i c n).yld k H x H' → g x σ H' fun σ2 H2 => tb { D with nx := N, ct := N, bk := D.nx } σ2 H2)) : tFor (iRng3 ta) g tb D σ H := h
theorem rng_go3 {D : Ends} {H1 : Hp} {σ : L2.St} {a j c : Int} {g : TG} {tb : TS} (n : Nat) (hr : RgC a j c n) (Pv : Nat → L2.St → Hp → Prop) (h0 : Pv 0 σ H1)
    (hs : ∀ i σ H, i < n → Pv i σ H → g (V.int (a + (i : Nat) * c)) σ H fun σ2 H2 => tb { D with nx := Pv (i + 1), ct := Pv (i + 1), bk := D.nx } σ2 H2) (hd : ∀ σ H, Pv n σ H → D.nx σ H) :
    ∃ (i' j' c' : Int) (n' : Nat), [V.int a, V.int j, V.int c] = [V.int i', V.int j', V.int c'] ∧ RgC i' j' c' n' ∧ ∃ W : Nat → Nat → L2.St → Hp → Prop, (∃ m, W 0 m σ H1) ∧ ∀ k m σ H, W k m σ H →
  ((Itc i' c' n').stop k H ∧ D.nx σ H) ∨ ((Itc i' c' n').go k H ∧ ∃ N : L2.St → Hp → Prop, (∀ σ' H', N σ' H' → ∃ m', m' < m ∧ W (k + 1) m' σ' H') ∧ ∀ x H', (Itc i' c' n').yld k H x H' → g x σ H' fun σ2 H2 => tb { D with nx := N, ct := N, bk := D.nx } σ2 H2) :=
  ⟨a, j, c, n, rfl, hr, for_rangeC (lo := a) (c := c) Pv h0 hs hd⟩
theorem lc_rng3 {H : Hp} {Q : VK} {σ : L2.St} {ta : TA} {g : TG} {tt : TT} {te : TE} {vs : List Nat} (h : ta σ H fun ws H1 => ∃ (lo j c : Int) (n : Nat), ws = [V.int lo, V.int j, V.int c] ∧ RgC lo j c n ∧ ∀ D, H1 D = none → ∃ W : Nat → Nat → Hp → Prop, (∃ m, W 0 m (upd H1 D (.lst []))) ∧ ∀ i m H, W i m H →
  ((Itc lo c n).stop i H ∧ Q (.ref D) H) ∨ ((Itc lo c n).go i H ∧ ∃ Nx : Hp → Prop, (∀ H', Nx H' → ∃ m', m' < m ∧ W (i + 1) m' H') ∧ ∀ x H', (Itc lo c n).yld i H x H' → g x (wipe σ vs) H' fun σ2 H2 => wipe σ2 vs = wipe σ vs ∧ tt σ2 H2 fun b H3 =>
    if b = true then te σ2 H3 fun y H4 => ∃ acc, H4 D = some (.lst acc) ∧ acc.length < sizeLine ∧ Nx (upd H4 D (.lst (acc ++ [y]))) else Nx H3)) : tLc (iRng3 ta) g tt te vs σ H Q := h
theorem lcr3_pure {H1 : Hp} {Qd : Addr → Hp → Prop} {σ : L2.St} {te : TE} {vs : List Nat} {sl : Nat} {a j c : Int} (n : Nat) (f : Nat → V) (hr : RgC a j c n) (hz : n ≤ 100000) (hw : ∀ v : Option V, wipe ((wipe σ vs).set sl v) vs = wipe σ vs)
    (hs : ∀ i H2, i < n → Same H1 H2 → ∀ k : VK, (∀ H5, Same H2 H5 → k (f i) H5) → te ((wipe σ vs).set sl (some (V.int (a + (i : Nat) * c)))) H2 k)
    (hd : ∀ D H2, H1 D = none → Same H1 H2 → H2 D = some (.lst ((List.range n).map f)) → Qd D H2) :
    ∃ (i' j' c' : Int) (n' : Nat), [V.int a, V.int j, V.int c] = [V.int i', V.int j', V.int c'] ∧ RgC i' j' c' n' ∧ ∀ D, H1 D = none → ∃ W : Nat → Nat → Hp → Prop, (∃ m, W 0 m (upd H1 D (.lst []))) ∧ ∀ i m H, W i m H →
  ((Itc i' c' n').stop i H ∧ Qd D H) ∨ ((Itc i' c' n').go i H ∧ ∃ Nx : Hp → Prop, (∀ H', Nx H' → ∃ m', m' < m ∧ W (i + 1) m' H') ∧ ∀ x H', (Itc i' c' n').yld i H x H' → gName sl x (wipe σ vs) H' fun σ2 H2 => wipe σ2 vs = wipe σ vs ∧ tYes σ2 H2 fun b H3 =>
    if b = true then te σ2 H3 fun y H4 => ∃ acc, H4 D = some (.lst acc) ∧ acc.length < sizeLine ∧ Nx (upd H4 D (.lst (acc ++ [y]))) else Nx H3) := by
  refine ⟨a, j, c, n, rfl, hr, fun D hD => ?_⟩
  refine ⟨fun i m H2 => m = n - i ∧ i ≤ n ∧ Same H1 H2 ∧ H2 D = some (.lst ((List.range i).map f)), ⟨n, by simp, Nat.zero_le _, s_upd hD, upd_same⟩, ?_⟩
  rintro i m H2 ⟨rfl, hi, s2, hl⟩
  by_cases hlt : i < n
  · refine .inr ⟨hlt, fun H' => Same H1 H' ∧ H' D = some (.lst ((List.range (i + 1)).map f)), fun H' p' => ⟨n - (i + 1), by omega, rfl, hlt, p'.1, p'.2⟩, fun x H' y => ?_⟩
    obtain ⟨e, y⟩ := y
    subst e y
    refine ⟨hw _, i_t (B := Same H1 H' ∧ H' D = some (HO.lst ((List.range (i + 1)).map f))) ?_⟩
    refine (hs i _ hlt s2 _ fun H5 s5 => ⟨_, s5 _ _ hl, szl (by rw [List.length_map, List.length_range]; omega), s_mut (s2.trans s5) hD, ?_⟩)
    rw [List.range_succ, List.map_append]
    exact upd_same
  · have e : i = n := by omega
    subst e
    exact .inl ⟨Nat.le_refl _, hd D H2 hD s2 hl⟩
/-! instances -/
def fldP (K : PySem.W.Frag) (f : Str) : V → Hp → VK → Prop := fun x H1 Q => ∃ a C dx fs v, x = .ref a ∧ H1 a = some (.ins C dx fs) ∧ Cls K C ∧ NoAttr K C f ∧ fs.lookup f = some v ∧ Q v H1
theorem r_fld {H : Hp} {K : PySem.W.Frag} {Q : VK} {σ : L2.St} {ta : TE} {f : Str} (h : ta σ H fun x H1 => fldP K f x H1 Q) : tFld K ta f σ H Q := h
theorem r_fldP {H : Hp} {K : PySem.W.Frag} {Q : VK} {f : Str} {a C dx : Addr} {fs : List (Str × V)} {v : V} (h : H a = some (.ins C dx fs)) (c : Cls K C) (n : NoAttr K C f) (l : fs.lookup f = some v) (q : Q v H) : fldP K f (.ref a) H Q := ⟨a, C, dx, fs, v, rfl, h, c, n, l, q⟩
def setP (K : PySem.W.Frag) (f : Str) (y : V) : V → Hp → (Hp → Prop) → Prop := fun x H2 k => ∃ a C dx fs, x = .ref a ∧ H2 a = some (.ins C dx fs) ∧ Cls K C ∧ NoAttr K C f ∧ fs.length < 1000 ∧ k (upd H2 a (.ins C dx (putF f y fs)))
theorem r_sfld {D : Ends} {H : Hp} {K : PySem.W.Frag} {σ : L2.St} {ta tv : TE} {f : Str} (h : tv σ H fun y H1 => ta σ H1 fun x H2 => setP K f y x H2 fun H3 => D.nx σ H3) : sFld K ta tv f D σ H := h
theorem r_setP {H : Hp} {K : PySem.W.Frag} {f : Str} {y : V} {a C dx : Addr} {fs : List (Str × V)} {k : Hp → Prop} (h : H a = some (.ins C dx fs)) (c : Cls K C) (n : NoAttr K C f) (l : fs.length < 1000) (q : k (upd H a (.ins C dx (putF f y fs)))) : setP K f y (.ref a) H k := ⟨a, C, dx, fs, rfl, h, c, n, l, q⟩
theorem r_make {H : Hp} {Q : VK} {σ : L2.St} {C : Addr} {sp : Sp} {E : XK} {t : TA} (h : t σ H fun vs H1 => ∀ x dx, H1 x = none → H1 dx = none → dx ≠ x → sp (.ref x :: (vs ++ [])) (upd (upd H1 dx (.own x)) x (.ins C dx [])) (fun v H2 => v = .non ∧ Q (.ref x) H2) E) : tMake C sp [] E t σ H Q := h
def objP (C : Addr) (m : Str) : V → Hp → (Hp → Prop) → Prop := fun x H1 k => ∃ a dx fs, x = .ref a ∧ H1 a = some (.ins C dx fs) ∧ fs.lookup m = none ∧ k H1
theorem r_meth {H : Hp} {Q : VK} {σ : L2.St} {C : Addr} {m : Str} {sp : Sp} {E : XK} {ta : TE} {t : TA} (h : ta σ H fun x H1 => objP C m x H1 fun H1 => t σ H1 fun vs H2 => sp (x :: (vs ++ [])) H2 Q E) : tMeth C m sp [] E ta t σ H Q := h
theorem r_objP {H : Hp} {m : Str} {a C dx : Addr} {fs : List (Str × V)} {k : Hp → Prop} (h : H a = some (.ins C dx fs)) (l : fs.lookup m = none) (q : k H) : objP C m (.ref a) H k := ⟨a, dx, fs, rfl, h, l, q⟩
theorem look_1 {f : Str} {v : V} {r : List (Str × V)} : List.lookup f ((f, v) :: r) = some v := by simp [List.lookup]
theorem look_s {f g : Str} {v : V} {r : List (Str × V)} (h : ¬ f = g) : List.lookup f ((g, v) :: r) = List.lookup f r := by
  have e : (f == g) = false := by simp [h]
  simp [List.lookup, e]
theorem look_0 {f : Str} : List.lookup f ([] : List (Str × V)) = none := rfl
theorem put_s {f g : Str} {v x : V} {r : List (Str × V)} (h : ¬ g = f) : putF f v ((g, x) :: r) = (g, x) :: putF f v r := if_neg h
theorem put_1 {f : Str} {v x : V} {r : List (Str × V)} : putF f v ((f, x) :: r) = (f, v) :: r := if_pos rfl
theorem put_0 {f : Str} {v : V} : putF f v [] = [(f, v)] := rfl
theorem cut_mid {xs : List V} {a b : Nat} (h : a ≤ b) : cutV xs (some (a : Int)) (some (b : Int)) = (xs.drop a).take (b - a) := by
  unfold cutV
  rw [HT.sIx_nat, HT.sIx_nat]
  by_cases h1 : b ≤ xs.length
  · rw [Nat.min_eq_left h1, Nat.min_eq_left (by omega)]
  · by_cases h2 : a ≤ xs.length
    · rw [Nat.min_eq_right (by omega), Nat.min_eq_left h2, List.take_of_length_le (by rw [List.length_drop]; omega), List.take_of_length_le (by rw [List.length_drop]; omega)]
    · rw [Nat.min_eq_right (by omega), Nat.min_eq_right (by omega), List.drop_length, List.drop_of_length_le (by omega)]
      simp
theorem c_pow {i j : Int} (h0 : 0 ≤ j) (h1 : j ≤ 1000000) (h2 : i.natAbs < 2 ^ 64) : CPow i j := ⟨h0, h1, h2⟩
theorem c_mulR {i j : Int} (h0 : -18446744073709551616 < j) (h1 : j < 18446744073709551616) : CMul i j := .inr ⟨h0, h1⟩
theorem c_mulL {i j : Int} (h0 : -18446744073709551616 < i) (h1 : i < 18446744073709551616) : CMul i j := .inl ⟨h0, h1⟩
theorem c_div {i j : Int} (h0 : 0 < j) (h1 : j < 1073741824) : CDiv i j := ⟨h0, h1⟩
theorem r_cut {D : Ends} {H : Hp} {σ : L2.St} {t u : TS} (Mid : L2.St → Hp → Prop) (h : t { D with nx := Mid } σ H) (k : ∀ σ' H', Mid σ' H' → u D σ' H') : C8.tCut t u D σ H := ⟨Mid, h, k⟩
theorem cut_to {xs : List V} {k : Nat} : cutV xs none (some (k : Int)) = xs.take k := by
  unfold cutV
  rw [HT.sIx_none, HT.sIx_nat, List.drop_zero, Nat.sub_zero]
  by_cases h : k ≤ xs.length
  · rw [Nat.min_eq_left h]
  · rw [Nat.min_eq_right (by omega), List.take_length, List.take_of_length_le (by omega)]
theorem cut_all {xs : List V} {k : Nat} (h : xs.length ≤ k) : cutV xs none (some (k : Int)) = xs := by
  rw [cut_to, List.take_of_length_le h]
theorem len4 {ns : List Int} (h : ns.length = 4) : ∃ a b c d, ns = [a, b, c, d] := by
  match ns, h with
  | [a, b, c, d], _ => exact ⟨a, b, c, d, rfl⟩
theorem len3 {ns : List Int} (h : ns.length = 3) : ∃ a b c, ns = [a, b, c] := by
  match ns, h with
  | [a, b, c], _ => exact ⟨a, b, c, rfl⟩
theorem len2 {ns : List Int} (h : ns.length = 2) : ∃ a b, ns = [a, b] := by
  match ns, h with
  | [a, b], _ => exact ⟨a, b, rfl⟩
theorem len7 {ns : List Int} (h : ns.length = 7) : ∃ a b c d e f g, ns = [a, b, c, d, e, f, g] := by
  match ns, h with
  | [a, b, c, d, e, f, g], _ => exact ⟨a, b, c, d, e, f, g, rfl⟩
theorem len6 {ns : List Int} (h : ns.length = 6) : ∃ a b c d e f, ns = [a, b, c, d, e, f] := by
  match ns, h with
  | [a, b, c, d, e, f], _ => exact ⟨a, b, c, d, e, f, rfl⟩
theorem r_take {K : PySem.W.Frag} {H : Hp} {Q : VK} {a : Addr} {ns : List Int} {k : Int} (n : Nat) (hk : k = (n : Int)) (h : SqL K H a (ns.map V.int)) (q : ∀ p H1, H p = none → Same H H1 → H1 p = some (.lst ((ns.take n).map V.int)) → Q (.ref p) H1) : rSlL K (.ref a) none (some k) H Q := by
  subst hk
  refine ⟨a, ns.map V.int, rfl, h, fun p hp => ?_⟩
  rw [cut_to, ← List.map_take]
  exact q p _ hp (s_upd hp) upd_same
/-- the script's first items: the whole of it -/
theorem r_script {K : PySem.W.Frag} {H : Hp} {Q : VK} {a : Addr} {ns : List Int} {k : Int} (hk : 63 ≤ k) (h : SqL K H a (ns.map V.int)) (hn : ns.length ≤ 63) (q : ∀ p H1, H p = none → Same H H1 → H1 p = some (.lst (ns.map V.int)) → Q (.ref p) H1) : rSlL K (.ref a) none (some k) H Q := by
  refine ⟨a, ns.map V.int, rfl, h, fun p hp => ?_⟩
  have e : k = ((k.toNat : Nat) : Int) := by omega
  rw [e, cut_all (by rw [List.length_map]; omega)]
  exact q p _ hp (s_upd hp) upd_same
/-! list facts -/
theorem at_map {ns : List Int} {i : Int} {j : Nat} {n : Int} (e : i = (j : Int)) (h : ns[j]? = some n) : atI (ns.map V.int) i = some (.int n) := by
  subst e
  exact atI_nat (by rw [List.getElem?_map, h]; rfl)
theorem at_lt {α : Type} {xs : List α} {i : Int} {j : Nat} (e : i = (j : Int)) (h : j < xs.length) : atI xs i = some xs[j] := by
  subst e
  exact atI_nat (List.getElem?_eq_getElem h)
theorem get_map {ns : List Int} {i : Nat} {x : V} (h : (ns.map V.int)[i]? = some x) : ∃ n, ns[i]? = some n ∧ x = .int n := by
  rw [List.getElem?_map] at h
  cases e : ns[i]? with
  | none => rw [e] at h; cases h
  | some z => rw [e] at h; exact ⟨z, rfl, (Option.some.inj h).symm⟩
theorem flat_ints (ns : List Int) : (ns.map V.int).all flatV = true := by
  rw [List.all_eq_true]; intro v hv; obtain ⟨n, _, rfl⟩ := List.mem_map.mp hv; rfl
theorem inV_ints (n : Int) (ns : List Int) : inV (.int n) (ns.map V.int) = dB (n ∈ ns) := by
  unfold inV
  induction ns with
  | nil => rw [dB_f (by simp)]; rfl
  | cons m r ih =>
    rw [List.map_cons, List.any_cons, ih]
    show ((m == n) || dB (n ∈ r)) = _
    by_cases h : m = n
    · subst h; rw [dB_t (List.mem_cons_self ..)]; simp
    · by_cases h2 : n ∈ r
      · rw [dB_t h2, dB_t (List.mem_cons_of_mem _ h2)]; simp
      · rw [dB_f h2, dB_f (fun z => by rcases List.mem_cons.mp z with z | z; exact h z.symm; exact h2 z)]; simp [h]
theorem r_inI {K : PySem.W.Frag} {H : Hp} {Q : VK} {p : Addr} {ns : List Int} {n : Int} (h : SqL K H p (ns.map V.int)) (q : Q (.bl (dB (n ∈ ns))) H) : rIn K false (.int n) (.ref p) H Q :=
  ⟨p, ns.map V.int, rfl, .inl h, rfl, flat_ints ns, by rw [inV_ints]; exact q⟩
theorem cut_from {xs : List V} {k : Nat} : cutV xs (some (k : Int)) none = xs.drop k := by
  unfold cutV
  rw [HT.sIx_none, HT.sIx_nat]
  by_cases h : k ≤ xs.length
  · rw [Nat.min_eq_left h, List.take_of_length_le (by rw [List.length_drop]; omega)]
  · rw [Nat.min_eq_right (by omega), List.drop_length, List.drop_of_length_le (by omega)]; simp
/-! any of ints -/
def rAnyI (K : PySem.W.Frag) : List V → Hp → VK → Prop := fun vs H Q => ∃ (a : Addr) (ns : List Int), vs = [V.ref a] ∧ SqL K H a (ns.map V.int) ∧ Q (.bl (ns.any (· != 0))) H
theorem truth_ints {prog : Program} {w : World} {A : Around} {ns : List Int} {its : List Value} (r : Vals (ns.map V.int) its) :
    TruthOf prog w A (fun i v => its.toArray[i]? = some v) (fun i => (ns.map (· != 0)).getD i false) := fun i v s Q E hv hq => by
  have hv' : its[i]? = some v := by simpa using hv
  have hl := r.length
  have hi : i < ns.length := by
    have := (List.getElem?_eq_some_iff.mp hv').1
    rw [List.length_map] at hl
    omega
  obtain ⟨u, hu, ru⟩ := r.get (i := i) (x := .int ns[i]) (by rw [List.getElem?_map, List.getElem?_eq_getElem hi]; rfl)
  rw [hv'] at hu
  cases hu
  obtain ⟨t, rfl⟩ := ru
  have hg : (ns.map (· != 0)).getD i false = (ns[i] != 0) := by rw [List.getD_eq_getElem?_getD, List.getElem?_map, List.getElem?_eq_getElem hi]; rfl
  have hq' : Q ((ns.map (· != 0)).getD i false) s := hq
  rw [hg] at hq'
  exact truthy_int hq'
theorem cr_anyI {X : Cx} (hc : X.calm = true) : CallR X (.builtin "any") (rAnyI X.K) := by
  intro pins s σ H vs us Q I r h
  obtain ⟨a, ns, rfl, hs, q⟩ := h
  obtain ⟨its, rv, hl, _⟩ := I.list hs
  rw [Vals.ref1 r]
  have hlen := rv.length
  rw [List.length_map] at hlen
  refine call_any_walk (iter_any hl.isList fun s₂ e2 st hne => ?_)
  subst e2
  refine ⟨_, _, _, _, _, _, _, rfl, Walks.list (A := X.A.in1) (I.ok.hd hc) _ a hne its.toArray, st, truth_ints rv, fun h' tk hk => ?_⟩
  refine ⟨.bl _, H, I.kept fun b o eo => hk b o (fun hmem => ?_) (Heap.get?_push_of_some _ eo), ?_, q⟩
  · rcases List.mem_cons.mp hmem with e1 | hmem
    · exact absurd (e1 ▸ Heap.lt_size eo) (Nat.lt_irrefl _)
    · cases hmem
  · show Value.bool _ = Value.bool _
    have e := L2.any_range (ns.map (· != 0))
    rw [List.any_map, List.length_map] at e
    rw [List.size_toArray, ← hlen, e]; rfl
theorem r_anyI {K : PySem.W.Frag} {H : Hp} {Q : VK} {a : Addr} {ns : List Int} (h : SqL K H a (ns.map V.int)) (q : Q (.bl (ns.any (· != 0))) H) : rAnyI K [.ref a] H Q := ⟨a, ns, rfl, h, q⟩
theorem r_isB {i j : Bool} {H : Hp} {Q : VK} (q : Q (.bl (dB (i = j))) H) : rIsB (.bl i) (.bl j) H Q := ⟨i, j, rfl, rfl, q⟩
theorem r_notB {i j : Bool} {H : Hp} {Q : VK} (q : Q (.bl (!dB (i = j))) H) : rNotB (.bl i) (.bl j) H Q := ⟨i, j, rfl, rfl, q⟩
theorem r_neL {H : Hp} {K : PySem.W.Frag} {Q : VK} {a b : Addr} {ns : List Int} (ha : SqL K H a (ns.map V.int)) (hb : SqL K H b (ns.map V.int)) (q : Q (.bl false) H) : rNeD K (.ref a) (.ref b) H Q :=
  ⟨_, _, .lst ha (dp_ints ns), .lst hb (dp_ints ns), shaped_ints ns, shaped_ints ns, by rw [eqv_ints]; exact q⟩
/-! ## what the top has written -/
def valsOk (us : Array Value) (xs : List V) : Bool := decide (us.size ≤ 100000) && decide (us.toList.mapM absV = some xs)
theorem rel_of {u : Value} {x : V} (h : absV u = some x) : RelV x u := by
  cases u <;> first | (cases h; rfl) | (cases h; exact ⟨_, rfl⟩) | (cases h)
theorem vals_of : ∀ {us : List Value} {xs : List V}, us.mapM absV = some xs → Vals xs us
  | [], xs, h => by
    have e : some [] = some xs := h
    cases e; exact .nil
  | u :: us, xs, h => by
    rw [List.mapM_cons] at h
    cases e1 : absV u with
    | none => rw [e1] at h; cases h
    | some x =>
      cases e2 : us.mapM absV with
      | none => rw [e1, e2] at h; cases h
      | some ys =>
        rw [e1, e2] at h
        have e : some (x :: ys) = some xs := h
        cases e
        exact .cons (rel_of e1) (vals_of e2)
theorem sqt_of {K : PySem.W.Frag} {H : Hp} {A : Addr} {dd : Option Addr} {its : Array Value} {n : Nat} {ss : Array (Option Value)} {xs : List V}
    (lk : K.lookup A = some ⟨.type "tuple", dd, .seq its n, ss⟩) (h : valsOk its xs = true) : SqT K H A xs := by
  unfold valsOk at h
  rw [Bool.and_eq_true] at h
  exact .inr ⟨_, its, n, lk, rfl, rfl, sz (of_decide_eq_true h.1), vals_of (of_decide_eq_true h.2)⟩
end Z

namespace Z
open PySem PySem.W PySem.Spec PySem.Calls PyProof.Rows Builtin Builtin.ObjectAttr Builtin.Getset_descriptor
section
variable {prog : Program} {w : World} {A : Around} {E : Value → Shared → Prop} {s : Shared} {K : Frag} {x D : Addr} {ox : Obj} {od : Option Obj}
/-- what an error's class must say, so that `__class__` of its objects is read -/
structure EcC (K : Frag) (D : Addr) : Prop where
  ga : findIn K (.ref D) "__getattribute__" = some (some (.builtin "BaseException.__getattribute__"))
  gg : findIn K (.ref D) "__getattr__" = some none
  sb : subIn K (.ref D) (.type "BaseException") = some true
  hd : hasDictIn K D = true
  cl : findIn K (.ref D) "__class__" = some (some (.builtin "object.__class__"))
  gt : specialIn K (.builtin "object.__class__") "__get__" = some (some (.builtin "getset_descriptor.__get__"))
  tk : takesIn K (.builtin "object.__class__") = some true
  ob : mroIn K D (.type "object") = some true
theorem EcC.find (c : EcC K D) (od : Option Obj) : findObj K D od "__class__" = some (.bind (.builtin "getset_descriptor.__get__") (.builtin "object.__class__")) := by
  obtain ⟨cd, hc, _⟩ := any_some c.hd
  have hc' : clsIn K D = some cd := hc
  unfold findObj; simp [hc', c.cl, c.gt, c.tk]
/-- the call behind it -/
theorem ec_code {R : Result → Shared → Prop} {tk : Tok} (c : EcC K D) (X : K.In s.heap) (I : InstAt s.heap x ox D od) (h : R (.ok (.ret (.ref D))) s) :
    codeAny (model prog w) A (.call (.builtin "BaseException.__getattribute__") ⟨[.ref x, .str "__class__" tk], []⟩) R s := by
  obtain ⟨hp, g, d, t, os⟩ := s
  have La := I.type (M := model prog w)
  have Lb := looks_find (M := model prog w) X I (c.find od)
  have Lc : Looks (model prog w) hp (isInstance (.ref x) (.type "BaseException")) true := La.andThen (looks_subIn X c.sb)
  refine codeAny_call_builtin PySem.F.excAttr_ValueError.ga.plain PySem.F.entry_bexc_ga (@check_slot (model prog w) _ _ ⟨hp, g, d, t, os⟩ "BaseException.__getattribute__" "BaseException" "__getattribute__" (.ref x) [.str "__class__" tk] [] _ (by decide +kernel) (by decide +kernel) Lc (PySem.F.args_bexc_ga (.ref x) (.str "__class__" tk)) ?_)
  unfold Builtin.«object.__getattribute__»
  refine wpAny_bind (wpAny_of_eq (a := ((Value.ref x : Value), [Value.str "__class__" tk])) (by first | rfl | (simp only [slotArgs]; rfl)) (wpAny_bind (wpAny_pure (wpAny_bind (La.at (wpAny_bind (Lb.at ?_)))))))
  show wpAny _ _ (holding [Value.builtin "object.__class__"] (call (.builtin "getset_descriptor.__get__") [.builtin "object.__class__", .ref x, .ref D]) >>= ret) _ _ _
  exact wpAny_bind (wpAny_holding (wpAny_call (class_get (s := ⟨hp, g, d, t, os⟩) X I c.ob (wpAny_pure h))))
theorem ec_no {b : Bool} {v : Value} : (b && onTheHeap (Value.builtin "BaseException.__getattribute__")) = false ∧ (onTheHeap v && Value.builtin "BaseException.__getattribute__" == Value.builtin "object.__getattribute__") = false := by
  have z : (Value.builtin "BaseException.__getattribute__" == Value.builtin "object.__getattribute__") = false := by decide +kernel
  exact ⟨by cases b <;> rfl, by rw [z, Bool.and_false]⟩
/-- e.__class__, e an error -/
theorem ec_get {expr : Bool} {Q : Value → Shared → Prop} (c : EcC K D) (X : K.In s.heap) (I : InstAt s.heap x ox D od) (h : Q (.ref D) { s with toks := s.toks + 1 }) :
    wpAny (model prog w) A (getAttr (.ref x) "__class__" expr) Q E s := by
  obtain ⟨hp, g, d, t, os⟩ := s
  unfold getAttr getAttrBy
  refine wpAny_bind (wpAny_mkText (wpAny_holding (wpAny_bind (I.type.at (wpAny_bind ((looks_findIn (M := model prog w) X c.ga).at ?_))))))
  dsimp only
  rw [ec_no (b := true).2, if_neg Bool.false_ne_true]
  unfold getAttrByItsOwn hookBefore
  rw [if_pos (show onTheHeap (Value.ref D) = true from rfl)]
  refine wpAny_bind ((looks_findIn (M := model prog w) X c.gg).at (wpAny_bind (wpAny_attempt (wpAny_holding ?_))))
  unfold callGetattribute
  rw [ec_no (v := Value.none).1, if_neg Bool.false_ne_true]
  unfold boundAndCalled
  rw [PySem.F.excAttr_ValueError.ga.bind (.ref x)]
  refine wpAny_bind (wpAny_pure (wpAny_call (ec_code (s := ⟨hp, g, d, t + 1, os⟩) c X I ?_)))
  show wpAny _ _ (handedOut (.ref D)) _ _ _
  rw [handedOut_of (v := .ref D) rfl]
  exact wpAny_pure h
theorem ec_getQ {Q : Option Value → Shared → Prop} (c : EcC K D) (X : K.In s.heap) (I : InstAt s.heap x ox D od) (h : Q (some (.ref D)) { s with toks := s.toks + 1 }) :
    wpAny (model prog w) A (getAttr? (.ref x) "__class__") Q E s := by
  obtain ⟨hp, g, d, t, os⟩ := s
  unfold getAttr? getAttrBy? getAttrBy
  refine wpAny_bind (wpAny_mkText (wpAny_bind (wpAny_attempt (wpAny_holding (wpAny_bind (I.type.at (wpAny_bind ((looks_findIn (M := model prog w) X c.ga).at ?_))))))))
  dsimp only
  rw [ec_no (b := true).2, if_neg Bool.false_ne_true]
  unfold getAttrByItsOwn hookBefore
  rw [if_pos (show onTheHeap (Value.ref D) = true from rfl)]
  refine wpAny_bind ((looks_findIn (M := model prog w) X c.gg).at (wpAny_bind (wpAny_attempt (wpAny_holding ?_))))
  unfold callGetattribute
  rw [ec_no (v := Value.none).1, if_neg Bool.false_ne_true]
  unfold boundAndCalled
  rw [PySem.F.excAttr_ValueError.ga.bind (.ref x)]
  refine wpAny_bind (wpAny_pure (wpAny_call (ec_code (s := ⟨hp, g, d, t + 1, os⟩) c X I ?_)))
  show wpAny _ _ (handedOut (.ref D)) _ _ _
  rw [handedOut_of (v := .ref D) rfl]
  first
    | exact wpAny_pure (wpAny_pure h)
    | exact wpAny_pure h
    | exact wpAny_pure (wpAny_bind (wpAny_pure (wpAny_pure h)))
theorem ec_kit (c : EcC K D) : KitX K (.ref x) (.ref D) (fun h => ∃ ox od, InstAt h x ox D od) where
  ty := fun _ _ _ ⟨_, _, I⟩ => I.type
  it := fun _ _ X _ => by
    obtain ⟨cd, hc, _⟩ := any_some c.hd
    unfold clsIn at hc
    split at hc
    · rename_i ho
      exact fun A' Q' E' s' k q => by unfold isType loadHead; exact wpAny_bind (wpAny_loadPart (k _ _ (X _ _ ho)) (wpAny_pure q))
    · cases hc
  ne := fun h tp dd its n sl X htp => Bool.eq_false_iff.mpr fun q => by
    obtain rfl : D = tp := Value.ref.inj (beq_iff_eq.mp q)
    obtain ⟨cd, hc, _⟩ := any_some c.hd
    unfold clsIn at hc
    split at hc
    · rename_i ho
      have z := (X _ _ ho).symm.trans htp
      cases z
    · cases hc
  ca := fun X ⟨_, _, I⟩ k => ec_getQ c X I k
/-- the class C tells its name n -/
structure NmC (K : Frag) (C : Addr) (n : Str) : Prop where
  at_ : ∃ oc od cd k0 k1 t k, K.lookup C = some ⟨oc, od, .cls cd, #[k0, k1, some (.str n t)] ++ k⟩
  rd : readsIn K C (.type "type") = true
  fd : findCls K (.ref C) (.type "type") "__name__" = some (.get (.builtin "getset_descriptor.__get__") (.builtin "type.__name__") (.ref C) (.type "type"))
theorem nm_dga (d : Value) (C : Addr) (tp : Value) : descrGetArgs ⟨[d, .ref C, tp], []⟩ = pure (d, some (.ref C), given tp) := by rfl
theorem nm_get {C : Addr} {n : Str} {expr : Bool} {Q : Value → Shared → Prop} (c : NmC K C n) (X : K.In s.heap) (h : ∀ t u, Q (.str n t) { s with toks := u }) : wpAny (model prog w) A (getAttr (.ref C) "__name__" expr) Q E s := by
  obtain ⟨oc, od, cd, k0, k1, t, k, hC⟩ := c.at_
  refine cls_bind X c.rd c.fd (wpAny_call ?_)
  have hT : typeIn K (.ref C) = some (.type "type") := by
    have r := c.rd
    simp only [readsIn, Bool.and_eq_true, beq_iff_eq] at r
    exact r.1.1.1.2
  obtain ⟨hh, g, dr, tt, os⟩ := s
  have ho : hh.get? C = some ⟨oc, od, .cls cd, #[k0, k1, some (.str n t)] ++ k⟩ := X _ _ hC
  have L0 : Looks (model prog w) hh (typeOf (.ref C)) (.type "type") := looks_typeIn X hT
  have L1 : Looks (model prog w) hh (isSubtype (.type "type") (.type "type")) true := Looks.of_pure (by rw [isSubtype_type]; kernel_rfl)
  refine codeAny_call_builtin KF.slot_gs.plain KF.entry_gs (KF.slot_gs.check _ _ _ _ _ _ _ _ ktyn_type (KF.args_gs _ _ _) ?_)
  unfold Builtin.«getset_descriptor.__get__» descrGet
  rw [nm_dga]
  refine wpAny_bind (wpAny_pure ?_)
  unfold descrGetter descrCheckInstance descrNameAndClass isInstance
  simp only [ktyn_owner]
  repeat lk
  refine ⟨Code.quiet_builtin _ (by decide +kernel), codeAny_builtin ktyn_entry ?_⟩
  unfold Builtin.«type.__name__»
  dsimp only
  unfold keptObject slotAt
  refine wpAny_bind (wpAny_bind (wpAny_loadPart ho (wpAny_pure ?_)))
  have e2 : ((#[k0, k1, some (.str n t)] ++ k)[2]?).join = some (.str n t) := by rw [Array.getElem?_append_left (by simp)]; rfl
  show wpAny _ _ (match ((#[k0, k1, some (.str n t)] ++ k)[2]?).join with | some v => ret v | x => _) _ _ _
  rw [e2]
  exact wpAny_pure (handed_on rfl (h t _))
end
end Z
namespace Z
open PySem PySem.Spec PyProof.Rows L2
/-- an error that the suite holds stands there, with its own fields -/
theorem held_at {X : Cx} {a : Addr} {oe : Obj} {d : Option Addr} {C : Addr} {pn pins : List (Addr × Obj)} {σ : L2.St} {H : Hp} {s : Shared} (I : Inv (X.suite a ((a, oe) :: pn)) pins σ H s) (hz : Zc (.ref C) d oe) (hf : ∃ vs, oe.data = .fields vs)
    {dd : Addr} {fs : List (Str × V)} (ed : d = some dd) (ea : H dd = some (.xd fs)) : ∃ (od : Obj) (mA : Str → Option Value), PySem.W.InstAt s.heap a oe C (some od) ∧ (∀ f, PySem.W.lookIn f od = some (mA f)) ∧ ∀ f, RelO (fs.lookup f) (mA f) := by
  subst ed
  obtain ⟨ha, _⟩ := I.pin (a, oe) (List.mem_append_left _ List.mem_cons_self)
  obtain ⟨vs, hd⟩ := hf
  have hx : ObjOk X.prog X.w H s.heap dd (.xd fs) := I.hok dd _ ea
  obtain ⟨mA, hns, hr⟩ := hx
  obtain ⟨od, ho, hl⟩ := lookIn_ns hns
  exact ⟨od, mA, ⟨ha, hz.1, by unfold PySem.W.notCls; rw [hd] <;> rfl, by rw [hz.2]; exact ho⟩, hl, hr⟩
/-- e.f, e the error that the suite holds: a its place, cls its class, d its fields -/
def tErF (K : PySem.W.Frag) (a : Addr) (cls : Value) (d : Option Addr) (f : Str) (te : TE) : TE := fun σ H Q => te σ H fun x H1 => x = .ref a ∧ ∃ (C : Addr) (dd : Addr) (fs : List (Str × V)) (v : V), cls = .ref C ∧ XfC K C ∧ PySem.W.findIn K (.ref C) f = some none ∧ d = some dd ∧ H1 dd = some (.xd fs) ∧ fs.lookup f = some v ∧ Q v H1
theorem pe_erF {X : Cx} {a : Addr} {oe : Obj} {cls : Value} {d : Option Addr} {pn : List (Addr × Obj)} {e : Expr} {te : TE} {pos : Pos} {n : Str} (hz : Zc cls d oe) (hf : ∃ vs, oe.data = .fields vs) (he : PE (X.suite a ((a, oe) :: pn)) e te)
    (hb : attributeBase e n X.env (eval e X.env) = eval e X.env := by rfl) : PE (X.suite a ((a, oe) :: pn)) (.Attribute e n pos) (tErF X.K a cls d n te) := ⟨fun pins s σ H Q I h => by
  refine attr_of hb (thn (he.run pins s σ H _ I h) fun u s1 ⟨x, H1, I1, rx, ex, C, dd, fs, v, ec, T, hno, ed, ea, l, q⟩ => ?_)
  subst ex ec
  obtain rfl : u = Value.ref a := rx
  obtain ⟨od, mA, J, hl, hr⟩ := held_at I1 hz hf ed ea
  obtain ⟨u, hu, ru⟩ := RelO.some_of (v := v) (o := mA n) (by rw [← l]; exact hr n)
  exact HandSPX.exc_get I1.kIn J T.ga T.gg T.exC (PySem.W.findObj_own T.hdC hno rfl (by rw [hl, hu])) (handed_of ru) ⟨v, H1, I1.tok _, ru, q⟩⟩
/-- isinstance(e, c) of it -/
def rErI (K : PySem.W.Frag) (a : Addr) (cls : Value) (d : Option Addr) : List V → Hp → VK → Prop := fun xs H Q => ∃ (C : Addr) (c : V) (cv : Value) (b : Bool) (dd : Addr) (fs : List (Str × V)), xs = [.ref a, c] ∧ cls = .ref C ∧ EcC K C ∧ (∀ u, RelV c u → u = cv) ∧ PySem.W.kitOne K (.ref C) cv = some b ∧ d = some dd ∧ H dd = some (.xd fs) ∧ Q (.bl b) H
theorem call_erI {X : Cx} {a : Addr} {oe : Obj} {cls : Value} {d : Option Addr} {pn : List (Addr × Obj)} (hz : Zc cls d oe) (hf : ∃ vs, oe.data = .fields vs) : CallR (X.suite a ((a, oe) :: pn)) (.builtin "isinstance") (rErI X.K a cls d) := fun pins s σ H xs us Q I r h => by
  obtain ⟨C, c, cv, b, dd, fs, rfl, rfl, hc, hcv, e, ed, ea, q⟩ := h
  match r with
  | .cons rx (.cons rt .nil) =>
    cases rx
    obtain rfl := hcv _ rt
    obtain ⟨od, mA, J, _, _⟩ := held_at I hz hf ed ea
    exact PySem.W.kia_one (ec_kit hc) I.kIn ⟨oe, some od, J⟩ e (fun z => nomatch z) fun tk => ⟨.bl b, H, I.kept (t' := tk) fun _ _ z => z, rfl, q⟩
/-- self.__class__.__name__ in the making of an error -/
def tCnm (K : PySem.W.Frag) (te : TE) : TE := fun σ H Q => te σ H fun x H1 => ∃ (a C dx : Addr) (fs : List (Str × V)) (n : Str), x = .ref a ∧ EcC K C ∧ NmC K C n ∧ H1 a = some (exo a C (some dx)) ∧ H1 dx = some (exd dx fs) ∧ Q (.str n) H1
theorem pe_cnm {X : Cx} {e : Expr} {te : TE} {pos p2 : Pos} (he : PE X e te) (hb : attributeBase e "__class__" X.env (eval e X.env) = eval e X.env := by rfl)
    (hb2 : attributeBase (.Attribute e "__class__" p2) "__name__" X.env (eval (.Attribute e "__class__" p2) X.env) = eval (.Attribute e "__class__" p2) X.env := by rfl) :
    PE X (.Attribute (.Attribute e "__class__" p2) "__name__" pos) (tCnm X.K te) := ⟨fun pins s σ H Q I h => by
  refine attr_of hb2 (attr_of hb (thn (he.run pins s σ H _ I h) fun u s1 ⟨x, H1, I1, rx, a, C, dx, fs, n, ex, hc, hn, ea, ed, q⟩ => ?_))
  subst ex
  obtain rfl : u = Value.ref a := rx
  obtain ⟨t1, ho⟩ := exo_at I1.hok ea
  obtain ⟨mA, hns, hr⟩ := exd_at I1.hok ed
  obtain ⟨od, hod, _⟩ := lookIn_ns hns
  refine ec_get (ox := { cls := .ref C, dict := some dx, data := .fields #[.ref t1, .none, .none, .none, .bool false, .none] }) (od := some od) hc I1.kIn ⟨ho, rfl, rfl, hod⟩ ?_
  have I2 := I1.tok (s1.toks + 1)
  exact nm_get hn I2.kIn fun t u => ⟨.str n, H1, I2.tok _, ⟨t, rfl⟩, q⟩⟩
/-- o.m(e, ..), what it raises wished for at the caller's slots -/
def tMethX (C : Addr) (m : Str) (sp : Sp) (dvs : List V) (E : L2.St → XK) (ta : TE) (t : TA) : TE := fun σ H Q => ta σ H fun x H1 => ∃ (a dx : Addr) (fs : List (Str × V)), x = .ref a ∧ H1 a = some (.ins C dx fs) ∧ fs.lookup m = none ∧ t σ H1 fun vs H2 => sp (x :: (vs ++ dvs)) H2 Q (E σ)
theorem pe_methX {X : Cx} {CX : CXT} {k : Nat} {f C : Addr} {fd : FuncData} {ps : List Str} {sp : Sp} {dvs : List V} {ds : List Value} {E : L2.St → XK} {m : Str} {pos apos : Pos} {e o : Expr} {es : List Expr} {ta : TE} {t : TA} {pl : Sem Bool} (he : PE X o ta) (c : Cls X.K C) (hm : Meth X.K C m f) (F : FnOk X.prog X.w X.K X.mg X.base CX k f fd ps sp) (hr : Room k X.A) (hb : Binds X.K fd ps ds) (hd : Vals dvs ds) (hx : ∀ σ, PassesAt CX X σ (E σ)) (ha : PA X (e :: es) t)
    (hst : starEach (e :: es) X.env = (false, eval e X.env) :: starEach es X.env := by rfl) (hpl : (backTo pos (starEach es X.env)).any (·.1) = false := by rfl)
    (ht : eval (.Call (.Attribute o m apos) (e :: es) [] pos) X.env = (do let ov ← eval o X.env; standAt apos.atName; let (f, first) ← holding [ov] (getMethod ov m pl); callWith pos f first (backTo pos (starEach (e :: es) X.env)) (backToKw pos (keywordEach [] X.env))) := by rfl) :
    PE X (.Call (.Attribute o m apos) (e :: es) [] pos) (tMethX C m sp dvs E ta t) := ⟨fun pins s σ H Q I h => by
  refine PySem.W.methodCall_KW (pl := pl) (thn (he.run pins s σ H _ I h) fun u s1 ⟨x, H1, I1, rx, a, dx, fs, ex, ea, l, q⟩ => ?_) ht
  subst ex
  obtain rfl : u = Value.ref a := rx
  exact getmeth_ok I1 ea c hm l (PySem.W.callWith_K (first := [.ref a]) (h₀ := X.base) I.ok.mod.kin hm.kp (thn (ha.run pos pins s1 σ H1 _ I1 q) fun us s2 ⟨vs, H2, I2, r, q2⟩ => ⟨I2.kIn, run_fnSD (us := .ref a :: us) (vs := .ref a :: vs) F hr hb hd (hx σ) I2 (.cons rfl r) q2⟩) hst hpl)⟩
theorem vals_arr {its : Array Value} {xs : List V} (h : valsOk its xs = true) : Vals xs its.toList := by
  unfold valsOk at h
  rw [Bool.and_eq_true] at h
  exact vals_of (of_decide_eq_true h.2)
theorem dfl_of {K : PySem.W.Frag} {T : Addr} {oc : Value} {od : Option Addr} {its : Array Value} {n : Nat} {sl : Array (Option Value)} {dvs : List V} (l : K.lookup T = some ⟨oc, od, .seq its n, sl⟩) (h : valsOk its dvs = true) (ne : dvs ≠ []) : DflV K (.ref T) dvs :=
  .inr ⟨ne, T, _, its.toList, n, rfl, l, by rw [Array.toArray_toList], vals_arr h⟩
theorem fund_mk {K : PySem.W.Frag} {x qual : Str} {st : Stmt} {f : Addr} {dvs : List V} {oc : Value} {od an : Option Addr} {osl : Array (Option Value)} {dV kV doc pm cdv ct : Value} (l : K.lookup f = some ⟨oc, od, .func (PySem.W.fnOf x qual (defArgs st) (defBody st) (defScope st) dV kV doc pm an cdv ct), osl⟩)
    (c : PySem.W.codeIn K cdv qual = true) (k : PySem.W.keepIn K (.ref f) = true) (d : DflV K dV dvs) : FunD K x qual (defArgs st) (defBody st) (defScope st) dvs [] f (PySem.W.fnOf x qual (defArgs st) (defBody st) (defScope st) dV kV doc pm an cdv ct) :=
  ⟨⟨oc, od, dV, kV, doc, pm, an, cdv, ct, osl, rfl, l, c, d, .inl rfl⟩, k⟩
/-- an error is made: its class, its fields stand, all else as before -/
theorem r_mkO {σ : L2.St} {H : Hp} {Q : XK} {C : Addr} {sp : Sp} {dvs : List V} {ta : TA} (h : ta σ H fun vs H1 => vs.length ≤ 1000 ∧ ∀ a, H1 a = none → sp (.ref a :: (vs ++ dvs)) (upd H1 a (exo a C none))
    (fun v H2 => v = .non ∧ ∃ (d : Addr) (fs : List (Str × V)), H2 a = some (exo a C (some d)) ∧ H2 d = some (exd d fs) ∧ H1 d = none ∧ Q (.ref C) (some d) (upd (del H2 a) d (.xd fs))) (fun _ _ _ => False)) : tMkO C sp dvs ta σ H Q := h
theorem made_eq {H1 H2 : Hp} {a C d : Addr} {fs : List (Str × V)} (ha : H1 a = none) (k : ∀ b, b ≠ a → b ≠ d → H2 b = upd H1 a (exo a C none) b) : upd (del H2 a) d (.xd fs) = upd H1 d (.xd fs) := by
  funext b
  by_cases hd : b = d
  · subst hd; rw [L2.upd_same, L2.upd_same]
  · rw [L2.upd_ne hd, L2.upd_ne hd]
    by_cases hb : b = a
    · subst hb; rw [del_same, ha]
    · rw [del_ne hb, k b hb hd, L2.upd_ne hb]
theorem r_methX {H : Hp} {Q : VK} {σ : L2.St} {C : Addr} {m : Str} {sp : Sp} {dvs : List V} {E : L2.St → XK} {ta : TE} {t : TA} (h : ta σ H fun x H1 => objP C m x H1 fun H1 => t σ H1 fun vs H2 => sp (x :: (vs ++ dvs)) H2 Q (E σ)) : tMethX C m sp dvs E ta t σ H Q := h
theorem r_erI {K : PySem.W.Frag} {H : Hp} {Q : VK} {a C dd : Addr} {fs : List (Str × V)} {c : V} {cv : Value} {b : Bool} (hC : EcC K C) (hk : PySem.W.kitOne K (.ref C) cv = some b) (hcv : ∀ u, RelV c u → u = cv) (h : H dd = some (.xd fs)) (q : Q (.bl b) H) : rErI K a (.ref C) (some dd) [.ref a, c] H Q :=
  ⟨C, c, cv, b, dd, fs, rfl, rfl, hC, hcv, hk, rfl, h, q⟩
def erP (K : PySem.W.Frag) (a : Addr) (cls : Value) (d : Option Addr) (f : Str) (x : V) (H1 : Hp) (Q : VK) : Prop := x = .ref a ∧ ∃ (C : Addr) (dd : Addr) (fs : List (Str × V)) (v : V), cls = .ref C ∧ XfC K C ∧ PySem.W.findIn K (.ref C) f = some none ∧ d = some dd ∧ H1 dd = some (.xd fs) ∧ fs.lookup f = some v ∧ Q v H1
theorem r_erF {K : PySem.W.Frag} {H : Hp} {Q : VK} {σ : L2.St} {a : Addr} {cls : Value} {d : Option Addr} {f : Str} {te : TE} (h : te σ H fun x H1 => erP K a cls d f x H1 Q) : tErF K a cls d f te σ H Q := h
theorem r_erFP {K : PySem.W.Frag} {H : Hp} {Q : VK} {a C dd : Addr} {f : Str} {fs : List (Str × V)} {v : V} (X : XfC K C) (n : PySem.W.findIn K (.ref C) f = some none) (h : H dd = some (.xd fs)) (l : fs.lookup f = some v) (q : Q v H) : erP K a (.ref C) (some dd) f (.ref a) H Q :=
  ⟨rfl, C, dd, fs, v, rfl, X, n, rfl, h, l, q⟩
theorem r_makeD {H : Hp} {Q : VK} {σ : L2.St} {C : Addr} {sp : Sp} {dvs : List V} {E : XK} {t : TA} (h : t σ H fun vs H1 => ∀ x dx, H1 x = none → H1 dx = none → dx ≠ x → sp (.ref x :: (vs ++ dvs)) (upd (upd H1 dx (.own x)) x (.ins C dx [])) (fun v H2 => v = .non ∧ Q (.ref x) H2) E) : tMake C sp dvs E t σ H Q := h
theorem r_callS {sp : Sp} {E : L2.St → XK} {t : TA} {σ : L2.St} {H : Hp} {Q : VK} (h : t σ H fun vs H1 => sp vs H1 Q (E σ)) : tCallS sp E t σ H Q := h
theorem r_callSD {sp : Sp} {dvs : List V} {E : L2.St → XK} {t : TA} {σ : L2.St} {H : Hp} {Q : VK} (h : t σ H fun vs H1 => sp (vs ++ dvs) H1 Q (E σ)) : tCallSD sp dvs E t σ H Q := h
/-- tuples of a text and an int, compared -/
theorem si_shaped {s : Str} (n : Int) (h : PyData.strOk s = true) : SeqAt.shaped (.tuple [.str s, .int n]) = true := by
  unfold SeqAt.shaped
  simp [PyData.canLay0, PyData.canLayAll0, PyData.depth, PyData.depthAll, h]
theorem si_eqv (s : Str) (n : Int) : PyData.eqv (.tuple [.str s, .int n]) (.tuple [.str s, .int n]) = true := by
  simp [PyData.eqv, PyData.eqvAll]
theorem r_neT {H : Hp} {K : PySem.W.Frag} {Q : VK} {a b : Addr} {s : Str} {n : Int} (hs : PyData.strOk s = true) (ha : SqT K H a [.str s, .int n]) (hb : SqT K H b [.str s, .int n]) (q : Q (.bl false) H) : rNeD K (.ref a) (.ref b) H Q :=
  ⟨_, _, .tup ha (.cons (.str s) (.cons (.int n) .nil)), .tup hb (.cons (.str s) (.cons (.int n) .nil)), si_shaped n hs, si_shaped n hs, by rw [si_eqv]; exact q⟩
end Z

namespace Z
open PySem PySem.Spec PyProof.Rows L2
/-! ## nested tuples and dicts that the top has written -/
inductive Tr where
  | i (n : Int)
  | s (x : Str)
  | t (l : List Tr)
mutual
def okT (K : PySem.W.Frag) : Value → Tr → Bool
  | .int m _, .i n => decide (m = n)
  | .str y _, .s x => decide (y = x)
  | .ref a, .t l => match K.lookup a with
    | some ⟨.type "tuple", none, .seq its _, _⟩ => decide (its.size ≤ 100000) && okL K its.toList l
    | _ => false
  | _, _ => false
def okL (K : PySem.W.Frag) : List Value → List Tr → Bool
  | [], [] => true
  | v :: vs, t :: ts => okT K v t && okL K vs ts
  | _, _ => false
end
/-- what an item is -/
def VT (K : PySem.W.Frag) : V → Tr → Prop
  | .int m, .i n => m = n
  | .str y, .s x => y = x
  | .ref a, .t l => okT K (.ref a) (.t l) = true
  | _, _ => False
theorem okT_V {K : PySem.W.Frag} {v : Value} {t : Tr} (h : okT K v t = true) : ∃ x, RelV x v ∧ VT K x t := by
  cases t with
  | i n =>
    cases v with
    | int m t =>
      have z : m = n := of_decide_eq_true h
      exact ⟨.int m, ⟨t, rfl⟩, z⟩
    | _ => exact absurd (show false = true from h) Bool.false_ne_true
  | s y =>
    cases v with
    | str m t =>
      have z : m = y := of_decide_eq_true h
      exact ⟨.str m, ⟨t, rfl⟩, z⟩
    | _ => exact absurd (show false = true from h) Bool.false_ne_true
  | t l =>
    cases v with
    | ref a => exact ⟨.ref a, rfl, h⟩
    | _ => exact absurd (show false = true from h) Bool.false_ne_true
theorem okL_V {K : PySem.W.Frag} : ∀ {vs : List Value} {ts : List Tr}, okL K vs ts = true → ∃ xs : List V, Vals xs vs ∧ xs.length = ts.length ∧ ∀ (i : Nat) (c : Tr), ts[i]? = some c → ∃ x, xs[i]? = some x ∧ VT K x c
  | [], [], _ => ⟨[], .nil, rfl, fun i c h => by simp at h⟩
  | v :: vs, t :: ts, h => by
    unfold okL at h
    rw [Bool.and_eq_true] at h
    obtain ⟨x, r, q⟩ := okT_V h.1
    obtain ⟨xs, rs, hl, qs⟩ := okL_V h.2
    refine ⟨x :: xs, .cons r rs, by simp [hl], fun i c hi => ?_⟩
    match i with
    | 0 => simp at hi; subst hi; exact ⟨x, rfl, q⟩
    | i + 1 => exact qs i c (by simpa using hi)
  | [], _ :: _, h => by unfold okL at h; cases h
  | _ :: _, [], h => by unfold okL at h; cases h
theorem tr_tup {K : PySem.W.Frag} {a : Addr} {l : List Tr} (h : okT K (.ref a) (.t l) = true) :
    ∃ xs : List V, (∀ H, SqT K H a xs) ∧ xs.length = l.length ∧ (∀ (i : Nat) (c : Tr), l[i]? = some c → ∃ x, xs[i]? = some x ∧ VT K x c) ∧ ∀ H, tyV K "tuple" (.ref a) H := by
  unfold okT at h
  split at h
  · rename_i its n ss e
    rw [Bool.and_eq_true] at h
    obtain ⟨xs, rs, hl, q⟩ := okL_V h.2
    exact ⟨xs, fun H => .inr ⟨_, its, n, e, rfl, rfl, sz (of_decide_eq_true h.1), rs⟩, hl, q, fun H => .inr (.inl ⟨rfl, _, e, rfl, rfl⟩)⟩
  · cases h
theorem vt_i {K : PySem.W.Frag} {x : V} {n : Int} (h : VT K x (.i n)) : x = .int n := by
  cases x <;> first | (cases h; rfl) | cases h
theorem vt_s {K : PySem.W.Frag} {x : V} {y : Str} (h : VT K x (.s y)) : x = .str y := by
  cases x <;> first | (cases h; rfl) | cases h
theorem vt_t {K : PySem.W.Frag} {x : V} {l : List Tr} (h : VT K x (.t l)) : ∃ a, x = .ref a ∧ okT K (.ref a) (.t l) = true := by
  cases x <;> first | exact ⟨_, rfl, h⟩ | cases h
/-- t[i] of a written tuple -/
theorem r_tr {K : PySem.W.Frag} {H : Hp} {Q : VK} {a : Addr} {l : List Tr} {i : Int} {j : Nat} {c : Tr} (h : okT K (.ref a) (.t l) = true) (e : i = (j : Int)) (hc : l[j]? = some c) (q : ∀ x, VT K x c → Q x H) : rIxT K (.ref a) (.int i) H Q := by
  obtain ⟨xs, hs, _, hx, _⟩ := tr_tup h
  obtain ⟨x, e1, e2⟩ := hx j c hc
  subst e
  exact ⟨a, xs, j, x, rfl, rfl, hs H, atI_nat e1, q x e2⟩
theorem r_trI {K : PySem.W.Frag} {H : Hp} {Q : VK} {a : Addr} {l : List Tr} {i : Int} {j : Nat} {n : Int} (h : okT K (.ref a) (.t l) = true) (e : i = (j : Int)) (hc : l[j]? = some (.i n)) (q : Q (.int n) H) : rIxT K (.ref a) (.int i) H Q :=
  r_tr h e hc fun x hx => by rw [vt_i hx]; exact q
theorem r_trT {K : PySem.W.Frag} {H : Hp} {Q : VK} {a : Addr} {l m : List Tr} {i : Int} {j : Nat} (h : okT K (.ref a) (.t l) = true) (e : i = (j : Int)) (hc : l[j]? = some (.t m)) (q : ∀ b, okT K (.ref b) (.t m) = true → Q (.ref b) H) : rIxT K (.ref a) (.int i) H Q :=
  r_tr h e hc fun x hx => by obtain ⟨b, rfl, hb⟩ := vt_t hx; exact q b hb
/-- t.index(x) of a written tuple of texts -/
theorem tr_strs {K : PySem.W.Frag} {a : Addr} {ys : List Str} (h : okT K (.ref a) (.t (ys.map .s)) = true) : (∀ H, SqT K H a (ys.map V.str)) ∧ ∀ H, tyV K "tuple" (.ref a) H := by
  obtain ⟨xs, hs, hl, hx, ht⟩ := tr_tup h
  refine ⟨?_, ht⟩
  rw [show ys.map V.str = xs from ?_]; exact hs
  refine List.ext_getElem (by rw [hl, List.length_map, List.length_map]) fun i h1 h2 => ?_
  rw [List.length_map] at h1
  obtain ⟨x, e1, e2⟩ := hx i (.s ys[i]) (by rw [List.getElem?_map, List.getElem?_eq_getElem h1]; rfl)
  rw [vt_s e2, List.getElem?_eq_getElem h2] at e1
  rw [List.getElem_map]
  exact (Option.some.inj e1).symm
theorem r_tidx {K : PySem.W.Frag} {H : Hp} {Q : VK} {p : Addr} {ys : List Str} {z : Str} (j : Nat) (h : SqT K H p (ys.map V.str)) (e : ys[j]? = some z) (hn : ∀ m, m < j → ys[m]? ≠ some z) (q : Q (.int (j : Nat)) H) :
    ∃ p', ∃ ys : List Str, ∃ z' j, V.ref p = .ref p' ∧ [V.str z] = [.str z'] ∧ SqT K H p' (ys.map V.str) ∧ ys[j]? = some z' ∧ (∀ m, m < j → ys[m]? ≠ some z') ∧ Q (.int (j : Nat)) H := ⟨p, ys, z, j, rfl, rfl, h, e, hn, q⟩
/-- d[k] of a written dict -/
def KD (K : PySem.W.Frag) (w : World) (a : Addr) : Prop := ∃ es n, K.lookup a = some ⟨.type "dict", none, .dict es n, #[]⟩ ∧ PySem.W.KeysLit w.params es.toList
theorem r_kd {K : PySem.W.Frag} {w : World} {H : Hp} {Q : VK} {a : Addr} {z : Str} {u : Value} {v : V} (D : KD K w a) (h : PySem.W.nsIn K a z = some (some u)) (r : RelV v u) (q : Q v H) : rIxD K w (.ref a) (.str z) H Q := by
  obtain ⟨es, n, e, k⟩ := D
  exact ⟨a, z, v, rfl, rfl, ⟨es, n, u, e, k, h, r⟩, q⟩
theorem kd_mk {K : PySem.W.Frag} {w : World} {a : Addr} {es : Array DictEntry} {n : Nat} (e : K.lookup a = some ⟨.type "dict", none, .dict es n, #[]⟩) (k : PySem.W.KeysLit w.params es.toList) : KD K w a := ⟨es, n, e, k⟩
end Z

namespace Z
open PySem PySem.Spec PyProof.Rows L2
/-! ## numbers in base 2 -/
def binS (n : Nat) : Str := ⟨((Nat.toDigits 2 n).map Char.toNat).toArray⟩
def pc : Nat → Nat → Nat
  | 0, _ => 0
  | k + 1, n => n % 2 + pc k (n / 2)
theorem pc_zero : ∀ k, pc k 0 = 0
  | 0 => rfl
  | k + 1 => by show 0 % 2 + pc k (0 / 2) = 0; rw [Nat.zero_mod, Nat.zero_div, pc_zero k]
theorem core_ne : ∀ (f n : Nat) (ds : List Char), 0 < f → Nat.toDigitsCore 2 f n ds ≠ []
  | f + 1, n, ds, _ => by
    unfold Nat.toDigitsCore
    by_cases h : n / 2 = 0
    · simp only [h, if_true]; exact fun z => nomatch z
    · simp only [h, if_false]
      by_cases hf : f = 0
      · subst hf; unfold Nat.toDigitsCore; exact fun z => nomatch z
      · exact core_ne f _ _ (by omega)
theorem core_len : ∀ (f n : Nat) (ds : List Char), (Nat.toDigitsCore 2 f n ds).length ≤ ds.length + f
  | 0, n, ds => by simp [Nat.toDigitsCore]
  | f + 1, n, ds => by
    unfold Nat.toDigitsCore
    by_cases h : n / 2 = 0
    · simp only [h, if_true, List.length_cons]; omega
    · simp only [h, if_false]
      have := core_len f (n / 2) (Nat.digitChar (n % 2) :: ds)
      simp only [List.length_cons] at this
      omega
theorem core_pow : ∀ (k f n : Nat) (ds : List Char), 1 ≤ k → n < 2 ^ k → (Nat.toDigitsCore 2 f n ds).length ≤ ds.length + k
  | _, 0, _, ds, _, _ => by simp [Nat.toDigitsCore]
  | k, f + 1, n, ds, hk, hn => by
    unfold Nat.toDigitsCore
    by_cases h : n / 2 = 0
    · simp only [h, if_true, List.length_cons]; omega
    · simp only [h, if_false]
      have hk2 : 2 ≤ k := by
        by_cases h1 : k = 1
        · subst h1; omega
        · omega
      obtain ⟨j, rfl⟩ : ∃ j, k = j + 1 := ⟨k - 1, by omega⟩
      have hn' : n / 2 < 2 ^ j := by rw [Nat.pow_succ] at hn; omega
      have ih := core_pow j f (n / 2) (Nat.digitChar (n % 2) :: ds) (by omega) hn'
      simp only [List.length_cons] at ih
      omega
theorem digit_one (n : Nat) : (if ((Nat.digitChar (n % 2)).toNat == 49) = true then 1 else 0) = n % 2 := by
  rcases Nat.mod_two_eq_zero_or_one n with h | h <;> rw [h] <;> rfl
theorem core_pc : ∀ (k f n : Nat) (ds : List Char), n < f → n < 2 ^ k → ((Nat.toDigitsCore 2 f n ds).map Char.toNat).count 49 = pc k n + (ds.map Char.toNat).count 49
  | k, f + 1, n, ds, hf, hk => by
    unfold Nat.toDigitsCore
    have hd := digit_one n
    have hc : ((Nat.digitChar (n % 2) :: ds).map Char.toNat).count 49 = n % 2 + (ds.map Char.toNat).count 49 := by
      rw [List.map_cons, List.count_cons, hd, Nat.add_comm]
    by_cases h : n / 2 = 0
    · simp only [h, if_true]
      rw [hc]
      match k, hk with
      | 0, hk => have : n = 0 := by simpa using hk
                 subst this; rfl
      | k + 1, _ => show _ = n % 2 + pc k (n / 2) + _; rw [h, pc_zero, Nat.add_zero]
    · simp only [h, if_false]
      match k, hk with
      | 0, hk => have : n = 0 := by simpa using hk
                 omega
      | k + 1, hk =>
        rw [core_pc k f (n / 2) _ (by omega) (by rw [Nat.pow_succ] at hk; omega), hc]
        show _ = n % 2 + pc k (n / 2) + _
        omega
theorem binS_count {k n : Nat} (hk : n < 2 ^ k) : (binS n).cps.toList.count 49 = pc k n := by
  show ((Nat.toDigitsCore 2 (n + 1) n []).map Char.toNat).count 49 = _
  rw [core_pc k (n + 1) n [] (by omega) hk]; rfl
theorem binS_len {k n : Nat} (h1 : 1 ≤ k) (hk : n < 2 ^ k) : (binS n).length ≤ k := by
  show ((Nat.toDigitsCore 2 (n + 1) n []).map Char.toNat).toArray.size ≤ k
  rw [List.size_toArray, List.length_map]
  have := core_pow k (n + 1) n [] h1 hk
  simpa using this
/-! one sign counted -/
theorem occ_one (s sub : Str) (hi limit : Nat) (h1 : sub.length = 1) : ∀ (n a : Nat) (st : Array Nat × Nat), st.2 ≤ a → st.1.size + n ≤ limit →
    (forIn (List.range' a n) st (StrLaws.occBody s sub hi limit)).run.fst.size = st.1.size + ((List.range' a n).filter fun i => decide (i + 1 ≤ hi) && Builtin.Str.subAt s sub i).length
  | 0, a, st, _, _ => by simp
  | n + 1, a, st, h2, h3 => by
    rw [List.range'_succ, List.forIn_cons]
    by_cases hc : a + 1 ≤ hi ∧ Builtin.Str.subAt s sub a = true
    · have c1 : ((st.fst.size < limit ∧ st.snd ≤ a) ∧ a + 1 ≤ hi) ∧ Builtin.Str.subAt s sub a = true := ⟨⟨⟨by omega, h2⟩, hc.1⟩, hc.2⟩
      have hb : StrLaws.occBody s sub hi limit a st = pure (ForInStep.yield (st.fst.push a, a + 1)) := by unfold StrLaws.occBody; rw [h1, if_pos c1]
      rw [hb, List.filter_cons, if_pos (by rw [decide_eq_true hc.1, hc.2]; rfl)]
      have ih := occ_one s sub hi limit h1 n (a + 1) (st.fst.push a, a + 1) (Nat.le_refl _) (by simp only [Array.size_push]; omega)
      simp only [Array.size_push] at ih
      show (forIn (List.range' (a + 1) n) (st.fst.push a, a + 1) (StrLaws.occBody s sub hi limit)).run.fst.size = _
      rw [ih, List.length_cons]; omega
    · have c1 : ¬ (((st.fst.size < limit ∧ st.snd ≤ a) ∧ a + 1 ≤ hi) ∧ Builtin.Str.subAt s sub a = true) := fun z => hc ⟨z.1.2, z.2⟩
      have c2 : ¬ ((decide (a + 1 ≤ hi) && Builtin.Str.subAt s sub a) = true) := fun z => by
        rw [Bool.and_eq_true, decide_eq_true_eq] at z; exact hc z
      have hb : StrLaws.occBody s sub hi limit a st = pure (ForInStep.yield (st.fst, st.snd)) := by unfold StrLaws.occBody; rw [h1, if_neg c1]
      rw [hb, List.filter_cons, if_neg c2]
      exact occ_one s sub hi limit h1 n (a + 1) st (by omega) (by omega)
theorem filter_count (l : List Nat) (c : Nat) : ((List.range' 0 l.length).filter fun i => decide (l[i]? = some c)).length = l.count c := by
  induction l with
  | nil => rfl
  | cons x l ih =>
    rw [List.length_cons, List.range'_succ, List.filter_cons, List.count_cons]
    have e : ((List.range' (0 + 1) l.length).filter fun i => decide ((x :: l)[i]? = some c)).length = ((List.range' 0 l.length).filter fun i => decide (l[i]? = some c)).length := by
      rw [List.range'_eq_map_range, List.range'_eq_map_range, List.filter_map, List.filter_map, List.length_map, List.length_map]
      congr 1
      refine List.filter_congr fun i _ => ?_
      show decide ((x :: l)[0 + 1 + i]? = some c) = decide (l[0 + i]? = some c)
      rw [show 0 + 1 + i = (0 + i) + 1 by omega, List.getElem?_cons_succ]
    by_cases h : x = c
    · subst h
      rw [if_pos (by simp), List.length_cons, e, ih]; simp
    · rw [if_neg (by simpa using h), e, ih]; simp [h]
theorem sub_one (s : Str) (c i : Nat) (h : i < s.length) : Builtin.Str.subAt s ⟨#[c]⟩ i = decide (s.cps.toList[i]? = some c) := by
  unfold Builtin.Str.subAt
  have hl : i < s.cps.size := h
  have e : s.cps.extract i (i + Str.length ⟨#[c]⟩) = #[s.cps[i]] := by
    apply Array.ext
    · simp [Str.length]; omega
    · intro j h1 h2
      simp at h2
      subst h2
      simp
  rw [e]
  rw [Array.getElem?_toList, Array.getElem?_eq_getElem hl]
  by_cases h2 : s.cps[i] = c
  · subst h2; simp
  · simp [h2]
theorem count_one (s : Str) (c : Nat) : Txt.count s ⟨#[c]⟩ = (s.cps.toList.count c : Nat) := by
  show (((Builtin.Str.occurrences s ⟨#[c]⟩ 0 s.length (s.length + 1)).length : Nat) : Int) = _
  congr 1
  rw [StrLaws.occ_eq, Array.length_toList, occ_one s ⟨#[c]⟩ s.length (s.length + 1) rfl (s.length + 1 - 0) 0 (#[], 0) (Nat.le_refl _) (by simp)]
  rw [← filter_count]
  have e0 : s.cps.toList.length = s.length := by simp [Str.length]
  rw [e0, show s.length + 1 - 0 = s.length + 1 by omega, List.range'_concat, List.filter_append]
  have e1 : ((List.range' 0 s.length).filter fun i => decide (i + 1 ≤ s.length) && Builtin.Str.subAt s ⟨#[c]⟩ i) = (List.range' 0 s.length).filter fun i => decide (s.cps.toList[i]? = some c) := by
    refine List.filter_congr fun i hi => ?_
    have hi2 : i < s.length := by have := List.mem_range'_1.mp hi; omega
    rw [decide_eq_true (by omega : i + 1 ≤ s.length), Bool.true_and, sub_one s c i hi2]
  rw [e1]
  have e2 : ([0 + 1 * s.length].filter fun i => decide (i + 1 ≤ s.length) && Builtin.Str.subAt s ⟨#[c]⟩ i) = [] := by
    rw [List.filter_cons, if_neg (by rw [decide_eq_false (by omega)]; simp)]; rfl
  rw [e2]; simp

theorem bin_digits_ne (n : Nat) : ((Nat.toDigits 2 n).map fun c => (if (98 : Nat) == 88 then c.toUpper else c).toNat).isEmpty = false := by
  have := core_ne (n + 1) n [] (by omega)
  cases h : Nat.toDigits 2 n with
  | nil => exact absurd h this
  | cons _ _ => rfl
theorem fmt_field {f : Builtin.Float.FormatSpec} (n : Nat) (hf : f.fill = 32) (ha : f.align = 62) (hs : f.sign = none) (hw : f.width = none) (hg : f.grouping = none) :
    intField' f (decide ((n : Int) < 0)) [] ((Nat.toDigits 2 n).map fun c => (if (98 : Nat) == 88 then c.toUpper else c).toNat) [] 4 = binS n := by
  rw [decide_eq_false (by omega)]
  unfold intField' binS
  simp only [hf, ha, hs, hw, hg, bin_digits_ne]
  simp
end Z
namespace Z
open PySem PySem.Spec PyProof.Rows L2
open Builtin Float
def fb : FormatSpec := { align := 62, type := some 98 }
theorem fmt_b0 {prog : Program} {w : World} {A : Around} {E : Value → Shared → Prop} {s : Shared} {a : Int} {t : Tok} {spec T : Str} {f : FormatSpec} {Q : Value → Shared → Prop} (hf : f = fb)
    (hp : parseFormatSpec spec.cps.toList "int" 62 = .ok f)
    (hne : (spec.length == 0) = false)
    (hasc : ((spec.cps.toList.drop 1).any (· ≥ 128) || (spec.cps.getD 0 0 ≥ 128 && !([60, 62, 61, 94] : List Nat).contains (spec.cps.getD 1 0))) = false)
    (hT : intField' fb (decide (a < 0)) [] ((Nat.toDigits 2 a.natAbs).map fun c => (if (98 : Nat) == 88 then c.toUpper else c).toNat) [] 4 = T) (hlen : T.length ≤ sizeLine)
    (h : ∀ t' k, Q (.str T t') { s with toks := k }) (hsz : spec.length ≤ sizeLine) :
    wpAny (model prog w) A (formatField (.int a t) spec) Q E s := by
  have hty : f.type.getD (if spec.cps.back? == some 0 then 0 else 100) = 98 := by rw [hf]; rfl
  have hpr : f.precision = none := by rw [hf]; rfl
  have hz : f.noNeg0 = false := by rw [hf]; rfl
  have hal : f.alt = false := by rw [hf]; rfl
  have hw : f.width.getD 0 ≤ 100000 := by rw [hf]; decide
  show wpAny _ _ (holding [.int a t] (pyFormat (.int a t) spec)) Q E s
  refine wpAny_holding ?_
  unfold pyFormat
  refine wpAny_bind (wpAny_mkStr ?_ hsz)
  refine wpAny_bind (m := callSpecial? (.int a t) (Str.ofString "__format__") [.str spec s.toks]) (wpAny_callSpecial?_slot (name := Str.ofString "__format__") (typeIs_int _ a t) F.slot_int_format ?_)
  refine wpAny_call (codeAny_call_builtin F.slot_int_format.plain F.entry_int_format (F.slot_int_format.check _ _ _ _ _ _ _ _ (typeIs_int _ a t) (F.args_int_format_2 _ _) ?_))
  unfold Builtin.«int.__format__»
  simp only [selfAndOne, noKeywords, Int.intOfSelf, asInt?, asStr?, List.isEmpty_nil, if_true, pure_bind, bind_pure, bind_assoc, hne, hasc, Bool.false_eq_true, if_false,
    show (Value.str spec s.toks == Value.none) = false from rfl]
  refine wpAny_bind (wpAny_typeNameOf (T := "str") (typeIs_str _ _ _) (by decide) fun _ => ?_)
  refine wpAny_bind (wpAny_typeNameOfCut_int ?_)
  simp only [hp, hty]
  rw [if_pos (by decide)]
  show wpAny _ _ (if _ then _ else _) _ _ _
  rw [if_neg (by simp [hpr])]
  show wpAny _ _ (if _ then _ else _) _ _ _
  rw [if_neg (by simp [hz])]
  show wpAny _ _ (if _ then _ else _) _ _ _
  rw [if_neg (by decide)]
  show wpAny _ _ (if _ then _ else _) _ _ _
  have hw' : ¬ (f.width.getD 0 > 100000) := by omega
  rw [if_neg (by decide)]
  show wpAny _ _ (if _ then _ else _) _ _ _
  rw [if_neg (by simpa using hw')]
  show wpAny _ _ (retStr _) _ _ _
  have key : ∀ X, X = T → ∀ (A : Around) (Q' : Fin → Shared → Prop) (E' : Value → Shared → Prop) (s' : Shared), (∀ t k, Q' (.done (.ret (.str T t))) { s' with toks := k }) → wpAny (model prog w) A (retStr X) Q' E' s' :=
    fun X e A Q' E' s' hq => PySem.W.KXf.ret_text e (by rw [e]; exact hlen) hq
  refine key _ ?_ _ _ _ _ fun t' k => ?_
  · rw [hal, if_neg Bool.false_ne_true, if_neg (by decide)]
    subst hf
    exact hT
  · exact wpAny_bind (wpAny_isInstance (typeIs_str _ _ _) isSubtype_str_str (wpAny_pure (h t' k)))

theorem fmt_b {prog : Program} {w : World} {A : Around} {E : Value → Shared → Prop} {s : Shared} {Q : Value → Shared → Prop} {n : Nat} {t : Tok} (hn : n < 2 ^ 40)
    (h : ∀ t' k, Q (.str (binS n) t') { s with toks := k }) : wpAny (model prog w) A (formatField (.int (n : Int) t) "b") Q E s := by
  refine fmt_b0 (T := binS n) (f := fb) rfl (by rfl) (by decide) (by decide +kernel) ?_ (Nat.le_trans (binS_len (by decide) hn) (by decide)) h (by decide)
  exact fmt_field n rfl rfl rfl rfl rfl
end Z
namespace Z
open PySem PySem.Spec PyProof.Rows L2
/-- f'{e:b}' -/
def tFb (te : TE) : TE := fun σ H Q => te σ H fun x H1 => ∃ n : Nat, x = .int (n : Int) ∧ n < 2 ^ 40 ∧ Q (.str (binS n)) H1
theorem pe_fmtb {X : Cx} {e : Expr} {te : TE} {pos p1 p2 p3 : Pos} {k : Nat} (he : PE X e te) : PE X (.JoinedStr [.FormattedValue e (-1) (some (.JoinedStr [.Constant (.str "b") k p1] p2)) p3] pos) (tFb te) := ⟨fun pins s σ H Q I h => by
  refine JoinedStr_one (wpAny_FormattedValue_spec (thn (he.run pins s σ H _ I h) fun v s1 ⟨x, H1, I1, rx, n, ex, hn, q⟩ => ?_))
  subst ex
  obtain ⟨t, rfl⟩ := rx
  refine JoinedStr_one (Calls.Constant_str ⟨_, _, rfl, ?_⟩)
  exact fmt_b hn fun t' k => ⟨.str (binS n), H1, I1.tok _, ⟨_, rfl⟩, q⟩⟩
theorem r_fb {te : TE} {σ : L2.St} {H : Hp} {Q : VK} (h : te σ H fun x H1 => ∃ n : Nat, x = .int (n : Int) ∧ n < 2 ^ 40 ∧ Q (.str (binS n)) H1) : tFb te σ H Q := h
theorem r_m1 {r : V → List V → Hp → VK → Prop} {to te : TE} {σ : L2.St} {H : Hp} {Q : VK} (h : to σ H fun x H1 => (∃ a, x = .str a) ∧ te σ H1 fun y H2 => r x [y] H2 Q) : tM1 r to te σ H Q := h
theorem r_cnt1 {H : Hp} {Q : VK} {s : Str} (q : Q (.int (s.cps.toList.count 49 : Nat)) H) : ∃ a b, V.str s = .str a ∧ [V.str "1"] = [.str b] ∧ Q (.int (Txt.count a b)) H :=
  ⟨s, "1", rfl, rfl, by rw [show ("1" : Str) = ⟨#[49]⟩ by rfl, count_one]; exact q⟩
def blN (n : Nat) : Nat := if n = 0 then 0 else n.log2 + 1
theorem bits_nat (n : Nat) : Builtin.Int.intBits (n : Int) = blN n := by
  unfold Builtin.Int.intBits blN
  by_cases h : n = 0
  · subst h; rfl
  · rw [if_neg h, if_neg (by simp; omega)]; rfl
theorem r_bits {te : TE} {σ : L2.St} {H : Hp} {Q : VK} (h : te σ H fun x H1 => ∃ i, x = .int i ∧ Q (.int (Builtin.Int.intBits i : Nat)) H1) : tBits te σ H Q := h
theorem r_bitsI {n : Nat} {H : Hp} {Q : VK} (q : Q (.int (blN n : Nat)) H) : ∃ i, V.int (n : Int) = .int i ∧ Q (.int (Builtin.Int.intBits i : Nat)) H := ⟨n, rfl, by rw [bits_nat]; exact q⟩
theorem r_min2 {i j : Int} {H : Hp} {Q : VK} (q : Q (.int (if j < i then j else i)) H) : ∃ i' j', [V.int i, V.int j] = [V.int i', V.int j'] ∧ Q (.int (if j' < i' then j' else i')) H := ⟨i, j, rfl, q⟩
/-! bits counted -/
theorem pc_xor : ∀ (k a b : Nat), pc k (a ^^^ b) ≤ pc k a + pc k b
  | 0, _, _ => Nat.le_refl _
  | k + 1, a, b => by
    have e : (a ^^^ b) / 2 = a / 2 ^^^ b / 2 := by
      have := Nat.shiftRight_xor_distrib (a := a) (b := b) (i := 1)
      simpa [Nat.shiftRight_eq_div_pow] using this
    have ih := pc_xor k (a / 2) (b / 2)
    have hx := @Nat.xor_mod_two_eq_one a b
    have h1 := Nat.mod_two_eq_zero_or_one a
    have h2 := Nat.mod_two_eq_zero_or_one b
    have h3 := Nat.mod_two_eq_zero_or_one (a ^^^ b)
    show (a ^^^ b) % 2 + pc k ((a ^^^ b) / 2) ≤ (a % 2 + pc k (a / 2)) + (b % 2 + pc k (b / 2))
    rw [e]
    generalize (a ^^^ b) % 2 = z at *
    generalize a % 2 = x at *
    generalize b % 2 = y at *
    generalize pc k (a / 2 ^^^ b / 2) = u at *
    omega
theorem pc_tri (k a b c : Nat) : pc k (a ^^^ c) ≤ pc k (a ^^^ b) + pc k (b ^^^ c) := by
  have := pc_xor k (a ^^^ b) (b ^^^ c)
  rw [Nat.xor_assoc, ← Nat.xor_assoc b b c, Nat.xor_self, Nat.zero_xor] at this
  exact this
def farK (x : Nat) : Nat → Nat
  | 0 => 0
  | k + 1 => farK x k + (x >>> k) % 2
theorem farK_half (x : Nat) : ∀ k, farK x (k + 1) = x % 2 + farK (x / 2) k
  | 0 => by show 0 + (x >>> 0) % 2 = x % 2 + 0; simp
  | k + 1 => by
    have e : x >>> (k + 1) = (x / 2) >>> k := by
      rw [Nat.shiftRight_eq_div_pow, Nat.shiftRight_eq_div_pow, Nat.div_div_eq_div_mul, Nat.pow_succ, Nat.mul_comm]
    show farK x (k + 1) + (x >>> (k + 1)) % 2 = x % 2 + (farK (x / 2) k + ((x / 2) >>> k) % 2)
    rw [farK_half x k, e]; omega
theorem farK_pc : ∀ (k x : Nat), farK x k = pc k x
  | 0, _ => rfl
  | k + 1, x => by
    rw [farK_half, farK_pc k (x / 2)]; rfl
theorem r_while {c : TT} {tb : TS} {D : Ends} {σ : L2.St} {H : Hp} (W : Nat → L2.St → Hp → Prop) (m : Nat) (h0 : W m σ H)
    (hs : ∀ m σ H, W m σ H → c σ H fun b H1 => if b = true then ∃ N : L2.St → Hp → Prop, (∀ σ' H', N σ' H' → ∃ m', m' < m ∧ W m' σ' H') ∧ tb { D with nx := N, ct := N, bk := D.nx } σ H1 else D.nx σ H1) : tWhile c tb D σ H := ⟨W, ⟨m, h0⟩, hs⟩
end Z

namespace Z
open PySem PySem.Spec PyProof.Rows L2
/-! ## several except clauses, with and without a name -/
abbrev Suite := Addr → Value → Option Addr → TS
/-- what the clauses wish -/
def wHs (K : PySem.W.Frag) (Wx : WX) (D : Ends) : List (Value × Option Nat × Suite) → WX
  | [] => Wx
  | (c, none, ts) :: r => fun cls d σ H => ∃ b, PySem.W.exmOne K cls c = some b ∧ (b = true → ∀ a, H a = none → ts a cls d D σ H) ∧ (b = false → wHs K Wx D r cls d σ H)
  | (c, some i, ts) :: r => fun cls d σ H => ∃ b, PySem.W.exmOne K cls c = some b ∧ (b = true → ∀ a, H a = none → ts a cls d { nx := fun τ G => D.nx (τ.set i none) G, rt := D.rt, bk := fun τ G => D.bk (τ.set i none) G, ct := fun τ G => D.ct (τ.set i none) G } (σ.set i (some (.ref a))) H) ∧ (b = false → wHs K Wx D r cls d σ H)
inductive Hs (X : Cx) : List ExceptHandler → List (Value × Option Nat × Suite) → Prop
  | nil : Hs X [] []
  | bare {x : Str} {c : Value} {ts : Suite} {b0 : Stmt} {sts : List Stmt} {p1 p2 : Pos} {hs : List ExceptHandler} {l : List (Value × Option Nat × Suite)} (hc : Names X x c)
      (hS : ∀ (a : Addr) (oe : Obj) (cls : Value) (d : Option Addr) (pn : List (Addr × Obj)), Zc cls d oe → (∃ us, oe.data = .fields us) → PSs (X.suite a ((a, oe) :: pn)) (b0 :: sts) (ts a cls d)) (r : Hs X hs l) :
      Hs X (.ExceptHandler (some (.Name x p1)) none (b0 :: sts) p2 :: hs) ((c, none, ts) :: l)
  | named {x n : Str} {i : Nat} {c : Value} {ts : Suite} {b0 : Stmt} {sts : List Stmt} {p1 p2 : Pos} {hs : List ExceptHandler} {l : List (Value × Option Nat × Suite)} (hN : X.N.Nodup) (hi : X.N[i]? = some n) (hn : X.env.kindOf n = some .local) (hc : Names X x c)
      (hS : ∀ (a : Addr) (oe : Obj) (cls : Value) (d : Option Addr) (pn : List (Addr × Obj)), Zc cls d oe → (∃ us, oe.data = .fields us) → PSs (X.suite a ((a, oe) :: pn)) (b0 :: sts) (ts a cls d)) (r : Hs X hs l) :
      Hs X (.ExceptHandler (some (.Name x p1)) (some n) (b0 :: sts) p2 :: hs) ((c, some i, ts) :: l)
section
variable {X : Cx} {bd : List Stmt} {hd0 : ExceptHandler} {hds : List ExceptHandler} {cl : List (Value × Option Nat × Suite)} {tpos : Pos} {tb : WX → TS} {Wx : WX}
set_option maxHeartbeats 4000000 in
theorem ps_tries (h1 : X.stack = X.env :: X.outer) (h2 : X.env.frame = some X.env.locals) (tk : Takes X Wx)
    (body : ∀ (W : WX) (pn : List (Addr × Obj)) (xe : Value → Shared → Prop), Takes (X.tr pn xe) W → PassesOwn (model X.prog X.w) X.A X.env xe → PSs (X.tr pn xe) bd (tb W))
    (hh : Hs X (hd0 :: hds) cl) : PS X (.Try bd (hd0 :: hds) [] [] tpos) (fun D σ H => tb (wHs X.K Wx D cl) D σ H) := by
  refine ⟨fun pins s σ H D J0 wish => ?_⟩
  have ok0 := J0.ok
  have frm : X.A.frames = some (X.env :: X.outer) := by rw [ok0.frames, h1]
  refine wpAny_Try_except (wpAny_mono ((body (wHs X.K Wx D cl) (X.pn ++ pins) (fun u t1 => wpAny (model X.prog X.w) X.A (noteFrame u X.env) (fun _ t2 => wpAny (model X.prog X.w) X.A (setFlight u none) (fun _ t3 =>
    wpAny (model X.prog X.w) X.A (handleBy u X.env (hd0 :: hds)) (SP X pins D) X.xe t3) X.xe t2) X.xe t1) (fun u t' xx => ?_) PassesOwn.looking).run [] s σ H D (J0.toTry _) wish) (fun fl t1 hsp => ?_) (fun u t1 he => he))
  · obtain ⟨a, B, sI, pins', τ, G, cls, d, rfl, Jt, nb, up, sky, fresh, os, ag, ww⟩ := xx
    have Ja : Inv X pins τ G sI := Jt.ofTry ok0
    have sky2 : Sky B (X.env :: X.outer) a (Zc cls d) X.env.locals t'.heap := by rw [← h1]; exact sky
    show wpAny (model X.prog X.w) X.A (noteFrame (.ref a) X.env) _ _ _
    refine Sky.land Zc.steady frm h2 sky2 fun g3 fl3 up3 => ?_
    have J3 : Inv X pins τ G { t' with heap := g3 } := Ja.landed nb fl3.1 (up.trans up3) os ag
    obtain ⟨o3, us3, at3, z3, dt3⟩ := fl3.there
    have off : ∀ {g : Heap} {o : Obj} {us : Array Value}, g.FunFrames B (X.env :: X.outer) → g.get? a = some o → o.data = .fields us → a ∉ frs (X.env :: X.outer) := fun {g o us} ff e1 e2 hm => by
      obtain ⟨_, o2, e3, no⟩ := ff.mem hm
      rw [e1] at e3
      cases e3
      exact no _ e2
    have out := off fl3.2.2.1 at3 dt3
    have aL : a ≠ X.env.locals := fun z => out (List.mem_filterMap.mpr ⟨X.env, List.mem_cons_self, by rw [h2, z]⟩)
    have aF : a ∉ X.fs := fun hm => by
      obtain ⟨e1, e2, e3⟩ := List.mem_filterMap.mp hm
      exact out (List.mem_filterMap.mpr ⟨e1, List.mem_cons_of_mem _ e2, e3⟩)
    have S3 := J3.suite at3 dt3 fresh aL aF
    have LT : PySem.W.Looks (model X.prog X.w) g3 (typeOf (.ref a)) cls := fun A Q E t k q => wpAny_typeOf_ref (k _ _ at3) (by rw [z3.1]; exact q)
    have test : ∀ {x : Str} {p1 : Pos} {c : Value} {Q E : Value → Shared → Prop}, Names X x c → Q c { t' with heap := g3 } → wpAny (model X.prog X.w) (X.A.mark (some (.ref a))) (eval (.Name x p1) X.env) Q E { t' with heap := g3 } := fun {x p1 c Q E} nm q => by
      obtain ⟨m1, m2, m3 | ⟨m3, m4, m5⟩⟩ := nm
      · exact ld_glob (X := X.suite a ((a, o3) :: (X.pn ++ pins))) S3 m1 m3 q m2
      · exact ld_blt (X := X.suite a ((a, o3) :: (X.pn ++ pins))) S3 m1 m3 m4 q m5 m2
    have go : ∀ {hl : List ExceptHandler} {cl' : List (Value × Option Nat × Suite)}, Hs X hl cl' → wHs X.K Wx D cl' cls d τ G → wpAny (model X.prog X.w) X.A (handleBy (.ref a) X.env hl) (SP X pins D) X.xe { t' with heap := g3 } := by
      intro hl cl' hk
      induction hk with
      | nil =>
        intro ww
        refine wpAny_handleBy_nil ?_
        obtain ⟨_, _, _, o4, us4, T4, oT4, ts4, e1, e2, e3, e4, e5⟩ := id fl3
        unfold PySem.passOn
        refine wpAny_bind (wpAny_field e1 e3 e4 ?_)
        rw [if_neg (by simp)]
        have fin : wpAny (model X.prog X.w) X.A (setFlight (.ref a) X.env.frame) (fun _ t4 => wpAny (model X.prog X.w) X.A (throw (.ref a) : Sem Flow) (SP X pins D) X.xe t4) X.xe { t' with heap := g3 } := by
          rw [h2]
          refine HandSPX.setFlight_upZ fl3 fun g4 fl4 up4 => wpAny_throw (tk _ _ ⟨a, B, sI, pins, τ, G, cls, d, rfl, Ja, nb, (up.trans up3).trans up4, .inr (.inr (by rw [h1]; exact fl4)), fresh, os, ag, ww⟩)
        first | exact wpAny_bind (wpAny_pure (wpAny_bind fin)) | exact wpAny_bind fin
      | @bare x c ts b0 sts p1 p2 hs l hc hS r ih =>
        intro ww
        obtain ⟨b, eb, yes, no⟩ := ww
        refine wpAny_handleBy_cons (codeAny_handlers_test (test hc ((PySem.W.exm_one (M := model X.prog X.w) (J3.kIn) LT eb).here ?_))) (by intro q; cases q)
        cases b with
        | false => exact ih (no rfl)
        | true =>
          refine codeAny_handlers_suite (HandSPX.lands_againZ fl3 fun g4 fl4 up4 => ?_)
          have J4 : Inv X pins τ G { t' with heap := g4 } := Ja.landed nb fl4.1 ((up.trans up3).trans up4) os ag
          obtain ⟨o4, us4, at4, z4, dt4⟩ := fl4.there
          refine wpAny_mono ((hS a o4 cls d (X.pn ++ pins) z4 ⟨_, dt4⟩).run [] _ _ G _ (J4.suite at4 dt4 fresh aL aF) (yes rfl a fresh)) (fun f t6 hp => ?_) (fun _ _ z => False.elim z)
          cases f with
          | next => obtain ⟨τ6, G6, S6, q6⟩ := hp; exact ⟨_, _, S6.unsuite ok0, q6⟩
          | brk => obtain ⟨τ6, G6, S6, q6⟩ := hp; exact ⟨_, _, S6.unsuite ok0, q6⟩
          | cont => obtain ⟨τ6, G6, S6, q6⟩ := hp; exact ⟨_, _, S6.unsuite ok0, q6⟩
          | ret u => obtain ⟨v6, τ6, G6, S6, r6, q6⟩ := hp; exact ⟨_, _, _, S6.unsuite ok0, r6, q6⟩
      | @named x n i c ts b0 sts p1 p2 hs l hN hi hn hc hS r ih =>
        intro ww
        obtain ⟨b, eb, yes, no⟩ := ww
        refine wpAny_handleBy_cons (codeAny_handlers_test (test hc ((PySem.W.exm_one (M := model X.prog X.w) (J3.kIn) LT eb).here ?_))) (by intro q; cases q)
        cases b with
        | false => exact ih (no rfl)
        | true =>
          refine codeAny_handlers_suite_as (HandSPX.lands_againZ fl3 fun g4 fl4 up4 => ?_)
          have J4 : Inv X pins τ G { t' with heap := g4 } := Ja.landed nb fl4.1 ((up.trans up3).trans up4) os ag
          obtain ⟨o4, us4, at4, z4, dt4⟩ := fl4.there
          refine store_ok (X := X.suite a ((a, o4) :: (X.pn ++ pins))) (v := .ref a) (J4.suite at4 dt4 fresh aL aF) hN hi (.inl hn) rfl (fun t5 S5 => ?_) (.inr hn)
          refine wpAny_mono ((hS a o4 cls d (X.pn ++ pins) z4 ⟨_, dt4⟩).run [] t5 _ G _ S5 (yes rfl a fresh)) (fun f t6 hp => ?_) (fun _ _ z => False.elim z)
          have leave : ∀ {τ6 : L2.St} {G6 : Hp} {R : Shared → Prop}, Inv (X.suite a ((a, o4) :: (X.pn ++ pins))) [] τ6 G6 t6 → (∀ t7, Inv X pins (τ6.set i none) G6 t7 → R t7) →
              wpAny (model X.prog X.w) X.A (do bindName X.env n .none; unbindBehindTheSuite X.env n p2) (fun _ t7 => R t7) X.xe t6 := fun {τ6 G6 R} S6 k => gone_ok (S6.unsuite ok0) hN hi hn k
          cases f with
          | next => obtain ⟨τ6, G6, S6, q6⟩ := hp; exact leave S6 fun t7 J7 => ⟨_, _, J7, q6⟩
          | brk => obtain ⟨τ6, G6, S6, q6⟩ := hp; exact leave S6 fun t7 J7 => ⟨_, _, J7, q6⟩
          | cont => obtain ⟨τ6, G6, S6, q6⟩ := hp; exact leave S6 fun t7 J7 => ⟨_, _, J7, q6⟩
          | ret u => obtain ⟨v6, τ6, G6, S6, r6, q6⟩ := hp; exact leave S6 fun t7 J7 => ⟨_, _, _, J7, r6, q6⟩
    exact go hh ww
  · cases fl with
    | next => obtain ⟨τ, G, Jt, q⟩ := hsp; exact wpAny_execs_nil ⟨τ, G, Jt.ofTry ok0, q⟩
    | brk => obtain ⟨τ, G, Jt, q⟩ := hsp; exact ⟨τ, G, Jt.ofTry ok0, q⟩
    | cont => obtain ⟨τ, G, Jt, q⟩ := hsp; exact ⟨τ, G, Jt.ofTry ok0, q⟩
    | ret u => obtain ⟨v, τ, G, Jt, r, q⟩ := hsp; exact ⟨v, τ, G, Jt.ofTry ok0, r, q⟩
end
/-- a tuple walked through -/
theorem for_tupT {D : Ends} {H : Hp} {K : PySem.W.Frag} {σ : L2.St} {tl : TE} {g : TG} {tb : TS} (h : tl σ H fun x H1 => ∃ a, x = .ref a ∧ (∃ xs, SqT K H1 a xs) ∧ ∃ W : Nat → Nat → L2.St → Hp → Prop, (∃ m, W 0 m σ H1) ∧ ∀ i m σ H, W i m σ H →
  ((Itt K a).stop i H ∧ D.nx σ H) ∨ ((Itt K a).go i H ∧ ∃ N : L2.St → Hp → Prop, (∀ σ' H', N σ' H' → ∃ m', m' < m ∧ W (i + 1) m' σ' H') ∧ ∀ x H', (Itt K a).yld i H x H' → g x σ H' fun σ2 H2 => tb { D with nx := N, ct := N, bk := D.nx } σ2 H2)) : tFor (iTup K tl) g tb D σ H := h
theorem tup_go {D : Ends} {H : Hp} {K : PySem.W.Frag} {σ : L2.St} {a : Addr} {xs : List V} {g : TG} {tb : TS} (hx : ∀ H, SqT K H a xs) (Pv : Nat → L2.St → Hp → Prop) (h0 : Pv 0 σ H)
    (hs : ∀ i x σ H, xs[i]? = some x → Pv i σ H → g x σ H fun σ2 H2 => tb { D with nx := Pv (i + 1), ct := Pv (i + 1), bk := D.nx } σ2 H2) (hd : ∀ σ H, Pv xs.length σ H → D.nx σ H) :
    ∃ a', V.ref a = .ref a' ∧ (∃ xs, SqT K H a' xs) ∧ ∃ W : Nat → Nat → L2.St → Hp → Prop, (∃ m, W 0 m σ H) ∧ ∀ i m σ H, W i m σ H →
  ((Itt K a').stop i H ∧ D.nx σ H) ∨ ((Itt K a').go i H ∧ ∃ N : L2.St → Hp → Prop, (∀ σ' H', N σ' H' → ∃ m', m' < m ∧ W (i + 1) m' σ' H') ∧ ∀ x H', (Itt K a').yld i H x H' → g x σ H' fun σ2 H2 => tb { D with nx := N, ct := N, bk := D.nx } σ2 H2) :=
  ⟨a, rfl, ⟨xs, hx H⟩, for_tup (K := K) Pv h0 (fun _ _ H _ _ => hx H) hs hd⟩
theorem r_revL {K : PySem.W.Frag} {σ : L2.St} {H : Hp} {Q : VK} {te : TE} (h : te σ H fun x H1 => ∃ a xs, x = .ref a ∧ SqL K H1 a xs ∧ ∀ p, H1 p = none → Q (.ref p) (upd H1 p (.lst xs.reverse))) : tRevL K te σ H Q := h
end Z

/-! ## the words: wtm_at "1" one step, "r" steps as far as they go, "h" a heap fact, "s" a side condition, "n" two addresses apart, "m" all that was tracked is as it was -/
local macro_rules | `(tactic| wtm_at "s") => `(tactic| first
  | (with_reducible assumption)
  | ((with_reducible refine Z.c_div ?_ ?_) <;> first | omega | decide)
  | ((with_reducible refine Z.c_mulR ?_ ?_) <;> first | omega | decide)
  | ((with_reducible refine Z.c_mulL ?_ ?_) <;> first | omega | decide)
  | ((with_reducible refine Z.c_pow ?_ ?_ ?_) <;> first | omega | decide)
  | omega | decide)
local macro_rules | `(tactic| wtm_at "n") => `(tactic| first
  | assumption | exact Ne.symm (by assumption)
  | exact Z.ne_of' (by assumption) (by wtm_at "h")
  | exact Ne.symm (Z.ne_of' (by assumption) (by wtm_at "h")))
local macro_rules | `(tactic| wtm_at "h") => `(tactic| with_reducible first
  | exact L2.upd_same
  | assumption
  | exact Eq.trans (L2.upd_ne (by wtm_at "n")) (by wtm_at "h")
  | exact Z.s_at (by assumption) (by wtm_at "h"))
local macro_rules | `(tactic| wtm_at "ql") => `(tactic| with_reducible first
  | assumption
  | exact Z.sq_l (by wtm_at "h")
  | exact Z.s_sq (by assumption) (by wtm_at "ql")
  | exact Z.s_sq (Z.s_upd (by assumption)) (by wtm_at "ql"))
local macro_rules | `(tactic| wtm_at "qt") => `(tactic| with_reducible first
  | assumption
  | exact Z.sq_t (by wtm_at "h")
  | exact Z.s_st (by assumption) (by wtm_at "qt")
  | exact Z.s_st (Z.s_upd (by assumption)) (by wtm_at "qt"))
local macro_rules | `(tactic| wtm_at "f") => `(tactic| with_reducible first
  | assumption
  | exact Z.s_back (by assumption) (by wtm_at "f"))
local macro_rules | `(tactic| wtm_at "m") => `(tactic| with_reducible first
  | exact L2.Same.refl _
  | assumption
  | exact L2.Same.trans (by wtm_at "m") (Z.s_upd (by assumption))
  | exact Z.s_mut (by wtm_at "m") (by wtm_at "f")
  | exact L2.Same.trans (by wtm_at "m") (by assumption))
local macro_rules | `(tactic| wtm_at "z") => `(tactic| first
  | (refine Z.szl ?_; simp only [List.length_map, List.length_append, List.length_cons, List.length_nil]; omega)
  | (refine Z.sz ?_; simp only [List.length_map, List.length_append, List.length_cons, List.length_nil]; omega))
local macro_rules | `(tactic| wtm_at "set") => `(tactic| (simp only [List.set_cons_zero, List.set_cons_succ]; rfl))
local macro_rules | `(tactic| wtm_at "1") => `(tactic| with_reducible first
  | refine Z.r_seq ?_ | refine Z.r_asg ?_
  | (refine' Z.r_gname ?c ?_; (case c => wtm_at "set"))
  | refine Z.r_v0 ?_ | refine Z.r_v1 ?_ | refine Z.r_v2 ?_ | refine Z.r_vS ?_ | refine Z.r_c ?_
  | refine Z.r_op ?_ | refine Z.r_lt ?_ | refine Z.r_le ?_ | refine Z.r_gt ?_ | refine Z.r_ge ?_ | refine Z.r_I0 ?_ | (refine' Z.r_I ?c ?_; (case c => wtm_at "s")) | refine Z.r_cons ?_ | refine Z.r_nil ?_
  | refine Z.r_eqI ?_ | refine Z.r_neI ?_ | refine Z.r_test ?_ | refine Z.r_bl ?_ | refine Z.r_if ?_
  | refine Z.r_cb ?_ | refine Z.r_call ?_ | refine Z.r_int ?_
  | refine Z.r_ret ?_ | refine Z.r_drop ?_ | refine Z.r_next ?_ | refine Z.r_brk ?_ | refine Z.r_cnt ?_ | refine Z.r_retN ?_
  | refine Z.i_t ?_ | refine Z.i_f ?_ | refine Z.i_nt ?_ | refine Z.i_nf ?_
  | refine Z.r_and ?_ | refine Z.r_or ?_ | refine Z.r_not ?_ | refine Z.r_andV ?_ | refine Z.r_orV ?_ | refine Z.r_notV ?_ | refine Z.r_tB ?_ | refine Z.r_ifE ?_
  | refine Z.r_chain ?_ | refine Z.r_un ?_ | refine Z.r_U ?_
  | refine Z.r_new ?_ | refine Z.r_tup ?_ | refine Z.r_bm ?_ | (refine' Z.ty_lst ?c ?_; (case c => wtm_at "ql"))
  | (refine' Z.r_append ?c ?d ?_; (case c => wtm_at "h"); (case d => wtm_at "z"))
  | (refine' Z.r_lenL ?c ?_; (case c => first | assumption | exact Z.sq_l (by assumption))) | (refine' Z.r_lenT ?c ?_; (case c => first | assumption | exact Z.sq_t (by assumption)))
  | (refine' Z.r_lenL ?c ?_; (case c => wtm_at "ql")) | (refine' Z.r_lenT ?c ?_; (case c => wtm_at "qt"))
  | refine Z.r_sl ?_ | refine Z.r_noPart ?_ | refine Z.r_part ?_ | refine Z.r_pint ?_
  | refine Z.r_isB ?_ | refine Z.r_notB ?_ | refine Z.r_eqB ?_ | refine Z.r_neB ?_ | refine Z.r_eqS ?_ | refine Z.r_neS ?_
  | refine Z.r_fld ?_ | refine Z.r_sfld ?_ | refine Z.r_make ?_ | refine Z.r_meth ?_ | refine Z.for_rng3 ?_ | refine Z.lc_rng3 ?_ | refine Z.lc_rng ?_ | refine Z.lc_rng2 ?_ | refine Z.lc_lst ?_ | refine Z.r_gsub ?_ | refine Z.for_enum ?_ | refine Z.r_intB ?_
  | refine Z.for_lst ?_ | refine Z.for_rng ?_ | refine Z.for_rng2 ?_)
local macro_rules | `(tactic| wtm_at "w") => `(tactic| simp only [L2.wipe, List.map_cons, List.map_nil, List.set_cons_zero, List.set_cons_succ])
local macro_rules | `(tactic| wtm_at "r") => `(tactic| repeat (wtm_at "1"))
local macro_rules | `(tactic| wtm_at "e") => `(tactic| repeat (first | (with_reducible first | refine Z.r_methX ?_ | refine Z.r_erF ?_) | wtm_at "1"))
local macro_rules | `(tactic| wtm_at "1") => `(tactic| with_reducible first | refine Z.r_callS ?_ | refine Z.r_callSD ?_)
local macro_rules | `(tactic| wtm_at "1") => `(tactic| with_reducible first | refine Z.r_fb ?_ | refine Z.r_m1 ?_ | refine Z.r_bits ?_ | refine Z.r_bitsI ?_ | refine Z.r_min2 ?_)
local macro_rules | `(tactic| wtm_at "1") => `(tactic| with_reducible first | refine Z.for_tupT ?_ | refine Z.r_revL ?_)

namespace M_k35
open PySem PySem.Spec PyProof.Rows L2
def topS (i : Nat) : Stmt := PySem.Challenge.pw_dotfield_k35_any_bits_as_segments.main.body.getD i (.Pass ⟨0, 0, 0, 0⟩)
abbrev s_DotfieldError___init__ : Stmt := (inClass (topS 1) 0)
abbrev sl_DotfieldError___init__ : List Str := ["self", "place"]
abbrev pl_DotfieldError___init__ : List Str := ["self", "place"]
theorem sc_DotfieldError___init__ : FnScope sl_DotfieldError___init__ pl_DotfieldError___init__ (defScope s_DotfieldError___init__) := ⟨rfl, rfl, rfl, by decide +kernel, rfl, by decide +kernel, by decide +kernel⟩
abbrev s_BitReader___init__ : Stmt := (inClass (topS 6) 0)
abbrev sl_BitReader___init__ : List Str := ["self", "bits", "at"]
abbrev pl_BitReader___init__ : List Str := ["self", "bits", "at"]
theorem sc_BitReader___init__ : FnScope sl_BitReader___init__ pl_BitReader___init__ (defScope s_BitReader___init__) := ⟨rfl, rfl, rfl, by decide +kernel, rfl, by decide +kernel, by decide +kernel⟩
abbrev s_BitReader_left : Stmt := (inClass (topS 6) 2)
abbrev sl_BitReader_left : List Str := ["self"]
abbrev pl_BitReader_left : List Str := ["self"]
theorem sc_BitReader_left : FnScope sl_BitReader_left pl_BitReader_left (defScope s_BitReader_left) := ⟨rfl, rfl, rfl, by decide +kernel, rfl, by decide +kernel, by decide +kernel⟩
abbrev s_BitReader_at : Stmt := (inClass (topS 6) 3)
abbrev sl_BitReader_at : List Str := ["self"]
abbrev pl_BitReader_at : List Str := ["self"]
theorem sc_BitReader_at : FnScope sl_BitReader_at pl_BitReader_at (defScope s_BitReader_at) := ⟨rfl, rfl, rfl, by decide +kernel, rfl, by decide +kernel, by decide +kernel⟩
abbrev s_value_of : Stmt := (topS 7)
abbrev sl_value_of : List Str := ["bits", "value", "bit"]
abbrev pl_value_of : List Str := ["bits"]
theorem sc_value_of : FnScope sl_value_of pl_value_of (defScope s_value_of) := ⟨rfl, rfl, rfl, by decide +kernel, rfl, by decide +kernel, by decide +kernel⟩
abbrev s_BitReader_read : Stmt := (inClass (topS 6) 1)
abbrev sl_BitReader_read : List Str := ["self", "width", "start"]
abbrev pl_BitReader_read : List Str := ["self", "width"]
theorem sc_BitReader_read : FnScope sl_BitReader_read pl_BitReader_read (defScope s_BitReader_read) := ⟨rfl, rfl, rfl, by decide +kernel, rfl, by decide +kernel, by decide +kernel⟩
abbrev s_count_bits : Stmt := (topS 10)
abbrev sl_count_bits : List Str := ["mode", "version"]
abbrev pl_count_bits : List Str := ["mode", "version"]
theorem sc_count_bits : FnScope sl_count_bits pl_count_bits (defScope s_count_bits) := ⟨rfl, rfl, rfl, by decide +kernel, rfl, by decide +kernel, by decide +kernel⟩
abbrev s_group_size : Stmt := (topS 17)
abbrev sl_group_size : List Str := ["mode"]
abbrev pl_group_size : List Str := ["mode"]
theorem sc_group_size : FnScope sl_group_size pl_group_size (defScope s_group_size) := ⟨rfl, rfl, rfl, by decide +kernel, rfl, by decide +kernel, by decide +kernel⟩
abbrev s_mode_of : Stmt := (topS 19)
abbrev sl_mode_of : List Str := ["number", "place", "mode"]
abbrev pl_mode_of : List Str := ["number", "place"]
theorem sc_mode_of : FnScope sl_mode_of pl_mode_of (defScope s_mode_of) := ⟨rfl, rfl, rfl, by decide +kernel, rfl, by decide +kernel, by decide +kernel⟩
abbrev s_read_group : Stmt := (topS 21)
abbrev sl_read_group : List Str := ["reader", "mode", "size", "place", "number", "group", "_", "value"]
abbrev pl_read_group : List Str := ["reader", "mode", "size"]
theorem sc_read_group : FnScope sl_read_group pl_read_group (defScope s_read_group) := ⟨rfl, rfl, rfl, by decide +kernel, rfl, by decide +kernel, by decide +kernel⟩
abbrev s_read_content : Stmt := (topS 20)
abbrev sl_read_content : List Str := ["reader", "mode", "version", "place", "count", "content", "size"]
abbrev pl_read_content : List Str := ["reader", "mode", "version"]
theorem sc_read_content : FnScope sl_read_content pl_read_content (defScope s_read_content) := ⟨rfl, rfl, rfl, by decide +kernel, rfl, by decide +kernel, by decide +kernel⟩
abbrev s_read_segments : Stmt := (topS 18)
abbrev sl_read_segments : List Str := ["bits", "version", "at", "reader", "segments", "place", "number", "mode"]
abbrev pl_read_segments : List Str := ["bits", "version", "at"]
theorem sc_read_segments : FnScope sl_read_segments pl_read_segments (defScope s_read_segments) := ⟨rfl, rfl, rfl, by decide +kernel, rfl, by decide +kernel, by decide +kernel⟩
abbrev s__law_cell : Stmt := (topS 23)
abbrev sl__law_cell : List Str := ["script", "k"]
abbrev pl__law_cell : List Str := ["script", "k"]
theorem sc__law_cell : FnScope sl__law_cell pl__law_cell (defScope s__law_cell) := ⟨rfl, rfl, rfl, by decide +kernel, rfl, by decide +kernel, by decide +kernel⟩
abbrev s__law_bits : Stmt := (topS 24)
abbrev sl__law_bits : List Str := ["value", "width", "k"]
abbrev pl__law_bits : List Str := ["value", "width"]
theorem sc__law_bits : FnScope sl__law_bits pl__law_bits (defScope s__law_bits) := ⟨rfl, rfl, rfl, by decide +kernel, rfl, by decide +kernel, by decide +kernel⟩
abbrev s__law_group : Stmt := (topS 25)
abbrev sl__law_group : List Str := ["version"]
abbrev pl__law_group : List Str := ["version"]
theorem sc__law_group : FnScope sl__law_group pl__law_group (defScope s__law_group) := ⟨rfl, rfl, rfl, by decide +kernel, rfl, by decide +kernel, by decide +kernel⟩
abbrev s__law_head : Stmt := (topS 26)
abbrev sl__law_head : List Str := ["mode", "version"]
abbrev pl__law_head : List Str := ["mode", "version"]
theorem sc__law_head : FnScope sl__law_head pl__law_head (defScope s__law_head) := ⟨rfl, rfl, rfl, by decide +kernel, rfl, by decide +kernel, by decide +kernel⟩
abbrev s__law_number : Stmt := (topS 27)
abbrev sl__law_number : List Str := ["bits", "at", "width", "value", "k"]
abbrev pl__law_number : List Str := ["bits", "at", "width"]
theorem sc__law_number : FnScope sl__law_number pl__law_number (defScope s__law_number) := ⟨rfl, rfl, rfl, by decide +kernel, rfl, by decide +kernel, by decide +kernel⟩
abbrev s__law_sign : Stmt := (topS 28)
abbrev sl__law_sign : List Str := ["value"]
abbrev pl__law_sign : List Str := ["value"]
theorem sc__law_sign : FnScope sl__law_sign pl__law_sign (defScope s__law_sign) := ⟨rfl, rfl, rfl, by decide +kernel, rfl, by decide +kernel, by decide +kernel⟩
abbrev s__law_widths : Stmt := (topS 29)
abbrev sl__law_widths : List Str := ["mode", "many"]
abbrev pl__law_widths : List Str := ["mode", "many"]
theorem sc__law_widths : FnScope sl__law_widths pl__law_widths (defScope s__law_widths) := ⟨rfl, rfl, rfl, by decide +kernel, rfl, by decide +kernel, by decide +kernel⟩
abbrev s__law_content : Stmt := (topS 30)
abbrev sl__law_content : List Str := ["bits", "at", "mode", "many", "content", "turn", "part", "width", "value", "base", "k", "digit"]
abbrev pl__law_content : List Str := ["bits", "at", "mode", "many"]
theorem sc__law_content : FnScope sl__law_content pl__law_content (defScope s__law_content) := ⟨rfl, rfl, rfl, by decide +kernel, rfl, by decide +kernel, by decide +kernel⟩
abbrev s__law_due : Stmt := (topS 31)
abbrev sl__law_due : List Str := ["bits", "version", "at", "segments", "turn", "code", "mode", "width", "many", "content", "after"]
abbrev pl__law_due : List Str := ["bits", "version", "at"]
theorem sc__law_due : FnScope sl__law_due pl__law_due (defScope s__law_due) := ⟨rfl, rfl, rfl, by decide +kernel, rfl, by decide +kernel, by decide +kernel⟩
abbrev s__law_built : Stmt := (topS 32)
abbrev sl__law_built : List Str := ["script", "version", "bits", "k", "cell", "mode", "many", "left", "j", "part", "width", "top"]
abbrev pl__law_built : List Str := ["script", "version"]
theorem sc__law_built : FnScope sl__law_built pl__law_built (defScope s__law_built) := ⟨rfl, rfl, rfl, by decide +kernel, rfl, by decide +kernel, by decide +kernel⟩
abbrev s__law_told : Stmt := (topS 33)
abbrev sl__law_told : List Str := ["bits", "version", "at", "e"]
abbrev pl__law_told : List Str := ["bits", "version", "at"]
theorem sc__law_told : FnScope sl__law_told pl__law_told (defScope s__law_told) := ⟨rfl, rfl, rfl, by decide +kernel, rfl, by decide +kernel, by decide +kernel⟩
abbrev s_law : Stmt := (topS 34)
abbrev sl_law : List Str := ["script", "version", "bits", "cell", "k", "at", "given", "found"]
abbrev pl_law : List Str := ["script"]
theorem sc_law : FnScope sl_law pl_law (defScope s_law) := ⟨rfl, rfl, rfl, by decide +kernel, rfl, by decide +kernel, by decide +kernel⟩
def nv (cs : List Nat) : List V := cs.map fun c => V.int (c : Nat)
theorem nv_len (cs : List Nat) : (nv cs).length = cs.length := List.length_map _
theorem nv_int (cs : List Nat) : nv cs = (cs.map fun c : Nat => (c : Int)).map V.int := by
  unfold nv; rw [List.map_map]; rfl
theorem nv_get {cs : List Nat} {i : Nat} {x : V} (h : (nv cs)[i]? = some x) : ∃ c, cs[i]? = some c ∧ x = .int (c : Nat) := by
  unfold nv at h
  rw [List.getElem?_map] at h
  cases e : cs[i]? with
  | none => rw [e] at h; cases h
  | some z => rw [e] at h; exact ⟨z, rfl, (Option.some.inj h).symm⟩
theorem nv_at {cs : List Nat} {i : Int} {j : Nat} (e : i = (j : Int)) (h : j < cs.length) : atI (nv cs) i = some (.int (cs.getD j 0 : Nat)) := by
  subst e
  refine atI_nat ?_
  unfold nv
  rw [List.getElem?_map, List.getElem?_eq_getElem h, List.getD_eq_getElem?_getD, List.getElem?_eq_getElem h]
  rfl
theorem nv_set (cs : List Nat) (j c : Nat) : (nv cs).set j (.int (c : Nat)) = nv (cs.set j c) := by
  unfold nv; rw [List.map_set]
theorem nv_rep (n : Nat) : List.replicate n (V.int 0) = nv (List.replicate n 0) := by
  unfold nv; rw [List.map_replicate]; rfl
/-! ints that are naturals -/
theorem nat_shr (b k : Nat) : ((b : Int) / 2 ^ ((k : Nat) : Int).toNat) = ((b >>> k : Nat) : Int) := by
  rw [Int.toNat_natCast, Nat.shiftRight_eq_div_pow]
  have e : (2 : Int) ^ k = ((2 ^ k : Nat) : Int) := by simp
  rw [e]; rfl
theorem nat_shl (b k : Nat) : ((b : Int) * 2 ^ ((k : Nat) : Int).toNat) = ((b <<< k : Nat) : Int) := by
  rw [Int.toNat_natCast, Nat.shiftLeft_eq]
  have e : (2 : Int) ^ k = ((2 ^ k : Nat) : Int) := by simp
  rw [e]; rfl
theorem nat_xor (a b : Nat) : Builtin.bitXor (a : Int) (b : Int) = ((a ^^^ b : Nat) : Int) := by
  rw [Bits.bitXor_pp (Int.natCast_nonneg _) (Int.natCast_nonneg _)]; rfl
theorem nat_and (a b : Nat) : Builtin.bitAnd (a : Int) (b : Int) = ((a &&& b : Nat) : Int) := by
  unfold Builtin.bitAnd
  rw [decide_eq_true (Int.natCast_nonneg a), decide_eq_true (Int.natCast_nonneg b)]
  rfl
theorem nat_and1 (a : Nat) : Builtin.bitAnd (a : Int) 1 = ((a % 2 : Nat) : Int) := by
  rw [show (1 : Int) = ((1 : Nat) : Int) from rfl, nat_and, Nat.and_one_is_mod]
def valN (bs : List Nat) : Nat := bs.foldl (fun v b => 2 * v + b) 0
theorem valN_take {bs : List Nat} {i b : Nat} (e : bs[i]? = some b) : valN (bs.take (i + 1)) = 2 * valN (bs.take i) + b := by
  unfold valN
  rw [List.take_add_one, e, List.foldl_append]
  rfl
/-- the bits of a field, the first i of them -/
def fbs (w v i : Nat) : List Nat := (List.range i).map fun k => (v >>> (w - 1 - k)) % 2
theorem fbs_succ (w v i : Nat) : fbs w v (i + 1) = fbs w v i ++ [(v >>> (w - 1 - i)) % 2] := by
  unfold fbs
  rw [List.range_succ, List.map_append]
  rfl
theorem fbs_len (w v i : Nat) : (fbs w v i).length = i := by unfold fbs; rw [List.length_map, List.length_range]
theorem nv_app (a b : List Nat) : nv (a ++ b) = nv a ++ nv b := List.map_append ..
theorem nv_cut (cs : List Nat) {a b : Nat} (h : a ≤ b) : cutV (nv cs) (some (a : Int)) (some (b : Int)) = nv ((cs.drop a).take (b - a)) := by
  rw [Z.cut_mid h]
  unfold nv
  rw [List.map_take, List.map_drop]
/-- filled up to whole bytes -/
def padded (bs : List Nat) : List Nat := bs ++ List.replicate ((8 - bs.length % 8) % 8) 0
theorem padded_len (bs : List Nat) : (padded bs).length % 8 = 0 ∧ (padded bs).length ≤ bs.length + 7 := by
  unfold padded
  rw [List.length_append, List.length_replicate]
  omega
def chunk (bs : List Nat) (i : Nat) : List Nat := ((padded bs).drop (8 * i)).take 8
def bytesN (bs : List Nat) (n : Nat) : List Nat := (List.range n).map fun i => valN (chunk bs i)
theorem bytesN_succ (bs : List Nat) (n : Nat) : bytesN bs (n + 1) = bytesN bs n ++ [valN (chunk bs n)] := by
  unfold bytesN
  rw [List.range_succ, List.map_append]
  rfl
theorem bytesN_len (bs : List Nat) (n : Nat) : (bytesN bs n).length = n := by unfold bytesN; rw [List.length_map, List.length_range]
def toBytes (bs : List Nat) : List Nat := bytesN bs ((padded bs).length / 8)
theorem rg8 {n : Nat} (h : n % 8 = 0) (hl : n ≤ 100000) : RgC 0 (n : Int) 8 (n / 8) := by
  have e : Builtin.Range.rangeSize 0 (n : Int) 8 = ((n / 8 : Nat) : Int) := by
    rw [PyProof.Rows.rangeSize_pos (by decide) (by omega)]
    omega
  refine ⟨by decide, by decide, ?_, e⟩
  unfold Builtin.Range.small
  rw [e]
  have fl : ∀ z : Int, -9223372036854775808 ≤ z → z < 9223372036854775808 → Builtin.Range.rangeFitsLong z = true := fun z a b => by
    have a' : -(2 ^ 63) ≤ z := Int.le_trans (by decide) a
    have b' : z < 2 ^ 63 := Int.lt_of_lt_of_le b (by decide)
    unfold Builtin.Range.rangeFitsLong
    rw [decide_eq_true a', decide_eq_true b']; rfl
  rw [fl 0 (by decide) (by decide), fl n (by omega) (by omega), fl 8 (by decide) (by decide), fl _ (by omega) (by omega), if_pos (show (8 : Int) > 0 by decide), fl _ (by omega) (by omega), Bool.or_true]
  rfl
theorem two_pos (n : Int) : (0 : Int) < 1 * 2 ^ n.toNat := by
  rw [Int.one_mul]
  exact Int.pow_pos (by decide)
/-- a writer stands at p, its bits at b -/
def WAt (C : Addr) (H : Hp) (p b : Addr) (bs : List Nat) : Prop := (∃ dx, H p = some (.ins C dx [("_bits", .ref b)])) ∧ H b = some (.lst (nv bs))
theorem WAt.same {C : Addr} {H H' : Hp} {p b : Addr} {bs : List Nat} (w : WAt C H p b bs) (s : Same H H') : WAt C H' p b bs := ⟨⟨w.1.choose, s _ _ w.1.choose_spec⟩, s _ _ w.2⟩
theorem no_w : ¬ (("write" : Str) = "_bits") := by decide +kernel
theorem no_bl : ¬ (("bit_list" : Str) = "_bits") := by decide +kernel
theorem no_by : ¬ (("byte_list" : Str) = "_bits") := by decide +kernel
theorem no_bw : ¬ (("bits_written" : Str) = "_bits") := by decide +kernel
/-- a reader stands at p: its bits at b, its position t -/
def RAt (C : Addr) (H : Hp) (p b : Addr) (t : Int) : Prop := ∃ dx, H p = some (.ins C dx [("_bits", .ref b), ("_position", .int t)])
theorem RAt.same {C : Addr} {H H' : Hp} {p b : Addr} {t : Int} (w : RAt C H p b t) (s : Same H H') : RAt C H' p b t := ⟨w.choose, s _ _ w.choose_spec⟩
theorem f_pb : ¬ (("_position" : Str) = "_bits") := by decide +kernel
theorem f_bp : ¬ (("_bits" : Str) = "_position") := by decide +kernel
theorem f_np : ¬ (("name" : Str) = "place") := by decide +kernel
theorem f_pn : ¬ (("place" : Str) = "name") := by decide +kernel
theorem no_m {m : Str} {x y : V} (h1 : ¬ m = "_bits") (h2 : ¬ m = "_position") : List.lookup m [(("_bits" : Str), x), ("_position", y)] = none := (Z.look_s h1).trans ((Z.look_s h2).trans Z.look_0)
theorem r_1 : ¬ (("read" : Str) = "_bits") := by decide +kernel
theorem r_2 : ¬ (("read" : Str) = "_position") := by decide +kernel
theorem l_1 : ¬ (("left" : Str) = "_bits") := by decide +kernel
theorem l_2 : ¬ (("left" : Str) = "_position") := by decide +kernel
theorem a_1 : ¬ (("at" : Str) = "_bits") := by decide +kernel
theorem a_2 : ¬ (("at" : Str) = "_position") := by decide +kernel
def trunc (n : Nat) : HO := .xd [("name", .str "Truncated"), ("place", .int n)]
def modes : List Str := ["numeric", "alphanumeric", "byte"]
def cbT : List (List Nat) := [[10, 12, 14], [9, 11, 13], [8, 16, 16]]
def grp (v : Nat) : Nat := if v < 10 then 0 else if v < 27 then 1 else 2
def cbN (m v : Nat) : Nat := (cbT.getD m []).getD (grp v) 0
theorem tri_at {l : List Nat} {g : Nat} (h : g < l.length) : (l.map fun n : Nat => Z.Tr.i (n : Nat))[g]? = some (.i (l.getD g 0 : Nat)) := by
  rw [List.getElem?_map, List.getD_eq_getElem?_getD, List.getElem?_eq_getElem h]; rfl
theorem cb_len : ∀ m, m < 3 → (cbT.getD m []).length = 3 := by decide +kernel
theorem cb_at (m : Nat) (hm : m < 3) (g : Nat) (hg : g < 3) : ((cbT.getD m []).map fun n : Nat => Z.Tr.i (n : Nat))[g]? = some (.i ((cbT.getD m []).getD g 0 : Nat)) := tri_at (by rw [cb_len m hm]; exact hg)
theorem grp0 {v : Nat} (h : v < 10) : grp v = 0 := by unfold grp; rw [if_pos h]
theorem grp1 {v : Nat} (h : ¬ v < 10) (h2 : v < 27) : grp v = 1 := by unfold grp; rw [if_neg h, if_pos h2]
theorem grp2 {v : Nat} (h : ¬ v < 10) (h2 : ¬ v < 27) : grp v = 2 := by unfold grp; rw [if_neg h, if_neg h2]
/-! ## reading segments -/
def Bt (bs : List Nat) : Prop := ∀ b ∈ bs, b < 2
theorem Bt.app {a b : List Nat} (ha : Bt a) (hb : Bt b) : Bt (a ++ b) := fun x hx => by
  rcases List.mem_append.mp hx with h | h
  · exact ha x h
  · exact hb x h
theorem Bt.take {a : List Nat} (ha : Bt a) (n : Nat) : Bt (a.take n) := fun x hx => ha x (List.mem_of_mem_take hx)
theorem Bt.drop {a : List Nat} (ha : Bt a) (n : Nat) : Bt (a.drop n) := fun x hx => ha x (List.mem_of_mem_drop hx)
theorem valN_snoc (a : List Nat) (b : Nat) : valN (a ++ [b]) = 2 * valN a + b := by unfold valN; rw [List.foldl_append]; rfl
theorem valN_lt : ∀ (n : Nat) (a : List Nat), a.length = n → Bt a → valN a < 2 ^ n
  | 0, a, h, _ => by
    have : a = [] := List.length_eq_zero_iff.mp h
    subst this; decide
  | n + 1, a, h, hb => by
    have hne : a ≠ [] := fun z => by rw [z] at h; cases h
    have e := List.dropLast_concat_getLast hne
    have l : a.dropLast.length = n := by rw [List.length_dropLast]; omega
    have i := valN_lt n a.dropLast l fun x hx => hb x ((List.dropLast_sublist a).subset hx)
    have g := hb (a.getLast hne) (List.getLast_mem hne)
    rw [← e, valN_snoc]
    rw [Nat.pow_succ]
    omega
def numK (bs : List Nat) (p w : Nat) : Nat := valN ((bs.drop p).take w)
theorem numK_lt {bs : List Nat} (h : Bt bs) {p w : Nat} (hl : p + w ≤ bs.length) : numK bs p w < 2 ^ w :=
  valN_lt w _ (by rw [List.length_take, List.length_drop]; omega) ((h.drop p).take w)
theorem numK_succ {bs : List Nat} {p k : Nat} (hl : p + k < bs.length) : numK bs p (k + 1) = 2 * numK bs p k + bs.getD (p + k) 0 := by
  unfold numK
  have e : (bs.drop p)[k]? = some (bs.getD (p + k) 0) := by
    rw [List.getElem?_drop, List.getD_eq_getElem?_getD, List.getElem?_eq_getElem hl]; rfl
  exact valN_take e
def wdT : List (List Nat) := [[0, 4, 7, 10], [0, 6, 11], [0, 8]]
def wdN (m s : Nat) : Nat := (wdT.getD m []).getD s 0
def gsN (m : Nat) : Nat := 3 - m
def bsT : List Nat := [10, 45, 256]
def bsN (m : Nat) : Nat := bsT.getD m 0
def anL : List Nat := [48, 49, 50, 51, 52, 53, 54, 55, 56, 57, 65, 66, 67, 68, 69, 70, 71, 72, 73, 74, 75, 76, 77, 78, 79, 80, 81, 82, 83, 84, 85, 86, 87, 88, 89, 90, 32, 36, 37, 42, 43, 45, 46, 47, 58]
def sgN (m x : Nat) : Nat := if m = 2 then x else anL.getD x 0
def grpR (m v : Nat) : Nat → List Nat
  | 0 => []
  | j + 1 => grpR m v j ++ [sgN m (v / bsN m ^ j % bsN m)]
theorem grpR_len (m v : Nat) : ∀ j, (grpR m v j).length = j
  | 0 => rfl
  | j + 1 => by show (grpR m v j ++ _).length = _; rw [List.length_append, grpR_len m v j]; rfl
def digs (m s v : Nat) : List Nat := (grpR m v s).reverse
theorem digs_len (m s v : Nat) : (digs m s v).length = s := by unfold digs; rw [List.length_reverse, grpR_len]
inductive RR
  | er (k q : Nat)
  | ok (cs : List Nat) (q : Nat)
def conN (bs : List Nat) (m : Nat) : Nat → Nat → Nat → List Nat → RR
  | 0, p, _, acc => .ok acc p
  | f + 1, p, left, acc => if left = 0 then .ok acc p else
      if bs.length < p + wdN m (min (gsN m) left) then .er 0 bs.length else
      if bsN m ^ (min (gsN m) left) ≤ numK bs p (wdN m (min (gsN m) left)) then .er 2 p else
      conN bs m f (p + wdN m (min (gsN m) left)) (left - min (gsN m) left) (acc ++ digs m (min (gsN m) left) (numK bs p (wdN m (min (gsN m) left))))
inductive SR
  | er (k q : Nat)
  | ok (segs : List (Nat × List Nat))
def mdN (n : Nat) : Option Nat := if n = 1 then some 0 else if n = 2 then some 1 else if n = 4 then some 2 else none
def cntN (bs : List Nat) (m v p : Nat) : RR := if bs.length < p + cbN m v then .er 0 bs.length else if numK bs p (cbN m v) = 0 then .er 2 p else conN bs m (numK bs p (cbN m v)) (p + cbN m v) (numK bs p (cbN m v)) []
def segN (bs : List Nat) (v : Nat) : Nat → Nat → List (Nat × List Nat) → SR
  | 0, _, acc => .ok acc
  | f + 1, p, acc => if bs.length < p + 4 then .ok acc else if numK bs p 4 = 0 then .ok acc else
      match mdN (numK bs p 4) with
      | none => .er 1 p
      | some m => match cntN bs m v (p + 4) with
        | .er k q => .er k q
        | .ok cs q => segN bs v f q (acc ++ [(m, cs)])
def enm (k : Nat) : Str := (["Truncated", "InvalidMode", "InvalidCount"] : List Str).getD k ""
def xdE (k q : Nat) : HO := .xd [("name", .str (enm k)), ("place", .int q)]
/-- a list of segments stands at p -/
def SegsAt (H : Hp) (p : Addr) (segs : List (Nat × List Nat)) : Prop := ∃ xs : List V, H p = some (.lst xs) ∧ xs.length = segs.length ∧ ∀ (i : Nat) (s : Nat × List Nat), segs[i]? = some s → ∃ t l : Addr, xs[i]? = some (.ref t) ∧ H t = some (.tup [.str (modes.getD s.1 ""), .ref l]) ∧ H l = some (.lst (nv s.2)) ∧ l ≠ p
theorem SegsAt.keep {H H1 : Hp} {p r C dx : Addr} {fs : List (Str × V)} {segs : List (Nat × List Nat)} (h : SegsAt H p segs) (hr : H r = some (.ins C dx fs)) (k : ∀ x o, H x = some o → x ≠ r → H1 x = some o) : SegsAt H1 p segs := by
  obtain ⟨xs, h1, h2, h3⟩ := h
  have nn : ∀ x o, H x = some o → (∀ C dx fs, o ≠ .ins C dx fs) → H1 x = some o := fun x o e n => k x o e fun z => by rw [z, hr] at e; cases e; exact n _ _ _ rfl
  refine ⟨xs, nn _ _ h1 (fun _ _ _ z => by cases z), h2, fun i s e => ?_⟩
  obtain ⟨t, l, a, b, c, d⟩ := h3 i s e
  exact ⟨t, l, a, nn _ _ b (fun _ _ _ z => by cases z), nn _ _ c (fun _ _ _ z => by cases z), d⟩
theorem SegsAt.same {H H1 : Hp} {p : Addr} {segs : List (Nat × List Nat)} (h : SegsAt H p segs) (k : Same H H1) : SegsAt H1 p segs := by
  obtain ⟨xs, h1, h2, h3⟩ := h
  refine ⟨xs, k _ _ h1, h2, fun i s e => ?_⟩
  obtain ⟨t, l, a, b, c, d⟩ := h3 i s e
  exact ⟨t, l, a, k _ _ b, k _ _ c, d⟩
theorem SegsAt.nil {H : Hp} {p : Addr} (h : H p = some (.lst [])) : SegsAt H p [] := ⟨[], h, rfl, fun i s e => by cases e⟩
theorem SegsAt.push {H : Hp} {p t l : Addr} {xs : List V} {segs : List (Nat × List Nat)} {m : Nat} {cs : List Nat} (h : SegsAt H p segs) (hp : H p = some (.lst xs)) (ht : H t = some (.tup [.str (modes.getD m ""), .ref l])) (hl : H l = some (.lst (nv cs))) (hn : l ≠ p) : SegsAt (upd H p (.lst (xs ++ [V.ref t]))) p (segs ++ [(m, cs)]) := by
  obtain ⟨xs', h1, h2, h3⟩ := h
  rw [hp] at h1; cases h1
  refine ⟨_, L2.upd_same, by rw [List.length_append, List.length_append, h2]; rfl, fun i s e => ?_⟩
  by_cases hi : i < segs.length
  · rw [List.getElem?_append_left hi] at e
    obtain ⟨t', l', a, b, c, d⟩ := h3 i s e
    exact ⟨t', l', by rw [List.getElem?_append_left (by omega)]; exact a, (L2.upd_ne (ne_of b hp (by intro z; cases z))).trans b, (L2.upd_ne d).trans c, d⟩
  · rw [List.getElem?_append_right (by omega)] at e
    have e0 : i - segs.length = 0 := by
      have := (List.getElem?_eq_some_iff.mp e).1
      simp at this; omega
    rw [e0] at e
    cases e
    exact ⟨t, l, by rw [List.getElem?_append_right (by omega), h2, e0]; rfl, (L2.upd_ne (ne_of ht hp (by intro z; cases z))).trans ht, (L2.upd_ne hn).trans hl, hn⟩
def segD (s : Nat × List Nat) : PyData := .tuple [.str (modes.getD s.1 ""), .list (s.2.map fun c : Nat => PyData.int (c : Int))]
theorem dp_nv {K : PySem.W.Frag} {H : Hp} (cs : List Nat) : DpAll K H (nv cs) (cs.map fun c : Nat => PyData.int (c : Int)) := by
  have := Z.dp_ints (K := K) (H := H) (cs.map fun c : Nat => (c : Int))
  rwa [← nv_int, List.map_map] at this
theorem dp_all {K : PySem.W.Frag} {H : Hp} {f : (Nat × List Nat) → PyData} : ∀ (segs : List (Nat × List Nat)) (xs : List V), xs.length = segs.length → (∀ (i : Nat) (s : Nat × List Nat), segs[i]? = some s → ∃ x, xs[i]? = some x ∧ Dp K H x (f s)) → DpAll K H xs (segs.map f)
  | [], [], _, _ => .nil
  | s :: segs, x :: xs, hl, h => by
    obtain ⟨y, e, d⟩ := h 0 s rfl
    cases e
    exact .cons d (dp_all segs xs (by simpa using hl) fun i s' e => h (i + 1) s' e)
theorem SegsAt.dp {K : PySem.W.Frag} {H : Hp} {p : Addr} {segs : List (Nat × List Nat)} (h : SegsAt H p segs) : Dp K H (.ref p) (.list (segs.map segD)) := by
  obtain ⟨xs, h1, h2, h3⟩ := h
  refine .lst (Z.sq_l h1) (dp_all segs xs h2 fun i s e => ?_)
  obtain ⟨t, l, a, b, c, _⟩ := h3 i s e
  exact ⟨_, a, .tup (Z.sq_t b) (.cons (.str _) (.cons (.lst (Z.sq_l c) (dp_nv _)) .nil))⟩
theorem lay_nv (cs : List Nat) : PyData.canLayAll0 (cs.map fun c : Nat => PyData.int (c : Int)) = true := by
  have := Z.lay_ints (cs.map fun c : Nat => (c : Int))
  rwa [List.map_map] at this
theorem dep_nv (cs : List Nat) : PyData.depthAll (cs.map fun c : Nat => PyData.int (c : Int)) = 0 := by
  have := Z.depth_ints (cs.map fun c : Nat => (c : Int))
  rwa [List.map_map] at this
theorem md_ok : ∀ m : Nat, PyData.strOk (modes.getD m "") = true
  | 0 => by decide +kernel
  | 1 => by decide +kernel
  | 2 => by decide +kernel
  | _ + 3 => by show PyData.strOk "" = true; decide +kernel
theorem lay_tup (x : Str) (ys : List PyData) (d : PyData) (h : PyData.strOk x = true) (h2 : d.canLay0 = true) : (PyData.tuple [.str x, d]).canLay0 = true := by
  simp only [PyData.canLay0, PyData.canLayAll0, h, h2, Bool.and_self]
theorem lay_lst (ys : List PyData) (h : PyData.canLayAll0 ys = true) : (PyData.list ys).canLay0 = true := by
  simp only [PyData.canLay0, h]
theorem lay_segs : ∀ segs : List (Nat × List Nat), PyData.canLayAll0 (segs.map segD) = true
  | [] => rfl
  | s :: r => by
    show ((segD s).canLay0 && PyData.canLayAll0 (r.map segD)) = true
    rw [lay_segs r]
    rw [show (segD s).canLay0 = true from lay_tup _ [] _ (md_ok s.1) (lay_lst _ (lay_nv s.2))]; rfl
theorem dep_segs : ∀ segs : List (Nat × List Nat), PyData.depthAll (segs.map segD) ≤ 2
  | [] => Nat.zero_le _
  | s :: r => by
    show max (segD s).depth (PyData.depthAll (r.map segD)) ≤ 2
    have h := dep_segs r
    have e : (segD s).depth = 2 := by
      show (max 0 (max (PyData.depthAll (s.2.map fun c : Nat => PyData.int (c : Int)) + 1) 0)) + 1 = 2
      rw [dep_nv]; rfl
    omega
theorem shaped_segs (segs : List (Nat × List Nat)) : SeqAt.shaped (.list (segs.map segD)) = true := by
  have h1 : (PyData.list (segs.map segD)).canLay0 = true := lay_lst _ (lay_segs segs)
  have h2 : (PyData.list (segs.map segD)).depth ≤ 64 := by
    show PyData.depthAll (segs.map segD) + 1 ≤ 64
    have := dep_segs segs; omega
  unfold SeqAt.shaped
  rw [h1, decide_eq_true h2]; rfl
theorem r_eqSegs {K : PySem.W.Frag} {H : Hp} {Q : VK} {a b : Addr} {segs : List (Nat × List Nat)} (ha : SegsAt H a segs) (hb : SegsAt H b segs) (q : Q (.bl true) H) : rEqD K (.ref a) (.ref b) H Q :=
  ⟨_, _, ha.dp, hb.dp, shaped_segs segs, shaped_segs segs, by rw [SeqAt.eqv_refl _ (lay_lst _ (lay_segs segs))]; exact q⟩
theorem enm_ok : ∀ k : Nat, PyData.strOk (enm k) = true
  | 0 => by decide +kernel
  | 1 => by decide +kernel
  | 2 => by decide +kernel
  | _ + 3 => by show PyData.strOk "" = true; decide +kernel
theorem lay_er (k : Nat) (i : Int) : (PyData.tuple [.str (enm k), .int i]).canLay0 = true := lay_tup _ [] _ (enm_ok k) (by simp only [PyData.canLay0])
theorem shaped_er (k : Nat) (i : Int) : SeqAt.shaped (.tuple [.str (enm k), .int i]) = true := by
  have h2 : (PyData.tuple [.str (enm k), .int i]).depth ≤ 64 := by
    show max 0 (max 0 0) + 1 ≤ 64; decide
  unfold SeqAt.shaped
  rw [lay_er, decide_eq_true h2]; rfl
theorem r_eqEr {K : PySem.W.Frag} {H : Hp} {Q : VK} {a b : Addr} {k : Nat} {i : Int} (ha : H a = some (.tup [.str (enm k), .int i])) (hb : H b = some (.tup [.str (enm k), .int i])) (q : Q (.bl true) H) : rEqD K (.ref a) (.ref b) H Q :=
  ⟨_, _, .tup (Z.sq_t ha) (.cons (.str _) (.cons (.int i) .nil)), .tup (Z.sq_t hb) (.cons (.str _) (.cons (.int i) .nil)), shaped_er k i, shaped_er k i, by rw [SeqAt.eqv_refl _ (lay_er k i)]; exact q⟩
theorem md_cases {m : Nat} (h : m < 3) : m = 0 ∨ m = 1 ∨ m = 2 := by omega
theorem gs_pos {m : Nat} (h : m < 3) : 1 ≤ gsN m ∧ gsN m ≤ 3 := by unfold gsN; omega
theorem an_at (x : Nat) (h : x < 45) : (anL.map fun n : Nat => Z.Tr.i (n : Nat))[x]? = some (.i (anL.getD x 0 : Nat)) := tri_at (l := anL) h
theorem bs_pos : ∀ m, m < 3 → 0 < bsN m ∧ bsN m ≤ 256 := by decide +kernel
theorem wd_len : ∀ m, m < 3 → (wdT.getD m []).length = gsN m + 1 := by decide +kernel
theorem wd_lt : ∀ m, m < 3 → ∀ s, s ≤ 3 → wdN m s ≤ 11 := by decide +kernel
theorem wd_pos : ∀ m, m < 3 → ∀ s, s ≤ gsN m → 1 ≤ s → 1 ≤ wdN m s := by decide +kernel
theorem cb_lim : ∀ m, m < 3 → ∀ g, g < 3 → (cbT.getD m []).getD g 0 ≤ 16 ∧ 1 ≤ (cbT.getD m []).getD g 0 := by decide +kernel
theorem grp_lt (v : Nat) : grp v < 3 := by unfold grp; split; · decide
                                           · split <;> decide
theorem cbN_lim {m v : Nat} (h : m < 3) : cbN m v ≤ 16 ∧ 1 ≤ cbN m v := cb_lim m h _ (grp_lt v)
theorem md_byte {m : Nat} (h : m < 3) : Z.dB (modes.getD m "" = "byte") = Z.dB (m = 2) := by
  rcases md_cases h with e | e | e <;> subst e <;> decide +kernel
theorem ne_byte : ∀ m, m < 3 → ¬ m = 2 → bsN m ≤ 45 := by decide +kernel
theorem xor_none {n : Nat} : mdN n = none ↔ n ≠ 1 ∧ n ≠ 2 ∧ n ≠ 4 := by
  unfold mdN
  constructor
  · intro h
    refine ⟨fun z => ?_, fun z => ?_, fun z => ?_⟩ <;> subst z <;> cases h
  · rintro ⟨a, b, c⟩
    rw [if_neg a, if_neg b, if_neg c]
theorem md_some {n m : Nat} (h : mdN n = some m) : m < 3 ∧ n = 2 ^ m := by
  unfold mdN at h
  split at h
  · cases h; exact ⟨by decide, by omega⟩
  · split at h
    · cases h; exact ⟨by decide, by omega⟩
    · split at h
      · cases h; exact ⟨by decide, by omega⟩
      · cases h
theorem md_of {m : Nat} (h : m < 3) : mdN (2 ^ m) = some m := by
  rcases md_cases h with e | e | e <;> subst e <;> rfl
structure Top (K : PySem.W.Frag) (mg : Str → Option Value) (w : World) where
  a_DotfieldError___init__ : Addr
  d_DotfieldError___init__ : FuncData
  F_DotfieldError___init__ : Fun K "__init__" "DotfieldError.__init__" s_DotfieldError___init__ a_DotfieldError___init__ d_DotfieldError___init__
  b_DotfieldError___init__ : Binds K d_DotfieldError___init__ pl_DotfieldError___init__ []
  a_BitReader___init__ : Addr
  d_BitReader___init__ : FuncData
  F_BitReader___init__ : FunD K "__init__" "BitReader.__init__" (defArgs s_BitReader___init__) (defBody s_BitReader___init__) (defScope s_BitReader___init__) [(.int 0)] [] a_BitReader___init__ d_BitReader___init__
  u_BitReader___init___1 : List Value
  v_BitReader___init___1 : Vals [(.int 0)] u_BitReader___init___1
  b_BitReader___init___1 : Binds K d_BitReader___init__ pl_BitReader___init__ u_BitReader___init___1
  b_BitReader___init__ : Binds K d_BitReader___init__ pl_BitReader___init__ []
  a_BitReader_left : Addr
  d_BitReader_left : FuncData
  F_BitReader_left : Fun K "left" "BitReader.left" s_BitReader_left a_BitReader_left d_BitReader_left
  b_BitReader_left : Binds K d_BitReader_left pl_BitReader_left []
  a_BitReader_at : Addr
  d_BitReader_at : FuncData
  F_BitReader_at : Fun K "at" "BitReader.at" s_BitReader_at a_BitReader_at d_BitReader_at
  b_BitReader_at : Binds K d_BitReader_at pl_BitReader_at []
  a_value_of : Addr
  d_value_of : FuncData
  F_value_of : Fun K "value_of" "value_of" s_value_of a_value_of d_value_of
  b_value_of : Binds K d_value_of pl_value_of []
  g_value_of : mg "value_of" = some (.ref a_value_of)
  a_BitReader_read : Addr
  d_BitReader_read : FuncData
  F_BitReader_read : Fun K "read" "BitReader.read" s_BitReader_read a_BitReader_read d_BitReader_read
  b_BitReader_read : Binds K d_BitReader_read pl_BitReader_read []
  a_count_bits : Addr
  d_count_bits : FuncData
  F_count_bits : Fun K "count_bits" "count_bits" s_count_bits a_count_bits d_count_bits
  b_count_bits : Binds K d_count_bits pl_count_bits []
  g_count_bits : mg "count_bits" = some (.ref a_count_bits)
  a_group_size : Addr
  d_group_size : FuncData
  F_group_size : Fun K "group_size" "group_size" s_group_size a_group_size d_group_size
  b_group_size : Binds K d_group_size pl_group_size []
  g_group_size : mg "group_size" = some (.ref a_group_size)
  a_mode_of : Addr
  d_mode_of : FuncData
  F_mode_of : Fun K "mode_of" "mode_of" s_mode_of a_mode_of d_mode_of
  b_mode_of : Binds K d_mode_of pl_mode_of []
  g_mode_of : mg "mode_of" = some (.ref a_mode_of)
  a_read_group : Addr
  d_read_group : FuncData
  F_read_group : Fun K "read_group" "read_group" s_read_group a_read_group d_read_group
  b_read_group : Binds K d_read_group pl_read_group []
  g_read_group : mg "read_group" = some (.ref a_read_group)
  a_read_content : Addr
  d_read_content : FuncData
  F_read_content : Fun K "read_content" "read_content" s_read_content a_read_content d_read_content
  b_read_content : Binds K d_read_content pl_read_content []
  g_read_content : mg "read_content" = some (.ref a_read_content)
  a_read_segments : Addr
  d_read_segments : FuncData
  F_read_segments : FunD K "read_segments" "read_segments" (defArgs s_read_segments) (defBody s_read_segments) (defScope s_read_segments) [(.int 0)] [] a_read_segments d_read_segments
  u_read_segments_1 : List Value
  v_read_segments_1 : Vals [(.int 0)] u_read_segments_1
  b_read_segments_1 : Binds K d_read_segments pl_read_segments u_read_segments_1
  b_read_segments : Binds K d_read_segments pl_read_segments []
  g_read_segments : mg "read_segments" = some (.ref a_read_segments)
  a__law_cell : Addr
  d__law_cell : FuncData
  F__law_cell : Fun K "_law_cell" "_law_cell" s__law_cell a__law_cell d__law_cell
  b__law_cell : Binds K d__law_cell pl__law_cell []
  g__law_cell : mg "_law_cell" = some (.ref a__law_cell)
  a__law_bits : Addr
  d__law_bits : FuncData
  F__law_bits : Fun K "_law_bits" "_law_bits" s__law_bits a__law_bits d__law_bits
  b__law_bits : Binds K d__law_bits pl__law_bits []
  g__law_bits : mg "_law_bits" = some (.ref a__law_bits)
  a__law_group : Addr
  d__law_group : FuncData
  F__law_group : Fun K "_law_group" "_law_group" s__law_group a__law_group d__law_group
  b__law_group : Binds K d__law_group pl__law_group []
  g__law_group : mg "_law_group" = some (.ref a__law_group)
  a__law_head : Addr
  d__law_head : FuncData
  F__law_head : Fun K "_law_head" "_law_head" s__law_head a__law_head d__law_head
  b__law_head : Binds K d__law_head pl__law_head []
  g__law_head : mg "_law_head" = some (.ref a__law_head)
  a__law_number : Addr
  d__law_number : FuncData
  F__law_number : Fun K "_law_number" "_law_number" s__law_number a__law_number d__law_number
  b__law_number : Binds K d__law_number pl__law_number []
  g__law_number : mg "_law_number" = some (.ref a__law_number)
  a__law_sign : Addr
  d__law_sign : FuncData
  F__law_sign : Fun K "_law_sign" "_law_sign" s__law_sign a__law_sign d__law_sign
  b__law_sign : Binds K d__law_sign pl__law_sign []
  g__law_sign : mg "_law_sign" = some (.ref a__law_sign)
  a__law_widths : Addr
  d__law_widths : FuncData
  F__law_widths : Fun K "_law_widths" "_law_widths" s__law_widths a__law_widths d__law_widths
  b__law_widths : Binds K d__law_widths pl__law_widths []
  g__law_widths : mg "_law_widths" = some (.ref a__law_widths)
  a__law_content : Addr
  d__law_content : FuncData
  F__law_content : Fun K "_law_content" "_law_content" s__law_content a__law_content d__law_content
  b__law_content : Binds K d__law_content pl__law_content []
  g__law_content : mg "_law_content" = some (.ref a__law_content)
  a__law_due : Addr
  d__law_due : FuncData
  F__law_due : Fun K "_law_due" "_law_due" s__law_due a__law_due d__law_due
  b__law_due : Binds K d__law_due pl__law_due []
  g__law_due : mg "_law_due" = some (.ref a__law_due)
  a__law_built : Addr
  d__law_built : FuncData
  F__law_built : Fun K "_law_built" "_law_built" s__law_built a__law_built d__law_built
  b__law_built : Binds K d__law_built pl__law_built []
  g__law_built : mg "_law_built" = some (.ref a__law_built)
  a__law_told : Addr
  d__law_told : FuncData
  F__law_told : Fun K "_law_told" "_law_told" s__law_told a__law_told d__law_told
  b__law_told : Binds K d__law_told pl__law_told []
  g__law_told : mg "_law_told" = some (.ref a__law_told)
  a_law : Addr
  d_law : FuncData
  F_law : Fun K "law" "law" s_law a_law d_law
  b_law : Binds K d_law pl_law []
  g_law : mg "law" = some (.ref a_law)
  a_BitReader : Addr
  cl_BitReader : Cls K a_BitReader
  g_BitReader : mg "BitReader" = some (.ref a_BitReader)
  M_BitReader : Mk K a_BitReader a_BitReader___init__
  me_BitReader_left : Meth K a_BitReader "left" a_BitReader_left
  me_BitReader_at : Meth K a_BitReader "at" a_BitReader_at
  me_BitReader_read : Meth K a_BitReader "read" a_BitReader_read
  no_BitReader__bits : NoAttr K a_BitReader "_bits"
  no_BitReader__position : NoAttr K a_BitReader "_position"
  a_DotfieldError : Addr
  g_DotfieldError : mg "DotfieldError" = some (.ref a_DotfieldError)
  a_Truncated : Addr
  g_Truncated : mg "Truncated" = some (.ref a_Truncated)
  a_InvalidMode : Addr
  g_InvalidMode : mg "InvalidMode" = some (.ref a_InvalidMode)
  a_InvalidCount : Addr
  g_InvalidCount : mg "InvalidCount" = some (.ref a_InvalidCount)
  ox_Truncated : OexC K a_Truncated
  ec_Truncated : Z.EcC K a_Truncated
  nm_Truncated : Z.NmC K a_Truncated "Truncated"
  xf_Truncated : XfC K a_Truncated
  ic_Truncated : PySem.W.findIn K (.ref a_Truncated) "__init__" = some (some (.ref a_DotfieldError___init__))
  no_Truncated_place : PySem.W.findIn K (.ref a_Truncated) "place" = some none
  no_Truncated_name : PySem.W.findIn K (.ref a_Truncated) "name" = some none
  ex_Truncated_Truncated : PySem.W.exmOne K (.ref a_Truncated) (.ref a_Truncated) = some true
  ox_InvalidMode : OexC K a_InvalidMode
  ec_InvalidMode : Z.EcC K a_InvalidMode
  nm_InvalidMode : Z.NmC K a_InvalidMode "InvalidMode"
  xf_InvalidMode : XfC K a_InvalidMode
  ic_InvalidMode : PySem.W.findIn K (.ref a_InvalidMode) "__init__" = some (some (.ref a_DotfieldError___init__))
  no_InvalidMode_place : PySem.W.findIn K (.ref a_InvalidMode) "place" = some none
  no_InvalidMode_name : PySem.W.findIn K (.ref a_InvalidMode) "name" = some none
  ex_InvalidMode_Truncated : PySem.W.exmOne K (.ref a_InvalidMode) (.ref a_Truncated) = some false
  ex_InvalidMode_InvalidMode : PySem.W.exmOne K (.ref a_InvalidMode) (.ref a_InvalidMode) = some true
  ox_InvalidCount : OexC K a_InvalidCount
  ec_InvalidCount : Z.EcC K a_InvalidCount
  nm_InvalidCount : Z.NmC K a_InvalidCount "InvalidCount"
  xf_InvalidCount : XfC K a_InvalidCount
  ic_InvalidCount : PySem.W.findIn K (.ref a_InvalidCount) "__init__" = some (some (.ref a_DotfieldError___init__))
  no_InvalidCount_place : PySem.W.findIn K (.ref a_InvalidCount) "place" = some none
  no_InvalidCount_name : PySem.W.findIn K (.ref a_InvalidCount) "name" = some none
  ex_InvalidCount_Truncated : PySem.W.exmOne K (.ref a_InvalidCount) (.ref a_Truncated) = some false
  ex_InvalidCount_InvalidMode : PySem.W.exmOne K (.ref a_InvalidCount) (.ref a_InvalidMode) = some false
  ex_InvalidCount_InvalidCount : PySem.W.exmOne K (.ref a_InvalidCount) (.ref a_InvalidCount) = some true
  it_DotfieldError___init__ : PySem.W.typeIn K (.ref a_DotfieldError___init__) = some (.type "function")
  a_MODES : Addr
  m_MODES : mg "MODES" = some (.ref a_MODES)
  t_MODES : Z.okT K (.ref a_MODES) (.t (modes.map .s)) = true
  a_MODE_NUMBERS : Addr
  m_MODE_NUMBERS : mg "MODE_NUMBERS" = some (.ref a_MODE_NUMBERS)
  d_MODE_NUMBERS : Z.KD K w a_MODE_NUMBERS
  u_MODE_NUMBERS_0 : Value
  k_MODE_NUMBERS_0 : PySem.W.nsIn K a_MODE_NUMBERS "numeric" = some (some u_MODE_NUMBERS_0)
  t_MODE_NUMBERS_0 : Z.okT K u_MODE_NUMBERS_0 (.i ((2 ^ 0 : Nat) : Int)) = true
  u_MODE_NUMBERS_1 : Value
  k_MODE_NUMBERS_1 : PySem.W.nsIn K a_MODE_NUMBERS "alphanumeric" = some (some u_MODE_NUMBERS_1)
  t_MODE_NUMBERS_1 : Z.okT K u_MODE_NUMBERS_1 (.i ((2 ^ 1 : Nat) : Int)) = true
  u_MODE_NUMBERS_2 : Value
  k_MODE_NUMBERS_2 : PySem.W.nsIn K a_MODE_NUMBERS "byte" = some (some u_MODE_NUMBERS_2)
  t_MODE_NUMBERS_2 : Z.okT K u_MODE_NUMBERS_2 (.i ((2 ^ 2 : Nat) : Int)) = true
  a_GROUP_BITS : Addr
  m_GROUP_BITS : mg "GROUP_BITS" = some (.ref a_GROUP_BITS)
  d_GROUP_BITS : Z.KD K w a_GROUP_BITS
  u_GROUP_BITS_0 : Value
  k_GROUP_BITS_0 : PySem.W.nsIn K a_GROUP_BITS "numeric" = some (some u_GROUP_BITS_0)
  t_GROUP_BITS_0 : Z.okT K u_GROUP_BITS_0 (.t ((wdT.getD 0 []).map fun n : Nat => .i (n : Nat))) = true
  u_GROUP_BITS_1 : Value
  k_GROUP_BITS_1 : PySem.W.nsIn K a_GROUP_BITS "alphanumeric" = some (some u_GROUP_BITS_1)
  t_GROUP_BITS_1 : Z.okT K u_GROUP_BITS_1 (.t ((wdT.getD 1 []).map fun n : Nat => .i (n : Nat))) = true
  u_GROUP_BITS_2 : Value
  k_GROUP_BITS_2 : PySem.W.nsIn K a_GROUP_BITS "byte" = some (some u_GROUP_BITS_2)
  t_GROUP_BITS_2 : Z.okT K u_GROUP_BITS_2 (.t ((wdT.getD 2 []).map fun n : Nat => .i (n : Nat))) = true
  a_BASES : Addr
  m_BASES : mg "BASES" = some (.ref a_BASES)
  d_BASES : Z.KD K w a_BASES
  u_BASES_0 : Value
  k_BASES_0 : PySem.W.nsIn K a_BASES "numeric" = some (some u_BASES_0)
  t_BASES_0 : Z.okT K u_BASES_0 (.i (bsN 0 : Nat)) = true
  u_BASES_1 : Value
  k_BASES_1 : PySem.W.nsIn K a_BASES "alphanumeric" = some (some u_BASES_1)
  t_BASES_1 : Z.okT K u_BASES_1 (.i (bsN 1 : Nat)) = true
  u_BASES_2 : Value
  k_BASES_2 : PySem.W.nsIn K a_BASES "byte" = some (some u_BASES_2)
  t_BASES_2 : Z.okT K u_BASES_2 (.i (bsN 2 : Nat)) = true
  a_ALPHANUMERIC : Addr
  m_ALPHANUMERIC : mg "ALPHANUMERIC" = some (.ref a_ALPHANUMERIC)
  t_ALPHANUMERIC : Z.okT K (.ref a_ALPHANUMERIC) (.t (anL.map fun n : Nat => Z.Tr.i (n : Nat))) = true
  a_COUNT_BITS : Addr
  m_COUNT_BITS : mg "COUNT_BITS" = some (.ref a_COUNT_BITS)
  d_COUNT_BITS : Z.KD K w a_COUNT_BITS
  u_COUNT_BITS_0 : Value
  k_COUNT_BITS_0 : PySem.W.nsIn K a_COUNT_BITS "numeric" = some (some u_COUNT_BITS_0)
  t_COUNT_BITS_0 : Z.okT K u_COUNT_BITS_0 (.t ((cbT.getD 0 []).map fun n : Nat => .i (n : Nat))) = true
  u_COUNT_BITS_1 : Value
  k_COUNT_BITS_1 : PySem.W.nsIn K a_COUNT_BITS "alphanumeric" = some (some u_COUNT_BITS_1)
  t_COUNT_BITS_1 : Z.okT K u_COUNT_BITS_1 (.t ((cbT.getD 1 []).map fun n : Nat => .i (n : Nat))) = true
  u_COUNT_BITS_2 : Value
  k_COUNT_BITS_2 : PySem.W.nsIn K a_COUNT_BITS "byte" = some (some u_COUNT_BITS_2)
  t_COUNT_BITS_2 : Z.okT K u_COUNT_BITS_2 (.t ((cbT.getD 2 []).map fun n : Nat => .i (n : Nat))) = true
  n_len : mg "len" = none
  n_range : mg "range" = none
  n_min : mg "min" = none
  n_int : mg "int" = none
  n_isinstance : mg "isinstance" = none
  n_str : mg "str" = none
  n_list : mg "list" = none
section
variable {P : Program} {w : World} {K : PySem.W.Frag} {mg : Str → Option Value} {base : Heap}
def sp_DotfieldError___init__ (K : PySem.W.Frag) : Sp := fun vs H Q _ => ∃ (a C : Addr) (n : Int), vs = [.ref a, .int n] ∧ ∃ (nm : Str), H a = some (exo a C none) ∧ OexC K C ∧ Z.EcC K C ∧ Z.NmC K C nm ∧ PySem.W.findIn K (.ref C) "place" = some none ∧ PySem.W.findIn K (.ref C) "name" = some none ∧ ∀ d H1, H d = none → d ≠ a → H1 a = some (exo a C (some d)) → H1 d = some (exd d [("name", .str nm), ("place", .int n)]) → (∀ b, b ≠ a → b ≠ d → H1 b = H b) → Q .non H1
set_option maxHeartbeats 2000000 in
theorem ok_DotfieldError___init__ (T : Top K mg w) : FnOk P w K mg base CX0 1 T.a_DotfieldError___init__ T.d_DotfieldError___init__ pl_DotfieldError___init__ (sp_DotfieldError___init__ K) := by
  refine T.F_DotfieldError___init__.ok sc_DotfieldError___init__ (fun vs H Q E h => ?_) (fun cdv A outer s H vs Q E hr h => ?_)
  · obtain ⟨a, C, n, rfl, _⟩ := h
    rfl
  · obtain ⟨a, C, n, rfl, nm, hH, ho, he, hn, hp, hnm, q⟩ := h
    have hu := hu_of hr
    refine ⟨_, (pss_cons (ps_ost (pv 0) (pv 1))
      (pss_one (ps_ost (pv 0) (Z.pe_cnm (pv 0))))), ?_⟩
    show (_ : L2.TS) _ [some _, some _] H
    try simp only [Z.kx]
    wtm_at "r"
    refine ⟨_, rfl, _, rfl, a, C, rfl, ho, hp, .inl ⟨hH, fun d hd hda => ?_⟩⟩
    have ha : (upd (upd H d (exd d [(("place" : Str), V.int n)])) a (exo a C (some d))) a = some (exo a C (some d)) := L2.upd_same
    have hd1 : (upd (upd H d (exd d [(("place" : Str), V.int n)])) a (exo a C (some d))) d = some (exd d [(("place" : Str), V.int n)]) := (upd_ne hda).trans L2.upd_same
    refine ⟨_, rfl, a, C, d, _, nm, rfl, he, hn, ha, hd1, ?_⟩
    refine ⟨_, rfl, a, C, rfl, ho, hnm, .inr ⟨d, _, ha, hd1, by show 1 ≤ 900; decide, ?_⟩⟩
    refine q d _ hd hda ((upd_ne hda.symm).trans ha) L2.upd_same (fun b hb hb2 => ?_)
    rw [upd_ne hb2, upd_ne hb, upd_ne hb2]
def sp_BitReader___init__ {K : PySem.W.Frag} {mg : Str → Option Value} {w : World} (T : Top K mg w) : Sp := fun vs H Q _ => ∃ (p b dx : Addr) (t : Int), vs = [.ref p, .ref b, .int t] ∧ H p = some (.ins T.a_BitReader dx []) ∧ ∀ H1, (∀ x o, H x = some o → x ≠ p → H1 x = some o) → RAt T.a_BitReader H1 p b t → Q .non H1
set_option maxHeartbeats 2000000 in
theorem ok_BitReader___init__ (T : Top K mg w) : FnOk P w K mg base CX0 1 T.a_BitReader___init__ T.d_BitReader___init__ pl_BitReader___init__ (sp_BitReader___init__ T) := by
  refine T.F_BitReader___init__.ok sc_BitReader___init__ (fun vs H Q E h => ?_) (fun cdv A outer s H vs Q E hr h => ?_)
  · obtain ⟨p, b, dx, t, rfl, _⟩ := h
    rfl
  · obtain ⟨p, b, dx, t, rfl, hp, q⟩ := h
    have hu := hu_of hr
    refine ⟨_, (pss_cons (ps_fld (pv 0) (pv 1) rfl)
      (pss_one (ps_fld (pv 0) (pv 2) rfl))).nox, ?_⟩
    show (_ : L2.TS) _ [some _, some _, some _] H
    try simp only [Z.kx]
    wtm_at "r"
    refine Z.r_setP hp T.cl_BitReader T.no_BitReader__bits (by show 0 < 1000; decide) ?_
    wtm_at "r"
    refine Z.r_setP L2.upd_same T.cl_BitReader T.no_BitReader__position (by show 1 < 1000; decide) ?_
    rw [show putF "_position" (V.int t) (putF "_bits" (V.ref b) []) = [(("_bits" : Str), V.ref b), ("_position", V.int t)] from by rw [Z.put_0, Z.put_s f_bp, Z.put_0]]
    exact q _ (fun x o hx hne => by rw [upd_ne hne, upd_ne hne]; exact hx) ⟨dx, L2.upd_same⟩
def sp_BitReader_left {K : PySem.W.Frag} {mg : Str → Option Value} {w : World} (T : Top K mg w) : Sp := fun vs H Q _ => ∃ (p b : Addr) (bs : List Nat) (t : Int), vs = [.ref p] ∧ RAt T.a_BitReader H p b t ∧ H b = some (.lst (nv bs)) ∧ bs.length ≤ 300 ∧ Q (.int ((bs.length : Nat) - t)) H
set_option maxHeartbeats 2000000 in
theorem ok_BitReader_left (T : Top K mg w) : FnOk P w K mg base CX0 1 T.a_BitReader_left T.d_BitReader_left pl_BitReader_left (sp_BitReader_left T) := by
  refine T.F_BitReader_left.ok sc_BitReader_left (fun vs H Q E h => ?_) (fun cdv A outer s H vs Q E hr h => ?_)
  · obtain ⟨p, b, bs, t, rfl, _⟩ := h
    rfl
  · obtain ⟨p, b, bs, t, rfl, hw, hb, hl, q⟩ := h
    have hu := hu_of hr
    refine ⟨_, (pss_one (ps_ret (pe_op op_sub (pe_callB (show CallR _ _ (Z.cLen K) from Z.call_len) (by rfl) T.n_len (by decide +kernel) (pa_cons (pe_fld (pv 0) rfl) pa_nil)) (pe_fld (pv 0) rfl)))), ?_⟩
    show (_ : L2.TS) _ [some _] H
    try simp only [Z.kx]
    obtain ⟨dx, hp⟩ := hw
    wtm_at "r"
    refine Z.r_fldP hp T.cl_BitReader T.no_BitReader__bits Z.look_1 ?_
    wtm_at "r"
    rw [nv_len]
    refine Z.r_fldP hp T.cl_BitReader T.no_BitReader__position ((Z.look_s f_pb).trans Z.look_1) ?_
    wtm_at "r"
    exact q
def sp_BitReader_at {K : PySem.W.Frag} {mg : Str → Option Value} {w : World} (T : Top K mg w) : Sp := fun vs H Q _ => ∃ (p b : Addr) (bs : List Nat) (t : Int), vs = [.ref p] ∧ RAt T.a_BitReader H p b t ∧ H b = some (.lst (nv bs)) ∧ bs.length ≤ 300 ∧ Q (.int t) H
set_option maxHeartbeats 2000000 in
theorem ok_BitReader_at (T : Top K mg w) : FnOk P w K mg base CX0 1 T.a_BitReader_at T.d_BitReader_at pl_BitReader_at (sp_BitReader_at T) := by
  refine T.F_BitReader_at.ok sc_BitReader_at (fun vs H Q E h => ?_) (fun cdv A outer s H vs Q E hr h => ?_)
  · obtain ⟨p, b, bs, t, rfl, _⟩ := h
    rfl
  · obtain ⟨p, b, bs, t, rfl, hw, hb, hl, q⟩ := h
    have hu := hu_of hr
    refine ⟨_, (pss_one (ps_ret (pe_fld (pv 0) rfl))), ?_⟩
    show (_ : L2.TS) _ [some _] H
    try simp only [Z.kx]
    obtain ⟨dx, hp⟩ := hw
    wtm_at "r"
    refine Z.r_fldP hp T.cl_BitReader T.no_BitReader__position ((Z.look_s f_pb).trans Z.look_1) ?_
    wtm_at "r"
    exact q
def sp_value_of (K : PySem.W.Frag) : Sp := fun vs H Q _ => ∃ (a : Addr) (bs : List Nat), vs = [.ref a] ∧ SqL K H a (nv bs) ∧ Q (.int (valN bs : Nat)) H
set_option maxHeartbeats 2000000 in
theorem ok_value_of (T : Top K mg w) : FnOk P w K mg base CX0 1 T.a_value_of T.d_value_of pl_value_of (sp_value_of K) := by
  refine T.F_value_of.ok sc_value_of (fun vs H Q E h => ?_) (fun cdv A outer s H vs Q E hr h => ?_)
  · obtain ⟨a, bs, rfl, _⟩ := h
    rfl
  · obtain ⟨a, bs, rfl, hS, q⟩ := h
    have hu := hu_of hr
    refine ⟨_, (pss_cons (ps_set (i := 1) sc_value_of.nd rfl (Or.inl rfl) pe_int)
      (pss_cons (ps_for PassesOwn.never rfl (pi_list (pv 0)) (pg_name (i := 2) sc_value_of.nd rfl (Or.inl rfl)) (pss_one (ps_set (i := 1) sc_value_of.nd rfl (Or.inl rfl) (pe_op op_add (pe_op op_mul pe_int (pv 1)) (pv 2)))))
      (pss_one (ps_ret (pv 1))))), ?_⟩
    show (_ : L2.TS) _ [some _, none, none] H
    try simp only [Z.kx]
    wtm_at "r"
    refine Z.lst_go hS (fun i σ H2 => ∃ (x : Option V), σ = [some (.ref a), some (.int (valN (bs.take i) : Nat)), x] ∧ H2 = H) ⟨none, rfl, rfl⟩ (fun i σ H2 _ ⟨_, _, e⟩ => by subst e; exact hS) ?_ ?_
    · rintro i y σ H2 hi ⟨x, rfl, rfl⟩
      obtain ⟨b, hbi, rfl⟩ := nv_get hi
      wtm_at "r"
      rw [show (2 : Int) * (valN (bs.take i) : Nat) + (b : Nat) = ((2 * valN (bs.take i) + b : Nat) : Int) by omega, ← valN_take hbi]
      exact ⟨_, rfl, rfl⟩
    · rintro σ H2 ⟨x, rfl, rfl⟩
      rw [nv_len, List.take_length]
      wtm_at "r"
      exact q
def sp_BitReader_read {K : PySem.W.Frag} {mg : Str → Option Value} {w : World} (T : Top K mg w) : Sp := fun vs H Q E => ∃ (p b : Addr) (bs : List Nat) (t w : Nat), vs = [.ref p, .int w] ∧ RAt T.a_BitReader H p b t ∧ H b = some (.lst (nv bs)) ∧ bs.length ≤ 300 ∧ t ≤ bs.length ∧ (bs.length < t + w → ∀ d, H d = none → E (.ref T.a_Truncated) (some d) (upd H d (trunc bs.length))) ∧ (t + w ≤ bs.length → ∀ H1, (∀ x o, H x = some o → x ≠ p → H1 x = some o) → RAt T.a_BitReader H1 p b ((t + w : Nat) : Int) → Q (.int (valN ((bs.drop t).take w) : Nat)) H1)
set_option maxHeartbeats 2000000 in
theorem ok_BitReader_read (T : Top K mg w) : FnOk P w K mg base (L2.CX P w) 3 T.a_BitReader_read T.d_BitReader_read pl_BitReader_read (sp_BitReader_read T) := by
  refine T.F_BitReader_read.okX sc_BitReader_read (fun vs H Q E h => ?_) (fun cdv A outer s H vs Q E hr h => ?_)
  · obtain ⟨p, b, bs, t, w, rfl, _⟩ := h
    rfl
  · obtain ⟨p, b, bs, t, w, rfl, hw, hb, hl, htl, qe, qv⟩ := h
    have hu := hu_of hr
    refine ⟨_, (pss_cons (ps_if (pt_cmpR op_gt (pv 1) (pe_meth0 (pv 0) T.cl_BitReader T.me_BitReader_left (ok_BitReader_left T) (hr.mono (by decide)) T.b_BitReader_left .nil pass0) (nomark _)) (pss_one (ps_raise rfl (takes_of rfl rfl rfl rfl) (pmk_oex T.ox_Truncated T.ic_Truncated T.it_DotfieldError___init__ (ok_DotfieldError___init__ T) (hr.mono (by decide)) T.b_DotfieldError___init__ .nil pass0 (by rfl) T.g_Truncated (pa_cons (pe_callB (show CallR _ _ (Z.cLen K) from Z.call_len) (by rfl) T.n_len (by decide +kernel) (pa_cons (pe_fld (pv 0) rfl) pa_nil)) pa_nil)))) pss_nil)
      (pss_cons (ps_set (i := 2) sc_BitReader_read.nd rfl (Or.inl rfl) (pe_fld (pv 0) rfl))
      (pss_cons (ps_fld (pv 0) (pe_op op_add (pv 2) (pv 1)) rfl)
      (pss_one (ps_ret (pe_call (ok_value_of T) (hr.mono (by decide)) (by rfl) T.g_value_of T.F_value_of.kp T.b_value_of .nil pass0 (pa_cons (pe_slice (show SlR _ (rSlL K) from sl_list) (pe_fld (pv 0) rfl) (po_some (pv 2)) (po_some (pe_fld (pv 0) rfl))) pa_nil))))))), ?_⟩
    show (_ : L2.TS) _ [some _, some _, none] H
    try simp only [Z.kx]
    obtain ⟨dx, hp⟩ := id hw
    wtm_at "r"
    refine Z.r_objP hp (no_m l_1 l_2) ?_
    wtm_at "r"
    refine ⟨p, b, bs, t, rfl, hw, hb, hl, ?_⟩
    wtm_at "r"
    with_reducible refine Z.i_2 (fun h => ?_) (fun h => ?_)
    · wtm_at "r"
      refine Z.r_mkO ?_
      wtm_at "r"
      refine Z.r_fldP hp T.cl_BitReader T.no_BitReader__bits Z.look_1 ?_
      wtm_at "r"
      rw [nv_len]
      refine ⟨by show 1 ≤ 1000; decide, fun e he => ?_⟩
      refine ⟨e, T.a_Truncated, _, rfl, "Truncated", L2.upd_same, T.ox_Truncated, T.ec_Truncated, T.nm_Truncated, T.no_Truncated_place, T.no_Truncated_name, fun d H1 hd hde h1 h2 h3 => ⟨rfl, d, _, h1, h2, (L2.upd_ne hde).symm.trans hd, ?_⟩⟩
      rw [Z.made_eq he h3]
      exact qe (by omega) d ((L2.upd_ne hde).symm.trans hd)
    · wtm_at "r"
      refine Z.r_fldP hp T.cl_BitReader T.no_BitReader__position ((Z.look_s f_pb).trans Z.look_1) ?_
      wtm_at "r"
      refine Z.r_setP hp T.cl_BitReader T.no_BitReader__position (by show 2 < 1000; decide) ?_
      rw [show putF "_position" (V.int ((t : Int) + (w : Int))) [(("_bits" : Str), V.ref b), ("_position", V.int (t : Int))] = [(("_bits" : Str), V.ref b), ("_position", V.int ((t + w : Nat) : Int))] from by rw [Z.put_s f_bp, Z.put_1, Int.natCast_add]]
      have hp1 : (upd H p (.ins T.a_BitReader dx [(("_bits" : Str), V.ref b), ("_position", V.int ((t + w : Nat) : Int))])) p = some (.ins T.a_BitReader dx [(("_bits" : Str), V.ref b), ("_position", V.int ((t + w : Nat) : Int))]) := L2.upd_same
      have k1 : ∀ x o, H x = some o → x ≠ p → (upd H p (.ins T.a_BitReader dx [(("_bits" : Str), V.ref b), ("_position", V.int ((t + w : Nat) : Int))])) x = some o := fun x o hx hne => (upd_ne hne).trans hx
      generalize upd H p (.ins T.a_BitReader dx [(("_bits" : Str), V.ref b), ("_position", V.int ((t + w : Nat) : Int))]) = H1 at hp1 k1
      wtm_at "r"
      refine Z.r_fldP hp1 T.cl_BitReader T.no_BitReader__bits Z.look_1 ?_
      wtm_at "r"
      refine Z.r_fldP hp1 T.cl_BitReader T.no_BitReader__position ((Z.look_s f_pb).trans Z.look_1) ?_
      wtm_at "r"
      have hb1 := k1 _ _ hb (ne_of hb hp (by intro z; cases z))
      refine Z.r_slL (Z.sq_l hb1) (fun c hc => ?_)
      rw [nv_cut _ (by omega), show t + w - t = w by omega]
      wtm_at "r"
      refine ⟨c, _, rfl, Z.sq_l L2.upd_same, qv (by omega) _ (fun x o hx hne => Z.s_upd hc _ _ (k1 x o hx hne)) ⟨dx, Z.s_upd hc _ _ hp1⟩⟩
end
theorem kd_COUNT_BITS {K : PySem.W.Frag} {mg : Str → Option Value} {w : World} (T : Top K mg w) {m : Nat} (hm : m < 3) {H : Hp} {k : VK} (hk : ∀ x, Z.VT K x (.t ((cbT.getD m []).map fun n : Nat => .i (n : Nat))) → k x H) : rIxD K w (.ref T.a_COUNT_BITS) (.str (modes.getD m "")) H k := by
  match m, hm with
  | 0, _ => obtain ⟨y, ry, vy⟩ := Z.okT_V T.t_COUNT_BITS_0; exact Z.r_kd T.d_COUNT_BITS T.k_COUNT_BITS_0 ry (hk y vy)
  | 1, _ => obtain ⟨y, ry, vy⟩ := Z.okT_V T.t_COUNT_BITS_1; exact Z.r_kd T.d_COUNT_BITS T.k_COUNT_BITS_1 ry (hk y vy)
  | 2, _ => obtain ⟨y, ry, vy⟩ := Z.okT_V T.t_COUNT_BITS_2; exact Z.r_kd T.d_COUNT_BITS T.k_COUNT_BITS_2 ry (hk y vy)
section
variable {P : Program} {w : World} {K : PySem.W.Frag} {mg : Str → Option Value} {base : Heap}
def sp_count_bits (K : PySem.W.Frag) : Sp := fun vs H Q _ => ∃ (m v : Nat), vs = [.str (modes.getD m ""), .int v] ∧ m < 3 ∧ 1 ≤ v ∧ v ≤ 40 ∧ Q (.int (cbN m v : Nat)) H
set_option maxHeartbeats 2000000 in
theorem ok_count_bits (T : Top K mg w) : FnOk P w K mg base CX0 1 T.a_count_bits T.d_count_bits pl_count_bits (sp_count_bits K) := by
  refine T.F_count_bits.ok sc_count_bits (fun vs H Q E h => ?_) (fun cdv A outer s H vs Q E hr h => ?_)
  · obtain ⟨m, v, rfl, _⟩ := h
    rfl
  · obtain ⟨m, v, rfl, hm, h1, h40, q⟩ := h
    have hu := hu_of hr
    refine ⟨_, (pss_cons (ps_if (pt_cmpR op_lt (pv 1) pe_int (nomark _)) (pss_one (ps_ret (pe_ix (show IxR _ (rIxT K) from ix_tup) (pe_ix (show IxR _ (rIxD K w) from ix_kdict) (pe_glob (v := .ref T.a_COUNT_BITS) (u := .ref T.a_COUNT_BITS) rfl T.m_COUNT_BITS rfl) (pv 0) (fun _ _ => rfl)) pe_int (fun _ _ => rfl)))) pss_nil)
      (pss_cons (ps_if (pt_cmpR op_lt (pv 1) pe_int (nomark _)) (pss_one (ps_ret (pe_ix (show IxR _ (rIxT K) from ix_tup) (pe_ix (show IxR _ (rIxD K w) from ix_kdict) (pe_glob (v := .ref T.a_COUNT_BITS) (u := .ref T.a_COUNT_BITS) rfl T.m_COUNT_BITS rfl) (pv 0) (fun _ _ => rfl)) pe_int (fun _ _ => rfl)))) pss_nil)
      (pss_one (ps_ret (pe_ix (show IxR _ (rIxT K) from ix_tup) (pe_ix (show IxR _ (rIxD K w) from ix_kdict) (pe_glob (v := .ref T.a_COUNT_BITS) (u := .ref T.a_COUNT_BITS) rfl T.m_COUNT_BITS rfl) (pv 0) (fun _ _ => rfl)) pe_int (fun _ _ => rfl)))))), ?_⟩
    show (_ : L2.TS) _ [some _, some _] H
    try simp only [Z.kx]
    wtm_at "r"
    with_reducible refine Z.i_2 (fun h => ?_) (fun h => ?_)
    · wtm_at "r"
      refine kd_COUNT_BITS T hm (fun x vx => ?_)
      obtain ⟨b, rfl, hb⟩ := Z.vt_t vx
      wtm_at "r"
      refine Z.r_trI hb (j := 0) rfl (cb_at m hm 0 (by decide)) ?_
      unfold cbN at q
      rw [grp0 (by omega)] at q
      wtm_at "r"
      exact q
    · wtm_at "r"
      with_reducible refine Z.i_2 (fun h2 => ?_) (fun h2 => ?_)
      · wtm_at "r"
        refine kd_COUNT_BITS T hm (fun x vx => ?_)
        obtain ⟨b, rfl, hb⟩ := Z.vt_t vx
        wtm_at "r"
        refine Z.r_trI hb (j := 1) rfl (cb_at m hm 1 (by decide)) ?_
        unfold cbN at q
        rw [grp1 (by omega) (by omega)] at q
        wtm_at "r"
        exact q
      · wtm_at "r"
        refine kd_COUNT_BITS T hm (fun x vx => ?_)
        obtain ⟨b, rfl, hb⟩ := Z.vt_t vx
        wtm_at "r"
        refine Z.r_trI hb (j := 2) rfl (cb_at m hm 2 (by decide)) ?_
        unfold cbN at q
        rw [grp2 (by omega) (by omega)] at q
        wtm_at "r"
        exact q
end
def eCls {K : PySem.W.Frag} {mg : Str → Option Value} {w : World} (T : Top K mg w) (k : Nat) : Addr := if k = 0 then T.a_Truncated else if k = 1 then T.a_InvalidMode else T.a_InvalidCount
theorem kd_MODE_NUMBERS {K : PySem.W.Frag} {mg : Str → Option Value} {w : World} (T : Top K mg w) {m : Nat} (hm : m < 3) {H : Hp} {k : VK} (hk : ∀ x, Z.VT K x (.i ((2 ^ m : Nat) : Int)) → k x H) : rIxD K w (.ref T.a_MODE_NUMBERS) (.str (modes.getD m "")) H k := by
  match m, hm with
  | 0, _ => obtain ⟨y, ry, vy⟩ := Z.okT_V T.t_MODE_NUMBERS_0; exact Z.r_kd T.d_MODE_NUMBERS T.k_MODE_NUMBERS_0 ry (hk y vy)
  | 1, _ => obtain ⟨y, ry, vy⟩ := Z.okT_V T.t_MODE_NUMBERS_1; exact Z.r_kd T.d_MODE_NUMBERS T.k_MODE_NUMBERS_1 ry (hk y vy)
  | 2, _ => obtain ⟨y, ry, vy⟩ := Z.okT_V T.t_MODE_NUMBERS_2; exact Z.r_kd T.d_MODE_NUMBERS T.k_MODE_NUMBERS_2 ry (hk y vy)
theorem kd_GROUP_BITS {K : PySem.W.Frag} {mg : Str → Option Value} {w : World} (T : Top K mg w) {m : Nat} (hm : m < 3) {H : Hp} {k : VK} (hk : ∀ x, Z.VT K x (.t ((wdT.getD m []).map fun n : Nat => .i (n : Nat))) → k x H) : rIxD K w (.ref T.a_GROUP_BITS) (.str (modes.getD m "")) H k := by
  match m, hm with
  | 0, _ => obtain ⟨y, ry, vy⟩ := Z.okT_V T.t_GROUP_BITS_0; exact Z.r_kd T.d_GROUP_BITS T.k_GROUP_BITS_0 ry (hk y vy)
  | 1, _ => obtain ⟨y, ry, vy⟩ := Z.okT_V T.t_GROUP_BITS_1; exact Z.r_kd T.d_GROUP_BITS T.k_GROUP_BITS_1 ry (hk y vy)
  | 2, _ => obtain ⟨y, ry, vy⟩ := Z.okT_V T.t_GROUP_BITS_2; exact Z.r_kd T.d_GROUP_BITS T.k_GROUP_BITS_2 ry (hk y vy)
theorem kd_BASES {K : PySem.W.Frag} {mg : Str → Option Value} {w : World} (T : Top K mg w) {m : Nat} (hm : m < 3) {H : Hp} {k : VK} (hk : ∀ x, Z.VT K x (.i (bsN m : Nat)) → k x H) : rIxD K w (.ref T.a_BASES) (.str (modes.getD m "")) H k := by
  match m, hm with
  | 0, _ => obtain ⟨y, ry, vy⟩ := Z.okT_V T.t_BASES_0; exact Z.r_kd T.d_BASES T.k_BASES_0 ry (hk y vy)
  | 1, _ => obtain ⟨y, ry, vy⟩ := Z.okT_V T.t_BASES_1; exact Z.r_kd T.d_BASES T.k_BASES_1 ry (hk y vy)
  | 2, _ => obtain ⟨y, ry, vy⟩ := Z.okT_V T.t_BASES_2; exact Z.r_kd T.d_BASES T.k_BASES_2 ry (hk y vy)
section
variable {P : Program} {w : World} {K : PySem.W.Frag} {mg : Str → Option Value} {base : Heap}
def sp_group_size (K : PySem.W.Frag) : Sp := fun vs H Q _ => ∃ (m : Nat), vs = [.str (modes.getD m "")] ∧ m < 3 ∧ Q (.int (gsN m : Nat)) H
set_option maxHeartbeats 2000000 in
theorem ok_group_size (T : Top K mg w) : FnOk P w K mg base CX0 1 T.a_group_size T.d_group_size pl_group_size (sp_group_size K) := by
  refine T.F_group_size.ok sc_group_size (fun vs H Q E h => ?_) (fun cdv A outer s H vs Q E hr h => ?_)
  · obtain ⟨m, rfl, _⟩ := h
    rfl
  · obtain ⟨m, rfl, hm, q⟩ := h
    have hu := hu_of hr
    refine ⟨_, (pss_one (ps_ret (pe_op op_sub (pe_callB (show CallR _ _ (Z.cLen K) from Z.call_len) (by rfl) T.n_len (by decide +kernel) (pa_cons (pe_ix (show IxR _ (rIxD K w) from ix_kdict) (pe_glob (v := .ref T.a_GROUP_BITS) (u := .ref T.a_GROUP_BITS) rfl T.m_GROUP_BITS rfl) (pv 0) (fun _ _ => rfl)) pa_nil)) pe_int))), ?_⟩
    show (_ : L2.TS) _ [some _] H
    try simp only [Z.kx]
    wtm_at "r"
    refine kd_GROUP_BITS T hm (fun x vx => ?_)
    obtain ⟨b, rfl, hb⟩ := Z.vt_t vx
    obtain ⟨xs, sx, lx, _⟩ := Z.tr_tup hb
    wtm_at "r"
    refine Z.r_lenT (sx _) ?_
    wtm_at "r"
    rw [lx, List.length_map, wd_len m hm, show ((gsN m + 1 : Nat) : Int) - 1 = ((gsN m : Nat) : Int) by omega]
    exact q
def sp_mode_of {K : PySem.W.Frag} {mg : Str → Option Value} {w : World} (T : Top K mg w) : Sp := fun vs H Q E => ∃ (n p : Nat), vs = [.int n, .int p] ∧ (∀ m, mdN n = some m → Q (.str (modes.getD m "")) H) ∧ (mdN n = none → ∀ d, H d = none → E (.ref T.a_InvalidMode) (some d) (upd H d (xdE 1 p)))
set_option maxHeartbeats 2000000 in
theorem ok_mode_of (T : Top K mg w) : FnOk P w K mg base (L2.CX P w) 3 T.a_mode_of T.d_mode_of pl_mode_of (sp_mode_of T) := by
  refine T.F_mode_of.okX sc_mode_of (fun vs H Q E h => ?_) (fun cdv A outer s H vs Q E hr h => ?_)
  · obtain ⟨n, p, rfl, _⟩ := h
    rfl
  · obtain ⟨n, p, rfl, qv, qe⟩ := h
    have hu := hu_of hr
    refine ⟨_, (pss_cons (ps_for (passes_of rfl) rfl (pi_tup (pe_glob (v := .ref T.a_MODES) (u := .ref T.a_MODES) rfl T.m_MODES rfl)) (pg_name (i := 2) sc_mode_of.nd rfl (Or.inl rfl)) (pss_one (ps_if (pt_cmpR op_eq (pe_ix (show IxR _ (rIxD K w) from ix_kdict) (pe_glob (v := .ref T.a_MODE_NUMBERS) (u := .ref T.a_MODE_NUMBERS) rfl T.m_MODE_NUMBERS rfl) (pv 2) (fun _ _ => rfl)) (pv 0) (nomark _)) (pss_one (ps_ret (pv 2))) pss_nil)))
      (pss_one (ps_raise rfl (takes_of rfl rfl rfl rfl) (pmk_oex T.ox_InvalidMode T.ic_InvalidMode T.it_DotfieldError___init__ (ok_DotfieldError___init__ T) (hr.mono (by decide)) T.b_DotfieldError___init__ .nil pass0 (by rfl) T.g_InvalidMode (pa_cons (pv 1) pa_nil))))), ?_⟩
    show (_ : L2.TS) _ [some _, some _, none] H
    try simp only [Z.kx]
    wtm_at "e"
    refine Z.tup_go (Z.tr_strs T.t_MODES).1 (fun i σ H2 => ∃ (x : Option V), σ = [some (.int n), some (.int p), x] ∧ H2 = H ∧ ∀ j, j < i → n ≠ 2 ^ j) ⟨_, rfl, rfl, fun j hj => absurd hj (Nat.not_lt_zero j)⟩ ?_ ?_
    · rintro i v σ H2 hi ⟨x, rfl, rfl, hj⟩
      have hil := (List.getElem?_eq_some_iff.mp hi).1
      rw [List.length_map] at hil
      have hi3 : i < 3 := hil
      have ev : v = .str (modes.getD i "") := by
        rw [List.getElem?_map, List.getElem?_eq_getElem hil] at hi
        rw [← Option.some.inj hi, List.getD_eq_getElem?_getD, List.getElem?_eq_getElem hil]; rfl
      subst ev
      wtm_at "e"
      refine kd_MODE_NUMBERS T hi3 (fun x vx => ?_)
      cases Z.vt_i vx
      wtm_at "e"
      with_reducible refine Z.i_2 (fun h => ?_) (fun h => ?_)
      · have e : n = 2 ^ i := by omega
        wtm_at "e"
        exact qv i (by rw [e]; exact md_of hi3)
      · wtm_at "e"
        refine ⟨_, rfl, rfl, fun j hji => ?_⟩
        by_cases e : j = i
        · subst e; omega
        · exact hj j (by omega)
    · rintro σ H2 ⟨x, rfl, rfl, hj⟩
      wtm_at "e"
      try dsimp only
      refine Z.r_mkO ?_
      wtm_at "r"
      refine ⟨by show 1 ≤ 1000; decide, fun e he => ?_⟩
      refine ⟨e, T.a_InvalidMode, _, rfl, "InvalidMode", L2.upd_same, T.ox_InvalidMode, T.ec_InvalidMode, T.nm_InvalidMode, T.no_InvalidMode_place, T.no_InvalidMode_name, fun d H9 hd hde g1 g2 g3 => ⟨rfl, d, _, g1, g2, (L2.upd_ne hde).symm.trans hd, ?_⟩⟩
      rw [Z.made_eq he g3]
      have hdn := (L2.upd_ne hde).symm.trans hd
      exact qe (xor_none.mpr ⟨by have := hj 0 (by decide); omega, by have := hj 1 (by decide); omega, by have := hj 2 (by decide); omega⟩) d hdn
def sp_read_group {K : PySem.W.Frag} {mg : Str → Option Value} {w : World} (T : Top K mg w) : Sp := fun vs H Q E => ∃ (p b : Addr) (bs : List Nat) (t m s : Nat), vs = [.ref p, .str (modes.getD m ""), .int s] ∧ RAt T.a_BitReader H p b t ∧ H b = some (.lst (nv bs)) ∧ Bt bs ∧ bs.length ≤ 300 ∧ t ≤ bs.length ∧ m < 3 ∧ 1 ≤ s ∧ s ≤ gsN m ∧ (bs.length < t + wdN m s → ∀ H1 d, (∀ x o, H x = some o → x ≠ p → H1 x = some o) → H1 d = none → E (.ref T.a_Truncated) (some d) (upd H1 d (xdE 0 bs.length))) ∧ (t + wdN m s ≤ bs.length → bsN m ^ s ≤ numK bs t (wdN m s) → ∀ H1 d, (∀ x o, H x = some o → x ≠ p → H1 x = some o) → H1 d = none → E (.ref T.a_InvalidCount) (some d) (upd H1 d (xdE 2 t))) ∧ (t + wdN m s ≤ bs.length → ¬ bsN m ^ s ≤ numK bs t (wdN m s) → ∀ H1 g, (∀ x o, H x = some o → x ≠ p → H1 x = some o) → RAt T.a_BitReader H1 p b ((t + wdN m s : Nat) : Int) → H g = none → H1 g = some (.lst (nv (digs m s (numK bs t (wdN m s))))) → Q (.ref g) H1)
set_option maxHeartbeats 2000000 in
theorem ok_read_group (T : Top K mg w) : FnOk P w K mg base (L2.CX P w) 4 T.a_read_group T.d_read_group pl_read_group (sp_read_group T) := by
  refine T.F_read_group.okX sc_read_group (fun vs H Q E h => ?_) (fun cdv A outer s H vs Q E hr h => ?_)
  · obtain ⟨p, b, bs, t, m, s, rfl, _⟩ := h
    rfl
  · obtain ⟨p, b, bs, t, m, s, rfl, hw, hb, hB, hl, htl, hm, s1, s2, qt, qc, qv⟩ := h
    have hu := hu_of hr
    refine ⟨_, (pss_cons (ps_set (i := 3) sc_read_group.nd rfl (Or.inl rfl) (pe_meth0 (pv 0) T.cl_BitReader T.me_BitReader_at (ok_BitReader_at T) (hr.mono (by decide)) T.b_BitReader_at .nil pass0))
      (pss_cons (ps_set (i := 4) sc_read_group.nd rfl (Or.inl rfl) (Z.pe_methX (pv 0) T.cl_BitReader T.me_BitReader_read (ok_BitReader_read T) (hr.mono (by decide)) T.b_BitReader_read .nil (fun σ => passAt (takes_of rfl rfl rfl rfl) σ) (pa_cons (pe_ix (show IxR _ (rIxT K) from ix_tup) (pe_ix (show IxR _ (rIxD K w) from ix_kdict) (pe_glob (v := .ref T.a_GROUP_BITS) (u := .ref T.a_GROUP_BITS) rfl T.m_GROUP_BITS rfl) (pv 1) (fun _ _ => rfl)) (pv 2) (fun _ _ => rfl)) pa_nil)))
      (pss_cons (ps_set (i := 5) sc_read_group.nd rfl (Or.inl rfl) (pe_lst pa_nil))
      (pss_cons (ps_for (passes_of rfl) rfl (pi_range1 rfl T.n_range (pa_cons (pv 2) pa_nil)) (pg_name (i := 6) sc_read_group.nd rfl (Or.inl rfl)) (pss_cons (ps_set (i := 7) sc_read_group.nd rfl (Or.inl rfl) (pe_op op_mod (pv 4) (pe_ix (show IxR _ (rIxD K w) from ix_kdict) (pe_glob (v := .ref T.a_BASES) (u := .ref T.a_BASES) rfl T.m_BASES rfl) (pv 1) (fun _ _ => rfl))))
      (pss_cons (ps_set (i := 4) sc_read_group.nd rfl (Or.inl rfl) (pe_op op_fdiv (pv 4) (pe_ix (show IxR _ (rIxD K w) from ix_kdict) (pe_glob (v := .ref T.a_BASES) (u := .ref T.a_BASES) rfl T.m_BASES rfl) (pv 1) (fun _ _ => rfl))))
      (pss_one (ps_expr (pe_bm PySem.F.plainAttrs_list PySem.F.slot_list_append PySem.F.type_list_append mt_append (pv 5) (pa_cons (pe_ifExp (pt_cmpR op_eq (pv 1) pe_str (nomark _)) (pv 7) (pe_ix (show IxR _ (rIxT K) from ix_tup) (pe_glob (v := .ref T.a_ALPHANUMERIC) (u := .ref T.a_ALPHANUMERIC) rfl T.m_ALPHANUMERIC rfl) (pv 7) (fun _ _ => rfl))) pa_nil)))))))
      (pss_cons (ps_if (pt_cmpR op_gt (pv 4) pe_int (nomark _)) (pss_one (ps_raise rfl (takes_of rfl rfl rfl rfl) (pmk_oex T.ox_InvalidCount T.ic_InvalidCount T.it_DotfieldError___init__ (ok_DotfieldError___init__ T) (hr.mono (by decide)) T.b_DotfieldError___init__ .nil pass0 (by rfl) T.g_InvalidCount (pa_cons (pv 3) pa_nil)))) pss_nil)
      (pss_one (ps_ret (pe_revL (pv 5))))))))), ?_⟩
    show (_ : L2.TS) _ [some _, some _, some _, none, none, none, none, none] H
    try simp only [Z.kx]
    have hb0 := bs_pos m hm
    have gp := gs_pos hm
    have wlt := wd_lt m hm s (by omega)
    obtain ⟨dx, hp⟩ := id hw
    wtm_at "e"
    refine Z.r_objP hp (no_m a_1 a_2) ?_
    refine ⟨p, b, bs, t, rfl, hw, hb, hl, ?_⟩
    wtm_at "e"
    refine Z.r_objP hp (no_m r_1 r_2) ?_
    wtm_at "e"
    refine kd_GROUP_BITS T hm (fun x vx => ?_)
    obtain ⟨c, rfl, hc⟩ := Z.vt_t vx
    wtm_at "e"
    refine Z.r_trI hc (j := s) rfl (tri_at (by rw [wd_len m hm]; omega)) ?_
    rw [show (wdT.getD m []).getD s 0 = wdN m s from rfl]
    refine ⟨p, b, bs, t, wdN m s, rfl, hw, hb, hl, htl, fun h d hd => qt h H d (fun _ _ e _ => e) hd, fun h H1 k1 w1 => ?_⟩
    have qc' := qc h
    have qv' := qv h
    rw [show valN ((bs.drop t).take (wdN m s)) = numK bs t (wdN m s) from rfl]
    have hlt := numK_lt hB h
    generalize numK bs t (wdN m s) = v at *
    wtm_at "e"
    refine ⟨by show 0 ≤ sizeLine; decide, fun g hg => ?_⟩
    have hgH : H g = none := by
      cases h0 : H g with
      | none => rfl
      | some o =>
        by_cases e : g = p
        · obtain ⟨dx1, hp1⟩ := w1
          rw [e, hp1] at hg; cases hg
        · rw [k1 g o h0 e] at hg; cases hg
    have hgp : g ≠ p := fun e => by rw [e, hp] at hgH; cases hgH
    wtm_at "e"
    refine Z.rng_go s rfl ⟨by omega, by omega⟩ (fun i σ H2 => ∃ (x y : Option V), σ = [some (.ref p), some (.str (modes.getD m "")), some (.int s), some (.int t), some (.int (v / bsN m ^ i : Nat)), some (.ref g), x, y] ∧ (∀ x o, H1 x = some o → H2 x = some o) ∧ H2 g = some (.lst (nv (grpR m v i)))) ⟨none, none, by rw [Nat.pow_zero, Nat.div_one], Z.s_upd hg, by exact L2.upd_same⟩ ?_ ?_
    · rintro i σ H2 hi ⟨x, y, rfl, k2, hg2⟩
      wtm_at "e"
      refine kd_BASES T hm (fun z vz => ?_)
      cases Z.vt_i vz
      refine Z.r_I (by show (0 : Int) < _; omega) ?_
      wtm_at "e"
      refine kd_BASES T hm (fun z vz => ?_)
      cases Z.vt_i vz
      refine Z.r_I (Z.c_div (by omega) (by omega)) ?_
      wtm_at "e"
      rw [← Int.natCast_ediv, ← Int.natCast_emod, Nat.div_div_eq_div_mul, ← Nat.pow_succ, md_byte hm]
      have hx : v / bsN m ^ i % bsN m < bsN m := Nat.mod_lt _ hb0.1
      have fin : ∀ H3 : Hp, (∀ x o, H1 x = some o → H3 x = some o) → H3 g = some (.lst (nv (grpR m v i) ++ [V.int (sgN m (v / bsN m ^ i % bsN m) : Nat)])) → H3 g = some (.lst (nv (grpR m v (i + 1)))) := fun H3 _ e => by
        rw [e]
        show some (HO.lst (nv (grpR m v i) ++ _)) = some (.lst (nv (grpR m v i ++ [_])))
        unfold nv
        rw [List.map_append]; rfl
      have hmut : ∀ (o : HO) (x : Addr) (u : HO), H1 x = some u → (upd H2 g o) x = some u := fun o x u e => (L2.upd_ne (fun z => by rw [z, hg] at e; cases e)).trans (k2 x u e)
      with_reducible refine Z.i_2 (fun h2 => ?_) (fun h2 => ?_)
      · wtm_at "e"
        refine Z.r_append hg2 (Z.szl (by rw [nv_len, grpR_len]; omega)) ?_
        have e : v / bsN m ^ i % bsN m = sgN m (v / bsN m ^ i % bsN m) := by unfold sgN; rw [if_pos h2]
        refine ⟨_, _, rfl, hmut _, fin _ (hmut _) ?_⟩
        rw [← e]; exact L2.upd_same
      · wtm_at "e"
        have hx45 := ne_byte m hm h2
        refine Z.r_trI T.t_ALPHANUMERIC (j := v / bsN m ^ i % bsN m) rfl (an_at _ (by omega)) ?_
        wtm_at "e"
        refine Z.r_append hg2 (Z.szl (by rw [nv_len, grpR_len]; omega)) ?_
        have e : anL.getD (v / bsN m ^ i % bsN m) 0 = sgN m (v / bsN m ^ i % bsN m) := by unfold sgN; rw [if_neg h2]
        refine ⟨_, _, rfl, hmut _, fin _ (hmut _) ?_⟩
        rw [← e]; exact L2.upd_same
    rintro σ H2 ⟨x, y, rfl, k2, hg2⟩
    have k12 : ∀ x o, H x = some o → x ≠ p → H2 x = some o := fun x o e n => k2 x o (k1 x o e n)
    have hpos := Nat.div_pos_iff (a := v) (b := bsN m ^ s)
    have hpw : 0 < bsN m ^ s := Nat.pow_pos hb0.1
    wtm_at "e"
    with_reducible refine Z.i_2 (fun h2 => ?_) (fun h2 => ?_)
    · wtm_at "e"
      try dsimp only
      refine Z.r_mkO ?_
      wtm_at "r"
      refine ⟨by show 1 ≤ 1000; decide, fun e he => ?_⟩
      refine ⟨e, T.a_InvalidCount, _, rfl, "InvalidCount", L2.upd_same, T.ox_InvalidCount, T.ec_InvalidCount, T.nm_InvalidCount, T.no_InvalidCount_place, T.no_InvalidCount_name, fun d H9 hd hde g1 g2 g3 => ⟨rfl, d, _, g1, g2, (L2.upd_ne hde).symm.trans hd, ?_⟩⟩
      rw [Z.made_eq he g3]
      have hdn := (L2.upd_ne hde).symm.trans hd
      exact qc' ((hpos.mp (by omega)).2) _ d k12 hdn
    · wtm_at "e"
      refine ⟨g, _, rfl, Z.sq_l hg2, fun l hl2 => ?_⟩
      have hl0 : H l = none := by
        cases h0 : H l with
        | none => rfl
        | some o =>
          by_cases e : l = p
          · obtain ⟨dx1, hp1⟩ := w1
            rw [e, k2 _ _ hp1] at hl2; cases hl2
          · rw [k12 l o h0 e] at hl2; cases hl2
      refine qv' (fun z => h2 (by have := hpos.mpr ⟨hpw, z⟩; omega)) _ l (fun x o e n => Z.s_upd hl2 _ _ (k12 x o e n)) ?_ hl0 ?_
      · obtain ⟨dx1, hp1⟩ := w1
        exact ⟨dx1, Z.s_upd hl2 _ _ (k2 _ _ hp1)⟩
      · rw [L2.upd_same]
        unfold digs nv
        rw [List.map_reverse]
def sp_read_content {K : PySem.W.Frag} {mg : Str → Option Value} {w : World} (T : Top K mg w) : Sp := fun vs H Q E => ∃ (p b : Addr) (bs : List Nat) (t m v : Nat), vs = [.ref p, .str (modes.getD m ""), .int v] ∧ RAt T.a_BitReader H p b t ∧ H b = some (.lst (nv bs)) ∧ Bt bs ∧ bs.length ≤ 300 ∧ t ≤ bs.length ∧ m < 3 ∧ 1 ≤ v ∧ v ≤ 40 ∧ (∀ k q, cntN bs m v t = .er k q → ∀ H1 d, (∀ x o, H x = some o → x ≠ p → H1 x = some o) → H1 d = none → E (.ref (eCls T k)) (some d) (upd H1 d (xdE k q))) ∧ (∀ cs q, cntN bs m v t = .ok cs q → t ≤ q → q ≤ bs.length → ∀ H1 g, (∀ x o, H x = some o → x ≠ p → H1 x = some o) → RAt T.a_BitReader H1 p b (q : Nat) → H g = none → H1 g = some (.lst (nv cs)) → Q (.ref g) H1)
set_option maxHeartbeats 2000000 in
theorem ok_read_content (T : Top K mg w) : FnOk P w K mg base (L2.CX P w) 5 T.a_read_content T.d_read_content pl_read_content (sp_read_content T) := by
  refine T.F_read_content.okX sc_read_content (fun vs H Q E h => ?_) (fun cdv A outer s H vs Q E hr h => ?_)
  · obtain ⟨p, b, bs, t, m, v, rfl, _⟩ := h
    rfl
  · obtain ⟨p, b, bs, t, m, v, rfl, hw, hb, hB, hl, htl, hm, v1, v40, qe, qv⟩ := h
    have hu := hu_of hr
    refine ⟨_, (pss_cons (ps_set (i := 3) sc_read_content.nd rfl (Or.inl rfl) (pe_meth0 (pv 0) T.cl_BitReader T.me_BitReader_at (ok_BitReader_at T) (hr.mono (by decide)) T.b_BitReader_at .nil pass0))
      (pss_cons (ps_set (i := 4) sc_read_content.nd rfl (Or.inl rfl) (Z.pe_methX (pv 0) T.cl_BitReader T.me_BitReader_read (ok_BitReader_read T) (hr.mono (by decide)) T.b_BitReader_read .nil (fun σ => passAt (takes_of rfl rfl rfl rfl) σ) (pa_cons (pe_call (ok_count_bits T) (hr.mono (by decide)) (by rfl) T.g_count_bits T.F_count_bits.kp T.b_count_bits .nil pass0 (pa_cons (pv 1) (pa_cons (pv 2) pa_nil))) pa_nil)))
      (pss_cons (ps_if (pt_cmpR op_eq (pv 4) pe_int (nomark _)) (pss_one (ps_raise rfl (takes_of rfl rfl rfl rfl) (pmk_oex T.ox_InvalidCount T.ic_InvalidCount T.it_DotfieldError___init__ (ok_DotfieldError___init__ T) (hr.mono (by decide)) T.b_DotfieldError___init__ .nil pass0 (by rfl) T.g_InvalidCount (pa_cons (pv 3) pa_nil)))) pss_nil)
      (pss_cons (ps_set (i := 5) sc_read_content.nd rfl (Or.inl rfl) (pe_lst pa_nil))
      (pss_cons (ps_while (passes_of rfl) (pt_cmpR op_lt (pe_callB (show CallR _ _ (Z.cLen K) from Z.call_len) (by rfl) T.n_len (by decide +kernel) (pa_cons (pv 5) pa_nil)) (pv 4) (nomark _)) (pss_cons (ps_set (i := 6) sc_read_content.nd rfl (Or.inl rfl) (pe_callB (call_min2 rfl) (by rfl) T.n_min (by decide +kernel) (pa_cons (pe_call (ok_group_size T) (hr.mono (by decide)) (by rfl) T.g_group_size T.F_group_size.kp T.b_group_size .nil pass0 (pa_cons (pv 1) pa_nil)) (pa_cons (pe_op op_sub (pv 4) (pe_callB (show CallR _ _ (Z.cLen K) from Z.call_len) (by rfl) T.n_len (by decide +kernel) (pa_cons (pv 5) pa_nil))) pa_nil))))
      (pss_one (ps_expr (pe_bm PySem.F.plainAttrs_list PySem.F.slot_list_extend PySem.F.type_list_extend mt_extend (pv 5) (pa_cons (pe_callS (ok_read_group T) (hr.mono (by decide)) (by rfl) T.g_read_group T.F_read_group.kp T.b_read_group (fun σ => passAt (takes_of rfl rfl rfl rfl) σ) (pa_cons (pv 0) (pa_cons (pv 1) (pa_cons (pv 6) pa_nil)))) pa_nil))))))
      (pss_one (ps_ret (pv 5)))))))), ?_⟩
    show (_ : L2.TS) _ [some _, some _, some _, none, none, none, none] H
    try simp only [Z.kx]
    have cl := cbN_lim (v := v) hm
    have gp := gs_pos hm
    obtain ⟨dx, hp⟩ := id hw
    wtm_at "e"
    refine Z.r_objP hp (no_m a_1 a_2) ?_
    refine ⟨p, b, bs, t, rfl, hw, hb, hl, ?_⟩
    wtm_at "e"
    refine Z.r_objP hp (no_m r_1 r_2) ?_
    wtm_at "e"
    refine ⟨m, v, rfl, hm, v1, v40, ?_⟩
    refine ⟨p, b, bs, t, cbN m v, rfl, hw, hb, hl, htl, fun h d hd => qe 0 bs.length (by unfold cntN; rw [if_pos h]) H d (fun _ _ e _ => e) hd, fun h H1 k1 w1 => ?_⟩
    rw [show valN ((bs.drop t).take (cbN m v)) = numK bs t (cbN m v) from rfl]
    have hlt := numK_lt hB h
    have hpw : (2 : Nat) ^ cbN m v ≤ 2 ^ 16 := Nat.pow_le_pow_right (by decide) cl.1
    have ecnt : ∀ R, R = cntN bs m v t → R = if numK bs t (cbN m v) = 0 then RR.er 2 t else conN bs m (numK bs t (cbN m v)) (t + cbN m v) (numK bs t (cbN m v)) [] := fun R e => by
      rw [e]; unfold cntN; rw [if_neg (by omega)]
    have ecnt := ecnt _ rfl
    generalize cntN bs m v t = R at *
    generalize numK bs t (cbN m v) = n at *
    wtm_at "e"
    with_reducible refine Z.i_2 (fun h2 => ?_) (fun h2 => ?_)
    · wtm_at "e"
      try dsimp only
      refine Z.r_mkO ?_
      wtm_at "r"
      refine ⟨by show 1 ≤ 1000; decide, fun e he => ?_⟩
      refine ⟨e, T.a_InvalidCount, _, rfl, "InvalidCount", L2.upd_same, T.ox_InvalidCount, T.ec_InvalidCount, T.nm_InvalidCount, T.no_InvalidCount_place, T.no_InvalidCount_name, fun d H9 hd hde g1 g2 g3 => ⟨rfl, d, _, g1, g2, (L2.upd_ne hde).symm.trans hd, ?_⟩⟩
      rw [Z.made_eq he g3]
      have hdn := (L2.upd_ne hde).symm.trans hd
      exact qe 2 t (by rw [ecnt, if_pos (by omega)]) H1 d k1 hdn
    rw [if_neg (by omega)] at ecnt
    wtm_at "e"
    refine ⟨by show 0 ≤ sizeLine; decide, fun g hg => ?_⟩
    have hgH : H g = none := by
      cases h0 : H g with
      | none => rfl
      | some o =>
        by_cases e : g = p
        · obtain ⟨dx1, hp1⟩ := w1
          rw [e, hp1] at hg; cases hg
        · rw [k1 g o h0 e] at hg; cases hg
    have hgp : g ≠ p := fun e => by rw [e, hp] at hgH; cases hgH
    have hb1 := k1 _ _ hb (ne_of hb hp (by intro z; cases z))
    have hw2 : RAt T.a_BitReader (upd H1 g (.lst [])) p b ((t + cbN m v : Nat) : Int) := w1.same (Z.s_upd hg)
    have k2 : ∀ x o, H x = some o → x ≠ p → (upd H1 g (.lst [])) x = some o := fun x o e n => Z.s_upd hg _ _ (k1 x o e n)
    have hg2 : (upd H1 g (.lst [])) g = some (.lst (nv [])) := L2.upd_same
    generalize upd H1 g (.lst []) = H2 at hw2 k2 hg2
    wtm_at "e"
    refine Z.r_while (fun f σ H3 => ∃ (u : Nat) (acc : List Nat) (x : Option V), σ = [some (.ref p), some (.str (modes.getD m "")), some (.int v), some (.int t), some (.int n), some (.ref g), x] ∧ t ≤ u ∧ u ≤ bs.length ∧ acc.length ≤ n ∧ acc.length + f ≥ n ∧ acc.length ≤ 3 * u ∧ RAt T.a_BitReader H3 p b (u : Nat) ∧ (∀ x o, H x = some o → x ≠ p → H3 x = some o) ∧ H3 g = some (.lst (nv acc)) ∧ conN bs m f u (n - acc.length) acc = R) n ⟨t + cbN m v, [], none, rfl, by omega, h, by simp, by simp, by simp, hw2, k2, hg2, by simpa using ecnt.symm⟩ ?_
    clear hw2 k2 hg2 hb1 ecnt
    rintro f σ H3 ⟨u, acc, x, rfl, tu, ul, an, af, a3, w3, k3, hg3, hR⟩
    wtm_at "e"
    rw [nv_len]
    with_reducible refine Z.i_2 (fun h3 => ?_) (fun h3 => ?_)
    · obtain ⟨f, rfl⟩ : ∃ j, f = j + 1 := ⟨f - 1, by omega⟩
      refine ⟨fun σ' H' => ∃ f', f' < f + 1 ∧ ∃ (u : Nat) (acc : List Nat) (x : Option V), σ' = [some (.ref p), some (.str (modes.getD m "")), some (.int v), some (.int t), some (.int n), some (.ref g), x] ∧ t ≤ u ∧ u ≤ bs.length ∧ acc.length ≤ n ∧ acc.length + f' ≥ n ∧ acc.length ≤ 3 * u ∧ RAt T.a_BitReader H' p b (u : Nat) ∧ (∀ x o, H x = some o → x ≠ p → H' x = some o) ∧ H' g = some (.lst (nv acc)) ∧ conN bs m f' u (n - acc.length) acc = R, fun σ' H' z => z, ?_⟩
      obtain ⟨dx3, hp3⟩ := id w3
      have hb3 := k3 _ _ hb (ne_of hb hp (by intro z; cases z))
      wtm_at "e"
      refine ⟨m, rfl, hm, ?_⟩
      wtm_at "e"
      rw [nv_len]
      refine ⟨_, _, rfl, ?_⟩
      wtm_at "e"
      have hs : (if (n : Int) - (acc.length : Nat) < (gsN m : Nat) then (n : Int) - (acc.length : Nat) else (gsN m : Nat)) = ((min (gsN m) (n - acc.length) : Nat) : Int) := by split <;> omega
      rw [hs]
      have eR : R = if bs.length < u + wdN m (min (gsN m) (n - acc.length)) then .er 0 bs.length else
          if bsN m ^ (min (gsN m) (n - acc.length)) ≤ numK bs u (wdN m (min (gsN m) (n - acc.length))) then .er 2 u else
          conN bs m f (u + wdN m (min (gsN m) (n - acc.length))) (n - acc.length - min (gsN m) (n - acc.length)) (acc ++ digs m (min (gsN m) (n - acc.length)) (numK bs u (wdN m (min (gsN m) (n - acc.length))))) := by
        rw [← hR]; show (if _ then _ else _) = _; rw [if_neg (by omega)]
      have hwp := wd_pos m hm (min (gsN m) (n - acc.length)) (by omega) (by omega)
      have hs3 : min (gsN m) (n - acc.length) ≤ 3 := by omega
      have hsn : min (gsN m) (n - acc.length) ≤ n - acc.length := Nat.min_le_right ..
      have hs1 : 1 ≤ min (gsN m) (n - acc.length) := by omega
      have hsg : min (gsN m) (n - acc.length) ≤ gsN m := Nat.min_le_left ..
      generalize min (gsN m) (n - acc.length) = s at *
      wtm_at "e"
      refine ⟨p, b, bs, u, m, s, rfl, w3, hb3, hB, hl, ul, hm, hs1, hsg, fun h4 H4 d k4 hd => ?_, fun h4 h5 H4 d k4 hd => ?_, fun h4 h5 H4 g' k4 w4 hg0 hg4 => ?_⟩
      · exact qe 0 _ (by rw [eR, if_pos h4]) H4 d (fun x o e n => k4 x o (k3 x o e n) n) hd
      · exact qe 2 _ (by rw [eR, if_neg (by omega), if_pos h5]) H4 d (fun x o e n => k4 x o (k3 x o e n) n) hd
      · have hg5 := k4 _ _ hg3 hgp
        have ngg : g' ≠ g := fun e => by rw [e, hg3] at hg0; cases hg0
        refine Z.r_nil ?_
        refine ⟨g, g', _, _, rfl, rfl, hg5, hg4, Z.sz (by rw [nv_len, nv_len, digs_len]; omega), ?_⟩
        refine ⟨f, Nat.lt_succ_self f, u + wdN m s, acc ++ digs m s (numK bs u (wdN m s)), _, rfl, by omega, h4, by rw [List.length_append, digs_len]; omega, by rw [List.length_append, digs_len]; omega, by rw [List.length_append, digs_len]; omega, ?_, fun x o e n => ?_, ?_, ?_⟩
        · obtain ⟨dx4, hp4⟩ := w4
          exact ⟨dx4, (L2.upd_ne hgp.symm).trans hp4⟩
        · exact (L2.upd_ne (fun z => by rw [z, hgH] at e; cases e)).trans (k4 x o (k3 x o e n) n)
        · rw [L2.upd_same]; unfold nv; rw [List.map_append]
        · rw [eR, if_neg (by omega), if_neg h5, List.length_append, digs_len, show n - (acc.length + s) = n - acc.length - s by omega]
    · wtm_at "e"
      have hz : n - acc.length = 0 := by omega
      refine qv acc u ?_ tu ul H3 g k3 w3 hgH hg3
      rw [← hR, hz]
      cases f with
      | zero => rfl
      | succ f => show (if _ then _ else _) = _; rw [if_pos rfl]
def sp_read_segments {K : PySem.W.Frag} {mg : Str → Option Value} {w : World} (T : Top K mg w) : Sp := fun vs H Q E => ∃ (b : Addr) (bs : List Nat) (t v : Nat), vs = [.ref b, .int v, .int t] ∧ H b = some (.lst (nv bs)) ∧ Bt bs ∧ bs.length ≤ 300 ∧ t ≤ bs.length ∧ 1 ≤ v ∧ v ≤ 40 ∧ (∀ k q, segN bs v bs.length t [] = .er k q → ∀ H1 d, Same H H1 → H1 d = none → E (.ref (eCls T k)) (some d) (upd H1 d (xdE k q))) ∧ (∀ segs, segN bs v bs.length t [] = .ok segs → ∀ H1 p, Same H H1 → SegsAt H1 p segs → Q (.ref p) H1)
set_option maxHeartbeats 2000000 in
theorem ok_read_segments (T : Top K mg w) : FnOk P w K mg base (L2.CX P w) 6 T.a_read_segments T.d_read_segments pl_read_segments (sp_read_segments T) := by
  refine T.F_read_segments.ok sc_read_segments (fun vs H Q E h => ?_) (fun cdv A outer s H vs Q E hr h => ?_)
  · obtain ⟨b, bs, t, v, rfl, _⟩ := h
    rfl
  · obtain ⟨b, bs, t, v, rfl, hb, hB, hl, htl, v1, v40, qe, qv⟩ := h
    have hu := hu_of hr
    refine ⟨_, (pss_cons (ps_set (i := 3) sc_read_segments.nd rfl (Or.inl rfl) (pe_make T.M_BitReader (ok_BitReader___init__ T) (hr.mono (by decide)) rfl T.g_BitReader T.b_BitReader___init__ .nil pass0 (pa_cons (pv 0) (pa_cons (pv 2) pa_nil))))
      (pss_cons (ps_set (i := 4) sc_read_segments.nd rfl (Or.inl rfl) (pe_lst pa_nil))
      (pss_cons (ps_while (passes_of rfl) (pt_cmpR op_ge (pe_meth0 (pv 3) T.cl_BitReader T.me_BitReader_left (ok_BitReader_left T) (hr.mono (by decide)) T.b_BitReader_left .nil pass0) pe_int (nomark _)) (pss_cons (ps_set (i := 5) sc_read_segments.nd rfl (Or.inl rfl) (pe_meth0 (pv 3) T.cl_BitReader T.me_BitReader_at (ok_BitReader_at T) (hr.mono (by decide)) T.b_BitReader_at .nil pass0))
      (pss_cons (ps_set (i := 6) sc_read_segments.nd rfl (Or.inl rfl) (Z.pe_methX (pv 3) T.cl_BitReader T.me_BitReader_read (ok_BitReader_read T) (hr.mono (by decide)) T.b_BitReader_read .nil (fun σ => passAt (takes_of rfl rfl rfl rfl) σ) (pa_cons pe_int pa_nil)))
      (pss_cons (ps_if (pt_cmpR op_eq (pv 6) pe_int (nomark _)) (pss_one ps_break) pss_nil)
      (pss_cons (ps_set (i := 7) sc_read_segments.nd rfl (Or.inl rfl) (pe_callS (ok_mode_of T) (hr.mono (by decide)) (by rfl) T.g_mode_of T.F_mode_of.kp T.b_mode_of (fun σ => passAt (takes_of rfl rfl rfl rfl) σ) (pa_cons (pv 6) (pa_cons (pv 5) pa_nil))))
      (pss_one (ps_expr (pe_bm PySem.F.plainAttrs_list PySem.F.slot_list_append PySem.F.type_list_append mt_append (pv 4) (pa_cons (pe_tup (pa_cons (pv 7) (pa_cons (pe_callS (ok_read_content T) (hr.mono (by decide)) (by rfl) T.g_read_content T.F_read_content.kp T.b_read_content (fun σ => passAt (takes_of rfl rfl rfl rfl) σ) (pa_cons (pv 3) (pa_cons (pv 7) (pa_cons (pv 1) pa_nil)))) pa_nil))) pa_nil)))))))))
      (pss_one (ps_ret (pv 4)))))), ?_⟩
    show (_ : L2.TS) _ [some _, some _, some _, none, none, none, none, none] H
    try simp only [Z.kx]
    wtm_at "e"
    refine fun r dx hr hdx hne => ?_
    refine ⟨r, b, dx, (t : Int), rfl, L2.upd_same, fun H1 k1 w1 => ⟨rfl, ?_⟩⟩
    have kH : ∀ (x : Addr) (o : HO), H x = some o → x ≠ r ∧ x ≠ dx := fun x o e => ⟨fun z => by (rw [z, hr] at e; cases e), fun z => by (rw [z, hdx] at e; cases e)⟩
    have s1 : Same H H1 := fun x o e => k1 x o ((upd_ne (kH x o e).1).trans ((upd_ne (kH x o e).2).trans e)) (kH x o e).1
    clear k1 hne hdx kH
    wtm_at "e"
    refine ⟨by show 0 ≤ sizeLine; decide, fun p hp => ?_⟩
    obtain ⟨dx1, hr1⟩ := w1
    have s2 : Same H (upd H1 p (.lst [])) := s1.trans (Z.s_upd hp)
    have hpr : p ≠ r := fun z => by rw [z, hr1] at hp; cases hp
    have hpH : H p = none := Z.s_back s1 hp
    have hp2 : (upd H1 p (.lst [])) p = some (.lst []) := L2.upd_same
    have w2 : RAt T.a_BitReader (upd H1 p (.lst [])) r b (t : Nat) := ⟨dx1, (L2.upd_ne hpr.symm).trans hr1⟩
    generalize upd H1 p (.lst []) = H2 at s2 hp2 w2
    obtain ⟨R, hR⟩ : ∃ R, segN bs v bs.length t [] = R := ⟨_, rfl⟩
    rw [hR] at qe qv
    wtm_at "e"
    refine Z.r_while (fun f σ H3 => ∃ (u : Nat) (acc : List (Nat × List Nat)) (x5 x6 x7 : Option V), σ = [some (.ref b), some (.int v), some (.int t), some (.ref r), some (.ref p), x5, x6, x7] ∧ u ≤ bs.length ∧ bs.length ≤ u + f ∧ acc.length ≤ u ∧ RAt T.a_BitReader H3 r b (u : Nat) ∧ Same H H3 ∧ SegsAt H3 p acc ∧ segN bs v f u acc = R) bs.length ⟨t, [], none, none, none, rfl, htl, by omega, by simp, w2, s2, SegsAt.nil hp2, hR⟩ ?_
    clear hR s2 hp2 w2 hr1 hp s1
    rintro f σ H3 ⟨u, acc, x5, x6, x7, rfl, ul, uf, al, w3, s3, g3, hR⟩
    obtain ⟨dx3, hr3⟩ := id w3
    have hb3 := s3 _ _ hb
    wtm_at "e"
    refine Z.r_objP hr3 (no_m l_1 l_2) ?_
    refine ⟨r, b, bs, u, rfl, w3, hb3, hl, ?_⟩
    wtm_at "e"
    with_reducible refine Z.i_2 (fun h3 => ?_) (fun h3 => ?_)
    · obtain ⟨f, rfl⟩ : ∃ j, f = j + 1 := ⟨f - 1, by omega⟩
      refine ⟨fun σ' H' => ∃ f', f' < f + 1 ∧ ∃ (u : Nat) (acc : List (Nat × List Nat)) (x5 x6 x7 : Option V), σ' = [some (.ref b), some (.int v), some (.int t), some (.ref r), some (.ref p), x5, x6, x7] ∧ u ≤ bs.length ∧ bs.length ≤ u + f' ∧ acc.length ≤ u ∧ RAt T.a_BitReader H' r b (u : Nat) ∧ Same H H' ∧ SegsAt H' p acc ∧ segN bs v f' u acc = R, fun σ' H' z => z, ?_⟩
      wtm_at "e"
      refine Z.r_objP hr3 (no_m a_1 a_2) ?_
      refine ⟨r, b, bs, u, rfl, w3, hb3, hl, ?_⟩
      wtm_at "e"
      refine Z.r_objP hr3 (no_m r_1 r_2) ?_
      wtm_at "e"
      refine ⟨r, b, bs, u, 4, rfl, w3, hb3, hl, ul, fun h => absurd h (by omega), fun h H4 k4 w4 => ?_⟩
      rw [show valN ((bs.drop u).take 4) = numK bs u 4 from rfl]
      have hg4 := g3.keep hr3 k4
      have s4 : Same H H4 := fun x o e => k4 x o (s3 x o e) (fun z => by rw [z, hr] at e; cases e)
      have eR : R = if numK bs u 4 = 0 then .ok acc else match mdN (numK bs u 4) with
          | none => .er 1 u
          | some m => match cntN bs m v (u + 4) with
            | .er k q => .er k q
            | .ok cs q => segN bs v f q (acc ++ [(m, cs)]) := by
        rw [← hR]; show (if _ then _ else _) = _; rw [if_neg (by omega)]
      generalize numK bs u 4 = n at *
      wtm_at "e"
      with_reducible refine Z.i_2 (fun h4 => ?_) (fun h4 => ?_)
      · wtm_at "e"
        rw [if_pos (by omega)] at eR
        exact qv acc eR H4 p s4 hg4
      rw [if_neg (by omega)] at eR
      wtm_at "e"
      refine ⟨n, u, rfl, fun m hm => ?_, fun hm d hd => qe 1 u (by rw [hm] at eR; exact eR) H4 d s4 hd⟩
      rw [hm] at eR
      have hm3 := (md_some hm).1
      obtain ⟨xs4, hxs4, lx4, _⟩ := id hg4
      wtm_at "e"
      refine ⟨r, b, bs, u + 4, m, v, rfl, w4, s4 _ _ hb, hB, hl, h, hm3, v1, v40, fun k q e H5 d k5 hd => ?_, fun cs q e q1 q2 H5 g' k5 w5 hg0 hg5 => ?_⟩
      · dsimp only at eR
        rw [e] at eR
        exact qe k q eR H5 d (fun x o e' => k5 x o (s4 x o e') (fun z => by rw [z, hr] at e'; cases e')) hd
      · dsimp only at eR
        rw [e] at eR
        obtain ⟨dx4, hr4⟩ := id w4
        have g5 := hg4.keep hr4 k5
        have s5 : Same H H5 := fun x o e' => k5 x o (s4 x o e') (fun z => by rw [z, hr] at e'; cases e')
        have ngp : g' ≠ p := fun z => by rw [z, hxs4] at hg0; cases hg0
        have hp5 := k5 _ _ hxs4 (fun z => hpr z)
        refine ⟨by show 2 ≤ sizeLine; decide, fun t' ht' => ?_⟩
        have s6 : Same H5 (upd H5 t' (.tup [.str (modes.getD m ""), .ref g'])) := Z.s_upd ht'
        have ht6 : (upd H5 t' (.tup [.str (modes.getD m ""), .ref g'])) t' = some (.tup [.str (modes.getD m ""), .ref g']) := L2.upd_same
        generalize upd H5 t' (.tup [.str (modes.getD m ""), .ref g']) = H6 at s6 ht6
        refine Z.r_nil ?_
        refine Z.r_append (s6 _ _ hp5) (Z.szl (by omega)) ?_
        refine ⟨f, Nat.lt_succ_self f, q, acc ++ [(m, cs)], _, _, _, rfl, q2, by omega, by rw [List.length_append]; show acc.length + 1 ≤ q; omega, ?_, ?_, (g5.same s6).push (s6 _ _ hp5) ht6 (s6 _ _ hg5) ngp, eR.symm⟩
        · obtain ⟨dx5, hr5⟩ := w5
          exact ⟨dx5, (L2.upd_ne hpr.symm).trans (s6 _ _ hr5)⟩
        · exact Z.s_mut (s5.trans s6) hpH
    · wtm_at "e"
      refine qv acc ?_ H3 p s3 g3
      rw [← hR]
      cases f with
      | zero => rfl
      | succ f => show (if _ then _ else _) = _; rw [if_pos (by omega)]
end
theorem digs_range (m v : Nat) : ∀ s, digs m s v = (List.range s).map fun i => sgN m (v / bsN m ^ (s - 1 - i) % bsN m)
  | 0 => rfl
  | s + 1 => by
    have e : digs m (s + 1) v = sgN m (v / bsN m ^ s % bsN m) :: digs m s v := by
      unfold digs
      show (grpR m v s ++ [_]).reverse = _
      rw [List.reverse_append]; rfl
    rw [e, digs_range m v s, List.range_succ_eq_map, List.map_cons, List.map_map]
    refine congr (congrArg _ ?_) (List.map_congr_left fun i hi => ?_)
    · rw [show s + 1 - 1 - 0 = s by omega]
    · show _ = sgN m (v / bsN m ^ (s + 1 - 1 - (i + 1)) % bsN m)
      rw [show s + 1 - 1 - (i + 1) = s - 1 - i by omega]
theorem an_lo : ∀ x, x < 10 → anL.getD x 0 = 48 + x := by decide +kernel
theorem an_mid : ∀ x, x < 36 → 10 ≤ x → anL.getD x 0 = 55 + x := by decide +kernel
def anHi : List Int := [32, 36, 37, 42, 43, 45, 46, 47, 58]
theorem an_hi : ∀ x, x < 9 → anHi[x]? = some ((anL.getD (36 + x) 0 : Nat) : Int) := by decide +kernel
theorem wd_two (s : Nat) (h1 : 1 ≤ s) (h2 : s ≤ gsN 2) : wdN 2 s = 8 := by
  have : s = 1 := by unfold gsN at h2; omega
  subst this; rfl
theorem get_nat (l : List Nat) (g : Nat) (h : g < l.length) : (l.map fun c : Nat => (c : Int))[g]? = some ((l.getD g 0 : Nat) : Int) := by
  rw [List.getElem?_map, List.getD_eq_getElem?_getD, List.getElem?_eq_getElem h]; rfl
theorem wd_at (m s : Nat) (hm : m < 3) (hs : s ≤ gsN m) : (((wdT.getD m []).map fun c : Nat => (c : Int)))[s]? = some ((wdN m s : Nat) : Int) := get_nat _ s (by have := wd_len m hm; omega)
theorem cb_nat (m : Nat) (hm : m < 3) (g : Nat) (hg : g < 3) : ((cbT.getD m []).map fun c : Nat => (c : Int))[g]? = some (((cbT.getD m []).getD g 0 : Nat) : Int) := get_nat _ g (by have := cb_len m hm; omega)
theorem pow_shl (w i : Nat) (h : i < w) : (1 : Int) * 2 ^ Int.toNat ((w : Int) - 1 - (i : Nat)) = ((2 ^ (w - 1 - i) : Nat) : Int) := by
  rw [show Int.toNat ((w : Int) - 1 - (i : Nat)) = w - 1 - i by omega, Int.one_mul]; simp
theorem nv_bits (x : Int) (w : Nat) : (List.range w).map (fun i => V.int (x / ((2 ^ (w - 1 - i) : Nat) : Int) % 2)) = nv ((List.range w).map fun i => (x / ((2 ^ (w - 1 - i) : Nat) : Int) % 2).toNat) := by
  unfold nv
  rw [List.map_map]
  refine List.map_congr_left fun i _ => ?_
  show V.int _ = V.int (((x / ((2 ^ (w - 1 - i) : Nat) : Int) % 2).toNat : Nat) : Int)
  rw [Int.toNat_of_nonneg (by omega)]
theorem cut_to_nv (bs : List Nat) (k : Nat) : cutV (nv bs) none (some (k : Int)) = nv (bs.take k) := by rw [Z.cut_to]; unfold nv; rw [List.map_take]
theorem nv_const (n c : Nat) : (List.range n).map (fun _ => V.int (c : Nat)) = nv (List.replicate n c) := by
  unfold nv
  rw [List.map_replicate]
  refine List.ext_getElem (by simp) fun i h1 h2 => by simp
theorem Bt.rep {n c : Nat} (h : c < 2) : Bt (List.replicate n c) := fun b hb => by rw [(List.mem_replicate.mp hb).2]; exact h
theorem r_notInI {K : PySem.W.Frag} {H : Hp} {Q : VK} {p : Addr} {ns : List Int} {n : Int} (h : SqT K H p (ns.map V.int)) (q : Q (.bl (Z.dB (¬ n ∈ ns))) H) : rIn K true (.int n) (.ref p) H Q :=
  ⟨p, ns.map V.int, rfl, .inr h, rfl, Z.flat_ints ns, by rw [if_pos rfl, Z.inV_ints, Z.not_dB]; exact q⟩
theorem cd_idx : ∀ m : Nat, m < 3 → ([0, 0, 1, 0, 2] : List Int)[2 ^ m]? = some (m : Int) := by decide +kernel
theorem md_str : ∀ m, m < 3 → ([V.str "numeric", V.str "alphanumeric", V.str "byte"] : List V)[m]? = some (V.str (modes.getD m ""))
  | 0, _ => rfl
  | 1, _ => rfl
  | 2, _ => rfl
theorem gs_idx : ∀ m : Nat, m < 3 → ([3, 2, 1] : List Int)[m]? = some ((gsN m : Nat) : Int) := by decide +kernel
section
variable {P : Program} {w : World} {K : PySem.W.Frag} {mg : Str → Option Value} {base : Heap}
def sp__law_cell (K : PySem.W.Frag) : Sp := fun vs H Q _ => ∃ (a : Addr) (ns : List Int) (k : Nat), vs = [.ref a, .int k] ∧ SqL K H a (ns.map V.int) ∧ k < 100 ∧ ∀ z : Int, Q (.int z) H
set_option maxHeartbeats 2000000 in
theorem ok__law_cell (T : Top K mg w) : FnOk P w K mg base CX0 1 T.a__law_cell T.d__law_cell pl__law_cell (sp__law_cell K) := by
  refine T.F__law_cell.ok sc__law_cell (fun vs H Q E h => ?_) (fun cdv A outer s H vs Q E hr h => ?_)
  · obtain ⟨a, ns, k, rfl, _⟩ := h
    rfl
  · obtain ⟨a, ns, k, rfl, hS, hk, q⟩ := h
    have hu := hu_of hr
    refine ⟨_, (pss_cons (ps_if (pt_cmpR op_lt (pv 1) (pe_callB (show CallR _ _ (Z.cLen K) from Z.call_len) (by rfl) T.n_len (by decide +kernel) (pa_cons (pv 0) pa_nil)) (nomark _)) (pss_one (ps_ret (pe_callTy Z.call_int (by rfl) T.n_int (by decide +kernel) (pa_cons (pe_ix (show IxR _ (rIxL K) from ix_list) (pv 0) (pv 1) (fun _ _ => rfl)) pa_nil)))) pss_nil)
      (pss_one (ps_ret pe_int))), ?_⟩
    show (_ : L2.TS) _ [some _, some _] H
    try simp only [Z.kx]
    wtm_at "r"
    with_reducible refine Z.i_2 (fun h => ?_) (fun h => ?_)
    · rw [List.length_map] at h
      have h' : k < ns.length := by omega
      wtm_at "r"
      refine Z.r_ixL hS (Z.at_map rfl (List.getElem?_eq_getElem h')) ?_
      wtm_at "r"
      exact q _
    · wtm_at "r"
      exact q _
def sp__law_bits (K : PySem.W.Frag) : Sp := fun vs H Q _ => ∃ (x : Int) (w : Nat), vs = [.int x, .int w] ∧ w ≤ 20 ∧ ∀ (p : Addr) (H1 : Hp) (bs : List Nat), Same H H1 → H p = none → H1 p = some (.lst (nv bs)) → bs.length = w → Bt bs → Q (.ref p) H1
set_option maxHeartbeats 2000000 in
theorem ok__law_bits (T : Top K mg w) : FnOk P w K mg base CX0 1 T.a__law_bits T.d__law_bits pl__law_bits (sp__law_bits K) := by
  refine T.F__law_bits.ok sc__law_bits (fun vs H Q E h => ?_) (fun cdv A outer s H vs Q E hr h => ?_)
  · obtain ⟨x, w, rfl, _⟩ := h
    rfl
  · obtain ⟨x, w, rfl, hw, q⟩ := h
    have hu := hu_of hr
    refine ⟨_, (pss_one (ps_ret (pe_lc (own := [("k", 2)]) (tt := tYes) rfl sc__law_bits.nd (pi_range1 rfl T.n_range (pa_cons (pv 1) pa_nil)) (blkOk_by (N := sl__law_bits) (sc := defScope s__law_bits) (by decide +kernel)) (fun _ _ _ _ _ => (pg_name (i := 2) sc__law_bits.nd rfl (Or.inl rfl))) (fun _ _ _ _ _ => pts_nil) (fun _ _ _ _ _ => (pe_op op_mod (pe_op op_fdiv (pv 0) (pe_op op_shl pe_int (pe_op op_sub (pe_op op_sub (pv 1) pe_int) (pv 2)))) pe_int))))), ?_⟩
    show (_ : L2.TS) _ [some _, some _, none] H
    try simp only [Z.kx]
    wtm_at "r"
    refine Z.lcr_pure w (fun i => V.int (x / ((2 ^ (w - 1 - i) : Nat) : Int) % 2)) rfl ⟨by omega, by omega⟩ (by omega) (fun _ => rfl) ?_ ?_
    · intro i H5 hi s5 k kk
      wtm_at "w"
      wtm_at "r"
      rw [pow_shl w i hi]
      have hp : 0 < 2 ^ (w - 1 - i) := Nat.two_pow_pos _
      have hq : 2 ^ (w - 1 - i) ≤ 2 ^ 20 := Nat.pow_le_pow_right (by decide) (by omega)
      refine Z.r_I (Z.c_div (by omega) (by omega)) ?_
      wtm_at "r"
      exact kk _ (Same.refl _)
    · intro D H5 hD s5 hl5
      rw [nv_bits] at hl5
      refine q D H5 _ s5 hD hl5 (by rw [List.length_map, List.length_range]) fun b hb => ?_
      obtain ⟨i, _, rfl⟩ := List.mem_map.mp hb
      omega
def sp__law_group (K : PySem.W.Frag) : Sp := fun vs H Q _ => ∃ (v : Nat), vs = [.int v] ∧ Q (.int (grp v : Nat)) H
set_option maxHeartbeats 2000000 in
theorem ok__law_group (T : Top K mg w) : FnOk P w K mg base CX0 1 T.a__law_group T.d__law_group pl__law_group (sp__law_group K) := by
  refine T.F__law_group.ok sc__law_group (fun vs H Q E h => ?_) (fun cdv A outer s H vs Q E hr h => ?_)
  · obtain ⟨v, rfl, _⟩ := h
    rfl
  · obtain ⟨v, rfl, q⟩ := h
    have hu := hu_of hr
    refine ⟨_, (pss_cons (ps_if (pt_cmpR op_le (pv 0) pe_int (nomark _)) (pss_one (ps_ret pe_int)) pss_nil)
      (pss_cons (ps_if (pt_cmpR op_le (pv 0) pe_int (nomark _)) (pss_one (ps_ret pe_int)) pss_nil)
      (pss_one (ps_ret pe_int)))), ?_⟩
    show (_ : L2.TS) _ [some _] H
    try simp only [Z.kx]
    wtm_at "r"
    with_reducible refine Z.i_2 (fun h => ?_) (fun h => ?_)
    · rw [grp0 (by omega)] at q
      wtm_at "r"
      exact q
    · wtm_at "r"
      with_reducible refine Z.i_2 (fun h2 => ?_) (fun h2 => ?_)
      · rw [grp1 (by omega) (by omega)] at q
        wtm_at "r"
        exact q
      · rw [grp2 (by omega) (by omega)] at q
        wtm_at "r"
        exact q
def sp__law_head (K : PySem.W.Frag) : Sp := fun vs H Q _ => ∃ (m v : Nat), vs = [.int m, .int v] ∧ m < 3 ∧ ∀ (H1 : Hp), Same H H1 → Q (.int (cbN m v : Nat)) H1
set_option maxHeartbeats 2000000 in
theorem ok__law_head (T : Top K mg w) : FnOk P w K mg base CX0 2 T.a__law_head T.d__law_head pl__law_head (sp__law_head K) := by
  refine T.F__law_head.ok sc__law_head (fun vs H Q E h => ?_) (fun cdv A outer s H vs Q E hr h => ?_)
  · obtain ⟨m, v, rfl, _⟩ := h
    rfl
  · obtain ⟨m, v, rfl, hm, q⟩ := h
    have hu := hu_of hr
    refine ⟨_, (pss_one (ps_ret (pe_ix (show IxR _ (rIxL K) from ix_list) (pe_ix (show IxR _ (rIxL K) from ix_list) (pe_lst (pa_cons (pe_lst (pa_cons pe_int (pa_cons pe_int (pa_cons pe_int pa_nil)))) (pa_cons (pe_lst (pa_cons pe_int (pa_cons pe_int (pa_cons pe_int pa_nil)))) (pa_cons (pe_lst (pa_cons pe_int (pa_cons pe_int (pa_cons pe_int pa_nil)))) pa_nil)))) (pv 0) (fun _ _ => rfl)) (pe_call (ok__law_group T) (hr.mono (by decide)) (by rfl) T.g__law_group T.F__law_group.kp T.b__law_group .nil pass0 (pa_cons (pv 1) pa_nil)) (fun _ _ => rfl)))), ?_⟩
    show (_ : L2.TS) _ [some _, some _] H
    try simp only [Z.kx]
    wtm_at "r"
    refine ⟨by show 3 ≤ sizeLine; decide, fun p0 n0 => ?_⟩
    wtm_at "r"
    refine ⟨by show 3 ≤ sizeLine; decide, fun p1 n1 => ?_⟩
    wtm_at "r"
    refine ⟨by show 3 ≤ sizeLine; decide, fun p2 n2 => ?_⟩
    wtm_at "r"
    refine ⟨by show 3 ≤ sizeLine; decide, fun p3 n3 => ?_⟩
    have h0 : (upd H p0 (.lst [V.int 10, V.int 12, V.int 14])) p0 = some (.lst (((cbT.getD 0 []).map fun c : Nat => (c : Int)).map V.int)) := L2.upd_same
    have s0 : Same H (upd H p0 (.lst [V.int 10, V.int 12, V.int 14])) := Z.s_upd n0
    generalize upd H p0 (.lst [V.int 10, V.int 12, V.int 14]) = G0 at *
    have h1 : (upd G0 p1 (.lst [V.int 9, V.int 11, V.int 13])) p1 = some (.lst (((cbT.getD 1 []).map fun c : Nat => (c : Int)).map V.int)) := L2.upd_same
    have s1 : Same G0 (upd G0 p1 (.lst [V.int 9, V.int 11, V.int 13])) := Z.s_upd n1
    generalize upd G0 p1 (.lst [V.int 9, V.int 11, V.int 13]) = G1 at *
    have h2 : (upd G1 p2 (.lst [V.int 8, V.int 16, V.int 16])) p2 = some (.lst (((cbT.getD 2 []).map fun c : Nat => (c : Int)).map V.int)) := L2.upd_same
    have s2 : Same G1 (upd G1 p2 (.lst [V.int 8, V.int 16, V.int 16])) := Z.s_upd n2
    generalize upd G1 p2 (.lst [V.int 8, V.int 16, V.int 16]) = G2 at *
    have h3 : (upd G2 p3 (.lst [V.ref p0, V.ref p1, V.ref p2])) p3 = some (.lst [V.ref p0, V.ref p1, V.ref p2]) := L2.upd_same
    have s3 : Same G2 (upd G2 p3 (.lst [V.ref p0, V.ref p1, V.ref p2])) := Z.s_upd n3
    generalize upd G2 p3 (.lst [V.ref p0, V.ref p1, V.ref p2]) = G3 at *
    have t3 := s0.trans (s1.trans (s2.trans s3))
    obtain ⟨pm, e1, e2⟩ : ∃ pm, atI [V.ref p0, V.ref p1, V.ref p2] (m : Int) = some (V.ref pm) ∧ G3 pm = some (.lst (((cbT.getD m []).map fun c : Nat => (c : Int)).map V.int)) := by
      rcases md_cases hm with e | e | e <;> subst e
      · exact ⟨p0, rfl, s3 _ _ (s2 _ _ (s1 _ _ h0))⟩
      · exact ⟨p1, rfl, s3 _ _ (s2 _ _ h1)⟩
      · exact ⟨p2, rfl, s3 _ _ h2⟩
    wtm_at "r"
    refine Z.r_ixL (Z.sq_l h3) e1 ?_
    wtm_at "r"
    refine ⟨v, rfl, ?_⟩
    refine Z.r_ixL (Z.sq_l e2) (Z.at_map (j := grp v) rfl (cb_nat m hm _ (grp_lt v))) ?_
    exact q _ t3
def sp__law_number (K : PySem.W.Frag) : Sp := fun vs H Q _ => ∃ (a : Addr) (bs : List Nat) (t w : Nat), vs = [.ref a, .int t, .int w] ∧ SqL K H a (nv bs) ∧ t + w ≤ bs.length ∧ w ≤ 1000 ∧ Q (.int (numK bs t w : Nat)) H
set_option maxHeartbeats 2000000 in
theorem ok__law_number (T : Top K mg w) : FnOk P w K mg base CX0 1 T.a__law_number T.d__law_number pl__law_number (sp__law_number K) := by
  refine T.F__law_number.ok sc__law_number (fun vs H Q E h => ?_) (fun cdv A outer s H vs Q E hr h => ?_)
  · obtain ⟨a, bs, t, w, rfl, _⟩ := h
    rfl
  · obtain ⟨a, bs, t, w, rfl, ha, hl, hw, q⟩ := h
    have hu := hu_of hr
    refine ⟨_, (pss_cons (ps_set (i := 3) sc__law_number.nd rfl (Or.inl rfl) pe_int)
      (pss_cons (ps_for PassesOwn.never rfl (pi_range1 rfl T.n_range (pa_cons (pv 2) pa_nil)) (pg_name (i := 4) sc__law_number.nd rfl (Or.inl rfl)) (pss_one (ps_set (i := 3) sc__law_number.nd rfl (Or.inl rfl) (pe_op op_add (pe_op op_mul pe_int (pv 3)) (pe_ix (show IxR _ (rIxL K) from ix_list) (pv 0) (pe_op op_add (pv 1) (pv 4)) (fun _ _ => rfl))))))
      (pss_one (ps_ret (pv 3))))), ?_⟩
    show (_ : L2.TS) _ [some _, some _, some _, none, none] H
    try simp only [Z.kx]
    wtm_at "r"
    refine Z.rng_go w rfl ⟨by omega, by omega⟩ (fun k σ H2 => ∃ (x : Option V), σ = [some (.ref a), some (.int t), some (.int w), some (.int (numK bs t k : Nat)), x] ∧ H2 = H) ⟨none, by unfold numK; rw [List.take_zero]; rfl, rfl⟩ ?_ ?_
    · rintro k σ H2 hk ⟨x, rfl, rfl⟩
      wtm_at "r"
      refine Z.r_ixL ha (nv_at (j := t + k) (by omega) (by omega)) ?_
      wtm_at "r"
      rw [show (2 : Int) * (numK bs t k : Nat) + (bs.getD (t + k) 0 : Nat) = ((2 * numK bs t k + bs.getD (t + k) 0 : Nat) : Int) by omega, ← numK_succ (by omega)]
      exact ⟨_, rfl, rfl⟩
    · rintro σ H2 ⟨x, rfl, rfl⟩
      wtm_at "r"
      exact q
def sp__law_sign (K : PySem.W.Frag) : Sp := fun vs H Q _ => ∃ (x : Nat), vs = [.int x] ∧ x < 45 ∧ ∀ (H1 : Hp), Same H H1 → Q (.int (anL.getD x 0 : Nat)) H1
set_option maxHeartbeats 2000000 in
theorem ok__law_sign (T : Top K mg w) : FnOk P w K mg base CX0 1 T.a__law_sign T.d__law_sign pl__law_sign (sp__law_sign K) := by
  refine T.F__law_sign.ok sc__law_sign (fun vs H Q E h => ?_) (fun cdv A outer s H vs Q E hr h => ?_)
  · obtain ⟨x, rfl, _⟩ := h
    rfl
  · obtain ⟨x, rfl, hx, q⟩ := h
    have hu := hu_of hr
    refine ⟨_, (pss_cons (ps_if (pt_cmpR op_lt (pv 0) pe_int (nomark _)) (pss_one (ps_ret (pe_op op_add pe_int (pv 0)))) pss_nil)
      (pss_cons (ps_if (pt_cmpR op_lt (pv 0) pe_int (nomark _)) (pss_one (ps_ret (pe_op op_add pe_int (pv 0)))) pss_nil)
      (pss_one (ps_ret (pe_ix (show IxR _ (rIxL K) from ix_list) (pe_lst (pa_cons pe_int (pa_cons pe_int (pa_cons pe_int (pa_cons pe_int (pa_cons pe_int (pa_cons pe_int (pa_cons pe_int (pa_cons pe_int (pa_cons pe_int pa_nil)))))))))) (pe_op op_sub (pv 0) pe_int) (fun _ _ => rfl)))))), ?_⟩
    show (_ : L2.TS) _ [some _] H
    try simp only [Z.kx]
    wtm_at "r"
    with_reducible refine Z.i_2 (fun h => ?_) (fun h => ?_)
    · wtm_at "r"
      have := q H (Same.refl _)
      rw [an_lo x (by omega), Int.natCast_add] at this
      exact this
    · wtm_at "r"
      with_reducible refine Z.i_2 (fun h2 => ?_) (fun h2 => ?_)
      · wtm_at "r"
        have := q H (Same.refl _)
        rw [an_mid x (by omega) (by omega), Int.natCast_add] at this
        exact this
      · wtm_at "r"
        refine ⟨by show 9 ≤ sizeLine; decide, fun p np => ?_⟩
        wtm_at "r"
        refine Z.r_ixL (Z.sq_l (xs := anHi.map V.int) L2.upd_same) (Z.at_map (j := x - 36) (by omega) (an_hi _ (by omega))) ?_
        wtm_at "r"
        rw [show 36 + (x - 36) = x by omega]
        exact q _ (Z.s_upd np)
def sp__law_widths (K : PySem.W.Frag) : Sp := fun vs H Q _ => ∃ (m s : Nat), vs = [.int m, .int s] ∧ m < 3 ∧ 1 ≤ s ∧ s ≤ gsN m ∧ ∀ (H1 : Hp), Same H H1 → Q (.int (wdN m s : Nat)) H1
set_option maxHeartbeats 2000000 in
theorem ok__law_widths (T : Top K mg w) : FnOk P w K mg base CX0 1 T.a__law_widths T.d__law_widths pl__law_widths (sp__law_widths K) := by
  refine T.F__law_widths.ok sc__law_widths (fun vs H Q E h => ?_) (fun cdv A outer s H vs Q E hr h => ?_)
  · obtain ⟨m, s, rfl, _⟩ := h
    rfl
  · obtain ⟨m, s, rfl, hm, s1, s2, q⟩ := h
    have hu := hu_of hr
    refine ⟨_, (pss_cons (ps_if (pt_cmpR op_eq (pv 0) pe_int (nomark _)) (pss_one (ps_ret (pe_ix (show IxR _ (rIxL K) from ix_list) (pe_lst (pa_cons pe_int (pa_cons pe_int (pa_cons pe_int (pa_cons pe_int pa_nil))))) (pv 1) (fun _ _ => rfl)))) pss_nil)
      (pss_cons (ps_if (pt_cmpR op_eq (pv 0) pe_int (nomark _)) (pss_one (ps_ret (pe_ix (show IxR _ (rIxL K) from ix_list) (pe_lst (pa_cons pe_int (pa_cons pe_int (pa_cons pe_int pa_nil)))) (pv 1) (fun _ _ => rfl)))) pss_nil)
      (pss_one (ps_ret pe_int)))), ?_⟩
    show (_ : L2.TS) _ [some _, some _] H
    try simp only [Z.kx]
    wtm_at "r"
    with_reducible refine Z.i_2 (fun h => ?_) (fun h => ?_)
    · have e : m = 0 := by omega
      subst e
      wtm_at "r"
      refine ⟨by show 4 ≤ sizeLine; decide, fun p np => ?_⟩
      wtm_at "r"
      refine Z.r_ixL (Z.sq_l (xs := ((wdT.getD 0 []).map fun c : Nat => (c : Int)).map V.int) L2.upd_same) (Z.at_map (j := s) rfl (wd_at 0 s hm s2)) ?_
      wtm_at "r"
      exact q _ (Z.s_upd np)
    · wtm_at "r"
      with_reducible refine Z.i_2 (fun h2 => ?_) (fun h2 => ?_)
      · have e : m = 1 := by omega
        subst e
        wtm_at "r"
        refine ⟨by show 3 ≤ sizeLine; decide, fun p np => ?_⟩
        wtm_at "r"
        refine Z.r_ixL (Z.sq_l (xs := ((wdT.getD 1 []).map fun c : Nat => (c : Int)).map V.int) L2.upd_same) (Z.at_map (j := s) rfl (wd_at 1 s hm s2)) ?_
        wtm_at "r"
        exact q _ (Z.s_upd np)
      · have e : m = 2 := by omega
        subst e
        wtm_at "r"
        have := q H (Same.refl _)
        rw [wd_two s s1 s2] at this
        exact this
def sp__law_content (K : PySem.W.Frag) : Sp := fun vs H Q _ => ∃ (a : Addr) (bs : List Nat) (t m many : Nat), vs = [.ref a, .int t, .int m, .int many] ∧ SqL K H a (nv bs) ∧ Bt bs ∧ bs.length ≤ 300 ∧ t ≤ bs.length ∧ m < 3 ∧ many < 100000 ∧ (∀ k q, conN bs m many t many [] = .er k q → ∀ e H1, Same H H1 → H1 e = some (.tup [.str (enm k), .int (q : Nat)]) → Q (.ref e) H1) ∧ (∀ cs q, conN bs m many t many [] = .ok cs q → t ≤ q → q ≤ bs.length → ∀ e g H1, Same H H1 → H g = none → H1 g = some (.lst (nv cs)) → H1 e = some (.tup [.ref g, .int (q : Nat)]) → Q (.ref e) H1)
set_option maxHeartbeats 2000000 in
theorem ok__law_content (T : Top K mg w) : FnOk P w K mg base CX0 2 T.a__law_content T.d__law_content pl__law_content (sp__law_content K) := by
  refine T.F__law_content.ok sc__law_content (fun vs H Q E h => ?_) (fun cdv A outer s H vs Q E hr h => ?_)
  · obtain ⟨a, bs, t, m, many, rfl, _⟩ := h
    rfl
  · obtain ⟨a, bs, t, m, many, rfl, ha, hB, hl, htl, hm, hmany, qe, qv⟩ := h
    have hu := hu_of hr
    refine ⟨_, (pss_cons (ps_set (i := 4) sc__law_content.nd rfl (Or.inl rfl) (pe_lst pa_nil))
      (pss_cons (ps_for PassesOwn.never rfl (pi_range1 rfl T.n_range (pa_cons (pv 3) pa_nil)) (pg_name (i := 5) sc__law_content.nd rfl (Or.inl rfl)) (pss_cons (ps_set (i := 6) sc__law_content.nd rfl (Or.inl rfl) (pe_callB (call_min2 rfl) (by rfl) T.n_min (by decide +kernel) (pa_cons (pe_ix (show IxR _ (rIxL K) from ix_list) (pe_lst (pa_cons pe_int (pa_cons pe_int (pa_cons pe_int pa_nil)))) (pv 2) (fun _ _ => rfl)) (pa_cons (pe_op op_sub (pv 3) (pe_callB (show CallR _ _ (Z.cLen K) from Z.call_len) (by rfl) T.n_len (by decide +kernel) (pa_cons (pv 4) pa_nil))) pa_nil))))
      (pss_cons (ps_if (pt_cmpR op_eq (pv 6) pe_int (nomark _)) (pss_one (ps_ret (pe_tup (pa_cons (pv 4) (pa_cons (pv 1) pa_nil))))) pss_nil)
      (pss_cons (ps_set (i := 7) sc__law_content.nd rfl (Or.inl rfl) (pe_call (ok__law_widths T) (hr.mono (by decide)) (by rfl) T.g__law_widths T.F__law_widths.kp T.b__law_widths .nil pass0 (pa_cons (pv 2) (pa_cons (pv 6) pa_nil))))
      (pss_cons (ps_if (pt_cmpR op_gt (pe_op op_add (pv 1) (pv 7)) (pe_callB (show CallR _ _ (Z.cLen K) from Z.call_len) (by rfl) T.n_len (by decide +kernel) (pa_cons (pv 0) pa_nil)) (nomark _)) (pss_one (ps_ret (pe_tup (pa_cons pe_str (pa_cons (pe_callB (show CallR _ _ (Z.cLen K) from Z.call_len) (by rfl) T.n_len (by decide +kernel) (pa_cons (pv 0) pa_nil)) pa_nil))))) pss_nil)
      (pss_cons (ps_set (i := 8) sc__law_content.nd rfl (Or.inl rfl) (pe_call (ok__law_number T) (hr.mono (by decide)) (by rfl) T.g__law_number T.F__law_number.kp T.b__law_number .nil pass0 (pa_cons (pv 0) (pa_cons (pv 1) (pa_cons (pv 7) pa_nil)))))
      (C8.pss_cut (ps_if (pt_cmpR op_eq (pv 2) pe_int (nomark _)) (pss_one (ps_expr (pe_bm PySem.F.plainAttrs_list PySem.F.slot_list_append PySem.F.type_list_append mt_append (pv 4) (pa_cons (pv 8) pa_nil)))) (pss_cons (ps_set (i := 9) sc__law_content.nd rfl (Or.inl rfl) (pe_ix (show IxR _ (rIxL K) from ix_list) (pe_lst (pa_cons pe_int (pa_cons pe_int pa_nil))) (pv 2) (fun _ _ => rfl)))
      (C8.pss_cut (ps_if (PW.pt (pw_or (pt_cmpR op_ge (pv 8) (pv 9) (nomark _)) (pw_or1 (pt_cmpR op_gt (pv 6) pe_int (nomark _))))) (pss_one (ps_if (PW.pt (pw_or (PW.pt (pw_and (pt_cmpR op_ge (pv 8) (pe_ix (show IxR _ (rIxL K) from ix_list) (pe_lst (pa_cons pe_int (pa_cons pe_int (pa_cons pe_int (pa_cons pe_int pa_nil))))) (pv 6) (fun _ _ => rfl)) (nomark _)) (pw_and1 (pt_cmpR op_eq (pv 2) pe_int (nomark _))))) (pw_or1 (PW.pt (pw_and (pt_cmpR op_ge (pv 8) (pe_ix (show IxR _ (rIxL K) from ix_list) (pe_lst (pa_cons pe_int (pa_cons pe_int (pa_cons pe_int (pa_cons pe_int pa_nil))))) (pv 6) (fun _ _ => rfl)) (nomark _)) (pw_and1 (pt_cmpR op_eq (pv 2) pe_int (nomark _)))))))) (pss_one (ps_ret (pe_tup (pa_cons pe_str (pa_cons (pv 1) pa_nil))))) pss_nil)) pss_nil)
      (pss_one (ps_for PassesOwn.never rfl (pi_range1 rfl T.n_range (pa_cons (pv 6) pa_nil)) (pg_name (i := 10) sc__law_content.nd rfl (Or.inl rfl)) (pss_cons (ps_set (i := 11) sc__law_content.nd rfl (Or.inl rfl) (pe_op op_mod (pe_op op_fdiv (pv 8) (pe_ix (show IxR _ (rIxL K) from ix_list) (pe_lst (pa_cons pe_int (pa_cons (pv 9) (pa_cons (pe_op op_mul (pv 9) (pv 9)) pa_nil)))) (pe_op op_sub (pe_op op_sub (pv 6) pe_int) (pv 10)) (fun _ _ => rfl))) (pv 9)))
      (pss_one (ps_expr (pe_bm PySem.F.plainAttrs_list PySem.F.slot_list_append PySem.F.type_list_append mt_append (pv 4) (pa_cons (pe_call (ok__law_sign T) (hr.mono (by decide)) (by rfl) T.g__law_sign T.F__law_sign.kp T.b__law_sign .nil pass0 (pa_cons (pv 11) pa_nil)) pa_nil))))))))))
      (pss_one (ps_set (i := 1) sc__law_content.nd rfl (Or.inl rfl) (pe_op op_add (pv 1) (pv 7)))))))))))
      (pss_one (ps_ret (pe_tup (pa_cons (pv 4) (pa_cons (pv 1) pa_nil))))))), ?_⟩
    show (_ : L2.TS) _ [some _, some _, some _, some _, none, none, none, none, none, none, none, none] H
    try simp only [Z.kx]
    have gp := gs_pos hm
    wtm_at "r"
    refine ⟨by show 0 ≤ sizeLine; decide, fun c hc => ?_⟩
    have s1 : Same H (upd H c (.lst [])) := Z.s_upd hc
    have hc1 : (upd H c (.lst [])) c = some (.lst (nv [])) := L2.upd_same
    generalize upd H c (.lst []) = H1 at s1 hc1
    wtm_at "r"
    obtain ⟨R, hR⟩ : ∃ R, conN bs m many t many [] = R := ⟨_, rfl⟩
    rw [hR] at qe qv
    refine Z.rng_go many rfl ⟨by omega, by omega⟩ (fun i σ H2 => ∃ (u : Nat) (acc : List Nat) (x5 x6 x7 x8 x9 x10 x11 : Option V), σ = [some (.ref a), some (.int u), some (.int m), some (.int many), some (.ref c), x5, x6, x7, x8, x9, x10, x11] ∧ t ≤ u ∧ u ≤ bs.length ∧ acc.length ≤ many ∧ acc.length ≤ 3 * u ∧ Same H H2 ∧ H2 c = some (.lst (nv acc)) ∧ conN bs m (many - i) u (many - acc.length) acc = R) ⟨t, [], none, none, none, none, none, none, none, rfl, Nat.le_refl _, htl, Nat.zero_le _, Nat.zero_le _, s1, hc1, hR⟩ ?_ ?_
    · clear s1 hc1 hR
      rintro i σ H2 hi ⟨u, acc, x5, x6, x7, x8, x9, x10, x11, rfl, tu, ul, am, a3, s2, hc2, hR⟩
      have ha2 := Z.s_sq s2 ha
      wtm_at "r"
      refine ⟨by show 3 ≤ sizeLine; decide, fun pg ng => ?_⟩
      have sg : Same H2 (upd H2 pg (.lst [V.int 3, V.int 2, V.int 1])) := Z.s_upd ng
      have hg : (upd H2 pg (.lst [V.int 3, V.int 2, V.int 1])) pg = some (.lst ([3, 2, 1].map V.int)) := L2.upd_same
      generalize upd H2 pg (.lst [V.int 3, V.int 2, V.int 1]) = H3 at sg hg
      have s3 := s2.trans sg
      have hc3 := sg _ _ hc2
      have ha3 := Z.s_sq s3 ha
      clear ha2 s2 hc2 sg ng
      wtm_at "r"
      refine Z.r_ixL (Z.sq_l hg) (Z.at_map (j := m) rfl (gs_idx m hm)) ?_
      wtm_at "r"
      rw [nv_len]
      refine ⟨_, _, rfl, ?_⟩
      wtm_at "r"
      have hs : (if (many : Int) - (acc.length : Nat) < (gsN m : Nat) then (many : Int) - (acc.length : Nat) else (gsN m : Nat)) = ((min (gsN m) (many - acc.length) : Nat) : Int) := by split <;> omega
      rw [hs]
      obtain ⟨f, hf⟩ : ∃ f, many - i = f + 1 := ⟨many - i - 1, by omega⟩
      rw [hf] at hR
      have eR : R = if many - acc.length = 0 then .ok acc u else if bs.length < u + wdN m (min (gsN m) (many - acc.length)) then .er 0 bs.length else
          if bsN m ^ (min (gsN m) (many - acc.length)) ≤ numK bs u (wdN m (min (gsN m) (many - acc.length))) then .er 2 u else
          conN bs m f (u + wdN m (min (gsN m) (many - acc.length))) (many - acc.length - min (gsN m) (many - acc.length)) (acc ++ digs m (min (gsN m) (many - acc.length)) (numK bs u (wdN m (min (gsN m) (many - acc.length))))) := hR.symm
      with_reducible refine Z.i_2 (fun h0 => ?_) (fun h0 => ?_)
      · wtm_at "r"
        refine ⟨by show 2 ≤ sizeLine; decide, fun e he => ?_⟩
        rw [if_pos (by omega)] at eR
        exact qv acc u eR tu ul e c _ (s3.trans (Z.s_upd he)) hc (Z.s_upd he _ _ hc3) L2.upd_same
      rw [if_neg (by omega)] at eR
      have hs3 : min (gsN m) (many - acc.length) ≤ 3 := by omega
      have hsn : min (gsN m) (many - acc.length) ≤ many - acc.length := Nat.min_le_right ..
      have hs1 : 1 ≤ min (gsN m) (many - acc.length) := by omega
      have hsg : min (gsN m) (many - acc.length) ≤ gsN m := Nat.min_le_left ..
      clear hR hs h0
      generalize min (gsN m) (many - acc.length) = s at *
      have hwp := wd_pos m hm s hsg hs1
      have hwl := wd_lt m hm s hs3
      wtm_at "r"
      refine ⟨m, s, rfl, hm, hs1, hsg, fun H4 s4 => ?_⟩
      have s34 := s3.trans s4
      have hc4 := s4 _ _ hc3
      have ha4 := Z.s_sq s34 ha
      clear hg ha3 hc3 s3 s4
      have hnum : u + wdN m s ≤ bs.length → numK bs u (wdN m s) < 2 ^ wdN m s := fun h => numK_lt hB h
      have w8 : m = 2 → s = 1 ∧ wdN m s = 8 := fun e => by
        subst e
        exact ⟨by unfold gsN at hsg; omega, wd_two s hs1 hsg⟩
      generalize wdN m s = w at *
      wtm_at "r"
      rw [nv_len]
      with_reducible refine Z.i_2 (fun h1 => ?_) (fun h1 => ?_)
      · wtm_at "r"
        rw [nv_len]
        wtm_at "r"
        refine ⟨by show 2 ≤ sizeLine; decide, fun e he => ?_⟩
        exact qe 0 _ (by rw [eR, if_pos (by omega)]) e _ (s34.trans (Z.s_upd he)) L2.upd_same
      rw [if_neg (by omega)] at eR
      have hn := hnum (by omega)
      wtm_at "r"
      refine ⟨a, bs, u, w, rfl, ha4, by omega, by omega, ?_⟩
      generalize numK bs u w = n at *
      have nextC : ¬ bsN m ^ s ≤ n → ∀ H5, Same H H5 → H5 c = some (.lst (nv (acc ++ digs m s n))) → ∀ (y5 y6 y7 y8 y9 y10 y11 : Option V), ∃ (u : Nat) (acc : List Nat) (x5 x6 x7 x8 x9 x10 x11 : Option V), [some (V.ref a), some (.int (u : Nat)), some (.int (m : Nat)), some (.int (many : Nat)), some (.ref c), x5, x6, x7, x8, x9, x10, x11] = [some (V.ref a), some (.int (u : Nat)), some (.int (m : Nat)), some (.int (many : Nat)), some (.ref c), x5, x6, x7, x8, x9, x10, x11] ∧ True := fun _ _ _ _ _ _ _ _ _ _ _ => ⟨0, [], none, none, none, none, none, none, none, rfl, trivial⟩
      clear nextC
      wtm_at "r"
      refine Z.r_cut (fun σ H5 => ¬ bsN m ^ s ≤ n ∧ ∃ (y9 y10 y11 : Option V), σ = [some (.ref a), some (.int u), some (.int m), some (.int many), some (.ref c), some (.int i), some (.int s), some (.int w), some (.int n), y9, y10, y11] ∧ Same H H5 ∧ H5 c = some (.lst (nv (acc ++ digs m s n)))) ?_ ?_
      · wtm_at "w"
        wtm_at "r"
        with_reducible refine Z.i_2 (fun h2 => ?_) (fun h2 => ?_)
        · have e2 : m = 2 := by omega
          subst e2
          obtain ⟨rfl, rfl⟩ := w8 rfl
          wtm_at "r"
          refine Z.r_append hc4 (Z.szl (by rw [nv_len]; omega)) ?_
          refine ⟨by show ¬ 256 ^ 1 ≤ n; omega, _, _, _, rfl, Z.s_mut s34 hc, ?_⟩
          rw [L2.upd_same, nv_app]
          have e : digs 2 1 n = [n] := by
            show [n / 256 ^ 0 % 256] = [n]
            rw [Nat.pow_zero, Nat.div_one, Nat.mod_eq_of_lt (by omega)]
          rw [e]; rfl
        have hb0 := bs_pos m hm
        wtm_at "r"
        refine ⟨by show 2 ≤ sizeLine; decide, fun pb nb => ?_⟩
        have sb : Same H4 (upd H4 pb (.lst [V.int 10, V.int 45])) := Z.s_upd nb
        have hb4 : (upd H4 pb (.lst [V.int 10, V.int 45])) pb = some (.lst ([10, 45].map V.int)) := L2.upd_same
        generalize upd H4 pb (.lst [V.int 10, V.int 45]) = H5 at sb hb4
        have s5 := s34.trans sb
        have hc5 := sb _ _ hc4
        wtm_at "r"
        refine Z.r_ixL (Z.sq_l hb4) (Z.at_map (j := m) (n := ((bsN m : Nat) : Int)) rfl (by rcases (by omega : m = 0 ∨ m = 1) with e | e <;> subst e <;> rfl)) ?_
        wtm_at "r"
        refine Z.r_cut (fun σ H6 => ¬ bsN m ^ s ≤ n ∧ σ = [some (.ref a), some (.int u), some (.int m), some (.int many), some (.ref c), some (.int i), some (.int s), some (.int w), some (.int n), some (.int (bsN m : Nat)), x10, x11] ∧ Same H5 H6) ?_ ?_
        · wtm_at "w"
          wtm_at "r"
          with_reducible refine' Z.i_2 (fun h3 => ?ct) (fun h3 => ?cf)
          case cf =>
            wtm_at "r"
            with_reducible refine' Z.i_2 (fun h4 => ?ct2) (fun h4 => ?cn)
            case cn =>
              wtm_at "r"
              have e : s = 1 := by omega
              subst e
              exact ⟨by rw [Nat.pow_one]; omega, rfl, Same.refl _⟩
            case ct2 =>
              wtm_at "r"
              refine ⟨by show 4 ≤ sizeLine; decide, fun pa na => ?_⟩
              have sa : Same H5 (upd H5 pa (.lst [V.int 1, V.int 10, V.int 100, V.int 1000])) := Z.s_upd na
              have ha5 : (upd H5 pa (.lst [V.int 1, V.int 10, V.int 100, V.int 1000])) pa = some (.lst ([1, 10, 100, 1000].map V.int)) := L2.upd_same
              generalize upd H5 pa (.lst [V.int 1, V.int 10, V.int 100, V.int 1000]) = H6 at sa ha5
              wtm_at "r"
              obtain ⟨x, hx, ex⟩ : ∃ x : Int, ([1, 10, 100, 1000] : List Int)[s]? = some x ∧ x = ((10 ^ s : Nat) : Int) := by
                rcases (by omega : s = 1 ∨ s = 2 ∨ s = 3) with e | e | e <;> subst e <;> exact ⟨_, rfl, rfl⟩
              refine Z.r_ixL (Z.sq_l ha5) (Z.at_map (j := s) rfl hx) ?_
              subst ex
              wtm_at "r"
              have bad : bsN m ^ s ≤ n → ∀ H8, Same H5 H8 → ∀ e, H8 e = none → Q (.ref e) (upd H8 e (.tup [.str "InvalidCount", .int (u : Nat)])) := fun h H8 s8 e he => qe 2 u (by rw [eR, if_pos h]) e _ ((s5.trans s8).trans (Z.s_upd he)) L2.upd_same
              with_reducible refine' Z.i_2 (fun h5 => ?dt) (fun h5 => ?df)
              case dt =>
                wtm_at "r"
                with_reducible refine' Z.i_2 (fun h6 => ?et) (fun h6 => ?ef)
                case et =>
                  have e0 : m = 0 := by omega
                  subst e0
                  wtm_at "r"
                  refine ⟨by show 2 ≤ sizeLine; decide, fun e he => ?_⟩
                  exact bad (show 10 ^ s ≤ n by omega) _ sa e he
                case ef =>
                    wtm_at "r"
                    refine ⟨by show 4 ≤ sizeLine; decide, fun pc nc => ?_⟩
                    have sc : Same H6 (upd H6 pc (.lst [V.int 1, V.int 45, V.int 2025, V.int 0])) := Z.s_upd nc
                    have hc6 : (upd H6 pc (.lst [V.int 1, V.int 45, V.int 2025, V.int 0])) pc = some (.lst ([1, 45, 2025, 0].map V.int)) := L2.upd_same
                    generalize upd H6 pc (.lst [V.int 1, V.int 45, V.int 2025, V.int 0]) = H7 at sc hc6
                    wtm_at "r"
                    obtain ⟨y, hy, ey⟩ : ∃ y : Int, ([1, 45, 2025, 0] : List Int)[s]? = some y ∧ (m = 1 → y = ((45 ^ s : Nat) : Int)) := by
                      rcases (by omega : s = 1 ∨ s = 2 ∨ s = 3) with e | e | e
                      · subst e; exact ⟨_, rfl, fun _ => rfl⟩
                      · subst e; exact ⟨_, rfl, fun _ => rfl⟩
                      · subst e; exact ⟨_, rfl, fun z => by subst z; exact absurd hsg (by decide)⟩
                    refine Z.r_ixL (Z.sq_l hc6) (Z.at_map (j := s) rfl hy) ?_
                    wtm_at "r"
                    with_reducible refine' Z.i_2 (fun h7 => ?ft) (fun h7 => ?ff)
                    case ft =>
                      wtm_at "r"
                      with_reducible refine' Z.i_2 (fun h8 => ?gt) (fun h8 => ?gf)
                      case gt =>
                        have e1 : m = 1 := by omega
                        have ey1 := ey e1
                        subst e1
                        wtm_at "r"
                        refine ⟨by show 2 ≤ sizeLine; decide, fun e he => ?_⟩
                        exact bad (show 45 ^ s ≤ n by omega) _ (sa.trans sc) e he
                      case gf =>
                        have e0 : m = 0 := by omega
                        subst e0
                        wtm_at "r"
                        exact ⟨show ¬ 10 ^ s ≤ n by omega, rfl, sa.trans sc⟩
                    case ff =>
                      wtm_at "r"
                      refine ⟨?_, rfl, sa.trans sc⟩
                      rcases (by omega : m = 0 ∨ m = 1) with e | e
                      · subst e
                        show ¬ 10 ^ s ≤ n
                        omega
                      · have ey1 := ey e
                        subst e
                        show ¬ 45 ^ s ≤ n
                        omega
              case df =>
                    wtm_at "r"
                    refine ⟨by show 4 ≤ sizeLine; decide, fun pc nc => ?_⟩
                    have sc : Same H6 (upd H6 pc (.lst [V.int 1, V.int 45, V.int 2025, V.int 0])) := Z.s_upd nc
                    have hc6 : (upd H6 pc (.lst [V.int 1, V.int 45, V.int 2025, V.int 0])) pc = some (.lst ([1, 45, 2025, 0].map V.int)) := L2.upd_same
                    generalize upd H6 pc (.lst [V.int 1, V.int 45, V.int 2025, V.int 0]) = H7 at sc hc6
                    wtm_at "r"
                    obtain ⟨y, hy, ey⟩ : ∃ y : Int, ([1, 45, 2025, 0] : List Int)[s]? = some y ∧ (m = 1 → y = ((45 ^ s : Nat) : Int)) := by
                      rcases (by omega : s = 1 ∨ s = 2 ∨ s = 3) with e | e | e
                      · subst e; exact ⟨_, rfl, fun _ => rfl⟩
                      · subst e; exact ⟨_, rfl, fun _ => rfl⟩
                      · subst e; exact ⟨_, rfl, fun z => by subst z; exact absurd hsg (by decide)⟩
                    refine Z.r_ixL (Z.sq_l hc6) (Z.at_map (j := s) rfl hy) ?_
                    wtm_at "r"
                    with_reducible refine' Z.i_2 (fun h7 => ?ft) (fun h7 => ?ff)
                    case ft =>
                      wtm_at "r"
                      with_reducible refine' Z.i_2 (fun h8 => ?gt) (fun h8 => ?gf)
                      case gt =>
                        have e1 : m = 1 := by omega
                        have ey1 := ey e1
                        subst e1
                        wtm_at "r"
                        refine ⟨by show 2 ≤ sizeLine; decide, fun e he => ?_⟩
                        exact bad (show 45 ^ s ≤ n by omega) _ (sa.trans sc) e he
                      case gf =>
                        have e0 : m = 0 := by omega
                        subst e0
                        wtm_at "r"
                        exact ⟨show ¬ 10 ^ s ≤ n by omega, rfl, sa.trans sc⟩
                    case ff =>
                      wtm_at "r"
                      refine ⟨?_, rfl, sa.trans sc⟩
                      rcases (by omega : m = 0 ∨ m = 1) with e | e
                      · subst e
                        show ¬ 10 ^ s ≤ n
                        omega
                      · have ey1 := ey e
                        subst e
                        show ¬ 45 ^ s ≤ n
                        omega
          case ct =>
              wtm_at "r"
              refine ⟨by show 4 ≤ sizeLine; decide, fun pa na => ?_⟩
              have sa : Same H5 (upd H5 pa (.lst [V.int 1, V.int 10, V.int 100, V.int 1000])) := Z.s_upd na
              have ha5 : (upd H5 pa (.lst [V.int 1, V.int 10, V.int 100, V.int 1000])) pa = some (.lst ([1, 10, 100, 1000].map V.int)) := L2.upd_same
              generalize upd H5 pa (.lst [V.int 1, V.int 10, V.int 100, V.int 1000]) = H6 at sa ha5
              wtm_at "r"
              obtain ⟨x, hx, ex⟩ : ∃ x : Int, ([1, 10, 100, 1000] : List Int)[s]? = some x ∧ x = ((10 ^ s : Nat) : Int) := by
                rcases (by omega : s = 1 ∨ s = 2 ∨ s = 3) with e | e | e <;> subst e <;> exact ⟨_, rfl, rfl⟩
              refine Z.r_ixL (Z.sq_l ha5) (Z.at_map (j := s) rfl hx) ?_
              subst ex
              wtm_at "r"
              have bad : bsN m ^ s ≤ n → ∀ H8, Same H5 H8 → ∀ e, H8 e = none → Q (.ref e) (upd H8 e (.tup [.str "InvalidCount", .int (u : Nat)])) := fun h H8 s8 e he => qe 2 u (by rw [eR, if_pos h]) e _ ((s5.trans s8).trans (Z.s_upd he)) L2.upd_same
              with_reducible refine' Z.i_2 (fun h5 => ?dt) (fun h5 => ?df)
              case dt =>
                wtm_at "r"
                with_reducible refine' Z.i_2 (fun h6 => ?et) (fun h6 => ?ef)
                case et =>
                  have e0 : m = 0 := by omega
                  subst e0
                  wtm_at "r"
                  refine ⟨by show 2 ≤ sizeLine; decide, fun e he => ?_⟩
                  exact bad (show 10 ^ s ≤ n by omega) _ sa e he
                case ef =>
                    wtm_at "r"
                    refine ⟨by show 4 ≤ sizeLine; decide, fun pc nc => ?_⟩
                    have sc : Same H6 (upd H6 pc (.lst [V.int 1, V.int 45, V.int 2025, V.int 0])) := Z.s_upd nc
                    have hc6 : (upd H6 pc (.lst [V.int 1, V.int 45, V.int 2025, V.int 0])) pc = some (.lst ([1, 45, 2025, 0].map V.int)) := L2.upd_same
                    generalize upd H6 pc (.lst [V.int 1, V.int 45, V.int 2025, V.int 0]) = H7 at sc hc6
                    wtm_at "r"
                    obtain ⟨y, hy, ey⟩ : ∃ y : Int, ([1, 45, 2025, 0] : List Int)[s]? = some y ∧ (m = 1 → y = ((45 ^ s : Nat) : Int)) := by
                      rcases (by omega : s = 1 ∨ s = 2 ∨ s = 3) with e | e | e
                      · subst e; exact ⟨_, rfl, fun _ => rfl⟩
                      · subst e; exact ⟨_, rfl, fun _ => rfl⟩
                      · subst e; exact ⟨_, rfl, fun z => by subst z; exact absurd hsg (by decide)⟩
                    refine Z.r_ixL (Z.sq_l hc6) (Z.at_map (j := s) rfl hy) ?_
                    wtm_at "r"
                    with_reducible refine' Z.i_2 (fun h7 => ?ft) (fun h7 => ?ff)
                    case ft =>
                      wtm_at "r"
                      with_reducible refine' Z.i_2 (fun h8 => ?gt) (fun h8 => ?gf)
                      case gt =>
                        have e1 : m = 1 := by omega
                        have ey1 := ey e1
                        subst e1
                        wtm_at "r"
                        refine ⟨by show 2 ≤ sizeLine; decide, fun e he => ?_⟩
                        exact bad (show 45 ^ s ≤ n by omega) _ (sa.trans sc) e he
                      case gf =>
                        have e0 : m = 0 := by omega
                        subst e0
                        wtm_at "r"
                        exact ⟨show ¬ 10 ^ s ≤ n by omega, rfl, sa.trans sc⟩
                    case ff =>
                      wtm_at "r"
                      refine ⟨?_, rfl, sa.trans sc⟩
                      rcases (by omega : m = 0 ∨ m = 1) with e | e
                      · subst e
                        show ¬ 10 ^ s ≤ n
                        omega
                      · have ey1 := ey e
                        subst e
                        show ¬ 45 ^ s ≤ n
                        omega
              case df =>
                    wtm_at "r"
                    refine ⟨by show 4 ≤ sizeLine; decide, fun pc nc => ?_⟩
                    have sc : Same H6 (upd H6 pc (.lst [V.int 1, V.int 45, V.int 2025, V.int 0])) := Z.s_upd nc
                    have hc6 : (upd H6 pc (.lst [V.int 1, V.int 45, V.int 2025, V.int 0])) pc = some (.lst ([1, 45, 2025, 0].map V.int)) := L2.upd_same
                    generalize upd H6 pc (.lst [V.int 1, V.int 45, V.int 2025, V.int 0]) = H7 at sc hc6
                    wtm_at "r"
                    obtain ⟨y, hy, ey⟩ : ∃ y : Int, ([1, 45, 2025, 0] : List Int)[s]? = some y ∧ (m = 1 → y = ((45 ^ s : Nat) : Int)) := by
                      rcases (by omega : s = 1 ∨ s = 2 ∨ s = 3) with e | e | e
                      · subst e; exact ⟨_, rfl, fun _ => rfl⟩
                      · subst e; exact ⟨_, rfl, fun _ => rfl⟩
                      · subst e; exact ⟨_, rfl, fun z => by subst z; exact absurd hsg (by decide)⟩
                    refine Z.r_ixL (Z.sq_l hc6) (Z.at_map (j := s) rfl hy) ?_
                    wtm_at "r"
                    with_reducible refine' Z.i_2 (fun h7 => ?ft) (fun h7 => ?ff)
                    case ft =>
                      wtm_at "r"
                      with_reducible refine' Z.i_2 (fun h8 => ?gt) (fun h8 => ?gf)
                      case gt =>
                        have e1 : m = 1 := by omega
                        have ey1 := ey e1
                        subst e1
                        wtm_at "r"
                        refine ⟨by show 2 ≤ sizeLine; decide, fun e he => ?_⟩
                        exact bad (show 45 ^ s ≤ n by omega) _ (sa.trans sc) e he
                      case gf =>
                        have e0 : m = 0 := by omega
                        subst e0
                        wtm_at "r"
                        exact ⟨show ¬ 10 ^ s ≤ n by omega, rfl, sa.trans sc⟩
                    case ff =>
                      wtm_at "r"
                      refine ⟨?_, rfl, sa.trans sc⟩
                      rcases (by omega : m = 0 ∨ m = 1) with e | e
                      · subst e
                        show ¬ 10 ^ s ≤ n
                        omega
                      · have ey1 := ey e
                        subst e
                        show ¬ 45 ^ s ≤ n
                        omega
        rintro σ H6 ⟨hge, rfl, s56⟩
        have s6 := s5.trans s56
        have hc6 := s56 _ _ hc5
        wtm_at "r"
        refine Z.rng_go s rfl ⟨by omega, by omega⟩ (fun j σ H7 => ∃ (x10 x11 : Option V), σ = [some (.ref a), some (.int u), some (.int m), some (.int many), some (.ref c), some (.int i), some (.int s), some (.int w), some (.int n), some (.int (bsN m : Nat)), x10, x11] ∧ Same H H7 ∧ H7 c = some (.lst (nv (acc ++ (List.range j).map fun i => sgN m (n / bsN m ^ (s - 1 - i) % bsN m))))) ⟨_, _, rfl, s6, by rw [List.range_zero, List.map_nil, List.append_nil]; exact hc6⟩ ?_ ?_
        · rintro j σ H7 hj ⟨z10, z11, rfl, s7, hc7⟩
          wtm_at "r"
          refine ⟨by show 3 ≤ sizeLine; decide, fun pl nl => ?_⟩
          have sl : Same H7 (upd H7 pl (.lst [V.int 1, V.int (bsN m : Nat), V.int ((bsN m : Nat) * (bsN m : Nat))])) := Z.s_upd nl
          have hl8 : (upd H7 pl (.lst [V.int 1, V.int (bsN m : Nat), V.int ((bsN m : Nat) * (bsN m : Nat))])) pl = some (.lst [V.int 1, V.int (bsN m : Nat), V.int ((bsN m : Nat) * (bsN m : Nat))]) := L2.upd_same
          generalize upd H7 pl (.lst [V.int 1, V.int (bsN m : Nat), V.int ((bsN m : Nat) * (bsN m : Nat))]) = H8 at sl hl8
          have hc8 := sl _ _ hc7
          have s8 := s7.trans sl
          wtm_at "r"
          have hix : atI [V.int 1, V.int (bsN m : Nat), V.int ((bsN m : Nat) * (bsN m : Nat))] ((s : Int) - 1 - (j : Nat)) = some (V.int ((bsN m ^ (s - 1 - j) : Nat) : Int)) := by
            rw [show (s : Int) - 1 - (j : Nat) = ((s - 1 - j : Nat) : Int) by omega]
            rcases (by omega : s - 1 - j = 0 ∨ s - 1 - j = 1 ∨ s - 1 - j = 2) with e | e | e <;> rw [e]
            · rfl
            · rw [Nat.pow_one]; rfl
            · rw [Nat.pow_two, Int.natCast_mul]; rfl
          refine Z.r_ixL (Z.sq_l hl8) hix ?_
          have hb1 : 0 < bsN m ^ (s - 1 - j) := Nat.pow_pos hb0.1
          have hb2 : bsN m ^ (s - 1 - j) ≤ 256 ^ 2 := Nat.le_trans (Nat.pow_le_pow_left hb0.2 _) (Nat.pow_le_pow_right (by decide) (by omega))
          refine Z.r_I (Z.c_div (by omega) (by omega)) ?_
          wtm_at "r"
          rw [← Int.natCast_ediv, ← Int.natCast_emod]
          have hx : n / bsN m ^ (s - 1 - j) % bsN m < bsN m := Nat.mod_lt _ hb0.1
          have h45 := ne_byte m hm (by omega)
          wtm_at "r"
          refine ⟨_, rfl, by omega, fun H9 s9 => ?_⟩
          refine Z.r_nil ?_
          refine Z.r_append (s9 _ _ hc8) (Z.szl (by rw [nv_len, List.length_append, List.length_map, List.length_range]; omega)) ?_
          refine ⟨_, _, rfl, Z.s_mut (s8.trans s9) hc, ?_⟩
          rw [L2.upd_same, List.range_succ, List.map_append, ← List.append_assoc, nv_app _ (List.map _ [j])]
          have e : sgN m (n / bsN m ^ (s - 1 - j) % bsN m) = anL.getD (n / bsN m ^ (s - 1 - j) % bsN m) 0 := by unfold sgN; rw [if_neg (by omega)]
          rw [List.map_cons, List.map_nil, e]; rfl
        · rintro σ H7 ⟨z10, z11, rfl, s7, hc7⟩
          rw [← digs_range] at hc7
          wtm_at "r"
          exact ⟨hge, _, _, _, rfl, s7, hc7⟩
      rintro σ H5 ⟨hge, y9, y10, y11, rfl, s5, hc5⟩
      rw [if_neg hge] at eR
      wtm_at "r"
      rw [← Int.natCast_add]
      exact ⟨u + w, _, _, _, _, _, _, _, _, rfl, by omega, by omega, by rw [List.length_append, digs_len]; omega, by rw [List.length_append, digs_len]; omega, s5, hc5, by rw [eR, show many - (i + 1) = f by omega, List.length_append, digs_len, show many - (acc.length + s) = many - acc.length - s by omega]⟩
    rintro σ H2 ⟨u, acc, x5, x6, x7, x8, x9, x10, x11, rfl, tu, ul, am, a3, s2, hc2, hR⟩
    rw [show many - many = 0 by omega] at hR
    wtm_at "r"
    refine ⟨by show 2 ≤ sizeLine; decide, fun e he => ?_⟩
    exact qv acc u hR.symm tu ul e c _ (s2.trans (Z.s_upd he)) hc (Z.s_upd he _ _ hc2) L2.upd_same
def sp__law_due (K : PySem.W.Frag) : Sp := fun vs H Q _ => ∃ (b : Addr) (bs : List Nat) (t v : Nat), vs = [.ref b, .int v, .int t] ∧ H b = some (.lst (nv bs)) ∧ Bt bs ∧ bs.length ≤ 300 ∧ t ≤ bs.length ∧ 1 ≤ v ∧ v ≤ 40 ∧ (∀ k q, segN bs v bs.length t [] = .er k q → ∀ e H1, Same H H1 → H1 e = some (.tup [.str (enm k), .int (q : Nat)]) → Q (.ref e) H1) ∧ (∀ segs, segN bs v bs.length t [] = .ok segs → ∀ p H1, Same H H1 → SegsAt H1 p segs → Q (.ref p) H1)
set_option maxHeartbeats 2000000 in
theorem ok__law_due (T : Top K mg w) : FnOk P w K mg base CX0 3 T.a__law_due T.d__law_due pl__law_due (sp__law_due K) := by
  refine T.F__law_due.ok sc__law_due (fun vs H Q E h => ?_) (fun cdv A outer s H vs Q E hr h => ?_)
  · obtain ⟨b, bs, t, v, rfl, _⟩ := h
    rfl
  · obtain ⟨b, bs, t, v, rfl, hb, hB, hl, htl, v1, v40, qe, qv⟩ := h
    have hu := hu_of hr
    refine ⟨_, (pss_cons (ps_set (i := 3) sc__law_due.nd rfl (Or.inl rfl) (pe_lst pa_nil))
      (pss_cons (ps_for PassesOwn.never rfl (pi_range1 rfl T.n_range (pa_cons (pe_callB (show CallR _ _ (Z.cLen K) from Z.call_len) (by rfl) T.n_len (by decide +kernel) (pa_cons (pv 0) pa_nil)) pa_nil)) (pg_name (i := 4) sc__law_due.nd rfl (Or.inl rfl)) (pss_cons (ps_if (pt_cmpR op_gt (pe_op op_add (pv 2) pe_int) (pe_callB (show CallR _ _ (Z.cLen K) from Z.call_len) (by rfl) T.n_len (by decide +kernel) (pa_cons (pv 0) pa_nil)) (nomark _)) (pss_one (ps_ret (pv 3))) pss_nil)
      (pss_cons (ps_set (i := 5) sc__law_due.nd rfl (Or.inl rfl) (pe_call (ok__law_number T) (hr.mono (by decide)) (by rfl) T.g__law_number T.F__law_number.kp T.b__law_number .nil pass0 (pa_cons (pv 0) (pa_cons (pv 2) (pa_cons pe_int pa_nil)))))
      (pss_cons (ps_if (pt_cmpR op_eq (pv 5) pe_int (nomark _)) (pss_one (ps_ret (pv 3))) pss_nil)
      (C8.pss_cut (ps_if (pt_cmpR (show OpR _ _ (rIn K true) from op_notIn_seq) (pv 5) (pe_tup (pa_cons pe_int (pa_cons pe_int (pa_cons pe_int pa_nil)))) (by with_unfolding_all rfl)) (pss_one (ps_ret (pe_tup (pa_cons pe_str (pa_cons (pv 2) pa_nil))))) pss_nil)
      (pss_cons (ps_set (i := 6) sc__law_due.nd rfl (Or.inl rfl) (pe_ix (show IxR _ (rIxL K) from ix_list) (pe_lst (pa_cons pe_int (pa_cons pe_int (pa_cons pe_int (pa_cons pe_int (pa_cons pe_int pa_nil)))))) (pv 5) (fun _ _ => rfl)))
      (pss_cons (ps_set (i := 2) sc__law_due.nd rfl (Or.inl rfl) (pe_op op_add (pv 2) pe_int))
      (pss_cons (ps_set (i := 7) sc__law_due.nd rfl (Or.inl rfl) (pe_call (ok__law_head T) (hr.mono (by decide)) (by rfl) T.g__law_head T.F__law_head.kp T.b__law_head .nil pass0 (pa_cons (pv 6) (pa_cons (pv 1) pa_nil))))
      (pss_cons (ps_if (pt_cmpR op_gt (pe_op op_add (pv 2) (pv 7)) (pe_callB (show CallR _ _ (Z.cLen K) from Z.call_len) (by rfl) T.n_len (by decide +kernel) (pa_cons (pv 0) pa_nil)) (nomark _)) (pss_one (ps_ret (pe_tup (pa_cons pe_str (pa_cons (pe_callB (show CallR _ _ (Z.cLen K) from Z.call_len) (by rfl) T.n_len (by decide +kernel) (pa_cons (pv 0) pa_nil)) pa_nil))))) pss_nil)
      (pss_cons (ps_set (i := 8) sc__law_due.nd rfl (Or.inl rfl) (pe_call (ok__law_number T) (hr.mono (by decide)) (by rfl) T.g__law_number T.F__law_number.kp T.b__law_number .nil pass0 (pa_cons (pv 0) (pa_cons (pv 2) (pa_cons (pv 7) pa_nil)))))
      (pss_cons (ps_if (pt_cmpR op_eq (pv 8) pe_int (nomark _)) (pss_one (ps_ret (pe_tup (pa_cons pe_str (pa_cons (pv 2) pa_nil))))) pss_nil)
      (C8.pss_cut (ps_asg (pe_call (ok__law_content T) (hr.mono (by decide)) (by rfl) T.g__law_content T.F__law_content.kp T.b__law_content .nil pass0 (pa_cons (pv 0) (pa_cons (pe_op op_add (pv 2) (pv 7)) (pa_cons (pv 6) (pa_cons (pv 8) pa_nil))))) (pg_tup rfl (pgs_cons (pg_name (i := 9) sc__law_due.nd rfl (Or.inl rfl)) (pgs_cons (pg_name (i := 10) sc__law_due.nd rfl (Or.inl rfl)) pgs_nil))))
      (pss_cons (ps_if (pt_val (pe_callB (show CallR _ _ (rIsi K) from call_isi) (by rfl) T.n_isinstance (by decide +kernel) (pa_cons (pv 9) (pa_cons (pe_bltn (v := .ty "str") (u := .type "str") (by rfl) T.n_str (by decide +kernel) rfl) pa_nil)))) (pss_one (ps_ret (pe_tup (pa_cons (pv 9) (pa_cons (pv 10) pa_nil))))) pss_nil)
      (pss_cons (ps_expr (pe_bm PySem.F.plainAttrs_list PySem.F.slot_list_append PySem.F.type_list_append mt_append (pv 3) (pa_cons (pe_tup (pa_cons (pe_ix (show IxR _ (rIxL K) from ix_list) (pe_lst (pa_cons pe_str (pa_cons pe_str (pa_cons pe_str pa_nil)))) (pv 6) (fun _ _ => rfl)) (pa_cons (pv 9) pa_nil))) pa_nil)))
      (pss_one (ps_set (i := 2) sc__law_due.nd rfl (Or.inl rfl) (pv 10)))))))))))))))))
      (pss_one (ps_ret (pv 3))))), ?_⟩
    show (_ : L2.TS) _ [some _, some _, some _, none, none, none, none, none, none, none, none] H
    try simp only [Z.kx]
    wtm_at "r"
    refine ⟨by show 0 ≤ sizeLine; decide, fun p hp => ?_⟩
    have s1 : Same H (upd H p (.lst [])) := Z.s_upd hp
    have hp1 : (upd H p (.lst [])) p = some (.lst []) := L2.upd_same
    generalize upd H p (.lst []) = H1 at s1 hp1
    wtm_at "r"
    rw [nv_len]
    obtain ⟨R, hR⟩ : ∃ R, segN bs v bs.length t [] = R := ⟨_, rfl⟩
    rw [hR] at qe qv
    refine Z.rng_go bs.length rfl ⟨by omega, by omega⟩ (fun i σ H2 => ∃ (u : Nat) (acc : List (Nat × List Nat)) (x4 x5 x6 x7 x8 x9 x10 : Option V), σ = [some (.ref b), some (.int v), some (.int u), some (.ref p), x4, x5, x6, x7, x8, x9, x10] ∧ u ≤ bs.length ∧ acc.length ≤ i ∧ Same H H2 ∧ SegsAt H2 p acc ∧ segN bs v (bs.length - i) u acc = R) ⟨t, [], none, none, none, none, none, none, none, rfl, htl, Nat.le_refl _, s1, SegsAt.nil hp1, hR⟩ ?_ ?_
    · clear s1 hp1 hR
      rintro i σ H2 hi ⟨u, acc, x4, x5, x6, x7, x8, x9, x10, rfl, ul, ai, s2, g2, hR⟩
      have hb2 := s2 _ _ hb
      obtain ⟨f, hf⟩ : ∃ f, bs.length - i = f + 1 := ⟨bs.length - i - 1, by omega⟩
      rw [hf] at hR
      have eR : R = if bs.length < u + 4 then .ok acc else if numK bs u 4 = 0 then .ok acc else match mdN (numK bs u 4) with
          | none => .er 1 u
          | some m => match cntN bs m v (u + 4) with
            | .er k q => .er k q
            | .ok cs q => segN bs v f q (acc ++ [(m, cs)]) := hR.symm
      clear hR
      wtm_at "r"
      rw [nv_len]
      with_reducible refine Z.i_2 (fun h0 => ?_) (fun h0 => ?_)
      · wtm_at "r"
        rw [if_pos (by omega)] at eR
        exact qv acc eR p H2 s2 g2
      rw [if_neg (by omega)] at eR
      wtm_at "r"
      refine ⟨b, bs, u, 4, rfl, Z.sq_l hb2, by omega, by decide, ?_⟩
      generalize numK bs u 4 = n at *
      wtm_at "r"
      with_reducible refine Z.i_2 (fun h1 => ?_) (fun h1 => ?_)
      · wtm_at "r"
        rw [if_pos (by omega)] at eR
        exact qv acc eR p H2 s2 g2
      rw [if_neg (by omega)] at eR
      wtm_at "r"
      refine Z.r_cut (fun σ H3 => ∃ m, mdN n = some m ∧ σ = [some (.ref b), some (.int v), some (.int u), some (.ref p), some (.int i), some (.int n), x6, x7, x8, x9, x10] ∧ Same H H3 ∧ SegsAt H3 p acc) ?_ ?_
      · wtm_at "w"
        wtm_at "r"
        refine ⟨by show 3 ≤ sizeLine; decide, fun pt nt => ?_⟩
        have s3 : Same H2 (upd H2 pt (.tup [V.int 1, V.int 2, V.int 4])) := Z.s_upd nt
        have ht3 : (upd H2 pt (.tup [V.int 1, V.int 2, V.int 4])) pt = some (.tup ([1, 2, 4].map V.int)) := L2.upd_same
        generalize upd H2 pt (.tup [V.int 1, V.int 2, V.int 4]) = H3 at s3 ht3
        refine r_notInI (Z.sq_t ht3) ?_
        refine ⟨_, rfl, ?_⟩
        with_reducible refine Z.i_2 (fun h2 => ?_) (fun h2 => ?_)
        · have e : mdN n = none := xor_none.mpr ⟨fun z => h2 (by rw [z]; decide), fun z => h2 (by rw [z]; decide), fun z => h2 (by rw [z]; decide)⟩
          rw [e] at eR
          wtm_at "r"
          refine ⟨by show 2 ≤ sizeLine; decide, fun e he => ?_⟩
          exact qe 1 u eR e _ ((s2.trans s3).trans (Z.s_upd he)) L2.upd_same
        · wtm_at "r"
          cases hm : mdN n with
          | none =>
            have := xor_none.mp hm
            refine absurd (fun z => ?_) h2
            simp only [List.mem_cons, List.not_mem_nil, or_false] at z
            omega
          | some m => exact ⟨m, rfl, rfl, s2.trans s3, g2.same s3⟩
      rintro σ H3 ⟨m, hmd, rfl, s3, g3⟩
      rw [hmd] at eR
      dsimp only at eR
      obtain ⟨hm, en⟩ := md_some hmd
      clear s2 g2 hb2
      wtm_at "r"
      refine ⟨by show 5 ≤ sizeLine; decide, fun pl nl => ?_⟩
      have s4 : Same H3 (upd H3 pl (.lst [V.int 0, V.int 0, V.int 1, V.int 0, V.int 2])) := Z.s_upd nl
      have hl4 : (upd H3 pl (.lst [V.int 0, V.int 0, V.int 1, V.int 0, V.int 2])) pl = some (.lst ([0, 0, 1, 0, 2].map V.int)) := L2.upd_same
      generalize upd H3 pl (.lst [V.int 0, V.int 0, V.int 1, V.int 0, V.int 2]) = H4 at s4 hl4
      wtm_at "r"
      refine Z.r_ixL (Z.sq_l hl4) (Z.at_map (j := 2 ^ m) (by rw [en]) (cd_idx m hm)) ?_
      wtm_at "r"
      refine ⟨m, v, rfl, hm, fun H5 s5 => ?_⟩
      have s35 := s3.trans (s4.trans s5)
      have g5 := g3.same (s4.trans s5)
      have hb5 := s35 _ _ hb
      have cl := cbN_lim (v := v) hm
      have ecnt : cntN bs m v (u + 4) = if bs.length < u + 4 + cbN m v then .er 0 bs.length else if numK bs (u + 4) (cbN m v) = 0 then .er 2 (u + 4) else conN bs m (numK bs (u + 4) (cbN m v)) (u + 4 + cbN m v) (numK bs (u + 4) (cbN m v)) [] := rfl
      rw [ecnt] at eR
      have hnl : u + 4 + cbN m v ≤ bs.length → numK bs (u + 4) (cbN m v) < 2 ^ 16 := fun h => Nat.lt_of_lt_of_le (numK_lt hB h) (Nat.pow_le_pow_right (by decide) cl.1)
      generalize cbN m v = w at *
      wtm_at "r"
      rw [nv_len]
      with_reducible refine Z.i_2 (fun h2 => ?_) (fun h2 => ?_)
      · wtm_at "r"
        rw [nv_len]
        wtm_at "r"
        refine ⟨by show 2 ≤ sizeLine; decide, fun e he => ?_⟩
        rw [if_pos (by omega)] at eR
        exact qe 0 _ eR e _ (s35.trans (Z.s_upd he)) L2.upd_same
      rw [if_neg (by omega)] at eR
      have hn := hnl (by omega)
      wtm_at "r"
      refine ⟨b, bs, u + 4, w, by rw [Int.natCast_add]; rfl, Z.sq_l hb5, by omega, by omega, ?_⟩
      generalize numK bs (u + 4) w = c at *
      wtm_at "r"
      with_reducible refine Z.i_2 (fun h3 => ?_) (fun h3 => ?_)
      · wtm_at "r"
        refine ⟨by show 2 ≤ sizeLine; decide, fun e he => ?_⟩
        rw [if_pos (by omega)] at eR
        exact qe 2 (u + 4) eR e _ (s35.trans (Z.s_upd he)) (by rw [L2.upd_same, Int.natCast_add]; rfl)
      rw [if_neg (by omega)] at eR
      refine Z.r_cut (fun σ H6 => (∃ k q, conN bs m c (u + 4 + w) c [] = .er k q ∧ σ = [some (.ref b), some (.int v), some (.int (u + 4 : Nat)), some (.ref p), some (.int i), some (.int n), some (.int m), some (.int w), some (.int c), some (.str (enm k)), some (.int (q : Nat))] ∧ Same H H6) ∨
        (∃ cs q g, conN bs m c (u + 4 + w) c [] = .ok cs q ∧ q ≤ bs.length ∧ σ = [some (.ref b), some (.int v), some (.int (u + 4 : Nat)), some (.ref p), some (.int i), some (.int n), some (.int m), some (.int w), some (.int c), some (.ref g), some (.int (q : Nat))] ∧ Same H5 H6 ∧ H5 g = none ∧ H6 g = some (.lst (nv cs)))) ?_ ?_
      · wtm_at "w"
        wtm_at "r"
        refine ⟨b, bs, u + 4 + w, m, c, by rw [Int.natCast_add, Int.natCast_add]; rfl, Z.sq_l hb5, hB, hl, by omega, hm, by omega, fun k q e r H6 s6 hr => ?_, fun cs q e q1 q2 r g H6 s6 ng hg hr => ?_⟩
        · refine Z.r_pair hr rfl ?_
          exact .inl ⟨k, q, e, by rw [Int.natCast_add]; rfl, s35.trans s6⟩
        · refine Z.r_pair hr rfl ?_
          exact .inr ⟨cs, q, g, e, q2, by rw [Int.natCast_add]; rfl, s6, ng, hg⟩
      rintro σ H6 (⟨k, q, e, rfl, s6⟩ | ⟨cs, q, g, e, q2, rfl, s6, ng, hg⟩)
      · rw [e] at eR
        dsimp only at eR
        wtm_at "r"
        refine Z.r_isi (b := true) (.ty "str") (.base (.str _)) (kit_ty (by decide +kernel)) ?_
        wtm_at "r"
        refine ⟨by show 2 ≤ sizeLine; decide, fun r hr => ?_⟩
        exact qe k q eR r _ (s6.trans (Z.s_upd hr)) L2.upd_same
      · rw [e] at eR
        dsimp only at eR
        have g6 := g5.same s6
        obtain ⟨xs6, hxs6, lx6, _⟩ := id g6
        have ngp : g ≠ p := fun z => by
          obtain ⟨xs5, hxs5, _⟩ := g5
          rw [z, hxs5] at ng; cases ng
        wtm_at "r"
        refine Z.r_isi (b := false) (.ty "str") (.base (.lst hg)) (kit_ty (by decide +kernel)) ?_
        wtm_at "r"
        refine ⟨by show 3 ≤ sizeLine; decide, fun pm nm => ?_⟩
        have s7 : Same H6 (upd H6 pm (.lst [V.str "numeric", V.str "alphanumeric", V.str "byte"])) := Z.s_upd nm
        have hm7 : (upd H6 pm (.lst [V.str "numeric", V.str "alphanumeric", V.str "byte"])) pm = some (.lst [V.str "numeric", V.str "alphanumeric", V.str "byte"]) := L2.upd_same
        generalize upd H6 pm (.lst [V.str "numeric", V.str "alphanumeric", V.str "byte"]) = H7 at s7 hm7
        wtm_at "r"
        refine Z.r_ixL (Z.sq_l hm7) (atI_nat (md_str m hm)) ?_
        wtm_at "r"
        refine ⟨by show 2 ≤ sizeLine; decide, fun tt ntt => ?_⟩
        have s8 : Same H7 (upd H7 tt (.tup [V.str (modes.getD m ""), V.ref g])) := Z.s_upd ntt
        have ht8 : (upd H7 tt (.tup [V.str (modes.getD m ""), V.ref g])) tt = some (.tup [V.str (modes.getD m ""), V.ref g]) := L2.upd_same
        generalize upd H7 tt (.tup [V.str (modes.getD m ""), V.ref g]) = H8 at s8 ht8
        have s68 := s7.trans s8
        wtm_at "r"
        refine Z.r_append (s68 _ _ hxs6) (Z.szl (by omega)) ?_
        wtm_at "r"
        refine ⟨q, acc ++ [(m, cs)], _, _, _, _, _, _, _, rfl, q2, by rw [List.length_append]; show acc.length + 1 ≤ i + 1; omega, Z.s_mut (s35.trans (s6.trans s68)) hp, (g6.same s68).push (s68 _ _ hxs6) ht8 (s68 _ _ hg) ngp, by rw [eR, show bs.length - (i + 1) = f by omega]⟩
    rintro σ H2 ⟨u, acc, x4, x5, x6, x7, x8, x9, x10, rfl, ul, ai, s2, g2, hR⟩
    rw [show bs.length - bs.length = 0 by omega] at hR
    wtm_at "r"
    exact qv acc hR.symm p H2 s2 g2
def sp__law_built (K : PySem.W.Frag) : Sp := fun vs H Q _ => ∃ (a : Addr) (ns : List Int) (v : Nat), vs = [.ref a, .int v] ∧ SqL K H a (ns.map V.int) ∧ ns.length ≤ 63 ∧ 1 ≤ v ∧ v ≤ 40 ∧ ∀ (p : Addr) (bs : List Nat) (H1 : Hp), Same H H1 → H1 p = some (.lst (nv bs)) → Bt bs → bs.length ≤ 200 → Q (.ref p) H1
set_option maxHeartbeats 2000000 in
theorem ok__law_built (T : Top K mg w) : FnOk P w K mg base CX0 3 T.a__law_built T.d__law_built pl__law_built (sp__law_built K) := by
  refine T.F__law_built.ok sc__law_built (fun vs H Q E h => ?_) (fun cdv A outer s H vs Q E hr h => ?_)
  · obtain ⟨a, ns, v, rfl, _⟩ := h
    rfl
  · obtain ⟨a, ns, v, rfl, hS, hn, v1, v40, q⟩ := h
    have hu := hu_of hr
    refine ⟨_, (pss_cons (ps_set (i := 2) sc__law_built.nd rfl (Or.inl rfl) (pe_lst pa_nil))
      (pss_cons (ps_for PassesOwn.never rfl (pi_range2 rfl T.n_range (pa_cons pe_int (pa_cons (pe_callB (call_min2 rfl) (by rfl) T.n_min (by decide +kernel) (pa_cons pe_int (pa_cons (pe_callB (show CallR _ _ (Z.cLen K) from Z.call_len) (by rfl) T.n_len (by decide +kernel) (pa_cons (pv 0) pa_nil)) pa_nil))) pa_nil))) (pg_name (i := 3) sc__law_built.nd rfl (Or.inl rfl)) (pss_cons (ps_set (i := 4) sc__law_built.nd rfl (Or.inl rfl) (pe_callTy Z.call_int (by rfl) T.n_int (by decide +kernel) (pa_cons (pe_ix (show IxR _ (rIxL K) from ix_list) (pv 0) (pv 3) (fun _ _ => rfl)) pa_nil)))
      (pss_cons (ps_set (i := 5) sc__law_built.nd rfl (Or.inl rfl) (pe_op op_mod (pv 4) pe_int))
      (pss_cons (ps_set (i := 6) sc__law_built.nd rfl (Or.inl rfl) (pe_op op_add pe_int (pe_op op_mod (pe_op op_fdiv (pv 4) pe_int) pe_int)))
      (pss_one (ps_if (pt_cmpR op_eq (pe_op op_mod (pe_op op_fdiv (pv 4) pe_int) pe_int) pe_int (nomark _)) (pss_one (ps_set (i := 2) sc__law_built.nd rfl (Or.inl rfl) (pe_op op_cat (pv 2) (pe_call (ok__law_bits T) (hr.mono (by decide)) (by rfl) T.g__law_bits T.F__law_bits.kp T.b__law_bits .nil pass0 (pa_cons (pe_op op_mod (pe_op op_fdiv (pv 4) pe_int) pe_int) (pa_cons pe_int pa_nil)))))) (pss_cons (ps_set (i := 2) sc__law_built.nd rfl (Or.inl rfl) (pe_op op_cat (pe_op op_cat (pv 2) (pe_call (ok__law_bits T) (hr.mono (by decide)) (by rfl) T.g__law_bits T.F__law_bits.kp T.b__law_bits .nil pass0 (pa_cons (pe_op op_shl pe_int (pv 5)) (pa_cons pe_int pa_nil)))) (pe_call (ok__law_bits T) (hr.mono (by decide)) (by rfl) T.g__law_bits T.F__law_bits.kp T.b__law_bits .nil pass0 (pa_cons (pv 6) (pa_cons (pe_call (ok__law_head T) (hr.mono (by decide)) (by rfl) T.g__law_head T.F__law_head.kp T.b__law_head .nil pass0 (pa_cons (pv 5) (pa_cons (pv 1) pa_nil))) pa_nil)))))
      (pss_cons (ps_set (i := 7) sc__law_built.nd rfl (Or.inl rfl) (pv 6))
      (pss_one (ps_for PassesOwn.never rfl (pi_range1 rfl T.n_range (pa_cons (pv 6) pa_nil)) (pg_name (i := 8) sc__law_built.nd rfl (Or.inl rfl)) (pss_cons (ps_set (i := 9) sc__law_built.nd rfl (Or.inl rfl) (pe_callB (call_min2 rfl) (by rfl) T.n_min (by decide +kernel) (pa_cons (pe_ix (show IxR _ (rIxL K) from ix_list) (pe_lst (pa_cons pe_int (pa_cons pe_int (pa_cons pe_int pa_nil)))) (pv 5) (fun _ _ => rfl)) (pa_cons (pv 7) pa_nil))))
      (C8.pss_cut (ps_if (pt_cmpR op_gt (pv 9) pe_int (nomark _)) (pss_cons (ps_set (i := 10) sc__law_built.nd rfl (Or.inl rfl) (pe_call (ok__law_widths T) (hr.mono (by decide)) (by rfl) T.g__law_widths T.F__law_widths.kp T.b__law_widths .nil pass0 (pa_cons (pv 5) (pa_cons (pv 9) pa_nil))))
      (pss_cons (ps_set (i := 11) sc__law_built.nd rfl (Or.inl rfl) (pe_ix (show IxR _ (rIxL K) from ix_list) (pe_lst (pa_cons pe_int (pa_cons pe_int (pa_cons pe_int pa_nil)))) (pv 5) (fun _ _ => rfl)))
      (C8.pss_cut (ps_if (pt_cmpR op_eq (pe_op op_mod (pe_op op_fdiv (pv 4) pe_int) pe_int) pe_int (nomark _)) (pss_one (ps_set (i := 11) sc__law_built.nd rfl (Or.inl rfl) (pe_op op_shl pe_int (pv 10)))) pss_nil)
      (pss_one (ps_set (i := 2) sc__law_built.nd rfl (Or.inl rfl) (pe_op op_cat (pv 2) (pe_call (ok__law_bits T) (hr.mono (by decide)) (by rfl) T.g__law_bits T.F__law_bits.kp T.b__law_bits .nil pass0 (pa_cons (pe_op op_mod (pe_op op_fdiv (pv 4) (pe_op op_mul pe_int (pe_op op_add pe_int (pv 8)))) (pe_callB (call_min2 rfl) (by rfl) T.n_min (by decide +kernel) (pa_cons (pv 11) (pa_cons (pe_op op_shl pe_int (pv 10)) pa_nil)))) (pa_cons (pv 10) pa_nil))))))))) pss_nil)
      (pss_one (ps_set (i := 7) sc__law_built.nd rfl (Or.inl rfl) (pe_op op_sub (pv 7) (pv 9))))))))))))))))
      (pss_one (ps_ret (pe_slice (show SlR _ (rSlL K) from sl_list) (pv 2) po_none (po_some pe_int)))))), ?_⟩
    show (_ : L2.TS) _ [some _, some _, none, none, none, none, none, none, none, none, none, none] H
    try simp only [Z.kx]
    wtm_at "r"
    refine ⟨by show 0 ≤ sizeLine; decide, fun p0 np0 => ?_⟩
    have s1 : Same H (upd H p0 (.lst [])) := Z.s_upd np0
    have h1 : (upd H p0 (.lst [])) p0 = some (.lst (nv [])) := L2.upd_same
    generalize upd H p0 (.lst []) = H1 at s1 h1
    wtm_at "r"
    refine ⟨_, _, rfl, ?_⟩
    rw [List.length_map]
    obtain ⟨n, en, hn14⟩ : ∃ n : Int, n = (if ((ns.length : Nat) : Int) < 14 then ((ns.length : Nat) : Int) else 14) ∧ n ≤ 14 ∧ n ≤ ns.length := ⟨_, rfl, by split <;> omega, by split <;> omega⟩
    rw [← en]
    refine Z.rng_go2 (n - 2).toNat rfl ⟨by omega, by omega, by omega, by omega⟩ (fun i σ H2 => ∃ (pb : Addr) (bs : List Nat) (x3 x4 x5 x6 x7 x8 x9 x10 x11 : Option V), σ = [some (.ref a), some (.int v), some (.ref pb), x3, x4, x5, x6, x7, x8, x9, x10, x11] ∧ Same H H2 ∧ H2 pb = some (.lst (nv bs)) ∧ Bt bs ∧ bs.length ≤ 100 * i) ⟨p0, [], none, none, none, none, none, none, none, none, none, rfl, s1, h1, (fun b hb => nomatch hb), Nat.zero_le _⟩ ?_ ?_
    · clear s1 h1
      rintro i σ H2 hi ⟨pb, bs, x3, x4, x5, x6, x7, x8, x9, x10, x11, rfl, s2, hb2, Bb, lb⟩
      have hin : 2 + i < ns.length := by omega
      wtm_at "r"
      refine Z.r_ixL (Z.s_sq s2 hS) (Z.at_map (j := 2 + i) (by omega) (List.getElem?_eq_getElem hin)) ?_
      generalize ns[2 + i] = cell
      wtm_at "r"
      obtain ⟨m, em, hm⟩ : ∃ m : Nat, cell % 3 = (m : Int) ∧ m < 3 := ⟨(cell % 3).toNat, by omega, by omega⟩
      obtain ⟨many, ey, hy1, hy2⟩ : ∃ y : Nat, 1 + cell / 3 % 5 = (y : Int) ∧ 1 ≤ y ∧ y ≤ 5 := ⟨(1 + cell / 3 % 5).toNat, by omega, by omega, by omega⟩
      rw [em, ey]
      have gp := gs_pos hm
      with_reducible refine Z.i_2 (fun h => ?_) (fun h => ?_)
      · wtm_at "r"
        refine ⟨_, 16, rfl, by decide, fun p1 H3 as s3 n1 h1 l1 B1 => ?_⟩
        refine Z.r_cat (s3 _ _ hb2) h1 (by rw [nv_len, nv_len]; omega) (fun p2 n2 => ?_)
        rw [← nv_app]
        exact ⟨p2, bs ++ as, _, _, _, _, _, _, _, _, _, rfl, s2.trans (s3.trans (Z.s_upd n2)), L2.upd_same, Bb.app B1, by rw [List.length_append]; omega⟩
      · wtm_at "r"
        refine ⟨_, 4, rfl, by decide, fun p1 H3 as s3 n1 h1 l1 B1 => ?_⟩
        refine Z.r_cat (s3 _ _ hb2) h1 (by rw [nv_len, nv_len]; omega) (fun p2 n2 => ?_)
        rw [← nv_app]
        have B2 : Bt (bs ++ as) := Bb.app B1
        have l2 : (bs ++ as).length ≤ 100 * i + 4 := by rw [List.length_append]; omega
        have s4 : Same H (upd H3 p2 (.lst (nv (bs ++ as)))) := s2.trans (s3.trans (Z.s_upd n2))
        have h4 : (upd H3 p2 (.lst (nv (bs ++ as)))) p2 = some (.lst (nv (bs ++ as))) := L2.upd_same
        generalize upd H3 p2 (.lst (nv (bs ++ as))) = H4 at s4 h4
        generalize bs ++ as = cs at B2 l2 h4
        clear s2 hb2 s3 h1
        wtm_at "r"
        refine ⟨m, v, rfl, hm, fun H5 s5 => ?_⟩
        have cl := cbN_lim (v := v) hm
        generalize cbN m v = w at cl
        refine Z.r_nil ?_
        refine ⟨_, w, rfl, by omega, fun p3 H6 ds s6 n3 h3 l3 B3 => ?_⟩
        refine Z.r_cat (s6 _ _ (s5 _ _ h4)) h3 (by rw [nv_len, nv_len]; omega) (fun p5 n5 => ?_)
        rw [← nv_app]
        have B5 : Bt (cs ++ ds) := B2.app B3
        have l5 : (cs ++ ds).length ≤ 100 * i + 20 := by rw [List.length_append]; omega
        have s7 : Same H (upd H6 p5 (.lst (nv (cs ++ ds)))) := s4.trans (s5.trans (s6.trans (Z.s_upd n5)))
        have h7 : (upd H6 p5 (.lst (nv (cs ++ ds)))) p5 = some (.lst (nv (cs ++ ds))) := L2.upd_same
        generalize upd H6 p5 (.lst (nv (cs ++ ds))) = H7 at s7 h7
        generalize cs ++ ds = es at B5 l5 h7
        clear s4 h4 s5 s6 h3
        wtm_at "r"
        refine Z.rng_go many rfl ⟨by omega, by omega⟩ (fun j σ H8 => ∃ (pb : Addr) (bs : List Nat) (left : Nat) (x8 x9 x10 x11 : Option V), σ = [some (.ref a), some (.int v), some (.ref pb), some (.int (2 + (i : Int))), some (.int cell), some (.int m), some (.int many), some (.int left), x8, x9, x10, x11] ∧ Same H H8 ∧ H8 pb = some (.lst (nv bs)) ∧ Bt bs ∧ bs.length ≤ 100 * i + 20 + 11 * j ∧ left ≤ 5) ⟨p5, es, many, _, _, _, _, rfl, s7, h7, B5, by omega, hy2⟩ ?_ ?_
        · clear s7 h7 B5 l5
          rintro j σ H8 hj ⟨pb, bs, left, x8, x9, x10, x11, rfl, s8, h8, Bb, lb, hleft⟩
          wtm_at "r"
          refine ⟨by show 3 ≤ sizeLine; decide, fun pg ng => ?_⟩
          have sg : Same H8 (upd H8 pg (.lst [V.int 3, V.int 2, V.int 1])) := Z.s_upd ng
          have hg : (upd H8 pg (.lst [V.int 3, V.int 2, V.int 1])) pg = some (.lst ([3, 2, 1].map V.int)) := L2.upd_same
          generalize upd H8 pg (.lst [V.int 3, V.int 2, V.int 1]) = H9 at sg hg
          have s9 := s8.trans sg
          have h9 := sg _ _ h8
          clear s8 h8 ng sg
          wtm_at "r"
          refine Z.r_ixL (Z.sq_l hg) (Z.at_map (j := m) rfl (gs_idx m hm)) ?_
          wtm_at "r"
          refine ⟨_, _, rfl, ?_⟩
          wtm_at "r"
          have hs : (if ((left : Nat) : Int) < (gsN m : Nat) then ((left : Nat) : Int) else (gsN m : Nat)) = ((min (gsN m) left : Nat) : Int) := by split <;> omega
          rw [hs]
          have hsg : min (gsN m) left ≤ gsN m := Nat.min_le_left ..
          have hsl : min (gsN m) left ≤ left := Nat.min_le_right ..
          clear hs
          generalize min (gsN m) left = s at *
          refine Z.r_cut (fun σ H10 => ∃ (pb : Addr) (bs : List Nat) (x10 x11 : Option V), σ = [some (.ref a), some (.int v), some (.ref pb), some (.int (2 + (i : Int))), some (.int cell), some (.int m), some (.int many), some (.int left), some (.int j), some (.int s), x10, x11] ∧ Same H H10 ∧ H10 pb = some (.lst (nv bs)) ∧ Bt bs ∧ bs.length ≤ 100 * i + 20 + 11 * (j + 1)) ?_ ?_
          · wtm_at "w"
            wtm_at "r"
            with_reducible refine Z.i_2 (fun hp => ?_) (fun hp => ?_)
            · wtm_at "r"
              refine ⟨m, s, rfl, hm, by omega, hsg, fun H10 s10 => ?_⟩
              have hwp := wd_pos m hm s hsg (by omega)
              have hwl := wd_lt m hm s (by omega)
              generalize wdN m s = w at *
              have h10 := s10 _ _ h9
              have t10 := s9.trans s10
              clear s9 s10 h9 hg
              wtm_at "r"
              refine ⟨by show 3 ≤ sizeLine; decide, fun pt nt => ?_⟩
              have st : Same H10 (upd H10 pt (.lst [V.int 1000, V.int 2025, V.int 256])) := Z.s_upd nt
              have ht : (upd H10 pt (.lst [V.int 1000, V.int 2025, V.int 256])) pt = some (.lst ([1000, 2025, 256].map V.int)) := L2.upd_same
              generalize upd H10 pt (.lst [V.int 1000, V.int 2025, V.int 256]) = H11 at st ht
              have h11 := st _ _ h10
              have t11 := t10.trans st
              wtm_at "r"
              obtain ⟨tp, htp, tp1, tp2⟩ : ∃ tp : Int, ([1000, 2025, 256] : List Int)[m]? = some tp ∧ 0 < tp ∧ tp < 3000 := by
                rcases md_cases hm with e | e | e <;> subst e <;> exact ⟨_, rfl, by decide, by decide⟩
              refine Z.r_ixL (Z.sq_l ht) (Z.at_map (j := m) rfl htp) ?_
              have hw1 : (0 : Int) < 1 * 2 ^ Int.toNat (w : Int) ∧ (1 : Int) * 2 ^ Int.toNat (w : Int) < 3000 := by
                have a1 : 0 < 2 ^ w := Nat.two_pow_pos w
                have a2 : 2 ^ w ≤ 2 ^ 11 := Nat.pow_le_pow_right (by decide) hwl
                have e : (1 : Int) * 2 ^ Int.toNat (w : Int) = ((2 ^ w : Nat) : Int) := by rw [Int.toNat_natCast, Int.one_mul]; simp
                rw [e]; omega
              refine Z.r_cut (fun σ H12 => ∃ (tp : Int), 0 < tp ∧ tp < 3000 ∧ σ = [some (.ref a), some (.int v), some (.ref pb), some (.int (2 + (i : Int))), some (.int cell), some (.int m), some (.int many), some (.int left), some (.int j), some (.int s), some (.int w), some (.int tp)] ∧ H12 = H11) ?_ ?_
              · wtm_at "w"
                wtm_at "r"
                with_reducible refine Z.i_2 (fun hq => ?_) (fun hq => ?_)
                · wtm_at "r"
                  exact ⟨_, hw1.1, hw1.2, rfl, rfl⟩
                · wtm_at "r"
                  exact ⟨tp, tp1, tp2, rfl, rfl⟩
              rintro σ H12 ⟨tp, tp1, tp2, rfl, rfl⟩
              wtm_at "r"
              refine ⟨_, _, rfl, ?_⟩
              refine Z.r_I (by show (0 : Int) < _; split <;> omega) ?_
              wtm_at "r"
              refine ⟨_, w, rfl, by omega, fun p1 H13 as s13 n1 h1 l1 B1 => ?_⟩
              refine Z.r_cat (s13 _ _ h11) h1 (by rw [nv_len, nv_len]; omega) (fun p2 n2 => ?_)
              rw [← nv_app]
              exact ⟨p2, bs ++ as, _, _, rfl, t11.trans (s13.trans (Z.s_upd n2)), L2.upd_same, Bb.app B1, by rw [List.length_append]; omega⟩
            · wtm_at "r"
              exact ⟨pb, bs, _, _, rfl, s9, h9, Bb, by omega⟩
          rintro σ H10 ⟨pb, bs, y10, y11, rfl, s10, h10, Bb, lb⟩
          wtm_at "r"
          rw [show ((left : Nat) : Int) - (s : Nat) = ((left - s : Nat) : Int) by omega]
          exact ⟨pb, bs, left - s, _, _, _, _, rfl, s10, h10, Bb, lb, by omega⟩
        · rintro σ H8 ⟨pb, bs, left, x8, x9, x10, x11, rfl, s8, h8, Bb, lb, hleft⟩
          wtm_at "r"
          exact ⟨pb, bs, _, _, _, _, _, _, _, _, _, rfl, s8, h8, Bb, by omega⟩
    rintro σ H2 ⟨pb, bs, x3, x4, x5, x6, x7, x8, x9, x10, x11, rfl, s2, h2, Bb, lb⟩
    wtm_at "r"
    refine Z.r_slL (Z.sq_l h2) (fun pc nc => ?_)
    refine q pc (bs.take 200) _ (s2.trans (Z.s_upd nc)) ?_ (Bb.take 200) (by rw [List.length_take]; omega)
    rw [L2.upd_same]
    exact congrArg (fun z => some (HO.lst z)) (cut_to_nv bs 200)
def sp__law_told (K : PySem.W.Frag) : Sp := fun vs H Q _ => ∃ (b : Addr) (bs : List Nat) (t v : Nat), vs = [.ref b, .int v, .int t] ∧ H b = some (.lst (nv bs)) ∧ Bt bs ∧ bs.length ≤ 300 ∧ t ≤ bs.length ∧ 1 ≤ v ∧ v ≤ 40 ∧ (∀ k q, segN bs v bs.length t [] = .er k q → ∀ e H1, Same H H1 → H1 e = some (.tup [.str (enm k), .int (q : Nat)]) → Q (.ref e) H1) ∧ (∀ segs, segN bs v bs.length t [] = .ok segs → ∀ p H1, Same H H1 → SegsAt H1 p segs → Q (.ref p) H1)
set_option maxHeartbeats 2000000 in
theorem ok__law_told (T : Top K mg w) : FnOk P w K mg base CX0 7 T.a__law_told T.d__law_told pl__law_told (sp__law_told K) := by
  refine T.F__law_told.ok sc__law_told (fun vs H Q E h => ?_) (fun cdv A outer s H vs Q E hr h => ?_)
  · obtain ⟨b, bs, t, v, rfl, _⟩ := h
    rfl
  · obtain ⟨b, bs, t, v, rfl, hb, hB, hl, htl, v1, v40, qe, qv⟩ := h
    have hu := hu_of hr
    refine ⟨_, (pss_one (Z.ps_tries rfl rfl takes0 (fun W pn xe tk pz => (pss_one (ps_ret (pe_callS (ok_read_segments T) (hr.mono (by decide)) (by rfl) T.g_read_segments T.F_read_segments.kp T.b_read_segments (fun σ => passAt tk σ) (pa_cons (pv 0) (pa_cons (pv 1) (pa_cons (pv 2) pa_nil))))))) (.named (i := 3) sc__law_told.nd rfl rfl ⟨by rfl, by decide +kernel, .inl T.g_Truncated⟩ (fun a oe cls d pn hz hf => (pss_one (ps_ret (pe_tup (pa_cons (Z.pe_erF hz hf (pv 3)) (pa_cons (Z.pe_erF hz hf (pv 3)) pa_nil)))))) (.named (i := 3) sc__law_told.nd rfl rfl ⟨by rfl, by decide +kernel, .inl T.g_InvalidMode⟩ (fun a oe cls d pn hz hf => (pss_one (ps_ret (pe_tup (pa_cons (Z.pe_erF hz hf (pv 3)) (pa_cons (Z.pe_erF hz hf (pv 3)) pa_nil)))))) (.named (i := 3) sc__law_told.nd rfl rfl ⟨by rfl, by decide +kernel, .inl T.g_InvalidCount⟩ (fun a oe cls d pn hz hf => (pss_one (ps_ret (pe_tup (pa_cons (Z.pe_erF hz hf (pv 3)) (pa_cons (Z.pe_erF hz hf (pv 3)) pa_nil)))))) (.bare ⟨by rfl, by decide +kernel, .inl T.g_DotfieldError⟩ (fun a oe cls d pn hz hf => (pss_one (ps_ret pe_non))) .nil)))))), ?_⟩
    show (_ : L2.TS) _ [some _, some _, some _, none] H
    try simp only [Z.kx]
    wtm_at "e"
    refine ⟨b, bs, t, v, rfl, hb, hB, hl, htl, v1, v40, fun k q' ek H1 d s1 hd => ?_, fun segs e H1 p s1 g => ?_⟩
    · have ek2 := ek
      unfold eCls
      by_cases k0 : k = 0
      · subst k0
        rw [if_pos rfl]
        refine ⟨true, T.ex_Truncated_Truncated, fun _ => ?_, (fun z => nomatch z)⟩
        intro a' ha'
        have hx : (upd H1 d (xdE 0 q')) d = some (xdE 0 q') := L2.upd_same
        have s2 : Same H1 (upd H1 d (xdE 0 q')) := Z.s_upd hd
        have fin : ∀ e H4, Same H1 H4 → H4 e = some (.tup [.str (enm 0), .int (q' : Nat)]) → Q (.ref e) H4 := fun e H4 s h => qe 0 q' ek e H4 (s1.trans s) h
        generalize upd H1 d (xdE 0 q') = H2 at hx s2 ha'
        wtm_at "w"
        wtm_at "e"
        refine Z.r_erFP T.xf_Truncated T.no_Truncated_name hx Z.look_1 ?_
        wtm_at "e"
        refine Z.r_erFP T.xf_Truncated T.no_Truncated_place hx ((Z.look_s f_pn).trans Z.look_1) ?_
        wtm_at "e"
        refine ⟨by show 2 ≤ sizeLine; decide, fun e he => ?_⟩
        exact fin e _ (s2.trans (Z.s_upd he)) L2.upd_same
      rw [if_neg k0]
      by_cases k1 : k = 1
      · subst k1
        rw [if_pos rfl]
        refine ⟨false, T.ex_InvalidMode_Truncated, (fun z => nomatch z), fun _ => ⟨true, T.ex_InvalidMode_InvalidMode, fun _ => ?_, (fun z => nomatch z)⟩⟩
        intro a' ha'
        have hx : (upd H1 d (xdE 1 q')) d = some (xdE 1 q') := L2.upd_same
        have s2 : Same H1 (upd H1 d (xdE 1 q')) := Z.s_upd hd
        have fin : ∀ e H4, Same H1 H4 → H4 e = some (.tup [.str (enm 1), .int (q' : Nat)]) → Q (.ref e) H4 := fun e H4 s h => qe 1 q' ek e H4 (s1.trans s) h
        generalize upd H1 d (xdE 1 q') = H2 at hx s2 ha'
        wtm_at "w"
        wtm_at "e"
        refine Z.r_erFP T.xf_InvalidMode T.no_InvalidMode_name hx Z.look_1 ?_
        wtm_at "e"
        refine Z.r_erFP T.xf_InvalidMode T.no_InvalidMode_place hx ((Z.look_s f_pn).trans Z.look_1) ?_
        wtm_at "e"
        refine ⟨by show 2 ≤ sizeLine; decide, fun e he => ?_⟩
        exact fin e _ (s2.trans (Z.s_upd he)) L2.upd_same
      rw [if_neg k1]
      refine ⟨false, T.ex_InvalidCount_Truncated, (fun z => nomatch z), fun _ => ⟨false, T.ex_InvalidCount_InvalidMode, (fun z => nomatch z), fun _ => ⟨true, T.ex_InvalidCount_InvalidCount, fun _ => ?_, (fun z => nomatch z)⟩⟩⟩
      intro a' ha'
      have hx : (upd H1 d (xdE k q')) d = some (xdE k q') := L2.upd_same
      have s2 : Same H1 (upd H1 d (xdE k q')) := Z.s_upd hd
      have fin : ∀ e H4, Same H1 H4 → H4 e = some (.tup [.str (enm k), .int (q' : Nat)]) → Q (.ref e) H4 := fun e H4 s h => qe k q' ek e H4 (s1.trans s) h
      generalize upd H1 d (xdE k q') = H2 at hx s2 ha'
      wtm_at "w"
      wtm_at "e"
      refine Z.r_erFP T.xf_InvalidCount T.no_InvalidCount_name hx Z.look_1 ?_
      wtm_at "e"
      refine Z.r_erFP T.xf_InvalidCount T.no_InvalidCount_place hx ((Z.look_s f_pn).trans Z.look_1) ?_
      wtm_at "e"
      refine ⟨by show 2 ≤ sizeLine; decide, fun e he => ?_⟩
      exact fin e _ (s2.trans (Z.s_upd he)) L2.upd_same
    · wtm_at "e"
      exact qv segs e p H1 s1 g
def sp_law (K : PySem.W.Frag) : Sp := fun vs H Q _ => ∃ (a : Addr) (ns : List Int), vs = [.ref a] ∧ SqL K H a (ns.map V.int) ∧ ns.length ≤ 63 ∧ ∀ H1, Q (.bl true) H1
set_option maxHeartbeats 2000000 in
theorem ok_law (T : Top K mg w) : FnOk P w K mg base CX0 8 T.a_law T.d_law pl_law (sp_law K) := by
  refine T.F_law.ok sc_law (fun vs H Q E h => ?_) (fun cdv A outer s H vs Q E hr h => ?_)
  · obtain ⟨a, ns, rfl, _⟩ := h
    rfl
  · obtain ⟨a, ns, rfl, hS, hn, q⟩ := h
    have hu := hu_of hr
    refine ⟨_, (pss_cons (ps_set (i := 1) sc_law.nd rfl (Or.inl rfl) (pe_op op_add pe_int (pe_op op_mod (pe_call (ok__law_cell T) (hr.mono (by decide)) (by rfl) T.g__law_cell T.F__law_cell.kp T.b__law_cell .nil pass0 (pa_cons (pv 0) (pa_cons pe_int pa_nil))) pe_int)))
      (pss_cons (ps_set (i := 2) sc_law.nd rfl (Or.inl rfl) (pe_call (ok__law_built T) (hr.mono (by decide)) (by rfl) T.g__law_built T.F__law_built.kp T.b__law_built .nil pass0 (pa_cons (pv 0) (pa_cons (pv 1) pa_nil))))
      (pss_cons (ps_set (i := 3) sc_law.nd rfl (Or.inl rfl) (pe_call (ok__law_cell T) (hr.mono (by decide)) (by rfl) T.g__law_cell T.F__law_cell.kp T.b__law_cell .nil pass0 (pa_cons (pv 0) (pa_cons pe_int pa_nil))))
      (C8.pss_cut (ps_if (pt_cmpR op_eq (pe_op op_mod (pv 3) pe_int) pe_int (nomark _)) (pss_one (ps_set (i := 2) sc_law.nd rfl (Or.inl rfl) (pe_slice (show SlR _ (rSlL K) from sl_list) (pv 2) po_none (po_some (pe_op op_mod (pe_op op_fdiv (pv 3) pe_int) (pe_op op_add (pe_callB (show CallR _ _ (Z.cLen K) from Z.call_len) (by rfl) T.n_len (by decide +kernel) (pa_cons (pv 2) pa_nil)) pe_int)))))) pss_nil)
      (C8.pss_cut (ps_if (pt_cmpR op_eq (pe_op op_mod (pv 3) pe_int) pe_int (nomark _)) (pss_one (ps_set (i := 2) sc_law.nd rfl (Or.inl rfl) (pe_op op_cat (pv 2) (pe_lc (own := [("k", 4)]) (tt := tYes) rfl sc_law.nd (pi_range1 rfl T.n_range (pa_cons (pe_op op_mod (pe_op op_fdiv (pv 3) pe_int) pe_int) pa_nil)) (blkOk_by (N := sl_law) (sc := defScope s_law) (by decide +kernel)) (fun _ _ _ _ _ => (pg_name (i := 4) sc_law.nd rfl (Or.inl rfl))) (fun _ _ _ _ _ => pts_nil) (fun _ _ _ _ _ => pe_int))))) pss_nil)
      (pss_cons (ps_set (i := 5) sc_law.nd rfl (Or.inl rfl) (pe_callB (call_min2 rfl) (by rfl) T.n_min (by decide +kernel) (pa_cons (pe_callB (show CallR _ _ (Z.cLen K) from Z.call_len) (by rfl) T.n_len (by decide +kernel) (pa_cons (pv 2) pa_nil)) (pa_cons (pe_ix (show IxR _ (rIxL K) from ix_list) (pe_lst (pa_cons pe_int (pa_cons pe_int (pa_cons pe_int (pa_cons pe_int (pa_cons pe_int (pa_cons pe_int pa_nil))))))) (pe_op op_mod (pe_op op_fdiv (pv 3) pe_int) pe_int) (fun _ _ => rfl)) pa_nil))))
      (pss_cons (ps_set (i := 2) sc_law.nd rfl (Or.inl rfl) (pe_op op_cat (pe_lc (own := [("k", 4)]) (tt := tYes) rfl sc_law.nd (pi_range1 rfl T.n_range (pa_cons (pv 5) pa_nil)) (blkOk_by (N := sl_law) (sc := defScope s_law) (by decide +kernel)) (fun _ _ _ _ _ => (pg_name (i := 4) sc_law.nd rfl (Or.inl rfl))) (fun _ _ _ _ _ => pts_nil) (fun _ _ _ _ _ => pe_int)) (pv 2)))
      (pss_cons (ps_set (i := 6) sc_law.nd rfl (Or.inl rfl) (pe_callTy (show CallR _ _ (Z.cList K) from Z.call_list) (by rfl) T.n_list (by decide +kernel) (pa_cons (pv 2) pa_nil)))
      (pss_cons (ps_set (i := 7) sc_law.nd rfl (Or.inl rfl) (pe_call (ok__law_told T) (hr.mono (by decide)) (by rfl) T.g__law_told T.F__law_told.kp T.b__law_told .nil pass0 (pa_cons (pv 6) (pa_cons (pv 1) (pa_cons (pv 5) pa_nil)))))
      (pss_one (ps_ret (pe_and (pe_cmpR (op_eqD (hr.units)) (pv 6) (pv 2) (nomark _)) (pe_one (pe_cmpR (op_eqD (hr.units)) (pv 7) (pe_call (ok__law_due T) (hr.mono (by decide)) (by rfl) T.g__law_due T.F__law_due.kp T.b__law_due .nil pass0 (pa_cons (pv 2) (pa_cons (pv 1) (pa_cons (pv 5) pa_nil)))) (nomark _))))))))))))))), ?_⟩
    show (_ : L2.TS) _ [some _, none, none, none, none, none, none, none] H
    try simp only [Z.kx]
    wtm_at "r"
    refine ⟨a, ns, 0, rfl, hS, by decide, fun z0 => ?_⟩
    wtm_at "r"
    obtain ⟨v, ev, v1, v40⟩ : ∃ v : Nat, 1 + z0 % 40 = (v : Int) ∧ 1 ≤ v ∧ v ≤ 40 := ⟨(1 + z0 % 40).toNat, by omega, by omega, by omega⟩
    rw [ev]
    refine ⟨a, ns, v, rfl, hS, hn, v1, v40, fun p0 bs0 H1 s1 h1 B1 l1 => ?_⟩
    wtm_at "r"
    refine ⟨a, ns, 1, rfl, Z.s_sq s1 hS, by decide, fun cell => ?_⟩
    wtm_at "r"
    refine Z.r_cut (fun σ H2 => ∃ (pb : Addr) (bs : List Nat), σ = [some (.ref a), some (.int v), some (.ref pb), some (.int cell), none, none, none, none] ∧ Same H H2 ∧ H2 pb = some (.lst (nv bs)) ∧ Bt bs ∧ bs.length ≤ 200) ?_ ?_
    · wtm_at "w"
      wtm_at "r"
      with_reducible refine Z.i_2 (fun h => ?_) (fun h => ?_)
      · wtm_at "r"
        rw [nv_len]
        refine Z.r_slL (Z.sq_l h1) (fun pc nc => ?_)
        obtain ⟨n, en⟩ : ∃ n : Nat, cell / 4 % (((bs0.length : Nat) : Int) + 1) = (n : Int) := ⟨(cell / 4 % (((bs0.length : Nat) : Int) + 1)).toNat, by have := Int.emod_nonneg (cell / 4) (show ((bs0.length : Nat) : Int) + 1 ≠ 0 by omega); omega⟩
        rw [en, cut_to_nv]
        exact ⟨pc, _, rfl, s1.trans (Z.s_upd nc), L2.upd_same, B1.take n, by rw [List.length_take]; omega⟩
      · wtm_at "r"
        exact ⟨p0, bs0, rfl, s1, h1, B1, l1⟩
    clear s1 h1 B1 l1
    rintro σ H2 ⟨pb, bs, rfl, s2, h2, B2, l2⟩
    refine Z.r_cut (fun σ H2 => ∃ (pb : Addr) (bs : List Nat), σ = [some (.ref a), some (.int v), some (.ref pb), some (.int cell), none, none, none, none] ∧ Same H H2 ∧ H2 pb = some (.lst (nv bs)) ∧ Bt bs ∧ bs.length ≤ 220) ?_ ?_
    · wtm_at "w"
      wtm_at "r"
      with_reducible refine Z.i_2 (fun h => ?_) (fun h => ?_)
      · wtm_at "r"
        obtain ⟨n, en, hn20⟩ : ∃ n : Nat, cell / 4 % 20 = (n : Int) ∧ n < 20 := ⟨(cell / 4 % 20).toNat, by omega, by omega⟩
        rw [en]
        refine Z.lcr_pure n (fun _ => V.int ((0 : Nat) : Int)) rfl ⟨by omega, by omega⟩ (by omega) (fun _ => rfl) ?_ ?_
        · intro i H5 hi s5 k kk
          wtm_at "w"
          wtm_at "r"
          exact kk _ (Same.refl _)
        · intro D H5 hD s5 hl5
          rw [nv_const] at hl5
          refine Z.r_cat (s5 _ _ h2) hl5 (by rw [nv_len, nv_len, List.length_replicate]; omega) (fun pc nc => ?_)
          rw [← nv_app]
          exact ⟨pc, _, rfl, s2.trans (s5.trans (Z.s_upd nc)), L2.upd_same, B2.app (Bt.rep (by decide)), by rw [List.length_append, List.length_replicate]; omega⟩
      · wtm_at "r"
        exact ⟨pb, bs, rfl, s2, h2, B2, by omega⟩
    clear s2 h2 B2 l2
    rintro σ H2 ⟨pb, bs, rfl, s2, h2, B2, l2⟩
    wtm_at "r"
    refine ⟨by show 6 ≤ sizeLine; decide, fun pl nl => ?_⟩
    have s3 : Same H2 (upd H2 pl (.lst [V.int 0, V.int 0, V.int 0, V.int 1, V.int 2, V.int 3])) := Z.s_upd nl
    have hl3 : (upd H2 pl (.lst [V.int 0, V.int 0, V.int 0, V.int 1, V.int 2, V.int 3])) pl = some (.lst ([0, 0, 0, 1, 2, 3].map V.int)) := L2.upd_same
    generalize upd H2 pl (.lst [V.int 0, V.int 0, V.int 0, V.int 1, V.int 2, V.int 3]) = H3 at s3 hl3
    wtm_at "r"
    obtain ⟨j, ej, hj⟩ : ∃ j : Nat, cell / 80 % 6 = (j : Int) ∧ j < 6 := ⟨(cell / 80 % 6).toNat, by omega, by omega⟩
    rw [ej]
    obtain ⟨t0, ht0, t00, t03⟩ : ∃ t0 : Int, ([0, 0, 0, 1, 2, 3] : List Int)[j]? = some t0 ∧ 0 ≤ t0 ∧ t0 ≤ 3 := by
      rcases (by omega : j = 0 ∨ j = 1 ∨ j = 2 ∨ j = 3 ∨ j = 4 ∨ j = 5) with e | e | e | e | e | e <;> subst e <;> exact ⟨_, rfl, by decide, by decide⟩
    refine Z.r_ixL (Z.sq_l hl3) (Z.at_map (j := j) rfl ht0) ?_
    wtm_at "r"
    rw [nv_len]
    refine ⟨_, _, rfl, ?_⟩
    obtain ⟨t, et, ht3, htl⟩ : ∃ t : Nat, (if t0 < ((bs.length : Nat) : Int) then t0 else ((bs.length : Nat) : Int)) = (t : Int) ∧ t ≤ 3 ∧ t ≤ bs.length := ⟨(if t0 < ((bs.length : Nat) : Int) then t0 else ((bs.length : Nat) : Int)).toNat, by split <;> omega, by split <;> omega, by split <;> omega⟩
    rw [et]
    wtm_at "r"
    refine Z.lcr_pure t (fun _ => V.int ((1 : Nat) : Int)) rfl ⟨by omega, by omega⟩ (by omega) (fun _ => rfl) ?_ ?_
    · intro i H5 hi s5 k kk
      wtm_at "w"
      wtm_at "r"
      exact kk _ (Same.refl _)
    intro D H5 hD s5 hl5
    rw [nv_const] at hl5
    wtm_at "r"
    refine Z.r_cat hl5 (s5 _ _ (s3 _ _ h2)) (by rw [nv_len, nv_len, List.length_replicate]; omega) (fun pc nc => ?_)
    rw [← nv_app]
    have B6 : Bt (List.replicate t 1 ++ bs) := (Bt.rep (by decide)).app B2
    have l6 : (List.replicate t 1 ++ bs).length = t + bs.length := by rw [List.length_append, List.length_replicate]
    generalize List.replicate t 1 ++ bs = cs at B6 l6
    have h6 : (upd H5 pc (.lst (nv cs))) pc = some (.lst (nv cs)) := L2.upd_same
    generalize upd H5 pc (.lst (nv cs)) = H6 at h6
    wtm_at "r"
    refine Z.r_list (Z.sq_l h6) (fun pg ng => ?_)
    have s7 : Same H6 (upd H6 pg (.lst (nv cs))) := Z.s_upd ng
    have h7 : (upd H6 pg (.lst (nv cs))) pg = some (.lst (nv cs)) := L2.upd_same
    generalize upd H6 pg (.lst (nv cs)) = H7 at s7 h7
    have h6' := s7 _ _ h6
    have eqL : ∀ H8 : Hp, Same H7 H8 → ∀ (Q' : VK), Q' (.bl true) H8 → rEqD K (.ref pg) (.ref pc) H8 Q' := fun H8 s8 Q' hq => Z.r_eqL (ns := cs.map (fun c : Nat => (c : Int))) (by rw [← nv_int]; exact Z.sq_l (s8 _ _ h7)) (by rw [← nv_int]; exact Z.sq_l (s8 _ _ h6')) hq
    wtm_at "r"
    refine ⟨pg, cs, t, v, rfl, h7, B6, by omega, by omega, v1, v40, fun k q' ek e H8 s8 he => ?_, fun segs ek p H8 s8 hp => ?_⟩
    · wtm_at "r"
      refine eqL H8 s8 _ ?_
      refine ⟨_, rfl, ?_⟩
      wtm_at "r"
      refine ⟨pc, cs, t, v, rfl, s8 _ _ h6', B6, by omega, by omega, v1, v40, fun k2 q2 ek2 e2 H9 s9 he2 => ?_, fun segs ek2 => ?_⟩
      · rw [ek] at ek2
        cases ek2
        exact r_eqEr (s9 _ _ he) he2 (q _)
      · rw [ek] at ek2; cases ek2
    · wtm_at "r"
      refine eqL H8 s8 _ ?_
      refine ⟨_, rfl, ?_⟩
      wtm_at "r"
      refine ⟨pc, cs, t, v, rfl, s8 _ _ h6', B6, by omega, by omega, v1, v40, fun k2 q2 ek2 => ?_, fun segs2 ek2 p2 H9 s9 hp2 => ?_⟩
      · rw [ek] at ek2; cases ek2
      · rw [ek] at ek2
        cases ek2
        exact r_eqSegs (hp.same s9) hp2 (q _)
end
theorem all_mk {l : PySem.W.OpenLaw} {w : World} {K : PySem.W.Frag} {h : Heap} {mg : Str → Option Value} {fa : Addr} (X : K.In h) (G : h.Ns mainGlobals mg) (hfa : mg "law" = some (.ref fa))
    {f0 : Addr} {od0 an0 : Option Addr} {sl0 : Array (Option Value)} {oc0 kV0 dc0 pm0 cd0 ct0 : Value}
    {f1 : Addr} {od1 an1 : Option Addr} {sl1 : Array (Option Value)} {oc1 kV1 dc1 pm1 cd1 ct1 : Value}
    {DT1 : Addr} {doc1 : Value} {dod1 : Option Addr} {dit1 : Array Value} {dn1 : Nat} {dsl1 : Array (Option Value)}
    {f2 : Addr} {od2 an2 : Option Addr} {sl2 : Array (Option Value)} {oc2 kV2 dc2 pm2 cd2 ct2 : Value}
    {f3 : Addr} {od3 an3 : Option Addr} {sl3 : Array (Option Value)} {oc3 kV3 dc3 pm3 cd3 ct3 : Value}
    {f4 : Addr} {od4 an4 : Option Addr} {sl4 : Array (Option Value)} {oc4 kV4 dc4 pm4 cd4 ct4 : Value}
    {f5 : Addr} {od5 an5 : Option Addr} {sl5 : Array (Option Value)} {oc5 kV5 dc5 pm5 cd5 ct5 : Value}
    {f6 : Addr} {od6 an6 : Option Addr} {sl6 : Array (Option Value)} {oc6 kV6 dc6 pm6 cd6 ct6 : Value}
    {f7 : Addr} {od7 an7 : Option Addr} {sl7 : Array (Option Value)} {oc7 kV7 dc7 pm7 cd7 ct7 : Value}
    {f8 : Addr} {od8 an8 : Option Addr} {sl8 : Array (Option Value)} {oc8 kV8 dc8 pm8 cd8 ct8 : Value}
    {f9 : Addr} {od9 an9 : Option Addr} {sl9 : Array (Option Value)} {oc9 kV9 dc9 pm9 cd9 ct9 : Value}
    {f10 : Addr} {od10 an10 : Option Addr} {sl10 : Array (Option Value)} {oc10 kV10 dc10 pm10 cd10 ct10 : Value}
    {f11 : Addr} {od11 an11 : Option Addr} {sl11 : Array (Option Value)} {oc11 kV11 dc11 pm11 cd11 ct11 : Value}
    {DT11 : Addr} {doc11 : Value} {dod11 : Option Addr} {dit11 : Array Value} {dn11 : Nat} {dsl11 : Array (Option Value)}
    {f12 : Addr} {od12 an12 : Option Addr} {sl12 : Array (Option Value)} {oc12 kV12 dc12 pm12 cd12 ct12 : Value}
    {f13 : Addr} {od13 an13 : Option Addr} {sl13 : Array (Option Value)} {oc13 kV13 dc13 pm13 cd13 ct13 : Value}
    {f14 : Addr} {od14 an14 : Option Addr} {sl14 : Array (Option Value)} {oc14 kV14 dc14 pm14 cd14 ct14 : Value}
    {f15 : Addr} {od15 an15 : Option Addr} {sl15 : Array (Option Value)} {oc15 kV15 dc15 pm15 cd15 ct15 : Value}
    {f16 : Addr} {od16 an16 : Option Addr} {sl16 : Array (Option Value)} {oc16 kV16 dc16 pm16 cd16 ct16 : Value}
    {f17 : Addr} {od17 an17 : Option Addr} {sl17 : Array (Option Value)} {oc17 kV17 dc17 pm17 cd17 ct17 : Value}
    {f18 : Addr} {od18 an18 : Option Addr} {sl18 : Array (Option Value)} {oc18 kV18 dc18 pm18 cd18 ct18 : Value}
    {f19 : Addr} {od19 an19 : Option Addr} {sl19 : Array (Option Value)} {oc19 kV19 dc19 pm19 cd19 ct19 : Value}
    {f20 : Addr} {od20 an20 : Option Addr} {sl20 : Array (Option Value)} {oc20 kV20 dc20 pm20 cd20 ct20 : Value}
    {f21 : Addr} {od21 an21 : Option Addr} {sl21 : Array (Option Value)} {oc21 kV21 dc21 pm21 cd21 ct21 : Value}
    {f22 : Addr} {od22 an22 : Option Addr} {sl22 : Array (Option Value)} {oc22 kV22 dc22 pm22 cd22 ct22 : Value}
    {f23 : Addr} {od23 an23 : Option Addr} {sl23 : Array (Option Value)} {oc23 kV23 dc23 pm23 cd23 ct23 : Value}
    {C_BitReader : Addr}
    {C_DotfieldError : Addr}
    {C_Truncated : Addr}
    {C_InvalidMode : Addr}
    {C_InvalidCount : Addr}
    {nm_Truncated q_Truncated : Str} {N_Truncated : Addr} {bs_Truncated bm_Truncated : List Value} {sn_Truncated : List Str} {sub_Truncated : List Value} {ab_Truncated : Bool} {col_Truncated : Option Bool} {dd_Truncated : Option Addr} {e0_Truncated e1_Truncated e3_Truncated e5_Truncated : Option Value} {et_Truncated : Tok}
    {nm_InvalidMode q_InvalidMode : Str} {N_InvalidMode : Addr} {bs_InvalidMode bm_InvalidMode : List Value} {sn_InvalidMode : List Str} {sub_InvalidMode : List Value} {ab_InvalidMode : Bool} {col_InvalidMode : Option Bool} {dd_InvalidMode : Option Addr} {e0_InvalidMode e1_InvalidMode e3_InvalidMode e5_InvalidMode : Option Value} {et_InvalidMode : Tok}
    {nm_InvalidCount q_InvalidCount : Str} {N_InvalidCount : Addr} {bs_InvalidCount bm_InvalidCount : List Value} {sn_InvalidCount : List Str} {sub_InvalidCount : List Value} {ab_InvalidCount : Bool} {col_InvalidCount : Option Bool} {dd_InvalidCount : Option Addr} {e0_InvalidCount e1_InvalidCount e3_InvalidCount e5_InvalidCount : Option Value} {et_InvalidCount : Tok}
    {A_MODES : Addr}
    {A_MODE_NUMBERS : Addr} {es_MODE_NUMBERS : Array DictEntry} {en_MODE_NUMBERS : Nat}
    {u_MODE_NUMBERS_0 : Value}
    {u_MODE_NUMBERS_1 : Value}
    {u_MODE_NUMBERS_2 : Value}
    {A_GROUP_BITS : Addr} {es_GROUP_BITS : Array DictEntry} {en_GROUP_BITS : Nat}
    {u_GROUP_BITS_0 : Value}
    {u_GROUP_BITS_1 : Value}
    {u_GROUP_BITS_2 : Value}
    {A_BASES : Addr} {es_BASES : Array DictEntry} {en_BASES : Nat}
    {u_BASES_0 : Value}
    {u_BASES_1 : Value}
    {u_BASES_2 : Value}
    {A_ALPHANUMERIC : Addr}
    {A_COUNT_BITS : Addr} {es_COUNT_BITS : Array DictEntry} {en_COUNT_BITS : Nat}
    {u_COUNT_BITS_0 : Value}
    {u_COUNT_BITS_1 : Value}
    {u_COUNT_BITS_2 : Value}
    (aC_BitReader : PySem.W.nsIn K mainGlobals "BitReader" = some (some (.ref C_BitReader)))
    (aC_DotfieldError : PySem.W.nsIn K mainGlobals "DotfieldError" = some (some (.ref C_DotfieldError)))
    (aC_Truncated : PySem.W.nsIn K mainGlobals "Truncated" = some (some (.ref C_Truncated)))
    (aC_InvalidMode : PySem.W.nsIn K mainGlobals "InvalidMode" = some (some (.ref C_InvalidMode)))
    (aC_InvalidCount : PySem.W.nsIn K mainGlobals "InvalidCount" = some (some (.ref C_InvalidCount)))
    (a0 : PySem.W.findIn K (.ref C_DotfieldError) "__init__" = some (some (.ref f0)))
    (i0 : PySem.W.isFn K (.ref f0) = true)
    (l0 : K.lookup f0 = some ⟨oc0, od0, .func (PySem.W.fnOf "__init__" "DotfieldError.__init__" (defArgs s_DotfieldError___init__) (defBody s_DotfieldError___init__) (defScope s_DotfieldError___init__) .none kV0 dc0 pm0 an0 cd0 ct0), sl0⟩)
    (c0 : PySem.W.codeIn K cd0 "DotfieldError.__init__" = true) (k0 : PySem.W.keepIn K (.ref f0) = true)
    (a1 : PySem.W.findIn K (.ref C_BitReader) "__init__" = some (some (.ref f1)))
    (i1 : PySem.W.isFn K (.ref f1) = true)
    (l1 : K.lookup f1 = some ⟨oc1, od1, .func (PySem.W.fnOf "__init__" "BitReader.__init__" (defArgs s_BitReader___init__) (defBody s_BitReader___init__) (defScope s_BitReader___init__) (.ref DT1) kV1 dc1 pm1 an1 cd1 ct1), sl1⟩)
    (dl1 : K.lookup DT1 = some ⟨doc1, dod1, .seq dit1 dn1, dsl1⟩) (dv1 : Z.valsOk dit1 [(.int 0)] = true)
    (c1 : PySem.W.codeIn K cd1 "BitReader.__init__" = true) (k1 : PySem.W.keepIn K (.ref f1) = true)
    (a2 : PySem.W.findIn K (.ref C_BitReader) "left" = some (some (.ref f2)))
    (i2 : PySem.W.isFn K (.ref f2) = true)
    (l2 : K.lookup f2 = some ⟨oc2, od2, .func (PySem.W.fnOf "left" "BitReader.left" (defArgs s_BitReader_left) (defBody s_BitReader_left) (defScope s_BitReader_left) .none kV2 dc2 pm2 an2 cd2 ct2), sl2⟩)
    (c2 : PySem.W.codeIn K cd2 "BitReader.left" = true) (k2 : PySem.W.keepIn K (.ref f2) = true)
    (a3 : PySem.W.findIn K (.ref C_BitReader) "at" = some (some (.ref f3)))
    (i3 : PySem.W.isFn K (.ref f3) = true)
    (l3 : K.lookup f3 = some ⟨oc3, od3, .func (PySem.W.fnOf "at" "BitReader.at" (defArgs s_BitReader_at) (defBody s_BitReader_at) (defScope s_BitReader_at) .none kV3 dc3 pm3 an3 cd3 ct3), sl3⟩)
    (c3 : PySem.W.codeIn K cd3 "BitReader.at" = true) (k3 : PySem.W.keepIn K (.ref f3) = true)
    (a4 : PySem.W.nsIn K mainGlobals "value_of" = some (some (.ref f4)))
    (l4 : K.lookup f4 = some ⟨oc4, od4, .func (PySem.W.fnOf "value_of" "value_of" (defArgs s_value_of) (defBody s_value_of) (defScope s_value_of) .none kV4 dc4 pm4 an4 cd4 ct4), sl4⟩)
    (c4 : PySem.W.codeIn K cd4 "value_of" = true) (k4 : PySem.W.keepIn K (.ref f4) = true)
    (a5 : PySem.W.findIn K (.ref C_BitReader) "read" = some (some (.ref f5)))
    (i5 : PySem.W.isFn K (.ref f5) = true)
    (l5 : K.lookup f5 = some ⟨oc5, od5, .func (PySem.W.fnOf "read" "BitReader.read" (defArgs s_BitReader_read) (defBody s_BitReader_read) (defScope s_BitReader_read) .none kV5 dc5 pm5 an5 cd5 ct5), sl5⟩)
    (c5 : PySem.W.codeIn K cd5 "BitReader.read" = true) (k5 : PySem.W.keepIn K (.ref f5) = true)
    (a6 : PySem.W.nsIn K mainGlobals "count_bits" = some (some (.ref f6)))
    (l6 : K.lookup f6 = some ⟨oc6, od6, .func (PySem.W.fnOf "count_bits" "count_bits" (defArgs s_count_bits) (defBody s_count_bits) (defScope s_count_bits) .none kV6 dc6 pm6 an6 cd6 ct6), sl6⟩)
    (c6 : PySem.W.codeIn K cd6 "count_bits" = true) (k6 : PySem.W.keepIn K (.ref f6) = true)
    (a7 : PySem.W.nsIn K mainGlobals "group_size" = some (some (.ref f7)))
    (l7 : K.lookup f7 = some ⟨oc7, od7, .func (PySem.W.fnOf "group_size" "group_size" (defArgs s_group_size) (defBody s_group_size) (defScope s_group_size) .none kV7 dc7 pm7 an7 cd7 ct7), sl7⟩)
    (c7 : PySem.W.codeIn K cd7 "group_size" = true) (k7 : PySem.W.keepIn K (.ref f7) = true)
    (a8 : PySem.W.nsIn K mainGlobals "mode_of" = some (some (.ref f8)))
    (l8 : K.lookup f8 = some ⟨oc8, od8, .func (PySem.W.fnOf "mode_of" "mode_of" (defArgs s_mode_of) (defBody s_mode_of) (defScope s_mode_of) .none kV8 dc8 pm8 an8 cd8 ct8), sl8⟩)
    (c8 : PySem.W.codeIn K cd8 "mode_of" = true) (k8 : PySem.W.keepIn K (.ref f8) = true)
    (a9 : PySem.W.nsIn K mainGlobals "read_group" = some (some (.ref f9)))
    (l9 : K.lookup f9 = some ⟨oc9, od9, .func (PySem.W.fnOf "read_group" "read_group" (defArgs s_read_group) (defBody s_read_group) (defScope s_read_group) .none kV9 dc9 pm9 an9 cd9 ct9), sl9⟩)
    (c9 : PySem.W.codeIn K cd9 "read_group" = true) (k9 : PySem.W.keepIn K (.ref f9) = true)
    (a10 : PySem.W.nsIn K mainGlobals "read_content" = some (some (.ref f10)))
    (l10 : K.lookup f10 = some ⟨oc10, od10, .func (PySem.W.fnOf "read_content" "read_content" (defArgs s_read_content) (defBody s_read_content) (defScope s_read_content) .none kV10 dc10 pm10 an10 cd10 ct10), sl10⟩)
    (c10 : PySem.W.codeIn K cd10 "read_content" = true) (k10 : PySem.W.keepIn K (.ref f10) = true)
    (a11 : PySem.W.nsIn K mainGlobals "read_segments" = some (some (.ref f11)))
    (l11 : K.lookup f11 = some ⟨oc11, od11, .func (PySem.W.fnOf "read_segments" "read_segments" (defArgs s_read_segments) (defBody s_read_segments) (defScope s_read_segments) (.ref DT11) kV11 dc11 pm11 an11 cd11 ct11), sl11⟩)
    (dl11 : K.lookup DT11 = some ⟨doc11, dod11, .seq dit11 dn11, dsl11⟩) (dv11 : Z.valsOk dit11 [(.int 0)] = true)
    (c11 : PySem.W.codeIn K cd11 "read_segments" = true) (k11 : PySem.W.keepIn K (.ref f11) = true)
    (a12 : PySem.W.nsIn K mainGlobals "_law_cell" = some (some (.ref f12)))
    (l12 : K.lookup f12 = some ⟨oc12, od12, .func (PySem.W.fnOf "_law_cell" "_law_cell" (defArgs s__law_cell) (defBody s__law_cell) (defScope s__law_cell) .none kV12 dc12 pm12 an12 cd12 ct12), sl12⟩)
    (c12 : PySem.W.codeIn K cd12 "_law_cell" = true) (k12 : PySem.W.keepIn K (.ref f12) = true)
    (a13 : PySem.W.nsIn K mainGlobals "_law_bits" = some (some (.ref f13)))
    (l13 : K.lookup f13 = some ⟨oc13, od13, .func (PySem.W.fnOf "_law_bits" "_law_bits" (defArgs s__law_bits) (defBody s__law_bits) (defScope s__law_bits) .none kV13 dc13 pm13 an13 cd13 ct13), sl13⟩)
    (c13 : PySem.W.codeIn K cd13 "_law_bits" = true) (k13 : PySem.W.keepIn K (.ref f13) = true)
    (a14 : PySem.W.nsIn K mainGlobals "_law_group" = some (some (.ref f14)))
    (l14 : K.lookup f14 = some ⟨oc14, od14, .func (PySem.W.fnOf "_law_group" "_law_group" (defArgs s__law_group) (defBody s__law_group) (defScope s__law_group) .none kV14 dc14 pm14 an14 cd14 ct14), sl14⟩)
    (c14 : PySem.W.codeIn K cd14 "_law_group" = true) (k14 : PySem.W.keepIn K (.ref f14) = true)
    (a15 : PySem.W.nsIn K mainGlobals "_law_head" = some (some (.ref f15)))
    (l15 : K.lookup f15 = some ⟨oc15, od15, .func (PySem.W.fnOf "_law_head" "_law_head" (defArgs s__law_head) (defBody s__law_head) (defScope s__law_head) .none kV15 dc15 pm15 an15 cd15 ct15), sl15⟩)
    (c15 : PySem.W.codeIn K cd15 "_law_head" = true) (k15 : PySem.W.keepIn K (.ref f15) = true)
    (a16 : PySem.W.nsIn K mainGlobals "_law_number" = some (some (.ref f16)))
    (l16 : K.lookup f16 = some ⟨oc16, od16, .func (PySem.W.fnOf "_law_number" "_law_number" (defArgs s__law_number) (defBody s__law_number) (defScope s__law_number) .none kV16 dc16 pm16 an16 cd16 ct16), sl16⟩)
    (c16 : PySem.W.codeIn K cd16 "_law_number" = true) (k16 : PySem.W.keepIn K (.ref f16) = true)
    (a17 : PySem.W.nsIn K mainGlobals "_law_sign" = some (some (.ref f17)))
    (l17 : K.lookup f17 = some ⟨oc17, od17, .func (PySem.W.fnOf "_law_sign" "_law_sign" (defArgs s__law_sign) (defBody s__law_sign) (defScope s__law_sign) .none kV17 dc17 pm17 an17 cd17 ct17), sl17⟩)
    (c17 : PySem.W.codeIn K cd17 "_law_sign" = true) (k17 : PySem.W.keepIn K (.ref f17) = true)
    (a18 : PySem.W.nsIn K mainGlobals "_law_widths" = some (some (.ref f18)))
    (l18 : K.lookup f18 = some ⟨oc18, od18, .func (PySem.W.fnOf "_law_widths" "_law_widths" (defArgs s__law_widths) (defBody s__law_widths) (defScope s__law_widths) .none kV18 dc18 pm18 an18 cd18 ct18), sl18⟩)
    (c18 : PySem.W.codeIn K cd18 "_law_widths" = true) (k18 : PySem.W.keepIn K (.ref f18) = true)
    (a19 : PySem.W.nsIn K mainGlobals "_law_content" = some (some (.ref f19)))
    (l19 : K.lookup f19 = some ⟨oc19, od19, .func (PySem.W.fnOf "_law_content" "_law_content" (defArgs s__law_content) (defBody s__law_content) (defScope s__law_content) .none kV19 dc19 pm19 an19 cd19 ct19), sl19⟩)
    (c19 : PySem.W.codeIn K cd19 "_law_content" = true) (k19 : PySem.W.keepIn K (.ref f19) = true)
    (a20 : PySem.W.nsIn K mainGlobals "_law_due" = some (some (.ref f20)))
    (l20 : K.lookup f20 = some ⟨oc20, od20, .func (PySem.W.fnOf "_law_due" "_law_due" (defArgs s__law_due) (defBody s__law_due) (defScope s__law_due) .none kV20 dc20 pm20 an20 cd20 ct20), sl20⟩)
    (c20 : PySem.W.codeIn K cd20 "_law_due" = true) (k20 : PySem.W.keepIn K (.ref f20) = true)
    (a21 : PySem.W.nsIn K mainGlobals "_law_built" = some (some (.ref f21)))
    (l21 : K.lookup f21 = some ⟨oc21, od21, .func (PySem.W.fnOf "_law_built" "_law_built" (defArgs s__law_built) (defBody s__law_built) (defScope s__law_built) .none kV21 dc21 pm21 an21 cd21 ct21), sl21⟩)
    (c21 : PySem.W.codeIn K cd21 "_law_built" = true) (k21 : PySem.W.keepIn K (.ref f21) = true)
    (a22 : PySem.W.nsIn K mainGlobals "_law_told" = some (some (.ref f22)))
    (l22 : K.lookup f22 = some ⟨oc22, od22, .func (PySem.W.fnOf "_law_told" "_law_told" (defArgs s__law_told) (defBody s__law_told) (defScope s__law_told) .none kV22 dc22 pm22 an22 cd22 ct22), sl22⟩)
    (c22 : PySem.W.codeIn K cd22 "_law_told" = true) (k22 : PySem.W.keepIn K (.ref f22) = true)
    (a23 : PySem.W.nsIn K mainGlobals "law" = some (some (.ref f23)))
    (l23 : K.lookup f23 = some ⟨oc23, od23, .func (PySem.W.fnOf "law" "law" (defArgs s_law) (defBody s_law) (defScope s_law) .none kV23 dc23 pm23 an23 cd23 ct23), sl23⟩)
    (c23 : PySem.W.codeIn K cd23 "law" = true) (k23 : PySem.W.keepIn K (.ref f23) = true)
    (pg_BitReader : PySem.W.plainGet K C_BitReader Str.empty = true) (hd_BitReader : PySem.W.hasDictIn K C_BitReader = true) (po_BitReader : PySem.W.plainOver K C_BitReader = true) (sa_BitReader : PySem.W.findIn K (.ref C_BitReader) "__setattr__" = some (some (.builtin "object.__setattr__"))) (mk_BitReader : PySem.W.makesIn K C_BitReader = true) (kc_BitReader : PySem.W.keepIn K (.ref C_BitReader) = true)
    (no_BitReader__bits : PySem.W.findIn K (.ref C_BitReader) "_bits" = some none)
    (no_BitReader__position : PySem.W.findIn K (.ref C_BitReader) "_position" = some none)
    (lk_Truncated : K.lookup C_Truncated = some (excClassObj nm_Truncated q_Truncated C_Truncated N_Truncated bs_Truncated bm_Truncated true sn_Truncated sub_Truncated ab_Truncated col_Truncated dd_Truncated e0_Truncated e1_Truncated (some (.str "Truncated" et_Truncated)) e3_Truncated e5_Truncated "ValueError.__new__"))
    (rv_Truncated : PySem.HandSPX.refsVE bm_Truncated = true)
    (sa_Truncated : PySem.W.findIn K (.ref C_Truncated) "__setattr__" = some (some (.builtin "object.__setattr__")))
    (ga_Truncated : PySem.W.findIn K (.ref C_Truncated) "__getattribute__" = some (some (.builtin "BaseException.__getattribute__")))
    (gg_Truncated : PySem.W.findIn K (.ref C_Truncated) "__getattr__" = some none)
    (cl_Truncated : PySem.W.findIn K (.ref C_Truncated) "__class__" = some (some (.builtin "object.__class__")))
    (sb_Truncated : PySem.W.subIn K (.ref C_Truncated) (.type "BaseException") = some true) (ty_Truncated : PySem.W.typeIn K (.ref C_Truncated) = some (.type "type")) (kc_Truncated : PySem.W.keepIn K (.ref C_Truncated) = true) (hd_Truncated : PySem.W.hasDictIn K C_Truncated = true) (ob_Truncated : PySem.W.mroIn K C_Truncated (.type "object") = some true) (rd_Truncated : PySem.W.readsIn K C_Truncated (.type "type") = true)
    (fd_Truncated : PySem.W.findCls K (.ref C_Truncated) (.type "type") "__name__" = some (.get (.builtin "getset_descriptor.__get__") (.builtin "type.__name__") (.ref C_Truncated) (.type "type")))
    (ic_Truncated : PySem.W.findIn K (.ref C_Truncated) "__init__" = some (some (.ref f0)))
    (no_Truncated_place : PySem.W.findIn K (.ref C_Truncated) "place" = some none)
    (no_Truncated_name : PySem.W.findIn K (.ref C_Truncated) "name" = some none)
    (xs_Truncated_Truncated : PySem.W.subIn K (.ref C_Truncated) (.type "BaseException") = some true) (xh_Truncated_Truncated : PySem.W.hasDictIn K C_Truncated = true) (xt_Truncated_Truncated : PySem.W.typeIn K (.ref C_Truncated) = some (.type "type")) (xu_Truncated_Truncated : PySem.W.subIn K (.ref C_Truncated) (.ref C_Truncated) = some true)
    (lk_InvalidMode : K.lookup C_InvalidMode = some (excClassObj nm_InvalidMode q_InvalidMode C_InvalidMode N_InvalidMode bs_InvalidMode bm_InvalidMode true sn_InvalidMode sub_InvalidMode ab_InvalidMode col_InvalidMode dd_InvalidMode e0_InvalidMode e1_InvalidMode (some (.str "InvalidMode" et_InvalidMode)) e3_InvalidMode e5_InvalidMode "ValueError.__new__"))
    (rv_InvalidMode : PySem.HandSPX.refsVE bm_InvalidMode = true)
    (sa_InvalidMode : PySem.W.findIn K (.ref C_InvalidMode) "__setattr__" = some (some (.builtin "object.__setattr__")))
    (ga_InvalidMode : PySem.W.findIn K (.ref C_InvalidMode) "__getattribute__" = some (some (.builtin "BaseException.__getattribute__")))
    (gg_InvalidMode : PySem.W.findIn K (.ref C_InvalidMode) "__getattr__" = some none)
    (cl_InvalidMode : PySem.W.findIn K (.ref C_InvalidMode) "__class__" = some (some (.builtin "object.__class__")))
    (sb_InvalidMode : PySem.W.subIn K (.ref C_InvalidMode) (.type "BaseException") = some true) (ty_InvalidMode : PySem.W.typeIn K (.ref C_InvalidMode) = some (.type "type")) (kc_InvalidMode : PySem.W.keepIn K (.ref C_InvalidMode) = true) (hd_InvalidMode : PySem.W.hasDictIn K C_InvalidMode = true) (ob_InvalidMode : PySem.W.mroIn K C_InvalidMode (.type "object") = some true) (rd_InvalidMode : PySem.W.readsIn K C_InvalidMode (.type "type") = true)
    (fd_InvalidMode : PySem.W.findCls K (.ref C_InvalidMode) (.type "type") "__name__" = some (.get (.builtin "getset_descriptor.__get__") (.builtin "type.__name__") (.ref C_InvalidMode) (.type "type")))
    (ic_InvalidMode : PySem.W.findIn K (.ref C_InvalidMode) "__init__" = some (some (.ref f0)))
    (no_InvalidMode_place : PySem.W.findIn K (.ref C_InvalidMode) "place" = some none)
    (no_InvalidMode_name : PySem.W.findIn K (.ref C_InvalidMode) "name" = some none)
    (xs_InvalidMode_Truncated : PySem.W.subIn K (.ref C_Truncated) (.type "BaseException") = some true) (xh_InvalidMode_Truncated : PySem.W.hasDictIn K C_Truncated = true) (xt_InvalidMode_Truncated : PySem.W.typeIn K (.ref C_Truncated) = some (.type "type")) (xu_InvalidMode_Truncated : PySem.W.subIn K (.ref C_InvalidMode) (.ref C_Truncated) = some false)
    (xs_InvalidMode_InvalidMode : PySem.W.subIn K (.ref C_InvalidMode) (.type "BaseException") = some true) (xh_InvalidMode_InvalidMode : PySem.W.hasDictIn K C_InvalidMode = true) (xt_InvalidMode_InvalidMode : PySem.W.typeIn K (.ref C_InvalidMode) = some (.type "type")) (xu_InvalidMode_InvalidMode : PySem.W.subIn K (.ref C_InvalidMode) (.ref C_InvalidMode) = some true)
    (lk_InvalidCount : K.lookup C_InvalidCount = some (excClassObj nm_InvalidCount q_InvalidCount C_InvalidCount N_InvalidCount bs_InvalidCount bm_InvalidCount true sn_InvalidCount sub_InvalidCount ab_InvalidCount col_InvalidCount dd_InvalidCount e0_InvalidCount e1_InvalidCount (some (.str "InvalidCount" et_InvalidCount)) e3_InvalidCount e5_InvalidCount "ValueError.__new__"))
    (rv_InvalidCount : PySem.HandSPX.refsVE bm_InvalidCount = true)
    (sa_InvalidCount : PySem.W.findIn K (.ref C_InvalidCount) "__setattr__" = some (some (.builtin "object.__setattr__")))
    (ga_InvalidCount : PySem.W.findIn K (.ref C_InvalidCount) "__getattribute__" = some (some (.builtin "BaseException.__getattribute__")))
    (gg_InvalidCount : PySem.W.findIn K (.ref C_InvalidCount) "__getattr__" = some none)
    (cl_InvalidCount : PySem.W.findIn K (.ref C_InvalidCount) "__class__" = some (some (.builtin "object.__class__")))
    (sb_InvalidCount : PySem.W.subIn K (.ref C_InvalidCount) (.type "BaseException") = some true) (ty_InvalidCount : PySem.W.typeIn K (.ref C_InvalidCount) = some (.type "type")) (kc_InvalidCount : PySem.W.keepIn K (.ref C_InvalidCount) = true) (hd_InvalidCount : PySem.W.hasDictIn K C_InvalidCount = true) (ob_InvalidCount : PySem.W.mroIn K C_InvalidCount (.type "object") = some true) (rd_InvalidCount : PySem.W.readsIn K C_InvalidCount (.type "type") = true)
    (fd_InvalidCount : PySem.W.findCls K (.ref C_InvalidCount) (.type "type") "__name__" = some (.get (.builtin "getset_descriptor.__get__") (.builtin "type.__name__") (.ref C_InvalidCount) (.type "type")))
    (ic_InvalidCount : PySem.W.findIn K (.ref C_InvalidCount) "__init__" = some (some (.ref f0)))
    (no_InvalidCount_place : PySem.W.findIn K (.ref C_InvalidCount) "place" = some none)
    (no_InvalidCount_name : PySem.W.findIn K (.ref C_InvalidCount) "name" = some none)
    (xs_InvalidCount_Truncated : PySem.W.subIn K (.ref C_Truncated) (.type "BaseException") = some true) (xh_InvalidCount_Truncated : PySem.W.hasDictIn K C_Truncated = true) (xt_InvalidCount_Truncated : PySem.W.typeIn K (.ref C_Truncated) = some (.type "type")) (xu_InvalidCount_Truncated : PySem.W.subIn K (.ref C_InvalidCount) (.ref C_Truncated) = some false)
    (xs_InvalidCount_InvalidMode : PySem.W.subIn K (.ref C_InvalidMode) (.type "BaseException") = some true) (xh_InvalidCount_InvalidMode : PySem.W.hasDictIn K C_InvalidMode = true) (xt_InvalidCount_InvalidMode : PySem.W.typeIn K (.ref C_InvalidMode) = some (.type "type")) (xu_InvalidCount_InvalidMode : PySem.W.subIn K (.ref C_InvalidCount) (.ref C_InvalidMode) = some false)
    (xs_InvalidCount_InvalidCount : PySem.W.subIn K (.ref C_InvalidCount) (.type "BaseException") = some true) (xh_InvalidCount_InvalidCount : PySem.W.hasDictIn K C_InvalidCount = true) (xt_InvalidCount_InvalidCount : PySem.W.typeIn K (.ref C_InvalidCount) = some (.type "type")) (xu_InvalidCount_InvalidCount : PySem.W.subIn K (.ref C_InvalidCount) (.ref C_InvalidCount) = some true)
    (gt_ : PySem.W.specialIn K (.builtin "object.__class__") "__get__" = some (some (.builtin "getset_descriptor.__get__"))) (tk_ : PySem.W.takesIn K (.builtin "object.__class__") = some true)
    (it_DotfieldError___init__ : PySem.W.typeIn K (.ref f0) = some (.type "function"))
    (m_MODES : PySem.W.nsIn K mainGlobals "MODES" = some (some (.ref A_MODES))) (tr_MODES : Z.okT K (.ref A_MODES) (.t (modes.map .s)) = true)
    (m_MODE_NUMBERS : PySem.W.nsIn K mainGlobals "MODE_NUMBERS" = some (some (.ref A_MODE_NUMBERS))) (ld_MODE_NUMBERS : K.lookup A_MODE_NUMBERS = some ⟨.type "dict", none, .dict es_MODE_NUMBERS en_MODE_NUMBERS, #[]⟩) (kl_MODE_NUMBERS : PySem.W.KeysLit w.params es_MODE_NUMBERS.toList)
    (k_MODE_NUMBERS_0 : PySem.W.nsIn K A_MODE_NUMBERS "numeric" = some (some u_MODE_NUMBERS_0)) (tr_MODE_NUMBERS_0 : Z.okT K u_MODE_NUMBERS_0 (.i ((2 ^ 0 : Nat) : Int)) = true)
    (k_MODE_NUMBERS_1 : PySem.W.nsIn K A_MODE_NUMBERS "alphanumeric" = some (some u_MODE_NUMBERS_1)) (tr_MODE_NUMBERS_1 : Z.okT K u_MODE_NUMBERS_1 (.i ((2 ^ 1 : Nat) : Int)) = true)
    (k_MODE_NUMBERS_2 : PySem.W.nsIn K A_MODE_NUMBERS "byte" = some (some u_MODE_NUMBERS_2)) (tr_MODE_NUMBERS_2 : Z.okT K u_MODE_NUMBERS_2 (.i ((2 ^ 2 : Nat) : Int)) = true)
    (m_GROUP_BITS : PySem.W.nsIn K mainGlobals "GROUP_BITS" = some (some (.ref A_GROUP_BITS))) (ld_GROUP_BITS : K.lookup A_GROUP_BITS = some ⟨.type "dict", none, .dict es_GROUP_BITS en_GROUP_BITS, #[]⟩) (kl_GROUP_BITS : PySem.W.KeysLit w.params es_GROUP_BITS.toList)
    (k_GROUP_BITS_0 : PySem.W.nsIn K A_GROUP_BITS "numeric" = some (some u_GROUP_BITS_0)) (tr_GROUP_BITS_0 : Z.okT K u_GROUP_BITS_0 (.t ((wdT.getD 0 []).map fun n : Nat => .i (n : Nat))) = true)
    (k_GROUP_BITS_1 : PySem.W.nsIn K A_GROUP_BITS "alphanumeric" = some (some u_GROUP_BITS_1)) (tr_GROUP_BITS_1 : Z.okT K u_GROUP_BITS_1 (.t ((wdT.getD 1 []).map fun n : Nat => .i (n : Nat))) = true)
    (k_GROUP_BITS_2 : PySem.W.nsIn K A_GROUP_BITS "byte" = some (some u_GROUP_BITS_2)) (tr_GROUP_BITS_2 : Z.okT K u_GROUP_BITS_2 (.t ((wdT.getD 2 []).map fun n : Nat => .i (n : Nat))) = true)
    (m_BASES : PySem.W.nsIn K mainGlobals "BASES" = some (some (.ref A_BASES))) (ld_BASES : K.lookup A_BASES = some ⟨.type "dict", none, .dict es_BASES en_BASES, #[]⟩) (kl_BASES : PySem.W.KeysLit w.params es_BASES.toList)
    (k_BASES_0 : PySem.W.nsIn K A_BASES "numeric" = some (some u_BASES_0)) (tr_BASES_0 : Z.okT K u_BASES_0 (.i (bsN 0 : Nat)) = true)
    (k_BASES_1 : PySem.W.nsIn K A_BASES "alphanumeric" = some (some u_BASES_1)) (tr_BASES_1 : Z.okT K u_BASES_1 (.i (bsN 1 : Nat)) = true)
    (k_BASES_2 : PySem.W.nsIn K A_BASES "byte" = some (some u_BASES_2)) (tr_BASES_2 : Z.okT K u_BASES_2 (.i (bsN 2 : Nat)) = true)
    (m_ALPHANUMERIC : PySem.W.nsIn K mainGlobals "ALPHANUMERIC" = some (some (.ref A_ALPHANUMERIC))) (tr_ALPHANUMERIC : Z.okT K (.ref A_ALPHANUMERIC) (.t (anL.map fun n : Nat => Z.Tr.i (n : Nat))) = true)
    (m_COUNT_BITS : PySem.W.nsIn K mainGlobals "COUNT_BITS" = some (some (.ref A_COUNT_BITS))) (ld_COUNT_BITS : K.lookup A_COUNT_BITS = some ⟨.type "dict", none, .dict es_COUNT_BITS en_COUNT_BITS, #[]⟩) (kl_COUNT_BITS : PySem.W.KeysLit w.params es_COUNT_BITS.toList)
    (k_COUNT_BITS_0 : PySem.W.nsIn K A_COUNT_BITS "numeric" = some (some u_COUNT_BITS_0)) (tr_COUNT_BITS_0 : Z.okT K u_COUNT_BITS_0 (.t ((cbT.getD 0 []).map fun n : Nat => .i (n : Nat))) = true)
    (k_COUNT_BITS_1 : PySem.W.nsIn K A_COUNT_BITS "alphanumeric" = some (some u_COUNT_BITS_1)) (tr_COUNT_BITS_1 : Z.okT K u_COUNT_BITS_1 (.t ((cbT.getD 1 []).map fun n : Nat => .i (n : Nat))) = true)
    (k_COUNT_BITS_2 : PySem.W.nsIn K A_COUNT_BITS "byte" = some (some u_COUNT_BITS_2)) (tr_COUNT_BITS_2 : Z.okT K u_COUNT_BITS_2 (.t ((cbT.getD 2 []).map fun n : Nat => .i (n : Nat))) = true)
    (z_len : PySem.W.nsIn K mainGlobals "len" = some none)
    (z_range : PySem.W.nsIn K mainGlobals "range" = some none)
    (z_min : PySem.W.nsIn K mainGlobals "min" = some none)
    (z_int : PySem.W.nsIn K mainGlobals "int" = some none)
    (z_isinstance : PySem.W.nsIn K mainGlobals "isinstance" = some none)
    (z_str : PySem.W.nsIn K mainGlobals "str" = some none)
    (z_list : PySem.W.nsIn K mainGlobals "list" = some none) :
    ∃ fd : FuncData, (∀ (s : Shared) (v : Value), BindsTo s fd ⟨[v], []⟩ [("script", v)]) ∧ ∀ base : Heap, K.In base → base.Ns mainGlobals mg → FnOk l.prog w K mg base CX0 8 fa fd pl_law (sp_law K) := by
  have e := hfa.symm.trans (PySem.W.mg_of X G a23)
  cases e
  have FD1 := Z.fund_mk (st := s_BitReader___init__) l1 c1 k1 (Z.dfl_of dl1 dv1 (by simp))
  obtain ⟨U1_0, V1_0, B1_0⟩ := FD1.binds1 (ps := pl_BitReader___init__) 3 1 (by simp) (by rfl) (fun T kV doc pm an cdv ct us its hu hi => match us, its, hu, hi with | [_, _, _], [_], _, _ => ⟨_, rfl, rfl⟩)
  obtain ⟨U1_1, V1_1, B1_1⟩ := FD1.binds1 (ps := pl_BitReader___init__) 2 0 (by simp) (by rfl) (fun T kV doc pm an cdv ct us its hu hi => match us, its, hu, hi with | [_, _], [_], _, _ => ⟨_, rfl, rfl⟩)
  cases V1_0
  have FD11 := Z.fund_mk (st := s_read_segments) l11 c11 k11 (Z.dfl_of dl11 dv11 (by simp))
  obtain ⟨U11_0, V11_0, B11_0⟩ := FD11.binds1 (ps := pl_read_segments) 3 1 (by simp) (by rfl) (fun T kV doc pm an cdv ct us its hu hi => match us, its, hu, hi with | [_, _, _], [_], _, _ => ⟨_, rfl, rfl⟩)
  obtain ⟨U11_1, V11_1, B11_1⟩ := FD11.binds1 (ps := pl_read_segments) 2 0 (by simp) (by rfl) (fun T kV doc pm an cdv ct us its hu hi => match us, its, hu, hi with | [_, _], [_], _, _ => ⟨_, rfl, rfl⟩)
  cases V11_0
  let T : Top K mg w := {
    a_DotfieldError___init__ := f0,
    d_DotfieldError___init__ := _,
    F_DotfieldError___init__ := fun_mk (st := s_DotfieldError___init__) l0 c0 k0,
    b_DotfieldError___init__ := (fun_mk (st := s_DotfieldError___init__) l0 c0 k0).binds (ps := pl_DotfieldError___init__) fun _ _ _ _ _ _ us hl => match us, hl with | [_, _], _ => rfl,
    a_BitReader___init__ := f1,
    d_BitReader___init__ := _,
    u_BitReader___init___1 := U1_1,
    v_BitReader___init___1 := V1_1,
    b_BitReader___init___1 := B1_1,
    F_BitReader___init__ := FD1,
    b_BitReader___init__ := B1_0,
    a_BitReader_left := f2,
    d_BitReader_left := _,
    F_BitReader_left := fun_mk (st := s_BitReader_left) l2 c2 k2,
    b_BitReader_left := (fun_mk (st := s_BitReader_left) l2 c2 k2).binds (ps := pl_BitReader_left) fun _ _ _ _ _ _ us hl => match us, hl with | [_], _ => rfl,
    a_BitReader_at := f3,
    d_BitReader_at := _,
    F_BitReader_at := fun_mk (st := s_BitReader_at) l3 c3 k3,
    b_BitReader_at := (fun_mk (st := s_BitReader_at) l3 c3 k3).binds (ps := pl_BitReader_at) fun _ _ _ _ _ _ us hl => match us, hl with | [_], _ => rfl,
    a_value_of := f4,
    d_value_of := _,
    F_value_of := fun_mk (st := s_value_of) l4 c4 k4,
    b_value_of := (fun_mk (st := s_value_of) l4 c4 k4).binds (ps := pl_value_of) fun _ _ _ _ _ _ us hl => match us, hl with | [_], _ => rfl,
    g_value_of := PySem.W.mg_of X G a4,
    a_BitReader_read := f5,
    d_BitReader_read := _,
    F_BitReader_read := fun_mk (st := s_BitReader_read) l5 c5 k5,
    b_BitReader_read := (fun_mk (st := s_BitReader_read) l5 c5 k5).binds (ps := pl_BitReader_read) fun _ _ _ _ _ _ us hl => match us, hl with | [_, _], _ => rfl,
    a_count_bits := f6,
    d_count_bits := _,
    F_count_bits := fun_mk (st := s_count_bits) l6 c6 k6,
    b_count_bits := (fun_mk (st := s_count_bits) l6 c6 k6).binds (ps := pl_count_bits) fun _ _ _ _ _ _ us hl => match us, hl with | [_, _], _ => rfl,
    g_count_bits := PySem.W.mg_of X G a6,
    a_group_size := f7,
    d_group_size := _,
    F_group_size := fun_mk (st := s_group_size) l7 c7 k7,
    b_group_size := (fun_mk (st := s_group_size) l7 c7 k7).binds (ps := pl_group_size) fun _ _ _ _ _ _ us hl => match us, hl with | [_], _ => rfl,
    g_group_size := PySem.W.mg_of X G a7,
    a_mode_of := f8,
    d_mode_of := _,
    F_mode_of := fun_mk (st := s_mode_of) l8 c8 k8,
    b_mode_of := (fun_mk (st := s_mode_of) l8 c8 k8).binds (ps := pl_mode_of) fun _ _ _ _ _ _ us hl => match us, hl with | [_, _], _ => rfl,
    g_mode_of := PySem.W.mg_of X G a8,
    a_read_group := f9,
    d_read_group := _,
    F_read_group := fun_mk (st := s_read_group) l9 c9 k9,
    b_read_group := (fun_mk (st := s_read_group) l9 c9 k9).binds (ps := pl_read_group) fun _ _ _ _ _ _ us hl => match us, hl with | [_, _, _], _ => rfl,
    g_read_group := PySem.W.mg_of X G a9,
    a_read_content := f10,
    d_read_content := _,
    F_read_content := fun_mk (st := s_read_content) l10 c10 k10,
    b_read_content := (fun_mk (st := s_read_content) l10 c10 k10).binds (ps := pl_read_content) fun _ _ _ _ _ _ us hl => match us, hl with | [_, _, _], _ => rfl,
    g_read_content := PySem.W.mg_of X G a10,
    a_read_segments := f11,
    d_read_segments := _,
    u_read_segments_1 := U11_1,
    v_read_segments_1 := V11_1,
    b_read_segments_1 := B11_1,
    F_read_segments := FD11,
    b_read_segments := B11_0,
    g_read_segments := PySem.W.mg_of X G a11,
    a__law_cell := f12,
    d__law_cell := _,
    F__law_cell := fun_mk (st := s__law_cell) l12 c12 k12,
    b__law_cell := (fun_mk (st := s__law_cell) l12 c12 k12).binds (ps := pl__law_cell) fun _ _ _ _ _ _ us hl => match us, hl with | [_, _], _ => rfl,
    g__law_cell := PySem.W.mg_of X G a12,
    a__law_bits := f13,
    d__law_bits := _,
    F__law_bits := fun_mk (st := s__law_bits) l13 c13 k13,
    b__law_bits := (fun_mk (st := s__law_bits) l13 c13 k13).binds (ps := pl__law_bits) fun _ _ _ _ _ _ us hl => match us, hl with | [_, _], _ => rfl,
    g__law_bits := PySem.W.mg_of X G a13,
    a__law_group := f14,
    d__law_group := _,
    F__law_group := fun_mk (st := s__law_group) l14 c14 k14,
    b__law_group := (fun_mk (st := s__law_group) l14 c14 k14).binds (ps := pl__law_group) fun _ _ _ _ _ _ us hl => match us, hl with | [_], _ => rfl,
    g__law_group := PySem.W.mg_of X G a14,
    a__law_head := f15,
    d__law_head := _,
    F__law_head := fun_mk (st := s__law_head) l15 c15 k15,
    b__law_head := (fun_mk (st := s__law_head) l15 c15 k15).binds (ps := pl__law_head) fun _ _ _ _ _ _ us hl => match us, hl with | [_, _], _ => rfl,
    g__law_head := PySem.W.mg_of X G a15,
    a__law_number := f16,
    d__law_number := _,
    F__law_number := fun_mk (st := s__law_number) l16 c16 k16,
    b__law_number := (fun_mk (st := s__law_number) l16 c16 k16).binds (ps := pl__law_number) fun _ _ _ _ _ _ us hl => match us, hl with | [_, _, _], _ => rfl,
    g__law_number := PySem.W.mg_of X G a16,
    a__law_sign := f17,
    d__law_sign := _,
    F__law_sign := fun_mk (st := s__law_sign) l17 c17 k17,
    b__law_sign := (fun_mk (st := s__law_sign) l17 c17 k17).binds (ps := pl__law_sign) fun _ _ _ _ _ _ us hl => match us, hl with | [_], _ => rfl,
    g__law_sign := PySem.W.mg_of X G a17,
    a__law_widths := f18,
    d__law_widths := _,
    F__law_widths := fun_mk (st := s__law_widths) l18 c18 k18,
    b__law_widths := (fun_mk (st := s__law_widths) l18 c18 k18).binds (ps := pl__law_widths) fun _ _ _ _ _ _ us hl => match us, hl with | [_, _], _ => rfl,
    g__law_widths := PySem.W.mg_of X G a18,
    a__law_content := f19,
    d__law_content := _,
    F__law_content := fun_mk (st := s__law_content) l19 c19 k19,
    b__law_content := (fun_mk (st := s__law_content) l19 c19 k19).binds (ps := pl__law_content) fun _ _ _ _ _ _ us hl => match us, hl with | [_, _, _, _], _ => rfl,
    g__law_content := PySem.W.mg_of X G a19,
    a__law_due := f20,
    d__law_due := _,
    F__law_due := fun_mk (st := s__law_due) l20 c20 k20,
    b__law_due := (fun_mk (st := s__law_due) l20 c20 k20).binds (ps := pl__law_due) fun _ _ _ _ _ _ us hl => match us, hl with | [_, _, _], _ => rfl,
    g__law_due := PySem.W.mg_of X G a20,
    a__law_built := f21,
    d__law_built := _,
    F__law_built := fun_mk (st := s__law_built) l21 c21 k21,
    b__law_built := (fun_mk (st := s__law_built) l21 c21 k21).binds (ps := pl__law_built) fun _ _ _ _ _ _ us hl => match us, hl with | [_, _], _ => rfl,
    g__law_built := PySem.W.mg_of X G a21,
    a__law_told := f22,
    d__law_told := _,
    F__law_told := fun_mk (st := s__law_told) l22 c22 k22,
    b__law_told := (fun_mk (st := s__law_told) l22 c22 k22).binds (ps := pl__law_told) fun _ _ _ _ _ _ us hl => match us, hl with | [_, _, _], _ => rfl,
    g__law_told := PySem.W.mg_of X G a22,
    a_law := fa,
    d_law := _,
    F_law := fun_mk (st := s_law) l23 c23 k23,
    b_law := (fun_mk (st := s_law) l23 c23 k23).binds (ps := pl_law) fun _ _ _ _ _ _ us hl => match us, hl with | [_], _ => rfl,
    g_law := PySem.W.mg_of X G a23,
    a_BitReader := C_BitReader,
    cl_BitReader := ⟨pg_BitReader, hd_BitReader, po_BitReader, sa_BitReader⟩,
    g_BitReader := PySem.W.mg_of X G aC_BitReader,
    M_BitReader := ⟨mk_BitReader, a1, i1, kc_BitReader⟩,
    me_BitReader_left := ⟨a2, i2, k2⟩,
    me_BitReader_at := ⟨a3, i3, k3⟩,
    me_BitReader_read := ⟨a5, i5, k5⟩,
    no_BitReader__bits := no_BitReader__bits,
    no_BitReader__position := no_BitReader__position,
    a_DotfieldError := C_DotfieldError,
    g_DotfieldError := PySem.W.mg_of X G aC_DotfieldError,
    a_Truncated := C_Truncated,
    g_Truncated := PySem.W.mg_of X G aC_Truncated,
    a_InvalidMode := C_InvalidMode,
    g_InvalidMode := PySem.W.mg_of X G aC_InvalidMode,
    a_InvalidCount := C_InvalidCount,
    g_InvalidCount := PySem.W.mg_of X G aC_InvalidCount,
    ox_Truncated := ⟨⟨_, _, _, _, _, _, _, _, _, _, _, _, _, _, _, lk_Truncated, rv_Truncated⟩, sa_Truncated, sb_Truncated, ty_Truncated, kc_Truncated⟩,
    ec_Truncated := ⟨ga_Truncated, gg_Truncated, sb_Truncated, hd_Truncated, cl_Truncated, gt_, tk_, ob_Truncated⟩,
    nm_Truncated := ⟨⟨_, _, _, _, _, _, #[_, _, _], lk_Truncated⟩, rd_Truncated, fd_Truncated⟩,
    xf_Truncated := ⟨ga_Truncated, gg_Truncated, sb_Truncated, hd_Truncated⟩,
    ic_Truncated := ic_Truncated,
    no_Truncated_place := no_Truncated_place,
    no_Truncated_name := no_Truncated_name,
    ex_Truncated_Truncated := PySem.W.exm_ref xs_Truncated_Truncated xh_Truncated_Truncated xt_Truncated_Truncated xu_Truncated_Truncated,
    ox_InvalidMode := ⟨⟨_, _, _, _, _, _, _, _, _, _, _, _, _, _, _, lk_InvalidMode, rv_InvalidMode⟩, sa_InvalidMode, sb_InvalidMode, ty_InvalidMode, kc_InvalidMode⟩,
    ec_InvalidMode := ⟨ga_InvalidMode, gg_InvalidMode, sb_InvalidMode, hd_InvalidMode, cl_InvalidMode, gt_, tk_, ob_InvalidMode⟩,
    nm_InvalidMode := ⟨⟨_, _, _, _, _, _, #[_, _, _], lk_InvalidMode⟩, rd_InvalidMode, fd_InvalidMode⟩,
    xf_InvalidMode := ⟨ga_InvalidMode, gg_InvalidMode, sb_InvalidMode, hd_InvalidMode⟩,
    ic_InvalidMode := ic_InvalidMode,
    no_InvalidMode_place := no_InvalidMode_place,
    no_InvalidMode_name := no_InvalidMode_name,
    ex_InvalidMode_Truncated := PySem.W.exm_ref xs_InvalidMode_Truncated xh_InvalidMode_Truncated xt_InvalidMode_Truncated xu_InvalidMode_Truncated,
    ex_InvalidMode_InvalidMode := PySem.W.exm_ref xs_InvalidMode_InvalidMode xh_InvalidMode_InvalidMode xt_InvalidMode_InvalidMode xu_InvalidMode_InvalidMode,
    ox_InvalidCount := ⟨⟨_, _, _, _, _, _, _, _, _, _, _, _, _, _, _, lk_InvalidCount, rv_InvalidCount⟩, sa_InvalidCount, sb_InvalidCount, ty_InvalidCount, kc_InvalidCount⟩,
    ec_InvalidCount := ⟨ga_InvalidCount, gg_InvalidCount, sb_InvalidCount, hd_InvalidCount, cl_InvalidCount, gt_, tk_, ob_InvalidCount⟩,
    nm_InvalidCount := ⟨⟨_, _, _, _, _, _, #[_, _, _], lk_InvalidCount⟩, rd_InvalidCount, fd_InvalidCount⟩,
    xf_InvalidCount := ⟨ga_InvalidCount, gg_InvalidCount, sb_InvalidCount, hd_InvalidCount⟩,
    ic_InvalidCount := ic_InvalidCount,
    no_InvalidCount_place := no_InvalidCount_place,
    no_InvalidCount_name := no_InvalidCount_name,
    ex_InvalidCount_Truncated := PySem.W.exm_ref xs_InvalidCount_Truncated xh_InvalidCount_Truncated xt_InvalidCount_Truncated xu_InvalidCount_Truncated,
    ex_InvalidCount_InvalidMode := PySem.W.exm_ref xs_InvalidCount_InvalidMode xh_InvalidCount_InvalidMode xt_InvalidCount_InvalidMode xu_InvalidCount_InvalidMode,
    ex_InvalidCount_InvalidCount := PySem.W.exm_ref xs_InvalidCount_InvalidCount xh_InvalidCount_InvalidCount xt_InvalidCount_InvalidCount xu_InvalidCount_InvalidCount,
    it_DotfieldError___init__ := it_DotfieldError___init__,
    a_MODES := A_MODES,
    m_MODES := PySem.W.mg_of X G m_MODES,
    t_MODES := tr_MODES,
    a_MODE_NUMBERS := A_MODE_NUMBERS,
    m_MODE_NUMBERS := PySem.W.mg_of X G m_MODE_NUMBERS,
    d_MODE_NUMBERS := Z.kd_mk ld_MODE_NUMBERS kl_MODE_NUMBERS,
    u_MODE_NUMBERS_0 := u_MODE_NUMBERS_0,
    k_MODE_NUMBERS_0 := k_MODE_NUMBERS_0,
    t_MODE_NUMBERS_0 := tr_MODE_NUMBERS_0,
    u_MODE_NUMBERS_1 := u_MODE_NUMBERS_1,
    k_MODE_NUMBERS_1 := k_MODE_NUMBERS_1,
    t_MODE_NUMBERS_1 := tr_MODE_NUMBERS_1,
    u_MODE_NUMBERS_2 := u_MODE_NUMBERS_2,
    k_MODE_NUMBERS_2 := k_MODE_NUMBERS_2,
    t_MODE_NUMBERS_2 := tr_MODE_NUMBERS_2,
    a_GROUP_BITS := A_GROUP_BITS,
    m_GROUP_BITS := PySem.W.mg_of X G m_GROUP_BITS,
    d_GROUP_BITS := Z.kd_mk ld_GROUP_BITS kl_GROUP_BITS,
    u_GROUP_BITS_0 := u_GROUP_BITS_0,
    k_GROUP_BITS_0 := k_GROUP_BITS_0,
    t_GROUP_BITS_0 := tr_GROUP_BITS_0,
    u_GROUP_BITS_1 := u_GROUP_BITS_1,
    k_GROUP_BITS_1 := k_GROUP_BITS_1,
    t_GROUP_BITS_1 := tr_GROUP_BITS_1,
    u_GROUP_BITS_2 := u_GROUP_BITS_2,
    k_GROUP_BITS_2 := k_GROUP_BITS_2,
    t_GROUP_BITS_2 := tr_GROUP_BITS_2,
    a_BASES := A_BASES,
    m_BASES := PySem.W.mg_of X G m_BASES,
    d_BASES := Z.kd_mk ld_BASES kl_BASES,
    u_BASES_0 := u_BASES_0,
    k_BASES_0 := k_BASES_0,
    t_BASES_0 := tr_BASES_0,
    u_BASES_1 := u_BASES_1,
    k_BASES_1 := k_BASES_1,
    t_BASES_1 := tr_BASES_1,
    u_BASES_2 := u_BASES_2,
    k_BASES_2 := k_BASES_2,
    t_BASES_2 := tr_BASES_2,
    a_ALPHANUMERIC := A_ALPHANUMERIC,
    m_ALPHANUMERIC := PySem.W.mg_of X G m_ALPHANUMERIC,
    t_ALPHANUMERIC := tr_ALPHANUMERIC,
    a_COUNT_BITS := A_COUNT_BITS,
    m_COUNT_BITS := PySem.W.mg_of X G m_COUNT_BITS,
    d_COUNT_BITS := Z.kd_mk ld_COUNT_BITS kl_COUNT_BITS,
    u_COUNT_BITS_0 := u_COUNT_BITS_0,
    k_COUNT_BITS_0 := k_COUNT_BITS_0,
    t_COUNT_BITS_0 := tr_COUNT_BITS_0,
    u_COUNT_BITS_1 := u_COUNT_BITS_1,
    k_COUNT_BITS_1 := k_COUNT_BITS_1,
    t_COUNT_BITS_1 := tr_COUNT_BITS_1,
    u_COUNT_BITS_2 := u_COUNT_BITS_2,
    k_COUNT_BITS_2 := k_COUNT_BITS_2,
    t_COUNT_BITS_2 := tr_COUNT_BITS_2,
    n_len := PySem.W.mg_none_of X G z_len,
    n_range := PySem.W.mg_none_of X G z_range,
    n_min := PySem.W.mg_none_of X G z_min,
    n_int := PySem.W.mg_none_of X G z_int,
    n_isinstance := PySem.W.mg_none_of X G z_isinstance,
    n_str := PySem.W.mg_none_of X G z_str,
    n_list := PySem.W.mg_none_of X G z_list }
  exact ⟨T.d_law, fun s v => .of_eq rfl, fun base _ _ => ok_law T⟩
end M_k35
open PySem PySem.W PyProof.Rows
set_option maxRecDepth 100000 in
set_option maxHeartbeats 0 in
theorem PySem.Challenge.cw_dotfield_k35_any_bits_as_segments_holds : PySem.Challenge.rw_dotfield_k35_any_bits_as_segments.Holds := by
  w_on; o_law; k_head; (case hw => w_witness2)
  k_fill
  refine L2.walk_of (l := PySem.Challenge.rw_dotfield_k35_any_bits_as_segments) (n := 63) (k := 8) (x := "script") (CX := fun _ => L2.CX0) (sp := fun w => M_k35.sp_law _) rfl (by decide) rfl ⟨rfl, by decide, by decide⟩ (fun w h Y => PySem.W.kIn_of Y) ?F (fun _ _ a ns hl _ hS => ⟨a, ns, rfl, hS, hl, fun _ => rfl⟩) (fun _ _ _ _ _ h => h)
  case F =>
    intro w mg fa h KX G hmg
    refine' M_k35.all_mk KX G hmg ?aC_BitReader ?aC_DotfieldError ?aC_Truncated ?aC_InvalidMode ?aC_InvalidCount ?a0 ?i0 ?l0 ?c0 ?k0 ?a1 ?i1 ?l1 ?dl1 ?dv1 ?c1 ?k1 ?a2 ?i2 ?l2 ?c2 ?k2 ?a3 ?i3 ?l3 ?c3 ?k3 ?a4 ?l4 ?c4 ?k4 ?a5 ?i5 ?l5 ?c5 ?k5 ?a6 ?l6 ?c6 ?k6 ?a7 ?l7 ?c7 ?k7 ?a8 ?l8 ?c8 ?k8 ?a9 ?l9 ?c9 ?k9 ?a10 ?l10 ?c10 ?k10 ?a11 ?l11 ?dl11 ?dv11 ?c11 ?k11 ?a12 ?l12 ?c12 ?k12 ?a13 ?l13 ?c13 ?k13 ?a14 ?l14 ?c14 ?k14 ?a15 ?l15 ?c15 ?k15 ?a16 ?l16 ?c16 ?k16 ?a17 ?l17 ?c17 ?k17 ?a18 ?l18 ?c18 ?k18 ?a19 ?l19 ?c19 ?k19 ?a20 ?l20 ?c20 ?k20 ?a21 ?l21 ?c21 ?k21 ?a22 ?l22 ?c22 ?k22 ?a23 ?l23 ?c23 ?k23 ?pg_BitReader ?hd_BitReader ?po_BitReader ?sa_BitReader ?mk_BitReader ?kc_BitReader ?no_BitReader__bits ?no_BitReader__position ?lk_Truncated ?rv_Truncated ?sa_Truncated ?ga_Truncated ?gg_Truncated ?cl_Truncated ?sb_Truncated ?ty_Truncated ?kc_Truncated ?hd_Truncated ?ob_Truncated ?rd_Truncated ?fd_Truncated ?ic_Truncated ?no_Truncated_place ?no_Truncated_name ?xs_Truncated_Truncated ?xh_Truncated_Truncated ?xt_Truncated_Truncated ?xu_Truncated_Truncated ?lk_InvalidMode ?rv_InvalidMode ?sa_InvalidMode ?ga_InvalidMode ?gg_InvalidMode ?cl_InvalidMode ?sb_InvalidMode ?ty_InvalidMode ?kc_InvalidMode ?hd_InvalidMode ?ob_InvalidMode ?rd_InvalidMode ?fd_InvalidMode ?ic_InvalidMode ?no_InvalidMode_place ?no_InvalidMode_name ?xs_InvalidMode_Truncated ?xh_InvalidMode_Truncated ?xt_InvalidMode_Truncated ?xu_InvalidMode_Truncated ?xs_InvalidMode_InvalidMode ?xh_InvalidMode_InvalidMode ?xt_InvalidMode_InvalidMode ?xu_InvalidMode_InvalidMode ?lk_InvalidCount ?rv_InvalidCount ?sa_InvalidCount ?ga_InvalidCount ?gg_InvalidCount ?cl_InvalidCount ?sb_InvalidCount ?ty_InvalidCount ?kc_InvalidCount ?hd_InvalidCount ?ob_InvalidCount ?rd_InvalidCount ?fd_InvalidCount ?ic_InvalidCount ?no_InvalidCount_place ?no_InvalidCount_name ?xs_InvalidCount_Truncated ?xh_InvalidCount_Truncated ?xt_InvalidCount_Truncated ?xu_InvalidCount_Truncated ?xs_InvalidCount_InvalidMode ?xh_InvalidCount_InvalidMode ?xt_InvalidCount_InvalidMode ?xu_InvalidCount_InvalidMode ?xs_InvalidCount_InvalidCount ?xh_InvalidCount_InvalidCount ?xt_InvalidCount_InvalidCount ?xu_InvalidCount_InvalidCount ?gt_ ?tk_ ?it_DotfieldError___init__ ?m_MODES ?tr_MODES ?m_MODE_NUMBERS ?ld_MODE_NUMBERS ?kl_MODE_NUMBERS ?k_MODE_NUMBERS_0 ?tr_MODE_NUMBERS_0 ?k_MODE_NUMBERS_1 ?tr_MODE_NUMBERS_1 ?k_MODE_NUMBERS_2 ?tr_MODE_NUMBERS_2 ?m_GROUP_BITS ?ld_GROUP_BITS ?kl_GROUP_BITS ?k_GROUP_BITS_0 ?tr_GROUP_BITS_0 ?k_GROUP_BITS_1 ?tr_GROUP_BITS_1 ?k_GROUP_BITS_2 ?tr_GROUP_BITS_2 ?m_BASES ?ld_BASES ?kl_BASES ?k_BASES_0 ?tr_BASES_0 ?k_BASES_1 ?tr_BASES_1 ?k_BASES_2 ?tr_BASES_2 ?m_ALPHANUMERIC ?tr_ALPHANUMERIC ?m_COUNT_BITS ?ld_COUNT_BITS ?kl_COUNT_BITS ?k_COUNT_BITS_0 ?tr_COUNT_BITS_0 ?k_COUNT_BITS_1 ?tr_COUNT_BITS_1 ?k_COUNT_BITS_2 ?tr_COUNT_BITS_2 ?z_len ?z_range ?z_min ?z_int ?z_isinstance ?z_str ?z_list
    (case aC_BitReader => k_is)
    (case aC_DotfieldError => k_is)
    (case aC_Truncated => k_is)
    (case aC_InvalidMode => k_is)
    (case aC_InvalidCount => k_is)
    (case a0 => k_is)
    (case i0 => k_is)
    (case l0 => k_is)
    (case c0 => k_is)
    (case k0 => k_is)
    (case a1 => k_is)
    (case i1 => k_is)
    (case l1 => k_is)
    (case dl1 => k_is)
    (case dv1 => decide +kernel)
    (case c1 => k_is)
    (case k1 => k_is)
    (case a2 => k_is)
    (case i2 => k_is)
    (case l2 => k_is)
    (case c2 => k_is)
    (case k2 => k_is)
    (case a3 => k_is)
    (case i3 => k_is)
    (case l3 => k_is)
    (case c3 => k_is)
    (case k3 => k_is)
    (case a4 => k_is)
    (case l4 => k_is)
    (case c4 => k_is)
    (case k4 => k_is)
    (case a5 => k_is)
    (case i5 => k_is)
    (case l5 => k_is)
    (case c5 => k_is)
    (case k5 => k_is)
    (case a6 => k_is)
    (case l6 => k_is)
    (case c6 => k_is)
    (case k6 => k_is)
    (case a7 => k_is)
    (case l7 => k_is)
    (case c7 => k_is)
    (case k7 => k_is)
    (case a8 => k_is)
    (case l8 => k_is)
    (case c8 => k_is)
    (case k8 => k_is)
    (case a9 => k_is)
    (case l9 => k_is)
    (case c9 => k_is)
    (case k9 => k_is)
    (case a10 => k_is)
    (case l10 => k_is)
    (case c10 => k_is)
    (case k10 => k_is)
    (case a11 => k_is)
    (case l11 => k_is)
    (case dl11 => k_is)
    (case dv11 => decide +kernel)
    (case c11 => k_is)
    (case k11 => k_is)
    (case a12 => k_is)
    (case l12 => k_is)
    (case c12 => k_is)
    (case k12 => k_is)
    (case a13 => k_is)
    (case l13 => k_is)
    (case c13 => k_is)
    (case k13 => k_is)
    (case a14 => k_is)
    (case l14 => k_is)
    (case c14 => k_is)
    (case k14 => k_is)
    (case a15 => k_is)
    (case l15 => k_is)
    (case c15 => k_is)
    (case k15 => k_is)
    (case a16 => k_is)
    (case l16 => k_is)
    (case c16 => k_is)
    (case k16 => k_is)
    (case a17 => k_is)
    (case l17 => k_is)
    (case c17 => k_is)
    (case k17 => k_is)
    (case a18 => k_is)
    (case l18 => k_is)
    (case c18 => k_is)
    (case k18 => k_is)
    (case a19 => k_is)
    (case l19 => k_is)
    (case c19 => k_is)
    (case k19 => k_is)
    (case a20 => k_is)
    (case l20 => k_is)
    (case c20 => k_is)
    (case k20 => k_is)
    (case a21 => k_is)
    (case l21 => k_is)
    (case c21 => k_is)
    (case k21 => k_is)
    (case a22 => k_is)
    (case l22 => k_is)
    (case c22 => k_is)
    (case k22 => k_is)
    (case a23 => k_is)
    (case l23 => k_is)
    (case c23 => k_is)
    (case k23 => k_is)
    (case pg_BitReader => k_is)
    (case hd_BitReader => k_is)
    (case po_BitReader => k_is)
    (case sa_BitReader => k_is)
    (case mk_BitReader => k_is)
    (case kc_BitReader => k_is)
    (case no_BitReader__bits => k_is)
    (case no_BitReader__position => k_is)
    (case lk_Truncated => k_is)
    (case rv_Truncated => decide +kernel)
    (case sa_Truncated => k_is)
    (case ga_Truncated => k_is)
    (case gg_Truncated => k_is)
    (case cl_Truncated => k_is)
    (case sb_Truncated => k_is)
    (case ty_Truncated => k_is)
    (case kc_Truncated => k_is)
    (case hd_Truncated => k_is)
    (case ob_Truncated => k_is)
    (case rd_Truncated => k_is)
    (case fd_Truncated => k_is)
    (case ic_Truncated => k_is)
    (case no_Truncated_place => k_is)
    (case no_Truncated_name => k_is)
    (case xs_Truncated_Truncated => k_is)
    (case xh_Truncated_Truncated => k_is)
    (case xt_Truncated_Truncated => k_is)
    (case xu_Truncated_Truncated => first | k_is | rfl | decide +kernel)
    (case lk_InvalidMode => k_is)
    (case rv_InvalidMode => decide +kernel)
    (case sa_InvalidMode => k_is)
    (case ga_InvalidMode => k_is)
    (case gg_InvalidMode => k_is)
    (case cl_InvalidMode => k_is)
    (case sb_InvalidMode => k_is)
    (case ty_InvalidMode => k_is)
    (case kc_InvalidMode => k_is)
    (case hd_InvalidMode => k_is)
    (case ob_InvalidMode => k_is)
    (case rd_InvalidMode => k_is)
    (case fd_InvalidMode => k_is)
    (case ic_InvalidMode => k_is)
    (case no_InvalidMode_place => k_is)
    (case no_InvalidMode_name => k_is)
    (case xs_InvalidMode_Truncated => k_is)
    (case xh_InvalidMode_Truncated => k_is)
    (case xt_InvalidMode_Truncated => k_is)
    (case xu_InvalidMode_Truncated => first | k_is | rfl | decide +kernel)
    (case xs_InvalidMode_InvalidMode => k_is)
    (case xh_InvalidMode_InvalidMode => k_is)
    (case xt_InvalidMode_InvalidMode => k_is)
    (case xu_InvalidMode_InvalidMode => first | k_is | rfl | decide +kernel)
    (case lk_InvalidCount => k_is)
    (case rv_InvalidCount => decide +kernel)
    (case sa_InvalidCount => k_is)
    (case ga_InvalidCount => k_is)
    (case gg_InvalidCount => k_is)
    (case cl_InvalidCount => k_is)
    (case sb_InvalidCount => k_is)
    (case ty_InvalidCount => k_is)
    (case kc_InvalidCount => k_is)
    (case hd_InvalidCount => k_is)
    (case ob_InvalidCount => k_is)
    (case rd_InvalidCount => k_is)
    (case fd_InvalidCount => k_is)
    (case ic_InvalidCount => k_is)
    (case no_InvalidCount_place => k_is)
    (case no_InvalidCount_name => k_is)
    (case xs_InvalidCount_Truncated => k_is)
    (case xh_InvalidCount_Truncated => k_is)
    (case xt_InvalidCount_Truncated => k_is)
    (case xu_InvalidCount_Truncated => first | k_is | rfl | decide +kernel)
    (case xs_InvalidCount_InvalidMode => k_is)
    (case xh_InvalidCount_InvalidMode => k_is)
    (case xt_InvalidCount_InvalidMode => k_is)
    (case xu_InvalidCount_InvalidMode => first | k_is | rfl | decide +kernel)
    (case xs_InvalidCount_InvalidCount => k_is)
    (case xh_InvalidCount_InvalidCount => k_is)
    (case xt_InvalidCount_InvalidCount => k_is)
    (case xu_InvalidCount_InvalidCount => first | k_is | rfl | decide +kernel)
    (case gt_ => k_is)
    (case tk_ => k_is)
    (case it_DotfieldError___init__ => k_is)
    (case m_MODES => k_is)
    (case tr_MODES => kernel_rfl)
    (case m_MODE_NUMBERS => k_is)
    (case ld_MODE_NUMBERS => k_is)
    (case kl_MODE_NUMBERS => repeat (first | exact trivial | refine ⟨⟨_, _, rfl, rfl⟩, ?_⟩))
    (case k_MODE_NUMBERS_0 => k_is)
    (case tr_MODE_NUMBERS_0 => kernel_rfl)
    (case k_MODE_NUMBERS_1 => k_is)
    (case tr_MODE_NUMBERS_1 => kernel_rfl)
    (case k_MODE_NUMBERS_2 => k_is)
    (case tr_MODE_NUMBERS_2 => kernel_rfl)
    (case m_GROUP_BITS => k_is)
    (case ld_GROUP_BITS => k_is)
    (case kl_GROUP_BITS => repeat (first | exact trivial | refine ⟨⟨_, _, rfl, rfl⟩, ?_⟩))
    (case k_GROUP_BITS_0 => k_is)
    (case tr_GROUP_BITS_0 => kernel_rfl)
    (case k_GROUP_BITS_1 => k_is)
    (case tr_GROUP_BITS_1 => kernel_rfl)
    (case k_GROUP_BITS_2 => k_is)
    (case tr_GROUP_BITS_2 => kernel_rfl)
    (case m_BASES => k_is)
    (case ld_BASES => k_is)
    (case kl_BASES => repeat (first | exact trivial | refine ⟨⟨_, _, rfl, rfl⟩, ?_⟩))
    (case k_BASES_0 => k_is)
    (case tr_BASES_0 => kernel_rfl)
    (case k_BASES_1 => k_is)
    (case tr_BASES_1 => kernel_rfl)
    (case k_BASES_2 => k_is)
    (case tr_BASES_2 => kernel_rfl)
    (case m_ALPHANUMERIC => k_is)
    (case tr_ALPHANUMERIC => kernel_rfl)
    (case m_COUNT_BITS => k_is)
    (case ld_COUNT_BITS => k_is)
    (case kl_COUNT_BITS => repeat (first | exact trivial | refine ⟨⟨_, _, rfl, rfl⟩, ?_⟩))
    (case k_COUNT_BITS_0 => k_is)
    (case tr_COUNT_BITS_0 => kernel_rfl)
    (case k_COUNT_BITS_1 => k_is)
    (case tr_COUNT_BITS_1 => kernel_rfl)
    (case k_COUNT_BITS_2 => k_is)
    (case tr_COUNT_BITS_2 => kernel_rfl)
    (case z_len => k_is)
    (case z_range => k_is)
    (case z_min => k_is)
    (case z_int => k_is)
    (case z_isinstance => k_is)
    (case z_str => k_is)
    (case z_list => k_is)

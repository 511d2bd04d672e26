import PyProof.Rows.All
import Wide.All
import OpenK.AllK
import Wide.FinOn
import HandS.ForMost
import HandS.IsInst
import HandS.Codes
import HandS.Style
import HandS.Deep
import HandS.TupAny
import HandS.Wide
import HandS.More
import PySem.Challenge.RW_dotfield_k20_parts_that_do_not_fit
import HandS.ForExc
import HandS.ExcInit
import HandS.ExcField
import HandS.ExcIs
import KE.KTypeName
import HandS.CallSlots
import HandS.Defaults
import HandS.Walk
import HandS.Call
import HandS.HotCalls
import HandS.Lambda
import HandS.EndTab
import KE.KMinKey
import HandS.CallRecv
import HandS.HeadWalk
import KE.KNestM
import KE.SortKeyHeap
import HandS.Small
import HandS.WideBits
import KE.KxField
set_option Elab.async false
set_option linter.all false
set_option maxRecDepth 100000
namespace Z
open PySem PySem.Spec PyProof.Rows L2
/-! ## Readings, step by step (own words over the layer) -/
section
variable {K : PySem.W.Frag} {D : Ends} {H : Hp} {Q : VK} {R : Bool → Hp → Prop}
theorem r_seq {σ : L2.St} {t u : TS} (h : t { D with nx := u D } σ H) : tSeq t u D σ H := h
theorem r_asg {σ : L2.St} {te : TE} {g : TG} (h : te σ H fun x H1 => g x σ H1 D.nx) : tAsg te g D σ H := h
theorem r_gname {σ σ2 : L2.St} {i : Nat} {v : V} {k : L2.St → Hp → Prop} (hs : σ.set i (some v) = σ2) (h : k σ2 H) : gName i v σ H k := by
  subst hs; exact h
theorem r_ret {σ : L2.St} {te : TE} (h : te σ H D.rt) : tRet te D σ H := h
theorem r_retN {σ : L2.St} (h : D.rt .non H) : tRetN D σ H := h
theorem r_drop {σ : L2.St} {te : TE} (h : te σ H fun _ H1 => D.nx σ H1) : tDrop te D σ H := h
theorem r_next {σ : L2.St} (h : D.nx σ H) : tNext D σ H := h
theorem r_brk {σ : L2.St} (h : D.bk σ H) : tBreak D σ H := h
theorem r_cnt {σ : L2.St} (h : D.ct σ H) : tCont D σ H := h
theorem r_if {σ : L2.St} {c : TT} {t u : TS} (h : c σ H fun b H1 => if b = true then t D σ H1 else u D σ H1) : tIfS c t u D σ H := h
theorem r_ifE {σ : L2.St} {c : TT} {t u : TE} (h : c σ H fun b H1 => if b = true then t σ H1 Q else u σ H1 Q) : tIf c t u σ H Q := h
theorem r_test {σ : L2.St} {t : TE} (h : t σ H fun x H' => ∃ k, x = .bl k ∧ R k H') : tTest t σ H R := h
theorem r_tB {σ : L2.St} {t : TE} (h : t σ H fun x H' => ∃ k, x = .bl k ∧ R k H') : tB t σ H R := h
theorem r_bl {b : Bool} {P : Bool → Prop} (q : P b) : ∃ k, V.bl b = V.bl k ∧ P k := ⟨b, rfl, q⟩
theorem r_and {σ : L2.St} {t u : TT} (h : t σ H fun c H1 => if c = true then u σ H1 R else R false H1) : tAnd t u σ H R := h
theorem r_or {σ : L2.St} {t u : TT} (h : t σ H fun c H1 => if c = true then R true H1 else u σ H1 R) : tOr t u σ H R := h
theorem r_not {σ : L2.St} {t : TT} (h : t σ H fun c H1 => R (!c) H1) : tNot t σ H R := h
theorem r_andV {σ : L2.St} {ta tb : TE} (h : ta σ H fun x H1 => ∃ c, x = .bl c ∧ if c = true then tb σ H1 Q else Q (.bl false) H1) : tAndV ta tb σ H Q := h
theorem r_orV {σ : L2.St} {ta tb : TE} (h : ta σ H fun x H1 => ∃ c, x = .bl c ∧ if c = true then Q (.bl true) H1 else tb σ H1 Q) : tOrV ta tb σ H Q := h
theorem r_notV {σ : L2.St} {ta : TE} (h : ta σ H fun x H1 => ∃ c, x = .bl c ∧ Q (.bl (!c)) H1) : tNotV ta σ H Q := h
theorem r_v0 {v : V} {l : List (Option V)} (q : Q v H) : tVar 0 (some v :: l) H Q := ⟨v, rfl, q⟩
theorem r_vS {i : Nat} {x : Option V} {l : List (Option V)} (q : tVar i l H Q) : tVar (i + 1) (x :: l) H Q := q
theorem r_v1 {a : Option V} {v : V} {l : List (Option V)} (q : Q v H) : tVar 1 (a :: some v :: l) H Q := ⟨v, rfl, q⟩
theorem r_v2 {a b : Option V} {v : V} {l : List (Option V)} (q : Q v H) : tVar 2 (a :: b :: some v :: l) H Q := ⟨v, rfl, q⟩
theorem r_var {σ : L2.St} {i : Nat} {v : V} (h : σ[i]? = some (some v)) (q : Q v H) : tVar i σ H Q := ⟨v, h, q⟩
theorem r_c {σ : L2.St} {v : V} (q : Q v H) : tC v σ H Q := q
theorem r_op {σ : L2.St} {r : R2} {ta tb : TE} (h : ta σ H fun x H1 => tb σ H1 fun y H2 => r x y H2 Q) : tOp r ta tb σ H Q := h
theorem r_un {σ : L2.St} {r : V → Hp → VK → Prop} {ta : TE} (h : ta σ H fun x H1 => r x H1 Q) : tUn r ta σ H Q := h
theorem r_chain {σ : L2.St} {r r' : R2} {ta tb tc : TE} (h : ta σ H fun x H1 => tb σ H1 fun y H2 => r x y H2 fun z H3 => ∃ k, z = .bl k ∧ (if k = true then tc σ H3 fun w' H4 => r' y w' H4 Q else Q (.bl false) H3)) : tChain r r' ta tb tc σ H Q := h
theorem r_nil {σ : L2.St} {P : List V → Hp → Prop} (q : P [] H) : tNil σ H P := q
theorem r_cons {σ : L2.St} {ta : TE} {tr : TA} {P : List V → Hp → Prop} (h : ta σ H fun x H1 => tr σ H1 fun xs H2 => P (x :: xs) H2) : tCons ta tr σ H P := h
theorem r_I0 {g : Int → Int → V} {i j : Int} (q : Q (g i j) H) : rI0 g (.int i) (.int j) H Q := ⟨i, j, rfl, rfl, q⟩
theorem r_I {C : Int → Int → Prop} {g : Int → Int → V} {i j : Int} (c : C i j) (q : Q (g i j) H) : rI C g (.int i) (.int j) H Q := ⟨i, j, rfl, rfl, c, q⟩
theorem r_U {g : Int → V} {i : Int} (q : Q (g i) H) : rU g (.int i) H Q := ⟨i, rfl, q⟩
/-- a truth that is not looked into -/
def dB (p : Prop) [Decidable p] : Bool := decide p
theorem dB_t {p : Prop} [Decidable p] (h : p) : dB p = true := decide_eq_true h
theorem dB_f {p : Prop} [Decidable p] (h : ¬ p) : dB p = false := decide_eq_false h
theorem dB_of {p : Prop} [Decidable p] (h : dB p = true) : p := of_decide_eq_true h
theorem dB_iff {p q : Prop} [Decidable p] [Decidable q] (h : p ↔ q) : dB p = dB q := by
  by_cases c : p
  · rw [dB_t c, dB_t (h.mp c)]
  · rw [dB_f c, dB_f (fun z => c (h.mpr z))]
theorem r_lt {i j : Int} (q : Q (.bl (dB (i < j))) H) : rI0 (fun i j => .bl (decide (i < j))) (.int i) (.int j) H Q := ⟨i, j, rfl, rfl, q⟩
theorem r_le {i j : Int} (q : Q (.bl (dB (i ≤ j))) H) : rI0 (fun i j => .bl (decide (i ≤ j))) (.int i) (.int j) H Q := ⟨i, j, rfl, rfl, q⟩
theorem r_gt {i j : Int} (q : Q (.bl (dB (j < i))) H) : rI0 (fun i j => .bl (decide (j < i))) (.int i) (.int j) H Q := ⟨i, j, rfl, rfl, q⟩
theorem r_ge {i j : Int} (q : Q (.bl (dB (j ≤ i))) H) : rI0 (fun i j => .bl (decide (j ≤ i))) (.int i) (.int j) H Q := ⟨i, j, rfl, rfl, q⟩
theorem eq_int (i j : Int) : decide (V.int i = V.int j) = dB (i = j) := by
  unfold dB
  by_cases h : i = j
  · subst h; simp
  · simp [h]
theorem eq_bl (i j : Bool) : decide (V.bl i = V.bl j) = dB (i = j) := by
  unfold dB
  by_cases h : i = j
  · subst h; simp
  · simp [h]
theorem eq_str (i j : Str) : decide (V.str i = V.str j) = dB (i = j) := by
  unfold dB
  by_cases h : i = j
  · subst h; simp
  · simp [h]
theorem not_dB (p : Prop) [Decidable p] : (!dB p) = dB (¬ p) := by
  by_cases h : p
  · rw [dB_t h, dB_f (fun z => z h)]; rfl
  · rw [dB_f h, dB_t h]; rfl
theorem r_eqI {i j : Int} (q : Q (.bl (dB (i = j))) H) : rEq (.int i) (.int j) H Q := ⟨rfl, by rw [eq_int]; exact q⟩
theorem r_neI {i j : Int} (q : Q (.bl (dB (¬ i = j))) H) : rNe (.int i) (.int j) H Q := ⟨rfl, by rw [eq_int, not_dB]; exact q⟩
theorem r_eqB {i j : Bool} (q : Q (.bl (dB (i = j))) H) : rEq (.bl i) (.bl j) H Q := ⟨rfl, by rw [eq_bl]; exact q⟩
theorem r_neB {i j : Bool} (q : Q (.bl (dB (¬ i = j))) H) : rNe (.bl i) (.bl j) H Q := ⟨rfl, by rw [eq_bl, not_dB]; exact q⟩
theorem r_eqS {i j : Str} (q : Q (.bl (dB (i = j))) H) : rEq (.str i) (.str j) H Q := ⟨rfl, by rw [eq_str]; exact q⟩
theorem r_neS {i j : Str} (q : Q (.bl (dB (¬ i = j))) H) : rNe (.str i) (.str j) H Q := ⟨rfl, by rw [eq_str, not_dB]; exact q⟩
/-! tests that are decided -/
theorem i_t {A B : Prop} (h : A) : if true = true then A else B := h
theorem i_f {A B : Prop} (h : B) : if false = true then A else B := by rw [if_neg Bool.false_ne_true]; exact h
theorem i_2 {p : Prop} [Decidable p] {A B : Prop} (h1 : p → A) (h2 : ¬ p → B) : if dB p = true then A else B := by
  by_cases h : p
  · rw [dB_t h]; exact h1 h
  · rw [dB_f h, if_neg Bool.false_ne_true]; exact h2 h
theorem i_2n {p : Prop} [Decidable p] {A B : Prop} (h1 : ¬ p → A) (h2 : p → B) : if (!dB p) = true then A else B := by
  by_cases h : p
  · rw [dB_t h]; exact i_f (h2 h)
  · rw [dB_f h]; exact i_t (h1 h)
theorem i_2b {b : Bool} {A B : Prop} (h1 : b = true → A) (h2 : b = false → B) : if b = true then A else B := by
  cases b with
  | true => exact h1 rfl
  | false => exact i_f (h2 rfl)
theorem i_dt {p : Prop} [Decidable p] {A B : Prop} (h : p) (a : A) : if dB p = true then A else B := by rw [dB_t h]; exact a
theorem i_df {p : Prop} [Decidable p] {A B : Prop} (h : ¬ p) (b : B) : if dB p = true then A else B := by rw [dB_f h, if_neg Bool.false_ne_true]; exact b
theorem i_dtn {p : Prop} [Decidable p] {A B : Prop} (h : ¬ p) (a : A) : if (!dB p) = true then A else B := by rw [dB_f h]; exact a
theorem i_dfn {p : Prop} [Decidable p] {A B : Prop} (h : p) (b : B) : if (!dB p) = true then A else B := by rw [dB_t h]; exact i_f b
theorem i_nt {A B : Prop} (h : A) : if (!false) = true then A else B := h
theorem i_nf {A B : Prop} (h : B) : if (!true) = true then A else B := i_f h
theorem kx {CX : CXT} {P : Program} {w : World} {K : PySem.W.Frag} {mg : Str → Option Value} {base : Heap} {N : List Str} {qual : Str} {scope : Scope} {f : Addr} {cd : Value} {A : Around} {outer : List Env} {s : Shared} {H : Hp} {E : XK} :
    (cxOf CX P w K mg base N qual scope f cd A outer s H E).K = K := rfl
/-! heaps -/
theorem s_at {H H' : Hp} {a : Addr} {o : HO} (s : Same H H') (h : H a = some o) : H' a = some o := s _ _ h
theorem s_upd {H : Hp} {p : Addr} {o : HO} (h : H p = none) : Same H (upd H p o) := fun b x e => by
  rw [upd_ne (ne_of_none e h)]
  exact e
/-- an object that H does not know may change -/
theorem s_mut {H H' : Hp} {p : Addr} {o : HO} (e : Same H H') (h : H p = none) : Same H (upd H' p o) := fun a u ha => by
  rw [upd_ne (ne_of_none ha h)]
  exact e a u ha
theorem s_back {H H' : Hp} {p : Addr} (e : Same H H') (h : H' p = none) : H p = none := e.free h
theorem ne_of' {H : Hp} {a b : Addr} {o : HO} (h' : H b = none) (h : H a = some o) : a ≠ b := ne_of_none h h'
theorem ne_new {H H' : Hp} {a b : Addr} {o : HO} (h : H a = some o) (s : Same H H') (h' : H' b = none) : a ≠ b := ne_of_none (s _ _ h) h'
theorem sq_l {H : Hp} {a : Addr} {xs : List V} (h : H a = some (.lst xs)) : SqL K H a xs := .inl (.inl h)
theorem sq_t {H : Hp} {a : Addr} {xs : List V} (h : H a = some (.tup xs)) : SqT K H a xs := .inl (.inl h)
theorem s_sq {H H' : Hp} {a : Addr} {xs : List V} (s : Same H H') (h : SqL K H a xs) : SqL K H' a xs := s.seq h
theorem s_rd {H H' : Hp} {a : Addr} {u : HO} (e : Same H H') (h : Rd H a u) : Rd H' a u := by
  rcases h with h | ⟨o, h⟩
  · exact .inl (e a _ h)
  · exact .inr ⟨o, e a _ h⟩
theorem s_st {H H' : Hp} {a : Addr} {xs : List V} (s : Same H H') (h : SqT K H a xs) : SqT K H' a xs := by
  rcases h with h | h
  · exact .inl (s_rd s h)
  · exact .inr h
theorem sz {n : Nat} (h : n ≤ 100000) : n ≤ sizeLine := Nat.le_trans h (by decide)
theorem szl {n : Nat} (h : n < 100000) : n < sizeLine := Nat.lt_of_lt_of_le h (by decide)
/-! lists -/
theorem r_ixL {p : Addr} {xs : List V} {i : Int} {v : V} (h : SqL K H p xs) (ha : atI xs i = some v) (q : Q v H) : rIxL K (.ref p) (.int i) H Q := ⟨p, xs, i, v, rfl, rfl, h, ha, q⟩
theorem r_ixT {p : Addr} {xs : List V} {i : Int} {v : V} (h : SqT K H p xs) (ha : atI xs i = some v) (q : Q v H) : rIxT K (.ref p) (.int i) H Q := ⟨p, xs, i, v, rfl, rfl, h, ha, q⟩
theorem r_new {σ : L2.St} {t : TA} (h : t σ H fun xs H1 => xs.length ≤ sizeLine ∧ ∀ p, H1 p = none → Q (.ref p) (upd H1 p (.lst xs))) : tLst t σ H Q := h
theorem r_tup {σ : L2.St} {t : TA} (h : t σ H fun xs H1 => xs.length ≤ sizeLine ∧ ∀ p, H1 p = none → Q (.ref p) (upd H1 p (.tup xs))) : tTup t σ H Q := h
theorem r_cb {σ : L2.St} {r : List V → Hp → VK → Prop} {t : TA} (h : t σ H fun vs H1 => r vs H1 Q) : tCB r t σ H Q := h
theorem r_call {σ : L2.St} {sp : Sp} {E : XK} {t : TA} (h : t σ H fun vs H1 => sp (vs ++ []) H1 Q E) : tCall sp [] E t σ H Q := h
theorem r_bm {σ : L2.St} {T : String} {r : V → List V → Hp → VK → Prop} {to : TE} {t : TA} (h : to σ H fun x H1 => tyV K T x H1 ∧ t σ H1 fun xs H2 => r x xs H2 Q) : tBM K T r to t σ H Q := h
theorem ty_lst {x : Addr} {xs : List V} {P : Prop} (h : SqL K H x xs) (q : P) : tyV K "list" (.ref x) H ∧ P := ⟨Or.inl ⟨rfl, xs, h⟩, q⟩
theorem r_append {l : Addr} {xs : List V} {y : V} (h : H l = some (.lst xs)) (z : xs.length < sizeLine) (q : Q .non (upd H l (.lst (xs ++ [y])))) : rAppend (.ref l) [y] H Q := ⟨l, xs, y, rfl, rfl, h, z, q⟩
def cLen (K : PySem.W.Frag) : List V → Hp → VK → Prop := fun xs H Q => ∃ p ys, xs = [.ref p] ∧ (SqL K H p ys ∨ SqT K H p ys) ∧ Q (.int ys.length) H
theorem call_len {X : Cx} : CallR X (.builtin "len") (cLen X.K) := call_len_seq
theorem r_lenL {p : Addr} {ys : List V} (h : SqL K H p ys) (q : Q (.int ys.length) H) : cLen K [.ref p] H Q := ⟨p, ys, rfl, .inl h, q⟩
theorem r_lenT {p : Addr} {ys : List V} (h : SqT K H p ys) (q : Q (.int ys.length) H) : cLen K [.ref p] H Q := ⟨p, ys, rfl, .inr h, q⟩
def cInt : List V → Hp → VK → Prop := fun xs H Q => (∃ i, xs = [.int i] ∧ Q (.int i) H) ∨ ∃ k, xs = [.bl k] ∧ Q (.int (if k then 1 else 0)) H
theorem call_int {X : Cx} : CallR X (.type "int") cInt := call_int1
theorem r_int {i : Int} (q : Q (.int i) H) : cInt [.int i] H Q := .inl ⟨i, rfl, q⟩
def cIsN : R2 := fun x y H Q => y = .non ∧ Q (.bl (decide (x = .non))) H
def cNotN : R2 := fun x y H Q => y = .non ∧ Q (.bl (!decide (x = .non))) H
theorem op_isN {X : Cx} : OpR X (compareOp .Is) cIsN := L2.op_isN
theorem op_notN {X : Cx} : OpR X (compareOp .IsNot) cNotN := L2.op_notN
theorem r_notN {x : V} (q : Q (.bl (!dB (x = .non))) H) : cNotN x .non H Q := ⟨rfl, q⟩
theorem r_isN {x : V} (q : Q (.bl (dB (x = .non))) H) : cIsN x .non H Q := ⟨rfl, q⟩
theorem r_isi {x c : V} {t u : Value} {b : Bool} (h1 : ClsV c u) (h2 : TyX K H x t) (h3 : PySem.W.kitOne K t u = some b) (q : Q (.bl b) H) : rIsi K [x, c] H Q := ⟨x, c, t, u, b, rfl, h1, h2, h3, q⟩
/-! slices -/
theorem r_sl {σ : L2.St} {r : V → Option Int → Option Int → Hp → VK → Prop} {te : TE} {tl th : TO} (h : te σ H fun x H1 => tl σ H1 fun l H2 => th σ H2 fun u H3 => r x l u H3 Q) : tSl r te tl th σ H Q := h
theorem r_noPart {σ : L2.St} {P : Option Int → Hp → Prop} (q : P none H) : tNoPart σ H P := q
theorem r_part {σ : L2.St} {t : TE} {P : Option Int → Hp → Prop} (h : t σ H fun x H1 => ∃ i, x = .int i ∧ P (some i) H1) : tPart t σ H P := h
theorem r_pint {i : Int} {P : Int → Prop} (q : P i) : ∃ j, V.int i = .int j ∧ P j := ⟨i, rfl, q⟩
theorem r_slL {a : Addr} {xs : List V} {lo hi : Option Int} (h : SqL K H a xs) (q : ∀ p, H p = none → Q (.ref p) (upd H p (.lst (cutV xs lo hi)))) : rSlL K (.ref a) lo hi H Q := ⟨a, xs, rfl, h, q⟩
theorem r_aug {σ σ2 : L2.St} {i : Nat} {te : TE} {ti : TIp} {x : V} (hx : σ[i]? = some (some x)) (h : te σ H fun y H1 => ti x y H1 fun z H2 => D.nx (σ.set i (some z)) H2) : tAug i te ti D σ H := ⟨x, hx, h⟩
/-! loops -/
theorem for_lst {σ : L2.St} {tl : TE} {g : TG} {tb : TS} (h : tl σ H fun x H1 => ∃ a, x = .ref a ∧ (∃ xs, SqL K H1 a xs) ∧ ∃ W : Nat → Nat → L2.St → Hp → Prop, (∃ m, W 0 m σ H1) ∧ ∀ i m σ H, W i m σ H →
  ((Itl K a).stop i H ∧ D.nx σ H) ∨ ((Itl K a).go i H ∧ ∃ N : L2.St → Hp → Prop, (∀ σ' H', N σ' H' → ∃ m', m' < m ∧ W (i + 1) m' σ' H') ∧ ∀ x H', (Itl K a).yld i H x H' → g x σ H' fun σ2 H2 => tb { D with nx := N, ct := N, bk := D.nx } σ2 H2)) : tFor (iList K tl) g tb D σ H := h
theorem lst_go {σ : L2.St} {a : Addr} {xs : List V} {g : TG} {tb : TS} (hs0 : SqL K H a xs) (Pv : Nat → L2.St → Hp → Prop) (h0 : Pv 0 σ H) (hl : ∀ i σ H, i ≤ xs.length → Pv i σ H → SqL K H a xs)
    (hs : ∀ i x σ H, xs[i]? = some x → Pv i σ H → g x σ H fun σ2 H2 => tb { D with nx := Pv (i + 1), ct := Pv (i + 1), bk := D.nx } σ2 H2) (hd : ∀ σ H, Pv xs.length σ H → D.nx σ H) :
    ∃ a', V.ref a = .ref a' ∧ (∃ xs, SqL K H a' xs) ∧ ∃ W : Nat → Nat → L2.St → Hp → Prop, (∃ m, W 0 m σ H) ∧ ∀ i m σ H, W i m σ H →
  ((Itl K a').stop i H ∧ D.nx σ H) ∨ ((Itl K a').go i H ∧ ∃ N : L2.St → Hp → Prop, (∀ σ' H', N σ' H' → ∃ m', m' < m ∧ W (i + 1) m' σ' H') ∧ ∀ x H', (Itl K a').yld i H x H' → g x σ H' fun σ2 H2 => tb { D with nx := N, ct := N, bk := D.nx } σ2 H2) :=
  ⟨a, rfl, ⟨xs, hs0⟩, for_list (K := K) Pv h0 hl hs hd⟩
theorem for_rng {σ : L2.St} {ta : TA} {g : TG} {tb : TS} (h : ta σ H fun vs H1 => ∃ j : Int, vs = [.int j] ∧ -(2 ^ 62) ≤ j ∧ j < 2 ^ 62 ∧ ∃ W : Nat → Nat → L2.St → Hp → Prop, (∃ m, W 0 m σ H1) ∧ ∀ i m σ H, W i m σ H →
  ((Itr 0 j.toNat).stop i H ∧ D.nx σ H) ∨ ((Itr 0 j.toNat).go i H ∧ ∃ N : L2.St → Hp → Prop, (∀ σ' H', N σ' H' → ∃ m', m' < m ∧ W (i + 1) m' σ' H') ∧ ∀ x H', (Itr 0 j.toNat).yld i H x H' → g x σ H' fun σ2 H2 => tb { D with nx := N, ct := N, bk := D.nx } σ2 H2)) : tFor (iRng1 ta) g tb D σ H := h
theorem rng_go {σ : L2.St} {j : Int} {g : TG} {tb : TS} (n : Nat) (hj : j.toNat = n) (hb : -(2 ^ 62) ≤ j ∧ j < 2 ^ 62) (Pv : Nat → L2.St → Hp → Prop) (h0 : Pv 0 σ H)
    (hs : ∀ i σ H, i < n → Pv i σ H → g (.int (i : Nat)) σ H fun σ2 H2 => tb { D with nx := Pv (i + 1), ct := Pv (i + 1), bk := D.nx } σ2 H2) (hd : ∀ σ H, Pv n σ H → D.nx σ H) :
    ∃ j' : Int, [V.int j] = [.int j'] ∧ -(2 ^ 62) ≤ j' ∧ j' < 2 ^ 62 ∧ ∃ W : Nat → Nat → L2.St → Hp → Prop, (∃ m, W 0 m σ H) ∧ ∀ i m σ H, W i m σ H →
  ((Itr 0 j'.toNat).stop i H ∧ D.nx σ H) ∨ ((Itr 0 j'.toNat).go i H ∧ ∃ N : L2.St → Hp → Prop, (∀ σ' H', N σ' H' → ∃ m', m' < m ∧ W (i + 1) m' σ' H') ∧ ∀ x H', (Itr 0 j'.toNat).yld i H x H' → g x σ H' fun σ2 H2 => tb { D with nx := N, ct := N, bk := D.nx } σ2 H2) := by
  subst hj
  refine ⟨j, rfl, hb.1, hb.2, for_range (lo := 0) Pv h0 (fun i σ H hi p => ?_) hd⟩
  have e : (0 : Int) + (i : Nat) = (i : Nat) := Int.zero_add _
  rw [e]
  exact hs i σ H hi p
theorem for_rng2 {σ : L2.St} {ta : TA} {g : TG} {tb : TS} (h : ta σ H fun vs H1 => ∃ i j : Int, vs = [.int i, .int j] ∧ (-(2 ^ 62) ≤ i ∧ i < 2 ^ 62 ∧ -(2 ^ 62) ≤ j ∧ j < 2 ^ 62) ∧ ∃ W : Nat → Nat → L2.St → Hp → Prop, (∃ m, W 0 m σ H1) ∧ ∀ k m σ H, W k m σ H →
  ((Itr i (j - i).toNat).stop k H ∧ D.nx σ H) ∨ ((Itr i (j - i).toNat).go k H ∧ ∃ N : L2.St → Hp → Prop, (∀ σ' H', N σ' H' → ∃ m', m' < m ∧ W (k + 1) m' σ' H') ∧ ∀ x H', (Itr i (j - i).toNat).yld k H x H' → g x σ H' fun σ2 H2 => tb { D with nx := N, ct := N, bk := D.nx } σ2 H2)) : tFor (iRng2 ta) g tb D σ H := h
theorem rng_go2 {σ : L2.St} {a j : Int} {g : TG} {tb : TS} (n : Nat) (hj : (j - a).toNat = n) (hb : -(2 ^ 62) ≤ a ∧ a < 2 ^ 62 ∧ -(2 ^ 62) ≤ j ∧ j < 2 ^ 62) (Pv : Nat → L2.St → Hp → Prop) (h0 : Pv 0 σ H)
    (hs : ∀ i σ H, i < n → Pv i σ H → g (.int (a + (i : Nat))) σ H fun σ2 H2 => tb { D with nx := Pv (i + 1), ct := Pv (i + 1), bk := D.nx } σ2 H2) (hd : ∀ σ H, Pv n σ H → D.nx σ H) :
    ∃ i' j' : Int, [V.int a, V.int j] = [.int i', .int j'] ∧ (-(2 ^ 62) ≤ i' ∧ i' < 2 ^ 62 ∧ -(2 ^ 62) ≤ j' ∧ j' < 2 ^ 62) ∧ ∃ W : Nat → Nat → L2.St → Hp → Prop, (∃ m, W 0 m σ H) ∧ ∀ k m σ H, W k m σ H →
  ((Itr i' (j' - i').toNat).stop k H ∧ D.nx σ H) ∨ ((Itr i' (j' - i').toNat).go k H ∧ ∃ N : L2.St → Hp → Prop, (∀ σ' H', N σ' H' → ∃ m', m' < m ∧ W (k + 1) m' σ' H') ∧ ∀ x H', (Itr i' (j' - i').toNat).yld k H x H' → g x σ H' fun σ2 H2 => tb { D with nx := N, ct := N, bk := D.nx } σ2 H2) := by
  subst hj
  exact ⟨a, j, rfl, hb, for_range (lo := a) Pv h0 hs hd⟩
end
theorem for_enum {D : Ends} {H : Hp} {K : PySem.W.Frag} {σ : L2.St} {ta : TA} {g : TG} {tb : TS} (h : ta σ H fun vs H1 => ∃ a xs, vs = [.ref a] ∧ SqL K H1 a xs ∧ ∃ W : Nat → Nat → L2.St → Hp → Prop, (∃ m, W 0 m σ H1) ∧ ∀ i m σ H, W i m σ H →
  ((Ite K a).stop i H ∧ D.nx σ H) ∨ ((Ite K a).go i H ∧ ∃ N : L2.St → Hp → Prop, (∀ σ' H', N σ' H' → ∃ m', m' < m ∧ W (i + 1) m' σ' H') ∧ ∀ x H', (Ite K a).yld i H x H' → g x σ H' fun σ2 H2 => tb { D with nx := N, ct := N, bk := D.nx } σ2 H2)) : tFor (iEnum K ta) g tb D σ H := h
theorem enum_go {D : Ends} {H : Hp} {K : PySem.W.Frag} {σ : L2.St} {a : Addr} {xs : List V} {g : TG} {tb : TS} (hs0 : SqL K H a xs) (Pv : Nat → L2.St → Hp → Prop) (h0 : Pv 0 σ H) (hl : ∀ i σ H, i ≤ xs.length → Pv i σ H → SqL K H a xs)
    (hs : ∀ i x σ H T, xs[i]? = some x → Pv i σ H → H T = none → g (.ref T) σ (upd H T (.tup [.int (i : Nat), x])) fun σ2 H2 => tb { D with nx := Pv (i + 1), ct := Pv (i + 1), bk := D.nx } σ2 H2) (hd : ∀ σ H, Pv xs.length σ H → D.nx σ H) :
    ∃ a' xs', [V.ref a] = [.ref a'] ∧ SqL K H a' xs' ∧ ∃ W : Nat → Nat → L2.St → Hp → Prop, (∃ m, W 0 m σ H) ∧ ∀ i m σ H, W i m σ H →
  ((Ite K a').stop i H ∧ D.nx σ H) ∨ ((Ite K a').go i H ∧ ∃ N : L2.St → Hp → Prop, (∀ σ' H', N σ' H' → ∃ m', m' < m ∧ W (i + 1) m' σ' H') ∧ ∀ x H', (Ite K a').yld i H x H' → g x σ H' fun σ2 H2 => tb { D with nx := N, ct := N, bk := D.nx } σ2 H2) := by
  refine ⟨a, xs, rfl, hs0, fun i m σ H => m = xs.length - i ∧ i ≤ xs.length ∧ Pv i σ H, ⟨xs.length, by simp, Nat.zero_le _, h0⟩, ?_⟩
  rintro i m σ H ⟨rfl, hi, p⟩
  have q := hl i σ H hi p
  by_cases hlt : i < xs.length
  · refine .inr ⟨⟨xs, xs[i], q, by simp [hlt]⟩, Pv (i + 1), fun σ' H' p' => ⟨xs.length - (i + 1), by omega, rfl, hlt, p'⟩, fun x H' y => ?_⟩
    obtain ⟨T, x, rfl, hT, rfl, hx⟩ := y
    exact hs i x σ H T (hx xs q) p hT
  · have e : i = xs.length := by omega
    subst e
    exact .inl ⟨⟨xs, q, Nat.le_refl _⟩, hd σ H p⟩
theorem r_pair {H : Hp} {K : PySem.W.Frag} {σ σ2 : L2.St} {i j : Nat} {T : Addr} {x y : V} {k : L2.St → Hp → Prop} (hT : H T = some (.tup [x, y])) (hs : (σ.set i (some x)).set j (some y) = σ2) (h : k σ2 H) :
    gTup K 2 (gCons (gName i) (gCons (gName j) gNil)) (.ref T) σ H k := by
  subst hs
  exact ⟨T, [x, y], rfl, .inl (.inl hT), rfl, x, [y], rfl, y, [], rfl, rfl, h⟩
theorem r_three {H : Hp} {K : PySem.W.Frag} {σ σ2 : L2.St} {i j l : Nat} {T : Addr} {x y z : V} {k : L2.St → Hp → Prop} (hT : H T = some (.tup [x, y, z])) (hs : ((σ.set i (some x)).set j (some y)).set l (some z) = σ2) (h : k σ2 H) :
    gTup K 3 (gCons (gName i) (gCons (gName j) (gCons (gName l) gNil))) (.ref T) σ H k := by
  subst hs
  exact ⟨T, [x, y, z], rfl, .inl (.inl hT), rfl, x, [y, z], rfl, y, [z], rfl, z, [], rfl, rfl, h⟩
theorem r_gsub {H : Hp} {σ : L2.St} {to ti : TE} {t : TSet} {v : V} {k : L2.St → Hp → Prop} (h : to σ H fun o H1 => ti σ H1 fun i H2 => t o i v H2 fun H3 => k σ H3) : gSub to ti t v σ H k := h
theorem r_setL {H : Hp} {p : Addr} {xs : List V} {k : Int} {j : Nat} {v : V} {Q : Hp → Prop} (hp : H p = some (.lst xs)) (e : k = (j : Int)) (hj : j < xs.length) (q : Q (upd H p (.lst (xs.set j v)))) : rSetL (.ref p) (.int k) v H Q := by
  subst e
  refine ⟨p, xs, (j : Int), j, rfl, rfl, hp, ?_, q⟩
  unfold ixN
  rw [if_pos (by omega), if_pos (by omega), Int.toNat_natCast]
theorem r_rep {H : Hp} {Q : VK} {l : Addr} {k : Int} {v : V} (hl : H l = some (.lst [v])) (h1 : -(2 ^ 63) ≤ k) (h2 : k < 100000) (q : ∀ p, H p = none → Q (.ref p) (upd H p (.lst (List.replicate k.toNat v)))) : rRep (.ref l) (.int k) H Q := by
  refine ⟨l, k, [v], rfl, rfl, hl, h1, Int.lt_trans h2 (by decide), sz (by show 1 * k.toNat ≤ 100000; omega), fun p hp => ?_⟩
  have e : (List.replicate k.toNat [v]).flatten = List.replicate k.toNat v := by
    generalize k.toNat = n
    induction n with
    | zero => rfl
    | succ n ih => rw [List.replicate_succ, List.flatten_cons, ih, List.replicate_succ]; rfl
  rw [e]
  exact q p hp
theorem r_cat {H : Hp} {Q : VK} {l b : Addr} {xs zs : List V} (hl : H l = some (.lst xs)) (hb : H b = some (.lst zs)) (hz : xs.length + zs.length ≤ 100000) (q : ∀ p, H p = none → Q (.ref p) (upd H p (.lst (xs ++ zs)))) : rCat (.ref l) (.ref b) H Q :=
  ⟨l, b, xs, zs, rfl, rfl, hl, hb, sz hz, q⟩
def cList (K : PySem.W.Frag) : List V → Hp → VK → Prop := fun xs H Q => ∃ p ys, xs = [.ref p] ∧ (SqL K H p ys ∨ SqT K H p ys) ∧ ∀ l, H l = none → Q (.ref l) (upd H l (.lst ys))
theorem call_list {X : Cx} : CallR X (.type "list") (cList X.K) := call_list_of
theorem r_list {H : Hp} {K : PySem.W.Frag} {Q : VK} {p : Addr} {ys : List V} (h : SqL K H p ys) (q : ∀ l, H l = none → Q (.ref l) (upd H l (.lst ys))) : cList K [.ref p] H Q := ⟨p, ys, rfl, .inl h, q⟩
theorem r_intB {H : Hp} {Q : VK} {b : Bool} (q : Q (.int (if b then 1 else 0)) H) : cInt [.bl b] H Q := .inr ⟨b, rfl, q⟩
/-! two lists of ints compared -/
theorem dp_ints {K : PySem.W.Frag} {H : Hp} : ∀ ns : List Int, DpAll K H (ns.map V.int) (ns.map PyData.int)
  | [] => .nil
  | n :: r => .cons (.int n) (dp_ints r)
theorem depth_ints : ∀ ns : List Int, PyData.depthAll (ns.map PyData.int) = 0
  | [] => rfl
  | n :: r => by
    show max 0 (PyData.depthAll (r.map PyData.int)) = 0
    rw [depth_ints r]; rfl
theorem lay_ints : ∀ ns : List Int, PyData.canLayAll0 (ns.map PyData.int) = true
  | [] => rfl
  | n :: r => by
    show (true && PyData.canLayAll0 (r.map PyData.int)) = true
    rw [lay_ints r]; rfl
theorem shaped_ints (ns : List Int) : SeqAt.shaped (.list (ns.map PyData.int)) = true := by
  have h1 : (PyData.list (ns.map PyData.int)).canLay0 = true := lay_ints ns
  have h2 : (PyData.list (ns.map PyData.int)).depth ≤ 64 := by
    show PyData.depthAll (ns.map PyData.int) + 1 ≤ 64
    rw [depth_ints ns]; decide
  unfold SeqAt.shaped
  rw [h1, decide_eq_true h2]; rfl
theorem eqv_ints : ∀ ns : List Int, PyData.eqv (.list (ns.map PyData.int)) (.list (ns.map PyData.int)) = true := by
  intro ns
  unfold PyData.eqv
  induction ns with
  | nil => rfl
  | cons n r ih => simp [PyData.eqvAll, PyData.eqv, ih]
theorem r_eqL {H : Hp} {K : PySem.W.Frag} {Q : VK} {a b : Addr} {ns : List Int} (ha : SqL K H a (ns.map V.int)) (hb : SqL K H b (ns.map V.int)) (q : Q (.bl true) H) : rEqD K (.ref a) (.ref b) H Q :=
  ⟨_, _, .lst ha (dp_ints ns), .lst hb (dp_ints ns), shaped_ints ns, shaped_ints ns, by rw [eqv_ints]; exact q⟩
theorem eqv_ints2 : ∀ ns ms : List Int, PyData.eqv (.list (ns.map PyData.int)) (.list (ms.map PyData.int)) = dB (ns = ms) := by
  intro ns
  induction ns with
  | nil =>
    intro ms
    cases ms with
    | nil => rw [dB_t rfl]; simp [PyData.eqv, PyData.eqvAll]
    | cons m r => rw [dB_f (by simp)]; simp [PyData.eqv, PyData.eqvAll]
  | cons n ns ih =>
    intro ms
    cases ms with
    | nil => rw [dB_f (by simp)]; simp [PyData.eqv, PyData.eqvAll]
    | cons m r =>
      have i2 := ih r
      unfold PyData.eqv at i2
      have e : PyData.eqv (.list ((n :: ns).map PyData.int)) (.list ((m :: r).map PyData.int)) = ((n == m) && PyData.eqv (.list (ns.map PyData.int)) (.list (r.map PyData.int))) := by
        unfold PyData.eqv
        simp [PyData.eqvAll, PyData.eqv]
      rw [e, ih r]
      by_cases h : n = m
      · subst h
        by_cases h2 : ns = r
        · subst h2; rw [dB_t rfl, dB_t rfl]; simp
        · rw [dB_f h2, dB_f (by intro z; injection z with _ z; exact h2 z)]; simp
      · rw [dB_f (p := n :: ns = m :: r) (by intro z; injection z with z _; exact h z)]; simp [h]
theorem r_eqL2 {H : Hp} {K : PySem.W.Frag} {Q : VK} {a b : Addr} {ns ms : List Int} (ha : SqL K H a (ns.map V.int)) (hb : SqL K H b (ms.map V.int)) (q : Q (.bl (dB (ns = ms))) H) : rEqD K (.ref a) (.ref b) H Q :=
  ⟨_, _, .lst ha (dp_ints ns), .lst hb (dp_ints ms), shaped_ints ns, shaped_ints ms, by rw [eqv_ints2]; exact q⟩
theorem r_sum {K : PySem.W.Frag} {H : Hp} {Q : VK} {a : Addr} {ns : List Int} (h : SqL K H a (ns.map V.int)) (q : Q (.int ns.sum) H) : rSum K [.ref a] H Q := ⟨a, ns, rfl, h, q⟩
/-! comprehensions whose elements leave all as it was -/
theorem lc_rng {H : Hp} {Q : VK} {σ : L2.St} {ta : TA} {g : TG} {tt : TT} {te : TE} {vs : List Nat} (h : ta σ H fun ws H1 => ∃ j : Int, ws = [V.int j] ∧ -(2 ^ 62) ≤ j ∧ j < 2 ^ 62 ∧ ∀ D, H1 D = none → ∃ W : Nat → Nat → Hp → Prop, (∃ m, W 0 m (upd H1 D (.lst []))) ∧ ∀ i m H, W i m H →
  ((Itr 0 j.toNat).stop i H ∧ Q (.ref D) H) ∨ ((Itr 0 j.toNat).go i H ∧ ∃ Nx : Hp → Prop, (∀ H', Nx H' → ∃ m', m' < m ∧ W (i + 1) m' H') ∧ ∀ x H', (Itr 0 j.toNat).yld i H x H' → g x (wipe σ vs) H' fun σ2 H2 => wipe σ2 vs = wipe σ vs ∧ tt σ2 H2 fun b H3 =>
    if b = true then te σ2 H3 fun y H4 => ∃ acc, H4 D = some (.lst acc) ∧ acc.length < sizeLine ∧ Nx (upd H4 D (.lst (acc ++ [y]))) else Nx H3)) : tLc (iRng1 ta) g tt te vs σ H Q := h
theorem lc_lst {H : Hp} {K : PySem.W.Frag} {Q : VK} {σ : L2.St} {tl : TE} {g : TG} {tt : TT} {te : TE} {vs : List Nat} (h : tl σ H fun x H1 => ∃ a, x = .ref a ∧ (∃ xs, SqL K H1 a xs) ∧ ∀ D, H1 D = none → ∃ W : Nat → Nat → Hp → Prop, (∃ m, W 0 m (upd H1 D (.lst []))) ∧ ∀ i m H, W i m H →
  ((Itl K a).stop i H ∧ Q (.ref D) H) ∨ ((Itl K a).go i H ∧ ∃ Nx : Hp → Prop, (∀ H', Nx H' → ∃ m', m' < m ∧ W (i + 1) m' H') ∧ ∀ x H', (Itl K a).yld i H x H' → g x (wipe σ vs) H' fun σ2 H2 => wipe σ2 vs = wipe σ vs ∧ tt σ2 H2 fun b H3 =>
    if b = true then te σ2 H3 fun y H4 => ∃ acc, H4 D = some (.lst acc) ∧ acc.length < sizeLine ∧ Nx (upd H4 D (.lst (acc ++ [y]))) else Nx H3)) : tLc (iList K tl) g tt te vs σ H Q := h
theorem lcr_pure {H1 : Hp} {Qd : Addr → Hp → Prop} {σ : L2.St} {te : TE} {vs : List Nat} {sl : Nat} {j : Int} (n : Nat) (f : Nat → V) (hj : j.toNat = n) (hb : -(2 ^ 62) ≤ j ∧ j < 2 ^ 62) (hz : n ≤ 100000) (hw : ∀ v : Option V, wipe ((wipe σ vs).set sl v) vs = wipe σ vs)
    (hs : ∀ i H2, i < n → Same H1 H2 → ∀ k : VK, (∀ H5, Same H2 H5 → k (f i) H5) → te ((wipe σ vs).set sl (some (V.int (i : Nat)))) H2 k)
    (hd : ∀ D H2, H1 D = none → Same H1 H2 → H2 D = some (.lst ((List.range n).map f)) → Qd D H2) :
    ∃ j' : Int, [V.int j] = [V.int j'] ∧ -(2 ^ 62) ≤ j' ∧ j' < 2 ^ 62 ∧ ∀ D, H1 D = none → ∃ W : Nat → Nat → Hp → Prop, (∃ m, W 0 m (upd H1 D (.lst []))) ∧ ∀ i m H, W i m H →
  ((Itr 0 j'.toNat).stop i H ∧ Qd D H) ∨ ((Itr 0 j'.toNat).go i H ∧ ∃ Nx : Hp → Prop, (∀ H', Nx H' → ∃ m', m' < m ∧ W (i + 1) m' H') ∧ ∀ x H', (Itr 0 j'.toNat).yld i H x H' → gName sl x (wipe σ vs) H' fun σ2 H2 => wipe σ2 vs = wipe σ vs ∧ tYes σ2 H2 fun b H3 =>
    if b = true then te σ2 H3 fun y H4 => ∃ acc, H4 D = some (.lst acc) ∧ acc.length < sizeLine ∧ Nx (upd H4 D (.lst (acc ++ [y]))) else Nx H3) := by
  refine ⟨j, rfl, hb.1, hb.2, fun D hD => ?_⟩
  subst hj
  refine lc_range (lo := 0) (fun i H2 => Same H1 H2 ∧ H2 D = some (.lst ((List.range i).map f))) ⟨s_upd hD, upd_same⟩ (fun i H2 hi ⟨s2, hl⟩ => ?_) (fun H2 ⟨s2, hl⟩ => hd D H2 hD s2 hl)
  have e : (0 : Int) + (i : Nat) = (i : Nat) := Int.zero_add _
  rw [e]
  refine ⟨hw _, i_t (B := Same H1 H2 ∧ H2 D = some (.lst ((List.range (i + 1)).map f))) ?_⟩
  refine (hs i H2 hi s2 _ fun H5 s5 => ⟨_, s5 _ _ hl, szl (by rw [List.length_map, List.length_range]; omega), s_mut (s2.trans s5) hD, ?_⟩)
  rw [List.range_succ, List.map_append]
  exact upd_same
theorem lcl_pure {H1 : Hp} {K : PySem.W.Frag} {Qd : Addr → Hp → Prop} {σ : L2.St} {te : TE} {vs : List Nat} {sl : Nat} {a : Addr} {xs : List V} (f : V → V) (hx : SqL K H1 a xs) (hz : xs.length ≤ 100000) (hw : ∀ v : Option V, wipe ((wipe σ vs).set sl v) vs = wipe σ vs)
    (hs : ∀ (i : Nat) x H2, xs[i]? = some x → Same H1 H2 → ∀ k : VK, (∀ H5, Same H2 H5 → k (f x) H5) → te ((wipe σ vs).set sl (some x)) H2 k)
    (hd : ∀ D H2, H1 D = none → Same H1 H2 → H2 D = some (.lst (xs.map f)) → Qd D H2) :
    ∃ a', V.ref a = .ref a' ∧ (∃ xs, SqL K H1 a' xs) ∧ ∀ D, H1 D = none → ∃ W : Nat → Nat → Hp → Prop, (∃ m, W 0 m (upd H1 D (.lst []))) ∧ ∀ i m H, W i m H →
  ((Itl K a').stop i H ∧ Qd D H) ∨ ((Itl K a').go i H ∧ ∃ Nx : Hp → Prop, (∀ H', Nx H' → ∃ m', m' < m ∧ W (i + 1) m' H') ∧ ∀ x H', (Itl K a').yld i H x H' → gName sl x (wipe σ vs) H' fun σ2 H2 => wipe σ2 vs = wipe σ vs ∧ tYes σ2 H2 fun b H3 =>
    if b = true then te σ2 H3 fun y H4 => ∃ acc, H4 D = some (.lst acc) ∧ acc.length < sizeLine ∧ Nx (upd H4 D (.lst (acc ++ [y]))) else Nx H3) := by
  refine ⟨a, rfl, ⟨xs, hx⟩, fun D hD => ?_⟩
  refine lc_list (K := K) (xs := xs) (fun i H2 => Same H1 H2 ∧ H2 D = some (.lst ((xs.take i).map f))) ⟨s_upd hD, upd_same⟩ (fun i H2 _ p => p.1.seq hx) (fun i x H2 hi ⟨s2, hl⟩ => ?_) (fun H2 ⟨s2, hl⟩ => hd D H2 hD s2 (by rw [List.take_length] at hl; exact hl))
  have hlt := (List.getElem?_eq_some_iff.mp hi).1
  refine ⟨hw _, i_t (B := Same H1 H2 ∧ H2 D = some (.lst ((xs.take (i + 1)).map f))) ?_⟩
  refine (hs i x H2 hi s2 _ fun H5 s5 => ⟨_, s5 _ _ hl, szl (by rw [List.length_map, List.length_take]; omega), s_mut (s2.trans s5) hD, ?_⟩)
  rw [List.take_add_one, hi, List.map_append]
  exact upd_same
theorem lcl_idx {H1 : Hp} {K : PySem.W.Frag} {Qd : Addr → Hp → Prop} {σ : L2.St} {te : TE} {vs : List Nat} {sl : Nat} {a : Addr} {xs : List V} (f : Nat → V) (hx : SqL K H1 a xs) (hz : xs.length ≤ 100000) (hw : ∀ v : Option V, wipe ((wipe σ vs).set sl v) vs = wipe σ vs)
    (hs : ∀ (i : Nat) x H2, xs[i]? = some x → Same H1 H2 → ∀ k : VK, (∀ H5, Same H2 H5 → k (f i) H5) → te ((wipe σ vs).set sl (some x)) H2 k)
    (hd : ∀ D H2, H1 D = none → Same H1 H2 → H2 D = some (.lst ((List.range xs.length).map f)) → Qd D H2) :
    ∃ a', V.ref a = .ref a' ∧ (∃ xs, SqL K H1 a' xs) ∧ ∀ D, H1 D = none → ∃ W : Nat → Nat → Hp → Prop, (∃ m, W 0 m (upd H1 D (.lst []))) ∧ ∀ i m H, W i m H →
  ((Itl K a').stop i H ∧ Qd D H) ∨ ((Itl K a').go i H ∧ ∃ Nx : Hp → Prop, (∀ H', Nx H' → ∃ m', m' < m ∧ W (i + 1) m' H') ∧ ∀ x H', (Itl K a').yld i H x H' → gName sl x (wipe σ vs) H' fun σ2 H2 => wipe σ2 vs = wipe σ vs ∧ tYes σ2 H2 fun b H3 =>
    if b = true then te σ2 H3 fun y H4 => ∃ acc, H4 D = some (.lst acc) ∧ acc.length < sizeLine ∧ Nx (upd H4 D (.lst (acc ++ [y]))) else Nx H3) := by
  refine ⟨a, rfl, ⟨xs, hx⟩, fun D hD => ?_⟩
  refine lc_list (K := K) (xs := xs) (fun i H2 => Same H1 H2 ∧ H2 D = some (.lst ((List.range i).map f))) ⟨s_upd hD, upd_same⟩ (fun i H2 _ p => p.1.seq hx) (fun i x H2 hi ⟨s2, hl⟩ => ?_) (fun H2 ⟨s2, hl⟩ => hd D H2 hD s2 hl)
  have hlt := (List.getElem?_eq_some_iff.mp hi).1
  refine ⟨hw _, i_t (B := Same H1 H2 ∧ H2 D = some (.lst ((List.range (i + 1)).map f))) ?_⟩
  refine (hs i x H2 hi s2 _ fun H5 s5 => ⟨_, s5 _ _ hl, szl (by rw [List.length_map, List.length_range]; omega), s_mut (s2.trans s5) hD, ?_⟩)
  rw [List.range_succ, List.map_append]
  exact upd_same
theorem lc_rng2 {H : Hp} {Q : VK} {σ : L2.St} {ta : TA} {g : TG} {tt : TT} {te : TE} {vs : List Nat} (h : ta σ H fun ws H1 => ∃ a j : Int, ws = [V.int a, V.int j] ∧ (-(2 ^ 62) ≤ a ∧ a < 2 ^ 62 ∧ -(2 ^ 62) ≤ j ∧ j < 2 ^ 62) ∧ ∀ D, H1 D = none → ∃ W : Nat → Nat → Hp → Prop, (∃ m, W 0 m (upd H1 D (.lst []))) ∧ ∀ i m H, W i m H →
  ((Itr a (j - a).toNat).stop i H ∧ Q (.ref D) H) ∨ ((Itr a (j - a).toNat).go i H ∧ ∃ Nx : Hp → Prop, (∀ H', Nx H' → ∃ m', m' < m ∧ W (i + 1) m' H') ∧ ∀ x H', (Itr a (j - a).toNat).yld i H x H' → g x (wipe σ vs) H' fun σ2 H2 => wipe σ2 vs = wipe σ vs ∧ tt σ2 H2 fun b H3 =>
    if b = true then te σ2 H3 fun y H4 => ∃ acc, H4 D = some (.lst acc) ∧ acc.length < sizeLine ∧ Nx (upd H4 D (.lst (acc ++ [y]))) else Nx H3)) : tLc (iRng2 ta) g tt te vs σ H Q := h
/-- a comprehension over range(a, j) with a test; elements and tests leave all as it was -/
theorem lcr2_filt {H1 : Hp} {Qd : Addr → Hp → Prop} {σ : L2.St} {tt : TT} {te : TE} {vs : List Nat} {sl : Nat} {a j : Int} (n : Nat) (p : Nat → Bool) (f : Nat → V) (hj : (j - a).toNat = n) (hb : -(2 ^ 62) ≤ a ∧ a < 2 ^ 62 ∧ -(2 ^ 62) ≤ j ∧ j < 2 ^ 62) (hz : n ≤ 100000) (hw : ∀ v : Option V, wipe ((wipe σ vs).set sl v) vs = wipe σ vs)
    (ht : ∀ i H2, i < n → Same H1 H2 → ∀ k : Bool → Hp → Prop, (∀ H5, Same H2 H5 → k (p i) H5) → tt ((wipe σ vs).set sl (some (V.int (a + (i : Nat))))) H2 k)
    (hs : ∀ i H2, i < n → Same H1 H2 → ∀ k : VK, (∀ H5, Same H2 H5 → k (f i) H5) → te ((wipe σ vs).set sl (some (V.int (a + (i : Nat))))) H2 k)
    (hd : ∀ D H2, H1 D = none → Same H1 H2 → H2 D = some (.lst (((List.range n).filter p).map f)) → Qd D H2) :
    ∃ a' j' : Int, [V.int a, V.int j] = [V.int a', V.int j'] ∧ (-(2 ^ 62) ≤ a' ∧ a' < 2 ^ 62 ∧ -(2 ^ 62) ≤ j' ∧ j' < 2 ^ 62) ∧ ∀ D, H1 D = none → ∃ W : Nat → Nat → Hp → Prop, (∃ m, W 0 m (upd H1 D (.lst []))) ∧ ∀ i m H, W i m H →
  ((Itr a' (j' - a').toNat).stop i H ∧ Qd D H) ∨ ((Itr a' (j' - a').toNat).go i H ∧ ∃ Nx : Hp → Prop, (∀ H', Nx H' → ∃ m', m' < m ∧ W (i + 1) m' H') ∧ ∀ x H', (Itr a' (j' - a').toNat).yld i H x H' → gName sl x (wipe σ vs) H' fun σ2 H2 => wipe σ2 vs = wipe σ vs ∧ tt σ2 H2 fun b H3 =>
    if b = true then te σ2 H3 fun y H4 => ∃ acc, H4 D = some (.lst acc) ∧ acc.length < sizeLine ∧ Nx (upd H4 D (.lst (acc ++ [y]))) else Nx H3) := by
  refine ⟨a, j, rfl, hb, fun D hD => ?_⟩
  subst hj
  refine lc_range (lo := a) (fun i H2 => Same H1 H2 ∧ H2 D = some (.lst (((List.range i).filter p).map f))) ⟨s_upd hD, upd_same⟩ (fun i H2 hi ⟨s2, hl⟩ => ?_) (fun H2 ⟨s2, hl⟩ => hd D H2 hD s2 hl)
  refine ⟨hw _, ht i H2 hi s2 _ fun H5 s5 => ?_⟩
  have hl5 := s5 _ _ hl
  cases hp : p i with
  | true =>
    refine i_t ?_
    refine (hs i H5 hi (s2.trans s5) _ fun H6 s6 => ⟨_, s6 _ _ hl5, szl ?_, s_mut ((s2.trans s5).trans s6) hD, ?_⟩)
    · rw [List.length_map]
      have := List.length_filter_le p (List.range i)
      rw [List.length_range] at this
      omega
    · rw [List.range_succ, List.filter_append, List.filter_cons, hp, if_pos rfl, List.filter_nil, List.map_append]
      exact upd_same
  | false =>
    refine i_f ⟨s2.trans s5, ?_⟩
    rw [List.range_succ, List.filter_append, List.filter_cons, hp, if_neg Bool.false_ne_true, List.filter_nil, List.append_nil]
    exact hl5
theorem lcr_filt {H1 : Hp} {Qd : Addr → Hp → Prop} {σ : L2.St} {tt : TT} {te : TE} {vs : List Nat} {sl : Nat} {j : Int} (n : Nat) (p : Nat → Bool) (f : Nat → V) (hj : j.toNat = n) (hb : -(2 ^ 62) ≤ j ∧ j < 2 ^ 62) (hz : n ≤ 100000) (hw : ∀ v : Option V, wipe ((wipe σ vs).set sl v) vs = wipe σ vs)
    (ht : ∀ i H2, i < n → Same H1 H2 → ∀ k : Bool → Hp → Prop, (∀ H5, Same H2 H5 → k (p i) H5) → tt ((wipe σ vs).set sl (some (V.int (i : Nat)))) H2 k)
    (hs : ∀ i H2, i < n → Same H1 H2 → ∀ k : VK, (∀ H5, Same H2 H5 → k (f i) H5) → te ((wipe σ vs).set sl (some (V.int (i : Nat)))) H2 k)
    (hd : ∀ D H2, H1 D = none → Same H1 H2 → H2 D = some (.lst (((List.range n).filter p).map f)) → Qd D H2) :
    ∃ j' : Int, [V.int j] = [V.int j'] ∧ -(2 ^ 62) ≤ j' ∧ j' < 2 ^ 62 ∧ ∀ D, H1 D = none → ∃ W : Nat → Nat → Hp → Prop, (∃ m, W 0 m (upd H1 D (.lst []))) ∧ ∀ i m H, W i m H →
  ((Itr 0 j'.toNat).stop i H ∧ Qd D H) ∨ ((Itr 0 j'.toNat).go i H ∧ ∃ Nx : Hp → Prop, (∀ H', Nx H' → ∃ m', m' < m ∧ W (i + 1) m' H') ∧ ∀ x H', (Itr 0 j'.toNat).yld i H x H' → gName sl x (wipe σ vs) H' fun σ2 H2 => wipe σ2 vs = wipe σ vs ∧ tt σ2 H2 fun b H3 =>
    if b = true then te σ2 H3 fun y H4 => ∃ acc, H4 D = some (.lst acc) ∧ acc.length < sizeLine ∧ Nx (upd H4 D (.lst (acc ++ [y]))) else Nx H3) := by
  refine ⟨j, rfl, hb.1, hb.2, fun D hD => ?_⟩
  subst hj
  refine lc_range (lo := 0) (fun i H2 => Same H1 H2 ∧ H2 D = some (.lst (((List.range i).filter p).map f))) ⟨s_upd hD, upd_same⟩ (fun i H2 hi ⟨s2, hl⟩ => ?_) (fun H2 ⟨s2, hl⟩ => hd D H2 hD s2 hl)
  have e0 : (0 : Int) + (i : Nat) = (i : Nat) := Int.zero_add _
  rw [e0]
  refine ⟨hw _, ht i H2 hi s2 _ fun H5 s5 => ?_⟩
  have hl5 := s5 _ _ hl
  cases hp : p i with
  | true =>
    refine i_t ?_
    refine (hs i H5 hi (s2.trans s5) _ fun H6 s6 => ⟨_, s6 _ _ hl5, szl ?_, s_mut ((s2.trans s5).trans s6) hD, ?_⟩)
    · rw [List.length_map]
      have := List.length_filter_le p (List.range i)
      rw [List.length_range] at this
      omega
    · rw [List.range_succ, List.filter_append, List.filter_cons, hp, if_pos rfl, List.filter_nil, List.map_append]
      exact upd_same
  | false =>
    refine i_f ⟨s2.trans s5, ?_⟩
    rw [List.range_succ, List.filter_append, List.filter_cons, hp, if_neg Bool.false_ne_true, List.filter_nil, List.append_nil]
    exact hl5
/-! ranges with a step -/
theorem for_rng3 {D : Ends} {H : Hp} {σ : L2.St} {ta : TA} {g : TG} {tb : TS} (h : ta σ H fun vs H1 => ∃ (i j c : Int) (n : Nat), vs = [V.int i, V.int j, V.int c] ∧ RgC i j c n ∧ ∃ W : Nat → Nat → L2.St → Hp → Prop, (∃ m, W 0 m σ H1) ∧ ∀ k m σ H, W k m σ H →
  ((Itc i c n).stop k H ∧ D.nx σ H) ∨ ((Itc i c n).go k H ∧ ∃ N : L2.St → Hp → Prop, (∀ σ' H', N σ' H' → ∃ m', m' < m ∧ W (k + 1) m' σ' H') ∧ ∀ x H', (Itc i c n).yld k H x H' → g x σ H' fun σ2 H2 => tb { D with nx := N, ct := N, bk := D.nx } σ2 H2)) : tFor (iRng3 ta) g tb D σ H := h
theorem rng_go3 {D : Ends} {H1 : Hp} {σ : L2.St} {a j c : Int} {g : TG} {tb : TS} (n : Nat) (hr : RgC a j c n) (Pv : Nat → L2.St → Hp → Prop) (h0 : Pv 0 σ H1)
    (hs : ∀ i σ H, i < n → Pv i σ H → g (V.int (a + (i : Nat) * c)) σ H fun σ2 H2 => tb { D with nx := Pv (i + 1), ct := Pv (i + 1), bk := D.nx } σ2 H2) (hd : ∀ σ H, Pv n σ H → D.nx σ H) :
    ∃ (i' j' c' : Int) (n' : Nat), [V.int a, V.int j, V.int c] = [V.int i', V.int j', V.int c'] ∧ RgC i' j' c' n' ∧ ∃ W : Nat → Nat → L2.St → Hp → Prop, (∃ m, W 0 m σ H1) ∧ ∀ k m σ H, W k m σ H →
  ((Itc i' c' n').stop k H ∧ D.nx σ H) ∨ ((Itc i' c' n').go k H ∧ ∃ N : L2.St → Hp → Prop, (∀ σ' H', N σ' H' → ∃ m', m' < m ∧ W (k + 1) m' σ' H') ∧ ∀ x H', (Itc i' c' n').yld k H x H' → g x σ H' fun σ2 H2 => tb { D with nx := N, ct := N, bk := D.nx } σ2 H2) :=
  ⟨a, j, c, n, rfl, hr, for_rangeC (lo := a) (c := c) Pv h0 hs hd⟩
theorem lc_rng3 {H : Hp} {Q : VK} {σ : L2.St} {ta : TA} {g : TG} {tt : TT} {te : TE} {vs : List Nat} (h : ta σ H fun ws H1 => ∃ (lo j c : Int) (n : Nat), ws = [V.int lo, V.int j, V.int c] ∧ RgC lo j c n ∧ ∀ D, H1 D = none → ∃ W : Nat → Nat → Hp → Prop, (∃ m, W 0 m (upd H1 D (.lst []))) ∧ ∀ i m H, W i m H →
  ((Itc lo c n).stop i H ∧ Q (.ref D) H) ∨ ((Itc lo c n).go i H ∧ ∃ Nx : Hp → Prop, (∀ H', Nx H' → ∃ m', m' < m ∧ W (i + 1) m' H') ∧ ∀ x H', (Itc lo c n).yld i H x H' → g x (wipe σ vs) H' fun σ2 H2 => wipe σ2 vs = wipe σ vs ∧ tt σ2 H2 fun b H3 =>
    if b = true then te σ2 H3 fun y H4 => ∃ acc, H4 D = some (.lst acc) ∧ acc.length < sizeLine ∧ Nx (upd H4 D (.lst (acc ++ [y]))) else Nx H3)) : tLc (iRng3 ta) g tt te vs σ H Q := h
theorem lcr3_pure {H1 : Hp} {Qd : Addr → Hp → Prop} {σ : L2.St} {te : TE} {vs : List Nat} {sl : Nat} {a j c : Int} (n : Nat) (f : Nat → V) (hr : RgC a j c n) (hz : n ≤ 100000) (hw : ∀ v : Option V, wipe ((wipe σ vs).set sl v) vs = wipe σ vs)
    (hs : ∀ i H2, i < n → Same H1 H2 → ∀ k : VK, (∀ H5, Same H2 H5 → k (f i) H5) → te ((wipe σ vs).set sl (some (V.int (a + (i : Nat) * c)))) H2 k)
    (hd : ∀ D H2, H1 D = none → Same H1 H2 → H2 D = some (.lst ((List.range n).map f)) → Qd D H2) :
    ∃ (i' j' c' : Int) (n' : Nat), [V.int a, V.int j, V.int c] = [V.int i', V.int j', V.int c'] ∧ RgC i' j' c' n' ∧ ∀ D, H1 D = none → ∃ W : Nat → Nat → Hp → Prop, (∃ m, W 0 m (upd H1 D (.lst []))) ∧ ∀ i m H, W i m H →
  ((Itc i' c' n').stop i H ∧ Qd D H) ∨ ((Itc i' c' n').go i H ∧ ∃ Nx : Hp → Prop, (∀ H', Nx H' → ∃ m', m' < m ∧ W (i + 1) m' H') ∧ ∀ x H', (Itc i' c' n').yld i H x H' → gName sl x (wipe σ vs) H' fun σ2 H2 => wipe σ2 vs = wipe σ vs ∧ tYes σ2 H2 fun b H3 =>
    if b = true then te σ2 H3 fun y H4 => ∃ acc, H4 D = some (.lst acc) ∧ acc.length < sizeLine ∧ Nx (upd H4 D (.lst (acc ++ [y]))) else Nx H3) := by
  refine ⟨a, j, c, n, rfl, hr, fun D hD => ?_⟩
  refine ⟨fun i m H2 => m = n - i ∧ i ≤ n ∧ Same H1 H2 ∧ H2 D = some (.lst ((List.range i).map f)), ⟨n, by simp, Nat.zero_le _, s_upd hD, upd_same⟩, ?_⟩
  rintro i m H2 ⟨rfl, hi, s2, hl⟩
  by_cases hlt : i < n
  · refine .inr ⟨hlt, fun H' => Same H1 H' ∧ H' D = some (.lst ((List.range (i + 1)).map f)), fun H' p' => ⟨n - (i + 1), by omega, rfl, hlt, p'.1, p'.2⟩, fun x H' y => ?_⟩
    obtain ⟨e, y⟩ := y
    subst e y
    refine ⟨hw _, i_t (B := Same H1 H' ∧ H' D = some (HO.lst ((List.range (i + 1)).map f))) ?_⟩
    refine (hs i _ hlt s2 _ fun H5 s5 => ⟨_, s5 _ _ hl, szl (by rw [List.length_map, List.length_range]; omega), s_mut (s2.trans s5) hD, ?_⟩)
    rw [List.range_succ, List.map_append]
    exact upd_same
  · have e : i = n := by omega
    subst e
    exact .inl ⟨Nat.le_refl _, hd D H2 hD s2 hl⟩
/-! instances -/
def fldP (K : PySem.W.Frag) (f : Str) : V → Hp → VK → Prop := fun x H1 Q => ∃ a C dx fs v, x = .ref a ∧ H1 a = some (.ins C dx fs) ∧ Cls K C ∧ NoAttr K C f ∧ fs.lookup f = some v ∧ Q v H1
theorem r_fld {H : Hp} {K : PySem.W.Frag} {Q : VK} {σ : L2.St} {ta : TE} {f : Str} (h : ta σ H fun x H1 => fldP K f x H1 Q) : tFld K ta f σ H Q := h
theorem r_fldP {H : Hp} {K : PySem.W.Frag} {Q : VK} {f : Str} {a C dx : Addr} {fs : List (Str × V)} {v : V} (h : H a = some (.ins C dx fs)) (c : Cls K C) (n : NoAttr K C f) (l : fs.lookup f = some v) (q : Q v H) : fldP K f (.ref a) H Q := ⟨a, C, dx, fs, v, rfl, h, c, n, l, q⟩
def setP (K : PySem.W.Frag) (f : Str) (y : V) : V → Hp → (Hp → Prop) → Prop := fun x H2 k => ∃ a C dx fs, x = .ref a ∧ H2 a = some (.ins C dx fs) ∧ Cls K C ∧ NoAttr K C f ∧ fs.length < 1000 ∧ k (upd H2 a (.ins C dx (putF f y fs)))
theorem r_sfld {D : Ends} {H : Hp} {K : PySem.W.Frag} {σ : L2.St} {ta tv : TE} {f : Str} (h : tv σ H fun y H1 => ta σ H1 fun x H2 => setP K f y x H2 fun H3 => D.nx σ H3) : sFld K ta tv f D σ H := h
theorem r_setP {H : Hp} {K : PySem.W.Frag} {f : Str} {y : V} {a C dx : Addr} {fs : List (Str × V)} {k : Hp → Prop} (h : H a = some (.ins C dx fs)) (c : Cls K C) (n : NoAttr K C f) (l : fs.length < 1000) (q : k (upd H a (.ins C dx (putF f y fs)))) : setP K f y (.ref a) H k := ⟨a, C, dx, fs, rfl, h, c, n, l, q⟩
theorem r_make {H : Hp} {Q : VK} {σ : L2.St} {C : Addr} {sp : Sp} {E : XK} {t : TA} (h : t σ H fun vs H1 => ∀ x dx, H1 x = none → H1 dx = none → dx ≠ x → sp (.ref x :: (vs ++ [])) (upd (upd H1 dx (.own x)) x (.ins C dx [])) (fun v H2 => v = .non ∧ Q (.ref x) H2) E) : tMake C sp [] E t σ H Q := h
def objP (C : Addr) (m : Str) : V → Hp → (Hp → Prop) → Prop := fun x H1 k => ∃ a dx fs, x = .ref a ∧ H1 a = some (.ins C dx fs) ∧ fs.lookup m = none ∧ k H1
theorem r_meth {H : Hp} {Q : VK} {σ : L2.St} {C : Addr} {m : Str} {sp : Sp} {E : XK} {ta : TE} {t : TA} (h : ta σ H fun x H1 => objP C m x H1 fun H1 => t σ H1 fun vs H2 => sp (x :: (vs ++ [])) H2 Q E) : tMeth C m sp [] E ta t σ H Q := h
theorem r_objP {H : Hp} {m : Str} {a C dx : Addr} {fs : List (Str × V)} {k : Hp → Prop} (h : H a = some (.ins C dx fs)) (l : fs.lookup m = none) (q : k H) : objP C m (.ref a) H k := ⟨a, dx, fs, rfl, h, l, q⟩
theorem look_1 {f : Str} {v : V} {r : List (Str × V)} : List.lookup f ((f, v) :: r) = some v := by simp [List.lookup]
theorem look_s {f g : Str} {v : V} {r : List (Str × V)} (h : ¬ f = g) : List.lookup f ((g, v) :: r) = List.lookup f r := by
  have e : (f == g) = false := by simp [h]
  simp [List.lookup, e]
theorem look_0 {f : Str} : List.lookup f ([] : List (Str × V)) = none := rfl
theorem put_s {f g : Str} {v x : V} {r : List (Str × V)} (h : ¬ g = f) : putF f v ((g, x) :: r) = (g, x) :: putF f v r := if_neg h
theorem put_1 {f : Str} {v x : V} {r : List (Str × V)} : putF f v ((f, x) :: r) = (f, v) :: r := if_pos rfl
theorem put_0 {f : Str} {v : V} : putF f v [] = [(f, v)] := rfl
theorem cut_mid {xs : List V} {a b : Nat} (h : a ≤ b) : cutV xs (some (a : Int)) (some (b : Int)) = (xs.drop a).take (b - a) := by
  unfold cutV
  rw [HT.sIx_nat, HT.sIx_nat]
  by_cases h1 : b ≤ xs.length
  · rw [Nat.min_eq_left h1, Nat.min_eq_left (by omega)]
  · by_cases h2 : a ≤ xs.length
    · rw [Nat.min_eq_right (by omega), Nat.min_eq_left h2, List.take_of_length_le (by rw [List.length_drop]; omega), List.take_of_length_le (by rw [List.length_drop]; omega)]
    · rw [Nat.min_eq_right (by omega), Nat.min_eq_right (by omega), List.drop_length, List.drop_of_length_le (by omega)]
      simp
theorem c_pow {i j : Int} (h0 : 0 ≤ j) (h1 : j ≤ 1000000) (h2 : i.natAbs < 2 ^ 64) : CPow i j := ⟨h0, h1, h2⟩
theorem c_mulR {i j : Int} (h0 : -18446744073709551616 < j) (h1 : j < 18446744073709551616) : CMul i j := .inr ⟨h0, h1⟩
theorem c_mulL {i j : Int} (h0 : -18446744073709551616 < i) (h1 : i < 18446744073709551616) : CMul i j := .inl ⟨h0, h1⟩
theorem c_div {i j : Int} (h0 : 0 < j) (h1 : j < 1073741824) : CDiv i j := ⟨h0, h1⟩
theorem r_cut {D : Ends} {H : Hp} {σ : L2.St} {t u : TS} (Mid : L2.St → Hp → Prop) (h : t { D with nx := Mid } σ H) (k : ∀ σ' H', Mid σ' H' → u D σ' H') : C8.tCut t u D σ H := ⟨Mid, h, k⟩
theorem cut_to {xs : List V} {k : Nat} : cutV xs none (some (k : Int)) = xs.take k := by
  unfold cutV
  rw [HT.sIx_none, HT.sIx_nat, List.drop_zero, Nat.sub_zero]
  by_cases h : k ≤ xs.length
  · rw [Nat.min_eq_left h]
  · rw [Nat.min_eq_right (by omega), List.take_length, List.take_of_length_le (by omega)]
theorem cut_all {xs : List V} {k : Nat} (h : xs.length ≤ k) : cutV xs none (some (k : Int)) = xs := by
  rw [cut_to, List.take_of_length_le h]
theorem len4 {ns : List Int} (h : ns.length = 4) : ∃ a b c d, ns = [a, b, c, d] := by
  match ns, h with
  | [a, b, c, d], _ => exact ⟨a, b, c, d, rfl⟩
theorem len3 {ns : List Int} (h : ns.length = 3) : ∃ a b c, ns = [a, b, c] := by
  match ns, h with
  | [a, b, c], _ => exact ⟨a, b, c, rfl⟩
theorem len2 {ns : List Int} (h : ns.length = 2) : ∃ a b, ns = [a, b] := by
  match ns, h with
  | [a, b], _ => exact ⟨a, b, rfl⟩
theorem len7 {ns : List Int} (h : ns.length = 7) : ∃ a b c d e f g, ns = [a, b, c, d, e, f, g] := by
  match ns, h with
  | [a, b, c, d, e, f, g], _ => exact ⟨a, b, c, d, e, f, g, rfl⟩
theorem len6 {ns : List Int} (h : ns.length = 6) : ∃ a b c d e f, ns = [a, b, c, d, e, f] := by
  match ns, h with
  | [a, b, c, d, e, f], _ => exact ⟨a, b, c, d, e, f, rfl⟩
theorem r_take {K : PySem.W.Frag} {H : Hp} {Q : VK} {a : Addr} {ns : List Int} {k : Int} (n : Nat) (hk : k = (n : Int)) (h : SqL K H a (ns.map V.int)) (q : ∀ p H1, H p = none → Same H H1 → H1 p = some (.lst ((ns.take n).map V.int)) → Q (.ref p) H1) : rSlL K (.ref a) none (some k) H Q := by
  subst hk
  refine ⟨a, ns.map V.int, rfl, h, fun p hp => ?_⟩
  rw [cut_to, ← List.map_take]
  exact q p _ hp (s_upd hp) upd_same
/-- the script's first items: the whole of it -/
theorem r_script {K : PySem.W.Frag} {H : Hp} {Q : VK} {a : Addr} {ns : List Int} {k : Int} (hk : 63 ≤ k) (h : SqL K H a (ns.map V.int)) (hn : ns.length ≤ 63) (q : ∀ p H1, H p = none → Same H H1 → H1 p = some (.lst (ns.map V.int)) → Q (.ref p) H1) : rSlL K (.ref a) none (some k) H Q := by
  refine ⟨a, ns.map V.int, rfl, h, fun p hp => ?_⟩
  have e : k = ((k.toNat : Nat) : Int) := by omega
  rw [e, cut_all (by rw [List.length_map]; omega)]
  exact q p _ hp (s_upd hp) upd_same
/-! list facts -/
theorem at_map {ns : List Int} {i : Int} {j : Nat} {n : Int} (e : i = (j : Int)) (h : ns[j]? = some n) : atI (ns.map V.int) i = some (.int n) := by
  subst e
  exact atI_nat (by rw [List.getElem?_map, h]; rfl)
theorem at_lt {α : Type} {xs : List α} {i : Int} {j : Nat} (e : i = (j : Int)) (h : j < xs.length) : atI xs i = some xs[j] := by
  subst e
  exact atI_nat (List.getElem?_eq_getElem h)
theorem get_map {ns : List Int} {i : Nat} {x : V} (h : (ns.map V.int)[i]? = some x) : ∃ n, ns[i]? = some n ∧ x = .int n := by
  rw [List.getElem?_map] at h
  cases e : ns[i]? with
  | none => rw [e] at h; cases h
  | some z => rw [e] at h; exact ⟨z, rfl, (Option.some.inj h).symm⟩
theorem flat_ints (ns : List Int) : (ns.map V.int).all flatV = true := by
  rw [List.all_eq_true]; intro v hv; obtain ⟨n, _, rfl⟩ := List.mem_map.mp hv; rfl
theorem inV_ints (n : Int) (ns : List Int) : inV (.int n) (ns.map V.int) = dB (n ∈ ns) := by
  unfold inV
  induction ns with
  | nil => rw [dB_f (by simp)]; rfl
  | cons m r ih =>
    rw [List.map_cons, List.any_cons, ih]
    show ((m == n) || dB (n ∈ r)) = _
    by_cases h : m = n
    · subst h; rw [dB_t (List.mem_cons_self ..)]; simp
    · by_cases h2 : n ∈ r
      · rw [dB_t h2, dB_t (List.mem_cons_of_mem _ h2)]; simp
      · rw [dB_f h2, dB_f (fun z => by rcases List.mem_cons.mp z with z | z; exact h z.symm; exact h2 z)]; simp [h]
theorem r_inI {K : PySem.W.Frag} {H : Hp} {Q : VK} {p : Addr} {ns : List Int} {n : Int} (h : SqL K H p (ns.map V.int)) (q : Q (.bl (dB (n ∈ ns))) H) : rIn K false (.int n) (.ref p) H Q :=
  ⟨p, ns.map V.int, rfl, .inl h, rfl, flat_ints ns, by rw [inV_ints]; exact q⟩
theorem cut_from {xs : List V} {k : Nat} : cutV xs (some (k : Int)) none = xs.drop k := by
  unfold cutV
  rw [HT.sIx_none, HT.sIx_nat]
  by_cases h : k ≤ xs.length
  · rw [Nat.min_eq_left h, List.take_of_length_le (by rw [List.length_drop]; omega)]
  · rw [Nat.min_eq_right (by omega), List.drop_length, List.drop_of_length_le (by omega)]; simp
/-! any of ints -/
def rAnyI (K : PySem.W.Frag) : List V → Hp → VK → Prop := fun vs H Q => ∃ (a : Addr) (ns : List Int), vs = [V.ref a] ∧ SqL K H a (ns.map V.int) ∧ Q (.bl (ns.any (· != 0))) H
theorem truth_ints {prog : Program} {w : World} {A : Around} {ns : List Int} {its : List Value} (r : Vals (ns.map V.int) its) :
    TruthOf prog w A (fun i v => its.toArray[i]? = some v) (fun i => (ns.map (· != 0)).getD i false) := fun i v s Q E hv hq => by
  have hv' : its[i]? = some v := by simpa using hv
  have hl := r.length
  have hi : i < ns.length := by
    have := (List.getElem?_eq_some_iff.mp hv').1
    rw [List.length_map] at hl
    omega
  obtain ⟨u, hu, ru⟩ := r.get (i := i) (x := .int ns[i]) (by rw [List.getElem?_map, List.getElem?_eq_getElem hi]; rfl)
  rw [hv'] at hu
  cases hu
  obtain ⟨t, rfl⟩ := ru
  have hg : (ns.map (· != 0)).getD i false = (ns[i] != 0) := by rw [List.getD_eq_getElem?_getD, List.getElem?_map, List.getElem?_eq_getElem hi]; rfl
  have hq' : Q ((ns.map (· != 0)).getD i false) s := hq
  rw [hg] at hq'
  exact truthy_int hq'
theorem cr_anyI {X : Cx} (hc : X.calm = true) : CallR X (.builtin "any") (rAnyI X.K) := by
  intro pins s σ H vs us Q I r h
  obtain ⟨a, ns, rfl, hs, q⟩ := h
  obtain ⟨its, rv, hl, _⟩ := I.list hs
  rw [Vals.ref1 r]
  have hlen := rv.length
  rw [List.length_map] at hlen
  refine call_any_walk (iter_any hl.isList fun s₂ e2 st hne => ?_)
  subst e2
  refine ⟨_, _, _, _, _, _, _, rfl, Walks.list (A := X.A.in1) (I.ok.hd hc) _ a hne its.toArray, st, truth_ints rv, fun h' tk hk => ?_⟩
  refine ⟨.bl _, H, I.kept fun b o eo => hk b o (fun hmem => ?_) (Heap.get?_push_of_some _ eo), ?_, q⟩
  · rcases List.mem_cons.mp hmem with e1 | hmem
    · exact absurd (e1 ▸ Heap.lt_size eo) (Nat.lt_irrefl _)
    · cases hmem
  · show Value.bool _ = Value.bool _
    have e := L2.any_range (ns.map (· != 0))
    rw [List.any_map, List.length_map] at e
    rw [List.size_toArray, ← hlen, e]; rfl
theorem r_anyI {K : PySem.W.Frag} {H : Hp} {Q : VK} {a : Addr} {ns : List Int} (h : SqL K H a (ns.map V.int)) (q : Q (.bl (ns.any (· != 0))) H) : rAnyI K [.ref a] H Q := ⟨a, ns, rfl, h, q⟩
theorem r_isB {i j : Bool} {H : Hp} {Q : VK} (q : Q (.bl (dB (i = j))) H) : rIsB (.bl i) (.bl j) H Q := ⟨i, j, rfl, rfl, q⟩
theorem r_notB {i j : Bool} {H : Hp} {Q : VK} (q : Q (.bl (!dB (i = j))) H) : rNotB (.bl i) (.bl j) H Q := ⟨i, j, rfl, rfl, q⟩
theorem r_neL {H : Hp} {K : PySem.W.Frag} {Q : VK} {a b : Addr} {ns : List Int} (ha : SqL K H a (ns.map V.int)) (hb : SqL K H b (ns.map V.int)) (q : Q (.bl false) H) : rNeD K (.ref a) (.ref b) H Q :=
  ⟨_, _, .lst ha (dp_ints ns), .lst hb (dp_ints ns), shaped_ints ns, shaped_ints ns, by rw [eqv_ints]; exact q⟩
/-! ## what the top has written -/
def valsOk (us : Array Value) (xs : List V) : Bool := decide (us.size ≤ 100000) && decide (us.toList.mapM absV = some xs)
theorem rel_of {u : Value} {x : V} (h : absV u = some x) : RelV x u := by
  cases u <;> first | (cases h; rfl) | (cases h; exact ⟨_, rfl⟩) | (cases h)
theorem vals_of : ∀ {us : List Value} {xs : List V}, us.mapM absV = some xs → Vals xs us
  | [], xs, h => by
    have e : some [] = some xs := h
    cases e; exact .nil
  | u :: us, xs, h => by
    rw [List.mapM_cons] at h
    cases e1 : absV u with
    | none => rw [e1] at h; cases h
    | some x =>
      cases e2 : us.mapM absV with
      | none => rw [e1, e2] at h; cases h
      | some ys =>
        rw [e1, e2] at h
        have e : some (x :: ys) = some xs := h
        cases e
        exact .cons (rel_of e1) (vals_of e2)
theorem sqt_of {K : PySem.W.Frag} {H : Hp} {A : Addr} {dd : Option Addr} {its : Array Value} {n : Nat} {ss : Array (Option Value)} {xs : List V}
    (lk : K.lookup A = some ⟨.type "tuple", dd, .seq its n, ss⟩) (h : valsOk its xs = true) : SqT K H A xs := by
  unfold valsOk at h
  rw [Bool.and_eq_true] at h
  exact .inr ⟨_, its, n, lk, rfl, rfl, sz (of_decide_eq_true h.1), vals_of (of_decide_eq_true h.2)⟩
end Z

namespace Z
open PySem PySem.W PySem.Spec PySem.Calls PyProof.Rows Builtin Builtin.ObjectAttr Builtin.Getset_descriptor
section
variable {prog : Program} {w : World} {A : Around} {E : Value → Shared → Prop} {s : Shared} {K : Frag} {x D : Addr} {ox : Obj} {od : Option Obj}
/-- what an error's class must say, so that `__class__` of its objects is read -/
structure EcC (K : Frag) (D : Addr) : Prop where
  ga : findIn K (.ref D) "__getattribute__" = some (some (.builtin "BaseException.__getattribute__"))
  gg : findIn K (.ref D) "__getattr__" = some none
  sb : subIn K (.ref D) (.type "BaseException") = some true
  hd : hasDictIn K D = true
  cl : findIn K (.ref D) "__class__" = some (some (.builtin "object.__class__"))
  gt : specialIn K (.builtin "object.__class__") "__get__" = some (some (.builtin "getset_descriptor.__get__"))
  tk : takesIn K (.builtin "object.__class__") = some true
  ob : mroIn K D (.type "object") = some true
theorem EcC.find (c : EcC K D) (od : Option Obj) : findObj K D od "__class__" = some (.bind (.builtin "getset_descriptor.__get__") (.builtin "object.__class__")) := by
  obtain ⟨cd, hc, _⟩ := any_some c.hd
  have hc' : clsIn K D = some cd := hc
  unfold findObj; simp [hc', c.cl, c.gt, c.tk]
/-- the call behind it -/
theorem ec_code {R : Result → Shared → Prop} {tk : Tok} (c : EcC K D) (X : K.In s.heap) (I : InstAt s.heap x ox D od) (h : R (.ok (.ret (.ref D))) s) :
    codeAny (model prog w) A (.call (.builtin "BaseException.__getattribute__") ⟨[.ref x, .str "__class__" tk], []⟩) R s := by
  obtain ⟨hp, g, d, t, os⟩ := s
  have La := I.type (M := model prog w)
  have Lb := looks_find (M := model prog w) X I (c.find od)
  have Lc : Looks (model prog w) hp (isInstance (.ref x) (.type "BaseException")) true := La.andThen (looks_subIn X c.sb)
  refine codeAny_call_builtin PySem.F.excAttr_ValueError.ga.plain PySem.F.entry_bexc_ga (@check_slot (model prog w) _ _ ⟨hp, g, d, t, os⟩ "BaseException.__getattribute__" "BaseException" "__getattribute__" (.ref x) [.str "__class__" tk] [] _ (by decide +kernel) (by decide +kernel) Lc (PySem.F.args_bexc_ga (.ref x) (.str "__class__" tk)) ?_)
  unfold Builtin.«object.__getattribute__»
  refine wpAny_bind (wpAny_of_eq (a := ((Value.ref x : Value), [Value.str "__class__" tk])) (by first | rfl | (simp only [slotArgs]; rfl)) (wpAny_bind (wpAny_pure (wpAny_bind (La.at (wpAny_bind (Lb.at ?_)))))))
  show wpAny _ _ (holding [Value.builtin "object.__class__"] (call (.builtin "getset_descriptor.__get__") [.builtin "object.__class__", .ref x, .ref D]) >>= ret) _ _ _
  exact wpAny_bind (wpAny_holding (wpAny_call (class_get (s := ⟨hp, g, d, t, os⟩) X I c.ob (wpAny_pure h))))
theorem ec_no {b : Bool} {v : Value} : (b && onTheHeap (Value.builtin "BaseException.__getattribute__")) = false ∧ (onTheHeap v && Value.builtin "BaseException.__getattribute__" == Value.builtin "object.__getattribute__") = false := by
  have z : (Value.builtin "BaseException.__getattribute__" == Value.builtin "object.__getattribute__") = false := by decide +kernel
  exact ⟨by cases b <;> rfl, by rw [z, Bool.and_false]⟩
/-- e.__class__, e an error -/
theorem ec_get {expr : Bool} {Q : Value → Shared → Prop} (c : EcC K D) (X : K.In s.heap) (I : InstAt s.heap x ox D od) (h : Q (.ref D) { s with toks := s.toks + 1 }) :
    wpAny (model prog w) A (getAttr (.ref x) "__class__" expr) Q E s := by
  obtain ⟨hp, g, d, t, os⟩ := s
  unfold getAttr getAttrBy
  refine wpAny_bind (wpAny_mkText (wpAny_holding (wpAny_bind (I.type.at (wpAny_bind ((looks_findIn (M := model prog w) X c.ga).at ?_))))))
  dsimp only
  rw [ec_no (b := true).2, if_neg Bool.false_ne_true]
  unfold getAttrByItsOwn hookBefore
  rw [if_pos (show onTheHeap (Value.ref D) = true from rfl)]
  refine wpAny_bind ((looks_findIn (M := model prog w) X c.gg).at (wpAny_bind (wpAny_attempt (wpAny_holding ?_))))
  unfold callGetattribute
  rw [ec_no (v := Value.none).1, if_neg Bool.false_ne_true]
  unfold boundAndCalled
  rw [PySem.F.excAttr_ValueError.ga.bind (.ref x)]
  refine wpAny_bind (wpAny_pure (wpAny_call (ec_code (s := ⟨hp, g, d, t + 1, os⟩) c X I ?_)))
  show wpAny _ _ (handedOut (.ref D)) _ _ _
  rw [handedOut_of (v := .ref D) rfl]
  exact wpAny_pure h
theorem ec_getQ {Q : Option Value → Shared → Prop} (c : EcC K D) (X : K.In s.heap) (I : InstAt s.heap x ox D od) (h : Q (some (.ref D)) { s with toks := s.toks + 1 }) :
    wpAny (model prog w) A (getAttr? (.ref x) "__class__") Q E s := by
  obtain ⟨hp, g, d, t, os⟩ := s
  unfold getAttr? getAttrBy? getAttrBy
  refine wpAny_bind (wpAny_mkText (wpAny_bind (wpAny_attempt (wpAny_holding (wpAny_bind (I.type.at (wpAny_bind ((looks_findIn (M := model prog w) X c.ga).at ?_))))))))
  dsimp only
  rw [ec_no (b := true).2, if_neg Bool.false_ne_true]
  unfold getAttrByItsOwn hookBefore
  rw [if_pos (show onTheHeap (Value.ref D) = true from rfl)]
  refine wpAny_bind ((looks_findIn (M := model prog w) X c.gg).at (wpAny_bind (wpAny_attempt (wpAny_holding ?_))))
  unfold callGetattribute
  rw [ec_no (v := Value.none).1, if_neg Bool.false_ne_true]
  unfold boundAndCalled
  rw [PySem.F.excAttr_ValueError.ga.bind (.ref x)]
  refine wpAny_bind (wpAny_pure (wpAny_call (ec_code (s := ⟨hp, g, d, t + 1, os⟩) c X I ?_)))
  show wpAny _ _ (handedOut (.ref D)) _ _ _
  rw [handedOut_of (v := .ref D) rfl]
  first
    | exact wpAny_pure (wpAny_pure h)
    | exact wpAny_pure h
    | exact wpAny_pure (wpAny_bind (wpAny_pure (wpAny_pure h)))
theorem ec_kit (c : EcC K D) : KitX K (.ref x) (.ref D) (fun h => ∃ ox od, InstAt h x ox D od) where
  ty := fun _ _ _ ⟨_, _, I⟩ => I.type
  it := fun _ _ X _ => by
    obtain ⟨cd, hc, _⟩ := any_some c.hd
    unfold clsIn at hc
    split at hc
    · rename_i ho
      exact fun A' Q' E' s' k q => by unfold isType loadHead; exact wpAny_bind (wpAny_loadPart (k _ _ (X _ _ ho)) (wpAny_pure q))
    · cases hc
  ne := fun h tp dd its n sl X htp => Bool.eq_false_iff.mpr fun q => by
    obtain rfl : D = tp := Value.ref.inj (beq_iff_eq.mp q)
    obtain ⟨cd, hc, _⟩ := any_some c.hd
    unfold clsIn at hc
    split at hc
    · rename_i ho
      have z := (X _ _ ho).symm.trans htp
      cases z
    · cases hc
  ca := fun X ⟨_, _, I⟩ k => ec_getQ c X I k
/-- the class C tells its name n -/
structure NmC (K : Frag) (C : Addr) (n : Str) : Prop where
  at_ : ∃ oc od cd k0 k1 t k, K.lookup C = some ⟨oc, od, .cls cd, #[k0, k1, some (.str n t)] ++ k⟩
  rd : readsIn K C (.type "type") = true
  fd : findCls K (.ref C) (.type "type") "__name__" = some (.get (.builtin "getset_descriptor.__get__") (.builtin "type.__name__") (.ref C) (.type "type"))
theorem nm_dga (d : Value) (C : Addr) (tp : Value) : descrGetArgs ⟨[d, .ref C, tp], []⟩ = pure (d, some (.ref C), given tp) := by rfl
theorem nm_get {C : Addr} {n : Str} {expr : Bool} {Q : Value → Shared → Prop} (c : NmC K C n) (X : K.In s.heap) (h : ∀ t u, Q (.str n t) { s with toks := u }) : wpAny (model prog w) A (getAttr (.ref C) "__name__" expr) Q E s := by
  obtain ⟨oc, od, cd, k0, k1, t, k, hC⟩ := c.at_
  refine cls_bind X c.rd c.fd (wpAny_call ?_)
  have hT : typeIn K (.ref C) = some (.type "type") := by
    have r := c.rd
    simp only [readsIn, Bool.and_eq_true, beq_iff_eq] at r
    exact r.1.1.1.2
  obtain ⟨hh, g, dr, tt, os⟩ := s
  have ho : hh.get? C = some ⟨oc, od, .cls cd, #[k0, k1, some (.str n t)] ++ k⟩ := X _ _ hC
  have L0 : Looks (model prog w) hh (typeOf (.ref C)) (.type "type") := looks_typeIn X hT
  have L1 : Looks (model prog w) hh (isSubtype (.type "type") (.type "type")) true := Looks.of_pure (by rw [isSubtype_type]; kernel_rfl)
  refine codeAny_call_builtin KF.slot_gs.plain KF.entry_gs (KF.slot_gs.check _ _ _ _ _ _ _ _ ktyn_type (KF.args_gs _ _ _) ?_)
  unfold Builtin.«getset_descriptor.__get__» descrGet
  rw [nm_dga]
  refine wpAny_bind (wpAny_pure ?_)
  unfold descrGetter descrCheckInstance descrNameAndClass isInstance
  simp only [ktyn_owner]
  repeat lk
  refine ⟨Code.quiet_builtin _ (by decide +kernel), codeAny_builtin ktyn_entry ?_⟩
  unfold Builtin.«type.__name__»
  dsimp only
  unfold keptObject slotAt
  refine wpAny_bind (wpAny_bind (wpAny_loadPart ho (wpAny_pure ?_)))
  have e2 : ((#[k0, k1, some (.str n t)] ++ k)[2]?).join = some (.str n t) := by rw [Array.getElem?_append_left (by simp)]; rfl
  show wpAny _ _ (match ((#[k0, k1, some (.str n t)] ++ k)[2]?).join with | some v => ret v | x => _) _ _ _
  rw [e2]
  exact wpAny_pure (handed_on rfl (h t _))
end
end Z
namespace Z
open PySem PySem.Spec PyProof.Rows L2
/-- an error that the suite holds stands there, with its own fields -/
theorem held_at {X : Cx} {a : Addr} {oe : Obj} {d : Option Addr} {C : Addr} {pn pins : List (Addr × Obj)} {σ : L2.St} {H : Hp} {s : Shared} (I : Inv (X.suite a ((a, oe) :: pn)) pins σ H s) (hz : Zc (.ref C) d oe) (hf : ∃ vs, oe.data = .fields vs)
    {dd : Addr} {fs : List (Str × V)} (ed : d = some dd) (ea : H dd = some (.xd fs)) : ∃ (od : Obj) (mA : Str → Option Value), PySem.W.InstAt s.heap a oe C (some od) ∧ (∀ f, PySem.W.lookIn f od = some (mA f)) ∧ ∀ f, RelO (fs.lookup f) (mA f) := by
  subst ed
  obtain ⟨ha, _⟩ := I.pin (a, oe) (List.mem_append_left _ List.mem_cons_self)
  obtain ⟨vs, hd⟩ := hf
  have hx : ObjOk X.prog X.w H s.heap dd (.xd fs) := I.hok dd _ ea
  obtain ⟨mA, hns, hr⟩ := hx
  obtain ⟨od, ho, hl⟩ := lookIn_ns hns
  exact ⟨od, mA, ⟨ha, hz.1, by unfold PySem.W.notCls; rw [hd] <;> rfl, by rw [hz.2]; exact ho⟩, hl, hr⟩
/-- e.f, e the error that the suite holds: a its place, cls its class, d its fields -/
def tErF (K : PySem.W.Frag) (a : Addr) (cls : Value) (d : Option Addr) (f : Str) (te : TE) : TE := fun σ H Q => te σ H fun x H1 => x = .ref a ∧ ∃ (C : Addr) (dd : Addr) (fs : List (Str × V)) (v : V), cls = .ref C ∧ XfC K C ∧ PySem.W.findIn K (.ref C) f = some none ∧ d = some dd ∧ H1 dd = some (.xd fs) ∧ fs.lookup f = some v ∧ Q v H1
theorem pe_erF {X : Cx} {a : Addr} {oe : Obj} {cls : Value} {d : Option Addr} {pn : List (Addr × Obj)} {e : Expr} {te : TE} {pos : Pos} {n : Str} (hz : Zc cls d oe) (hf : ∃ vs, oe.data = .fields vs) (he : PE (X.suite a ((a, oe) :: pn)) e te)
    (hb : attributeBase e n X.env (eval e X.env) = eval e X.env := by rfl) : PE (X.suite a ((a, oe) :: pn)) (.Attribute e n pos) (tErF X.K a cls d n te) := ⟨fun pins s σ H Q I h => by
  refine attr_of hb (thn (he.run pins s σ H _ I h) fun u s1 ⟨x, H1, I1, rx, ex, C, dd, fs, v, ec, T, hno, ed, ea, l, q⟩ => ?_)
  subst ex ec
  obtain rfl : u = Value.ref a := rx
  obtain ⟨od, mA, J, hl, hr⟩ := held_at I1 hz hf ed ea
  obtain ⟨u, hu, ru⟩ := RelO.some_of (v := v) (o := mA n) (by rw [← l]; exact hr n)
  exact HandSPX.exc_get I1.kIn J T.ga T.gg T.exC (PySem.W.findObj_own T.hdC hno rfl (by rw [hl, hu])) (handed_of ru) ⟨v, H1, I1.tok _, ru, q⟩⟩
/-- isinstance(e, c) of it -/
def rErI (K : PySem.W.Frag) (a : Addr) (cls : Value) (d : Option Addr) : List V → Hp → VK → Prop := fun xs H Q => ∃ (C : Addr) (c : V) (cv : Value) (b : Bool) (dd : Addr) (fs : List (Str × V)), xs = [.ref a, c] ∧ cls = .ref C ∧ EcC K C ∧ (∀ u, RelV c u → u = cv) ∧ PySem.W.kitOne K (.ref C) cv = some b ∧ d = some dd ∧ H dd = some (.xd fs) ∧ Q (.bl b) H
theorem call_erI {X : Cx} {a : Addr} {oe : Obj} {cls : Value} {d : Option Addr} {pn : List (Addr × Obj)} (hz : Zc cls d oe) (hf : ∃ vs, oe.data = .fields vs) : CallR (X.suite a ((a, oe) :: pn)) (.builtin "isinstance") (rErI X.K a cls d) := fun pins s σ H xs us Q I r h => by
  obtain ⟨C, c, cv, b, dd, fs, rfl, rfl, hc, hcv, e, ed, ea, q⟩ := h
  match r with
  | .cons rx (.cons rt .nil) =>
    cases rx
    obtain rfl := hcv _ rt
    obtain ⟨od, mA, J, _, _⟩ := held_at I hz hf ed ea
    exact PySem.W.kia_one (ec_kit hc) I.kIn ⟨oe, some od, J⟩ e (fun z => nomatch z) fun tk => ⟨.bl b, H, I.kept (t' := tk) fun _ _ z => z, rfl, q⟩
/-- self.__class__.__name__ in the making of an error -/
def tCnm (K : PySem.W.Frag) (te : TE) : TE := fun σ H Q => te σ H fun x H1 => ∃ (a C dx : Addr) (fs : List (Str × V)) (n : Str), x = .ref a ∧ EcC K C ∧ NmC K C n ∧ H1 a = some (exo a C (some dx)) ∧ H1 dx = some (exd dx fs) ∧ Q (.str n) H1
theorem pe_cnm {X : Cx} {e : Expr} {te : TE} {pos p2 : Pos} (he : PE X e te) (hb : attributeBase e "__class__" X.env (eval e X.env) = eval e X.env := by rfl)
    (hb2 : attributeBase (.Attribute e "__class__" p2) "__name__" X.env (eval (.Attribute e "__class__" p2) X.env) = eval (.Attribute e "__class__" p2) X.env := by rfl) :
    PE X (.Attribute (.Attribute e "__class__" p2) "__name__" pos) (tCnm X.K te) := ⟨fun pins s σ H Q I h => by
  refine attr_of hb2 (attr_of hb (thn (he.run pins s σ H _ I h) fun u s1 ⟨x, H1, I1, rx, a, C, dx, fs, n, ex, hc, hn, ea, ed, q⟩ => ?_))
  subst ex
  obtain rfl : u = Value.ref a := rx
  obtain ⟨t1, ho⟩ := exo_at I1.hok ea
  obtain ⟨mA, hns, hr⟩ := exd_at I1.hok ed
  obtain ⟨od, hod, _⟩ := lookIn_ns hns
  refine ec_get (ox := { cls := .ref C, dict := some dx, data := .fields #[.ref t1, .none, .none, .none, .bool false, .none] }) (od := some od) hc I1.kIn ⟨ho, rfl, rfl, hod⟩ ?_
  have I2 := I1.tok (s1.toks + 1)
  exact nm_get hn I2.kIn fun t u => ⟨.str n, H1, I2.tok _, ⟨t, rfl⟩, q⟩⟩
/-- o.m(e, ..), what it raises wished for at the caller's slots -/
def tMethX (C : Addr) (m : Str) (sp : Sp) (dvs : List V) (E : L2.St → XK) (ta : TE) (t : TA) : TE := fun σ H Q => ta σ H fun x H1 => ∃ (a dx : Addr) (fs : List (Str × V)), x = .ref a ∧ H1 a = some (.ins C dx fs) ∧ fs.lookup m = none ∧ t σ H1 fun vs H2 => sp (x :: (vs ++ dvs)) H2 Q (E σ)
theorem pe_methX {X : Cx} {CX : CXT} {k : Nat} {f C : Addr} {fd : FuncData} {ps : List Str} {sp : Sp} {dvs : List V} {ds : List Value} {E : L2.St → XK} {m : Str} {pos apos : Pos} {e o : Expr} {es : List Expr} {ta : TE} {t : TA} {pl : Sem Bool} (he : PE X o ta) (c : Cls X.K C) (hm : Meth X.K C m f) (F : FnOk X.prog X.w X.K X.mg X.base CX k f fd ps sp) (hr : Room k X.A) (hb : Binds X.K fd ps ds) (hd : Vals dvs ds) (hx : ∀ σ, PassesAt CX X σ (E σ)) (ha : PA X (e :: es) t)
    (hst : starEach (e :: es) X.env = (false, eval e X.env) :: starEach es X.env := by rfl) (hpl : (backTo pos (starEach es X.env)).any (·.1) = false := by rfl)
    (ht : eval (.Call (.Attribute o m apos) (e :: es) [] pos) X.env = (do let ov ← eval o X.env; standAt apos.atName; let (f, first) ← holding [ov] (getMethod ov m pl); callWith pos f first (backTo pos (starEach (e :: es) X.env)) (backToKw pos (keywordEach [] X.env))) := by rfl) :
    PE X (.Call (.Attribute o m apos) (e :: es) [] pos) (tMethX C m sp dvs E ta t) := ⟨fun pins s σ H Q I h => by
  refine PySem.W.methodCall_KW (pl := pl) (thn (he.run pins s σ H _ I h) fun u s1 ⟨x, H1, I1, rx, a, dx, fs, ex, ea, l, q⟩ => ?_) ht
  subst ex
  obtain rfl : u = Value.ref a := rx
  exact getmeth_ok I1 ea c hm l (PySem.W.callWith_K (first := [.ref a]) (h₀ := X.base) I.ok.mod.kin hm.kp (thn (ha.run pos pins s1 σ H1 _ I1 q) fun us s2 ⟨vs, H2, I2, r, q2⟩ => ⟨I2.kIn, run_fnSD (us := .ref a :: us) (vs := .ref a :: vs) F hr hb hd (hx σ) I2 (.cons rfl r) q2⟩) hst hpl)⟩
theorem vals_arr {its : Array Value} {xs : List V} (h : valsOk its xs = true) : Vals xs its.toList := by
  unfold valsOk at h
  rw [Bool.and_eq_true] at h
  exact vals_of (of_decide_eq_true h.2)
theorem dfl_of {K : PySem.W.Frag} {T : Addr} {oc : Value} {od : Option Addr} {its : Array Value} {n : Nat} {sl : Array (Option Value)} {dvs : List V} (l : K.lookup T = some ⟨oc, od, .seq its n, sl⟩) (h : valsOk its dvs = true) (ne : dvs ≠ []) : DflV K (.ref T) dvs :=
  .inr ⟨ne, T, _, its.toList, n, rfl, l, by rw [Array.toArray_toList], vals_arr h⟩
theorem fund_mk {K : PySem.W.Frag} {x qual : Str} {st : Stmt} {f : Addr} {dvs : List V} {oc : Value} {od an : Option Addr} {osl : Array (Option Value)} {dV kV doc pm cdv ct : Value} (l : K.lookup f = some ⟨oc, od, .func (PySem.W.fnOf x qual (defArgs st) (defBody st) (defScope st) dV kV doc pm an cdv ct), osl⟩)
    (c : PySem.W.codeIn K cdv qual = true) (k : PySem.W.keepIn K (.ref f) = true) (d : DflV K dV dvs) : FunD K x qual (defArgs st) (defBody st) (defScope st) dvs [] f (PySem.W.fnOf x qual (defArgs st) (defBody st) (defScope st) dV kV doc pm an cdv ct) :=
  ⟨⟨oc, od, dV, kV, doc, pm, an, cdv, ct, osl, rfl, l, c, d, .inl rfl⟩, k⟩
/-- an error is made: its class, its fields stand, all else as before -/
theorem r_mkO {σ : L2.St} {H : Hp} {Q : XK} {C : Addr} {sp : Sp} {dvs : List V} {ta : TA} (h : ta σ H fun vs H1 => vs.length ≤ 1000 ∧ ∀ a, H1 a = none → sp (.ref a :: (vs ++ dvs)) (upd H1 a (exo a C none))
    (fun v H2 => v = .non ∧ ∃ (d : Addr) (fs : List (Str × V)), H2 a = some (exo a C (some d)) ∧ H2 d = some (exd d fs) ∧ H1 d = none ∧ Q (.ref C) (some d) (upd (del H2 a) d (.xd fs))) (fun _ _ _ => False)) : tMkO C sp dvs ta σ H Q := h
theorem made_eq {H1 H2 : Hp} {a C d : Addr} {fs : List (Str × V)} (ha : H1 a = none) (k : ∀ b, b ≠ a → b ≠ d → H2 b = upd H1 a (exo a C none) b) : upd (del H2 a) d (.xd fs) = upd H1 d (.xd fs) := by
  funext b
  by_cases hd : b = d
  · subst hd; rw [L2.upd_same, L2.upd_same]
  · rw [L2.upd_ne hd, L2.upd_ne hd]
    by_cases hb : b = a
    · subst hb; rw [del_same, ha]
    · rw [del_ne hb, k b hb hd, L2.upd_ne hb]
theorem r_methX {H : Hp} {Q : VK} {σ : L2.St} {C : Addr} {m : Str} {sp : Sp} {dvs : List V} {E : L2.St → XK} {ta : TE} {t : TA} (h : ta σ H fun x H1 => objP C m x H1 fun H1 => t σ H1 fun vs H2 => sp (x :: (vs ++ dvs)) H2 Q (E σ)) : tMethX C m sp dvs E ta t σ H Q := h
theorem r_erI {K : PySem.W.Frag} {H : Hp} {Q : VK} {a C dd : Addr} {fs : List (Str × V)} {c : V} {cv : Value} {b : Bool} (hC : EcC K C) (hk : PySem.W.kitOne K (.ref C) cv = some b) (hcv : ∀ u, RelV c u → u = cv) (h : H dd = some (.xd fs)) (q : Q (.bl b) H) : rErI K a (.ref C) (some dd) [.ref a, c] H Q :=
  ⟨C, c, cv, b, dd, fs, rfl, rfl, hC, hcv, hk, rfl, h, q⟩
def erP (K : PySem.W.Frag) (a : Addr) (cls : Value) (d : Option Addr) (f : Str) (x : V) (H1 : Hp) (Q : VK) : Prop := x = .ref a ∧ ∃ (C : Addr) (dd : Addr) (fs : List (Str × V)) (v : V), cls = .ref C ∧ XfC K C ∧ PySem.W.findIn K (.ref C) f = some none ∧ d = some dd ∧ H1 dd = some (.xd fs) ∧ fs.lookup f = some v ∧ Q v H1
theorem r_erF {K : PySem.W.Frag} {H : Hp} {Q : VK} {σ : L2.St} {a : Addr} {cls : Value} {d : Option Addr} {f : Str} {te : TE} (h : te σ H fun x H1 => erP K a cls d f x H1 Q) : tErF K a cls d f te σ H Q := h
theorem r_erFP {K : PySem.W.Frag} {H : Hp} {Q : VK} {a C dd : Addr} {f : Str} {fs : List (Str × V)} {v : V} (X : XfC K C) (n : PySem.W.findIn K (.ref C) f = some none) (h : H dd = some (.xd fs)) (l : fs.lookup f = some v) (q : Q v H) : erP K a (.ref C) (some dd) f (.ref a) H Q :=
  ⟨rfl, C, dd, fs, v, rfl, X, n, rfl, h, l, q⟩
theorem r_makeD {H : Hp} {Q : VK} {σ : L2.St} {C : Addr} {sp : Sp} {dvs : List V} {E : XK} {t : TA} (h : t σ H fun vs H1 => ∀ x dx, H1 x = none → H1 dx = none → dx ≠ x → sp (.ref x :: (vs ++ dvs)) (upd (upd H1 dx (.own x)) x (.ins C dx [])) (fun v H2 => v = .non ∧ Q (.ref x) H2) E) : tMake C sp dvs E t σ H Q := h
theorem r_callS {sp : Sp} {E : L2.St → XK} {t : TA} {σ : L2.St} {H : Hp} {Q : VK} (h : t σ H fun vs H1 => sp vs H1 Q (E σ)) : tCallS sp E t σ H Q := h
theorem r_callSD {sp : Sp} {dvs : List V} {E : L2.St → XK} {t : TA} {σ : L2.St} {H : Hp} {Q : VK} (h : t σ H fun vs H1 => sp (vs ++ dvs) H1 Q (E σ)) : tCallSD sp dvs E t σ H Q := h
/-- tuples of a text and an int, compared -/
theorem si_shaped {s : Str} (n : Int) (h : PyData.strOk s = true) : SeqAt.shaped (.tuple [.str s, .int n]) = true := by
  unfold SeqAt.shaped
  simp [PyData.canLay0, PyData.canLayAll0, PyData.depth, PyData.depthAll, h]
theorem si_eqv (s : Str) (n : Int) : PyData.eqv (.tuple [.str s, .int n]) (.tuple [.str s, .int n]) = true := by
  simp [PyData.eqv, PyData.eqvAll]
theorem r_neT {H : Hp} {K : PySem.W.Frag} {Q : VK} {a b : Addr} {s : Str} {n : Int} (hs : PyData.strOk s = true) (ha : SqT K H a [.str s, .int n]) (hb : SqT K H b [.str s, .int n]) (q : Q (.bl false) H) : rNeD K (.ref a) (.ref b) H Q :=
  ⟨_, _, .tup ha (.cons (.str s) (.cons (.int n) .nil)), .tup hb (.cons (.str s) (.cons (.int n) .nil)), si_shaped n hs, si_shaped n hs, by rw [si_eqv]; exact q⟩
end Z

namespace Z
open PySem PySem.Spec PyProof.Rows L2
/-! data that stands in the heap, each of its objects in a region -/
abbrev Rg := Addr → Prop
mutual
inductive Da (r : Rg) (H : Hp) : V → PyData → Prop
  | non : Da r H .non .none
  | bl (b : Bool) : Da r H (.bl b) (.bool b)
  | int (i : Int) : Da r H (.int i) (.int i)
  | str (x : Str) : Da r H (.str x) (.str x)
  | lst {a : Addr} {xs : List V} {ds : List PyData} : r a → H a = some (.lst xs) → DaL r H xs ds → Da r H (.ref a) (.list ds)
  | tup {a : Addr} {xs : List V} {ds : List PyData} : r a → H a = some (.tup xs) → DaL r H xs ds → Da r H (.ref a) (.tuple ds)
inductive DaL (r : Rg) (H : Hp) : List V → List PyData → Prop
  | nil : DaL r H [] []
  | cons {v : V} {vs : List V} {d : PyData} {ds : List PyData} : Da r H v d → DaL r H vs ds → DaL r H (v :: vs) (d :: ds)
end
mutual
theorem Da.mono {r r' : Rg} {H H' : Hp} (k : ∀ a o, r a → H a = some o → r' a ∧ H' a = some o) : ∀ {v : V} {d : PyData}, Da r H v d → Da r' H' v d
  | _, _, .non => .non
  | _, _, .bl b => .bl b
  | _, _, .int i => .int i
  | _, _, .str x => .str x
  | _, _, .lst ra h l => .lst (k _ _ ra h).1 (k _ _ ra h).2 (DaL.mono k l)
  | _, _, .tup ra h l => .tup (k _ _ ra h).1 (k _ _ ra h).2 (DaL.mono k l)
theorem DaL.mono {r r' : Rg} {H H' : Hp} (k : ∀ a o, r a → H a = some o → r' a ∧ H' a = some o) : ∀ {vs : List V} {ds : List PyData}, DaL r H vs ds → DaL r' H' vs ds
  | _, _, .nil => .nil
  | _, _, .cons h l => .cons (Da.mono k h) (DaL.mono k l)
end
mutual
theorem Da.dp {K : PySem.W.Frag} {r : Rg} {H : Hp} : ∀ {v : V} {d : PyData}, Da r H v d → Dp K H v d
  | _, _, .non => .non
  | _, _, .bl b => .bl b
  | _, _, .int i => .int i
  | _, _, .str x => .str x
  | _, _, .lst _ h l => .lst (sq_l h) (DaL.dp l)
  | _, _, .tup _ h l => .tup (sq_t h) (DaL.dp l)
theorem DaL.dp {K : PySem.W.Frag} {r : Rg} {H : Hp} : ∀ {vs : List V} {ds : List PyData}, DaL r H vs ds → DpAll K H vs ds
  | _, _, .nil => .nil
  | _, _, .cons h l => .cons (Da.dp h) (DaL.dp l)
end
theorem Da.same {r : Rg} {H H' : Hp} {v : V} {d : PyData} (h : Da r H v d) (s : Same H H') : Da r H' v d := h.mono fun _ _ ra e => ⟨ra, s _ _ e⟩
theorem DaL.same {r : Rg} {H H' : Hp} {v : List V} {d : List PyData} (h : DaL r H v d) (s : Same H H') : DaL r H' v d := h.mono fun _ _ ra e => ⟨ra, s _ _ e⟩
theorem Da.wk {r r' : Rg} {H : Hp} {v : V} {d : PyData} (h : Da r H v d) (k : ∀ a, r a → r' a) : Da r' H v d := h.mono fun _ _ ra e => ⟨k _ ra, e⟩
theorem DaL.wk {r r' : Rg} {H : Hp} {v : List V} {d : List PyData} (h : DaL r H v d) (k : ∀ a, r a → r' a) : DaL r' H v d := h.mono fun _ _ ra e => ⟨k _ ra, e⟩
theorem Da.all {r : Rg} {H : Hp} {v : V} {d : PyData} (h : Da r H v d) : Da (fun _ => True) H v d := h.wk fun _ _ => trivial
theorem Da.upd {r : Rg} {H : Hp} {v : V} {d : PyData} {p : Addr} {o : HO} (h : Da r H v d) (n : ¬ r p) : Da r (upd H p o) v d := h.mono fun a _ ra e => ⟨ra, (upd_ne (fun z : a = p => n (by rw [← z]; exact ra))).trans e⟩
theorem DaL.upd {r : Rg} {H : Hp} {v : List V} {d : List PyData} {p : Addr} {o : HO} (h : DaL r H v d) (n : ¬ r p) : DaL r (upd H p o) v d := h.mono fun a _ ra e => ⟨ra, (upd_ne (fun z : a = p => n (by rw [← z]; exact ra))).trans e⟩
theorem da_non {r : Rg} {H : Hp} {v : V} (h : Da r H v .none) : v = .non := by cases h; rfl
theorem da_int {r : Rg} {H : Hp} {v : V} {i : Int} (h : Da r H v (.int i)) : v = .int i := by cases h; rfl
theorem da_bl {r : Rg} {H : Hp} {v : V} {b : Bool} (h : Da r H v (.bool b)) : v = .bl b := by cases h; rfl
theorem da_str {r : Rg} {H : Hp} {v : V} {x : Str} (h : Da r H v (.str x)) : v = .str x := by cases h; rfl
theorem da_lst {r : Rg} {H : Hp} {v : V} {ds : List PyData} (h : Da r H v (.list ds)) : ∃ a xs, v = .ref a ∧ r a ∧ H a = some (.lst xs) ∧ DaL r H xs ds := by cases h with | lst a b c => exact ⟨_, _, rfl, a, b, c⟩
theorem da_tup {r : Rg} {H : Hp} {v : V} {ds : List PyData} (h : Da r H v (.tuple ds)) : ∃ a xs, v = .ref a ∧ r a ∧ H a = some (.tup xs) ∧ DaL r H xs ds := by cases h with | tup a b c => exact ⟨_, _, rfl, a, b, c⟩
theorem da_lstA {r : Rg} {H : Hp} {a : Addr} {ds : List PyData} (h : Da r H (.ref a) (.list ds)) : ∃ xs, r a ∧ H a = some (.lst xs) ∧ DaL r H xs ds := by cases h with | lst a b c => exact ⟨_, a, b, c⟩
theorem da_tupA {r : Rg} {H : Hp} {a : Addr} {ds : List PyData} (h : Da r H (.ref a) (.tuple ds)) : ∃ xs, r a ∧ H a = some (.tup xs) ∧ DaL r H xs ds := by cases h with | tup a b c => exact ⟨_, a, b, c⟩
theorem DaL.len {r : Rg} {H : Hp} : ∀ {xs : List V} {ds : List PyData}, DaL r H xs ds → xs.length = ds.length
  | _, _, .nil => rfl
  | _, _, .cons _ l => by simp [DaL.len l]
theorem DaL.at {r : Rg} {H : Hp} : ∀ {xs : List V} {ds : List PyData} {i : Nat} {d : PyData}, DaL r H xs ds → ds[i]? = some d → ∃ x, xs[i]? = some x ∧ Da r H x d
  | _, _, _, _, .nil, e => by cases e
  | _, _, 0, _, .cons h _, e => by cases e; exact ⟨_, rfl, h⟩
  | _, _, i + 1, _, .cons _ l, e => DaL.at l (i := i) e
theorem DaL.at' {r : Rg} {H : Hp} : ∀ {xs : List V} {ds : List PyData} {i : Nat} {x : V}, DaL r H xs ds → xs[i]? = some x → ∃ d, ds[i]? = some d ∧ Da r H x d
  | _, _, _, _, .nil, e => by cases e
  | _, _, 0, _, .cons h _, e => by cases e; exact ⟨_, rfl, h⟩
  | _, _, i + 1, _, .cons _ l, e => DaL.at' l (i := i) e
theorem DaL.of {r : Rg} {H : Hp} : ∀ {xs : List V} {ds : List PyData}, xs.length = ds.length → (∀ (i : Nat) (x : V) (d : PyData), xs[i]? = some x → ds[i]? = some d → Da r H x d) → DaL r H xs ds
  | [], [], _, _ => .nil
  | x :: xs, d :: ds, hl, k => .cons (k 0 x d rfl rfl) (DaL.of (by simpa using hl) fun i x d a b => k (i + 1) x d a b)
theorem DaL.app {r : Rg} {H : Hp} : ∀ {xs ys : List V} {ds es : List PyData}, DaL r H xs ds → DaL r H ys es → DaL r H (xs ++ ys) (ds ++ es)
  | _, _, _, _, .nil, k => k
  | _, _, _, _, .cons h l, k => .cons h (DaL.app l k)
theorem DaL.one {r : Rg} {H : Hp} {x : V} {d : PyData} (h : Da r H x d) : DaL r H [x] [d] := .cons h .nil
theorem DaL.snoc {r : Rg} {H : Hp} {xs : List V} {ds : List PyData} {x : V} {d : PyData} (l : DaL r H xs ds) (h : Da r H x d) : DaL r H (xs ++ [x]) (ds ++ [d]) := l.app (.one h)
theorem DaL.take {r : Rg} {H : Hp} : ∀ {xs : List V} {ds : List PyData} (n : Nat), DaL r H xs ds → DaL r H (xs.take n) (ds.take n)
  | _, _, 0, _ => by simp; exact .nil
  | _, _, _ + 1, .nil => .nil
  | _, _, n + 1, .cons h l => .cons h (DaL.take n l)
theorem DaL.drop {r : Rg} {H : Hp} : ∀ {xs : List V} {ds : List PyData} (n : Nat), DaL r H xs ds → DaL r H (xs.drop n) (ds.drop n)
  | _, _, 0, l => l
  | _, _, _ + 1, .nil => .nil
  | _, _, n + 1, .cons _ l => DaL.drop n l
theorem DaL.rev {r : Rg} {H : Hp} : ∀ {xs : List V} {ds : List PyData}, DaL r H xs ds → DaL r H xs.reverse ds.reverse
  | _, _, .nil => .nil
  | _, _, .cons h l => by rw [List.reverse_cons, List.reverse_cons]; exact (DaL.rev l).snoc h
theorem DaL.rep {r : Rg} {H : Hp} {x : V} {d : PyData} (h : Da r H x d) : ∀ n, DaL r H (List.replicate n x) (List.replicate n d)
  | 0 => .nil
  | n + 1 => .cons h (DaL.rep h n)
theorem DaL.set {r : Rg} {H : Hp} {x : V} {d : PyData} (h : Da r H x d) : ∀ {xs : List V} {ds : List PyData} (i : Nat), DaL r H xs ds → DaL r H (xs.set i x) (ds.set i d)
  | _, _, _, .nil => .nil
  | _, _, 0, .cons _ l => .cons h l
  | _, _, i + 1, .cons g l => .cons g (DaL.set h i l)
theorem DaL.ints {r : Rg} {H : Hp} : ∀ ns : List Int, DaL r H (ns.map V.int) (ns.map PyData.int)
  | [] => .nil
  | n :: ns => .cons (.int n) (DaL.ints ns)
theorem dal_ints {r : Rg} {H : Hp} : ∀ {ns : List Int} {xs : List V}, DaL r H xs (ns.map PyData.int) → xs = ns.map V.int
  | [], _, .nil => rfl
  | n :: ns, _, .cons h l => by rw [da_int h, dal_ints l]; rfl
theorem DaL.bools {r : Rg} {H : Hp} : ∀ bs : List Bool, DaL r H (bs.map V.bl) (bs.map PyData.bool)
  | [] => .nil
  | n :: ns => .cons (.bl n) (DaL.bools ns)
theorem dal_bools {r : Rg} {H : Hp} : ∀ {bs : List Bool} {xs : List V}, DaL r H xs (bs.map PyData.bool) → xs = bs.map V.bl
  | [], _, .nil => rfl
  | n :: ns, _, .cons h l => by rw [da_bl h, dal_bools l]; rfl
/-- naturals as data -/
def dN (cs : List Nat) : List PyData := cs.map fun c : Nat => .int (c : Int)
theorem dN_len (cs : List Nat) : (dN cs).length = cs.length := List.length_map _
theorem DaL.nats {r : Rg} {H : Hp} : ∀ cs : List Nat, DaL r H (cs.map fun c : Nat => V.int (c : Int)) (dN cs)
  | [] => .nil
  | n :: ns => .cons (.int n) (DaL.nats ns)
theorem dal_nats {r : Rg} {H : Hp} : ∀ {cs : List Nat} {xs : List V}, DaL r H xs (dN cs) → xs = cs.map fun c : Nat => V.int (c : Int)
  | [], _, .nil => rfl
  | n :: ns, _, .cons h l => by rw [da_int h, dal_nats l]; rfl
/-- a pair of ints -/
def dI2 (p : Int × Int) : PyData := .tuple [.int p.1, .int p.2]
theorem da_pair {r : Rg} {H : Hp} {v : V} {d e : PyData} (h : Da r H v (.tuple [d, e])) : ∃ a x y, v = .ref a ∧ r a ∧ H a = some (.tup [x, y]) ∧ Da r H x d ∧ Da r H y e := by
  obtain ⟨a, xs, rfl, ra, ha, l⟩ := da_tup h
  match xs, l with
  | [x, y], .cons h1 (.cons h2 .nil) => exact ⟨a, x, y, rfl, ra, ha, h1, h2⟩
theorem da_three {r : Rg} {H : Hp} {v : V} {d e f : PyData} (h : Da r H v (.tuple [d, e, f])) : ∃ a x y z, v = .ref a ∧ r a ∧ H a = some (.tup [x, y, z]) ∧ Da r H x d ∧ Da r H y e ∧ Da r H z f := by
  obtain ⟨a, xs, rfl, ra, ha, l⟩ := da_tup h
  match xs, l with
  | [x, y, z], .cons h1 (.cons h2 (.cons h3 .nil)) => exact ⟨a, x, y, z, rfl, ra, ha, h1, h2, h3⟩
theorem da_i2 {r : Rg} {H : Hp} {v : V} {p : Int × Int} (h : Da r H v (dI2 p)) : ∃ a, v = .ref a ∧ r a ∧ H a = some (.tup [.int p.1, .int p.2]) := by
  obtain ⟨a, x, y, rfl, ra, ha, h1, h2⟩ := da_pair h
  rw [da_int h1, da_int h2] at ha
  exact ⟨a, rfl, ra, ha⟩
theorem Da.pair {r : Rg} {H : Hp} {a : Addr} {x y : V} {d e : PyData} (ra : r a) (ha : H a = some (.tup [x, y])) (h1 : Da r H x d) (h2 : Da r H y e) : Da r H (.ref a) (.tuple [d, e]) := .tup ra ha (.cons h1 (.cons h2 .nil))
theorem Da.three {r : Rg} {H : Hp} {a : Addr} {x y z : V} {d e f : PyData} (ra : r a) (ha : H a = some (.tup [x, y, z])) (h1 : Da r H x d) (h2 : Da r H y e) (h3 : Da r H z f) : Da r H (.ref a) (.tuple [d, e, f]) := .tup ra ha (.cons h1 (.cons h2 (.cons h3 .nil)))
theorem Da.i2 {r : Rg} {H : Hp} {a : Addr} {p : Int × Int} (ra : r a) (ha : H a = some (.tup [.int p.1, .int p.2])) : Da r H (.ref a) (dI2 p) := .pair ra ha (.int _) (.int _)
/-! a list of one's own: its items do not reach it -/
def Ow (r : Rg) (H : Hp) (p : Addr) (ds : List PyData) : Prop := r p ∧ ∃ xs, H p = some (.lst xs) ∧ DaL (fun a => r a ∧ a ≠ p) H xs ds
theorem Ow.da {r : Rg} {H : Hp} {p : Addr} {ds : List PyData} (h : Ow r H p ds) : Da r H (.ref p) (.list ds) := by
  obtain ⟨rp, xs, hp, l⟩ := h
  exact .lst rp hp (l.wk fun _ z => z.1)
theorem Ow.nil {r : Rg} {H : Hp} {p : Addr} (rp : r p) (hp : H p = some (.lst [])) : Ow r H p [] := ⟨rp, [], hp, .nil⟩
theorem Ow.same {r : Rg} {H H' : Hp} {p : Addr} {ds : List PyData} (h : Ow r H p ds) (s : Same H H') : Ow r H' p ds := by
  obtain ⟨rp, xs, hp, l⟩ := h
  exact ⟨rp, xs, s _ _ hp, l.same s⟩
theorem Ow.wk {r r' : Rg} {H : Hp} {p : Addr} {ds : List PyData} (h : Ow r H p ds) (k : ∀ a, r a → r' a) : Ow r' H p ds := by
  obtain ⟨rp, xs, hp, l⟩ := h
  exact ⟨k _ rp, xs, hp, l.wk fun a z => ⟨k _ z.1, z.2⟩⟩
theorem Ow.mono {r r' : Rg} {H H' : Hp} {p : Addr} {ds : List PyData} (k : ∀ a o, r a → H a = some o → r' a ∧ H' a = some o) (h : Ow r H p ds) : Ow r' H' p ds := by
  obtain ⟨rp, xs, hp, l⟩ := h
  exact ⟨(k _ _ rp hp).1, xs, (k _ _ rp hp).2, l.mono fun a o z e => ⟨⟨(k _ _ z.1 e).1, z.2⟩, (k _ _ z.1 e).2⟩⟩
/-- an item more: v was made behind H, or stands in the region already -/
theorem Ow.push {r : Rg} {H H' : Hp} {p : Addr} {xs : List V} {ds : List PyData} {v : V} {d : PyData} (h : Ow r H p ds) (s : Same H H') (hp : H' p = some (.lst xs)) (hv : Da (fun a => r a ∧ a ≠ p) H' v d) : Ow r (upd H' p (.lst (xs ++ [v]))) p (ds ++ [d]) := by
  obtain ⟨rp, ys, hp0, l⟩ := h
  rw [s _ _ hp0] at hp
  cases hp
  exact ⟨rp, _, upd_same, ((l.same s).snoc hv).upd fun z => z.2 rfl⟩
/-- an item of it set anew -/
theorem Ow.put {r : Rg} {H H' : Hp} {p : Addr} {xs : List V} {ds : List PyData} {v : V} {d : PyData} (h : Ow r H p ds) (s : Same H H') (hp : H' p = some (.lst xs)) (hv : Da (fun a => r a ∧ a ≠ p) H' v d) (j : Nat) : Ow r (upd H' p (.lst (xs.set j v))) p (ds.set j d) := by
  obtain ⟨rp, ys, hp0, l⟩ := h
  rw [s _ _ hp0] at hp
  cases hp
  exact ⟨rp, _, upd_same, (DaL.set hv j (l.same s)).upd fun z => z.2 rfl⟩
/-! lists by their places -/
def rl {α : Type} (n : Nat) (f : Nat → α) : List α := (List.range n).map f
theorem rl_len {α : Type} (n : Nat) (f : Nat → α) : (rl n f).length = n := by unfold rl; rw [List.length_map, List.length_range]
theorem rl_at {α : Type} {n i : Nat} (f : Nat → α) (h : i < n) : (rl n f)[i]? = some (f i) := by unfold rl; rw [List.getElem?_map, List.getElem?_range h]; rfl
theorem rl_congr {α : Type} {n : Nat} {f g : Nat → α} (h : ∀ i, i < n → f i = g i) : rl n f = rl n g := List.map_congr_left fun i hi => h i (List.mem_range.mp hi)
theorem rl_set {α : Type} {n j : Nat} {f g : Nat → α} {v : α} (h1 : g j = v) (h2 : ∀ i, i < n → i ≠ j → g i = f i) : (rl n f).set j v = rl n g := by
  refine List.ext_getElem? fun i => ?_
  rw [List.getElem?_set, rl_len]
  by_cases hi : i < n
  · rw [rl_at g hi]
    by_cases e : j = i
    · subst e; rw [if_pos rfl, if_pos hi, h1]
    · rw [if_neg e, rl_at f hi, h2 i hi (fun z => e z.symm)]
  · by_cases e : j = i
    · subst e; rw [if_pos rfl, if_neg hi, List.getElem?_eq_none (by rw [rl_len]; omega)]
    · rw [if_neg e, List.getElem?_eq_none (by rw [rl_len]; omega), List.getElem?_eq_none (by rw [rl_len]; omega)]
theorem rl_rep {α : Type} (n : Nat) (a : α) : rl n (fun _ => a) = List.replicate n a := List.ext_getElem (by rw [rl_len, List.length_replicate]) fun i h1 h2 => by simp [rl]
/-! comprehensions: each element is told as data -/
abbrev LcJ (J : It) (H1 : Hp) (g : TG) (tt : TT) (te : TE) (vs : List Nat) (σ : L2.St) (Q : Addr → Hp → Prop) : Prop := ∀ D, H1 D = none → ∃ W : Nat → Nat → Hp → Prop, (∃ m, W 0 m (upd H1 D (.lst []))) ∧ ∀ i m H, W i m H →
  (J.stop i H ∧ Q D H) ∨ (J.go i H ∧ ∃ Nx : Hp → Prop, (∀ H', Nx H' → ∃ m', m' < m ∧ W (i + 1) m' H') ∧ ∀ x H', J.yld i H x H' → g x (wipe σ vs) H' fun σ2 H2 => wipe σ2 vs = wipe σ vs ∧ tt σ2 H2 fun b H3 =>
    if b = true then te σ2 H3 fun y H4 => ∃ acc, H4 D = some (.lst acc) ∧ acc.length < sizeLine ∧ Nx (upd H4 D (.lst (acc ++ [y]))) else Nx H3)
theorem filt_succ {α : Type} (p : Nat → Bool) (d : Nat → α) (i : Nat) : ((List.range (i + 1)).filter p).map d = ((List.range i).filter p).map d ++ (if p i = true then [d i] else []) := by
  rw [List.range_succ, List.filter_append, List.map_append]
  cases h : p i <;> simp [h]
/-- the general word: n turns, those of p give data -/
theorem lc_data {J : It} {n : Nat} {G : Hp → Prop} {Y : Nat → Hp → V → Hp → Prop} (w : Walk J n G Y) {g : TG} {tt : TT} {te : TE} {vs : List Nat} {σ : L2.St} {H1 : Hp} {Q : Addr → Hp → Prop} (hz : n ≤ 100000)
    (r : Rg) (p : Nat → Bool) (d : Nat → PyData) (hr : ∀ a, H1 a = none → r a) (hG : ∀ H, Same H1 H → G H)
    (hs : ∀ i x H H', i < n → Same H1 H → Y i H x H' → ∀ (KY : V → Hp → Prop) (KN : Hp → Prop), (p i = true → ∀ y H4, Same H H4 → Da (fun a => H a = none ∨ (r a ∧ H1 a ≠ none)) H4 y (d i) → KY y H4) → (p i = false → ∀ H3, Same H H3 → KN H3) →
      g x (wipe σ vs) H' fun σ2 H2 => wipe σ2 vs = wipe σ vs ∧ tt σ2 H2 fun b H3 => if b = true then te σ2 H3 KY else KN H3)
    (hd : ∀ D H, H1 D = none → Same H1 H → Ow r H D (((List.range n).filter p).map d) → Q D H) : LcJ J H1 g tt te vs σ Q := fun D hD => by
  refine lc_it w (fun i H => Same H1 H ∧ Ow r H D (((List.range i).filter p).map d)) ⟨s_upd hD, Ow.nil (hr _ hD) upd_same⟩ (fun i H _ z => hG H z.1) (fun i x H H' hi z y => ?_) (fun H z => hd D H hD z.1 z.2)
  obtain ⟨s1, ow⟩ := z
  obtain ⟨rp, xs, hp, l⟩ := id ow
  have hxl : xs.length ≤ i := by
    rw [l.len, List.length_map]
    have := List.length_filter_le p (List.range i)
    rw [List.length_range] at this
    exact this
  refine hs i x H H' hi s1 y _ _ (fun hpi y4 H4 s4 hy => ?_) (fun hpi H3 s3 => ?_)
  · refine ⟨xs, s4 _ _ hp, szl (by omega), s_mut (s1.trans s4) hD, ?_⟩
    rw [filt_succ, hpi, if_pos rfl]
    refine ow.push s4 (s4 _ _ hp) (hy.wk fun a za => ?_)
    rcases za with za | ⟨za, zb⟩
    · exact ⟨hr _ (s1.free za), fun z => by rw [z, hp] at za; cases za⟩
    · exact ⟨za, fun z => zb (z ▸ hD)⟩
  · refine ⟨s1.trans s3, ?_⟩
    rw [filt_succ, hpi, if_neg Bool.false_ne_true, List.append_nil]
    exact ow.same s3
/-- .. without a test -/
theorem lc_data1 {J : It} {n : Nat} {G : Hp → Prop} {Y : Nat → Hp → V → Hp → Prop} (w : Walk J n G Y) {g : TG} {te : TE} {vs : List Nat} {σ : L2.St} {H1 : Hp} {Q : Addr → Hp → Prop} (hz : n ≤ 100000)
    (r : Rg) (d : Nat → PyData) (hr : ∀ a, H1 a = none → r a) (hG : ∀ H, Same H1 H → G H)
    (hs : ∀ i x H H', i < n → Same H1 H → Y i H x H' → ∀ (KY : V → Hp → Prop), (∀ y H4, Same H H4 → Da (fun a => H a = none ∨ (r a ∧ H1 a ≠ none)) H4 y (d i) → KY y H4) →
      g x (wipe σ vs) H' fun σ2 H2 => wipe σ2 vs = wipe σ vs ∧ te σ2 H2 KY)
    (gm : ∀ (x : V) (σ : L2.St) (H : Hp) (k k' : L2.St → Hp → Prop), (∀ σ H, k σ H → k' σ H) → g x σ H k → g x σ H k')
    (hd : ∀ D H, H1 D = none → Same H1 H → Ow r H D ((List.range n).map d) → Q D H) : LcJ J H1 g tYes te vs σ Q := by
  have ef : ∀ n, (List.range n).filter (fun _ => true) = List.range n := fun n => by simp
  refine lc_data w hz r (fun _ => true) d hr hG (fun i x H H' hi s y KY KN ky _ => gm _ _ _ _ _ (fun σ2 H2 z => ⟨z.1, i_t (B := KN H2) z.2⟩) (hs i x H H' hi s y KY (ky rfl))) (fun D H a b c => hd D H a b ?_)
  rwa [ef] at c
theorem gm_name {i : Nat} (x : V) (σ : L2.St) (H : Hp) (k k' : L2.St → Hp → Prop) (h : ∀ σ H, k σ H → k' σ H) (z : gName i x σ H k) : gName i x σ H k' := h _ _ z
theorem gm_pair {K : PySem.W.Frag} {i j : Nat} (x : V) (σ : L2.St) (H : Hp) (k k' : L2.St → Hp → Prop) (h : ∀ σ H, k σ H → k' σ H) (z : gTup K 2 (gCons (gName i) (gCons (gName j) gNil)) x σ H k) : gTup K 2 (gCons (gName i) (gCons (gName j) gNil)) x σ H k' := by
  obtain ⟨a, xs, e, hq, hl, x1, r1, e1, x2, r2, e2, e3, hk⟩ := z
  exact ⟨a, xs, e, hq, hl, x1, r1, e1, x2, r2, e2, e3, h _ _ hk⟩
/-! over range(n), range(a, b), a list, a tuple -/
theorem lcr_data {σ : L2.St} {H1 : Hp} {Q : Addr → Hp → Prop} {te : TE} {vs : List Nat} {sl : Nat} {j : Int} (n : Nat) (r : Rg) (d : Nat → PyData) (hj : j.toNat = n) (hb : -(2 ^ 62) ≤ j ∧ j < 2 ^ 62) (hz : n ≤ 100000) (hw : ∀ v : Option V, wipe ((wipe σ vs).set sl v) vs = wipe σ vs) (hr : ∀ a, H1 a = none → r a)
    (hs : ∀ i H, i < n → Same H1 H → ∀ KY : V → Hp → Prop, (∀ y H4, Same H H4 → Da (fun a => H a = none ∨ (r a ∧ H1 a ≠ none)) H4 y (d i) → KY y H4) → te ((wipe σ vs).set sl (some (V.int (i : Nat)))) H KY)
    (hd : ∀ D H, H1 D = none → Same H1 H → Ow r H D ((List.range n).map d) → Q D H) :
    ∃ j' : Int, [V.int j] = [V.int j'] ∧ -(2 ^ 62) ≤ j' ∧ j' < 2 ^ 62 ∧ LcJ (Itr 0 j'.toNat) H1 (gName sl) tYes te vs σ Q := by
  refine ⟨j, rfl, hb.1, hb.2, ?_⟩
  rw [hj]
  refine lc_data1 walk_range hz r d hr (fun _ _ => trivial) (fun i x H H' hi s y KY ky => ?_) gm_name hd
  obtain ⟨rfl, rfl⟩ := y
  dsimp only
  rw [show (0 : Int) + (i : Nat) = (i : Nat) from Int.zero_add _]
  exact ⟨hw _, hs i H' hi s KY ky⟩
theorem lcr2_data {σ : L2.St} {H1 : Hp} {Q : Addr → Hp → Prop} {te : TE} {vs : List Nat} {sl : Nat} {a j : Int} (n : Nat) (r : Rg) (d : Nat → PyData) (hj : (j - a).toNat = n) (hb : -(2 ^ 62) ≤ a ∧ a < 2 ^ 62 ∧ -(2 ^ 62) ≤ j ∧ j < 2 ^ 62) (hz : n ≤ 100000) (hw : ∀ v : Option V, wipe ((wipe σ vs).set sl v) vs = wipe σ vs) (hr : ∀ a, H1 a = none → r a)
    (hs : ∀ i H, i < n → Same H1 H → ∀ KY : V → Hp → Prop, (∀ y H4, Same H H4 → Da (fun a => H a = none ∨ (r a ∧ H1 a ≠ none)) H4 y (d i) → KY y H4) → te ((wipe σ vs).set sl (some (V.int (a + (i : Nat))))) H KY)
    (hd : ∀ D H, H1 D = none → Same H1 H → Ow r H D ((List.range n).map d) → Q D H) :
    ∃ a' j' : Int, [V.int a, V.int j] = [V.int a', V.int j'] ∧ (-(2 ^ 62) ≤ a' ∧ a' < 2 ^ 62 ∧ -(2 ^ 62) ≤ j' ∧ j' < 2 ^ 62) ∧ LcJ (Itr a' (j' - a').toNat) H1 (gName sl) tYes te vs σ Q := by
  refine ⟨a, j, rfl, hb, ?_⟩
  rw [hj]
  refine lc_data1 walk_range hz r d hr (fun _ _ => trivial) (fun i x H H' hi s y KY ky => ?_) gm_name hd
  obtain ⟨rfl, rfl⟩ := y
  exact ⟨hw _, hs i H' hi s KY ky⟩
theorem lcl_data {K : PySem.W.Frag} {σ : L2.St} {H1 : Hp} {Q : Addr → Hp → Prop} {te : TE} {vs : List Nat} {sl : Nat} {a : Addr} {xs : List V} (r : Rg) (d : Nat → PyData) (hx : SqL K H1 a xs) (hz : xs.length ≤ 100000) (hw : ∀ v : Option V, wipe ((wipe σ vs).set sl v) vs = wipe σ vs) (hr : ∀ a, H1 a = none → r a)
    (hs : ∀ (i : Nat) (x : V) (H : Hp), xs[i]? = some x → Same H1 H → ∀ KY : V → Hp → Prop, (∀ y H4, Same H H4 → Da (fun a => H a = none ∨ (r a ∧ H1 a ≠ none)) H4 y (d i) → KY y H4) → te ((wipe σ vs).set sl (some x)) H KY)
    (hd : ∀ D H, H1 D = none → Same H1 H → Ow r H D ((List.range xs.length).map d) → Q D H) :
    ∃ a', V.ref a = .ref a' ∧ (∃ xs, SqL K H1 a' xs) ∧ LcJ (Itl K a') H1 (gName sl) tYes te vs σ Q := by
  refine ⟨a, rfl, ⟨xs, hx⟩, ?_⟩
  refine lc_data1 walk_list hz r d hr (fun _ s => s_sq s hx) (fun i x H H' hi s y KY ky => ?_) gm_name hd
  obtain ⟨rfl, ex⟩ := y
  exact ⟨hw _, hs i x H' ex s KY ky⟩
theorem lcl_dataP {K : PySem.W.Frag} {σ : L2.St} {H1 : Hp} {Q : Addr → Hp → Prop} {te : TE} {vs : List Nat} {s1 s2 : Nat} {a : Addr} {xs : List V} (r : Rg) (d : Nat → PyData) (hx : SqL K H1 a xs) (hz : xs.length ≤ 100000)
    (hw : ∀ v v' : Option V, wipe (((wipe σ vs).set s1 v).set s2 v') vs = wipe σ vs) (hr : ∀ a, H1 a = none → r a)
    (hp : ∀ (i : Nat) (x : V), xs[i]? = some x → ∃ (t : Addr) (y z : V), x = .ref t ∧ SqT K H1 t [y, z])
    (hs : ∀ (i : Nat) (t : Addr) (y z : V) (H : Hp), xs[i]? = some (V.ref t) → SqT K H1 t [y, z] → Same H1 H → ∀ KY : V → Hp → Prop, (∀ y H4, Same H H4 → Da (fun a => H a = none ∨ (r a ∧ H1 a ≠ none)) H4 y (d i) → KY y H4) → te (((wipe σ vs).set s1 (some y)).set s2 (some z)) H KY)
    (hd : ∀ D H, H1 D = none → Same H1 H → Ow r H D ((List.range xs.length).map d) → Q D H) :
    ∃ a', V.ref a = .ref a' ∧ (∃ xs, SqL K H1 a' xs) ∧ LcJ (Itl K a') H1 (gTup K 2 (gCons (gName s1) (gCons (gName s2) gNil))) tYes te vs σ Q := by
  refine ⟨a, rfl, ⟨xs, hx⟩, ?_⟩
  refine lc_data1 walk_list hz r d hr (fun _ s => s_sq s hx) (fun i x H H' hi s y KY ky => ?_) gm_pair hd
  obtain ⟨rfl, ex⟩ := y
  obtain ⟨t, y, z, rfl, ht⟩ := hp i x ex
  exact ⟨t, [y, z], rfl, s_st s ht, rfl, y, [z], rfl, z, [], rfl, rfl, hw _ _, hs i t y z H' ex ht s KY ky⟩
/-! a comprehension of two clauses -/
abbrev Lc2In (J1 : It) (H4 : Hp) (g1 : TG) (tt1 : TT) (te : TE) (vs1 : List Nat) (σ2 : L2.St) (D : Addr) (Nx : Hp → Prop) : Prop := ∃ W1 : Nat → Nat → Hp → Prop, (∃ m, W1 0 m H4) ∧ ∀ j k H, W1 j k H →
  (J1.stop j H ∧ Nx H) ∨ (J1.go j H ∧ ∃ Nx1 : Hp → Prop, (∀ H', Nx1 H' → ∃ k', k' < k ∧ W1 (j + 1) k' H') ∧ ∀ x H', J1.yld j H x H' → g1 x (wipe σ2 vs1) H' fun σ3 H5 => wipe σ3 vs1 = wipe σ2 vs1 ∧ tt1 σ3 H5 fun b H6 =>
    if b = true then te σ3 H6 fun y H7 => ∃ acc, H7 D = some (.lst acc) ∧ acc.length < sizeLine ∧ Nx1 (upd H7 D (.lst (acc ++ [y]))) else Nx1 H6)
abbrev Lc2Out (J : It) (H1 : Hp) (g : TG) (tt : TT) (wi1 : TI) (g1 : TG) (tt1 : TT) (te : TE) (vs vs1 : List Nat) (σ : L2.St) (Qd : Addr → Hp → Prop) : Prop := ∀ D, H1 D = none → ∃ W : Nat → Nat → Hp → Prop, (∃ m, W 0 m (upd H1 D (.lst []))) ∧ ∀ i m H, W i m H →
  (J.stop i H ∧ Qd D H) ∨ (J.go i H ∧ ∃ Nx : Hp → Prop, (∀ H', Nx H' → ∃ m', m' < m ∧ W (i + 1) m' H') ∧ ∀ x H', J.yld i H x H' → g x (wipe σ vs) H' fun σ2 H2 => wipe σ2 vs = wipe σ vs ∧ tt σ2 H2 fun b H3 =>
    if b = true then wi1 σ2 H3 fun J1 H4 => Lc2In J1 H4 g1 tt1 te vs1 σ2 D Nx else Nx H3)
theorem r_lc2I {wi : TI} {g : TG} {tt : TT} {wi1 : TI} {g1 : TG} {tt1 : TT} {te : TE} {vs vs1 : List Nat} {σ : L2.St} {H : Hp} {Q : VK} (h : wi σ H fun J H1 => Lc2Out J H1 g tt wi1 g1 tt1 te vs vs1 σ fun D H => Q (.ref D) H) : tLc2 wi g tt wi1 g1 tt1 te vs vs1 σ H Q := h
theorem r_iRng1 {ta : TA} {σ : L2.St} {H : Hp} {R : It → Hp → Prop} (h : ta σ H fun vs H1 => ∃ j : Int, vs = [.int j] ∧ -(2 ^ 62) ≤ j ∧ j < 2 ^ 62 ∧ R (Itr 0 j.toNat) H1) : iRng1 ta σ H R := h
theorem r_iRng2 {ta : TA} {σ : L2.St} {H : Hp} {R : It → Hp → Prop} (h : ta σ H fun vs H1 => ∃ i j : Int, vs = [.int i, .int j] ∧ (-(2 ^ 62) ≤ i ∧ i < 2 ^ 62 ∧ -(2 ^ 62) ≤ j ∧ j < 2 ^ 62) ∧ R (Itr i (j - i).toNat) H1) : iRng2 ta σ H R := h
theorem r_iLst {K : PySem.W.Frag} {tl : TE} {σ : L2.St} {H : Hp} {R : It → Hp → Prop} (h : tl σ H fun x H1 => ∃ a, x = .ref a ∧ (∃ xs, SqL K H1 a xs) ∧ R (Itl K a) H1) : iList K tl σ H R := h
theorem r_iTup {K : PySem.W.Frag} {tl : TE} {σ : L2.St} {H : Hp} {R : It → Hp → Prop} (h : tl σ H fun x H1 => ∃ a, x = .ref a ∧ (∃ xs, SqT K H1 a xs) ∧ R (Itt K a) H1) : iTup K tl σ H R := h
theorem r_iEnum {K : PySem.W.Frag} {ta : TA} {σ : L2.St} {H : Hp} {R : It → Hp → Prop} (h : ta σ H fun vs H1 => ∃ a xs, vs = [.ref a] ∧ SqL K H1 a xs ∧ R (Ite K a) H1) : iEnum K ta σ H R := h
theorem r_iZip {K : PySem.W.Frag} {ta : TA} {σ : L2.St} {H : Hp} {R : It → Hp → Prop} (h : ta σ H fun vs H1 => ∃ a b xs ys, vs = [.ref a, .ref b] ∧ SqL K H1 a xs ∧ SqL K H1 b ys ∧ R (Itz K a b) H1) : iZip K ta σ H R := h
/-- what the inner loop is told of its turn i: D is the list that grows -/
def In2 (H1 H4 : Hp) (D : Addr) (r : Rg) (m : Nat) (p : Nat → Bool) (d : Nat → PyData) (g1 : TG) (tt1 : TT) (te : TE) (vs1 : List Nat) (σ2 : L2.St) (J1 : It) : Prop :=
  ∃ (G1 : Hp → Prop) (Y1 : Nat → Hp → V → Hp → Prop), Walk J1 m G1 Y1 ∧ (∀ H, (∀ a o, H4 a = some o → a ≠ D → H a = some o) → G1 H) ∧ ∀ j x H H', j < m → (∀ a o, H4 a = some o → a ≠ D → H a = some o) → Y1 j H x H' → ∀ (KY : V → Hp → Prop) (KN : Hp → Prop),
    (p j = true → ∀ y H7, Same H H7 → Da (fun a => H a = none ∨ (r a ∧ a ≠ D)) H7 y (d j) → KY y H7) → (p j = false → ∀ H6, Same H H6 → KN H6) →
    g1 x (wipe σ2 vs1) H' fun σ3 H5 => wipe σ3 vs1 = wipe σ2 vs1 ∧ tt1 σ3 H5 fun b H6 => if b = true then te σ3 H6 KY else KN H6
theorem lc2_data {J : It} {n : Nat} {G : Hp → Prop} {Y : Nat → Hp → V → Hp → Prop} (w : Walk J n G Y) {g : TG} {wi1 : TI} {g1 : TG} {tt1 : TT} {te : TE} {vs vs1 : List Nat} {σ : L2.St} {H1 : Hp} {Qd : Addr → Hp → Prop} (r : Rg) (m : Nat → Nat) (p : Nat → Nat → Bool) (d : Nat → Nat → PyData)
    (hz : ((List.range n).flatMap fun i => ((List.range (m i)).filter (p i)).map (d i)).length < 100000) (hr : ∀ a, H1 a = none → r a) (hG : ∀ H, Same H1 H → G H)
    (gm : ∀ (x : V) (σ : L2.St) (H : Hp) (k k' : L2.St → Hp → Prop), (∀ σ H, k σ H → k' σ H) → g x σ H k → g x σ H k')
    (hs : ∀ i x H H' D, i < n → Same H1 H → H1 D = none → H D ≠ none → Y i H x H' → ∀ KI : L2.St → It → Hp → Prop, (∀ σ2 J1 H4, Same H H4 → In2 H1 H4 D r (m i) (p i) (d i) g1 tt1 te vs1 σ2 J1 → KI σ2 J1 H4) → g x (wipe σ vs) H' fun σ2 H2 => wipe σ2 vs = wipe σ vs ∧ wi1 σ2 H2 (KI σ2))
    (hd : ∀ D H, H1 D = none → Same H1 H → Ow r H D ((List.range n).flatMap fun i => ((List.range (m i)).filter (p i)).map (d i)) → Qd D H) : Lc2Out J H1 g tYes wi1 g1 tt1 te vs vs1 σ Qd := fun D hD => by
  have fl : ∀ k, ((List.range (k + 1)).flatMap fun i => ((List.range (m i)).filter (p i)).map (d i)) = ((List.range k).flatMap fun i => ((List.range (m i)).filter (p i)).map (d i)) ++ ((List.range (m k)).filter (p k)).map (d k) := fun k => by
    rw [List.range_succ, List.flatMap_append]; simp
  have mono : ∀ k, k ≤ n → ((List.range k).flatMap fun i => ((List.range (m i)).filter (p i)).map (d i)).length ≤ ((List.range n).flatMap fun i => ((List.range (m i)).filter (p i)).map (d i)).length := fun k hk => by
    obtain ⟨e, rfl⟩ := Nat.exists_eq_add_of_le hk
    clear hz hs hd hk w
    induction e with
    | zero => exact Nat.le_refl _
    | succ e ih => rw [← Nat.add_assoc, fl, List.length_append]; omega
  refine ⟨fun i z H => z = n - i ∧ i ≤ n ∧ Same H1 H ∧ Ow r H D ((List.range i).flatMap fun i => ((List.range (m i)).filter (p i)).map (d i)), ⟨n, by omega, Nat.zero_le _, s_upd hD, Ow.nil (hr _ hD) upd_same⟩, ?_⟩
  rintro i z H ⟨rfl, hi, s1, ow⟩
  by_cases hlt : i < n
  · have hDs : H D ≠ none := by obtain ⟨_, xs, hp, _⟩ := ow; rw [hp]; intro z; cases z
    refine .inr ⟨w.goes i H hlt (hG H s1), fun H' => Same H1 H' ∧ Ow r H' D ((List.range (i + 1)).flatMap fun i => ((List.range (m i)).filter (p i)).map (d i)), fun H' z => ⟨n - (i + 1), by omega, rfl, hlt, z.1, z.2⟩, fun x H' y => ?_⟩
    refine gm _ _ _ _ _ (fun σ2 H2 z => ⟨z.1, i_t (B := Same H1 H2 ∧ Ow r H2 D ((List.range (i + 1)).flatMap fun i => ((List.range (m i)).filter (p i)).map (d i))) z.2⟩) (hs i x H H' D hlt s1 hD hDs (w.yields i H x H' hlt (hG H s1) y) (fun σ2 J1 H4 => Lc2In J1 H4 g1 tt1 te vs1 σ2 D fun H' => Same H1 H' ∧ Ow r H' D ((List.range (i + 1)).flatMap fun i => ((List.range (m i)).filter (p i)).map (d i))) fun σ2 J1 H4 s4 ⟨G1, Y1, w1, hG1, hs1⟩ => ?_)
    have b1 := mono (i + 1) hlt
    have s14 := s1.trans s4
    refine ⟨fun j z H => z = m i - j ∧ j ≤ m i ∧ (∀ a o, H4 a = some o → a ≠ D → H a = some o) ∧ Ow r H D (((List.range i).flatMap fun i => ((List.range (m i)).filter (p i)).map (d i)) ++ ((List.range j).filter (p i)).map (d i)), ⟨m i, by omega, Nat.zero_le _, fun a o e _ => e, by rw [List.range_zero, List.filter_nil, List.map_nil, List.append_nil]; exact ow.same s4⟩, ?_⟩
    rintro j z H5 ⟨rfl, hj, k5, ow5⟩
    have s5 : Same H1 H5 := fun a o e => k5 a o (s14 a o e) (fun z => by rw [z, hD] at e; cases e)
    by_cases hjl : j < m i
    · obtain ⟨rp, xs, hp, l⟩ := id ow5
      have hxl : xs.length < 100000 := by
        rw [l.len]
        have hh : (((List.range j).filter (p i)).map (d i)).length ≤ (((List.range (m i)).filter (p i)).map (d i)).length := by
          rw [List.length_map, List.length_map]
          have e : m i = j + (m i - j) := by omega
          rw [e, List.range_add, List.filter_append, List.length_append]; omega
        rw [fl, List.length_append] at b1
        rw [List.length_append]; omega
      refine .inr ⟨w1.goes j H5 hjl (hG1 H5 k5), fun H' => (∀ a o, H4 a = some o → a ≠ D → H' a = some o) ∧ Ow r H' D (((List.range i).flatMap fun i => ((List.range (m i)).filter (p i)).map (d i)) ++ ((List.range (j + 1)).filter (p i)).map (d i)), fun H' z => ⟨m i - (j + 1), by omega, rfl, hjl, z.1, z.2⟩, fun x H' y => ?_⟩
      refine hs1 j x H5 H' hjl k5 (w1.yields j H5 x H' hjl (hG1 H5 k5) y) _ _ (fun hpj y7 H7 s7 hy => ?_) (fun hpj H6 s6 => ?_)
      · refine ⟨xs, s7 _ _ hp, szl hxl, fun a o e ne => (upd_ne ne).trans (s7 _ _ (k5 a o e ne)), ?_⟩
        rw [filt_succ, hpj, if_pos rfl, ← List.append_assoc]
        refine ow5.push s7 (s7 _ _ hp) (hy.wk fun a za => ?_)
        rcases za with za | za
        · exact ⟨hr _ (s5.free za), fun z => by rw [z, hp] at za; cases za⟩
        · exact za
      · refine ⟨fun a o e ne => s6 _ _ (k5 a o e ne), ?_⟩
        rw [filt_succ, hpj, if_neg Bool.false_ne_true, List.append_nil]
        exact ow5.same s6
    · have e : j = m i := by omega
      subst e
      exact .inl ⟨w1.stops H5 (hG1 H5 k5), s5, by rw [fl]; exact ow5⟩
  · have e : i = n := by omega
    subst e
    exact .inl ⟨w.stops H (hG H s1), hd D H hD s1 ow⟩
/-! a grid of one's own: rows that are different objects -/
def GridF (r : Rg) (H : Hp) (p : Addr) (n m : Nat) (f : Nat → Nat → V) : Prop := r p ∧ ∃ rs : Nat → Addr, H p = some (.lst (rl n fun i => V.ref (rs i))) ∧ (∀ i j, i < n → j < n → rs i = rs j → i = j) ∧ ∀ i, i < n → r (rs i) ∧ rs i ≠ p ∧ H (rs i) = some (.lst (rl m (f i)))
theorem GridF.same {r : Rg} {H H' : Hp} {p : Addr} {n m : Nat} {f : Nat → Nat → V} (h : GridF r H p n m f) (s : Same H H') : GridF r H' p n m f := by
  obtain ⟨rp, rs, hp, inj, hr⟩ := h
  exact ⟨rp, rs, s _ _ hp, inj, fun i hi => ⟨(hr i hi).1, (hr i hi).2.1, s _ _ (hr i hi).2.2⟩⟩
theorem GridF.mono {r r' : Rg} {H H' : Hp} {p : Addr} {n m : Nat} {f : Nat → Nat → V} (k : ∀ a o, r a → H a = some o → r' a ∧ H' a = some o) (h : GridF r H p n m f) : GridF r' H' p n m f := by
  obtain ⟨rp, rs, hp, inj, hr⟩ := h
  exact ⟨(k _ _ rp hp).1, rs, (k _ _ rp hp).2, inj, fun i hi => ⟨(k _ _ (hr i hi).1 (hr i hi).2.2).1, (hr i hi).2.1, (k _ _ (hr i hi).1 (hr i hi).2.2).2⟩⟩
theorem GridF.congr {r : Rg} {H : Hp} {p : Addr} {n m : Nat} {f g : Nat → Nat → V} (h : GridF r H p n m f) (e : ∀ i j, i < n → j < m → f i j = g i j) : GridF r H p n m g := by
  obtain ⟨rp, rs, hp, inj, hr⟩ := h
  exact ⟨rp, rs, hp, inj, fun i hi => ⟨(hr i hi).1, (hr i hi).2.1, by rw [(hr i hi).2.2, rl_congr fun j hj => e i j hi hj]⟩⟩
theorem DaL.rl {r : Rg} {H : Hp} : ∀ {n : Nat} {f : Nat → V} {d : Nat → PyData}, (∀ i, i < n → Da r H (f i) (d i)) → DaL r H (rl n f) (rl n d) := fun {n f d} h =>
  DaL.of (by rw [rl_len, rl_len]) fun i x e a b => by
    have hi := (List.getElem?_eq_some_iff.mp a).1
    rw [rl_len] at hi
    rw [rl_at f hi] at a
    rw [rl_at d hi] at b
    cases a; cases b
    exact h i hi
def dG (n m : Nat) (d : Nat → Nat → PyData) : PyData := .list (rl n fun i => .list (rl m (d i)))
theorem GridF.da {r : Rg} {H : Hp} {p : Addr} {n m : Nat} {f : Nat → Nat → V} {d : Nat → Nat → PyData} (h : GridF r H p n m f) (e : ∀ i j, i < n → j < m → Da r H (f i j) (d i j)) : Da r H (.ref p) (dG n m d) := by
  obtain ⟨rp, rs, hp, inj, hr⟩ := h
  exact .lst rp hp (DaL.rl fun i hi => .lst (hr i hi).1 (hr i hi).2.2 (DaL.rl fun j hj => e i j hi hj))
/-- a row of it read -/
theorem r_row {K : PySem.W.Frag} {r : Rg} {H : Hp} {Q : VK} {p : Addr} {n m : Nat} {f : Nat → Nat → V} {k : Int} {i : Nat} (h : GridF r H p n m f) (e : k = (i : Int)) (hi : i < n) (q : ∀ a, r a → a ≠ p → H a = some (.lst (rl m (f i))) → (∀ v j, j < m → GridF r (upd H a (.lst ((rl m (f i)).set j v))) p n m fun x y => if x = i ∧ y = j then v else f x y) → Q (.ref a) H) : rIxL K (.ref p) (.int k) H Q := by
  obtain ⟨rp, rs, hp, inj, hr⟩ := h
  obtain ⟨r1, n1, h1⟩ := hr i hi
  refine r_ixL (sq_l hp) (by subst e; exact atI_nat (rl_at _ hi)) (q (rs i) r1 n1 h1 fun v j hj => ⟨rp, rs, (upd_ne n1.symm).trans hp, inj, fun x hx => ⟨(hr x hx).1, (hr x hx).2.1, ?_⟩⟩)
  by_cases ex : x = i
  · subst ex
    rw [upd_same]
    exact congrArg (fun z => some (HO.lst z)) (rl_set (by dsimp only; rw [if_pos ⟨rfl, rfl⟩]) fun y _ ne => by dsimp only; rw [if_neg fun z => ne z.2])
  · rw [upd_ne fun z => ex (inj x i hx hi z), (hr x hx).2.2]
    exact congrArg (fun z => some (HO.lst z)) (rl_congr fun y _ => by dsimp only; rw [if_neg fun z => ex z.1])
/-- [row for i in ..]: each row a new list -/
theorem lc_grid {J : It} {n : Nat} {G : Hp → Prop} {Y : Nat → Hp → V → Hp → Prop} (w : Walk J n G Y) {g : TG} {te : TE} {vs : List Nat} {σ : L2.St} {H1 : Hp} {Q : Addr → Hp → Prop} (hz : n ≤ 100000) (m : Nat) (f : Nat → Nat → V) (hG : ∀ H, Same H1 H → G H)
    (hs : ∀ i x H H', i < n → Same H1 H → Y i H x H' → ∀ KY : V → Hp → Prop, (∀ a H4, Same H H4 → H a = none → H4 a = some (.lst (rl m (f i))) → KY (.ref a) H4) → g x (wipe σ vs) H' fun σ2 H2 => wipe σ2 vs = wipe σ vs ∧ te σ2 H2 KY)
    (gm : ∀ (x : V) (σ : L2.St) (H : Hp) (k k' : L2.St → Hp → Prop), (∀ σ H, k σ H → k' σ H) → g x σ H k → g x σ H k')
    (hd : ∀ D H, H1 D = none → Same H1 H → GridF (fun a => H1 a = none) H D n m f → Q D H) : LcJ J H1 g tYes te vs σ Q := fun D hD => by
  refine lc_it w (fun i H => Same H1 H ∧ GridF (fun a => H1 a = none) H D i m f) ⟨s_upd hD, hD, fun _ => 0, upd_same, (fun i j hi => absurd hi (Nat.not_lt_zero i)), fun i hi => absurd hi (Nat.not_lt_zero i)⟩ (fun i H _ z => hG H z.1) (fun i x H H' hi z y => ?_) (fun H z => hd D H hD z.1 z.2)
  obtain ⟨s1, rp, rs, hp, inj, hr⟩ := z
  refine gm _ _ _ _ _ (fun σ2 H2 z => ⟨z.1, i_t (B := Same H1 H2 ∧ GridF (fun a => H1 a = none) H2 D (i + 1) m f) z.2⟩) (hs i x H H' hi s1 y _ fun a H4 s4 na ha => ?_)
  have naD : a ≠ D := fun z => by rw [z, hp] at na; cases na
  refine ⟨_, s4 _ _ hp, szl (by rw [rl_len]; omega), s_mut (s1.trans s4) hD, hD, fun k => if k = i then a else rs k, ?_, fun k j hk hj e => ?_, fun k hk => ?_⟩
  · rw [upd_same]
    refine congrArg (fun z => some (HO.lst z)) ?_
    unfold rl
    rw [List.range_succ, List.map_append]
    refine congr (congrArg (· ++ ·) (List.map_congr_left fun k hk => ?_)) ?_
    · dsimp only; rw [if_neg (by have := List.mem_range.mp hk; omega)]
    · simp
  · dsimp only at e
    have nr : ∀ k, k < i → rs k ≠ a := fun k hk z => by rw [← z, (hr k hk).2.2] at na; cases na
    by_cases ek : k = i
    · by_cases ej : j = i
      · omega
      · rw [if_pos ek, if_neg ej] at e
        exact absurd e.symm (nr j (by omega))
    · by_cases ej : j = i
      · rw [if_neg ek, if_pos ej] at e
        exact absurd e (nr k (by omega))
      · rw [if_neg ek, if_neg ej] at e
        exact inj k j (by omega) (by omega) e
  · by_cases ek : k = i
    · subst ek
      dsimp only
      rw [if_pos rfl]
      exact ⟨s1.free na, naD, (upd_ne naD).trans ha⟩
    · dsimp only
      rw [if_neg ek]
      obtain ⟨r1, n1, h1⟩ := hr k (by omega)
      exact ⟨r1, n1, (upd_ne n1).trans (s4 _ _ h1)⟩
theorem lcr_grid {σ : L2.St} {H1 : Hp} {Q : Addr → Hp → Prop} {te : TE} {vs : List Nat} {sl : Nat} {j : Int} (n m : Nat) (f : Nat → Nat → V) (hj : j.toNat = n) (hb : -(2 ^ 62) ≤ j ∧ j < 2 ^ 62) (hz : n ≤ 100000) (hw : ∀ v : Option V, wipe ((wipe σ vs).set sl v) vs = wipe σ vs)
    (hs : ∀ i H, i < n → Same H1 H → ∀ KY : V → Hp → Prop, (∀ a H4, Same H H4 → H a = none → H4 a = some (.lst (rl m (f i))) → KY (.ref a) H4) → te ((wipe σ vs).set sl (some (V.int (i : Nat)))) H KY)
    (hd : ∀ D H, H1 D = none → Same H1 H → GridF (fun a => H1 a = none) H D n m f → Q D H) :
    ∃ j' : Int, [V.int j] = [V.int j'] ∧ -(2 ^ 62) ≤ j' ∧ j' < 2 ^ 62 ∧ LcJ (Itr 0 j'.toNat) H1 (gName sl) tYes te vs σ Q := by
  refine ⟨j, rfl, hb.1, hb.2, ?_⟩
  rw [hj]
  refine lc_grid walk_range hz m f (fun _ _ => trivial) (fun i x H H' hi s y KY ky => ?_) gm_name hd
  obtain ⟨rfl, rfl⟩ := y
  dsimp only
  rw [show (0 : Int) + (i : Nat) = (i : Nat) from Int.zero_add _]
  exact ⟨hw _, hs i H' hi s KY ky⟩
theorem lcl_grid {K : PySem.W.Frag} {σ : L2.St} {H1 : Hp} {Q : Addr → Hp → Prop} {te : TE} {vs : List Nat} {sl : Nat} {a : Addr} {xs : List V} (m : Nat) (f : Nat → Nat → V) (hx : SqL K H1 a xs) (hz : xs.length ≤ 100000) (hw : ∀ v : Option V, wipe ((wipe σ vs).set sl v) vs = wipe σ vs)
    (hs : ∀ (i : Nat) (x : V) (H : Hp), xs[i]? = some x → Same H1 H → ∀ KY : V → Hp → Prop, (∀ a H4, Same H H4 → H a = none → H4 a = some (.lst (rl m (f i))) → KY (.ref a) H4) → te ((wipe σ vs).set sl (some x)) H KY)
    (hd : ∀ D H, H1 D = none → Same H1 H → GridF (fun a => H1 a = none) H D xs.length m f → Q D H) :
    ∃ a', V.ref a = .ref a' ∧ (∃ xs, SqL K H1 a' xs) ∧ LcJ (Itl K a') H1 (gName sl) tYes te vs σ Q := by
  refine ⟨a, rfl, ⟨xs, hx⟩, ?_⟩
  refine lc_grid walk_list hz m f (fun _ s => s_sq s hx) (fun i x H H' hi s y KY ky => ?_) gm_name hd
  obtain ⟨rfl, ex⟩ := y
  exact ⟨hw _, hs i x H' ex s KY ky⟩
theorem r_prT {H : Hp} {K : PySem.W.Frag} {σ σ2 : L2.St} {i j : Nat} {T : Addr} {x y : V} {k : L2.St → Hp → Prop} (hT : SqT K H T [x, y]) (hs : (σ.set i (some x)).set j (some y) = σ2) (h : k σ2 H) :
    gTup K 2 (gCons (gName i) (gCons (gName j) gNil)) (.ref T) σ H k := ⟨T, [x, y], rfl, hT, rfl, x, [y], rfl, y, [], rfl, rfl, by rw [hs]; exact h⟩
theorem r_thT {H : Hp} {K : PySem.W.Frag} {σ σ2 : L2.St} {i j l : Nat} {T : Addr} {x y z : V} {k : L2.St → Hp → Prop} (hT : SqT K H T [x, y, z]) (hs : ((σ.set i (some x)).set j (some y)).set l (some z) = σ2) (h : k σ2 H) :
    gTup K 3 (gCons (gName i) (gCons (gName j) (gCons (gName l) gNil))) (.ref T) σ H k := ⟨T, [x, y, z], rfl, hT, rfl, x, [y, z], rfl, y, [z], rfl, z, [], rfl, rfl, by rw [hs]; exact h⟩
theorem units65 {k : Nat} {A : Around} (r : Room k A) : A.units + 65 < cLine := by have := r.un; omega
/-! for loops by walks -/
abbrev ForJ (J : It) (H1 : Hp) (g : TG) (tb : TS) (D : Ends) (σ : L2.St) : Prop := ∃ W : Nat → Nat → L2.St → Hp → Prop, (∃ m, W 0 m σ H1) ∧ ∀ i m σ H, W i m σ H →
  (J.stop i H ∧ D.nx σ H) ∨ (J.go i H ∧ ∃ N : L2.St → Hp → Prop, (∀ σ' H', N σ' H' → ∃ m', m' < m ∧ W (i + 1) m' σ' H') ∧ ∀ x H', J.yld i H x H' → g x σ H' fun σ2 H2 => tb { D with nx := N, ct := N, bk := D.nx } σ2 H2)
theorem r_forI {wi : TI} {g : TG} {tb : TS} {D : Ends} {σ : L2.St} {H : Hp} (h : wi σ H fun J H1 => ForJ J H1 g tb D σ) : tFor wi g tb D σ H := h
theorem Da.here {r : Rg} {H : Hp} {v : V} {d : PyData} (h : Da r H v d) : Da (fun a => r a ∧ H a ≠ none) H v d := h.mono fun a o ra e => ⟨⟨ra, by rw [e]; intro z; cases z⟩, e⟩
theorem DaL.here {r : Rg} {H : Hp} {v : List V} {d : List PyData} (h : DaL r H v d) : DaL (fun a => r a ∧ H a ≠ none) H v d := h.mono fun a o ra e => ⟨⟨ra, by rw [e]; intro z; cases z⟩, e⟩
theorem map_idx {α β : Type} (l : List α) (z : α) (f : α → β) : (List.range l.length).map (fun i => f (l.getD i z)) = l.map f := by
  refine List.ext_getElem (by rw [List.length_map, List.length_range, List.length_map]) fun i h1 h2 => ?_
  rw [List.length_map] at h2
  rw [List.getElem_map, List.getElem_range, List.getElem_map, List.getD_eq_getElem?_getD, List.getElem?_eq_getElem h2]; rfl
theorem filt_idx {α β : Type} (l : List α) (z : α) (q : α → Bool) (f : α → β) : ((List.range l.length).filter fun i => q (l.getD i z)).map (fun i => f (l.getD i z)) = (l.filter q).map f := by
  have e : l = (List.range l.length).map fun i => l.getD i z := by rw [map_idx l z (fun x => x)]; simp
  conv => rhs; rw [e, List.filter_map, List.map_map]
  rfl
theorem flat_idx {α β γ : Type} (l : List α) (k : List β) (z : α) (y : β) (f : α → β → γ) : ((List.range l.length).flatMap fun i => ((List.range k.length).filter fun _ => true).map fun j => f (l.getD i z) (k.getD j y)) = l.flatMap fun a => k.map fun b => f a b := by
  have ef : (List.range k.length).filter (fun _ => true) = List.range k.length := by simp
  rw [ef]
  have e : l = (List.range l.length).map fun i => l.getD i z := by rw [map_idx l z (fun x => x)]; simp
  conv => rhs; rw [e, List.flatMap_map]
  exact congrArg List.flatten (List.map_congr_left fun i _ => map_idx k y _)
theorem lcl_filt {K : PySem.W.Frag} {σ : L2.St} {H1 : Hp} {Q : Addr → Hp → Prop} {tt : TT} {te : TE} {vs : List Nat} {sl : Nat} {a : Addr} {xs : List V} (r : Rg) (p : Nat → Bool) (d : Nat → PyData) (hx : SqL K H1 a xs) (hz : xs.length ≤ 100000) (hw : ∀ v : Option V, wipe ((wipe σ vs).set sl v) vs = wipe σ vs) (hr : ∀ a, H1 a = none → r a)
    (ht : ∀ (i : Nat) (x : V) (H : Hp), xs[i]? = some x → Same H1 H → ∀ k : Bool → Hp → Prop, (∀ H5, Same H H5 → k (p i) H5) → tt ((wipe σ vs).set sl (some x)) H k)
    (hs : ∀ (i : Nat) (x : V) (H : Hp), xs[i]? = some x → p i = true → Same H1 H → ∀ KY : V → Hp → Prop, (∀ y H4, Same H H4 → Da (fun a => H a = none ∨ (r a ∧ H1 a ≠ none)) H4 y (d i) → KY y H4) → te ((wipe σ vs).set sl (some x)) H KY)
    (hd : ∀ D H, H1 D = none → Same H1 H → Ow r H D (((List.range xs.length).filter p).map d) → Q D H) :
    ∃ a', V.ref a = .ref a' ∧ (∃ xs, SqL K H1 a' xs) ∧ LcJ (Itl K a') H1 (gName sl) tt te vs σ Q := by
  refine ⟨a, rfl, ⟨xs, hx⟩, lc_data walk_list hz r p d hr (fun _ s => s_sq s hx) (fun i x H H' hi s y KY KN ky kn => ?_) hd⟩
  obtain ⟨rfl, ex⟩ := y
  refine ⟨hw _, ht i x H' ex s _ fun H5 s5 => ?_⟩
  cases hp : p i with
  | true => exact i_t (B := KN H5) (hs i x H5 ex hp (s.trans s5) KY fun y H4 s4 hy => ky hp y H4 (s5.trans s4) (hy.wk fun b zb => zb.elim (fun z => .inl (s5.free z)) .inr))
  | false => exact i_f (A := te ((wipe σ vs).set sl (some x)) H5 KY) (kn hp H5 s5)
/-- lists joined: a new list -/
theorem r_catD {H : Hp} {Q : VK} {r r1 r2 : Rg} {l b : Addr} {ds es : List PyData} (hl : Da r1 H (.ref l) (.list ds)) (hb : Da r2 H (.ref b) (.list es)) (hz : ds.length + es.length ≤ 100000) (k1 : ∀ a, r1 a → r a) (k2 : ∀ a, r2 a → r a) (kn : ∀ a, H a = none → r a)
    (q : ∀ p H1, H p = none → Same H H1 → Ow r H1 p (ds ++ es) → Q (.ref p) H1) : rCat (.ref l) (.ref b) H Q := by
  obtain ⟨xs, _, hx, lx⟩ := da_lstA hl
  obtain ⟨ys, _, hy, ly⟩ := da_lstA hb
  refine r_cat hx hy (by rw [lx.len, ly.len]; exact hz) (fun p hp => q p _ hp (s_upd hp) ⟨kn _ hp, _, upd_same, ?_⟩)
  have np : ∀ a, H a ≠ none → a ≠ p := fun a h z => h (z ▸ hp)
  exact ((lx.here.wk fun a z => (⟨k1 _ z.1, np a z.2⟩ : r a ∧ a ≠ p)).app (ly.here.wk fun a z => ⟨k2 _ z.1, np a z.2⟩)).same (s_upd hp)
theorem eqv_i2 (x y : Int × Int) : PyData.eqv (dI2 x) (dI2 y) = decide (x = y) := by
  obtain ⟨a, b⟩ := x
  obtain ⟨c, d⟩ := y
  have e : PyData.eqv (dI2 (a, b)) (dI2 (c, d)) = ((a == c) && (b == d)) := by simp [PyData.eqv, PyData.eqvAll, dI2]
  rw [e]
  by_cases h : a = c <;> by_cases h2 : b = d <;> simp [h, h2]
theorem any_i2 (p : Int × Int) (l : List (Int × Int)) : ((l.map dI2).any fun z => PyData.eqv z (dI2 p)) = decide (p ∈ l) := by
  rw [List.any_map]
  induction l with
  | nil => simp
  | cons x l ih =>
    rw [List.any_cons, ih]
    show (PyData.eqv (dI2 x) (dI2 p) || _) = _
    rw [eqv_i2]
    by_cases h : p = x
    · subst h; simp
    · by_cases h2 : p ∈ l <;> simp [h, h2, Ne.symm h]
/-! a list of written pairs -/
def litTA : List (Int × Int) → TA
  | [] => tNil
  | p :: l => tCons (tTup (tCons (tC (.int p.1)) (tCons (tC (.int p.2)) tNil))) (litTA l)
def tLit (l : List (Int × Int)) : TE := tLst (litTA l)
theorem pe_lit {X : Cx} {es : List Expr} {pos : Pos} (l : List (Int × Int)) (h : PE X (.List es pos) (tLst (litTA l))) : PE X (.List es pos) (tLit l) := h
theorem lit_go {σ : L2.St} : ∀ (l : List (Int × Int)) {H : Hp} {P : List V → Hp → Prop} (r : Rg), (∀ a, H a = none → r a) → (∀ xs H1, Same H H1 → DaL r H1 xs (l.map dI2) → P xs H1) → litTA l σ H P
  | [], H, P, r, _, h => h [] H (Same.refl _) .nil
  | p :: l, H, P, r, hr, h => by
    refine ⟨by show 2 ≤ sizeLine; decide, fun t ht => ?_⟩
    have s1 : Same H (upd H t (.tup [V.int p.1, V.int p.2])) := s_upd ht
    exact lit_go l r (fun a ha => hr a (s1.free ha)) fun xs H1 s2 d => h _ _ (s1.trans s2) (.cons (Da.i2 (hr _ ht) (s2 _ _ upd_same)) d)
theorem r_lit {σ : L2.St} {H : Hp} {Q : VK} (l : List (Int × Int)) (r : Rg) (hr : ∀ a, H a = none → r a) (hz : l.length ≤ 1000) (q : ∀ p H1, H p = none → Same H H1 → Ow r H1 p (l.map dI2) → Q (.ref p) H1) : tLit l σ H Q :=
  lit_go l r hr fun xs H1 s1 d => ⟨sz (by rw [d.len, List.length_map]; omega), fun p hp => q p _ (s1.free hp) (s1.trans (s_upd hp)) ⟨hr _ (s1.free hp), xs, upd_same, d.here.mono fun a o z e => ⟨⟨z.1, fun w => z.2 (w ▸ hp)⟩, s_upd hp _ _ e⟩⟩⟩
/-- two kept of two -/
theorem filt2 {α : Type} (p : Nat → Bool) (d : Nat → α) : ((List.range 2).filter p).map d = (if p 0 = true then [d 0] else []) ++ (if p 1 = true then [d 1] else []) := by
  have e : List.range 2 = [0, 1] := rfl
  rw [e]
  cases h0 : p 0 <;> cases h1 : p 1 <;> simp [h0, h1]
/-! what is read -/
theorem r_ixD {K : PySem.W.Frag} {r : Rg} {H : Hp} {Q : VK} {v : V} {i : Int} {j : Nat} {ds : List PyData} {d : PyData} (h : Da r H v (.list ds)) (e : i = (j : Int)) (hj : ds[j]? = some d) (q : ∀ x, Da r H x d → Q x H) : rIxL K v (.int i) H Q := by
  obtain ⟨a, xs, rfl, _, ha, l⟩ := da_lst h
  obtain ⟨x, ex, hx⟩ := l.at hj
  exact r_ixL (sq_l ha) (by subst e; exact atI_nat ex) (q x hx)
theorem r_ixDT {K : PySem.W.Frag} {r : Rg} {H : Hp} {Q : VK} {v : V} {i : Int} {j : Nat} {ds : List PyData} {d : PyData} (h : Da r H v (.tuple ds)) (e : i = (j : Int)) (hj : ds[j]? = some d) (q : ∀ x, Da r H x d → Q x H) : rIxT K v (.int i) H Q := by
  obtain ⟨a, xs, rfl, _, ha, l⟩ := da_tup h
  obtain ⟨x, ex, hx⟩ := l.at hj
  exact r_ixT (sq_t ha) (by subst e; exact atI_nat ex) (q x hx)
theorem r_lenD {K : PySem.W.Frag} {r : Rg} {H : Hp} {Q : VK} {v : V} {ds : List PyData} (h : Da r H v (.list ds)) (q : Q (.int (ds.length : Nat)) H) : cLen K [v] H Q := by
  obtain ⟨a, xs, rfl, _, ha, l⟩ := da_lst h
  exact r_lenL (sq_l ha) (by rw [l.len]; exact q)
/-- a slice is a new list -/
theorem r_slD {K : PySem.W.Frag} {r : Rg} {H : Hp} {Q : VK} {v : V} {ds : List PyData} {lo hi : Option Int} {a b : Nat} (h : Da r H v (.list ds)) (e : ∀ xs : List V, cutV xs lo hi = (xs.drop a).take b) (r' : Rg) (hr : ∀ a, r a → r' a) (hn : ∀ a, H a = none → r' a)
    (q : ∀ p H1, H p = none → Same H H1 → Ow r' H1 p ((ds.drop a).take b) → Q (.ref p) H1) : rSlL K v lo hi H Q := by
  obtain ⟨a', xs, rfl, _, ha, l⟩ := da_lst h
  refine r_slL (sq_l ha) (fun p hp => q p _ hp (s_upd hp) ⟨hn _ hp, _, upd_same, ?_⟩)
  rw [e]
  exact ((l.drop a).take b).mono fun x o rx ex => ⟨⟨hr _ rx, fun z => by rw [z, hp] at ex; cases ex⟩, s_upd hp _ _ ex⟩
/-! shapes: data that == can look at -/
def Lay (n : Nat) (d : PyData) : Prop := d.canLay0 = true ∧ d.depth ≤ n
theorem Lay.non {n : Nat} : Lay n .none := ⟨rfl, Nat.zero_le _⟩
theorem Lay.int {n : Nat} (i : Int) : Lay n (.int i) := ⟨rfl, Nat.zero_le _⟩
theorem Lay.bl {n : Nat} (b : Bool) : Lay n (.bool b) := ⟨rfl, Nat.zero_le _⟩
theorem Lay.str {n : Nat} {x : Str} (h : PyData.strOk x = true) : Lay n (.str x) := ⟨h, Nat.zero_le _⟩
theorem lay_allL : ∀ {ds : List PyData} {n : Nat}, (∀ d ∈ ds, Lay n d) → PyData.canLayAll0 ds = true ∧ PyData.depthAll ds ≤ n
  | [], _, _ => ⟨rfl, Nat.zero_le _⟩
  | d :: ds, n, h => by
    obtain ⟨a, b⟩ := h d (List.mem_cons_self ..)
    obtain ⟨c, e⟩ := lay_allL fun x hx => h x (List.mem_cons_of_mem _ hx)
    exact ⟨by simp only [PyData.canLayAll0, a, c, Bool.and_self], by show max _ _ ≤ n; omega⟩
theorem Lay.list {n : Nat} {ds : List PyData} (h : ∀ d ∈ ds, Lay n d) : Lay (n + 1) (.list ds) := by
  obtain ⟨a, b⟩ := lay_allL h
  exact ⟨by simp only [PyData.canLay0, a], Nat.succ_le_succ b⟩
theorem Lay.tuple {n : Nat} {ds : List PyData} (h : ∀ d ∈ ds, Lay n d) : Lay (n + 1) (.tuple ds) := by
  obtain ⟨a, b⟩ := lay_allL h
  exact ⟨by simp only [PyData.canLay0, a], Nat.succ_le_succ b⟩
theorem Lay.ints {n : Nat} (ns : List Int) : Lay (n + 1) (.list (ns.map PyData.int)) := .list fun d hd => by obtain ⟨z, _, rfl⟩ := List.mem_map.mp hd; exact .int z
theorem Lay.nats {n : Nat} (cs : List Nat) : Lay (n + 1) (.list (dN cs)) := .list fun d hd => by obtain ⟨z, _, rfl⟩ := List.mem_map.mp hd; exact .int _
theorem Lay.pair {n : Nat} {d e : PyData} (h1 : Lay n d) (h2 : Lay n e) : Lay (n + 1) (.tuple [d, e]) := .tuple fun x hx => by
  rcases List.mem_cons.mp hx with rfl | hx
  · exact h1
  · rw [List.mem_singleton.mp hx]; exact h2
theorem Lay.three {n : Nat} {d e f : PyData} (h1 : Lay n d) (h2 : Lay n e) (h3 : Lay n f) : Lay (n + 1) (.tuple [d, e, f]) := .tuple fun x hx => by
  rcases List.mem_cons.mp hx with rfl | hx
  · exact h1
  rcases List.mem_cons.mp hx with rfl | hx
  · exact h2
  · rw [List.mem_singleton.mp hx]; exact h3
theorem Lay.shaped {n : Nat} {d : PyData} (h : Lay n d) (hn : n ≤ 64) : SeqAt.shaped d = true := by
  unfold SeqAt.shaped
  rw [h.1, decide_eq_true (Nat.le_trans h.2 hn)]; rfl
theorem Lay.i2 {n : Nat} (p : Int × Int) : Lay (n + 1) (dI2 p) := .pair (.int _) (.int _)
theorem Lay.i2s {n : Nat} (l : List (Int × Int)) : Lay (n + 2) (.list (l.map dI2)) := .list fun d hd => by obtain ⟨p, _, rfl⟩ := List.mem_map.mp hd; exact .i2 p
theorem r_eqDa {K : PySem.W.Frag} {r r' : Rg} {H : Hp} {Q : VK} {v w : V} {d : PyData} (hv : Da r H v d) (hw : Da r' H w d) {n : Nat} (h : Lay n d) (hn : n ≤ 64) (q : Q (.bl true) H) : rEqD K v w H Q :=
  ⟨d, d, hv.dp, hw.dp, h.shaped hn, h.shaped hn, by rw [SeqAt.eqv_refl _ h.1]; exact q⟩
theorem r_neDa {K : PySem.W.Frag} {r r' : Rg} {H : Hp} {Q : VK} {v w : V} {d : PyData} (hv : Da r H v d) (hw : Da r' H w d) {n : Nat} (h : Lay n d) (hn : n ≤ 64) (q : Q (.bl false) H) : rNeD K v w H Q :=
  ⟨d, d, hv.dp, hw.dp, h.shaped hn, h.shaped hn, by rw [SeqAt.eqv_refl _ h.1]; exact q⟩
end Z

namespace Z
open PySem PySem.Spec PyProof.Rows L2
/-- the truth of a list or a tuple as a test: L.gen.truths -/
def tTru (K : PySem.W.Frag) (ta : TE) : TT := fun σ H Q => ta σ H fun x H' => ∃ k, TruV K x H' k ∧ Q k H'
theorem r_tru {K : PySem.W.Frag} {ta : TE} {σ : L2.St} {H : Hp} {Q : Bool → Hp → Prop} (h : ta σ H fun x H' => ∃ k, TruV K x H' k ∧ Q k H') : tTru K ta σ H Q := h
theorem tru_lst {K : PySem.W.Frag} {H : Hp} {p : Addr} {xs : List V} {Q : Bool → Hp → Prop} (h : SqL K H p xs) (q : Q (!xs.isEmpty) H) : ∃ k, TruV K (.ref p) H k ∧ Q k H := ⟨_, .inl ⟨xs, h, rfl⟩, q⟩
end Z

namespace Z
open PySem PySem.Spec PyProof.Rows L2
/-! ## defs that raise nothing, called while an error is held -/
structure FnQ (P : Program) (w : World) (K : PySem.W.Frag) (mg : Str → Option Value) (base : Heap) (k : Nat) (f : Addr) (fd : FuncData) (ps : List Str) (sp : Sp) : Prop where
  len : ∀ (vs : List V) (H : Hp) (Q : VK) (E : XK), sp vs H Q E → vs.length = ps.length
  run : ∀ (A : Around) (outer : List Env) (s : Shared) (H : Hp) (args : Args) (us : List Value) (vs : List V) (Q : VK) (E : XK) (p : Addr × Obj),
    L2H.RoomH k A → L2H.PinOk outer H s p → Env0 P w K mg base A outer s H → BindsTo s fd args (ps.zip us) → Vals vs us → sp vs H Q E →
      codeAny (model P w) A (Code.call (Value.ref f) args) (CR CX0 outer P w H s Q E) s
theorem fn_ofQ {P : Program} {w : World} {K : PySem.W.Frag} {mg : Str → Option Value} {base : Heap} {k : Nat} {f : Addr} {name qual : Str} {params : Arguments} {body : List Stmt} {scope : Scope} {dV kV doc pm cdv ct oc : Value} {an od : Option Addr} {osl : Array (Option Value)} {N ps : List Str} {sp : Sp}
    (lk : List.lookup f K = some { cls := oc, dict := od, data := Data.func (PySem.W.fnOf name qual params body scope dV kV doc pm an cdv ct), slots := osl })
    (hcd : PySem.W.codeIn K cdv qual = true) (S : FnScope N ps scope) (len : ∀ (vs : List V) (H : Hp) (Q : VK) (E : XK), sp vs H Q E → vs.length = ps.length)
    (hbody : ∀ (A : Around) (outer : List Env) (s : Shared) (H : Hp) (vs : List V) (Q : VK) (E : XK) (p : Addr × Obj), L2H.RoomH k (A.deeper (envOfC qual scope s.heap.objs.size f cdv)) → sp vs H Q E →
      ∃ t, PSs (L2H.cxH CX0 P w K mg base N qual scope f cdv A outer s H E p) body t ∧ t { nx := fun _ H' => Q V.non H', rt := Q } (L2.start N vs) H) :
    FnQ P w K mg base (k + 1) f (PySem.W.fnOf name qual params body scope dV kV doc pm an cdv ct) ps sp where
  len := len
  run := fun A outer s H args us vs Q E p hr hpin e0 hb r hsp => by
    have hl := len vs H Q E hsp
    have KX := PySem.W.Frag.In.keeps e0.mod.kin fun b o e => (e0.bs b o e).left
    have lim := Heap.NoLimit.keeps e0.mod.nolimit fun b o e => (e0.bs b o e).left
    refine codeAny_call_function (L2H.RoomH.depth hr) (KX f _ lk) rfl S.co S.gen rfl (PySem.W.codeRec_of KX hcd) ?_
    refine hb (model P w) A.in1 (fun e s' => CR CX0 outer P w H s Q E (Except.error e) s') (fun binds s₁ => wpAny (model P w) A.in1 (newFunctionEnv scope _ _ binds _ (some f) _ none _) _ _ s₁) ?_
    refine wpAny_newFunctionEnv_cells S.kind (fun x hy => ?_) fun env he s1 x => ?_
    · obtain ⟨n, v⟩ := x
      rcases S.par n (List.of_mem_zip hy).left with q | q
      · exact .inl q
      · exact .inr ⟨q, PySem.W.cellsFrom_some scope.names (s.heap.objs.size + 1) [] (.inl q)⟩
    · subst he
      refine ⟨Heap.NoLimit.keeps lim x.toInCall.keep, codeAny_func ?_⟩
      obtain ⟨t, ht, hq⟩ := hbody A outer s H vs Q E p (L2H.RoomH.deeper hr (envOfC qual scope s.heap.objs.size f cdv)) hsp
      have I : L2.Inv (L2H.cxH CX0 P w K mg base N qual scope f cdv A outer s H E p) [] (L2.start N vs) H s1 := L2H.inv_startH S hpin e0 hl r x
      refine wpAny_mono (ht.run [] s1 (L2.start N vs) H { nx := fun _ H' => Q V.non H', rt := Q } I hq) (fun fl s' hs => ?_) (fun e s' hs => hs)
      cases fl with
      | ret u =>
        obtain ⟨v, σ', H', J, rv, q⟩ := hs
        exact ⟨v, H', J.os, J.bare, J.base, J.hok, rv, q⟩
      | next =>
        obtain ⟨σ', H', J, q⟩ := hs
        exact ⟨V.non, H', J.os, J.bare, J.base, J.hok, (rfl : RelV V.non Value.none), q⟩
      | _ =>
        obtain ⟨_, _, _, q⟩ := hs
        exact q.elim
theorem okQ {P : Program} {w : World} {K : PySem.W.Frag} {mg : Str → Option Value} {base : Heap} {x qual : Str} {st : Stmt} {f : Addr} {fd : FuncData} {N ps : List Str} {k : Nat} {sp : Sp} (F : Fun K x qual st f fd) (S : FnScope N ps (defScope st))
    (len : ∀ (vs : List V) (H : Hp) (Q : VK) (E : XK), sp vs H Q E → vs.length = ps.length)
    (hbody : ∀ (cdv : Value) (A : Around) (outer : List Env) (s : Shared) (H : Hp) (vs : List V) (Q : VK) (E : XK) (p : Addr × Obj), L2H.RoomH k (A.deeper (envOfC qual (defScope st) s.heap.objs.size f cdv)) → sp vs H Q E →
      ∃ t, PSs (L2H.cxH CX0 P w K mg base N qual (defScope st) f cdv A outer s H E p) (defBody st) t ∧ t { nx := fun _ H' => Q V.non H', rt := Q } (L2.start N vs) H) : FnQ P w K mg base (k + 1) f fd ps sp := by
  obtain ⟨oc, od, kV, doc, pm, an, cdv, ct, osl, rfl, lk, hcd⟩ := F.ex
  exact fn_ofQ lk hcd S len fun A outer s H vs Q E p hr hsp => hbody cdv A outer s H vs Q E p hr hsp
theorem run_fnQ {X : Cx} {k : Nat} {f : Addr} {fd : FuncData} {ps : List Str} {sp : Sp} {E : XK} {pins : List (Addr × Obj)} {σ : L2.St} {H : Hp} {s : Shared} {Q : VK} {us : List Value} {vs : List V} (F : FnQ X.prog X.w X.K X.mg X.base k f fd ps sp) (hr : L2H.RoomH k X.A) (hc : ∃ p, p ∈ X.pn) (hb : L2.Binds X.K fd ps []) (I : L2.Inv X pins σ H s) (r : Vals vs us) (h : sp vs H Q E) : wpAny (model X.prog X.w) X.A (call (Value.ref f) us) (EP X pins σ Q) X.xe s := by
  obtain ⟨p, hp⟩ := hc
  have hl : us.length = ps.length := by rw [← r.length]; exact F.len vs H Q E h
  have b := hb s us (Inv.kIn I) (by rw [List.append_nil]; exact hl)
  rw [List.append_nil] at b
  have P1 := I.pin p (List.mem_append_left pins hp)
  refine wpAny_call (codeAny_mono (F.run X.A X.stack s H { pos := us } us vs Q E p hr ⟨P1.1, P1.2.1, fun hm => ?_, P1.2.2.2.2⟩ (Inv.env0 I) b r h) fun r s' hq => ?_)
  · rcases List.mem_cons.mp (Inv.stkSub I p.fst hm) with q | q
    · exact P1.2.2.1 q
    · exact P1.2.2.2.1 q
  · cases r with
    | error e => exact hq.elim
    | ok fl =>
      cases fl with
      | ret u => exact Inv.after I hq
      | _ => exact hq.elim
theorem pe_callQ {X : Cx} {k : Nat} {f : Addr} {fd : FuncData} {ps : List Str} {sp : Sp} {E : XK} {x : Str} {q pos : Pos} {e : Expr} {es : List Expr} {t : TA} (F : FnQ X.prog X.w X.K X.mg X.base k f fd ps sp) (hr : L2H.RoomH k X.A) (hc : ∃ p, p ∈ X.pn) (hg : Gl X x) (hm : X.mg x = some (Value.ref f)) (hk : PySem.W.keepIn X.K (Value.ref f) = true) (hb : L2.Binds X.K fd ps []) (ha : PA X (e :: es) t)
    (hdb : (x == ("__debug__" : Str)) = false := by decide +kernel) (he : starEach (e :: es) X.env = (false, eval e X.env) :: starEach es X.env := by rfl) (hpl : (backTo pos (starEach es X.env)).any (·.1) = false := by rfl) : PE X (.Call (.Name x q) (e :: es) [] pos) (tCall sp [] E t) := by
  refine ⟨fun pins s σ H Q I h => ?_⟩
  refine wpAny_Call_Name_kw (ld_glob I hg hm ?_ hdb)
  refine PySem.W.callWith_K (h₀ := X.base) I.ok.mod.kin hk (thn (ha.run pos pins s σ H _ I h) fun us s1 ⟨vs, H1, I1, r, q1⟩ => ⟨I1.kIn, ?_⟩) he hpl
  have q2 : sp (vs ++ []) H1 Q E := q1
  rw [List.append_nil] at q2
  exact run_fnQ F hr hc hb I1 r q2
theorem op_neDt {X : Cx} {pn : List (Addr × Obj)} {xe : Value → Shared → Prop} (hu : X.A.units + 64 < cLine) : OpR (X.tr pn xe) (compareOp .NotEq) (rNeD X.K) := L2.op_neD (X := X.tr pn xe) hu
theorem op_eqDt {X : Cx} {pn : List (Addr × Obj)} {xe : Value → Shared → Prop} (hu : X.A.units + 64 < cLine) : OpR (X.tr pn xe) (compareOp .Eq) (rEqD X.K) := L2.op_eqD (X := X.tr pn xe) hu
theorem op_neDs {X : Cx} {a : Addr} {pn : List (Addr × Obj)} (hu : X.A.units + 64 < cLine) : OpR (X.suite a pn) (compareOp .NotEq) (rNeD X.K) := L2.op_neD (X := X.suite a pn) hu
theorem op_eqDs {X : Cx} {a : Addr} {pn : List (Addr × Obj)} (hu : X.A.units + 64 < cLine) : OpR (X.suite a pn) (compareOp .Eq) (rEqD X.K) := L2.op_eqD (X := X.suite a pn) hu
theorem kxH {CX : CXT} {P : Program} {w : World} {K : PySem.W.Frag} {mg : Str → Option Value} {base : Heap} {N : List Str} {qual : Str} {scope : Scope} {f : Addr} {cd : Value} {A : Around} {outer : List Env} {s : Shared} {H : Hp} {E : XK} {p : Addr × Obj} :
    (L2H.cxH CX P w K mg base N qual scope f cd A outer s H E p).K = K := rfl
theorem roomQ {j k : Nat} {A : Around} {h : Option Value} (hr : L2.Room k A) (hk : j ≤ k) : L2H.RoomH j (A.mark h) := ⟨(hr.mono hk).dp, (hr.mono hk).un⟩
end Z

namespace Z
open PySem PySem.Spec PyProof.Rows L2 LamX
/-! ## a lambda of one name as a key -/
section
variable {P : Program} {w : World} {K : PySem.W.Frag} {mg : Str → Option Value} {base : Heap}
theorem lam_run {N ps : List Str} {A : Around} {outer : List Env} {s : Shared} {H : Hp} {f c' : Addr} {qual : Str} {params : Arguments} {bd : Expr} {scope : Scope} {pm ctv : Value} {us : List Value} {vs : List V} {Q : VK} {k : Nat}
    (at_f : s.heap.get? f = some (PySem.W.kla_obj "<lambda>" qual params bd scope [] pm c' ctv)) (rec : s.heap.CodeRec (.ref c') qual) (S : FnScope N ps scope) (hr : Room (k + 1) A) (e0 : Env0 P w K mg base A outer s H)
    (hb : bindArgs (PySem.W.kla_fn "<lambda>" qual params bd scope [] pm (.ref c') ctv) ⟨us, []⟩ = pure (ps.zip us)) (r : Vals vs us) (hl : vs.length = ps.length)
    (body : Room k (A.deeper (envOfC qual scope s.heap.objs.size f (.ref c'))) → ∃ t : TE, PE (cxOf CX0 P w K mg base N qual scope f (.ref c') A outer s H (fun _ _ _ => False)) bd t ∧ t (L2.start N vs) H Q) :
    codeAny (model P w) A (.call (.ref f) ⟨us, []⟩) (CR CX0 outer P w H s Q (fun _ _ _ => False)) s := by
  have lim : s.heap.NoLimit := e0.mod.nolimit.keeps fun b o e => (e0.bs b o e).1
  refine PySem.W.kla_callFunE hr.depth at_f rfl S.co S.gen rfl rec ?_
  rw [hb]
  refine wpAny_pure (wpAny_newFunctionEnv_cells S.kind (fun y hy => ?_) fun env he s1 x => ?_)
  · obtain ⟨n, v⟩ := y
    rcases S.par n (List.of_mem_zip hy).1 with z | z
    · exact .inl z
    · exact .inr ⟨z, PySem.W.cellsFrom_some _ _ _ (.inl z)⟩
  subst he
  refine ⟨lim.keeps x.toInCall.keep, ?_⟩
  obtain ⟨t, ht, wish⟩ := body (hr.deeper _)
  have J : Inv (cxOf CX0 P w K mg base N qual scope f (.ref c') A outer s H (fun _ _ _ => False)) [] (L2.start N vs) H s1 := inv_start S hr.hd e0 hl r x
  refine PySem.W.kla_codeExpr (wpAny_mono (ht.run [] s1 (L2.start N vs) H Q J wish) (fun u s2 hs => ?_) fun e s2 hs => hs)
  obtain ⟨v, H2, J2, rv, q⟩ := hs
  exact ⟨v, H2, J2.os, J2.bare, J2.base, J2.hok, rv, q⟩
end
section
variable {X : Cx} {pins : List (Addr × Obj)} {σ : L2.St} {H : Hp} {l f I S : Addr} {xs : List V} {kf : Nat → Int} {R : Result → Shared → Prop}
/-- one turn: the key of an item -/
def KeyTurn (X : Cx) (pins : List (Addr × Obj)) (σ : L2.St) (H : Hp) (f : Addr) (xs : List V) (kf : Nat → Int) : Prop :=
  ∀ (pl : List (Addr × Obj)) (i : Nat) (x : V) (v : Value) (t : Shared), xs[i]? = some x → RelV x v → Inv X (pins ++ pl) σ H t →
    wpAny (model X.prog X.w) X.A.in1 (call (.ref f) [v]) (fun u t2 => ∃ tk, u = .int (kf i) tk ∧ Inv X (pins ++ pl) σ H t2) (fun _ _ => False) t
def FirstMin (kf : Nat → Int) (n i : Nat) : Prop := ∀ j, j < n → kf i ≤ kf j ∧ (j < i → kf i < kf j)
set_option maxHeartbeats 8000000 in
theorem min_go (hh : X.A.handled = none) (hs : SqL X.K H l xs) (fI : FpOk X pins H I) (fS : FpOk X pins H S) (hSI : S ≠ I) (turn : KeyTurn X pins σ H f xs kf)
    (done : ∀ i x v t, xs[i]? = some x → RelV x v → FirstMin kf xs.length i → Inv X pins σ H t → R (.ok (.ret v)) t) :
    ∀ (r j i : Nat) (t : Shared) (x : V) (v : Value) (tb : Tok) (c : Nat), xs.length - (j + 1) = r → j + 1 ≤ xs.length → Inv X pins σ H t → t.heap.get? S = some (seqObj "list" #[v, .int (kf i) tb] c) → t.heap.IsListIter I l (j + 1) →
      xs[i]? = some x → RelV x v → i ≤ j → (∀ a, a ≤ j → kf i ≤ kf a ∧ (a < i → kf i < kf a)) → codeAny (model X.prog X.w) X.A (.builtin "min.loop" ⟨[.ref I, .ref f, .ref S], []⟩) R t := by
  have nm : (toString "min" ++ toString ".loop" : String) = "min.loop" := by decide
  intro r
  induction r with
  | zero =>
    intro j i t x v tb c hr hj J gS hit hx rx hij best
    obtain ⟨its, rv, pl, hz⟩ := J.list hs
    have hn := rv.length
    have ne : l ≠ I := fun z => by
      obtain ⟨o1, e1, c1, _⟩ := hit
      obtain ⟨o2, e2, c2, _⟩ := pl.isList
      rw [z, e1] at e2
      cases e2
      rw [c1] at c2
      exact absurd (Value.type.inj c2) (by decide)
    have Wk := Walks.list (prog := X.prog) (w := X.w) (A := X.A.in1) hh I l ne its.toArray
    have hj2 : j + 1 = its.toArray.size := by rw [List.size_toArray]; omega
    refine codeAny_builtin PySem.F.entry_min_loop ?_
    rw [Around.under_plainId PySem.F.plain_min_loop _]
    show wpAny _ X.A.in1 (seqItems? (.ref S) >>= _) _ _ _
    refine wpAny_bind (wpAny_seqItems gS rfl ?_)
    show wpAny _ X.A.in1 (tryCatch (pyNext (.ref I)) _ >>= _) _ _ _
    refine wpAny_bind (wpAny_tryCatch (Wk.done _ _ _ ⟨by rw [← hj2]; exact hit, pl.isList⟩ fun h2 tk2 keep => ?_))
    have J2 : Inv X pins σ H { t with heap := h2, toks := tk2 } := J.turnedL (ch := [I]) keep (fun b hb => by rw [List.mem_singleton.mp hb]; exact fI)
    have gS2 := keep S _ (by simpa using hSI) gS
    have sb := Heap.SameBut.update h2 S (Obj.mapSeq fun _ => (#[] : Array Value))
    show wpAny _ X.A.in1 (updateSeq S (fun _ => #[]) >>= _) _ _ _
    refine wpAny_bind (wpAny_updateSeq gS2 rfl (wpAny_bind (wpAny_letGo (wpAny_pure ?_))))
    exact done i x v _ hx rx (fun a ha => best a (by omega)) (J2.turnedL (t' := tk2) (ch := [S]) (fun b o hb e => (sb.2 b (by simpa using hb)).trans e) (fun b hb => by rw [List.mem_singleton.mp hb]; exact fS))
  | succ r ih =>
    intro j i t x v tb c hr hj J gS hit hx rx hij best
    have hlt : j + 1 < xs.length := by omega
    obtain ⟨its, rv, pl, hz⟩ := J.list hs
    have hn := rv.length
    have ne : l ≠ I := fun z => by
      obtain ⟨o1, e1, c1, _⟩ := hit
      obtain ⟨o2, e2, c2, _⟩ := pl.isList
      rw [z, e1] at e2
      cases e2
      rw [c1] at c2
      exact absurd (Value.type.inj c2) (by decide)
    have Wk := Walks.list (prog := X.prog) (w := X.w) (A := X.A.in1) hh I l ne its.toArray
    refine codeAny_builtin PySem.F.entry_min_loop ?_
    rw [Around.under_plainId PySem.F.plain_min_loop _]
    show wpAny _ X.A.in1 (seqItems? (.ref S) >>= _) _ _ _
    refine wpAny_bind (wpAny_seqItems gS rfl ?_)
    show wpAny _ X.A.in1 (tryCatch (pyNext (.ref I)) _ >>= _) _ _ _
    refine wpAny_bind (wpAny_tryCatch (Wk.item (j + 1) _ _ _ (by rw [List.size_toArray]; omega) ⟨hit, pl.isList⟩ fun y h2 tk2 hy st2 keep => ?_))
    obtain ⟨z, hxz⟩ : ∃ z, xs[j + 1]? = some z := ⟨_, List.getElem?_eq_getElem hlt⟩
    have ry : RelV z y := by
      obtain ⟨u, hu, ru⟩ := rv.get hxz
      have hy2 : its[j + 1]? = some y := by simpa using hy
      rw [hu] at hy2
      cases hy2
      exact ru
    have J2 : Inv X pins σ H { t with heap := h2, toks := tk2 } := J.turnedL (ch := [I]) keep (fun b hb => by rw [List.mem_singleton.mp hb]; exact fI)
    have gS2 := keep S _ (by simpa using hSI) gS
    obtain ⟨oI, gI2, cI, dI⟩ := id st2.1
    have fps : ∀ b ∈ [S, I], FpOk X pins H b := fun b hb => by
      rcases List.mem_cons.mp hb with e | e
      · subst e
        exact fS
      · have e2 := List.mem_singleton.mp e
        subst e2
        exact fI
    have obs : ∀ b ∈ [S, I], ∃ o, h2.get? b = some o ∧ ∀ v, o.data ≠ .cell v := fun b hb => by
      rcases List.mem_cons.mp hb with e | e
      · subst e
        exact ⟨_, gS2, fun v z => by cases z⟩
      · have e2 := List.mem_singleton.mp e
        subst e2
        exact ⟨oI, gI2, fun v z => by rw [dI] at z; cases z⟩
    have pin2 : Inv X (pins ++ pinsAt [S, I] h2) σ H { t with heap := h2, toks := tk2 } := J2.pinned (fp := [S, I]) fps obs
    show wpAny _ X.A.in1 (tryCatch (holding [y] (call (.ref f) [y])) _ >>= _) _ _ _
    refine wpAny_bind (wpAny_tryCatch (wpAny_holding (wpAny_mono (turn _ (j + 1) z y _ hxz ry pin2) (fun u t3 hu => ?_) fun _ _ hF => hF.elim)))
    obtain ⟨tk3, rfl, pin3⟩ := hu
    have gS3 : t3.heap.get? S = some (seqObj "list" #[v, .int (kf i) tb] c) := (pin3.pin (S, _) (List.mem_append_right _ (List.mem_append_right _ (mem_pinsAt (by simp) gS2)))).1
    have gI3 : t3.heap.get? I = some oI := (pin3.pin (I, oI) (List.mem_append_right _ (List.mem_append_right _ (mem_pinsAt (by simp) gI2)))).1
    have J3 : Inv X pins σ H t3 := pin3.unpinned
    have hit3 : t3.heap.IsListIter I l (j + 1 + 1) := ⟨oI, gI3, cI, dI⟩
    show wpAny _ X.A.in1 (tryCatch (holding [y, .int (kf (j + 1)) tk3] (richCompare .Lt (.int (kf (j + 1)) tk3) (.int (kf i) tb) >>= _)) _ >>= _) _ _ _
    refine wpAny_bind (wpAny_tryCatch (wpAny_holding (wpAny_bind (CmpOf.ints_lt (prog := X.prog) (w := X.w) (A := X.A.in1) (P := fun i v => ∃ t, v = .int (kf i) t) kf (fun _ _ h => h) (j + 1) i _ _ _ _ _ ⟨tk3, rfl⟩ ⟨tb, rfl⟩ ?_))))
    refine wpAny_bind (wpAny_holding (wpAny_truthy_bool (wpAny_bind (wpAny_letGo (wpAny_pure ?_)))))
    by_cases lt : kf (j + 1) < kf i
    · have sb := Heap.SameBut.update t3.heap S (Obj.mapSeq fun _ => #[y, .int (kf (j + 1)) tk3])
      obtain ⟨c4, gS4⟩ : ∃ c4, (t3.heap.update S (Obj.mapSeq fun _ => #[y, .int (kf (j + 1)) tk3])).get? S = some (seqObj "list" #[y, .int (kf (j + 1)) tk3] c4) := ⟨_, get?_update_seq gS3 fun _ => #[y, .int (kf (j + 1)) tk3]⟩
      simp only [lt, decide_true, if_true]
      refine wpAny_bind (wpAny_updateSeq gS3 rfl (wpAny_bind (wpAny_letGo ?_)))
      rw [nm]
      refine wpAny_pure ⟨plainId_quiet PySem.F.plain_min_loop _, ih (j + 1) (j + 1) _ z y tk3 c4 (by omega) hlt (J3.turnedL (t' := t3.toks) (ch := [S]) (fun b o hb e => (sb.2 b (by simpa using hb)).trans e) (fun b hb => by rw [List.mem_singleton.mp hb]; exact fS)) gS4 ⟨oI, (sb.2 I hSI.symm).trans gI3, cI, dI⟩ hxz ry (Nat.le_refl _) fun a ha => ?_⟩
      by_cases e : a = j + 1
      · subst e
        exact ⟨Int.le_refl _, fun z => absurd z (Nat.lt_irrefl _)⟩
      · have b1 := (best a (by omega)).1
        exact ⟨by omega, fun _ => by omega⟩
    · simp only [lt, decide_false, Bool.false_eq_true, if_false]
      refine wpAny_bind (wpAny_letGo ?_)
      rw [nm]
      refine wpAny_pure ⟨plainId_quiet PySem.F.plain_min_loop _, ih (j + 1) i t3 x v tb c (by omega) hlt J3 gS3 hit3 hx rx (by omega) fun a ha => ?_⟩
      by_cases e : a = j + 1
      · subst e
        exact ⟨by omega, fun _ => by omega⟩
      · exact best a (by omega)
set_option maxHeartbeats 8000000 in
theorem min_key {s : Shared} {Q : Value → Shared → Prop} {E : Value → Shared → Prop} (hh : X.A.handled = none) (J : Inv X pins σ H s) (hs : SqL X.K H l xs) (h0 : 0 < xs.length) (turn : KeyTurn X pins σ H f xs kf)
    (done : ∀ i x v t, xs[i]? = some x → RelV x v → FirstMin kf xs.length i → Inv X pins σ H t → Q v t) : wpAny (model X.prog X.w) X.A (call (.builtin "min") [.ref l] [(Str.ofString "key", .ref f)]) Q E s := by
  have nm : (toString "min" ++ toString ".loop" : String) = "min.loop" := by decide
  obtain ⟨its, rv, pl, hz⟩ := J.list hs
  have hn := rv.length
  obtain ⟨ol, gl, _⟩ := id pl.isList
  have ll : l < s.heap.objs.size := Heap.lt_size gl
  refine kmk_tree PySem.F.kind_min PySem.F.plain_min PySem.F.entry_min (kmk_min_key _ _) ?_
  show wpAny _ X.A.in1 (Builtin.Builtins.bindParams "min" ["key", "default"] 0 ⟨[], [(Str.ofString "key", .ref f)]⟩ >>= _) _ _ s
  refine wpAny_bind (wpAny_of_eq (show Builtin.Builtins.bindParams "min" ["key", "default"] 0 ⟨[], [(Str.ofString "key", .ref f)]⟩ = pure [some (.ref f), none] from rfl) (wpAny_bind (wpAny_pure (wpAny_bind (wpAny_pyIter_list pl.isList (wpAny_bind (wpAny_newList ?_ (Nat.zero_le _))))))))
  rw [nm]
  refine wpAny_pure ⟨plainId_quiet PySem.F.plain_min_loop _, ?_⟩
  have gI : ∀ o2, ((s.heap.push { cls := .type "list_iterator", data := .fields #[.ref l, .int 0 0] }).push o2).get? s.heap.objs.size = some { cls := .type "list_iterator", data := .fields #[.ref l, .int 0 0] } := fun o2 => Heap.get?_push_of_some _ (Heap.get?_push_size _ rfl)
  have zS : (s.heap.push { cls := .type "list_iterator", data := .fields #[.ref l, .int 0 0] }).objs.size = s.heap.objs.size + 1 := size_push' ..
  have gS : ((s.heap.push { cls := .type "list_iterator", data := .fields #[.ref l, .int 0 0] }).push (seqObj "list" #[] 0)).get? (s.heap.objs.size + 1) = some (seqObj "list" #[] 0) := by rw [← zS]; exact Heap.get?_push_size _ rfl
  have J1 : ∀ tk, Inv X pins σ H { s with heap := (s.heap.push { cls := .type "list_iterator", data := .fields #[.ref l, .int 0 0] }).push (seqObj "list" #[] 0), toks := tk } := fun tk => J.kept (t' := tk) fun b o e => Heap.get?_push_of_some _ (Heap.get?_push_of_some _ e)
  have fI : FpOk X pins H s.heap.objs.size := J.fpOk (Nat.le_refl _) (J.hok.fresh (Nat.le_refl _))
  have fS : FpOk X pins H (s.heap.objs.size + 1) := J.fpOk (Nat.le_succ _) (J.hok.fresh (Nat.le_succ _))
  have hSI : s.heap.objs.size + 1 ≠ s.heap.objs.size := Nat.succ_ne_self _
  have ne : l ≠ s.heap.objs.size := Nat.ne_of_lt ll
  rw [zS]
  have plk : ∀ o2, ((s.heap.push { cls := .type "list_iterator", data := .fields #[.ref l, .int 0 0] }).push o2).IsList l its.toArray := fun o2 => pl.isList.at fun o e => Heap.get?_push_of_some _ (Heap.get?_push_of_some _ e)
  generalize hG : (s.heap.push { cls := .type "list_iterator", data := .fields #[.ref l, .int 0 0] }).push (seqObj "list" #[] 0) = g1 at *
  have gI1 := gI (seqObj "list" #[] 0)
  have pl1 := plk (seqObj "list" #[] 0)
  rw [hG] at gI1 pl1
  clear gI plk
  generalize s.heap.objs.size + 1 = S at *
  generalize s.heap.objs.size = I at *
  have J1 := J1 s.toks
  have Wk := Walks.list (prog := X.prog) (w := X.w) (A := X.A.in1) hh I l ne its.toArray
  refine codeAny_builtin PySem.F.entry_min_loop ?_
  rw [Around.under_plainId PySem.F.plain_min_loop _]
  show wpAny _ X.A.in1 (seqItems? (.ref S) >>= _) _ _ _
  refine wpAny_bind (wpAny_seqItems gS rfl ?_)
  show wpAny _ X.A.in1 (tryCatch (pyNext (.ref I)) _ >>= _) _ _ _
  refine wpAny_bind (wpAny_tryCatch (Wk.item 0 _ _ _ (by rw [List.size_toArray]; omega) ⟨⟨_, gI1, rfl, rfl⟩, pl1⟩ fun y h2 tk2 hy st2 keep => ?_))
  obtain ⟨z, hxz⟩ : ∃ z, xs[0]? = some z := ⟨_, List.getElem?_eq_getElem h0⟩
  have ry : RelV z y := by
    obtain ⟨u, hu, ru⟩ := rv.get hxz
    have hy2 : its[0]? = some y := by simpa using hy
    rw [hu] at hy2
    cases hy2
    exact ru
  have J2a := J1.turnedL (h' := h2) (t' := tk2) (ch := [I]) keep (fun b hb => by rw [List.mem_singleton.mp hb]; exact fI)
  have J2 : Inv X pins σ H { s with heap := h2, toks := tk2 } := J2a
  have gS2 := keep S _ (by simpa using hSI) gS
  obtain ⟨oI, gI2, cI, dI⟩ := id st2.1
  have fps : ∀ b ∈ [S, I], FpOk X pins H b := fun b hb => by
    rcases List.mem_cons.mp hb with e | e
    · subst e
      exact fS
    · have e2 := List.mem_singleton.mp e
      subst e2
      exact fI
  have obs : ∀ b ∈ [S, I], ∃ o, h2.get? b = some o ∧ ∀ v, o.data ≠ .cell v := fun b hb => by
    rcases List.mem_cons.mp hb with e | e
    · subst e
      exact ⟨_, gS2, fun v z => by cases z⟩
    · have e2 := List.mem_singleton.mp e
      subst e2
      exact ⟨oI, gI2, fun v z => by rw [dI] at z; cases z⟩
  have pin2 : Inv X (pins ++ pinsAt [S, I] h2) σ H { s with heap := h2, toks := tk2 } := J2.pinned (fp := [S, I]) fps obs
  show wpAny _ X.A.in1 (tryCatch (holding [y] (call (.ref f) [y])) _ >>= _) _ _ _
  refine wpAny_bind (wpAny_tryCatch (wpAny_holding (wpAny_mono (turn _ 0 z y _ hxz ry pin2) (fun u t3 hu => ?_) fun _ _ hF => hF.elim)))
  obtain ⟨tk3, rfl, pin3⟩ := hu
  have gS3 : t3.heap.get? S = some (seqObj "list" #[] 0) := (pin3.pin (S, _) (List.mem_append_right _ (List.mem_append_right _ (mem_pinsAt (by simp) gS2)))).1
  have gI3 : t3.heap.get? I = some oI := (pin3.pin (I, oI) (List.mem_append_right _ (List.mem_append_right _ (mem_pinsAt (by simp) gI2)))).1
  have J3 : Inv X pins σ H t3 := pin3.unpinned
  have sb := Heap.SameBut.update t3.heap S (Obj.mapSeq fun _ => #[y, .int (kf 0) tk3])
  obtain ⟨c4, gS4⟩ : ∃ c4, (t3.heap.update S (Obj.mapSeq fun _ => #[y, .int (kf 0) tk3])).get? S = some (seqObj "list" #[y, .int (kf 0) tk3] c4) := ⟨_, get?_update_seq gS3 fun _ => #[y, .int (kf 0) tk3]⟩
  show wpAny _ X.A.in1 (updateSeq S (fun _ => #[y, .int (kf 0) tk3]) >>= _) _ _ _
  refine wpAny_bind (wpAny_updateSeq gS3 rfl ?_)
  rw [nm]
  refine wpAny_pure ⟨plainId_quiet PySem.F.plain_min_loop _, min_go hh hs fI fS hSI turn done _ 0 0 _ z y tk3 c4 rfl h0 (J3.turnedL (t' := t3.toks) (ch := [S]) (fun b o hb e => (sb.2 b (by simpa using hb)).trans e) (fun b hb => by rw [List.mem_singleton.mp hb]; exact fS)) gS4 ⟨oI, (sb.2 I hSI.symm).trans gI3, cI, dI⟩ hxz ry (Nat.le_refl _) fun a ha => ?_⟩
  have e : a = 0 := by omega
  subst e
  exact ⟨Int.le_refl _, fun z => absurd z (Nat.lt_irrefl _)⟩
end
/-! ### min(xs, key=lambda a: ..) -/
theorem ext_rd {H H' : Hp} {a : Addr} {u : HO} (e : ExtN H H') (n : ∀ ps, u ≠ .tbl ps) (h : Rd H a u) : Rd H' a u := by
  rcases h with h | ⟨o, h⟩
  · exact .inl (e a _ h n)
  · exact .inr ⟨o, e a _ h fun ps z => by cases z⟩
theorem ext_sl {K : PySem.W.Frag} {H H' : Hp} {a : Addr} {xs : List V} (e : ExtN H H') (h : SqL K H a xs) : SqL K H' a xs := by
  rcases h with h | h
  · exact .inl (ext_rd e (fun ps z => by cases z) h)
  · exact .inr h
theorem ext_st {K : PySem.W.Frag} {H H' : Hp} {a : Addr} {xs : List V} (e : ExtN H H') (h : SqT K H a xs) : SqT K H' a xs := by
  rcases h with h | h
  · exact .inl (ext_rd e (fun ps z => by cases z) h)
  · exact .inr h
def tMinK (K : PySem.W.Frag) (T : List (Addr × Str)) (tb : TE) (t : TA) : TE := fun σ H Q => t σ H fun vs H1 => ∃ (a : Addr) (xs : List V) (kf : Nat → Int), vs = [.ref a] ∧ SqL K H1 a xs ∧ 0 < xs.length ∧ Tabs T H1 ∧
  (∀ H2, ExtN H1 H2 → ∀ i x, xs[i]? = some x → ∀ k : VK, k (.int (kf i)) H2 → tb [some x] H2 k) ∧ ∀ H2, ExtN H1 H2 → Tabs T H2 → ∀ i x, xs[i]? = some x → FirstMin kf xs.length i → Q x H2
section
variable {X : Cx} {T : List (Addr × Str)} {c Pt : Addr} {e : Expr} {t : TA} {params : Arguments} {bd : Expr} {scope : Scope} {a : Str} {p pos lpos kpos : Pos} {k : Nat} {tb : TE}
set_option maxHeartbeats 4000000 in
theorem pe_minK (hg : Gl X "min") (hm : X.mg "min" = none) (TB : TabB X.base X.mg c Pt) (hcode : X.env.code = .ref c) (hT : (Pt, X.env.qual ++ "<lambda>") ∈ T) (hu : ∀ q ∈ T, q.1 = Pt → q.2 = X.env.qual ++ "<lambda>")
    (hst : X.stack = X.env :: X.outer) (hfr : X.env.frame = some X.env.locals) (hpn : X.pn = []) (S : FnScope [a] [a] scope) (hr : Room (k + 2) X.A) (hn : scope.names = [(a, NameKind.local)])
    (hdef : defaultsOf params X.env = ([], [])) (hb : ∀ (v : Value) (c' : Addr) (pm ctv : Value), bindArgs (PySem.W.kla_fn "<lambda>" (X.env.qual ++ "<lambda>") params bd scope [] pm (.ref c') ctv) ⟨[v], []⟩ = pure [(a, v)])
    (body : ∀ (f c' : Addr) (A : Around) (s : Shared) (H : Hp), Room k (A.deeper (envOfC (X.env.qual ++ "<lambda>") scope s.heap.objs.size f (.ref c'))) → PE (cxOf CX0 X.prog X.w X.K X.mg X.base [a] (X.env.qual ++ "<lambda>") scope f (.ref c') A X.stack s H (fun _ _ _ => False)) bd tb)
    (ha : PA X [e] t) (he : backTo pos (starEach [e] X.env) = (false, eval e X.env) :: backTo pos (starEach [] X.env) := by rfl) (hpl : (backTo pos (starEach [e] X.env)).any (·.1) = false := by rfl) :
    PE X (.Call (.Name "min" p) [e] [⟨some "key", .Lambda params bd scope lpos, kpos⟩] pos) (tMinK X.K T tb t) := by
  refine ⟨fun pins s σ H Q I h => ?_⟩
  refine wpAny_Call_Name_kw (ld_blt I hg hm (by decide +kernel : bootBuiltins "min" = some (.builtin "min")) ?_ (by decide +kernel) (by decide +kernel))
  refine PyProof.Rows.callWith_kw (thn (ha.run pos pins s σ H _ I h) fun us s1 ⟨vs, H1, I1, r1, q1⟩ => ?_) he hpl rfl rfl
  obtain ⟨l, xs, kf, ev, hs, h0, hTb, hbody, hq⟩ := q1
  subst ev
  show wpAny _ _ (evalAll [(do let v ← eval (.Lambda params bd scope lpos) X.env; standAt pos; pure v)]) _ _ s1
  refine wpAny_evalAll_cons (wpAny_bind (lam_make2 (T := T) I1 TB hcode hT hu hTb hdef (fun y hy e => ?_) fun f c' pm ctv H2 s2 I2 ext hT2 at_f nf out hco => ?_))
  · rw [hn] at hy
    have := List.mem_singleton.mp hy
    subst this
    cases e
  refine wpAny_bind (wpAny_standAt (wpAny_pure (wpAny_evalAll_nil ?_)))
  have eus : us = [.ref l] := by
    cases r1 with
    | cons r rs =>
      cases rs
      rw [show _ = Value.ref l from r]
  subst eus
  have hcl : cloFrom X.env.cells scope.names [] = [] := by rw [hn]; rfl
  rw [hcl] at at_f
  have hs2 : SqL X.K H2 l xs := ext_sl ext hs
  -- the lambda's object is held fast
  have nL : f ≠ X.env.locals := fun z => out (by rw [hst]; exact List.mem_filterMap.mpr ⟨X.env, List.mem_cons_self, by rw [hfr, z]⟩)
  have nF : f ∉ X.fs := fun hm => by
    obtain ⟨e1, e2, e3⟩ := List.mem_filterMap.mp hm
    exact out (by rw [hst]; exact List.mem_filterMap.mpr ⟨e1, List.mem_cons_of_mem _ e2, e3⟩)
  have I3 : Inv X ((f, PySem.W.kla_obj "<lambda>" (X.env.qual ++ "<lambda>") params bd scope [] pm c' ctv) :: pins) σ H2 s2 := I2.pins_of fun q hqm => by
    rcases List.mem_cons.mp hqm with e | e
    · subst e
      exact ⟨at_f, nf, nL, nF, fun v z => by cases z⟩
    · exact I2.pin q (List.mem_append_right _ e)
  refine min_key hr.hd I3 hs2 h0 (fun pl i x v t1 hx rx J => ?_) fun i x v t1 hx rx hmin J => ⟨x, H2, J.pins_of fun q hqm => J.pin q (List.mem_append_right _ (List.mem_cons_of_mem _ hqm)), rx, hq H2 ext hT2 i x hx hmin⟩
  have at1 := (J.pin (f, _) (List.mem_append_right _ (List.mem_append_left _ List.mem_cons_self))).1
  obtain ⟨⟨oc, vs, tq, e1, e2, e3⟩, _, _⟩ := J.hok c' _ hco
  have hrun : codeAny (model X.prog X.w) X.A.in1 (.call (.ref f) ⟨[v], []⟩) (CR CX0 X.stack X.prog X.w H2 t1 (fun y H3 => y = .int (kf i) ∧ H3 = H2) (fun _ _ _ => False)) t1 :=
    lam_run (k := k) (N := [a]) (ps := [a]) (vs := [x]) (us := [v]) at1 ⟨c', oc, vs, tq, rfl, e1, e2, e3⟩ S hr.in1 J.env0.in1 (hb v c' pm ctv) (.cons rx .nil) rfl fun room => ⟨tb, body f c' X.A.in1 t1 H2 room, hbody H2 ext i x hx _ ⟨rfl, rfl⟩⟩
  refine wpAny_call (codeAny_mono hrun fun r t2 hqr => ?_)
  cases r with
  | error e => exact hqr.elim
  | ok fl =>
    cases fl with
    | ret u =>
      obtain ⟨y, H3, J3, ry, ey, eH⟩ := J.after hqr
      subst ey eH
      obtain ⟨tk, rfl⟩ := ry
      exact ⟨tk, rfl, J3⟩
    | next => exact hqr.elim
    | brk => exact hqr.elim
    | cont => exact hqr.elim
end
/-- a def whose code object is known -/
structure FunC (K : PySem.W.Frag) (x qual : Str) (st : Stmt) (f : Addr) (fd : FuncData) (c : Addr) : Prop where
  ex : ∃ (oc : Value) (od : Option Addr) (kV doc pm : Value) (an : Option Addr) (ct : Value) (osl : Array (Option Value)),
    fd = PySem.W.fnOf x qual (defArgs st) (defBody st) (defScope st) .none kV doc pm an (.ref c) ct ∧ K.lookup f = some ⟨oc, od, .func fd, osl⟩ ∧ PySem.W.codeIn K (.ref c) qual = true
theorem FunC.okC {P : Program} {w : World} {K : PySem.W.Frag} {mg : Str → Option Value} {base : Heap} {CX : CXT} {x qual : Str} {st : Stmt} {f c : Addr} {fd : FuncData} {N ps : List Str} {k : Nat} {sp : Sp} (F : FunC K x qual st f fd c) (S : FnScope N ps (defScope st)) (len : ∀ vs H Q E, sp vs H Q E → vs.length = ps.length)
    (body : ∀ (A : Around) (outer : List Env) (s : Shared) (H : Hp) (vs : List V) (Q : VK) (E : XK), Room k (A.deeper (envOfC qual (defScope st) s.heap.objs.size f (.ref c))) → sp vs H Q E →
      ∃ t, PSs (cxOf CX P w K mg base N qual (defScope st) f (.ref c) A outer s H E) (defBody st) t ∧ t { nx := fun _ H' => Q .non H', rt := Q } (L2.start N vs) H) : FnOk P w K mg base CX (k + 1) f fd ps sp := by
  obtain ⟨oc, od, kV, doc, pm, an, ct, osl, rfl, lk, hcd⟩ := F.ex
  exact fn_of lk hcd S len fun A outer s H vs Q E hr hsp => body A outer s H vs Q E hr hsp
theorem r_minK {K : PySem.W.Frag} {T : List (Addr × Str)} {tb : TE} {t : TA} {σ : L2.St} {H : Hp} {Q : VK} (h : t σ H fun vs H1 => ∃ (a : Addr) (xs : List V) (kf : Nat → Int), vs = [.ref a] ∧ SqL K H1 a xs ∧ 0 < xs.length ∧ Tabs T H1 ∧
  (∀ H2, ExtN H1 H2 → ∀ i x, xs[i]? = some x → ∀ k : VK, k (.int (kf i)) H2 → tb [some x] H2 k) ∧ ∀ H2, ExtN H1 H2 → Tabs T H2 → ∀ i x, xs[i]? = some x → FirstMin kf xs.length i → Q x H2) : tMinK K T tb t σ H Q := h
def kvOk (es : Array DictEntry) (ks : List V) : Bool := decide ((es.toList.map (·.key)).mapM absV = some ks)
theorem kv_of {es : Array DictEntry} {ks : List V} (h : kvOk es ks = true) : Vals ks (es.toList.map (·.key)) := vals_of (of_decide_eq_true h)
end Z

namespace Z
open PySem PySem.Spec PyProof.Rows L2 LamX
/-! ## sorted(xs, key=lambda a: a[0][0]) of pairs of a tuple that begins with an int -/
section
variable {P : Program} {w : World} {K : PySem.W.Frag} {mg : Str → Option Value} {base : Heap}
theorem lam_at00 {A : Around} {outer : List Env} {s : Shared} {H : Hp} {f c' t hd : Addr} {qual : Str} {params : Arguments} {scope : Scope} {pm ctv : Value} {a : Str} {k j1 j2 : Nat} {i : Int} {r1 r2 : List V} {p1 p2 p3 p4 p5 : Pos}
    (at_f : s.heap.get? f = some (PySem.W.kla_obj "<lambda>" qual params (.Subscript (.Subscript (.Name a p1) (.Constant (.int 0) j1 p2) p3) (.Constant (.int 0) j2 p4) p5) scope [] pm c' ctv)) (rec : s.heap.CodeRec (.ref c') qual) (S : FnScope [a] [a] scope) (hn : scope.names = [(a, NameKind.local)])
    (hd1 : (a == ("__debug__" : Str)) = false) (hd2 : (a == ("__classdict__" : Str)) = false) (hr : Room (k + 1) A) (e0 : Env0 P w K mg base A outer s H)
    (hb : bindArgs (PySem.W.kla_fn "<lambda>" qual params (.Subscript (.Subscript (.Name a p1) (.Constant (.int 0) j1 p2) p3) (.Constant (.int 0) j2 p4) p5) scope [] pm (.ref c') ctv) ⟨[.ref t], []⟩ = pure ([a].zip [.ref t]))
    (ht : SqT K H t (.ref hd :: r1)) (hh : SqT K H hd (.int i :: r2)) :
    codeAny (model P w) A (.call (.ref f) ⟨[.ref t], []⟩) (fun r s' => ∃ tk h' tk', r = .ok (.ret (.int i tk)) ∧ s' = { s with heap := h', toks := tk' } ∧ ∀ b o, s.heap.get? b = some o → h'.get? b = some o) s := by
  have lim : s.heap.NoLimit := e0.mod.nolimit.keeps fun b o e => (e0.bs b o e).1
  refine PySem.W.kla_callFunE hr.depth at_f rfl S.co S.gen rfl rec ?_
  rw [hb]
  refine wpAny_pure (wpAny_newFunctionEnv_cells S.kind (fun y hy => ?_) fun env he s1 x => ?_)
  · obtain ⟨n, v⟩ := y
    rcases S.par n (List.of_mem_zip hy).1 with z | z
    · exact .inl z
    · exact .inr ⟨z, PySem.W.cellsFrom_some _ _ _ (.inl z)⟩
  subst he
  refine ⟨lim.keeps x.toInCall.keep, ?_⟩
  have J : Inv (cxOf CX0 P w K mg base [a] qual scope f (.ref c') A outer s H (fun _ _ _ => False)) [] (L2.start [a] [.ref t]) H s1 := inv_start S hr.hd e0 rfl (.cons rfl .nil) x
  obtain ⟨its1, v1, pl1, z1⟩ := J.tuple ht
  obtain ⟨its2, v2, pl2, z2⟩ := J.tuple hh
  obtain ⟨h1, tk, es, hk⟩ := x.done
  have hl1 := v1.length
  have hl2 := v2.length
  cases v1 with
  | cons rv1 v1 =>
  cases rv1
  cases v2 with
  | cons rv2 v2 =>
  obtain ⟨tk2, rfl⟩ := rv2
  obtain ⟨m, hns, hl⟩ := J.loc
  obtain ⟨u, ru, look⟩ := hl 0 a (.ref t) rfl rfl (.inl (by show scope.names.lookup a = _; rw [hn]; simp [List.lookup]))
  cases ru
  have n63 := line63
  refine PySem.W.kla_codeExpr ?_
  refine Subscript_ (Subscript_ ?_)
  have go : ∀ {Qn : Value → Shared → Prop} {E : Value → Shared → Prop}, Qn (.ref t) s1 → wpAny (model P w) (A.deeper (envOfC qual scope s.heap.objs.size f (.ref c'))) (eval (.Name a p1) (envOfC qual scope s.heap.objs.size f (.ref c'))) Qn E s1 := fun {Qn E} q => by
    rcases look with ⟨hk1, hm⟩ | ⟨hk1, c, hc, hcell⟩
    · exact wpAny_Name (wpAny_loadName_local J.ok.kind hk1 hns hm q) hd1
    · rcases hk1 with hk1 | hk1
      · exact wpAny_Name (wpAny_loadName_cell J.ok.kind hk1 hc hcell q) hd1
      · exact wpAny_Name (wpAny_loadName_free J.ok.kind hk1 hc hcell q hd2) hd1
  refine go ?_
  refine wpAny_Constant_int ?_
  refine subscriptTail_builtinR (x := .ref hd) pl1.typeIs slot_tuple_getitem.lookup (getItem_tuple (j := 0) pl1 (by decide) (by decide) (by rw [List.size_toArray, ← hl1]; exact seqIndex_of (by decide) (by rw [List.length_cons]; omega)) rfl ⟨rfl, ?_⟩) rfl
  refine wpAny_Constant_int ?_
  refine subscriptTail_builtinR (x := .int i tk2) pl2.typeIs slot_tuple_getitem.lookup (getItem_tuple (j := 0) pl2 (by decide) (by decide) (by rw [List.size_toArray, ← hl2]; exact seqIndex_of (by decide) (by rw [List.length_cons]; omega)) rfl ⟨rfl, ?_⟩) rfl
  subst es
  exact ⟨tk2, _, _, rfl, rfl, hk⟩
end
def tSortK (K : PySem.W.Frag) (T : List (Addr × Str)) (t : TA) : TE := fun σ H Q => t σ H fun vs H1 => ∃ (a : Addr) (xs : List V) (kf : V → Int), vs = [.ref a] ∧ SqL K H1 a xs ∧ Tabs T H1 ∧
  (∀ x, x ∈ xs → ∃ (p h : Addr) (r1 r2 : List V), x = .ref p ∧ SqT K H1 p (.ref h :: r1) ∧ SqT K H1 h (.int (kf x) :: r2)) ∧
  ∀ H2, ExtN H1 H2 → Tabs T H2 → ∀ p, H2 p = none → Q (.ref p) (upd H2 p (.lst (xs.mergeSort fun x y => decide (kf x ≤ kf y))))
theorem each_vals : ∀ {xs : List V} {us : List Value}, Vals xs us → PySem.W.EachIs (fun (u : Value) (x : V) => RelV x u) us xs
  | _, _, .nil => .nil
  | _, _, .cons r t => .cons r (each_vals t)
theorem vals_each : ∀ {xs : List V} {us : List Value}, PySem.W.EachIs (fun (u : Value) (x : V) => RelV x u) us xs → Vals xs us
  | _, _, .nil => .nil
  | _, _, .cons r t => .cons r (vals_each t)
section
variable {X : Cx} {T : List (Addr × Str)} {c Pt : Addr} {e : Expr} {t : TA} {params : Arguments} {scope : Scope} {a : Str} {p pos lpos kpos p1 p2 p3 p4 p5 : Pos} {k j1 j2 : Nat}
set_option maxHeartbeats 4000000 in
theorem pe_sortK (hg : Gl X "sorted") (hm : X.mg "sorted" = none) (TB : TabB X.base X.mg c Pt) (hcode : X.env.code = .ref c) (hT : (Pt, X.env.qual ++ "<lambda>") ∈ T) (hu : ∀ q ∈ T, q.1 = Pt → q.2 = X.env.qual ++ "<lambda>")
    (hst : X.stack = X.env :: X.outer) (hfr : X.env.frame = some X.env.locals) (hpn : X.pn = []) (S : FnScope [a] [a] scope) (hr : Room (k + 3) X.A) (hn : scope.names = [(a, NameKind.local)]) (hd1 : (a == ("__debug__" : Str)) = false) (hd2 : (a == ("__classdict__" : Str)) = false)
    (hdef : defaultsOf params X.env = ([], [])) (hb : ∀ (v : Value) (c' : Addr) (pm ctv : Value), bindArgs (PySem.W.kla_fn "<lambda>" (X.env.qual ++ "<lambda>") params (.Subscript (.Subscript (.Name a p1) (.Constant (.int 0) j1 p2) p3) (.Constant (.int 0) j2 p4) p5) scope [] pm (.ref c') ctv) ⟨[v], []⟩ = pure [(a, v)])
    (ha : PA X [e] t) (he : backTo pos (starEach [e] X.env) = (false, eval e X.env) :: backTo pos (starEach [] X.env) := by rfl) (hpl : (backTo pos (starEach [e] X.env)).any (·.1) = false := by rfl) :
    PE X (.Call (.Name "sorted" p) [e] [⟨some "key", .Lambda params (.Subscript (.Subscript (.Name a p1) (.Constant (.int 0) j1 p2) p3) (.Constant (.int 0) j2 p4) p5) scope lpos, kpos⟩] pos) (tSortK X.K T t) := by
  refine ⟨fun pins s σ H Q I h => ?_⟩
  refine wpAny_Call_Name_kw (ld_blt I hg hm (by decide +kernel : bootBuiltins "sorted" = some (.builtin "sorted")) ?_ (by decide +kernel) (by decide +kernel))
  refine PyProof.Rows.callWith_kw (thn (ha.run pos pins s σ H _ I h) fun us s1 ⟨vs, H1, I1, r1, q1⟩ => ?_) he hpl rfl rfl
  obtain ⟨l, xs, kf, ev, hs, hTb, hk, hq⟩ := q1
  subst ev
  show wpAny _ _ (evalAll [(do let v ← eval (.Lambda params (.Subscript (.Subscript (.Name a p1) (.Constant (.int 0) j1 p2) p3) (.Constant (.int 0) j2 p4) p5) scope lpos) X.env; standAt pos; pure v)]) _ _ s1
  refine wpAny_evalAll_cons (wpAny_bind (lam_make2 (T := T) I1 TB hcode hT hu hTb hdef (fun y hy e => ?_) fun f c' pm ctv H2 s2 I2 ext hT2 at_f nf out hco => ?_))
  · rw [hn] at hy
    have := List.mem_singleton.mp hy
    subst this
    cases e
  refine wpAny_bind (wpAny_standAt (wpAny_pure (wpAny_evalAll_nil ?_)))
  have eus : us = [.ref l] := by
    cases r1 with
    | cons r rs =>
      cases rs
      rw [show _ = Value.ref l from r]
  subst eus
  have hcl : cloFrom X.env.cells scope.names [] = [] := by rw [hn]; rfl
  rw [hcl] at at_f
  have hs2 : SqL X.K H2 l xs := ext_sl ext hs
  obtain ⟨its, rv, pl, hz⟩ := I2.list hs2
  have hlen := rv.length
  refine PySem.W.sorted_key_data (b := false) (fun x : V => PyData.int (kf x)) pl.isList (each_vals rv) (PySem.W.AllAlike.of fun _ _ => by simp [PySem.W.alike]) (PySem.W.Sortable.others fun _ => ⟨fun z => (by cases z), fun _ z => (by cases z)⟩) hz (fun x _ => ?_) (PyProof.Rows.ksk_s1 _ _) (fun _ => PyProof.Rows.ksk_l1 _ _) (fun _ => PyProof.Rows.ksk_t1 _ _)
    (fun v x hR hx g tk kp => ?_) fun out2 cc h' tk kp hfree hD hol eo => ?_
  · have := hr.un
    show X.A.units + 2 + 0 < cLine
    omega
  · obtain ⟨pp, hh, r1', r2', ex, hp1, hp2⟩ := hk x hx
    subst ex
    obtain rfl : v = Value.ref pp := hR
    have J : Inv X pins σ H2 { s2 with heap := g, toks := tk } := I2.kept kp
    obtain ⟨⟨oc, vs, tq, e1, e2, e3⟩, _, _⟩ := J.hok c' _ hco
    have run := lam_at00 (A := X.A.in1.in1) (k := k) (kp _ _ at_f) ⟨c', oc, vs, tq, rfl, e1, e2, e3⟩ S hn hd1 hd2 hr.in1.in1 J.env0.in1.in1 (hb (.ref pp) c' pm ctv) (ext_st ext hp1) (ext_st ext hp2)
    refine wpAny_call (codeAny_mono run fun r t2 hqr => ?_)
    obtain ⟨tk3, h3, tk4, rfl, rfl, k3⟩ := hqr
    exact ⟨h3, tk4, rfl, k3, .int _ _⟩
  · rw [PySem.W.dataLe_int] at eo
    have rv2 := vals_each eo
    refine ⟨.ref _, upd H2 (s2.heap.objs.size + 1) (.lst (xs.mergeSort fun x y => decide (kf x ≤ kf y))), I2.laid (t' := tk) kp (Nat.le_succ _) ⟨?_, out2, cc, rv2, hD⟩, rfl, hq H2 ext hT2 _ (I2.hok.fresh (Nat.le_succ _))⟩
    rw [List.length_mergeSort]
    exact hz
end
/-- [f for a, b in a list of pairs]: values alone -/
theorem lcl_pureP {K : PySem.W.Frag} {σ : L2.St} {H1 : Hp} {Q : Addr → Hp → Prop} {te : TE} {vs : List Nat} {s1 s2 : Nat} {a : Addr} {xs : List V} (f ya za : Nat → V) (hx : SqL K H1 a xs) (hz : xs.length ≤ 100000)
    (hw : ∀ v v' : Option V, wipe (((wipe σ vs).set s1 v).set s2 v') vs = wipe σ vs)
    (hp : ∀ (i : Nat) (x : V), xs[i]? = some x → ∃ t : Addr, x = .ref t ∧ SqT K H1 t [ya i, za i])
    (hs : ∀ (i : Nat) (H : Hp), i < xs.length → Same H1 H → ∀ k : VK, (∀ H5, Same H H5 → k (f i) H5) → te (((wipe σ vs).set s1 (some (ya i))).set s2 (some (za i))) H k)
    (hd : ∀ D H, H1 D = none → Same H1 H → H D = some (.lst (rl xs.length f)) → Q D H) :
    ∃ a', V.ref a = .ref a' ∧ (∃ xs, SqL K H1 a' xs) ∧ LcJ (Itl K a') H1 (gTup K 2 (gCons (gName s1) (gCons (gName s2) gNil))) tYes te vs σ Q := by
  refine ⟨a, rfl, ⟨xs, hx⟩, fun D hD => ?_⟩
  refine lc_it walk_list (fun i H2 => Same H1 H2 ∧ H2 D = some (.lst (rl i f))) ⟨s_upd hD, upd_same⟩ (fun i H2 _ p => p.1.seq hx) (fun i x H2 H2' hi ⟨s2', hl⟩ y => ?_) (fun H2 ⟨s2', hl⟩ => hd D H2 hD s2' hl)
  obtain ⟨rfl, ex⟩ := y
  obtain ⟨t, rfl, ht⟩ := hp i x ex
  refine ⟨t, [ya i, za i], rfl, s_st s2' ht, rfl, ya i, [za i], rfl, za i, [], rfl, rfl, hw _ _, i_t (B := Same H1 H2' ∧ H2' D = some (.lst (rl (i + 1) f))) ?_⟩
  refine hs i H2' hi s2' _ fun H5 s5 => ⟨_, s5 _ _ hl, szl (by rw [rl_len]; omega), s_mut (s2'.trans s5) hD, ?_⟩
  rw [upd_same]
  unfold rl
  rw [List.range_succ, List.map_append]
  rfl
/-- a comprehension whose elements are data that are known only in the turn -/
theorem lc_dataE {J : It} {n : Nat} {G : Hp → Prop} {Y : Nat → Hp → V → Hp → Prop} (w : Walk J n G Y) {g : TG} {te : TE} {vs : List Nat} {σ : L2.St} {H1 : Hp} {Q : Addr → Hp → Prop} (hz : n ≤ 100000)
    (r : Rg) (Pd : Nat → PyData → Prop) (hr : ∀ a, H1 a = none → r a) (hG : ∀ H, Same H1 H → G H)
    (hs : ∀ i x H H', i < n → Same H1 H → Y i H x H' → ∀ (KY : V → Hp → Prop), (∀ y H4 d, Same H H4 → Pd i d → Da (fun a => H a = none ∨ (r a ∧ H1 a ≠ none)) H4 y d → KY y H4) →
      g x (wipe σ vs) H' fun σ2 H2 => wipe σ2 vs = wipe σ vs ∧ te σ2 H2 KY)
    (gm : ∀ (x : V) (σ : L2.St) (H : Hp) (k k' : L2.St → Hp → Prop), (∀ σ H, k σ H → k' σ H) → g x σ H k → g x σ H k')
    (hd : ∀ D H ds, H1 D = none → Same H1 H → (∀ i, i < n → Pd i (ds i)) → Ow r H D (rl n ds) → Q D H) : LcJ J H1 g tYes te vs σ Q := fun D hD => by
  refine lc_it w (fun i H => Same H1 H ∧ ∃ ds : Nat → PyData, (∀ k, k < i → Pd k (ds k)) ∧ Ow r H D (rl i ds)) ⟨s_upd hD, fun _ => .none, fun k hk => absurd hk (Nat.not_lt_zero k), Ow.nil (hr _ hD) upd_same⟩ (fun i H _ z => hG H z.1) (fun i x H H' hi z y => ?_) (fun H z => by obtain ⟨s, ds, h, ow⟩ := z; exact hd D H ds hD s h ow)
  obtain ⟨s1, ds, hds, ow⟩ := z
  obtain ⟨rp, xs, hp, l⟩ := id ow
  have hxl : xs.length = i := by rw [l.len, rl_len]
  refine gm _ _ _ _ _ (fun σ2 H2 z => ⟨z.1, i_t (B := Same H1 H2 ∧ ∃ ds : Nat → PyData, (∀ k, k < i + 1 → Pd k (ds k)) ∧ Ow r H2 D (rl (i + 1) ds)) z.2⟩) (hs i x H H' hi s1 y _ fun y4 H4 d s4 hp4 hy => ?_)
  refine ⟨xs, s4 _ _ hp, szl (by omega), s_mut (s1.trans s4) hD, fun k => if k = i then d else ds k, fun k hk => ?_, ?_⟩
  · dsimp only
    by_cases e : k = i
    · rw [if_pos e, e]; exact hp4
    · rw [if_neg e]; exact hds k (by omega)
  · have h := ow.push s4 (s4 _ _ hp) (hy.wk fun a za => by
      rcases za with za | ⟨za, zb⟩
      · exact (⟨hr _ (s1.free za), fun z => by rw [z, hp] at za; cases za⟩ : r a ∧ a ≠ D)
      · exact ⟨za, fun z => zb (z ▸ hD)⟩)
    have e : rl (i + 1) (fun k => if k = i then d else ds k) = rl i ds ++ [d] := by
      unfold rl
      rw [List.range_succ, List.map_append]
      refine congr (congrArg (· ++ ·) (List.map_congr_left fun k hk => ?_)) (by simp)
      rw [if_neg (by have := List.mem_range.mp hk; omega)]
    rw [e]
    exact h
theorem lcr_dataE {σ : L2.St} {H1 : Hp} {Q : Addr → Hp → Prop} {te : TE} {vs : List Nat} {sl : Nat} {j : Int} (n : Nat) (r : Rg) (Pd : Nat → PyData → Prop) (hj : j.toNat = n) (hb : -(2 ^ 62) ≤ j ∧ j < 2 ^ 62) (hz : n ≤ 100000) (hw : ∀ v : Option V, wipe ((wipe σ vs).set sl v) vs = wipe σ vs) (hr : ∀ a, H1 a = none → r a)
    (hs : ∀ i H, i < n → Same H1 H → ∀ KY : V → Hp → Prop, (∀ y H4 d, Same H H4 → Pd i d → Da (fun a => H a = none ∨ (r a ∧ H1 a ≠ none)) H4 y d → KY y H4) → te ((wipe σ vs).set sl (some (V.int (i : Nat)))) H KY)
    (hd : ∀ D H ds, H1 D = none → Same H1 H → (∀ i, i < n → Pd i (ds i)) → Ow r H D (rl n ds) → Q D H) :
    ∃ j' : Int, [V.int j] = [V.int j'] ∧ -(2 ^ 62) ≤ j' ∧ j' < 2 ^ 62 ∧ LcJ (Itr 0 j'.toNat) H1 (gName sl) tYes te vs σ Q := by
  refine ⟨j, rfl, hb.1, hb.2, ?_⟩
  rw [hj]
  refine lc_dataE walk_range hz r Pd hr (fun _ _ => trivial) (fun i x H H' hi s y KY ky => ?_) gm_name hd
  obtain ⟨rfl, rfl⟩ := y
  dsimp only
  rw [show (0 : Int) + (i : Nat) = (i : Nat) from Int.zero_add _]
  exact ⟨hw _, hs i H' hi s KY ky⟩
theorem r_sortK {K : PySem.W.Frag} {T : List (Addr × Str)} {t : TA} {σ : L2.St} {H : Hp} {Q : VK} (h : t σ H fun vs H1 => ∃ (a : Addr) (xs : List V) (kf : V → Int), vs = [.ref a] ∧ SqL K H1 a xs ∧ Tabs T H1 ∧
  (∀ x, x ∈ xs → ∃ (p h : Addr) (r1 r2 : List V), x = .ref p ∧ SqT K H1 p (.ref h :: r1) ∧ SqT K H1 h (.int (kf x) :: r2)) ∧
  ∀ H2, ExtN H1 H2 → Tabs T H2 → ∀ p, H2 p = none → Q (.ref p) (upd H2 p (.lst (xs.mergeSort fun x y => decide (kf x ≤ kf y))))) : tSortK K T t σ H Q := h
end Z

namespace Z
open PySem PySem.Spec PyProof.Rows L2
/-! ## numbers in base 2 -/
def binS (n : Nat) : Str := ⟨((Nat.toDigits 2 n).map Char.toNat).toArray⟩
def pc : Nat → Nat → Nat
  | 0, _ => 0
  | k + 1, n => n % 2 + pc k (n / 2)
theorem pc_zero : ∀ k, pc k 0 = 0
  | 0 => rfl
  | k + 1 => by show 0 % 2 + pc k (0 / 2) = 0; rw [Nat.zero_mod, Nat.zero_div, pc_zero k]
theorem core_ne : ∀ (f n : Nat) (ds : List Char), 0 < f → Nat.toDigitsCore 2 f n ds ≠ []
  | f + 1, n, ds, _ => by
    unfold Nat.toDigitsCore
    by_cases h : n / 2 = 0
    · simp only [h, if_true]; exact fun z => nomatch z
    · simp only [h, if_false]
      by_cases hf : f = 0
      · subst hf; unfold Nat.toDigitsCore; exact fun z => nomatch z
      · exact core_ne f _ _ (by omega)
theorem core_len : ∀ (f n : Nat) (ds : List Char), (Nat.toDigitsCore 2 f n ds).length ≤ ds.length + f
  | 0, n, ds => by simp [Nat.toDigitsCore]
  | f + 1, n, ds => by
    unfold Nat.toDigitsCore
    by_cases h : n / 2 = 0
    · simp only [h, if_true, List.length_cons]; omega
    · simp only [h, if_false]
      have := core_len f (n / 2) (Nat.digitChar (n % 2) :: ds)
      simp only [List.length_cons] at this
      omega
theorem core_pow : ∀ (k f n : Nat) (ds : List Char), 1 ≤ k → n < 2 ^ k → (Nat.toDigitsCore 2 f n ds).length ≤ ds.length + k
  | _, 0, _, ds, _, _ => by simp [Nat.toDigitsCore]
  | k, f + 1, n, ds, hk, hn => by
    unfold Nat.toDigitsCore
    by_cases h : n / 2 = 0
    · simp only [h, if_true, List.length_cons]; omega
    · simp only [h, if_false]
      have hk2 : 2 ≤ k := by
        by_cases h1 : k = 1
        · subst h1; omega
        · omega
      obtain ⟨j, rfl⟩ : ∃ j, k = j + 1 := ⟨k - 1, by omega⟩
      have hn' : n / 2 < 2 ^ j := by rw [Nat.pow_succ] at hn; omega
      have ih := core_pow j f (n / 2) (Nat.digitChar (n % 2) :: ds) (by omega) hn'
      simp only [List.length_cons] at ih
      omega
theorem digit_one (n : Nat) : (if ((Nat.digitChar (n % 2)).toNat == 49) = true then 1 else 0) = n % 2 := by
  rcases Nat.mod_two_eq_zero_or_one n with h | h <;> rw [h] <;> rfl
theorem core_pc : ∀ (k f n : Nat) (ds : List Char), n < f → n < 2 ^ k → ((Nat.toDigitsCore 2 f n ds).map Char.toNat).count 49 = pc k n + (ds.map Char.toNat).count 49
  | k, f + 1, n, ds, hf, hk => by
    unfold Nat.toDigitsCore
    have hd := digit_one n
    have hc : ((Nat.digitChar (n % 2) :: ds).map Char.toNat).count 49 = n % 2 + (ds.map Char.toNat).count 49 := by
      rw [List.map_cons, List.count_cons, hd, Nat.add_comm]
    by_cases h : n / 2 = 0
    · simp only [h, if_true]
      rw [hc]
      match k, hk with
      | 0, hk => have : n = 0 := by simpa using hk
                 subst this; rfl
      | k + 1, _ => show _ = n % 2 + pc k (n / 2) + _; rw [h, pc_zero, Nat.add_zero]
    · simp only [h, if_false]
      match k, hk with
      | 0, hk => have : n = 0 := by simpa using hk
                 omega
      | k + 1, hk =>
        rw [core_pc k f (n / 2) _ (by omega) (by rw [Nat.pow_succ] at hk; omega), hc]
        show _ = n % 2 + pc k (n / 2) + _
        omega
theorem binS_count {k n : Nat} (hk : n < 2 ^ k) : (binS n).cps.toList.count 49 = pc k n := by
  show ((Nat.toDigitsCore 2 (n + 1) n []).map Char.toNat).count 49 = _
  rw [core_pc k (n + 1) n [] (by omega) hk]; rfl
theorem binS_len {k n : Nat} (h1 : 1 ≤ k) (hk : n < 2 ^ k) : (binS n).length ≤ k := by
  show ((Nat.toDigitsCore 2 (n + 1) n []).map Char.toNat).toArray.size ≤ k
  rw [List.size_toArray, List.length_map]
  have := core_pow k (n + 1) n [] h1 hk
  simpa using this
/-! one sign counted -/
theorem occ_one (s sub : Str) (hi limit : Nat) (h1 : sub.length = 1) : ∀ (n a : Nat) (st : Array Nat × Nat), st.2 ≤ a → st.1.size + n ≤ limit →
    (forIn (List.range' a n) st (StrLaws.occBody s sub hi limit)).run.fst.size = st.1.size + ((List.range' a n).filter fun i => decide (i + 1 ≤ hi) && Builtin.Str.subAt s sub i).length
  | 0, a, st, _, _ => by simp
  | n + 1, a, st, h2, h3 => by
    rw [List.range'_succ, List.forIn_cons]
    by_cases hc : a + 1 ≤ hi ∧ Builtin.Str.subAt s sub a = true
    · have c1 : ((st.fst.size < limit ∧ st.snd ≤ a) ∧ a + 1 ≤ hi) ∧ Builtin.Str.subAt s sub a = true := ⟨⟨⟨by omega, h2⟩, hc.1⟩, hc.2⟩
      have hb : StrLaws.occBody s sub hi limit a st = pure (ForInStep.yield (st.fst.push a, a + 1)) := by unfold StrLaws.occBody; rw [h1, if_pos c1]
      rw [hb, List.filter_cons, if_pos (by rw [decide_eq_true hc.1, hc.2]; rfl)]
      have ih := occ_one s sub hi limit h1 n (a + 1) (st.fst.push a, a + 1) (Nat.le_refl _) (by simp only [Array.size_push]; omega)
      simp only [Array.size_push] at ih
      show (forIn (List.range' (a + 1) n) (st.fst.push a, a + 1) (StrLaws.occBody s sub hi limit)).run.fst.size = _
      rw [ih, List.length_cons]; omega
    · have c1 : ¬ (((st.fst.size < limit ∧ st.snd ≤ a) ∧ a + 1 ≤ hi) ∧ Builtin.Str.subAt s sub a = true) := fun z => hc ⟨z.1.2, z.2⟩
      have c2 : ¬ ((decide (a + 1 ≤ hi) && Builtin.Str.subAt s sub a) = true) := fun z => by
        rw [Bool.and_eq_true, decide_eq_true_eq] at z; exact hc z
      have hb : StrLaws.occBody s sub hi limit a st = pure (ForInStep.yield (st.fst, st.snd)) := by unfold StrLaws.occBody; rw [h1, if_neg c1]
      rw [hb, List.filter_cons, if_neg c2]
      exact occ_one s sub hi limit h1 n (a + 1) st (by omega) (by omega)
theorem filter_count (l : List Nat) (c : Nat) : ((List.range' 0 l.length).filter fun i => decide (l[i]? = some c)).length = l.count c := by
  induction l with
  | nil => rfl
  | cons x l ih =>
    rw [List.length_cons, List.range'_succ, List.filter_cons, List.count_cons]
    have e : ((List.range' (0 + 1) l.length).filter fun i => decide ((x :: l)[i]? = some c)).length = ((List.range' 0 l.length).filter fun i => decide (l[i]? = some c)).length := by
      rw [List.range'_eq_map_range, List.range'_eq_map_range, List.filter_map, List.filter_map, List.length_map, List.length_map]
      congr 1
      refine List.filter_congr fun i _ => ?_
      show decide ((x :: l)[0 + 1 + i]? = some c) = decide (l[0 + i]? = some c)
      rw [show 0 + 1 + i = (0 + i) + 1 by omega, List.getElem?_cons_succ]
    by_cases h : x = c
    · subst h
      rw [if_pos (by simp), List.length_cons, e, ih]; simp
    · rw [if_neg (by simpa using h), e, ih]; simp [h]
theorem sub_one (s : Str) (c i : Nat) (h : i < s.length) : Builtin.Str.subAt s ⟨#[c]⟩ i = decide (s.cps.toList[i]? = some c) := by
  unfold Builtin.Str.subAt
  have hl : i < s.cps.size := h
  have e : s.cps.extract i (i + Str.length ⟨#[c]⟩) = #[s.cps[i]] := by
    apply Array.ext
    · simp [Str.length]; omega
    · intro j h1 h2
      simp at h2
      subst h2
      simp
  rw [e]
  rw [Array.getElem?_toList, Array.getElem?_eq_getElem hl]
  by_cases h2 : s.cps[i] = c
  · subst h2; simp
  · simp [h2]
theorem count_one (s : Str) (c : Nat) : Txt.count s ⟨#[c]⟩ = (s.cps.toList.count c : Nat) := by
  show (((Builtin.Str.occurrences s ⟨#[c]⟩ 0 s.length (s.length + 1)).length : Nat) : Int) = _
  congr 1
  rw [StrLaws.occ_eq, Array.length_toList, occ_one s ⟨#[c]⟩ s.length (s.length + 1) rfl (s.length + 1 - 0) 0 (#[], 0) (Nat.le_refl _) (by simp)]
  rw [← filter_count]
  have e0 : s.cps.toList.length = s.length := by simp [Str.length]
  rw [e0, show s.length + 1 - 0 = s.length + 1 by omega, List.range'_concat, List.filter_append]
  have e1 : ((List.range' 0 s.length).filter fun i => decide (i + 1 ≤ s.length) && Builtin.Str.subAt s ⟨#[c]⟩ i) = (List.range' 0 s.length).filter fun i => decide (s.cps.toList[i]? = some c) := by
    refine List.filter_congr fun i hi => ?_
    have hi2 : i < s.length := by have := List.mem_range'_1.mp hi; omega
    rw [decide_eq_true (by omega : i + 1 ≤ s.length), Bool.true_and, sub_one s c i hi2]
  rw [e1]
  have e2 : ([0 + 1 * s.length].filter fun i => decide (i + 1 ≤ s.length) && Builtin.Str.subAt s ⟨#[c]⟩ i) = [] := by
    rw [List.filter_cons, if_neg (by rw [decide_eq_false (by omega)]; simp)]; rfl
  rw [e2]; simp

theorem bin_digits_ne (n : Nat) : ((Nat.toDigits 2 n).map fun c => (if (98 : Nat) == 88 then c.toUpper else c).toNat).isEmpty = false := by
  have := core_ne (n + 1) n [] (by omega)
  cases h : Nat.toDigits 2 n with
  | nil => exact absurd h this
  | cons _ _ => rfl
theorem fmt_field {f : Builtin.Float.FormatSpec} (n : Nat) (hf : f.fill = 32) (ha : f.align = 62) (hs : f.sign = none) (hw : f.width = none) (hg : f.grouping = none) :
    intField' f (decide ((n : Int) < 0)) [] ((Nat.toDigits 2 n).map fun c => (if (98 : Nat) == 88 then c.toUpper else c).toNat) [] 4 = binS n := by
  rw [decide_eq_false (by omega)]
  unfold intField' binS
  simp only [hf, ha, hs, hw, hg, bin_digits_ne]
  simp
end Z
namespace Z
open PySem PySem.Spec PyProof.Rows L2
open Builtin Float
def fb : FormatSpec := { align := 62, type := some 98 }
theorem fmt_b0 {prog : Program} {w : World} {A : Around} {E : Value → Shared → Prop} {s : Shared} {a : Int} {t : Tok} {spec T : Str} {f : FormatSpec} {Q : Value → Shared → Prop} (hf : f = fb)
    (hp : parseFormatSpec spec.cps.toList "int" 62 = .ok f)
    (hne : (spec.length == 0) = false)
    (hasc : ((spec.cps.toList.drop 1).any (· ≥ 128) || (spec.cps.getD 0 0 ≥ 128 && !([60, 62, 61, 94] : List Nat).contains (spec.cps.getD 1 0))) = false)
    (hT : intField' fb (decide (a < 0)) [] ((Nat.toDigits 2 a.natAbs).map fun c => (if (98 : Nat) == 88 then c.toUpper else c).toNat) [] 4 = T) (hlen : T.length ≤ sizeLine)
    (h : ∀ t' k, Q (.str T t') { s with toks := k }) (hsz : spec.length ≤ sizeLine) :
    wpAny (model prog w) A (formatField (.int a t) spec) Q E s := by
  have hty : f.type.getD (if spec.cps.back? == some 0 then 0 else 100) = 98 := by rw [hf]; rfl
  have hpr : f.precision = none := by rw [hf]; rfl
  have hz : f.noNeg0 = false := by rw [hf]; rfl
  have hal : f.alt = false := by rw [hf]; rfl
  have hw : f.width.getD 0 ≤ 100000 := by rw [hf]; decide
  show wpAny _ _ (holding [.int a t] (pyFormat (.int a t) spec)) Q E s
  refine wpAny_holding ?_
  unfold pyFormat
  refine wpAny_bind (wpAny_mkStr ?_ hsz)
  refine wpAny_bind (m := callSpecial? (.int a t) (Str.ofString "__format__") [.str spec s.toks]) (wpAny_callSpecial?_slot (name := Str.ofString "__format__") (typeIs_int _ a t) F.slot_int_format ?_)
  refine wpAny_call (codeAny_call_builtin F.slot_int_format.plain F.entry_int_format (F.slot_int_format.check _ _ _ _ _ _ _ _ (typeIs_int _ a t) (F.args_int_format_2 _ _) ?_))
  unfold Builtin.«int.__format__»
  simp only [selfAndOne, noKeywords, Int.intOfSelf, asInt?, asStr?, List.isEmpty_nil, if_true, pure_bind, bind_pure, bind_assoc, hne, hasc, Bool.false_eq_true, if_false,
    show (Value.str spec s.toks == Value.none) = false from rfl]
  refine wpAny_bind (wpAny_typeNameOf (T := "str") (typeIs_str _ _ _) (by decide) fun _ => ?_)
  refine wpAny_bind (wpAny_typeNameOfCut_int ?_)
  simp only [hp, hty]
  rw [if_pos (by decide)]
  show wpAny _ _ (if _ then _ else _) _ _ _
  rw [if_neg (by simp [hpr])]
  show wpAny _ _ (if _ then _ else _) _ _ _
  rw [if_neg (by simp [hz])]
  show wpAny _ _ (if _ then _ else _) _ _ _
  rw [if_neg (by decide)]
  show wpAny _ _ (if _ then _ else _) _ _ _
  have hw' : ¬ (f.width.getD 0 > 100000) := by omega
  rw [if_neg (by decide)]
  show wpAny _ _ (if _ then _ else _) _ _ _
  rw [if_neg (by simpa using hw')]
  show wpAny _ _ (retStr _) _ _ _
  have key : ∀ X, X = T → ∀ (A : Around) (Q' : Fin → Shared → Prop) (E' : Value → Shared → Prop) (s' : Shared), (∀ t k, Q' (.done (.ret (.str T t))) { s' with toks := k }) → wpAny (model prog w) A (retStr X) Q' E' s' :=
    fun X e A Q' E' s' hq => PySem.W.KXf.ret_text e (by rw [e]; exact hlen) hq
  refine key _ ?_ _ _ _ _ fun t' k => ?_
  · rw [hal, if_neg Bool.false_ne_true, if_neg (by decide)]
    subst hf
    exact hT
  · exact wpAny_bind (wpAny_isInstance (typeIs_str _ _ _) isSubtype_str_str (wpAny_pure (h t' k)))

theorem fmt_b {prog : Program} {w : World} {A : Around} {E : Value → Shared → Prop} {s : Shared} {Q : Value → Shared → Prop} {n : Nat} {t : Tok} (hn : n < 2 ^ 200)
    (h : ∀ t' k, Q (.str (binS n) t') { s with toks := k }) : wpAny (model prog w) A (formatField (.int (n : Int) t) "b") Q E s := by
  refine fmt_b0 (T := binS n) (f := fb) rfl (by rfl) (by decide) (by decide +kernel) ?_ (Nat.le_trans (binS_len (by decide) hn) (by decide)) h (by decide)
  exact fmt_field n rfl rfl rfl rfl rfl
end Z
namespace Z
open PySem PySem.Spec PyProof.Rows L2
/-- f'{e:b}' -/
def tFb (te : TE) : TE := fun σ H Q => te σ H fun x H1 => ∃ n : Nat, x = .int (n : Int) ∧ n < 2 ^ 200 ∧ Q (.str (binS n)) H1
theorem pe_fmtb {X : Cx} {e : Expr} {te : TE} {pos p1 p2 p3 : Pos} {k : Nat} (he : PE X e te) : PE X (.JoinedStr [.FormattedValue e (-1) (some (.JoinedStr [.Constant (.str "b") k p1] p2)) p3] pos) (tFb te) := ⟨fun pins s σ H Q I h => by
  refine JoinedStr_one (wpAny_FormattedValue_spec (thn (he.run pins s σ H _ I h) fun v s1 ⟨x, H1, I1, rx, n, ex, hn, q⟩ => ?_))
  subst ex
  obtain ⟨t, rfl⟩ := rx
  refine JoinedStr_one (Calls.Constant_str ⟨_, _, rfl, ?_⟩)
  exact fmt_b hn fun t' k => ⟨.str (binS n), H1, I1.tok _, ⟨_, rfl⟩, q⟩⟩
theorem r_fb {te : TE} {σ : L2.St} {H : Hp} {Q : VK} (h : te σ H fun x H1 => ∃ n : Nat, x = .int (n : Int) ∧ n < 2 ^ 200 ∧ Q (.str (binS n)) H1) : tFb te σ H Q := h
theorem r_m1 {r : V → List V → Hp → VK → Prop} {to te : TE} {σ : L2.St} {H : Hp} {Q : VK} (h : to σ H fun x H1 => (∃ a, x = .str a) ∧ te σ H1 fun y H2 => r x [y] H2 Q) : tM1 r to te σ H Q := h
theorem r_cnt1 {H : Hp} {Q : VK} {s : Str} (q : Q (.int (s.cps.toList.count 49 : Nat)) H) : ∃ a b, V.str s = .str a ∧ [V.str "1"] = [.str b] ∧ Q (.int (Txt.count a b)) H :=
  ⟨s, "1", rfl, rfl, by rw [show ("1" : Str) = ⟨#[49]⟩ by rfl, count_one]; exact q⟩
def blN (n : Nat) : Nat := if n = 0 then 0 else n.log2 + 1
theorem bits_nat (n : Nat) : Builtin.Int.intBits (n : Int) = blN n := by
  unfold Builtin.Int.intBits blN
  by_cases h : n = 0
  · subst h; rfl
  · rw [if_neg h, if_neg (by simp; omega)]; rfl
theorem r_bits {te : TE} {σ : L2.St} {H : Hp} {Q : VK} (h : te σ H fun x H1 => ∃ i, x = .int i ∧ Q (.int (Builtin.Int.intBits i : Nat)) H1) : tBits te σ H Q := h
theorem r_bitsI {n : Nat} {H : Hp} {Q : VK} (q : Q (.int (blN n : Nat)) H) : ∃ i, V.int (n : Int) = .int i ∧ Q (.int (Builtin.Int.intBits i : Nat)) H := ⟨n, rfl, by rw [bits_nat]; exact q⟩
theorem r_min2 {i j : Int} {H : Hp} {Q : VK} (q : Q (.int (if j < i then j else i)) H) : ∃ i' j', [V.int i, V.int j] = [V.int i', V.int j'] ∧ Q (.int (if j' < i' then j' else i')) H := ⟨i, j, rfl, q⟩
/-! bits counted -/
theorem pc_xor : ∀ (k a b : Nat), pc k (a ^^^ b) ≤ pc k a + pc k b
  | 0, _, _ => Nat.le_refl _
  | k + 1, a, b => by
    have e : (a ^^^ b) / 2 = a / 2 ^^^ b / 2 := by
      have := Nat.shiftRight_xor_distrib (a := a) (b := b) (i := 1)
      simpa [Nat.shiftRight_eq_div_pow] using this
    have ih := pc_xor k (a / 2) (b / 2)
    have hx := @Nat.xor_mod_two_eq_one a b
    have h1 := Nat.mod_two_eq_zero_or_one a
    have h2 := Nat.mod_two_eq_zero_or_one b
    have h3 := Nat.mod_two_eq_zero_or_one (a ^^^ b)
    show (a ^^^ b) % 2 + pc k ((a ^^^ b) / 2) ≤ (a % 2 + pc k (a / 2)) + (b % 2 + pc k (b / 2))
    rw [e]
    generalize (a ^^^ b) % 2 = z at *
    generalize a % 2 = x at *
    generalize b % 2 = y at *
    generalize pc k (a / 2 ^^^ b / 2) = u at *
    omega
theorem pc_tri (k a b c : Nat) : pc k (a ^^^ c) ≤ pc k (a ^^^ b) + pc k (b ^^^ c) := by
  have := pc_xor k (a ^^^ b) (b ^^^ c)
  rw [Nat.xor_assoc, ← Nat.xor_assoc b b c, Nat.xor_self, Nat.zero_xor] at this
  exact this
def farK (x : Nat) : Nat → Nat
  | 0 => 0
  | k + 1 => farK x k + (x >>> k) % 2
theorem farK_half (x : Nat) : ∀ k, farK x (k + 1) = x % 2 + farK (x / 2) k
  | 0 => by show 0 + (x >>> 0) % 2 = x % 2 + 0; simp
  | k + 1 => by
    have e : x >>> (k + 1) = (x / 2) >>> k := by
      rw [Nat.shiftRight_eq_div_pow, Nat.shiftRight_eq_div_pow, Nat.div_div_eq_div_mul, Nat.pow_succ, Nat.mul_comm]
    show farK x (k + 1) + (x >>> (k + 1)) % 2 = x % 2 + (farK (x / 2) k + ((x / 2) >>> k) % 2)
    rw [farK_half x k, e]; omega
theorem farK_pc : ∀ (k x : Nat), farK x k = pc k x
  | 0, _ => rfl
  | k + 1, x => by
    rw [farK_half, farK_pc k (x / 2)]; rfl
theorem r_while {c : TT} {tb : TS} {D : Ends} {σ : L2.St} {H : Hp} (W : Nat → L2.St → Hp → Prop) (m : Nat) (h0 : W m σ H)
    (hs : ∀ m σ H, W m σ H → c σ H fun b H1 => if b = true then ∃ N : L2.St → Hp → Prop, (∀ σ' H', N σ' H' → ∃ m', m' < m ∧ W m' σ' H') ∧ tb { D with nx := N, ct := N, bk := D.nx } σ H1 else D.nx σ H1) : tWhile c tb D σ H := ⟨W, ⟨m, h0⟩, hs⟩
end Z

/-! ## the words: wtm_at "1" one step, "r" steps as far as they go, "h" a heap fact, "s" a side condition, "n" two addresses apart, "m" all that was tracked is as it was -/
local macro_rules | `(tactic| wtm_at "s") => `(tactic| first
  | (with_reducible assumption)
  | ((with_reducible refine Z.c_div ?_ ?_) <;> first | omega | decide)
  | ((with_reducible refine Z.c_mulR ?_ ?_) <;> first | omega | decide)
  | ((with_reducible refine Z.c_mulL ?_ ?_) <;> first | omega | decide)
  | ((with_reducible refine Z.c_pow ?_ ?_ ?_) <;> first | omega | decide)
  | omega | decide)
local macro_rules | `(tactic| wtm_at "n") => `(tactic| first
  | assumption | exact Ne.symm (by assumption)
  | exact Z.ne_of' (by assumption) (by wtm_at "h")
  | exact Ne.symm (Z.ne_of' (by assumption) (by wtm_at "h")))
local macro_rules | `(tactic| wtm_at "h") => `(tactic| with_reducible first
  | exact L2.upd_same
  | assumption
  | exact Eq.trans (L2.upd_ne (by wtm_at "n")) (by wtm_at "h")
  | exact Z.s_at (by assumption) (by wtm_at "h"))
local macro_rules | `(tactic| wtm_at "ql") => `(tactic| with_reducible first
  | assumption
  | exact Z.sq_l (by wtm_at "h")
  | exact Z.s_sq (by assumption) (by wtm_at "ql")
  | exact Z.s_sq (Z.s_upd (by assumption)) (by wtm_at "ql"))
local macro_rules | `(tactic| wtm_at "qt") => `(tactic| with_reducible first
  | assumption
  | exact Z.sq_t (by wtm_at "h")
  | exact Z.s_st (by assumption) (by wtm_at "qt")
  | exact Z.s_st (Z.s_upd (by assumption)) (by wtm_at "qt"))
local macro_rules | `(tactic| wtm_at "f") => `(tactic| with_reducible first
  | assumption
  | exact Z.s_back (by assumption) (by wtm_at "f"))
local macro_rules | `(tactic| wtm_at "m") => `(tactic| with_reducible first
  | exact L2.Same.refl _
  | assumption
  | exact L2.Same.trans (by wtm_at "m") (Z.s_upd (by assumption))
  | exact Z.s_mut (by wtm_at "m") (by wtm_at "f")
  | exact L2.Same.trans (by wtm_at "m") (by assumption))
local macro_rules | `(tactic| wtm_at "z") => `(tactic| first
  | (refine Z.szl ?_; simp only [List.length_map, List.length_append, List.length_cons, List.length_nil]; omega)
  | (refine Z.sz ?_; simp only [List.length_map, List.length_append, List.length_cons, List.length_nil]; omega))
local macro_rules | `(tactic| wtm_at "set") => `(tactic| (simp only [List.set_cons_zero, List.set_cons_succ]; rfl))
local macro_rules | `(tactic| wtm_at "1") => `(tactic| with_reducible first
  | refine Z.r_seq ?_ | refine Z.r_asg ?_
  | (refine' Z.r_gname ?c ?_; (case c => wtm_at "set"))
  | refine Z.r_v0 ?_ | refine Z.r_v1 ?_ | refine Z.r_v2 ?_ | refine Z.r_vS ?_ | refine Z.r_c ?_
  | refine Z.r_op ?_ | refine Z.r_lt ?_ | refine Z.r_le ?_ | refine Z.r_gt ?_ | refine Z.r_ge ?_ | refine Z.r_I0 ?_ | (refine' Z.r_I ?c ?_; (case c => wtm_at "s")) | refine Z.r_cons ?_ | refine Z.r_nil ?_
  | refine Z.r_eqI ?_ | refine Z.r_neI ?_ | refine Z.r_test ?_ | refine Z.r_bl ?_ | refine Z.r_if ?_
  | refine Z.r_cb ?_ | refine Z.r_call ?_ | refine Z.r_int ?_
  | refine Z.r_ret ?_ | refine Z.r_drop ?_ | refine Z.r_next ?_ | refine Z.r_brk ?_ | refine Z.r_cnt ?_ | refine Z.r_retN ?_
  | refine Z.i_t ?_ | refine Z.i_f ?_ | refine Z.i_nt ?_ | refine Z.i_nf ?_
  | refine Z.r_and ?_ | refine Z.r_or ?_ | refine Z.r_not ?_ | refine Z.r_andV ?_ | refine Z.r_orV ?_ | refine Z.r_notV ?_ | refine Z.r_tB ?_ | refine Z.r_ifE ?_
  | refine Z.r_chain ?_ | refine Z.r_un ?_ | refine Z.r_U ?_
  | refine Z.r_new ?_ | refine Z.r_tup ?_ | refine Z.r_bm ?_ | (refine' Z.ty_lst ?c ?_; (case c => wtm_at "ql"))
  | (refine' Z.r_append ?c ?d ?_; (case c => wtm_at "h"); (case d => wtm_at "z"))
  | (refine' Z.r_lenL ?c ?_; (case c => first | assumption | exact Z.sq_l (by assumption))) | (refine' Z.r_lenT ?c ?_; (case c => first | assumption | exact Z.sq_t (by assumption)))
  | (refine' Z.r_lenL ?c ?_; (case c => wtm_at "ql")) | (refine' Z.r_lenT ?c ?_; (case c => wtm_at "qt"))
  | refine Z.r_sl ?_ | refine Z.r_noPart ?_ | refine Z.r_part ?_ | refine Z.r_pint ?_
  | refine Z.r_isB ?_ | refine Z.r_notB ?_ | refine Z.r_eqB ?_ | refine Z.r_neB ?_ | refine Z.r_eqS ?_ | refine Z.r_neS ?_
  | refine Z.r_fld ?_ | refine Z.r_sfld ?_ | refine Z.r_make ?_ | refine Z.r_meth ?_ | refine Z.for_rng3 ?_ | refine Z.lc_rng3 ?_ | refine Z.lc_rng ?_ | refine Z.lc_rng2 ?_ | refine Z.lc_lst ?_ | refine Z.r_gsub ?_ | refine Z.for_enum ?_ | refine Z.r_intB ?_
  | refine Z.for_lst ?_ | refine Z.for_rng ?_ | refine Z.for_rng2 ?_)
local macro_rules | `(tactic| wtm_at "w") => `(tactic| simp only [L2.wipe, List.map_cons, List.map_nil, List.set_cons_zero, List.set_cons_succ])
local macro_rules | `(tactic| wtm_at "r") => `(tactic| repeat (wtm_at "1"))
local macro_rules | `(tactic| wtm_at "e") => `(tactic| repeat (first | (with_reducible first | refine Z.r_methX ?_ | refine Z.r_erF ?_) | wtm_at "1"))
local macro_rules | `(tactic| wtm_at "1") => `(tactic| with_reducible first | refine Z.r_callS ?_ | refine Z.r_callSD ?_)
local macro_rules | `(tactic| wtm_at "1") => `(tactic| with_reducible first | refine Z.r_lc2I ?_ | refine Z.r_forI ?_ | refine Z.r_iRng1 ?_ | refine Z.r_iRng2 ?_ | refine Z.r_iLst ?_ | refine Z.r_iTup ?_ | refine Z.r_iEnum ?_ | refine Z.r_iZip ?_)
local macro_rules | `(tactic| wtm_at "1") => `(tactic| with_reducible refine Z.r_tru ?_)
local macro_rules | `(tactic| wtm_at "1") => `(tactic| with_reducible first | refine Z.r_fb ?_ | refine Z.r_m1 ?_ | refine Z.r_bits ?_ | refine Z.r_bitsI ?_ | refine Z.r_min2 ?_)

namespace M_k20
open PySem PySem.Spec PyProof.Rows L2
def topS (i : Nat) : Stmt := PySem.Challenge.pw_dotfield_k20_parts_that_do_not_fit.main.body.getD i (.Pass ⟨0, 0, 0, 0⟩)
abbrev s_DotfieldError___init__ : Stmt := (inClass (topS 1) 0)
abbrev sl_DotfieldError___init__ : List Str := ["self", "place"]
abbrev pl_DotfieldError___init__ : List Str := ["self", "place"]
theorem sc_DotfieldError___init__ : FnScope sl_DotfieldError___init__ pl_DotfieldError___init__ (defScope s_DotfieldError___init__) := ⟨rfl, rfl, rfl, by decide +kernel, rfl, by decide +kernel, by decide +kernel⟩
abbrev s_check_headers : Stmt := (topS 7)
abbrev sl_check_headers : List Str := ["headers", "indexes", "place", "header"]
abbrev pl_check_headers : List Str := ["headers"]
theorem sc_check_headers : FnScope sl_check_headers pl_check_headers (defScope s_check_headers) := ⟨rfl, rfl, rfl, by decide +kernel, rfl, by decide +kernel, by decide +kernel⟩
abbrev s_parity : Stmt := (topS 5)
abbrev sl_parity : List Str := ["text", "combined", "byte"]
abbrev pl_parity : List Str := ["text"]
theorem sc_parity : FnScope sl_parity pl_parity (defScope s_parity) := ⟨rfl, rfl, rfl, by decide +kernel, rfl, by decide +kernel, by decide +kernel⟩
abbrev s_join : Stmt := (topS 6)
abbrev sl_join : List Str := ["pairs", "header", "_", "count", "whole", "in_order", "text", "part", "byte"]
abbrev pl_join : List Str := ["pairs"]
theorem sc_join : FnScope sl_join pl_join (defScope s_join) := ⟨rfl, rfl, rfl, by decide +kernel, rfl, by decide +kernel, by decide +kernel⟩
abbrev s__law_draw : Stmt := (topS 9)
abbrev sl__law_draw : List Str := ["cell", "many", "bound", "numbers", "k", "seed", "mixed"]
abbrev pl__law_draw : List Str := ["cell", "many", "bound"]
theorem sc__law_draw : FnScope sl__law_draw pl__law_draw (defScope s__law_draw) := ⟨rfl, rfl, rfl, by decide +kernel, rfl, by decide +kernel, by decide +kernel⟩
abbrev s__law_is_integer : Stmt := (topS 10)
abbrev sl__law_is_integer : List Str := ["actual"]
abbrev pl__law_is_integer : List Str := ["actual"]
theorem sc__law_is_integer : FnScope sl__law_is_integer pl__law_is_integer (defScope s__law_is_integer) := ⟨rfl, rfl, rfl, by decide +kernel, rfl, by decide +kernel, by decide +kernel⟩
abbrev s__law_same : Stmt := (topS 11)
abbrev sl__law_same : List Str := ["actual", "expected", "k"]
abbrev pl__law_same : List Str := ["actual", "expected"]
theorem sc__law_same : FnScope sl__law_same pl__law_same (defScope s__law_same) := ⟨rfl, rfl, rfl, by decide +kernel, rfl, by decide +kernel, by decide +kernel⟩
abbrev s__law_cell : Stmt := (topS 12)
abbrev sl__law_cell : List Str := ["script", "k"]
abbrev pl__law_cell : List Str := ["script", "k"]
theorem sc__law_cell : FnScope sl__law_cell pl__law_cell (defScope s__law_cell) := ⟨rfl, rfl, rfl, by decide +kernel, rfl, by decide +kernel, by decide +kernel⟩
abbrev s__law_changed : Stmt := (topS 13)
abbrev sl__law_changed : List Str := ["pair", "numbers", "header", "part", "kind"]
abbrev pl__law_changed : List Str := ["pair", "numbers"]
theorem sc__law_changed : FnScope sl__law_changed pl__law_changed (defScope s__law_changed) := ⟨rfl, rfl, rfl, by decide +kernel, rfl, by decide +kernel, by decide +kernel⟩
abbrev s__law_due : Stmt := (topS 15)
abbrev sl__law_due : List Str := ["pairs", "seen", "k", "header", "text", "total", "index", "part", "byte"]
abbrev pl__law_due : List Str := ["pairs"]
theorem sc__law_due : FnScope sl__law_due pl__law_due (defScope s__law_due) := ⟨rfl, rfl, rfl, by decide +kernel, rfl, by decide +kernel, by decide +kernel⟩
abbrev s__law_pairs : Stmt := (topS 14)
abbrev sl__law_pairs : List Str := ["script", "sizes", "count", "parts", "k", "total", "part", "byte", "pairs", "order", "result"]
abbrev pl__law_pairs : List Str := ["script"]
theorem sc__law_pairs : FnScope sl__law_pairs pl__law_pairs (defScope s__law_pairs) := ⟨rfl, rfl, rfl, by decide +kernel, rfl, by decide +kernel, by decide +kernel⟩
abbrev s_law : Stmt := (topS 16)
abbrev sl_law : List Str := ["script", "pairs", "handed", "header", "part", "place", "text", "told", "error"]
abbrev pl_law : List Str := ["script"]
theorem sc_law : FnScope sl_law pl_law (defScope s_law) := ⟨rfl, rfl, rfl, by decide +kernel, rfl, by decide +kernel, by decide +kernel⟩
/-! ## messages -/
def parI (l : List Int) : Int := l.foldl Builtin.bitXor 0
abbrev Hd := Option (Int × Int × Int)
def hIx : Hd → Int
  | some (i, _, _) => i
  | none => 0
/-- a header as it stands -/
def HdV (H : Hp) (v : V) : Hd → Prop
  | none => v = .non
  | some (i, c, w) => ∃ a, v = .ref a ∧ H a = some (.tup [.int i, .int c, .int w])
def badK (hs : Nat → Hd) (k : Nat) : Bool := match hs k, hs 0 with
  | some (i, c, w), some (_, c0, w0) => decide (¬ (c = c0 ∧ w = w0)) || decide (i ∈ Z.rl k fun j => hIx (hs j))
  | _, _ => true
def fbad (n : Nat) (hs : Nat → Hd) : Option Nat := (List.range n).find? (badK hs)
theorem fbad_some {n k : Nat} {hs : Nat → Hd} (hk : k < n) (h1 : badK hs k = true) (h2 : ∀ j, j < k → badK hs j = false) : fbad n hs = some k := by
  unfold fbad
  rw [List.find?_range_eq_some]
  exact ⟨h1, List.mem_range.mpr hk, fun j hj => by rw [h2 j hj]; rfl⟩
theorem fbad_none {n : Nat} {hs : Nat → Hd} (h : ∀ j, j < n → badK hs j = false) : fbad n hs = none := by
  unfold fbad
  rw [List.find?_eq_none]
  exact fun j hj => by rw [h j (List.mem_range.mp hj)]; exact Bool.false_ne_true
theorem fbad_all {n : Nat} {hs : Nat → Hd} (h : fbad n hs = none) : ∀ j, j < n → badK hs j = false := fun j hj => by
  unfold fbad at h
  rw [List.find?_eq_none] at h
  have := h j (List.mem_range.mpr hj)
  simpa using this
theorem badK_two {hs : Nat → Hd} {k : Nat} {i c w i0 c0 w0 : Int} (h1 : hs k = some (i, c, w)) (h2 : hs 0 = some (i0, c0, w0)) : badK hs k = (decide (¬ (c = c0 ∧ w = w0)) || decide (i ∈ Z.rl k fun j => hIx (hs j))) := by
  unfold badK
  rw [h1, h2]
theorem badK_none {hs : Nat → Hd} {k : Nat} (h : hs k = none) : badK hs k = true := by
  unfold badK
  rw [h]
theorem badK_ok {hs : Nat → Hd} {k : Nat} (h : badK hs k = false) : ∃ i c w i0, hs k = some (i, c, w) ∧ hs 0 = some (i0, c, w) ∧ i ∉ Z.rl k fun j => hIx (hs j) := by
  cases e1 : hs k with
  | none => rw [badK_none e1] at h; cases h
  | some x =>
    obtain ⟨i, c, w⟩ := x
    cases e2 : hs 0 with
    | none => unfold badK at h; rw [e1, e2] at h; cases h
    | some y =>
      obtain ⟨i0, c0, w0⟩ := y
      rw [badK_two e1 e2, Bool.or_eq_false_iff] at h
      obtain ⟨rfl, rfl⟩ : c = c0 ∧ w = w0 := by simpa using h.1
      exact ⟨i, c, w, i0, rfl, rfl, by simpa using h.2⟩
theorem r_neI2 {K : PySem.W.Frag} {H : Hp} {Q : VK} {a b : Addr} {x y z u : Int} (ha : H a = some (.tup [.int x, .int y])) (hb : H b = some (.tup [.int z, .int u])) (q : Q (.bl (!decide (x = z ∧ y = u))) H) : rNeD K (.ref a) (.ref b) H Q := by
  have lay : ∀ p : Int × Int, Z.Lay 1 (Z.dI2 p) := fun p => Z.Lay.tuple fun d hd => by
    rcases List.mem_cons.mp hd with rfl | hd
    · exact .int _
    · rcases List.mem_cons.mp hd with rfl | hd
      · exact .int _
      · cases hd
  refine ⟨Z.dI2 (x, y), Z.dI2 (z, u), (Z.Da.i2 (r := fun _ => True) (p := (x, y)) trivial ha).dp, (Z.Da.i2 (r := fun _ => True) (p := (z, u)) trivial hb).dp, (lay _).shaped (by decide), (lay _).shaped (by decide), ?_⟩
  rw [Z.eqv_i2]
  have e : decide ((x, y) = (z, u)) = decide (x = z ∧ y = u) := decide_eq_decide.mpr (by simp)
  rw [e]
  exact q
def lamT (P : Addr) : List (Addr × Str) := [(P, (("join" : Str) ++ ".<locals>.") ++ "<lambda>")]
set_option maxHeartbeats 8000000 in
structure Top (K : PySem.W.Frag) (mg : Str → Option Value) where
  a_DotfieldError___init__ : Addr
  d_DotfieldError___init__ : FuncData
  F_DotfieldError___init__ : Fun K "__init__" "DotfieldError.__init__" s_DotfieldError___init__ a_DotfieldError___init__ d_DotfieldError___init__
  b_DotfieldError___init__ : Binds K d_DotfieldError___init__ pl_DotfieldError___init__ []
  a_check_headers : Addr
  d_check_headers : FuncData
  F_check_headers : Fun K "check_headers" "check_headers" s_check_headers a_check_headers d_check_headers
  b_check_headers : Binds K d_check_headers pl_check_headers []
  g_check_headers : mg "check_headers" = some (.ref a_check_headers)
  a_parity : Addr
  d_parity : FuncData
  F_parity : Fun K "parity" "parity" s_parity a_parity d_parity
  b_parity : Binds K d_parity pl_parity []
  g_parity : mg "parity" = some (.ref a_parity)
  a_join : Addr
  d_join : FuncData
  F_join : Fun K "join" "join" s_join a_join d_join
  b_join : Binds K d_join pl_join []
  c_join : Addr
  P_join : Addr
  FC_join : Z.FunC K "join" "join" s_join a_join d_join c_join
  g_join : mg "join" = some (.ref a_join)
  a__law_draw : Addr
  d__law_draw : FuncData
  F__law_draw : Fun K "_law_draw" "_law_draw" s__law_draw a__law_draw d__law_draw
  b__law_draw : Binds K d__law_draw pl__law_draw []
  g__law_draw : mg "_law_draw" = some (.ref a__law_draw)
  a__law_is_integer : Addr
  d__law_is_integer : FuncData
  F__law_is_integer : Fun K "_law_is_integer" "_law_is_integer" s__law_is_integer a__law_is_integer d__law_is_integer
  b__law_is_integer : Binds K d__law_is_integer pl__law_is_integer []
  g__law_is_integer : mg "_law_is_integer" = some (.ref a__law_is_integer)
  a__law_same : Addr
  d__law_same : FuncData
  F__law_same : Fun K "_law_same" "_law_same" s__law_same a__law_same d__law_same
  b__law_same : Binds K d__law_same pl__law_same []
  g__law_same : mg "_law_same" = some (.ref a__law_same)
  a__law_cell : Addr
  d__law_cell : FuncData
  F__law_cell : Fun K "_law_cell" "_law_cell" s__law_cell a__law_cell d__law_cell
  b__law_cell : Binds K d__law_cell pl__law_cell []
  g__law_cell : mg "_law_cell" = some (.ref a__law_cell)
  a__law_changed : Addr
  d__law_changed : FuncData
  F__law_changed : Fun K "_law_changed" "_law_changed" s__law_changed a__law_changed d__law_changed
  b__law_changed : Binds K d__law_changed pl__law_changed []
  g__law_changed : mg "_law_changed" = some (.ref a__law_changed)
  a__law_due : Addr
  d__law_due : FuncData
  F__law_due : Fun K "_law_due" "_law_due" s__law_due a__law_due d__law_due
  b__law_due : Binds K d__law_due pl__law_due []
  g__law_due : mg "_law_due" = some (.ref a__law_due)
  a__law_pairs : Addr
  d__law_pairs : FuncData
  F__law_pairs : Fun K "_law_pairs" "_law_pairs" s__law_pairs a__law_pairs d__law_pairs
  b__law_pairs : Binds K d__law_pairs pl__law_pairs []
  g__law_pairs : mg "_law_pairs" = some (.ref a__law_pairs)
  a_law : Addr
  d_law : FuncData
  F_law : Fun K "law" "law" s_law a_law d_law
  b_law : Binds K d_law pl_law []
  g_law : mg "law" = some (.ref a_law)
  a_DotfieldError : Addr
  g_DotfieldError : mg "DotfieldError" = some (.ref a_DotfieldError)
  a_InvalidFormat : Addr
  g_InvalidFormat : mg "InvalidFormat" = some (.ref a_InvalidFormat)
  a_InvalidSequence : Addr
  g_InvalidSequence : mg "InvalidSequence" = some (.ref a_InvalidSequence)
  ox_InvalidSequence : OexC K a_InvalidSequence
  ec_InvalidSequence : Z.EcC K a_InvalidSequence
  nm_InvalidSequence : Z.NmC K a_InvalidSequence "InvalidSequence"
  xf_InvalidSequence : XfC K a_InvalidSequence
  ic_InvalidSequence : PySem.W.findIn K (.ref a_InvalidSequence) "__init__" = some (some (.ref a_DotfieldError___init__))
  no_InvalidSequence_place : PySem.W.findIn K (.ref a_InvalidSequence) "place" = some none
  no_InvalidSequence_name : PySem.W.findIn K (.ref a_InvalidSequence) "name" = some none
  ex_InvalidSequence_DotfieldError : PySem.W.exmOne K (.ref a_InvalidSequence) (.ref a_DotfieldError) = some true
  ki_InvalidSequence_InvalidSequence : PySem.W.kitOne K (.ref a_InvalidSequence) (.ref a_InvalidSequence) = some true
  ki_InvalidSequence_InvalidFormat : PySem.W.kitOne K (.ref a_InvalidSequence) (.ref a_InvalidFormat) = some false
  ki_InvalidSequence_ValueError : PySem.W.kitOne K (.ref a_InvalidSequence) (.type "ValueError") = some true
  it_DotfieldError___init__ : PySem.W.typeIn K (.ref a_DotfieldError___init__) = some (.type "function")
  n_enumerate : mg "enumerate" = none
  n_sorted : mg "sorted" = none
  n_pair : mg "pair" = none
  n_len : mg "len" = none
  n_range : mg "range" = none
  n_int : mg "int" = none
  n_isinstance : mg "isinstance" = none
  n_bool : mg "bool" = none
  n_list : mg "list" = none
  n_ValueError : mg "ValueError" = none
section
variable {P : Program} {w : World} {K : PySem.W.Frag} {mg : Str → Option Value} {base : Heap}
def sp_DotfieldError___init__ (K : PySem.W.Frag) : Sp := fun vs H Q _ => ∃ (a C : Addr) (n : Int), vs = [.ref a, .int n] ∧ ∃ (nm : Str), H a = some (exo a C none) ∧ OexC K C ∧ Z.EcC K C ∧ Z.NmC K C nm ∧ PySem.W.findIn K (.ref C) "place" = some none ∧ PySem.W.findIn K (.ref C) "name" = some none ∧ ∀ d H1, H d = none → d ≠ a → H1 a = some (exo a C (some d)) → H1 d = some (exd d [("name", .str nm), ("place", .int n)]) → (∀ b, b ≠ a → b ≠ d → H1 b = H b) → Q .non H1
set_option maxHeartbeats 2000000 in
theorem ok_DotfieldError___init__ (T : Top K mg) : FnOk P w K mg base CX0 1 T.a_DotfieldError___init__ T.d_DotfieldError___init__ pl_DotfieldError___init__ (sp_DotfieldError___init__ K) := by
  refine T.F_DotfieldError___init__.ok sc_DotfieldError___init__ (fun vs H Q E h => ?_) (fun cdv A outer s H vs Q E hr h => ?_)
  · obtain ⟨a, C, n, rfl, _⟩ := h
    rfl
  · obtain ⟨a, C, n, rfl, nm, hH, ho, he, hn, hp, hnm, q⟩ := h
    have hu := hu_of hr
    refine ⟨_, (pss_cons (ps_ost (pv 0) (pv 1))
      (pss_one (ps_ost (pv 0) (Z.pe_cnm (pv 0))))), ?_⟩
    show (_ : L2.TS) _ [some _, some _] H
    try simp only [Z.kx]
    wtm_at "r"
    refine ⟨_, rfl, _, rfl, a, C, rfl, ho, hp, .inl ⟨hH, fun d hd hda => ?_⟩⟩
    have ha : (upd (upd H d (exd d [(("place" : Str), V.int n)])) a (exo a C (some d))) a = some (exo a C (some d)) := L2.upd_same
    have hd1 : (upd (upd H d (exd d [(("place" : Str), V.int n)])) a (exo a C (some d))) d = some (exd d [(("place" : Str), V.int n)]) := (upd_ne hda).trans L2.upd_same
    refine ⟨_, rfl, a, C, d, _, nm, rfl, he, hn, ha, hd1, ?_⟩
    refine ⟨_, rfl, a, C, rfl, ho, hnm, .inr ⟨d, _, ha, hd1, by show 1 ≤ 900; decide, ?_⟩⟩
    refine q d _ hd hda ((upd_ne hda.symm).trans ha) L2.upd_same (fun b hb hb2 => ?_)
    rw [upd_ne hb2, upd_ne hb, upd_ne hb2]
def sp_check_headers {K : PySem.W.Frag} {mg : Str → Option Value} (T : Top K mg) : Sp := fun vs H Q E => ∃ (p : Addr) (n : Nat) (hv : Nat → V) (hs : Nat → Hd), vs = [.ref p] ∧ H p = some (.lst (Z.rl n hv)) ∧ n ≤ 1000 ∧ (∀ k, k < n → HdV H (hv k) (hs k)) ∧ (fbad n hs = none → ∀ H1, Same H H1 → Q .non H1) ∧ (∀ k, fbad n hs = some k → ∀ d H1, Same H H1 → H1 d = none → E (.ref T.a_InvalidSequence) (some d) (upd H1 d (.xd [("name", .str "InvalidSequence"), ("place", .int (k : Nat))])))
set_option maxHeartbeats 2000000 in
theorem ok_check_headers (T : Top K mg) : FnOk P w K mg base (L2.CX P w) 3 T.a_check_headers T.d_check_headers pl_check_headers (sp_check_headers T) := by
  refine T.F_check_headers.okX sc_check_headers (fun vs H Q E h => ?_) (fun cdv A outer s H vs Q E hr h => ?_)
  · obtain ⟨p, n, hv, hs, rfl, _⟩ := h
    rfl
  · obtain ⟨p, n, hv, hs, rfl, hp, hn, hh, q, qe⟩ := h
    have hu := hu_of hr
    refine ⟨_, (pss_cons (ps_set (i := 1) sc_check_headers.nd rfl (Or.inl rfl) (pe_lst pa_nil))
      (pss_one (ps_for (passes_of rfl) rfl (pi_enum (by rfl) T.n_enumerate (pa_cons (pv 0) pa_nil)) (pg_tup rfl (pgs_cons (pg_name (i := 2) sc_check_headers.nd rfl (Or.inl rfl)) (pgs_cons (pg_name (i := 3) sc_check_headers.nd rfl (Or.inl rfl)) pgs_nil))) (pss_cons (ps_if (PW.pt (pw_or (pt_cmpR Z.op_isN (pv 3) pe_non (nomark _)) (pw_or (pt_cmpR (op_neD (hr.units)) (pe_slice (show SlR _ (rSlT K) from sl_tup) (pv 3) (po_some pe_int) po_none) (pe_slice (show SlR _ (rSlT K) from sl_tup) (pe_ix (show IxR _ (rIxL K) from ix_list) (pv 0) pe_int (fun _ _ => rfl)) (po_some pe_int) po_none) (nomark _)) (pw_or1 (pt_cmpR (show OpR _ _ (rIn K false) from op_in_seq) (pe_ix (show IxR _ (rIxT K) from ix_tup) (pv 3) pe_int (fun _ _ => rfl)) (pv 1) (by with_unfolding_all rfl)))))) (pss_one (ps_raise rfl (takes_of rfl rfl rfl rfl) (pmk_oex T.ox_InvalidSequence T.ic_InvalidSequence T.it_DotfieldError___init__ (ok_DotfieldError___init__ T) (hr.mono (by decide)) T.b_DotfieldError___init__ .nil pass0 (by rfl) T.g_InvalidSequence (pa_cons (pv 2) pa_nil)))) pss_nil)
      (pss_one (ps_expr (pe_bm PySem.F.plainAttrs_list PySem.F.slot_list_append PySem.F.type_list_append mt_append (pv 1) (pa_cons (pe_ix (show IxR _ (rIxT K) from ix_tup) (pv 3) pe_int (fun _ _ => rfl)) pa_nil)))))))), ?_⟩
    show (_ : L2.TS) _ [some _, none, none, none] H
    try simp only [Z.kx]
    wtm_at "r"
    refine ⟨by decide, fun b nb => ?_⟩
    wtm_at "r"
    have hsq : SqL K H p (Z.rl n hv) := Z.sq_l hp
    refine Z.enum_go (Z.s_sq (Z.s_upd nb) hsq) (fun i σ H2 => ∃ (x2 x3 : Option V), σ = [some (.ref p), some (.ref b), x2, x3] ∧ Same H H2 ∧ H2 b = some (.lst ((Z.rl i fun j => hIx (hs j)).map V.int)) ∧ ∀ j, j < i → badK hs j = false) ⟨none, none, rfl, Z.s_upd nb, L2.upd_same, fun j hj => absurd hj (Nat.not_lt_zero j)⟩ ?_ ?_ ?_
    · rintro i σ H2 _ ⟨x2, x3, rfl, s2, _⟩
      exact Z.s_sq s2 hsq
    · rintro i x σ H2 t ex ⟨x2, x3, rfl, s2, hb, ok⟩ nt
      have hi : i < n := by
        have := (List.getElem?_eq_some_iff.mp ex).1
        rwa [Z.rl_len] at this
      rw [Z.rl_at _ hi] at ex
      cases ex
      have s3 : Same H2 (upd H2 t (.tup [.int (i : Nat), hv i])) := Z.s_upd nt
      refine Z.r_pair L2.upd_same (by wtm_at "set") ?_
      generalize upd H2 t (.tup [.int (i : Nat), hv i]) = H3 at s3 ⊢
      have s03 := s2.trans s3
      have hb3 := s3 _ _ hb
      have hsq3 := Z.s_sq s03 hsq
      have hd := hh i hi
      wtm_at "r"
      cases eh : hs i with
      | none =>
        rw [eh] at hd
        have hd' : hv i = .non := hd
        rw [hd']
        refine Z.r_isN ?_
        wtm_at "r"
        refine Z.i_dt rfl ?_
        wtm_at "r"
        try dsimp only
        refine Z.r_mkO ?_
        wtm_at "r"
        refine ⟨by show 1 ≤ 1000; decide, fun e he => ?_⟩
        refine ⟨e, T.a_InvalidSequence, _, rfl, "InvalidSequence", L2.upd_same, T.ox_InvalidSequence, T.ec_InvalidSequence, T.nm_InvalidSequence, T.no_InvalidSequence_place, T.no_InvalidSequence_name, fun d H9 hd hde g1 g2 g3 => ⟨rfl, d, _, g1, g2, (L2.upd_ne hde).symm.trans hd, ?_⟩⟩
        rw [Z.made_eq he g3]
        have hdn := (L2.upd_ne hde).symm.trans hd
        exact qe i (fbad_some hi (badK_none eh) ok) d H3 s03 hdn
      | some tr =>
      obtain ⟨ix, c, w⟩ := tr
      rw [eh] at hd
      obtain ⟨a, ea, ha⟩ := hd
      rw [ea]
      refine Z.r_isN ?_
      wtm_at "r"
      refine Z.i_df (fun z => by cases z) ?_
      have ha3 := s03 _ _ ha
      obtain ⟨i0, c0, w0, a0, e0, ev0, h0⟩ : ∃ i0 c0 w0 a0, hs 0 = some (i0, c0, w0) ∧ hv 0 = .ref a0 ∧ H3 a0 = some (.tup [.int i0, .int c0, .int w0]) := by
        by_cases z : i = 0
        · subst z
          exact ⟨ix, c, w, a, eh, ea, ha3⟩
        · obtain ⟨i', c', w', i0, _, e0, _⟩ := badK_ok (ok 0 (by omega))
          have hd0 := hh 0 (by omega)
          rw [e0] at hd0
          obtain ⟨a0, ea0, ha0⟩ := hd0
          exact ⟨i0, c', w', a0, e0, ea0, s03 _ _ ha0⟩
      wtm_at "r"
      refine ⟨a, _, rfl, Z.sq_t ha3, (by show ¬ (HT.sIx 3 0 (some 1) = 0 ∧ HT.sIx 3 3 none = 3); decide), fun t1 n1 => ?_⟩
      have s4 : Same H3 (upd H3 t1 (.tup [.int c, .int w])) := Z.s_upd n1
      have h4 : (upd H3 t1 (.tup [.int c, .int w])) t1 = some (.tup [.int c, .int w]) := L2.upd_same
      show tSl (rSlT K) _ _ _ _ (upd H3 t1 (.tup [.int c, .int w])) _
      generalize upd H3 t1 (.tup [.int c, .int w]) = H4 at s4 h4 ⊢
      have hsq4 := Z.s_sq s4 hsq3
      wtm_at "r"
      refine Z.r_ixL hsq4 (show atI _ ((0 : Nat) : Int) = some (hv 0) from atI_nat (Z.rl_at _ (by omega))) ?_
      rw [ev0]
      wtm_at "r"
      refine ⟨a0, _, rfl, Z.sq_t (s4 _ _ h0), (by show ¬ (HT.sIx 3 0 (some 1) = 0 ∧ HT.sIx 3 3 none = 3); decide), fun t2 n2 => ?_⟩
      have s5 : Same H4 (upd H4 t2 (.tup [.int c0, .int w0])) := Z.s_upd n2
      have h5 : (upd H4 t2 (.tup [.int c0, .int w0])) t2 = some (.tup [.int c0, .int w0]) := L2.upd_same
      show rNeD K _ _ (upd H4 t2 (.tup [.int c0, .int w0])) _
      have h45 := s5 _ _ h4
      generalize upd H4 t2 (.tup [.int c0, .int w0]) = H5 at s5 h5 h45 ⊢
      refine r_neI2 h45 h5 ?_
      have s05 := s03.trans (s4.trans s5)
      have ebk := badK_two eh e0
      by_cases hc : c = c0 ∧ w = w0
      · rw [decide_eq_true hc]
        rw [show decide (¬ (c = c0 ∧ w = w0)) = false from decide_eq_false (fun z => z hc), Bool.false_or] at ebk
        wtm_at "r"
        refine Z.r_ixT (Z.sq_t ((s4.trans s5) _ _ ha3)) (v := .int ix) rfl ?_
        wtm_at "r"
        refine Z.r_inI (Z.sq_l ((s4.trans s5) _ _ hb3)) ?_
        wtm_at "r"
        with_reducible refine Z.i_2 (fun hm => ?_) (fun hm => ?_)
        · wtm_at "r"
          try dsimp only
          refine Z.r_mkO ?_
          wtm_at "r"
          refine ⟨by show 1 ≤ 1000; decide, fun e he => ?_⟩
          refine ⟨e, T.a_InvalidSequence, _, rfl, "InvalidSequence", L2.upd_same, T.ox_InvalidSequence, T.ec_InvalidSequence, T.nm_InvalidSequence, T.no_InvalidSequence_place, T.no_InvalidSequence_name, fun d H9 hd hde g1 g2 g3 => ⟨rfl, d, _, g1, g2, (L2.upd_ne hde).symm.trans hd, ?_⟩⟩
          rw [Z.made_eq he g3]
          have hdn := (L2.upd_ne hde).symm.trans hd
          exact qe i (fbad_some hi (ebk.trans (decide_eq_true hm)) ok) d H5 s05 hdn
        · have hb5 := (s4.trans s5) _ _ hb3
          have ha5 := (s4.trans s5) _ _ ha3
          wtm_at "r"
          refine Z.r_ixT (Z.sq_t ha5) (v := .int ix) rfl ?_
          wtm_at "r"
          refine Z.r_append hb5 (Z.szl (by rw [List.length_map, Z.rl_len]; omega)) ?_
          wtm_at "r"
          refine ⟨_, _, rfl, Z.s_mut s05 nb, ?_, fun j hj => ?_⟩
          · rw [L2.upd_same]
            refine congrArg (fun l => some (HO.lst l)) ?_
            unfold Z.rl
            rw [List.range_succ, List.map_append, List.map_append]
            show _ ++ [V.int ix] = _ ++ [V.int (hIx (hs i))]
            rw [eh]
            rfl
          · by_cases z : j < i
            · exact ok j z
            · obtain rfl : j = i := by omega
              exact ebk.trans (decide_eq_false hm)
      · rw [decide_eq_false hc]
        rw [show decide (¬ (c = c0 ∧ w = w0)) = true from decide_eq_true hc, Bool.true_or] at ebk
        wtm_at "r"
        try dsimp only
        refine Z.r_mkO ?_
        wtm_at "r"
        refine ⟨by show 1 ≤ 1000; decide, fun e he => ?_⟩
        refine ⟨e, T.a_InvalidSequence, _, rfl, "InvalidSequence", L2.upd_same, T.ox_InvalidSequence, T.ec_InvalidSequence, T.nm_InvalidSequence, T.no_InvalidSequence_place, T.no_InvalidSequence_name, fun d H9 hd hde g1 g2 g3 => ⟨rfl, d, _, g1, g2, (L2.upd_ne hde).symm.trans hd, ?_⟩⟩
        rw [Z.made_eq he g3]
        have hdn := (L2.upd_ne hde).symm.trans hd
        exact qe i (fbad_some hi ebk ok) d H5 s05 hdn
    · rintro σ H2 ⟨x2, x3, rfl, s2, hb, ok⟩
      rw [Z.rl_len] at ok
      exact q (fbad_none ok) H2 s2
def sp_parity (K : PySem.W.Frag) : Sp := fun vs H Q _ => ∃ (a : Addr) (ns : List Int), vs = [.ref a] ∧ SqL K H a (ns.map V.int) ∧ ∀ H1, Same H H1 → Q (.int (parI ns)) H1
set_option maxHeartbeats 2000000 in
theorem ok_parity (T : Top K mg) : FnOk P w K mg base CX0 1 T.a_parity T.d_parity pl_parity (sp_parity K) := by
  refine T.F_parity.ok sc_parity (fun vs H Q E h => ?_) (fun cdv A outer s H vs Q E hr h => ?_)
  · obtain ⟨a, ns, rfl, _⟩ := h
    rfl
  · obtain ⟨a, ns, rfl, ha, q⟩ := h
    have hu := hu_of hr
    refine ⟨_, (pss_cons (ps_set (i := 1) sc_parity.nd rfl (Or.inl rfl) pe_int)
      (pss_cons (ps_for PassesOwn.never rfl (pi_list (pv 0)) (pg_name (i := 2) sc_parity.nd rfl (Or.inl rfl)) (pss_one (ps_set (i := 1) sc_parity.nd rfl (Or.inl rfl) (pe_op op_xor (pv 1) (pv 2)))))
      (pss_one (ps_ret (pv 1))))), ?_⟩
    show (_ : L2.TS) _ [some _, none, none] H
    try simp only [Z.kx]
    wtm_at "r"
    refine Z.lst_go ha (fun i σ H2 => ∃ x2 : Option V, σ = [some (.ref a), some (.int (parI (ns.take i))), x2] ∧ Same H H2) ⟨none, rfl, Same.refl _⟩ ?_ ?_ ?_
    · rintro i σ H2 _ ⟨x2, rfl, s2⟩
      exact Z.s_sq s2 ha
    · rintro i x σ H2 ex ⟨x2, rfl, s2⟩
      obtain ⟨z, ez, rfl⟩ := Z.get_map ex
      wtm_at "r"
      refine ⟨some (.int z), ?_, s2⟩
      rw [List.take_add_one, ez]
      unfold parI
      rw [List.foldl_append]
      rfl
    · rintro σ H2 ⟨x2, rfl, s2⟩
      wtm_at "r"
      rw [List.length_map, List.take_length]
      exact q H2 s2
end
/-- the pairs as they stand: ps their tuples, hv their headers, bl their parts -/
structure Prs (H : Hp) (p : Addr) (n : Nat) (ps : Nat → Addr) (hv : Nat → V) (bl : Nat → Addr) (hs : Nat → Hd) (bs : Nat → List Int) : Prop where
  l : H p = some (.lst (Z.rl n fun k => V.ref (ps k)))
  t : ∀ k, k < n → H (ps k) = some (.tup [hv k, .ref (bl k)])
  h : ∀ k, k < n → HdV H (hv k) (hs k)
  b : ∀ k, k < n → H (bl k) = some (.lst ((bs k).map V.int))
def odL (n : Nat) (hs : Nat → Hd) : List Nat := (List.range n).mergeSort fun i j => decide (hIx (hs i) ≤ hIx (hs j))
def jnO (n : Nat) (hs : Nat → Hd) (bs : Nat → List Int) : Except Nat (List Int) := match fbad n hs with
  | some k => .error k
  | none => match (if n = 0 then none else hs 0) with
    | none => .error 0
    | some (_, c, w) => if (n : Int) ≠ c ∨ parI ((odL n hs).flatMap bs) ≠ w then .error n else .ok ((odL n hs).flatMap bs)
def kfV (n : Nat) (ps : Nat → Addr) (hs : Nat → Hd) : V → Int
  | .ref a => match (List.range n).find? fun k => decide (ps k = a) with
    | some k => hIx (hs k)
    | none => 0
  | _ => 0
theorem hd_same {H : Hp} {v : V} {a b : Hd} (h1 : HdV H v a) (h2 : HdV H v b) : a = b := by
  cases a with
  | none =>
    cases b with
    | none => rfl
    | some y => obtain ⟨i, c, w⟩ := y; obtain ⟨q, e, _⟩ := h2; rw [show v = .non from h1] at e; cases e
  | some x =>
    obtain ⟨i, c, w⟩ := x
    obtain ⟨q, e, h⟩ := h1
    cases b with
    | none => rw [show v = .non from h2] at e; cases e
    | some y =>
      obtain ⟨i', c', w'⟩ := y
      obtain ⟨q', e', h'⟩ := h2
      rw [e] at e'
      cases e'
      rw [h] at h'
      cases h'
      rfl
theorem Prs.kf {H : Hp} {p : Addr} {n : Nat} {ps : Nat → Addr} {hv : Nat → V} {bl : Nat → Addr} {hs : Nat → Hd} {bs : Nat → List Int} (h : Prs H p n ps hv bl hs bs) {k : Nat} (hk : k < n) : kfV n ps hs (.ref (ps k)) = hIx (hs k) := by
  unfold kfV
  cases e : (List.range n).find? fun j => decide (ps j = ps k) with
  | none =>
    rw [List.find?_eq_none] at e
    exact absurd (decide_eq_true rfl) (e k (List.mem_range.mpr hk))
  | some j =>
    have e1 : ps j = ps k := of_decide_eq_true (List.find?_some (p := fun j => decide (ps j = ps k)) e)
    have e2 := List.mem_range.mp (List.mem_of_find?_eq_some e)
    have t1 := h.t j e2
    rw [e1, h.t k hk] at t1
    have t2 := HO.tup.inj (Option.some.inj t1)
    injection t2 with e3 _
    show (match (List.range n).find? fun j => decide (ps j = ps k) with | some k => hIx (hs k) | none => 0) = _
    rw [e]
    show hIx (hs j) = hIx (hs k)
    rw [hd_same (h.h j e2) (by rw [← e3]; exact h.h k hk)]
theorem Prs.od {H : Hp} {p : Addr} {n : Nat} {ps : Nat → Addr} {hv : Nat → V} {bl : Nat → Addr} {hs : Nat → Hd} {bs : Nat → List Int} (h : Prs H p n ps hv bl hs bs) : (Z.rl n fun k => V.ref (ps k)).mergeSort (fun x y => decide (kfV n ps hs x ≤ kfV n ps hs y)) = (odL n hs).map fun k => V.ref (ps k) := by
  unfold odL Z.rl
  refine (List.map_mergeSort fun a ha b hb => ?_).symm
  rw [h.kf (List.mem_range.mp ha), h.kf (List.mem_range.mp hb)]
theorem od_mem {n k : Nat} {hs : Nat → Hd} (h : k ∈ odL n hs) : k < n := by
  unfold odL at h
  rw [List.mem_mergeSort] at h
  exact List.mem_range.mp h
theorem od_len (n : Nat) (hs : Nat → Hd) : (odL n hs).length = n := by
  unfold odL
  rw [List.length_mergeSort, List.length_range]
theorem flat_le {α : Type} {g : α → List Int} {m : Nat} : ∀ {l : List α}, (∀ x, x ∈ l → (g x).length ≤ m) → (l.flatMap g).length ≤ l.length * m
  | [], _ => by simp
  | a :: r, h => by
    have h1 := h a (List.mem_cons_self ..)
    have h2 := flat_le (l := r) fun x hx => h x (List.mem_cons_of_mem _ hx)
    rw [List.flatMap_cons, List.length_append, List.length_cons, Nat.succ_mul]
    omega
theorem flat_od (l : List Nat) (bs : Nat → List Int) : ((List.range l.length).flatMap fun i => ((List.range (bs (l.getD i 0)).length).filter fun _ => true).map fun j => PyData.int ((bs (l.getD i 0)).getD j 0)) = (l.flatMap bs).map PyData.int := by
  have e1 : ∀ k : List Int, ((List.range k.length).filter fun _ => true).map (fun j => PyData.int (k.getD j 0)) = k.map PyData.int := fun k => by
    rw [show (List.range k.length).filter (fun _ => true) = List.range k.length by simp]
    exact Z.map_idx k 0 _
  simp only [e1]
  rw [List.map_flatMap]
  have e : l = (List.range l.length).map fun i => l.getD i 0 := by rw [Z.map_idx l 0 (fun x => x)]; simp
  conv => rhs; rw [e, List.flatMap_map]
theorem Prs.same {H H' : Hp} {p : Addr} {n : Nat} {ps : Nat → Addr} {hv : Nat → V} {bl : Nat → Addr} {hs : Nat → Hd} {bs : Nat → List Int} (h : Prs H p n ps hv bl hs bs) (s : LamX.ExtN H H') : Prs H' p n ps hv bl hs bs := by
  refine ⟨s _ _ h.l (fun ps z => by cases z), fun k hk => s _ _ (h.t k hk) (fun ps z => by cases z), fun k hk => ?_, fun k hk => s _ _ (h.b k hk) (fun ps z => by cases z)⟩
  have hd := h.h k hk
  cases e : hs k with
  | none => rw [e] at hd; exact hd
  | some x =>
    obtain ⟨i, c, w⟩ := x
    rw [e] at hd
    obtain ⟨a, ea, ha⟩ := hd
    exact ⟨a, ea, s _ _ ha (fun ps z => by cases z)⟩
section
variable {P : Program} {w : World} {K : PySem.W.Frag} {mg : Str → Option Value} {base : Heap}
def sp_join {K : PySem.W.Frag} {mg : Str → Option Value} (T : Top K mg) : Sp := fun vs H Q E => ∃ (p : Addr) (n : Nat) (ps : Nat → Addr) (hv : Nat → V) (bl : Nat → Addr) (hs : Nat → Hd) (bs : Nat → List Int), vs = [.ref p] ∧ Prs H p n ps hv bl hs bs ∧ n ≤ 20 ∧ (∀ k, k < n → (bs k).length ≤ 1000) ∧ LamX.Tabs (lamT T.P_join) H ∧ (∀ t x H1, jnO n hs bs = .ok t → LamX.ExtN H H1 → LamX.Tabs (lamT T.P_join) H1 → (∀ a o, H a = some o → (∀ ps, o ≠ .tbl ps) → a ≠ x) → H1 x = some (.lst (t.map V.int)) → Q (.ref x) H1) ∧ (∀ k, jnO n hs bs = .error k → ∀ d H1, LamX.ExtN H H1 → LamX.Tabs (lamT T.P_join) H1 → H1 d = none → E (.ref T.a_InvalidSequence) (some d) (upd H1 d (.xd [("name", .str "InvalidSequence"), ("place", .int (k : Nat))])))
set_option maxHeartbeats 2000000 in
theorem ok_join (T : Top K mg) (TB : LamX.TabB base mg T.c_join T.P_join) : FnOk P w K mg base (L2.CX P w) 4 T.a_join T.d_join pl_join (sp_join T) := by
  refine T.FC_join.okC sc_join (fun vs H Q E h => ?_) (fun A outer s H vs Q E hr h => ?_)
  · obtain ⟨p, n, ps, hv, bl, hs, bs, rfl, _⟩ := h
    rfl
  · obtain ⟨p, n, ps, hv, bl, hs, bs, rfl, hP, hn, hb, hT, q, qe⟩ := h
    have hu := hu_of hr
    refine ⟨_, (pss_cons (ps_expr (pe_callS (ok_check_headers T) (hr.mono (by decide)) (by rfl) T.g_check_headers T.F_check_headers.kp T.b_check_headers (fun σ => passAt (takes_of rfl rfl rfl rfl) σ) (pa_cons (pe_lc (own := [("header", 1), ("_", 2)]) (tt := tYes) rfl sc_join.nd (pi_list (pv 0)) (blkOk_by (N := sl_join) (sc := defScope s_join) (by decide +kernel)) (fun _ _ _ _ _ => (show PG _ _ (gTup K 2 _) from pg_tup rfl (pgs_cons (pg_name (i := 1) sc_join.nd rfl (Or.inl rfl)) (pgs_cons (pg_name (i := 2) sc_join.nd rfl (Or.inl rfl)) pgs_nil)))) (fun _ _ _ _ _ => pts_nil) (fun _ _ _ _ _ => (pv 1))) pa_nil)))
      (pss_cons (ps_if (pt_not (show PT _ _ (Z.tTru K _) from pt_truth (pv 0) (fun _ => rfl))) (pss_one (ps_raise rfl (takes_of rfl rfl rfl rfl) (pmk_oex T.ox_InvalidSequence T.ic_InvalidSequence T.it_DotfieldError___init__ (ok_DotfieldError___init__ T) (hr.mono (by decide)) T.b_DotfieldError___init__ .nil pass0 (by rfl) T.g_InvalidSequence (pa_cons pe_int pa_nil)))) pss_nil)
      (pss_cons (ps_asg (pe_ix (show IxR _ (rIxT K) from ix_tup) (pe_ix (show IxR _ (rIxL K) from ix_list) (pv 0) pe_int (fun _ _ => rfl)) pe_int (fun _ _ => rfl)) (pg_tup rfl (pgs_cons (pg_name (i := 2) sc_join.nd rfl (Or.inl rfl)) (pgs_cons (pg_name (i := 3) sc_join.nd rfl (Or.inl rfl)) (pgs_cons (pg_name (i := 4) sc_join.nd rfl (Or.inl rfl)) pgs_nil)))))
      (pss_cons (ps_set (i := 5) sc_join.nd rfl (Or.inl rfl) (Z.pe_sortK (T := lamT T.P_join) (k := 0) (by rfl) T.n_sorted TB rfl (List.mem_singleton.mpr rfl) (fun q hq _ => by rw [List.mem_singleton.mp hq]; rfl) rfl rfl rfl ⟨rfl, rfl, rfl, by decide +kernel, rfl, by decide +kernel, by decide +kernel⟩ (hr.mono (by decide)) rfl (by decide +kernel) (by decide +kernel) rfl (fun _ _ _ _ => rfl) (pa_cons (pv 0) pa_nil)))
      (pss_cons (ps_setLc2 (i := 6) (own := [("_", 2), ("part", 7), ("byte", 8)]) (vs1 := [8]) (tt := tYes) (tt1 := tYes) rfl sc_join.nd rfl rfl (sw_true rfl rfl rfl (by decide +kernel)) (pi_list (pv 5)) (blkOk_by (N := sl_join) (sc := defScope s_join) (by decide +kernel)) (by decide) (fun _ _ _ _ _ => (show PG _ _ (gTup K 2 _) from pg_tup rfl (pgs_cons (pg_name (i := 2) sc_join.nd rfl (Or.inl rfl)) (pgs_cons (pg_name (i := 7) sc_join.nd rfl (Or.inl rfl)) pgs_nil)))) (fun _ _ _ _ _ => pts_nil) (fun _ _ _ _ _ => (show PI _ _ _ (iList K _) from (pi_list (pv 7)))) (fun _ _ _ _ _ => (pg_name (i := 8) sc_join.nd rfl (Or.inl rfl))) (fun _ _ _ _ _ => pts_nil) (fun _ _ _ _ _ => (pv 8)))
      (pss_cons (ps_if (PW.pt (pw_or (pt_cmpR op_ne (pe_callB (show CallR _ _ (Z.cLen K) from Z.call_len) (by rfl) T.n_len (by decide +kernel) (pa_cons (pv 0) pa_nil)) (pv 3) (nomark _)) (pw_or1 (pt_cmpR op_ne (pe_call (ok_parity T) (hr.mono (by decide)) (by rfl) T.g_parity T.F_parity.kp T.b_parity .nil pass0 (pa_cons (pv 6) pa_nil)) (pv 4) (nomark _))))) (pss_one (ps_raise rfl (takes_of rfl rfl rfl rfl) (pmk_oex T.ox_InvalidSequence T.ic_InvalidSequence T.it_DotfieldError___init__ (ok_DotfieldError___init__ T) (hr.mono (by decide)) T.b_DotfieldError___init__ .nil pass0 (by rfl) T.g_InvalidSequence (pa_cons (pe_callB (show CallR _ _ (Z.cLen K) from Z.call_len) (by rfl) T.n_len (by decide +kernel) (pa_cons (pv 0) pa_nil)) pa_nil)))) pss_nil)
      (pss_one (ps_ret (pv 6))))))))), ?_⟩
    show (_ : L2.TS) _ [some _, none, none, none, none, none, none, none, none] H
    try simp only [Z.kx]
    have hsq : SqL K H p (Z.rl n fun k => V.ref (ps k)) := Z.sq_l hP.l
    wtm_at "r"
    refine Z.lcl_pureP hv hv (fun k => .ref (bl k)) hsq (by rw [Z.rl_len]; omega) (fun _ _ => rfl) ?_ ?_ ?_
    · intro i x ex
      have hi : i < n := by
        have := (List.getElem?_eq_some_iff.mp ex).1
        rwa [Z.rl_len] at this
      rw [Z.rl_at _ hi] at ex
      cases ex
      exact ⟨_, rfl, Z.sq_t (hP.t i hi)⟩
    · intro i H2 hi s2 k kk
      wtm_at "w"
      wtm_at "r"
      exact kk _ (Same.refl _)
    intro D H1 hD s1 hl
    rw [Z.rl_len] at hl
    have P1 := hP.same (LamX.ExtN.of s1)
    have T1 := hT.ext s1
    wtm_at "r"
    refine ⟨D, n, hv, hs, rfl, hl, by omega, P1.h, fun eb H2 s2 => ?_, fun k eb d H2 s2 hd => ?_⟩
    rotate_left
    · exact qe k (by unfold jnO; rw [eb]) d H2 (LamX.ExtN.of (s1.trans s2)) (T1.ext s2) hd
    have P2 := P1.same (LamX.ExtN.of s2)
    have T2 := T1.ext s2
    have s02 := s1.trans s2
    clear P1 T1 s1 s2 hl hD hT
    have hsq2 : SqL K H2 p (Z.rl n fun k => V.ref (ps k)) := Z.sq_l P2.l
    wtm_at "r"
    refine ⟨!(Z.rl n fun k => V.ref (ps k)).isEmpty, .inl ⟨_, hsq2, rfl⟩, ?_⟩
    by_cases h0 : n = 0
    · rw [h0]
      wtm_at "r"
      refine Z.i_t ?_
      wtm_at "r"
      try dsimp only
      refine Z.r_mkO ?_
      wtm_at "r"
      refine ⟨by show 1 ≤ 1000; decide, fun e he => ?_⟩
      refine ⟨e, T.a_InvalidSequence, _, rfl, "InvalidSequence", L2.upd_same, T.ox_InvalidSequence, T.ec_InvalidSequence, T.nm_InvalidSequence, T.no_InvalidSequence_place, T.no_InvalidSequence_name, fun d H9 hd hde g1 g2 g3 => ⟨rfl, d, _, g1, g2, (L2.upd_ne hde).symm.trans hd, ?_⟩⟩
      rw [Z.made_eq he g3]
      have hdn := (L2.upd_ne hde).symm.trans hd
      exact qe 0 (by unfold jnO; rw [eb]; dsimp only; rw [if_pos h0]) d H2 (LamX.ExtN.of s02) T2 hdn
    have e0 : (Z.rl n fun k => V.ref (ps k)).isEmpty = false := by
      obtain ⟨m, rfl⟩ : ∃ m, n = m + 1 := ⟨n - 1, by omega⟩
      unfold Z.rl
      rw [List.range_succ_eq_map]
      rfl
    rw [e0]
    refine Z.i_f ?_
    obtain ⟨i0, c, w, _, eh0, _, _⟩ := badK_ok (fbad_all eb 0 (by omega))
    have hd0 := P2.h 0 (by omega)
    rw [eh0] at hd0
    obtain ⟨a0, ea0, ha0⟩ := hd0
    have ht0 := P2.t 0 (by omega)
    rw [ea0] at ht0
    wtm_at "r"
    refine Z.r_ixL hsq2 (show atI _ ((0 : Nat) : Int) = some (V.ref (ps 0)) from atI_nat (Z.rl_at _ (by omega))) ?_
    wtm_at "r"
    refine Z.r_ixT (Z.sq_t ht0) (v := .ref a0) rfl ?_
    wtm_at "r"
    refine Z.r_thT (Z.sq_t ha0) (by wtm_at "set") ?_
    wtm_at "r"
    refine Z.r_sortK ?_
    wtm_at "r"
    refine ⟨p, _, kfV n ps hs, rfl, hsq2, T2, fun x hx => ?_, fun H3 ext T3 z nz => ?_⟩
    · obtain ⟨k, hk, rfl⟩ := List.mem_map.mp hx
      have hk := List.mem_range.mp hk
      obtain ⟨i', c', w', _, ehk, _, _⟩ := badK_ok (fbad_all eb k hk)
      have hd := P2.h k hk
      rw [ehk] at hd
      obtain ⟨a, ea, ha⟩ := hd
      have ht := P2.t k hk
      rw [ea] at ht
      refine ⟨ps k, a, [.ref (bl k)], [.int c', .int w'], rfl, Z.sq_t ht, ?_⟩
      rw [P2.kf hk, ehk]
      exact Z.sq_t ha
    rw [P2.od]
    have P3 := P2.same ext
    have s4 : Same H3 (upd H3 z (.lst ((odL n hs).map fun k => V.ref (ps k)))) := Z.s_upd nz
    have hz4 : (upd H3 z (.lst ((odL n hs).map fun k => V.ref (ps k)))) z = some (.lst ((odL n hs).map fun k => V.ref (ps k))) := L2.upd_same
    generalize upd H3 z (.lst ((odL n hs).map fun k => V.ref (ps k))) = H4 at s4 hz4 ⊢
    have P4 := P3.same (LamX.ExtN.of s4)
    have T4 := T3.ext s4
    have x04 : LamX.ExtN H H4 := (LamX.ExtN.of s02).trans (ext.trans (LamX.ExtN.of s4))
    clear P2 P3 T2 T3 s02 ext s4 nz hsq2 ht0 ha0
    have hlz : ((odL n hs).map fun k => V.ref (ps k)).length = (odL n hs).length := List.length_map _
    have hlen : ((odL n hs).flatMap bs).length ≤ 20 * 1000 := Nat.le_trans (flat_le fun k hk => hb k (od_mem hk)) (by rw [od_len]; exact Nat.mul_le_mul hn (Nat.le_refl _))
    wtm_at "r"
    refine ⟨z, rfl, ⟨_, Z.sq_l hz4⟩, ?_⟩
    refine Z.lc2_data walk_list (fun a => H4 a = none) (fun i => (bs ((odL n hs).getD i 0)).length) (fun _ _ => true) (fun i j => PyData.int ((bs ((odL n hs).getD i 0)).getD j 0)) ?_ (fun a h => h) (fun G ss => Z.sq_l (ss _ _ hz4)) Z.gm_pair ?_ ?_
    · rw [hlz]
      have := flat_od (odL n hs) bs
      rw [this, List.length_map]
      omega
    · intro i x H5 H5' D hi s5 hD5 hDn y KI ki
      obtain ⟨rfl, ex⟩ := y
      rw [hlz] at hi
      have ek : (odL n hs)[i]? = some ((odL n hs).getD i 0) := by rw [List.getD_eq_getElem?_getD, List.getElem?_eq_getElem hi]; rfl
      rw [List.getElem?_map, ek] at ex
      cases ex
      have hk : (odL n hs).getD i 0 < n := od_mem (List.mem_of_getElem? ek)
      obtain ⟨k, ekk⟩ : ∃ k, (odL n hs).getD i 0 = k := ⟨_, rfl⟩
      rw [ekk] at hk ⊢
      have hb5 := s5 _ _ (P4.b k hk)
      have nD : bl k ≠ D := fun z => by rw [z] at hb5; have := P4.b k hk; rw [z, hD5] at this; cases this
      refine Z.r_prT (Z.sq_t (s5 _ _ (P4.t k hk))) rfl ⟨rfl, ?_⟩
      wtm_at "w"
      wtm_at "r"
      refine ⟨bl k, rfl, ⟨_, Z.sq_l hb5⟩, ki _ _ _ (Same.refl _) ⟨fun G => SqL K G (bl k) ((bs k).map V.int), YAt ((bs k).map V.int), by show Walk _ (bs ((odL n hs).getD i 0)).length _ _; rw [ekk, ← List.length_map (f := V.int)]; exact walk_list, fun G kk => Z.sq_l (kk _ _ hb5 nD), fun j x H6 H6' hj k6 y KY KN ky kn => ?_⟩⟩
      obtain ⟨rfl, ex⟩ := y
      obtain ⟨zz, ez, rfl⟩ := Z.get_map ex
      refine ⟨rfl, ?_⟩
      wtm_at "w"
      refine Z.i_t (B := KN H6') ?_
      wtm_at "r"
      have e2 : (bs ((odL n hs).getD i 0)).getD j 0 = zz := by rw [ekk, List.getD_eq_getElem?_getD, ez]; rfl
      exact ky rfl _ _ (Same.refl _) (by show Z.Da _ _ _ (PyData.int ((bs ((odL n hs).getD i 0)).getD j 0)); rw [e2]; exact .int _)
    intro D2 H5 hD2 s5 ow
    rw [hlz, flat_od (odL n hs) bs] at ow
    obtain ⟨_, ys, hys, ly⟩ := ow
    obtain rfl := Z.dal_ints ly
    have P5 := P4.same (LamX.ExtN.of s5)
    have T5 := T4.ext s5
    have x05 := x04.trans (LamX.ExtN.of s5)
    have hsq5 : SqL K H5 p (Z.rl n fun k => V.ref (ps k)) := Z.sq_l P5.l
    have hyq : SqL K H5 D2 (((odL n hs).flatMap bs).map V.int) := Z.sq_l hys
    have fresh : ∀ a o, H a = some o → (∀ ps, o ≠ .tbl ps) → a ≠ D2 := fun a o e nt z => by
      rw [z] at e
      rw [x04 _ _ e nt] at hD2
      cases hD2
    have ej : jnO n hs bs = if (n : Int) ≠ c ∨ parI ((odL n hs).flatMap bs) ≠ w then .error n else .ok ((odL n hs).flatMap bs) := by
      unfold jnO
      rw [eb]
      dsimp only
      rw [if_neg h0, eh0]
    wtm_at "r"
    rw [Z.rl_len]
    with_reducible refine Z.i_2 (fun h1 => ?_) (fun h1 => ?_)
    · wtm_at "r"
      try dsimp only
      refine Z.r_mkO ?_
      wtm_at "r"
      rw [Z.rl_len]
      refine ⟨by show 1 ≤ 1000; decide, fun e he => ?_⟩
      refine ⟨e, T.a_InvalidSequence, _, rfl, "InvalidSequence", L2.upd_same, T.ox_InvalidSequence, T.ec_InvalidSequence, T.nm_InvalidSequence, T.no_InvalidSequence_place, T.no_InvalidSequence_name, fun d H9 hd hde g1 g2 g3 => ⟨rfl, d, _, g1, g2, (L2.upd_ne hde).symm.trans hd, ?_⟩⟩
      rw [Z.made_eq he g3]
      have hdn := (L2.upd_ne hde).symm.trans hd
      exact qe n (by rw [ej, if_pos (.inl h1)]) d H5 x05 T5 hdn
    wtm_at "r"
    refine ⟨D2, _, rfl, hyq, fun H6 s6 => ?_⟩
    have x06 := x05.trans (LamX.ExtN.of s6)
    have T6 := T5.ext s6
    have hsq6 := Z.s_sq s6 hsq5
    wtm_at "r"
    with_reducible refine Z.i_2 (fun h2 => ?_) (fun h2 => ?_)
    · wtm_at "r"
      try dsimp only
      refine Z.r_mkO ?_
      wtm_at "r"
      rw [Z.rl_len]
      refine ⟨by show 1 ≤ 1000; decide, fun e he => ?_⟩
      refine ⟨e, T.a_InvalidSequence, _, rfl, "InvalidSequence", L2.upd_same, T.ox_InvalidSequence, T.ec_InvalidSequence, T.nm_InvalidSequence, T.no_InvalidSequence_place, T.no_InvalidSequence_name, fun d H9 hd hde g1 g2 g3 => ⟨rfl, d, _, g1, g2, (L2.upd_ne hde).symm.trans hd, ?_⟩⟩
      rw [Z.made_eq he g3]
      have hdn := (L2.upd_ne hde).symm.trans hd
      exact qe n (by rw [ej, if_pos (.inr h2)]) d H6 x06 T6 hdn
    wtm_at "r"
    exact q _ D2 H6 (by rw [ej, if_neg (fun z => z.elim h1 h2)]) x06 T6 fresh (s6 _ _ hys)
def sp__law_draw (K : PySem.W.Frag) : Sp := fun vs H Q _ => ∃ (c m b : Int), vs = [.int c, .int m, .int b] ∧ 0 ≤ m ∧ m ≤ 1000 ∧ 0 < b ∧ b < 1073741824 ∧ ∀ (p : Addr) (ns : List Int) (H1 : Hp), Same H H1 → H p = none → H1 p = some (.lst (ns.map V.int)) → (ns.length : Int) = m → (∀ n ∈ ns, 0 ≤ n ∧ n < b) → Q (.ref p) H1
set_option maxHeartbeats 2000000 in
theorem ok__law_draw (T : Top K mg) : FnOk P w K mg base CX0 1 T.a__law_draw T.d__law_draw pl__law_draw (sp__law_draw K) := by
  refine T.F__law_draw.ok sc__law_draw (fun vs H Q E h => ?_) (fun cdv A outer s H vs Q E hr h => ?_)
  · obtain ⟨c, m, b, rfl, _⟩ := h
    rfl
  · obtain ⟨c, m, b, rfl, m0, m1, b0, b1, q⟩ := h
    have hu := hu_of hr
    refine ⟨_, (pss_cons (ps_set (i := 3) sc__law_draw.nd rfl (Or.inl rfl) (pe_lst pa_nil))
      (pss_cons (ps_if (pt_cmpR op_ge (pv 0) (pe_op op_pow pe_int pe_int) (nomark _)) (pss_cons (ps_for PassesOwn.never rfl (pi_range1 rfl T.n_range (pa_cons (pv 1) pa_nil)) (pg_name (i := 4) sc__law_draw.nd rfl (Or.inl rfl)) (pss_cons (ps_expr (pe_bm PySem.F.plainAttrs_list PySem.F.slot_list_append PySem.F.type_list_append mt_append (pv 3) (pa_cons (pe_op op_mod (pe_callTy Z.call_int (by rfl) T.n_int (by decide +kernel) (pa_cons (pv 0) pa_nil)) (pv 2)) pa_nil)))
      (pss_one (ps_set (i := 0) sc__law_draw.nd rfl (Or.inl rfl) (pe_op op_fdiv (pv 0) (pv 2))))))
      (pss_one (ps_ret (pv 3)))) pss_nil)
      (pss_cons (ps_set (i := 5) sc__law_draw.nd rfl (Or.inl rfl) (pe_op op_mod (pe_callTy Z.call_int (by rfl) T.n_int (by decide +kernel) (pa_cons (pv 0) pa_nil)) pe_int))
      (pss_cons (ps_for PassesOwn.never rfl (pi_range1 rfl T.n_range (pa_cons (pv 1) pa_nil)) (pg_name (i := 4) sc__law_draw.nd rfl (Or.inl rfl)) (pss_cons (ps_set (i := 5) sc__law_draw.nd rfl (Or.inl rfl) (pe_op op_mod (pe_callTy Z.call_int (by rfl) T.n_int (by decide +kernel) (pa_cons (pe_op op_add (pe_op op_add (pe_op op_mul (pv 5) pe_int) pe_int) (pv 4)) pa_nil)) pe_int))
      (pss_cons (ps_set (i := 6) sc__law_draw.nd rfl (Or.inl rfl) (pe_op op_mod (pe_callTy Z.call_int (by rfl) T.n_int (by decide +kernel) (pa_cons (pe_op op_add (pe_op op_mul (pv 5) pe_int) (pe_op op_mul pe_int (pv 4))) pa_nil)) pe_int))
      (pss_one (ps_expr (pe_bm PySem.F.plainAttrs_list PySem.F.slot_list_append PySem.F.type_list_append mt_append (pv 3) (pa_cons (pe_op op_mod (pe_callTy Z.call_int (by rfl) T.n_int (by decide +kernel) (pa_cons (pe_op op_fdiv (pv 6) pe_int) pa_nil)) (pv 2)) pa_nil)))))))
      (pss_one (ps_ret (pv 3))))))), ?_⟩
    show (_ : L2.TS) _ [some _, some _, some _, none, none, none, none] H
    try simp only [Z.kx]
    wtm_at "r"
    refine ⟨Nat.zero_le _, fun p hp => ?_⟩
    wtm_at "r"
    
    with_reducible refine Z.i_2 (fun hx => ?_) (fun hx => ?_) <;> clear hx
    · -- the digits of a great cell
      wtm_at "r"
      refine Z.rng_go m.toNat rfl ⟨by omega, by omega⟩ (fun i σ H2 => ∃ (c : Int) (k : Option V) (ns : List Int), σ = [some (.int c), some (.int m), some (.int b), some (.ref p), k, none, none] ∧ Same H H2 ∧ H2 p = some (.lst (ns.map V.int)) ∧ ns.length = i ∧ (∀ n ∈ ns, 0 ≤ n ∧ n < b)) ?_ ?_ ?_
      · exact ⟨_, none, [], rfl, Z.s_upd hp, L2.upd_same, rfl, fun n hn => by cases hn⟩
      · rintro i σ H2 hi ⟨c, k, ns, rfl, sm, hl, el, hb⟩
        wtm_at "r"
        refine ⟨_, _, ns ++ [c % b], rfl, Z.s_mut sm hp, ?_, by simp [el], fun n hn => ?_⟩
        · rw [List.map_append]; exact L2.upd_same
        · rcases List.mem_append.mp hn with h | h
          · exact hb n h
          · rw [List.mem_singleton] at h; subst h; exact ⟨Int.emod_nonneg _ (by omega), Int.emod_lt_of_pos _ (by omega)⟩
      · rintro σ H2 ⟨c, k, ns, rfl, sm, hl, el, hb⟩
        wtm_at "r"
        exact q p ns H2 sm hp hl (by omega) hb
    · wtm_at "r"
      refine Z.rng_go m.toNat rfl ⟨by omega, by omega⟩ (fun i σ H2 => ∃ (s : Int) (k x : Option V) (ns : List Int), σ = [some (.int c), some (.int m), some (.int b), some (.ref p), k, some (.int s), x] ∧ Same H H2 ∧ H2 p = some (.lst (ns.map V.int)) ∧ ns.length = i ∧ (∀ n ∈ ns, 0 ≤ n ∧ n < b)) ?_ ?_ ?_
      · exact ⟨_, none, none, [], rfl, Z.s_upd hp, L2.upd_same, rfl, fun n hn => by cases hn⟩
      · rintro i σ H2 hi ⟨s, k, x, ns, rfl, sm, hl, el, hb⟩
        wtm_at "r"
        refine ⟨_, _, _, ns ++ [((s * 48271 + 12345 + (i : Nat)) % 2147483647 * 69621 + 977 * (i : Nat)) % 2147483629 / 3 % b], rfl, Z.s_mut sm hp, ?_, by simp [el], fun n hn => ?_⟩
        · rw [List.map_append]; exact L2.upd_same
        · rcases List.mem_append.mp hn with h | h
          · exact hb n h
          · rw [List.mem_singleton] at h; subst h; exact ⟨Int.emod_nonneg _ (by omega), Int.emod_lt_of_pos _ (by omega)⟩
      · rintro σ H2 ⟨s, k, x, ns, rfl, sm, hl, el, hb⟩
        wtm_at "r"
        exact q p ns H2 sm hp hl (by omega) hb
def sp__law_is_integer (K : PySem.W.Frag) : Sp := fun vs H Q _ => ∃ (i : Int), vs = [.int i] ∧ Q (.bl true) H
set_option maxHeartbeats 2000000 in
theorem ok__law_is_integer (T : Top K mg) : FnOk P w K mg base CX0 1 T.a__law_is_integer T.d__law_is_integer pl__law_is_integer (sp__law_is_integer K) := by
  refine T.F__law_is_integer.ok sc__law_is_integer (fun vs H Q E h => ?_) (fun cdv A outer s H vs Q E hr h => ?_)
  · obtain ⟨i, rfl, _⟩ := h
    rfl
  · obtain ⟨i, rfl, q⟩ := h
    have hu := hu_of hr
    refine ⟨_, (pss_one (ps_ret (pe_and (pe_callB (show CallR _ _ (rIsi K) from call_isi) (by rfl) T.n_isinstance (by decide +kernel) (pa_cons (pv 0) (pa_cons (pe_bltn (v := .ty "int") (u := .type "int") (by rfl) T.n_int (by decide +kernel) rfl) pa_nil))) (pe_one (pe_not (pe_callB (show CallR _ _ (rIsi K) from call_isi) (by rfl) T.n_isinstance (by decide +kernel) (pa_cons (pv 0) (pa_cons (pe_bltn (v := .ty "bool") (u := .type "bool") (by rfl) T.n_bool (by decide +kernel) rfl) pa_nil)))))))), ?_⟩
    show (_ : L2.TS) _ [some _] H
    try simp only [Z.kx]
    wtm_at "r"
    refine Z.r_isi (b := true) (.ty "int") (.base (.int _)) (kit_ty (by decide +kernel)) ?_
    wtm_at "r"
    refine Z.r_isi (b := false) (.ty "bool") (.base (.int _)) (kit_ty (by decide +kernel)) ?_
    wtm_at "r"
    exact q
def sp__law_same (K : PySem.W.Frag) : Sp := fun vs H Q _ => ∃ (a b : Addr) (ns : List Int), vs = [.ref a, .ref b] ∧ H a = some (.lst (ns.map V.int)) ∧ SqL K H b (ns.map V.int) ∧ ns.length ≤ 100000 ∧ Q (.bl true) H
set_option maxHeartbeats 2000000 in
theorem ok__law_same (T : Top K mg) : FnOk P w K mg base CX0 2 T.a__law_same T.d__law_same pl__law_same (sp__law_same K) := by
  refine T.F__law_same.ok sc__law_same (fun vs H Q E h => ?_) (fun cdv A outer s H vs Q E hr h => ?_)
  · obtain ⟨a, b, ns, rfl, _⟩ := h
    rfl
  · obtain ⟨a, b, ns, rfl, ha, hb, hn, q⟩ := h
    have hu := hu_of hr
    refine ⟨_, (pss_cons (ps_if (PW.pt (pw_or (pt_not (pt_val (pe_callB (show CallR _ _ (rIsi K) from call_isi) (by rfl) T.n_isinstance (by decide +kernel) (pa_cons (pv 0) (pa_cons (pe_bltn (v := .ty "list") (u := .type "list") (by rfl) T.n_list (by decide +kernel) rfl) pa_nil))))) (pw_or1 (pt_cmpR op_ne (pe_callB (show CallR _ _ (Z.cLen K) from Z.call_len) (by rfl) T.n_len (by decide +kernel) (pa_cons (pv 0) pa_nil)) (pe_callB (show CallR _ _ (Z.cLen K) from Z.call_len) (by rfl) T.n_len (by decide +kernel) (pa_cons (pv 1) pa_nil)) (nomark _))))) (pss_one (ps_ret pe_bl)) pss_nil)
      (pss_cons (ps_for PassesOwn.never rfl (pi_range1 rfl T.n_range (pa_cons (pe_callB (show CallR _ _ (Z.cLen K) from Z.call_len) (by rfl) T.n_len (by decide +kernel) (pa_cons (pv 1) pa_nil)) pa_nil)) (pg_name (i := 2) sc__law_same.nd rfl (Or.inl rfl)) (pss_one (ps_if (PW.pt (pw_or (pt_not (pt_val (pe_call (ok__law_is_integer T) (hr.mono (by decide)) (by rfl) T.g__law_is_integer T.F__law_is_integer.kp T.b__law_is_integer .nil pass0 (pa_cons (pe_ix (show IxR _ (rIxL K) from ix_list) (pv 0) (pv 2) (fun _ _ => rfl)) pa_nil)))) (pw_or1 (pt_cmpR op_ne (pe_ix (show IxR _ (rIxL K) from ix_list) (pv 0) (pv 2) (fun _ _ => rfl)) (pe_ix (show IxR _ (rIxL K) from ix_list) (pv 1) (pv 2) (fun _ _ => rfl)) (nomark _))))) (pss_one (ps_ret pe_bl)) pss_nil)))
      (pss_one (ps_ret pe_bl)))), ?_⟩
    show (_ : L2.TS) _ [some _, some _, none] H
    try simp only [Z.kx]
    wtm_at "r"
    refine Z.r_isi (b := true) (.ty "list") (.base (.lst ha)) (kit_ty (by decide +kernel)) ?_
    wtm_at "r"
    with_reducible refine Z.i_df (not_not_intro rfl) ?_
    wtm_at "r"
    rw [List.length_map]
    refine Z.rng_go ns.length (by omega) ⟨by omega, by omega⟩ (fun i σ H2 => ∃ (k : Option V), σ = [some (.ref a), some (.ref b), k] ∧ H2 = H) ⟨none, rfl, rfl⟩ ?_ ?_
    · rintro i σ H2 hi ⟨k, rfl, rfl⟩
      wtm_at "r"
      refine Z.r_ixL (Z.sq_l ha) (Z.at_map rfl (List.getElem?_eq_getElem hi)) ?_
      wtm_at "r"
      refine ⟨_, rfl, ?_⟩
      wtm_at "r"
      refine Z.r_ixL (Z.sq_l ha) (Z.at_map rfl (List.getElem?_eq_getElem hi)) ?_
      wtm_at "r"
      refine Z.r_ixL hb (Z.at_map rfl (List.getElem?_eq_getElem hi)) ?_
      wtm_at "r"
      with_reducible refine Z.i_df (not_not_intro rfl) ?_
      wtm_at "r"
      exact ⟨_, rfl, rfl⟩
    · rintro σ H2 ⟨k, rfl, rfl⟩
      wtm_at "r"
      exact q
def sp__law_cell (K : PySem.W.Frag) : Sp := fun vs H Q _ => ∃ (a : Addr) (ns : List Int) (k : Nat), vs = [.ref a, .int k] ∧ SqL K H a (ns.map V.int) ∧ k < 100 ∧ ∀ z : Int, Q (.int z) H
set_option maxHeartbeats 2000000 in
theorem ok__law_cell (T : Top K mg) : FnOk P w K mg base CX0 1 T.a__law_cell T.d__law_cell pl__law_cell (sp__law_cell K) := by
  refine T.F__law_cell.ok sc__law_cell (fun vs H Q E h => ?_) (fun cdv A outer s H vs Q E hr h => ?_)
  · obtain ⟨a, ns, k, rfl, _⟩ := h
    rfl
  · obtain ⟨a, ns, k, rfl, hS, hk, q⟩ := h
    have hu := hu_of hr
    refine ⟨_, (pss_cons (ps_if (pt_cmpR op_lt (pv 1) (pe_callB (show CallR _ _ (Z.cLen K) from Z.call_len) (by rfl) T.n_len (by decide +kernel) (pa_cons (pv 0) pa_nil)) (nomark _)) (pss_one (ps_ret (pe_ix (show IxR _ (rIxL K) from ix_list) (pv 0) (pv 1) (fun _ _ => rfl)))) pss_nil)
      (pss_one (ps_ret pe_int))), ?_⟩
    show (_ : L2.TS) _ [some _, some _] H
    try simp only [Z.kx]
    wtm_at "r"
    with_reducible refine Z.i_2 (fun h => ?_) (fun h => ?_)
    · rw [List.length_map] at h
      have h' : k < ns.length := by omega
      wtm_at "r"
      refine Z.r_ixL hS (Z.at_map rfl (List.getElem?_eq_getElem h')) ?_
      wtm_at "r"
      exact q _
    · wtm_at "r"
      exact q _
end
/-- where part k begins -/
def stN (m c k : Nat) : Nat := k * (m / c) + min k (m % c)
def prt (ns : List Int) (c k : Nat) : List Int := (ns.drop (stN ns.length c k)).take (stN ns.length c (k + 1) - stN ns.length c k)
theorem st_succ (m c k : Nat) : stN m c (k + 1) = stN m c k + m / c + (if k < m % c then 1 else 0) := by
  unfold stN
  rw [Nat.succ_mul]
  split <;> omega
theorem st_end {m c : Nat} (hc : 0 < c) : stN m c c = m := by
  unfold stN
  rw [Nat.min_eq_right (Nat.le_of_lt (Nat.mod_lt _ hc))]
  exact Nat.div_add_mod m c
theorem st_mono (m c : Nat) {j k : Nat} (h : j ≤ k) : stN m c j ≤ stN m c k := by
  induction h with
  | refl => exact Nat.le_refl _
  | step h ih =>
    rw [st_succ]
    generalize m / c = z
    omega
theorem parts_take (ns : List Int) (c : Nat) : ∀ k : Nat, (List.range k).flatMap (prt ns c) = ns.take (stN ns.length c k)
  | 0 => by simp [stN]
  | k + 1 => by
    rw [List.range_succ, List.flatMap_append, parts_take ns c k, List.flatMap_singleton]
    unfold prt
    have h := st_mono ns.length c (Nat.le_succ k)
    obtain ⟨e, he⟩ := Nat.exists_eq_add_of_le h
    rw [he, Nat.add_sub_cancel_left, List.take_add]
theorem parts_all {ns : List Int} {c : Nat} (hc : 0 < c) : (List.range c).flatMap (prt ns c) = ns := by
  rw [parts_take, st_end hc, List.take_length]
theorem prt_len {ns : List Int} {c k : Nat} (hk : k < c) : (prt ns c k).length = ns.length / c + (if k < ns.length % c then 1 else 0) := by
  have h := st_succ ns.length c k
  have h2 := st_mono ns.length c (j := k + 1) (k := c) hk
  rw [st_end (by omega)] at h2
  unfold prt
  rw [List.length_take, List.length_drop]
  generalize ns.length / c = z at *
  omega
def hdD : Hd → PyData
  | none => .none
  | some (i, c, w) => .tuple [.int i, .int c, .int w]
def prD (n : Nat) (hs : Nat → Hd) (bs : Nat → List Int) : PyData := .list (Z.rl n fun k => .tuple [hdD (hs k), .list ((bs k).map .int)])
theorem hd_da {H : Hp} {v : V} {h : Hd} (hv : HdV H v h) : Z.Da (fun _ => True) H v (hdD h) := by
  cases h with
  | none => rw [show v = .non from hv]; exact .non
  | some x =>
    obtain ⟨i, c, w⟩ := x
    obtain ⟨a, rfl, ha⟩ := hv
    exact .tup trivial ha (.cons (.int _) (.cons (.int _) (.cons (.int _) .nil)))
theorem da_hd {r : Z.Rg} {H : Hp} {v : V} {h : Hd} (d : Z.Da r H v (hdD h)) : HdV H v h := by
  cases h with
  | none => cases d; rfl
  | some x =>
    obtain ⟨i, c, w⟩ := x
    obtain ⟨a, x1, x2, x3, rfl, _, ha, h1, h2, h3⟩ := Z.da_three d
    rw [Z.da_int h1, Z.da_int h2, Z.da_int h3] at ha
    exact ⟨a, rfl, ha⟩
theorem Prs.da {H : Hp} {p : Addr} {n : Nat} {ps : Nat → Addr} {hv : Nat → V} {bl : Nat → Addr} {hs : Nat → Hd} {bs : Nat → List Int} (h : Prs H p n ps hv bl hs bs) : Z.Da (fun _ => True) H (.ref p) (prD n hs bs) :=
  .lst trivial h.l (Z.DaL.rl fun k hk => .tup trivial (h.t k hk) (.cons (hd_da (h.h k hk)) (.cons (.lst trivial (h.b k hk) (Z.DaL.ints _)) .nil)))
theorem da_prs {r : Z.Rg} {H : Hp} {x : V} {n : Nat} {hs : Nat → Hd} {bs : Nat → List Int} (h : Z.Da r H x (prD n hs bs)) : ∃ p ps hv bl, x = .ref p ∧ r p ∧ Prs H p n ps hv bl hs bs ∧ ∀ k, k < n → r (bl k) := by
  obtain ⟨p, xs, rfl, rp, hp, l⟩ := Z.da_lst h
  have hl : xs.length = n := by rw [l.len, Z.rl_len]
  have row : ∀ i, i < n → ∃ (q : Addr × V × Addr), xs[i]? = some (V.ref q.1) ∧ H q.1 = some (.tup [q.2.1, .ref q.2.2]) ∧ HdV H q.2.1 (hs i) ∧ H q.2.2 = some (.lst ((bs i).map V.int)) ∧ r q.2.2 := fun i hi => by
    obtain ⟨y, ey⟩ : ∃ y, xs[i]? = some y := ⟨_, List.getElem?_eq_getElem (by omega)⟩
    obtain ⟨d, ed, hd⟩ := l.at' ey
    rw [Z.rl_at _ hi] at ed
    cases ed
    obtain ⟨a, u, v, rfl, _, ha, h1, h2⟩ := Z.da_pair hd
    obtain ⟨b, ys, rfl, rb, hb, l2⟩ := Z.da_lst h2
    exact ⟨(a, u, b), ey, ha, da_hd h1, by rw [hb, Z.dal_ints l2], rb⟩
  refine ⟨p, fun i => if h : i < n then (row i h).choose.1 else 0, fun i => if h : i < n then (row i h).choose.2.1 else .non, fun i => if h : i < n then (row i h).choose.2.2 else 0, rfl, rp, ⟨?_, fun i hi => ?_, fun i hi => ?_, fun i hi => ?_⟩, fun i hi => ?_⟩
  · rw [hp]
    refine congrArg (fun z => some (HO.lst z)) (List.ext_getElem? fun i => ?_)
    by_cases hi : i < n
    · rw [Z.rl_at _ hi]; simp only [dif_pos hi]; exact (row i hi).choose_spec.1
    · rw [List.getElem?_eq_none (by omega), List.getElem?_eq_none (by rw [Z.rl_len]; omega)]
  · simp only [dif_pos hi]; exact (row i hi).choose_spec.2.1
  · simp only [dif_pos hi]; exact (row i hi).choose_spec.2.2.1
  · simp only [dif_pos hi]; exact (row i hi).choose_spec.2.2.2.1
  · simp only [dif_pos hi]; exact (row i hi).choose_spec.2.2.2.2
theorem incr_range {n : Nat} {l : List Nat} (h : l.Pairwise (· < ·)) (hl : l.length = n) (hb : ∀ x, x ∈ l → x < n) : l = List.range n := by
  have gap : ∀ (d i : Nat) (hi : i + d < l.length), l[i]'(by omega) + d ≤ l[i + d] := by
    intro d
    induction d with
    | zero => exact fun i hi => Nat.le_refl _
    | succ d ih =>
      intro i hi
      have h1 := ih i (by omega)
      have h2 := List.pairwise_iff_getElem.mp h (i + d) (i + (d + 1)) (by omega) hi (by omega)
      omega
  refine List.ext_getElem (by rw [hl, List.length_range]) fun i h1 h2 => ?_
  rw [List.getElem_range]
  have a := gap i 0 (by omega)
  have b := gap (n - 1 - i) i (by omega)
  have c := hb (l[i + (n - 1 - i)]'(by omega)) (List.getElem_mem _)
  have e : l[0 + i]'(by omega) = l[i] := by congr 1; omega
  omega
theorem od_range {n : Nat} {hs : Nat → Hd} {ix : Nat → Nat} (h : ∀ k, k < n → hIx (hs k) = (ix k : Nat)) (inj : ∀ j k, j < n → k < n → ix j = ix k → j = k) (hb : ∀ k, k < n → ix k < n) : (odL n hs).map ix = List.range n := by
  have perm : (odL n hs).Perm (List.range n) := List.mergeSort_perm _ _
  have srt : (odL n hs).Pairwise fun a b => decide (hIx (hs a) ≤ hIx (hs b)) = true := List.pairwise_mergeSort (fun a b c h1 h2 => by
    have := of_decide_eq_true h1
    have := of_decide_eq_true h2
    exact decide_eq_true (by omega)) (fun a b => by
    by_cases c : hIx (hs a) ≤ hIx (hs b)
    · rw [decide_eq_true c]; rfl
    · rw [decide_eq_true (show hIx (hs b) ≤ hIx (hs a) by omega)]; simp) _
  have nod : (odL n hs).Nodup := perm.nodup_iff.mpr List.nodup_range
  refine incr_range (List.pairwise_map.mpr (List.Pairwise.imp_of_mem (fun {a b} ha hb' hab => ?_) (srt.and nod))) (by rw [List.length_map, od_len]) fun x hx => ?_
  · obtain ⟨h1, h2⟩ := hab
    have h1 := of_decide_eq_true h1
    have ha := od_mem ha
    have hb' := od_mem hb'
    rw [h a ha, h b hb'] at h1
    have ne : ¬ (ix a = ix b) := fun z => h2 (inj a b ha hb' z)
    omega
  · obtain ⟨k, hk, rfl⟩ := List.mem_map.mp hx
    exact hb k (od_mem hk)
theorem fbad_ok {n : Nat} {hs : Nat → Hd} {ix : Nat → Nat} {c w : Int} (hh : ∀ k, k < n → hs k = some (((ix k : Nat) : Int), c, w)) (inj : ∀ j k, j < n → k < n → ix j = ix k → j = k) : fbad n hs = none := fbad_none fun k hk => by
  rw [badK_two (hh k hk) (hh 0 (by omega)), Bool.or_eq_false_iff]
  refine ⟨decide_eq_false fun z => z ⟨rfl, rfl⟩, decide_eq_false fun z => ?_⟩
  obtain ⟨j, hj, e⟩ := List.mem_map.mp z
  have hj := List.mem_range.mp hj
  rw [hh j (by omega)] at e
  have e : ((ix j : Nat) : Int) = ((ix k : Nat) : Int) := e
  have := inj j k (by omega) hk (by omega)
  omega
theorem jn_ok {n : Nat} {hs : Nat → Hd} {bs : Nat → List Int} {ix : Nat → Nat} {c w : Int} {part : Nat → List Int} {t : List Int} (h0 : 0 < n) (hh : ∀ k, k < n → hs k = some (((ix k : Nat) : Int), c, w)) (inj : ∀ j k, j < n → k < n → ix j = ix k → j = k) (hlt : ∀ k, k < n → ix k < n) (hc : (n : Int) = c)
    (hb : ∀ k, k < n → bs k = part (ix k)) (ht : (List.range n).flatMap part = t) (hw : parI t = w) : jnO n hs bs = .ok t := by
  have e : (odL n hs).flatMap bs = t := by
    rw [← ht, ← od_range (hs := hs) (ix := ix) (fun k hk => by rw [hh k hk]; rfl) inj hlt, List.flatMap_map]
    exact congrArg List.flatten (List.map_congr_left fun k hk => hb k (od_mem hk))
  unfold jnO
  rw [fbad_ok hh inj]
  dsimp only
  rw [if_neg (by omega), hh 0 h0]
  dsimp only
  rw [e, if_neg (fun z => z.elim (fun z => z hc) (fun z => z hw))]
theorem tabs_keep {T : List (Addr × Str)} {H H' : Hp} {x : Addr} (t : LamX.Tabs T H) (hx : ∃ l, H x = some (.lst l)) (k : ∀ a o, a ≠ x → H a = some o → H' a = some o) : LamX.Tabs T H' := fun p hp => by
  obtain ⟨ps, h1, h2, h3⟩ := t p hp
  obtain ⟨l, hl⟩ := hx
  have ne : ∀ a o, H a = some o → (∀ l, o ≠ .lst l) → a ≠ x := fun a o e n z => by rw [z, hl] at e; exact n l (Option.some.inj e).symm
  refine ⟨ps, k _ _ (ne _ _ h1 fun l z => by cases z) h1, h2, fun pos cv hc => ?_⟩
  obtain ⟨c, e1, e2⟩ := h3 pos cv hc
  exact ⟨c, e1, k _ _ (ne _ _ e2 fun l z => by unfold LamX.CodeO at z; cases z) e2⟩
theorem Prs.keep {H H' : Hp} {p : Addr} {n : Nat} {ps : Nat → Addr} {hv : Nat → V} {bl : Nat → Addr} {hs : Nat → Hd} {bs : Nat → List Int} (h : Prs H p n ps hv bl hs bs) (k : ∀ a o, H a = some o → (a = p ∨ (∃ l, o = .tup l) ∨ ∃ k, k < n ∧ a = bl k) → H' a = some o) : Prs H' p n ps hv bl hs bs := by
  refine ⟨k _ _ h.l (.inl rfl), fun j hj => k _ _ (h.t j hj) (.inr (.inl ⟨_, rfl⟩)), fun j hj => ?_, fun j hj => k _ _ (h.b j hj) (.inr (.inr ⟨j, hj, rfl⟩))⟩
  have hd := h.h j hj
  cases e : hs j with
  | none => rw [e] at hd; exact hd
  | some x =>
    obtain ⟨i, c, w⟩ := x
    rw [e] at hd
    obtain ⟨a, ea, ha⟩ := hd
    exact ⟨a, ea, k _ _ ha (.inr (.inl ⟨_, rfl⟩))⟩
theorem lay_prD (n : Nat) (hs : Nat → Hd) (bs : Nat → List Int) : Z.Lay 3 (prD n hs bs) := Z.Lay.list fun d hd => by
  obtain ⟨k, _, rfl⟩ := List.mem_map.mp hd
  refine Z.Lay.tuple fun d hd => ?_
  rcases List.mem_cons.mp hd with rfl | hd
  · cases hs k with
    | none => exact .non
    | some x =>
      obtain ⟨i, c, w⟩ := x
      exact Z.Lay.tuple fun d hd => by
        rcases List.mem_cons.mp hd with rfl | hd
        · exact .int _
        rcases List.mem_cons.mp hd with rfl | hd
        · exact .int _
        rcases List.mem_cons.mp hd with rfl | hd
        · exact .int _
        cases hd
  · rcases List.mem_cons.mp hd with rfl | hd
    · exact Z.Lay.list fun d hd => by
        obtain ⟨x, _, rfl⟩ := List.mem_map.mp hd
        exact .int _
    · cases hd
theorem erase_eq {α : Type} (l : List α) (i : Nat) (h : i < l.length) : l = l.take i ++ l[i] :: l.drop (i + 1) := by
  rw [List.getElem_cons_drop, List.take_append_drop]
theorem erase_perm {α : Type} (ys l : List α) (i : Nat) (h : i < l.length) : ((ys ++ [l[i]]) ++ l.eraseIdx i).Perm (ys ++ l) := by
  rw [List.eraseIdx_eq_take_drop_succ, List.append_assoc]
  refine List.Perm.append_left ys ?_
  conv => rhs; rw [erase_eq l i h]
  show (l[i] :: (l.take i ++ l.drop (i + 1))).Perm _
  exact (List.perm_middle (a := l[i]) (l₁ := l.take i) (l₂ := l.drop (i + 1))).symm
theorem erase_map {α β : Type} (f : α → β) (l : List α) (i : Nat) : (l.map f).eraseIdx i = (l.eraseIdx i).map f := by
  rw [List.eraseIdx_eq_take_drop_succ, List.eraseIdx_eq_take_drop_succ, List.map_append, List.map_take, List.map_drop]
theorem nodup_inj {l : List Nat} (h : l.Nodup) {i j : Nat} (hi : i < l.length) (hj : j < l.length) (e : l.getD i 0 = l.getD j 0) : i = j := by
  rw [List.getD_eq_getElem?_getD, List.getD_eq_getElem?_getD, List.getElem?_eq_getElem hi, List.getElem?_eq_getElem hj] at e
  have e : l[i] = l[j] := e
  have p := List.pairwise_iff_getElem.mp h
  rcases Nat.lt_trichotomy i j with c | c | c
  · exact absurd e (p i j hi hj c)
  · exact c
  · exact absurd e.symm (p j i hj hi c)
theorem ceil_div {m c : Nat} (hc : 0 < c) : (m + c - 1) / c = m / c + min 1 (m % c) := by
  have h := Nat.div_add_mod m c
  have h2 := Nat.mod_lt m hc
  generalize m / c = q at *
  generalize m % c = r at *
  subst h
  have e : ∀ p : Nat, p + r + c - 1 = p + (r + c - 1) := fun p => by omega
  rw [e, Nat.mul_add_div hc]
  by_cases z : r = 0
  · subst z
    rw [Nat.div_eq_of_lt (by omega)]
    omega
  · rw [show r + c - 1 = c + (r - 1) by omega, Nat.add_div_left _ hc, Nat.div_eq_of_lt (by omega)]
    omega
theorem prt_zero {ns : List Int} {c : Nat} (hc : 0 < c) : prt ns c 0 = ns.take ((ns.length + c - 1) / c) := by
  unfold prt
  rw [st_succ, show stN ns.length c 0 = 0 by simp [stN], List.drop_zero, ceil_div hc]
  congr 1
  generalize ns.length / c = z
  split <;> omega
def Hok (h : Hd) : Prop := ∀ i c w, h = some (i, c, w) → 0 ≤ i ∧ i < c
theorem hok_none : Hok none := fun _ _ _ e => by cases e
theorem hok_some {i c w : Int} (h : 0 ≤ i ∧ i < c) : Hok (some (i, c, w)) := fun _ _ _ e => by cases e; exact h
def itD (h : Hd) (bs : List Int) : PyData := .tuple [hdD h, .list (bs.map PyData.int)]
theorem it_da {r : Z.Rg} {H : Hp} {t a b : Addr} {i c w : Int} {bs : List Int} (rt : r t) (ra : r a) (rb : r b) (ht : H t = some (.tup [.ref a, .ref b])) (ha : H a = some (.tup [.int i, .int c, .int w])) (hb : H b = some (.lst (bs.map V.int))) : Z.Da r H (.ref t) (itD (some (i, c, w)) bs) :=
  .pair rt ht (.tup ra ha (.cons (.int _) (.cons (.int _) (.cons (.int _) .nil)))) (.lst rb hb (Z.DaL.ints _))
section
variable {P : Program} {w : World} {K : PySem.W.Frag} {mg : Str → Option Value} {base : Heap}
def sp__law_changed (K : PySem.W.Frag) : Sp := fun vs H Q _ => ∃ (t a b : Addr) (i c w : Int) (bs : List Int) (p : Addr) (x y : Int), vs = [.ref t, .ref p] ∧ H t = some (.tup [.ref a, .ref b]) ∧ H a = some (.tup [.int i, .int c, .int w]) ∧ H b = some (.lst (bs.map V.int)) ∧ SqL K H p (([x, y] : List Int).map V.int) ∧ (0 ≤ x ∧ 0 ≤ y) ∧ (0 ≤ i ∧ i < c) ∧ bs.length ≤ 3 ∧ ∀ z H1 h2 b2, Same H H1 → Hok h2 → b2.length ≤ 3 → Z.Da (fun u => H u = none ∨ u = a ∨ u = b) H1 z (itD h2 b2) → Q z H1
set_option maxHeartbeats 2000000 in
theorem ok__law_changed (T : Top K mg) : FnOk P w K mg base CX0 1 T.a__law_changed T.d__law_changed pl__law_changed (sp__law_changed K) := by
  refine T.F__law_changed.ok sc__law_changed (fun vs H Q E h => ?_) (fun cdv A outer s H vs Q E hr h => ?_)
  · obtain ⟨t, a, b, i, c, w, bs, p, x, y, rfl, _⟩ := h
    rfl
  · obtain ⟨t, a, b, i, c, w, bs, p, x, y, rfl, ht, ha, hb, hn, hq, hi, hl, qq⟩ := h
    have hu := hu_of hr
    refine ⟨_, (pss_cons (ps_asg (pv 0) (pg_tup rfl (pgs_cons (pg_name (i := 2) sc__law_changed.nd rfl (Or.inl rfl)) (pgs_cons (pg_name (i := 3) sc__law_changed.nd rfl (Or.inl rfl)) pgs_nil))))
      (pss_cons (ps_set (i := 4) sc__law_changed.nd rfl (Or.inl rfl) (pe_op op_mod (pe_ix (show IxR _ (rIxL K) from ix_list) (pv 1) pe_int (fun _ _ => rfl)) pe_int))
      (pss_cons (ps_if (pt_cmpR op_eq (pv 4) pe_int (nomark _)) (pss_one (ps_ret (pe_tup (pa_cons pe_non (pa_cons (pv 3) pa_nil))))) pss_nil)
      (pss_cons (ps_if (pt_cmpR op_eq (pv 4) pe_int (nomark _)) (pss_one (ps_ret (pe_tup (pa_cons (pe_tup (pa_cons (pe_op op_mod (pe_ix (show IxR _ (rIxL K) from ix_list) (pv 1) pe_int (fun _ _ => rfl)) (pe_ix (show IxR _ (rIxT K) from ix_tup) (pv 2) pe_int (fun _ _ => rfl))) (pa_cons (pe_ix (show IxR _ (rIxT K) from ix_tup) (pv 2) pe_int (fun _ _ => rfl)) (pa_cons (pe_ix (show IxR _ (rIxT K) from ix_tup) (pv 2) pe_int (fun _ _ => rfl)) pa_nil)))) (pa_cons (pv 3) pa_nil))))) pss_nil)
      (pss_cons (ps_if (pt_cmpR op_eq (pv 4) pe_int (nomark _)) (pss_one (ps_ret (pe_tup (pa_cons (pe_tup (pa_cons (pe_ix (show IxR _ (rIxT K) from ix_tup) (pv 2) pe_int (fun _ _ => rfl)) (pa_cons (pe_op op_add (pe_ix (show IxR _ (rIxT K) from ix_tup) (pv 2) pe_int (fun _ _ => rfl)) pe_int) (pa_cons (pe_ix (show IxR _ (rIxT K) from ix_tup) (pv 2) pe_int (fun _ _ => rfl)) pa_nil)))) (pa_cons (pv 3) pa_nil))))) pss_nil)
      (pss_cons (ps_if (pt_cmpR op_eq (pv 4) pe_int (nomark _)) (pss_one (ps_ret (pe_tup (pa_cons (pe_tup (pa_cons (pe_ix (show IxR _ (rIxT K) from ix_tup) (pv 2) pe_int (fun _ _ => rfl)) (pa_cons (pe_ix (show IxR _ (rIxT K) from ix_tup) (pv 2) pe_int (fun _ _ => rfl)) (pa_cons (pe_op op_xor (pe_ix (show IxR _ (rIxT K) from ix_tup) (pv 2) pe_int (fun _ _ => rfl)) (pe_op op_shl pe_int (pe_op op_mod (pe_ix (show IxR _ (rIxL K) from ix_list) (pv 1) pe_int (fun _ _ => rfl)) pe_int))) pa_nil)))) (pa_cons (pv 3) pa_nil))))) pss_nil)
      (pss_cons (ps_if (PW.pt (pw_and (pt_cmpR op_eq (pv 4) pe_int (nomark _)) (pw_and1 (pt_cmpR op_gt (pe_callB (show CallR _ _ (Z.cLen K) from Z.call_len) (by rfl) T.n_len (by decide +kernel) (pa_cons (pv 3) pa_nil)) pe_int (nomark _))))) (pss_one (ps_ret (pe_tup (pa_cons (pv 2) (pa_cons (pe_op op_cat (pe_lst (pa_cons (pe_op op_xor (pe_ix (show IxR _ (rIxL K) from ix_list) (pv 3) pe_int (fun _ _ => rfl)) (pe_op op_shl pe_int (pe_op op_mod (pe_ix (show IxR _ (rIxL K) from ix_list) (pv 1) pe_int (fun _ _ => rfl)) pe_int))) pa_nil)) (pe_slice (show SlR _ (rSlL K) from sl_list) (pv 3) (po_some pe_int) po_none)) pa_nil))))) pss_nil)
      (pss_one (ps_ret (pe_tup (pa_cons (pv 2) (pa_cons (pv 3) pa_nil)))))))))))), ?_⟩
    show (_ : L2.TS) _ [some _, some _, none, none, none] H
    try simp only [Z.kx]
    obtain ⟨q0, q1⟩ := hq
    wtm_at "r"
    refine Z.r_prT (Z.sq_t ht) (by wtm_at "set") ?_
    wtm_at "r"
    refine Z.r_ixL hn (v := .int x) rfl ?_
    wtm_at "r"
    by_cases k0 : x % 9 = 0
    · refine Z.i_dt k0 ?_
      wtm_at "r"
      refine ⟨by show 2 ≤ sizeLine; decide, fun r nr => ?_⟩
      have s1 : Same H (upd H r (.tup [.non, .ref b])) := Z.s_upd nr
      exact qq _ _ none bs s1 hok_none hl (.pair (.inl nr) L2.upd_same .non (.lst (.inr (.inr rfl)) (s1 _ _ hb) (Z.DaL.ints _)))
    refine Z.i_df k0 ?_
    wtm_at "r"
    by_cases k1 : x % 9 = 1
    · refine Z.i_dt k1 ?_
      wtm_at "r"
      refine Z.r_ixL hn (v := .int y) rfl ?_
      wtm_at "r"
      refine Z.r_ixT (Z.sq_t ha) (v := .int c) rfl ?_
      refine Z.r_I (by omega) ?_
      wtm_at "r"
      refine Z.r_ixT (Z.sq_t ha) (v := .int c) rfl ?_
      wtm_at "r"
      refine Z.r_ixT (Z.sq_t ha) (v := .int w) rfl ?_
      wtm_at "r"
      have hm : 0 ≤ y % c ∧ y % c < c := ⟨Int.emod_nonneg _ (by omega), Int.emod_lt_of_pos _ (by omega)⟩
      refine ⟨by show 3 ≤ sizeLine; decide, fun u nu => ?_⟩
      have su : Same H (upd H u (.tup [.int (y % c), .int (c), .int (w)])) := Z.s_upd nu
      have hu : (upd H u (.tup [.int (y % c), .int (c), .int (w)])) u = some (.tup [.int (y % c), .int (c), .int (w)]) := L2.upd_same
      show tCons _ _ _ (upd H u (.tup [.int (y % c), .int (c), .int (w)])) _
      generalize upd H u (.tup [.int (y % c), .int (c), .int (w)]) = H1 at su hu ⊢
      wtm_at "r"
      refine ⟨by show 2 ≤ sizeLine; decide, fun r nr => ?_⟩
      have s1 : Same H1 (upd H1 r (.tup [.ref u, .ref b])) := Z.s_upd nr
      exact qq _ _ (some (y % c, c, w)) bs (su.trans s1) (hok_some hm) hl (it_da (.inl (Z.s_back su nr)) (.inl nu) (.inr (.inr rfl)) L2.upd_same (s1 _ _ hu) ((su.trans s1) _ _ hb))
    refine Z.i_df k1 ?_
    wtm_at "r"
    by_cases k2 : x % 9 = 2
    · refine Z.i_dt k2 ?_
      wtm_at "r"
      refine Z.r_ixT (Z.sq_t ha) (v := .int i) rfl ?_
      wtm_at "r"
      refine Z.r_ixT (Z.sq_t ha) (v := .int c) rfl ?_
      wtm_at "r"
      refine Z.r_ixT (Z.sq_t ha) (v := .int w) rfl ?_
      wtm_at "r"
      have hm : 0 ≤ i ∧ i < c + 1 := by omega
      refine ⟨by show 3 ≤ sizeLine; decide, fun u nu => ?_⟩
      have su : Same H (upd H u (.tup [.int (i), .int (c + 1), .int (w)])) := Z.s_upd nu
      have hu : (upd H u (.tup [.int (i), .int (c + 1), .int (w)])) u = some (.tup [.int (i), .int (c + 1), .int (w)]) := L2.upd_same
      show tCons _ _ _ (upd H u (.tup [.int (i), .int (c + 1), .int (w)])) _
      generalize upd H u (.tup [.int (i), .int (c + 1), .int (w)]) = H1 at su hu ⊢
      wtm_at "r"
      refine ⟨by show 2 ≤ sizeLine; decide, fun r nr => ?_⟩
      have s1 : Same H1 (upd H1 r (.tup [.ref u, .ref b])) := Z.s_upd nr
      exact qq _ _ (some (i, c + 1, w)) bs (su.trans s1) (hok_some hm) hl (it_da (.inl (Z.s_back su nr)) (.inl nu) (.inr (.inr rfl)) L2.upd_same (s1 _ _ hu) ((su.trans s1) _ _ hb))
    refine Z.i_df k2 ?_
    wtm_at "r"
    by_cases k3 : x % 9 = 3
    · refine Z.i_dt k3 ?_
      wtm_at "r"
      refine Z.r_ixT (Z.sq_t ha) (v := .int i) rfl ?_
      wtm_at "r"
      refine Z.r_ixT (Z.sq_t ha) (v := .int c) rfl ?_
      wtm_at "r"
      refine Z.r_ixT (Z.sq_t ha) (v := .int w) rfl ?_
      wtm_at "r"
      refine Z.r_ixL hn (v := .int y) rfl ?_
      wtm_at "r"
      have hm : 0 ≤ i ∧ i < c := by omega
      refine ⟨by show 3 ≤ sizeLine; decide, fun u nu => ?_⟩
      have su : Same H (upd H u (.tup [.int (i), .int (c), .int (Builtin.bitXor w (1 * 2 ^ (y % 8).toNat))])) := Z.s_upd nu
      have hu : (upd H u (.tup [.int (i), .int (c), .int (Builtin.bitXor w (1 * 2 ^ (y % 8).toNat))])) u = some (.tup [.int (i), .int (c), .int (Builtin.bitXor w (1 * 2 ^ (y % 8).toNat))]) := L2.upd_same
      show tCons _ _ _ (upd H u (.tup [.int (i), .int (c), .int (Builtin.bitXor w (1 * 2 ^ (y % 8).toNat))])) _
      generalize upd H u (.tup [.int (i), .int (c), .int (Builtin.bitXor w (1 * 2 ^ (y % 8).toNat))]) = H1 at su hu ⊢
      wtm_at "r"
      refine ⟨by show 2 ≤ sizeLine; decide, fun r nr => ?_⟩
      have s1 : Same H1 (upd H1 r (.tup [.ref u, .ref b])) := Z.s_upd nr
      exact qq _ _ (some (i, c, Builtin.bitXor w (1 * 2 ^ (y % 8).toNat))) bs (su.trans s1) (hok_some hm) hl (it_da (.inl (Z.s_back su nr)) (.inl nu) (.inr (.inr rfl)) L2.upd_same (s1 _ _ hu) ((su.trans s1) _ _ hb))
    refine Z.i_df k3 ?_
    wtm_at "r"
    have last : ∀ {HH : Hp}, Same H HH → ∀ r, HH r = none → Q (.ref r) (upd HH r (.tup [.ref a, .ref b])) := fun {HH} s r nr => by
      have s1 := s.trans (Z.s_upd (o := .tup [.ref a, .ref b]) nr)
      exact qq _ _ (some (i, c, w)) bs s1 (hok_some (by omega)) hl (it_da (.inl (Z.s_back s nr)) (.inr (.inl rfl)) (.inr (.inr rfl)) L2.upd_same (s1 _ _ ha) (s1 _ _ hb))
    by_cases k4 : x % 9 = 4
    · refine Z.i_dt k4 ?_
      have hbq : SqL K H b (bs.map V.int) := Z.sq_l hb
      wtm_at "r"
      rw [List.length_map]
      cases bs with
      | nil =>
        refine Z.i_df (by decide) ?_
        wtm_at "r"
        exact ⟨by show 2 ≤ sizeLine; decide, fun r nr => last (Same.refl _) r nr⟩
      | cons b0 rest =>
        refine Z.i_dt (by rw [List.length_cons]; omega) ?_
        wtm_at "r"
        refine Z.r_ixL hbq (show atI _ ((0 : Nat) : Int) = some (V.int b0) from atI_nat rfl) ?_
        wtm_at "r"
        refine Z.r_ixL hn (v := .int y) rfl ?_
        wtm_at "r"
        generalize Builtin.bitXor b0 (1 * 2 ^ (y % 8).toNat) = z
        refine ⟨by show 1 ≤ sizeLine; decide, fun u nu => ?_⟩
        have su : Same H (upd H u (.lst [.int z])) := Z.s_upd nu
        have hu : (upd H u (.lst [.int z])) u = some (.lst [.int z]) := L2.upd_same
        show tSl (rSlL K) _ _ _ _ (upd H u (.lst [.int z])) _
        generalize upd H u (.lst [.int z]) = H1 at su hu ⊢
        wtm_at "r"
        refine Z.r_slL (Z.s_sq su hbq) fun v nv => ?_
        rw [show cutV ((b0 :: rest).map V.int) (some 1) none = rest.map V.int from by rw [show (1 : Int) = ((1 : Nat) : Int) from rfl, Z.cut_from]; rfl]
        have sv : Same H1 (upd H1 v (.lst (rest.map V.int))) := Z.s_upd nv
        have hv : (upd H1 v (.lst (rest.map V.int))) v = some (.lst (rest.map V.int)) := L2.upd_same
        show rCat _ _ (upd H1 v (.lst (rest.map V.int))) _
        have hu2 := sv _ _ hu
        generalize upd H1 v (.lst (rest.map V.int)) = H2 at sv hv hu2 ⊢
        rw [List.length_cons] at hl
        refine Z.r_cat hu2 hv (by rw [List.length_map, List.length_cons, List.length_nil]; omega) fun e ne => ?_
        have s02 := su.trans sv
        have se : Same H2 (upd H2 e (.lst ([.int z] ++ rest.map V.int))) := Z.s_upd ne
        have he : (upd H2 e (.lst ([.int z] ++ rest.map V.int))) e = some (.lst ((z :: rest).map V.int)) := L2.upd_same
        show tNil _ (upd H2 e (.lst ([.int z] ++ rest.map V.int))) _
        generalize upd H2 e (.lst ([.int z] ++ rest.map V.int)) = H3 at se he ⊢
        wtm_at "r"
        refine ⟨by show 2 ≤ sizeLine; decide, fun r nr => ?_⟩
        have s3 := s02.trans se
        have s4 : Same H3 (upd H3 r (.tup [.ref a, .ref e])) := Z.s_upd nr
        exact qq _ _ (some (i, c, w)) (z :: rest) (s3.trans s4) (hok_some (by omega)) (by rw [List.length_cons]; exact hl) (it_da (.inl (Z.s_back s3 nr)) (.inr (.inl rfl)) (.inl (Z.s_back s02 ne)) L2.upd_same ((s3.trans s4) _ _ ha) (s4 _ _ he))
    · refine Z.i_df k4 ?_
      wtm_at "r"
      exact ⟨by show 2 ≤ sizeLine; decide, fun r nr => last (Same.refl _) r nr⟩
end
/-- the parts whose header has the index x -/
def selT (n : Nat) (hs : Nat → Hd) (bs : Nat → List Int) (x : Nat) : List Int := ((List.range n).filter fun j => decide (hIx (hs j) = (x : Int))).flatMap bs
theorem filt_one {p : Nat → Bool} {k : Nat} (hp : p k = true) : ∀ {n : Nat}, k < n → (∀ j, j < n → p j = true → j = k) → (List.range n).filter p = [k]
  | 0, h, _ => absurd h (Nat.not_lt_zero k)
  | n + 1, h, u => by
    rw [List.range_succ, List.filter_append]
    by_cases e : k = n
    · subst e
      have e1 : (List.range k).filter p = [] := List.filter_eq_nil_iff.mpr fun j hj z => by
        have h1 := List.mem_range.mp hj
        have := u j (by omega) z
        omega
      rw [e1, List.filter_cons, hp]
      rfl
    · have e2 : p n = false := by
        cases e3 : p n with
        | false => rfl
        | true => exact absurd (u n (by omega) e3).symm e
      rw [filt_one hp (by omega) fun j hj => u j (by omega), List.filter_cons, e2]
      rfl
theorem sel_od {n : Nat} {hs : Nat → Hd} {bs : Nat → List Int} {ix : Nat → Nat} (h : ∀ k, k < n → hIx (hs k) = (ix k : Nat)) (inj : ∀ j k, j < n → k < n → ix j = ix k → j = k) (hb : ∀ k, k < n → ix k < n) : (List.range n).flatMap (selT n hs bs) = (odL n hs).flatMap bs := by
  rw [← od_range h inj hb, List.flatMap_map]
  refine congrArg List.flatten (List.map_congr_left fun k hk => ?_)
  have hk := od_mem hk
  show selT n hs bs (ix k) = bs k
  unfold selT
  rw [filt_one (k := k) (decide_eq_true (h k hk)) hk fun j hj e => by
    have e := of_decide_eq_true e
    rw [h j hj] at e
    exact inj j k hj hk (by omega)]
  simp
/-- what is due, as it is told -/
def dueV (r : Except Nat (List Int)) (H : Hp) (x y : V) : Prop := match r with
  | .error k => x = .int (k : Nat) ∧ y = .non
  | .ok t => x = .non ∧ ∃ l, y = .ref l ∧ H l = some (.lst (t.map V.int))
theorem fbad_ix {n : Nat} {hs : Nat → Hd} (h : fbad n hs = none) : ∀ j k, j < n → k < n → hIx (hs j) = hIx (hs k) → j = k := by
  have lt : ∀ j k, j < k → k < n → hIx (hs j) ≠ hIx (hs k) := fun j k hj hk e => by
    obtain ⟨i, c, w, _, e1, _, e3⟩ := badK_ok (fbad_all h k hk)
    refine e3 (List.mem_map.mpr ⟨j, List.mem_range.mpr hj, ?_⟩)
    rw [e, e1]
    rfl
  intro j k hj hk e
  rcases Nat.lt_trichotomy j k with c | c | c
  · exact absurd e (lt j k c hk)
  · exact c
  · exact absurd e.symm (lt k j c hj)
section
variable {P : Program} {w : World} {K : PySem.W.Frag} {mg : Str → Option Value} {base : Heap}
def sp__law_due (K : PySem.W.Frag) : Sp := fun vs H Q _ => ∃ (p : Addr) (n : Nat) (ps : Nat → Addr) (hv : Nat → V) (bl : Nat → Addr) (hs : Nat → Hd) (bs : Nat → List Int), vs = [.ref p] ∧ Prs H p n ps hv bl hs bs ∧ n ≤ 20 ∧ (∀ k, k < n → (bs k).length ≤ 3) ∧ (∀ k, k < n → Hok (hs k)) ∧ ∀ r x y H1, Same H H1 → H1 r = some (.tup [x, y]) → dueV (jnO n hs bs) H1 x y → Q (.ref r) H1
set_option maxHeartbeats 2000000 in
theorem ok__law_due (T : Top K mg) : FnOk P w K mg base CX0 1 T.a__law_due T.d__law_due pl__law_due (sp__law_due K) := by
  refine T.F__law_due.ok sc__law_due (fun vs H Q E h => ?_) (fun cdv A outer s H vs Q E hr h => ?_)
  · obtain ⟨p, n, ps, hv, bl, hs, bs, rfl, _⟩ := h
    rfl
  · obtain ⟨p, n, ps, hv, bl, hs, bs, rfl, hP, hn, hbl, hok, q⟩ := h
    have hu := hu_of hr
    refine ⟨_, (pss_cons (ps_set (i := 1) sc__law_due.nd rfl (Or.inl rfl) (pe_lst pa_nil))
      (pss_cons (ps_for PassesOwn.never rfl (pi_range1 rfl T.n_range (pa_cons (pe_callB (show CallR _ _ (Z.cLen K) from Z.call_len) (by rfl) T.n_len (by decide +kernel) (pa_cons (pv 0) pa_nil)) pa_nil)) (pg_name (i := 2) sc__law_due.nd rfl (Or.inl rfl)) (pss_cons (ps_set (i := 3) sc__law_due.nd rfl (Or.inl rfl) (pe_ix (show IxR _ (rIxT K) from ix_tup) (pe_ix (show IxR _ (rIxL K) from ix_list) (pv 0) (pv 2) (fun _ _ => rfl)) pe_int (fun _ _ => rfl)))
      (pss_cons (ps_if (PW.pt (pw_or (pt_cmpR Z.op_isN (pv 3) pe_non (nomark _)) (pw_or (pt_cmpR op_ne (pe_ix (show IxR _ (rIxT K) from ix_tup) (pv 3) pe_int (fun _ _ => rfl)) (pe_ix (show IxR _ (rIxT K) from ix_tup) (pe_ix (show IxR _ (rIxT K) from ix_tup) (pe_ix (show IxR _ (rIxL K) from ix_list) (pv 0) pe_int (fun _ _ => rfl)) pe_int (fun _ _ => rfl)) pe_int (fun _ _ => rfl)) (nomark _)) (pw_or (pt_cmpR op_ne (pe_ix (show IxR _ (rIxT K) from ix_tup) (pv 3) pe_int (fun _ _ => rfl)) (pe_ix (show IxR _ (rIxT K) from ix_tup) (pe_ix (show IxR _ (rIxT K) from ix_tup) (pe_ix (show IxR _ (rIxL K) from ix_list) (pv 0) pe_int (fun _ _ => rfl)) pe_int (fun _ _ => rfl)) pe_int (fun _ _ => rfl)) (nomark _)) (pw_or1 (pt_cmpR (show OpR _ _ (rIn K false) from op_in_seq) (pe_ix (show IxR _ (rIxT K) from ix_tup) (pv 3) pe_int (fun _ _ => rfl)) (pv 1) (by with_unfolding_all rfl))))))) (pss_one (ps_ret (pe_tup (pa_cons (pv 2) (pa_cons pe_non pa_nil))))) pss_nil)
      (pss_one (ps_expr (pe_bm PySem.F.plainAttrs_list PySem.F.slot_list_append PySem.F.type_list_append mt_append (pv 1) (pa_cons (pe_ix (show IxR _ (rIxT K) from ix_tup) (pv 3) pe_int (fun _ _ => rfl)) pa_nil)))))))
      (pss_cons (ps_if (PW.pt (pw_or (pt_cmpR op_eq (pe_callB (show CallR _ _ (Z.cLen K) from Z.call_len) (by rfl) T.n_len (by decide +kernel) (pa_cons (pv 0) pa_nil)) pe_int (nomark _)) (pw_or1 (pt_cmpR op_ne (pe_callB (show CallR _ _ (Z.cLen K) from Z.call_len) (by rfl) T.n_len (by decide +kernel) (pa_cons (pv 0) pa_nil)) (pe_ix (show IxR _ (rIxT K) from ix_tup) (pe_ix (show IxR _ (rIxT K) from ix_tup) (pe_ix (show IxR _ (rIxL K) from ix_list) (pv 0) pe_int (fun _ _ => rfl)) pe_int (fun _ _ => rfl)) pe_int (fun _ _ => rfl)) (nomark _))))) (pss_one (ps_ret (pe_tup (pa_cons (pe_callB (show CallR _ _ (Z.cLen K) from Z.call_len) (by rfl) T.n_len (by decide +kernel) (pa_cons (pv 0) pa_nil)) (pa_cons pe_non pa_nil))))) pss_nil)
      (pss_cons (ps_set (i := 4) sc__law_due.nd rfl (Or.inl rfl) (pe_lst pa_nil))
      (pss_cons (ps_set (i := 5) sc__law_due.nd rfl (Or.inl rfl) pe_int)
      (pss_cons (ps_for PassesOwn.never rfl (pi_range1 rfl T.n_range (pa_cons (pe_callB (show CallR _ _ (Z.cLen K) from Z.call_len) (by rfl) T.n_len (by decide +kernel) (pa_cons (pv 0) pa_nil)) pa_nil)) (pg_name (i := 6) sc__law_due.nd rfl (Or.inl rfl)) (pss_one (ps_for PassesOwn.never rfl (pi_list (pv 0)) (pg_tup rfl (pgs_cons (pg_name (i := 3) sc__law_due.nd rfl (Or.inl rfl)) (pgs_cons (pg_name (i := 7) sc__law_due.nd rfl (Or.inl rfl)) pgs_nil))) (pss_one (ps_if (pt_cmpR op_eq (pe_ix (show IxR _ (rIxT K) from ix_tup) (pv 3) pe_int (fun _ _ => rfl)) (pv 6) (nomark _)) (pss_one (ps_set (i := 4) sc__law_due.nd rfl (Or.inl rfl) (pe_op op_cat (pv 4) (pv 7)))) pss_nil)))))
      (pss_cons (ps_for PassesOwn.never rfl (pi_list (pv 4)) (pg_name (i := 8) sc__law_due.nd rfl (Or.inl rfl)) (pss_one (ps_set (i := 5) sc__law_due.nd rfl (Or.inl rfl) (pe_op op_xor (pv 5) (pv 8)))))
      (pss_cons (ps_if (pt_cmpR op_ne (pv 5) (pe_ix (show IxR _ (rIxT K) from ix_tup) (pe_ix (show IxR _ (rIxT K) from ix_tup) (pe_ix (show IxR _ (rIxL K) from ix_list) (pv 0) pe_int (fun _ _ => rfl)) pe_int (fun _ _ => rfl)) pe_int (fun _ _ => rfl)) (nomark _)) (pss_one (ps_ret (pe_tup (pa_cons (pe_callB (show CallR _ _ (Z.cLen K) from Z.call_len) (by rfl) T.n_len (by decide +kernel) (pa_cons (pv 0) pa_nil)) (pa_cons pe_non pa_nil))))) pss_nil)
      (pss_one (ps_ret (pe_tup (pa_cons pe_non (pa_cons (pv 4) pa_nil))))))))))))), ?_⟩
    show (_ : L2.TS) _ [some _, none, none, none, none, none, none, none, none] H
    try simp only [Z.kx]
    have hsq : SqL K H p (Z.rl n fun k => V.ref (ps k)) := Z.sq_l hP.l
    have eL : ((Z.rl n fun k => V.ref (ps k)).length : Int) = (n : Int) := by rw [Z.rl_len]
    wtm_at "r"
    refine ⟨by decide, fun b nb => ?_⟩
    have hsq1 : SqL K (upd H b (.lst [])) p (Z.rl n fun k => V.ref (ps k)) := Z.s_sq (Z.s_upd nb) hsq
    wtm_at "r"
    rw [eL]
    have ret : ∀ {HH : Hp} {x y : V}, Same H HH → dueV (jnO n hs bs) HH x y → ∀ t, HH t = none → Q (.ref t) (upd HH t (.tup [x, y])) := fun {HH x y} s d t nt => by
      refine q t x y _ (s.trans (Z.s_upd nt)) L2.upd_same ?_
      cases e : jnO n hs bs with
      | error k => rw [e] at d; exact d
      | ok t' =>
        rw [e] at d
        obtain ⟨d1, l, d2, d3⟩ := d
        exact ⟨d1, l, d2, Z.s_upd nt _ _ d3⟩
    refine Z.rng_go n (by omega) ⟨by omega, by omega⟩ (fun i σ H2 => ∃ (x2 x3 : Option V), σ = [some (.ref p), some (.ref b), x2, x3, none, none, none, none, none] ∧ Same H H2 ∧ H2 b = some (.lst ((Z.rl i fun j => hIx (hs j)).map V.int)) ∧ ∀ j, j < i → badK hs j = false) ⟨none, none, rfl, Z.s_upd nb, L2.upd_same, fun j hj => absurd hj (Nat.not_lt_zero j)⟩ ?_ ?_
    · rintro i σ H2 hi ⟨x2, x3, rfl, s2, hb, ok⟩
      have P2 := hP.same (LamX.ExtN.of s2)
      have hsq2 : SqL K H2 p (Z.rl n fun k => V.ref (ps k)) := Z.sq_l P2.l
      have ht2 := P2.t i hi
      have hd := P2.h i hi
      wtm_at "r"
      refine Z.r_ixL hsq2 (show atI _ ((i : Nat) : Int) = some (V.ref (ps i)) from atI_nat (Z.rl_at _ hi)) ?_
      wtm_at "r"
      refine Z.r_ixT (Z.sq_t ht2) (v := hv i) rfl ?_
      wtm_at "r"
      have bad : badK hs i = true → dueV (jnO n hs bs) H2 (.int (i : Nat)) .non := fun h => by
        unfold jnO
        rw [fbad_some hi h ok]
        exact ⟨rfl, rfl⟩
      cases eh : hs i with
      | none =>
        rw [eh] at hd
        have hd' : hv i = .non := hd
        rw [hd']
        refine Z.r_isN ?_
        wtm_at "r"
        refine Z.i_dt rfl ?_
        wtm_at "r"
        exact ⟨by show 2 ≤ sizeLine; decide, fun t nt => ret s2 (bad (badK_none eh)) t nt⟩
      | some tr =>
      obtain ⟨ix, c, w⟩ := tr
      rw [eh] at hd
      obtain ⟨a, ea, ha⟩ := hd
      rw [ea]
      refine Z.r_isN ?_
      wtm_at "r"
      refine Z.i_df (fun z => by cases z) ?_
      obtain ⟨i0, c0, w0, a0, e0, ev0, h0⟩ : ∃ i0 c0 w0 a0, hs 0 = some (i0, c0, w0) ∧ hv 0 = .ref a0 ∧ H2 a0 = some (.tup [.int i0, .int c0, .int w0]) := by
        by_cases z : i = 0
        · subst z
          exact ⟨ix, c, w, a, eh, ea, ha⟩
        · obtain ⟨i', c', w', i0, _, e0, _⟩ := badK_ok (ok 0 (by omega))
          have hd0 := P2.h 0 (by omega)
          rw [e0] at hd0
          obtain ⟨a0, ea0, ha0⟩ := hd0
          exact ⟨i0, c', w', a0, e0, ea0, ha0⟩
      have ht0 := P2.t 0 (by omega)
      rw [ev0] at ht0
      have ebk := badK_two eh e0
      wtm_at "r"
      refine Z.r_ixT (Z.sq_t ha) (v := .int c) rfl ?_
      wtm_at "r"
      refine Z.r_ixL hsq2 (show atI _ ((0 : Nat) : Int) = some (V.ref (ps 0)) from atI_nat (Z.rl_at _ (by omega))) ?_
      wtm_at "r"
      refine Z.r_ixT (Z.sq_t ht0) (v := .ref a0) rfl ?_
      wtm_at "r"
      refine Z.r_ixT (Z.sq_t h0) (v := .int c0) rfl ?_
      wtm_at "r"
      by_cases hc : c = c0
      · refine Z.i_df (not_not_intro hc) ?_
        wtm_at "r"
        refine Z.r_ixT (Z.sq_t ha) (v := .int w) rfl ?_
        wtm_at "r"
        refine Z.r_ixL hsq2 (show atI _ ((0 : Nat) : Int) = some (V.ref (ps 0)) from atI_nat (Z.rl_at _ (by omega))) ?_
        wtm_at "r"
        refine Z.r_ixT (Z.sq_t ht0) (v := .ref a0) rfl ?_
        wtm_at "r"
        refine Z.r_ixT (Z.sq_t h0) (v := .int w0) rfl ?_
        wtm_at "r"
        by_cases hw : w = w0
        · refine Z.i_df (not_not_intro hw) ?_
          rw [show decide (¬ (c = c0 ∧ w = w0)) = false from decide_eq_false (fun z => z ⟨hc, hw⟩), Bool.false_or] at ebk
          wtm_at "r"
          refine Z.r_ixT (Z.sq_t ha) (v := .int ix) rfl ?_
          wtm_at "r"
          refine Z.r_inI (Z.sq_l hb) ?_
          wtm_at "r"
          with_reducible refine Z.i_2 (fun hm => ?_) (fun hm => ?_)
          · wtm_at "r"
            exact ⟨by show 2 ≤ sizeLine; decide, fun t nt => ret s2 (bad (ebk.trans (decide_eq_true hm))) t nt⟩
          · wtm_at "r"
            refine Z.r_ixT (Z.sq_t ha) (v := .int ix) rfl ?_
            wtm_at "r"
            refine Z.r_append hb (Z.szl (by rw [List.length_map, Z.rl_len]; omega)) ?_
            wtm_at "r"
            refine ⟨_, _, rfl, Z.s_mut s2 nb, ?_, fun j hj => ?_⟩
            · rw [L2.upd_same]
              refine congrArg (fun l => some (HO.lst l)) ?_
              unfold Z.rl
              rw [List.range_succ, List.map_append, List.map_append]
              show _ ++ [V.int ix] = _ ++ [V.int (hIx (hs i))]
              rw [eh]
              rfl
            · by_cases z : j < i
              · exact ok j z
              · obtain rfl : j = i := by omega
                exact ebk.trans (decide_eq_false hm)
        · refine Z.i_dt hw ?_
          rw [show decide (¬ (c = c0 ∧ w = w0)) = true from decide_eq_true (fun z => hw z.2), Bool.true_or] at ebk
          wtm_at "r"
          exact ⟨by show 2 ≤ sizeLine; decide, fun t nt => ret s2 (bad ebk) t nt⟩
      · refine Z.i_dt hc ?_
        rw [show decide (¬ (c = c0 ∧ w = w0)) = true from decide_eq_true (fun z => hc z.1), Bool.true_or] at ebk
        wtm_at "r"
        exact ⟨by show 2 ≤ sizeLine; decide, fun t nt => ret s2 (bad ebk) t nt⟩
    rintro σ H2 ⟨x2, x3, rfl, s2, hb, ok⟩
    have fn := fbad_none ok
    have P2 := hP.same (LamX.ExtN.of s2)
    have hsq2 : SqL K H2 p (Z.rl n fun k => V.ref (ps k)) := Z.sq_l P2.l
    clear hb hsq1
    wtm_at "r"
    rw [eL]
    by_cases h0 : n = 0
    · refine Z.i_dt (by omega) ?_
      wtm_at "r"
      rw [eL]
      refine ⟨by show 2 ≤ sizeLine; decide, fun t nt => ret s2 ?_ t nt⟩
      unfold jnO
      rw [fn]
      dsimp only
      rw [if_pos h0, h0]
      exact ⟨rfl, rfl⟩
    refine Z.i_df (by omega) ?_
    obtain ⟨i0, c, w, _, eh0, _, _⟩ := badK_ok (fbad_all fn 0 (by omega))
    have ej : jnO n hs bs = if (n : Int) ≠ c ∨ parI ((odL n hs).flatMap bs) ≠ w then .error n else .ok ((odL n hs).flatMap bs) := by
      unfold jnO
      rw [fn]
      dsimp only
      rw [if_neg h0, eh0]
    have hd0 := P2.h 0 (by omega)
    rw [eh0] at hd0
    obtain ⟨a0, ea0, ha0⟩ := hd0
    have ht0 := P2.t 0 (by omega)
    rw [ea0] at ht0
    wtm_at "r"
    rw [eL]
    refine Z.r_ixL hsq2 (show atI _ ((0 : Nat) : Int) = some (V.ref (ps 0)) from atI_nat (Z.rl_at _ (by omega))) ?_
    wtm_at "r"
    refine Z.r_ixT (Z.sq_t ht0) (v := .ref a0) rfl ?_
    wtm_at "r"
    refine Z.r_ixT (Z.sq_t ha0) (v := .int c) rfl ?_
    wtm_at "r"
    by_cases hc : (n : Int) = c
    rotate_left
    · refine Z.i_dt hc ?_
      wtm_at "r"
      rw [eL]
      refine ⟨by show 2 ≤ sizeLine; decide, fun t nt => ret s2 ?_ t nt⟩
      rw [ej, if_pos (.inl hc)]
      exact ⟨rfl, rfl⟩
    refine Z.i_df (not_not_intro hc) ?_
    have hall : ∀ k, k < n → 0 ≤ hIx (hs k) ∧ hIx (hs k) < n := fun k hk => by
      obtain ⟨i', c', w', i0', e1, e2, _⟩ := badK_ok (fbad_all fn k hk)
      rw [eh0] at e2
      cases e2
      have := hok k hk _ _ _ e1
      rw [e1]
      show 0 ≤ i' ∧ i' < n
      omega
    have etx : (List.range n).flatMap (selT n hs bs) = (odL n hs).flatMap bs := sel_od (ix := fun k => (hIx (hs k)).toNat) (fun k hk => by have := hall k hk; omega) (fun j k hj hk e => fbad_ix fn j k hj hk (by have := hall j hj; have := hall k hk; omega)) (fun k hk => by have := hall k hk; omega)
    have hlen : ∀ l : List Nat, (∀ k, k ∈ l → k < n) → (l.flatMap bs).length ≤ l.length * 3 := fun l h => flat_le fun k hk => hbl k (h k hk)
    wtm_at "r"
    refine ⟨by decide, fun b1 nb1 => ?_⟩
    have s3 : Same H (upd H2 b1 (.lst [])) := s2.trans (Z.s_upd nb1)
    have h3 : (upd H2 b1 (.lst [])) b1 = some (.lst []) := L2.upd_same
    have P3 := P2.same (LamX.ExtN.of (Z.s_upd (o := .lst []) nb1))
    generalize upd H2 b1 (.lst []) = H3 at s3 h3 P3 ⊢
    have hsq3 : SqL K H3 p (Z.rl n fun k => V.ref (ps k)) := Z.sq_l P3.l
    have parb : ∀ (x : Nat) (m : Nat), m ≤ n → (((List.range m).filter fun j => decide (hIx (hs j) = (x : Int))).flatMap bs).length ≤ 60 := fun x m hm => by
      have h1 := hlen ((List.range m).filter fun j => decide (hIx (hs j) = (x : Int))) fun k hk => by have := List.mem_range.mp (List.mem_filter.mp hk).1; omega
      have h2 := List.length_filter_le (fun j => decide (hIx (hs j) = (x : Int))) (List.range m)
      rw [List.length_range] at h2
      omega
    have selb : ∀ x, (selT n hs bs x).length ≤ 60 := fun x => parb x n (Nat.le_refl _)
    have accb : ∀ x, x ≤ n → ((List.range x).flatMap (selT n hs bs)).length ≤ 1200 := fun x hx => by
      have := flat_le (g := selT n hs bs) (m := 60) (l := List.range x) fun y _ => selb y
      rw [List.length_range] at this
      omega
    wtm_at "r"
    rw [eL]
    refine Z.rng_go n (by omega) ⟨by omega, by omega⟩ (fun x σ H4 => ∃ (tb : Addr) (y3 y6 y7 : Option V), σ = [some (.ref p), some (.ref b), x2, y3, some (.ref tb), some (.int 0), y6, y7, none] ∧ Same H H4 ∧ H4 tb = some (.lst (((List.range x).flatMap (selT n hs bs)).map V.int))) ⟨b1, _, _, _, rfl, s3, h3⟩ ?_ ?_
    · rintro x σ H4 hx ⟨tb, y3, y6, y7, rfl, s4, htb⟩
      have P4 := hP.same (LamX.ExtN.of s4)
      have hsq4 : SqL K H4 p (Z.rl n fun k => V.ref (ps k)) := Z.sq_l P4.l
      have ax := accb x (by omega)
      wtm_at "r"
      refine ⟨p, rfl, ⟨_, hsq4⟩, ?_⟩
      refine for_list (K := K) (xs := Z.rl n fun k => V.ref (ps k)) (fun j σ H5 => ∃ (tb : Addr) (y3 y7 : Option V), σ = [some (.ref p), some (.ref b), x2, y3, some (.ref tb), some (.int 0), some (.int (x : Nat)), y7, none] ∧ Same H H5 ∧ H5 tb = some (.lst (((List.range x).flatMap (selT n hs bs) ++ ((List.range j).filter fun j => decide (hIx (hs j) = (x : Int))).flatMap bs).map V.int))) ⟨tb, _, _, rfl, s4, by rw [htb]; simp⟩ ?_ ?_ ?_
      · rintro j σ H5 _ ⟨tb, y3, y7, rfl, s5, _⟩
        exact Z.sq_l (hP.same (LamX.ExtN.of s5)).l
      · rintro j y σ H5 ex ⟨tb, y3, y7, rfl, s5, htb⟩
        have hj : j < n := by
          have := (List.getElem?_eq_some_iff.mp ex).1
          rwa [Z.rl_len] at this
        rw [Z.rl_at _ hj] at ex
        cases ex
        have P5 := hP.same (LamX.ExtN.of s5)
        obtain ⟨i', c', w', i0', e1, _, _⟩ := badK_ok (fbad_all fn j hj)
        have hd := P5.h j hj
        rw [e1] at hd
        obtain ⟨a, ea, ha⟩ := hd
        have ht := P5.t j hj
        rw [ea] at ht
        have pj := parb x j (by omega)
        have hbj := P5.b j hj
        refine Z.r_prT (Z.sq_t ht) (by wtm_at "set") ?_
        wtm_at "r"
        refine Z.r_ixT (Z.sq_t ha) (v := .int i') rfl ?_
        wtm_at "r"
        have ei : hIx (hs j) = i' := by rw [e1]; rfl
        with_reducible refine Z.i_2 (fun h => ?_) (fun h => ?_)
        · wtm_at "r"
          refine Z.r_cat htb hbj (by rw [List.length_map, List.length_map, List.length_append]; have := hbl j hj; omega) fun u nu => ?_
          wtm_at "r"
          refine ⟨u, _, _, rfl, s5.trans (Z.s_upd nu), ?_⟩
          rw [L2.upd_same, ← List.map_append, List.append_assoc, List.range_succ, List.filter_append, List.flatMap_append, show ([j].filter fun j => decide (hIx (hs j) = (x : Int))) = [j] by rw [List.filter_cons, show decide (hIx (hs j) = (x : Int)) = true from decide_eq_true (by rw [ei]; exact h)]; rfl, List.flatMap_singleton]
        · wtm_at "r"
          refine ⟨tb, _, _, rfl, s5, ?_⟩
          rw [htb, List.range_succ, List.filter_append, show ([j].filter fun j => decide (hIx (hs j) = (x : Int))) = [] by rw [List.filter_cons, show decide (hIx (hs j) = (x : Int)) = false from decide_eq_false (by rw [ei]; exact h)]; rfl, List.append_nil]
      · rintro σ H5 ⟨tb, y3, y7, rfl, s5, htb⟩
        rw [Z.rl_len] at htb
        refine ⟨tb, _, _, _, rfl, s5, ?_⟩
        rw [htb, List.range_succ, List.flatMap_append, List.flatMap_singleton]
        rfl
    rintro σ H4 ⟨tb, y3, y6, y7, rfl, s4, htb⟩
    rw [etx] at htb
    have htq : SqL K H4 tb (((odL n hs).flatMap bs).map V.int) := Z.sq_l htb
    have P4 := hP.same (LamX.ExtN.of s4)
    clear P2 P3 hsq2 hsq3 ht0 ha0 s2 s3 h3 nb1
    have hsq4 : SqL K H4 p (Z.rl n fun k => V.ref (ps k)) := Z.sq_l P4.l
    have hd0 := P4.h 0 (by omega)
    rw [eh0] at hd0
    obtain ⟨a0', ea0', ha0⟩ := hd0
    rw [ea0] at ea0'
    cases ea0'
    have ht0 := P4.t 0 (by omega)
    rw [ea0] at ht0
    wtm_at "r"
    refine Z.lst_go htq (fun i σ H5 => ∃ y8 : Option V, σ = [some (.ref p), some (.ref b), x2, y3, some (.ref tb), some (.int (parI (((odL n hs).flatMap bs).take i))), y6, y7, y8] ∧ H5 = H4) ⟨none, rfl, rfl⟩ ?_ ?_ ?_
    · rintro i σ H5 _ ⟨y8, rfl, rfl⟩
      exact htq
    · rintro i x σ H5 ex ⟨y8, rfl, rfl⟩
      obtain ⟨z, ez, rfl⟩ := Z.get_map ex
      wtm_at "r"
      refine ⟨some (.int z), ?_, rfl⟩
      rw [List.take_add_one, ez]
      unfold parI
      rw [List.foldl_append]
      rfl
    rintro σ H5 ⟨y8, rfl, rfl⟩
    rw [List.length_map, List.take_length]
    wtm_at "r"
    refine Z.r_ixL hsq4 (show atI _ ((0 : Nat) : Int) = some (V.ref (ps 0)) from atI_nat (Z.rl_at _ (by omega))) ?_
    wtm_at "r"
    refine Z.r_ixT (Z.sq_t ht0) (v := .ref a0) rfl ?_
    wtm_at "r"
    refine Z.r_ixT (Z.sq_t ha0) (v := .int w) rfl ?_
    wtm_at "r"
    with_reducible refine Z.i_2 (fun h => ?_) (fun h => ?_)
    · wtm_at "r"
      rw [eL]
      refine ⟨by show 2 ≤ sizeLine; decide, fun t nt => ret s4 ?_ t nt⟩
      rw [ej, if_pos (.inr h)]
      exact ⟨rfl, rfl⟩
    · wtm_at "r"
      refine ⟨by show 2 ≤ sizeLine; decide, fun t nt => ret s4 ?_ t nt⟩
      rw [ej, if_neg (fun z => z.elim (fun z => z hc) h)]
      exact ⟨rfl, tb, rfl, htb⟩
end
def RowsS (H : Hp) (p : Addr) (n : Nat) (f : Nat → List Int) (rs : Nat → Addr) : Prop := H p = some (.lst (Z.rl n fun i => V.ref (rs i))) ∧ ∀ i, i < n → H (rs i) = some (.lst ((f i).map V.int))
theorem da_rowsS {r : Z.Rg} {H : Hp} {x : V} {n : Nat} {ds : Nat → PyData} {f : Nat → List Int} (h : Z.Da r H x (.list (Z.rl n ds))) (e : ∀ i, i < n → ds i = .list ((f i).map PyData.int)) : ∃ p rs, x = .ref p ∧ RowsS H p n f rs := by
  obtain ⟨p, xs, rfl, rp, hp, l⟩ := Z.da_lst h
  have hl : xs.length = n := by rw [l.len, Z.rl_len]
  have row : ∀ i, i < n → ∃ a, xs[i]? = some (V.ref a) ∧ H a = some (.lst ((f i).map V.int)) := fun i hi => by
    obtain ⟨y, ey⟩ : ∃ y, xs[i]? = some y := ⟨_, List.getElem?_eq_getElem (by omega)⟩
    obtain ⟨d, ed, hd⟩ := l.at' ey
    rw [Z.rl_at _ hi] at ed
    cases ed
    rw [e i hi] at hd
    obtain ⟨a, ys, rfl, _, ha, l2⟩ := Z.da_lst hd
    exact ⟨a, ey, by rw [ha, Z.dal_ints l2]⟩
  refine ⟨p, fun i => if h : i < n then (row i h).choose else 0, rfl, ?_, fun i hi => ?_⟩
  · rw [hp]
    refine congrArg (fun z => some (HO.lst z)) (List.ext_getElem? fun i => ?_)
    by_cases hi : i < n
    · rw [Z.rl_at _ hi]; simp only [dif_pos hi]; exact (row i hi).choose_spec.1
    · rw [List.getElem?_eq_none (by omega), List.getElem?_eq_none (by rw [Z.rl_len]; omega)]
  · simp only [dif_pos hi]; exact (row i hi).choose_spec.2
theorem r_popAt {l : Addr} {xs : List V} {i : Int} {m : Nat} {y : V} {H : Hp} {Q : VK} (h : H l = some (.lst xs)) (e : i = (m : Int)) (hm : xs[m]? = some y) (hb : m < 100000) (q : Q y (upd H l (.lst (xs.eraseIdx m)))) : rPopAt (.ref l) [.int i] H Q := by
  subst e
  have := (List.getElem?_eq_some_iff.mp hm).1
  exact ⟨l, xs, (m : Nat), m, y, rfl, rfl, h, by omega, by omega, seqIndex_of (by omega) (by omega), hm, q⟩
theorem mod_nat {z : Int} {n : Nat} (h : 0 < n) : ∃ m : Nat, z % (n : Int) = (m : Int) ∧ m < n := by
  have a1 := Int.emod_nonneg z (show (n : Int) ≠ 0 by omega)
  have a2 := Int.emod_lt_of_pos z (show 0 < (n : Int) by omega)
  exact ⟨_, (Int.toNat_of_nonneg a1).symm, by omega⟩
section
variable {P : Program} {w : World} {K : PySem.W.Frag} {mg : Str → Option Value} {base : Heap}
def sp__law_pairs (K : PySem.W.Frag) : Sp := fun vs H Q _ => ∃ (a : Addr) (ns : List Int), vs = [.ref a] ∧ SqL K H a (ns.map V.int) ∧ ns.length ≤ 63 ∧ ∀ x n ps hv bl hs bs H1, Same H H1 → Prs H1 x n ps hv bl hs bs → n ≤ 8 → (∀ k, k < n → (bs k).length ≤ 3) → (∀ k, k < n → Hok (hs k)) → Q (.ref x) H1
set_option maxHeartbeats 2000000 in
theorem ok__law_pairs (T : Top K mg) : FnOk P w K mg base CX0 2 T.a__law_pairs T.d__law_pairs pl__law_pairs (sp__law_pairs K) := by
  refine T.F__law_pairs.ok sc__law_pairs (fun vs H Q E h => ?_) (fun cdv A outer s H vs Q E hr h => ?_)
  · obtain ⟨a, ns, rfl, _⟩ := h
    rfl
  · obtain ⟨a, ns, rfl, hS, hn, qq⟩ := h
    have hu := hu_of hr
    refine ⟨_, (pss_cons (ps_set (i := 1) sc__law_pairs.nd rfl (by first | exact Or.inr rfl | exact Or.inl rfl) (pe_call (ok__law_draw T) (hr.mono (by decide)) (by rfl) T.g__law_draw T.F__law_draw.kp T.b__law_draw .nil pass0 (pa_cons (pe_call (ok__law_cell T) (hr.mono (by decide)) (by rfl) T.g__law_cell T.F__law_cell.kp T.b__law_cell .nil pass0 (pa_cons (pv 0) (pa_cons pe_int pa_nil))) (pa_cons pe_int (pa_cons (pe_op op_shl pe_int pe_int) pa_nil)))))
      (pss_cons (ps_set (i := 2) sc__law_pairs.nd rfl (by first | exact Or.inr rfl | exact Or.inl rfl) (pe_op op_add pe_int (pe_op op_mod (pe_ix (show IxR _ (rIxL K) from ix_list) (pv 1) pe_int (fun _ _ => rfl)) pe_int)))
      (pss_cons (ps_set (i := 3) sc__law_pairs.nd rfl (Or.inr rfl) (pe_lc (own := [("k", 4)]) (tt := tYes) rfl sc__law_pairs.nd (pi_range1 rfl T.n_range (pa_cons (pv 2) pa_nil)) (blkOk_by (N := sl__law_pairs) (sc := defScope s__law_pairs) (by decide +kernel)) (fun _ _ _ _ _ => (pg_name (i := 4) sc__law_pairs.nd rfl (Or.inl rfl))) (fun _ _ _ _ _ => pts_nil) (fun _ _ _ _ _ => (pe_call (ok__law_draw T) (hr.mono (by decide)) (by rfl) T.g__law_draw T.F__law_draw.kp T.b__law_draw .nil pass0 (pa_cons (pe_call (ok__law_cell T) (hr.mono (by decide)) (by rfl) T.g__law_cell T.F__law_cell.kp T.b__law_cell .nil pass0 (pa_cons (pv 0) (pa_cons (pe_op op_add pe_int (pv 4)) pa_nil))) (pa_cons (pe_op op_mod (pe_op op_fdiv (pe_ix (show IxR _ (rIxL K) from ix_list) (pv 1) pe_int (fun _ _ => rfl)) (pe_op op_add (pv 4) pe_int)) pe_int) (pa_cons pe_int pa_nil)))))))
      (pss_cons (ps_set (i := 5) sc__law_pairs.nd rfl (by first | exact Or.inr rfl | exact Or.inl rfl) pe_int)
      (pss_cons (ps_for PassesOwn.never rfl (pi_list (pv 3)) (pg_name (i := 6) sc__law_pairs.nd rfl (Or.inl rfl)) (pss_one (ps_for PassesOwn.never rfl (pi_list (pv 6)) (pg_name (i := 7) sc__law_pairs.nd rfl (Or.inl rfl)) (pss_one (ps_set (i := 5) sc__law_pairs.nd rfl (by first | exact Or.inr rfl | exact Or.inl rfl) (pe_op op_xor (pv 5) (pv 7)))))))
      (pss_cons (ps_setLc (i := 8) (own := [("k", 4)]) (tt := tYes) rfl sc__law_pairs.nd rfl rfl (sw_true rfl rfl rfl (by decide +kernel)) (pi_range1 rfl T.n_range (pa_cons (pv 2) pa_nil)) (blkOk_by (N := sl__law_pairs) (sc := defScope s__law_pairs) (by decide +kernel)) (fun _ _ _ _ _ => (pg_name (i := 4) sc__law_pairs.nd rfl (Or.inl rfl))) (fun _ _ _ _ _ => pts_nil) (fun _ _ _ _ _ => (pe_tup (pa_cons (pe_tup (pa_cons (pv 4) (pa_cons (pv 2) (pa_cons (pv 5) pa_nil)))) (pa_cons (pe_ix (show IxR _ (rIxL K) from ix_list) (pv 3) (pv 4) (fun _ _ => rfl)) pa_nil)))))
      (pss_cons (ps_set (i := 9) sc__law_pairs.nd rfl (Or.inl rfl) (pe_call (ok__law_draw T) (hr.mono (by decide)) (by rfl) T.g__law_draw T.F__law_draw.kp T.b__law_draw .nil pass0 (pa_cons (pe_call (ok__law_cell T) (hr.mono (by decide)) (by rfl) T.g__law_cell T.F__law_cell.kp T.b__law_cell .nil pass0 (pa_cons (pv 0) (pa_cons pe_int pa_nil))) (pa_cons (pv 2) (pa_cons (pe_op op_shl pe_int pe_int) pa_nil)))))
      (pss_cons (ps_set (i := 10) sc__law_pairs.nd rfl (by first | exact Or.inr rfl | exact Or.inl rfl) (pe_lst pa_nil))
      (pss_cons (ps_for PassesOwn.never rfl (pi_range1 rfl T.n_range (pa_cons (pv 2) pa_nil)) (pg_name (i := 4) sc__law_pairs.nd rfl (Or.inl rfl)) (pss_one (ps_expr (pe_bm PySem.F.plainAttrs_list PySem.F.slot_list_append PySem.F.type_list_append mt_append (pv 10) (pa_cons (pe_bm PySem.F.plainAttrs_list PySem.F.slot_list_pop PySem.F.type_list_pop mt_popAt (pv 8) (pa_cons (pe_op op_mod (pe_ix (show IxR _ (rIxL K) from ix_list) (pv 9) (pv 4) (fun _ _ => rfl)) (pe_callB (show CallR _ _ (Z.cLen K) from Z.call_len) (by rfl) T.n_len (by decide +kernel) (pa_cons (pv 8) pa_nil))) pa_nil)) pa_nil)))))
      (C8.pss_cut (ps_if (pt_cmpR op_eq (pe_op op_mod (pe_ix (show IxR _ (rIxL K) from ix_list) (pv 1) pe_int (fun _ _ => rfl)) pe_int) pe_int (nomark _)) (pss_one (ps_expr (pe_bm PySem.F.plainAttrs_list PySem.F.slot_list_pop PySem.F.type_list_pop mt_popAt (pv 10) (pa_cons (pe_op op_mod (pe_ix (show IxR _ (rIxL K) from ix_list) (pv 1) pe_int (fun _ _ => rfl)) (pe_callB (show CallR _ _ (Z.cLen K) from Z.call_len) (by rfl) T.n_len (by decide +kernel) (pa_cons (pv 10) pa_nil))) pa_nil)))) pss_nil)
      (C8.pss_cut (ps_if (PW.pt (pw_and (pt_cmpR op_eq (pe_op op_mod (pe_op op_fdiv (pe_ix (show IxR _ (rIxL K) from ix_list) (pv 1) pe_int (fun _ _ => rfl)) pe_int) pe_int) pe_int (nomark _)) (pw_and1 (pt_cmpR op_gt (pe_callB (show CallR _ _ (Z.cLen K) from Z.call_len) (by rfl) T.n_len (by decide +kernel) (pa_cons (pv 10) pa_nil)) pe_int (nomark _))))) (pss_one (ps_expr (pe_bm PySem.F.plainAttrs_list PySem.F.slot_list_insert PySem.F.type_list_insert mt_insert (pv 10) (pa_cons (pe_op op_mod (pe_ix (show IxR _ (rIxL K) from ix_list) (pv 1) pe_int (fun _ _ => rfl)) (pe_callB (show CallR _ _ (Z.cLen K) from Z.call_len) (by rfl) T.n_len (by decide +kernel) (pa_cons (pv 10) pa_nil))) (pa_cons (pe_ix (show IxR _ (rIxL K) from ix_list) (pv 10) (pe_op op_mod (pe_ix (show IxR _ (rIxL K) from ix_list) (pv 1) pe_int (fun _ _ => rfl)) (pe_callB (show CallR _ _ (Z.cLen K) from Z.call_len) (by rfl) T.n_len (by decide +kernel) (pa_cons (pv 10) pa_nil))) (fun _ _ => rfl)) pa_nil))))) pss_nil)
      (pss_cons (ps_if (pt_cmpR op_gt (pe_op op_mod (pe_op op_fdiv (pe_ix (show IxR _ (rIxL K) from ix_list) (pv 1) pe_int (fun _ _ => rfl)) pe_int) pe_int) pe_int (nomark _)) (pss_one (ps_set (i := 10) sc__law_pairs.nd rfl (Or.inr rfl) (pe_lc (own := [("k", 4)]) (tt := tYes) rfl sc__law_pairs.nd (pi_range1 rfl T.n_range (pa_cons (pe_callB (show CallR _ _ (Z.cLen K) from Z.call_len) (by rfl) T.n_len (by decide +kernel) (pa_cons (pv 10) pa_nil)) pa_nil)) (blkOk_by (N := sl__law_pairs) (sc := defScope s__law_pairs) (by decide +kernel)) (fun _ _ _ _ _ => (pg_name (i := 4) sc__law_pairs.nd rfl (Or.inl rfl))) (fun _ _ _ _ _ => pts_nil) (fun _ _ _ _ _ => (pe_call (ok__law_changed T) (hr.mono (by decide)) (by rfl) T.g__law_changed T.F__law_changed.kp T.b__law_changed .nil pass0 (pa_cons (pe_ix (show IxR _ (rIxL K) from ix_list) (pv 10) (pv 4) (fun _ _ => rfl)) (pa_cons (pe_call (ok__law_draw T) (hr.mono (by decide)) (by rfl) T.g__law_draw T.F__law_draw.kp T.b__law_draw .nil pass0 (pa_cons (pe_call (ok__law_cell T) (hr.mono (by decide)) (by rfl) T.g__law_cell T.F__law_cell.kp T.b__law_cell .nil pass0 (pa_cons (pv 0) (pa_cons (pe_op op_add pe_int (pv 4)) pa_nil))) (pa_cons pe_int (pa_cons (pe_op op_shl pe_int pe_int) pa_nil)))) pa_nil))))))) pss_nil)
      (pss_one (ps_ret (pv 10))))))))))))))), ?_⟩
    show (_ : L2.TS) _ [some _, none, none, none, none, none, none, none, none, none, none] H
    try simp only [Z.kx]
    wtm_at "r"
    refine ⟨a, ns, 0, rfl, hS, by decide, fun c0 => ?_⟩
    wtm_at "r"
    refine ⟨c0, 6, 1048576, rfl, by decide, by decide, by decide, by decide, fun pz zs H1 s1 npz hz zl zb => ?_⟩
    obtain ⟨z0, z1, z2, z3, z4, z5, rfl⟩ := Z.len6 (ns := zs) (by omega)
    have zq : SqL K H1 pz (([z0, z1, z2, z3, z4, z5] : List Int).map V.int) := Z.sq_l hz
    have hS1 := Z.s_sq s1 hS
    wtm_at "r"
    refine Z.r_ixL zq (v := .int z0) rfl ?_
    wtm_at "r"
    obtain ⟨c, ec, hc1, hc7⟩ : ∃ c : Nat, 1 + z0 % 7 = (c : Int) ∧ 1 ≤ c ∧ c ≤ 7 := ⟨(1 + z0 % 7).toNat, by omega, by omega, by omega⟩
    rw [ec]
    wtm_at "r"
    refine Z.lcr_dataE c (fun a => H1 a = none) (fun _ d => ∃ bs : List Int, d = .list (bs.map .int) ∧ bs.length ≤ 3) (by omega) ⟨by omega, by omega⟩ (by omega) (fun _ => rfl) (fun _ h => h) ?_ ?_
    · intro k H2 hk s2 KY ky
      wtm_at "w"
      wtm_at "r"
      rw [show (1 : Int) + (k : Nat) = ((1 + k : Nat) : Int) by push_cast; rfl]
      refine ⟨a, ns, 1 + k, rfl, Z.s_sq s2 hS1, by omega, fun z => ?_⟩
      wtm_at "r"
      refine Z.r_ixL (Z.s_sq s2 zq) (v := .int z1) rfl ?_
      wtm_at "r"
      refine ⟨z, z1 / ((k : Int) + 1) % 4, 256, rfl, by omega, by omega, by decide, by decide, fun q bs H3 s3 nq hq bl bb => ?_⟩
      exact ky _ _ _ s3 ⟨bs, rfl, by omega⟩ (.lst (.inl nq) hq (Z.DaL.ints _))
    intro D H2 ds nD s2 hds ow
    obtain ⟨bf, hbf⟩ : ∃ bf : Nat → List Int, ∀ k, k < c → ds k = .list ((bf k).map .int) ∧ (bf k).length ≤ 3 := ⟨fun k => if h : k < c then (hds k h).choose else [], fun k hk => by simp only [dif_pos hk]; exact (hds k hk).choose_spec⟩
    obtain ⟨D', rs, eD, R2⟩ := da_rowsS (f := bf) ow.da fun k hk => (hbf k hk).1
    cases eD
    have s02 := s1.trans s2
    have hS2 := Z.s_sq s2 hS1
    have zq2 := Z.s_sq s2 zq
    have hz2 := s2 _ _ hz
    have hDq : SqL K H2 D (Z.rl c fun i => V.ref (rs i)) := Z.sq_l R2.1
    clear ow hds s1 s2 nD zq hS1 hz
    wtm_at "r"
    refine Z.lst_go hDq (fun i σ H3 => ∃ (tot : Int) (x6 x7 : Option V), σ = [some (.ref a), some (.ref pz), some (.int (c : Nat)), some (.ref D), none, some (.int tot), x6, x7, none, none, none] ∧ H3 = H2) ⟨0, none, none, rfl, rfl⟩ ?_ ?_ ?_
    · rintro i σ H3 _ ⟨tot, x6, x7, rfl, rfl⟩
      exact hDq
    · rintro i x σ H3 ex ⟨tot, x6, x7, rfl, rfl⟩
      have hi : i < c := by
        have := (List.getElem?_eq_some_iff.mp ex).1
        rwa [Z.rl_len] at this
      rw [Z.rl_at _ hi] at ex
      cases ex
      have hrq : SqL K H3 (rs i) ((bf i).map V.int) := Z.sq_l (R2.2 i hi)
      wtm_at "r"
      refine Z.lst_go hrq (fun j σ H4 => ∃ (tot : Int) (x7 : Option V), σ = [some (.ref a), some (.ref pz), some (.int (c : Nat)), some (.ref D), none, some (.int tot), some (.ref (rs i)), x7, none, none, none] ∧ H4 = H3) ⟨_, _, rfl, rfl⟩ ?_ ?_ ?_
      · rintro j σ H4 _ ⟨tot, x7, rfl, rfl⟩
        exact hrq
      · rintro j x σ H4 ex ⟨tot, x7, rfl, rfl⟩
        obtain ⟨z, ez, rfl⟩ := Z.get_map ex
        wtm_at "r"
        exact ⟨_, _, rfl, rfl⟩
      · rintro σ H4 ⟨tot, x7, rfl, rfl⟩
        exact ⟨_, _, _, rfl, rfl⟩
    rintro σ H3 ⟨tot, x6, x7, rfl, rfl⟩
    wtm_at "r"
    refine Z.lcr_data c (fun _ => True) (fun k => itD (some ((k : Nat), (c : Nat), tot)) (bf k)) (by omega) ⟨by omega, by omega⟩ (by omega) (fun _ => rfl) (fun _ _ => trivial) ?_ ?_
    · intro k H4 hk s4 KY ky
      have hrk := R2.2 k hk
      wtm_at "w"
      wtm_at "r"
      refine ⟨by show 3 ≤ sizeLine; decide, fun u nu => ?_⟩
      have su : Same H4 (upd H4 u (.tup [.int (k : Nat), .int (c : Nat), .int tot])) := Z.s_upd nu
      have hu : (upd H4 u (.tup [.int (k : Nat), .int (c : Nat), .int tot])) u = some (.tup [.int (k : Nat), .int (c : Nat), .int tot]) := L2.upd_same
      show tCons _ _ _ (upd H4 u (.tup [.int (k : Nat), .int (c : Nat), .int tot])) _
      generalize upd H4 u (.tup [.int (k : Nat), .int (c : Nat), .int tot]) = H5 at su hu ⊢
      wtm_at "r"
      refine Z.r_ixL (Z.s_sq (s4.trans su) hDq) (show atI _ ((k : Nat) : Int) = some (V.ref (rs k)) from atI_nat (Z.rl_at _ hk)) ?_
      wtm_at "r"
      refine ⟨by show 2 ≤ sizeLine; decide, fun v nv => ?_⟩
      have sv : Same H5 (upd H5 v (.tup [.ref u, .ref (rs k)])) := Z.s_upd nv
      exact ky _ _ (su.trans sv) (it_da (.inl (Z.s_back su nv)) (.inl nu) (.inr ⟨trivial, by rw [hrk]; simp⟩) L2.upd_same (sv _ _ hu) ((s4.trans (su.trans sv)) _ _ hrk))
    intro pf H4 npf s4 ow4
    obtain ⟨pf', fs, hvf, fb, e, _, F4, _⟩ := da_prs (n := c) (hs := fun k => some ((k : Nat), (c : Nat), tot)) (bs := bf) ow4.da
    cases e
    have s04 := s02.trans s4
    have nzf : pz ≠ pf := fun z => by rw [z, npf] at hz2; cases hz2
    have hz4 := s4 _ _ hz2
    have hS4 := Z.s_sq s4 hS2
    have zq4 := Z.s_sq s4 zq2
    have npf0 : H pf = none := Z.s_back s02 npf
    clear ow4 s02 s4 hS2 zq2 R2 hDq npf
    wtm_at "r"
    refine ⟨a, ns, 8, rfl, hS4, by decide, fun z8 => ?_⟩
    wtm_at "r"
    refine ⟨z8, c, 1048576, rfl, by omega, by omega, by decide, by decide, fun pr os H5 s5 npr hr rl5 rb => ?_⟩
    have F5 := F4.same (LamX.ExtN.of s5)
    have s05 := s04.trans s5
    have hS5 := Z.s_sq s5 hS4
    have hz5 := s5 _ _ hz4
    have nrf : pr ≠ pf := fun z => by have := F4.l; rw [← z, npr] at this; cases this
    clear F4 s04 hS4 zq4 s5 npr
    wtm_at "r"
    refine ⟨by decide, fun po npo => ?_⟩
    have npo0 : H po = none := Z.s_back s05 npo
    have ne5 : ∀ x o, H5 x = some o → x ≠ po := fun x o e z => by rw [z, npo] at e; cases e
    have npp : po ≠ pf := fun z => by have := F5.l; rw [← z, npo] at this; cases this
    have nfx : ∀ k, k < c → fs k ≠ pf := fun k hk z => by have := F5.t k hk; rw [z, F5.l] at this; cases this
    have nfb : ∀ k, k < c → fb k ≠ pf := fun k hk z => by
      have h := F5.b k hk
      rw [z, F5.l] at h
      have h := HO.lst.inj (Option.some.inj h)
      have h0 : (Z.rl c fun k => V.ref (fs k))[0]? = ((bf k).map V.int)[0]? := congrArg (fun l : List V => l[0]?) h
      rw [Z.rl_at _ (by omega), List.getElem?_map] at h0
      cases e : (bf k)[0]? with
      | none => rw [e] at h0; cases h0
      | some y => rw [e] at h0; cases h0
    wtm_at "r"
    refine Z.rng_go c (by omega) ⟨by omega, by omega⟩ (fun k σ HX => ∃ (x4 : Option V) (xs ys : List Nat), σ = [some (.ref a), some (.ref pz), some (.int (c : Nat)), some (.ref D), x4, some (.int tot), x6, x7, some (.ref pf), some (.ref pr), some (.ref po)] ∧ (∀ a o, H5 a = some o → a ≠ pf → HX a = some o) ∧ HX pf = some (.lst (xs.map fun k => V.ref (fs k))) ∧ HX po = some (.lst (ys.map fun k => V.ref (fs k))) ∧ (∀ y, y ∈ xs ∨ y ∈ ys → y < c) ∧ xs.length + k = c ∧ ys.length = k) ⟨_, List.range c, [], rfl, fun a o e _ => (L2.upd_ne (ne5 a o e)).trans e, (L2.upd_ne npp.symm).trans F5.l, L2.upd_same, fun y hy => hy.elim List.mem_range.mp (fun h => by cases h), by rw [List.length_range]; rfl, rfl⟩ ?_ ?_
    · rintro k σ HX hk ⟨x4, xs, ys, rfl, kX, hfX, hoX, hm, hxl, hyl⟩
      have hrX : SqL K HX pr (os.map V.int) := Z.sq_l (kX _ _ hr nrf)
      have hkr : k < os.length := by omega
      wtm_at "r"
      refine Z.r_ixL hrX (Z.at_map rfl (List.getElem?_eq_getElem hkr)) ?_
      wtm_at "r"
      rw [List.length_map]
      obtain ⟨m, em, hmx⟩ := mod_nat (z := os[k]) (n := xs.length) (by omega)
      refine Z.r_I (by omega) ?_
      rw [em]
      wtm_at "r"
      refine r_popAt hfX rfl (y := .ref (fs xs[m])) (by rw [List.getElem?_map, List.getElem?_eq_getElem hmx]; rfl) (by omega) ?_
      rw [erase_map]
      have hoX' : (upd HX pf (.lst ((xs.eraseIdx m).map fun k => V.ref (fs k)))) po = some (.lst (ys.map fun k => V.ref (fs k))) := (L2.upd_ne npp).trans hoX
      wtm_at "r"
      refine ⟨_, xs.eraseIdx m, ys ++ [xs[m]], rfl, fun a o e ne => (L2.upd_ne (ne5 a o e)).trans ((L2.upd_ne ne).trans (kX a o e ne)), (L2.upd_ne npp.symm).trans L2.upd_same, ?_, fun y hy => ?_, ?_, by rw [List.length_append, hyl]; rfl⟩
      · rw [L2.upd_same, List.map_append]
        rfl
      · rcases hy with hy | hy
        · exact hm y (.inl (List.mem_of_mem_eraseIdx hy))
        · rcases List.mem_append.mp hy with hy | hy
          · exact hm y (.inr hy)
          · rw [List.mem_singleton.mp hy]; exact hm _ (.inl (List.getElem_mem _))
      · have := List.length_eraseIdx_of_lt hmx
        omega
    rintro σ HX ⟨x4, xs, ys, rfl, kX, hfX, hoX, hm, hxl, hyl⟩
    have hm : ∀ y, y ∈ ys → y < c := fun y hy => hm y (.inr hy)
    have keep0 : ∀ {HZ : Hp}, (∀ x o, H5 x = some o → x ≠ pf → HZ x = some o) → Same H HZ := fun {HZ} k x o e => k x o (s05 _ _ e) (fun z => by rw [z, npf0] at e; cases e)
    have fin : ∀ {HZ : Hp} {ys : List Nat}, (∀ x o, H5 x = some o → x ≠ pf → HZ x = some o) → HZ po = some (.lst (ys.map fun k => V.ref (fs k))) → (∀ y, y ∈ ys → y < c) → Prs HZ po ys.length (fun j => fs (ys.getD j 0)) (fun j => hvf (ys.getD j 0)) (fun j => fb (ys.getD j 0)) (fun j => some (((ys.getD j 0 : Nat) : Int), (c : Nat), tot)) (fun j => bf (ys.getD j 0)) := fun {HZ ys} k hp hy => by
      have ylt : ∀ j, j < ys.length → ys.getD j 0 < c := fun j hj => hy _ (by rw [List.getD_eq_getElem?_getD, List.getElem?_eq_getElem hj]; exact List.getElem_mem _)
      refine ⟨?_, fun j hj => k _ _ (F5.t _ (ylt j hj)) (nfx _ (ylt j hj)), fun j hj => ?_, fun j hj => k _ _ (F5.b _ (ylt j hj)) (nfb _ (ylt j hj))⟩
      · rw [hp, ← Z.map_idx ys 0 fun k => V.ref (fs k)]
        rfl
      · obtain ⟨ak, eak, hak⟩ := F5.h _ (ylt j hj)
        exact ⟨ak, eak, k _ _ hak fun z => by rw [z, F5.l] at hak; cases hak⟩
    refine Z.r_cut (fun σ HZ => ∃ ys : List Nat, σ = [some (.ref a), some (.ref pz), some (.int (c : Nat)), some (.ref D), x4, some (.int tot), x6, x7, some (.ref pf), some (.ref pr), some (.ref po)] ∧ (∀ x o, H5 x = some o → x ≠ pf → HZ x = some o) ∧ HZ po = some (.lst (ys.map fun k => V.ref (fs k))) ∧ (∀ y, y ∈ ys → y < c) ∧ ys.length ≤ 7) ?_ ?_
    · have zqX : SqL K HX pz (([z0, z1, z2, z3, z4, z5] : List Int).map V.int) := Z.sq_l (kX _ _ hz5 nzf)
      wtm_at "w"
      wtm_at "r"
      refine Z.r_ixL zqX (v := .int z2) rfl ?_
      wtm_at "r"
      with_reducible refine Z.i_2 (fun h => ?_) (fun h => ?_)
      · wtm_at "r"
        refine Z.r_ixL zqX (v := .int z3) rfl ?_
        wtm_at "r"
        rw [List.length_map]
        obtain ⟨m, em, hmx⟩ := mod_nat (z := z3) (n := ys.length) (by omega)
        refine Z.r_I (by omega) ?_
        rw [em]
        wtm_at "r"
        refine r_popAt hoX rfl (y := .ref (fs ys[m])) (by rw [List.getElem?_map, List.getElem?_eq_getElem hmx]; rfl) (by omega) ?_
        rw [erase_map]
        wtm_at "r"
        refine ⟨ys.eraseIdx m, rfl, fun x o e ne => (L2.upd_ne (ne5 x o e)).trans (kX x o e ne), L2.upd_same, fun y hy => hm y (List.mem_of_mem_eraseIdx hy), ?_⟩
        have := List.length_eraseIdx_of_lt hmx
        omega
      · wtm_at "r"
        exact ⟨ys, rfl, kX, hoX, hm, by omega⟩
    clear kX hfX hoX hm hxl hyl
    rintro σ HX ⟨ys, rfl, kX, hoX, hm, hyl⟩
    refine Z.r_cut (fun σ HZ => ∃ ys : List Nat, σ = [some (.ref a), some (.ref pz), some (.int (c : Nat)), some (.ref D), x4, some (.int tot), x6, x7, some (.ref pf), some (.ref pr), some (.ref po)] ∧ (∀ x o, H5 x = some o → x ≠ pf → HZ x = some o) ∧ HZ po = some (.lst (ys.map fun k => V.ref (fs k))) ∧ (∀ y, y ∈ ys → y < c) ∧ ys.length ≤ 8) ?_ ?_
    · have zqX : SqL K HX pz (([z0, z1, z2, z3, z4, z5] : List Int).map V.int) := Z.sq_l (kX _ _ hz5 nzf)
      have hoq : SqL K HX po (ys.map fun k => V.ref (fs k)) := Z.sq_l hoX
      wtm_at "w"
      wtm_at "r"
      refine Z.r_ixL zqX (v := .int z2) rfl ?_
      wtm_at "r"
      with_reducible refine Z.i_2 (fun h => ?_) (fun h => ?_)
      · wtm_at "r"
        rw [List.length_map]
        by_cases hl : 0 < ys.length
        · refine Z.i_dt (by omega) ?_
          wtm_at "r"
          refine Z.r_ixL zqX (v := .int z3) rfl ?_
          wtm_at "r"
          rw [List.length_map]
          obtain ⟨m, em, hmx⟩ := mod_nat (z := z3) (n := ys.length) (by omega)
          refine Z.r_I (by omega) ?_
          rw [em]
          wtm_at "r"
          refine Z.r_ixL zqX (v := .int z4) rfl ?_
          wtm_at "r"
          rw [List.length_map]
          obtain ⟨m2, em2, hmx2⟩ := mod_nat (z := z4) (n := ys.length) (by omega)
          refine Z.r_I (by omega) ?_
          rw [em2]
          refine Z.r_ixL hoq (show atI _ ((m2 : Nat) : Int) = some (V.ref (fs ys[m2])) from atI_nat (by rw [List.getElem?_map, List.getElem?_eq_getElem hmx2]; rfl)) ?_
          wtm_at "r"
          refine ⟨po, _, (m : Nat), _, rfl, rfl, hoX, Z.szl (by rw [List.length_map]; omega), by omega, by omega, ?_⟩
          wtm_at "r"
          refine ⟨ys.take m ++ [ys[m2]] ++ ys.drop m, rfl, fun x o e ne => (L2.upd_ne (ne5 x o e)).trans (kX x o e ne), ?_, fun y hy => ?_, ?_⟩
          · rw [L2.upd_same, Int.toNat_natCast, List.map_append, List.map_append, List.map_take, List.map_drop]
            rfl
          · rcases List.mem_append.mp hy with hy | hy
            · rcases List.mem_append.mp hy with hy | hy
              · exact hm y (List.mem_of_mem_take hy)
              · rw [List.mem_singleton.mp hy]; exact hm _ (List.getElem_mem _)
            · exact hm y (List.mem_of_mem_drop hy)
          · rw [List.length_append, List.length_append, List.length_take, List.length_drop, List.length_cons, List.length_nil]
            omega
        · refine Z.i_df (by omega) ?_
          wtm_at "r"
          exact ⟨ys, rfl, kX, hoX, hm, by omega⟩
      · wtm_at "r"
        exact ⟨ys, rfl, kX, hoX, hm, by omega⟩
    clear kX hoX hm hyl
    rintro σ HX ⟨ys, rfl, kX, hoX, hm, hyl⟩
    have PX := fin kX hoX hm
    have sX := keep0 kX
    have ylt : ∀ j, j < ys.length → ys.getD j 0 < c := fun j hj => hm _ (by rw [List.getD_eq_getElem?_getD, List.getElem?_eq_getElem hj]; exact List.getElem_mem _)
    have zqX : SqL K HX pz (([z0, z1, z2, z3, z4, z5] : List Int).map V.int) := Z.sq_l (kX _ _ hz5 nzf)
    have hSX := Z.s_sq sX hS
    have hoq : SqL K HX po (Z.rl ys.length fun j => V.ref (fs (ys.getD j 0))) := Z.sq_l PX.l
    wtm_at "w"
    wtm_at "r"
    refine Z.r_ixL zqX (v := .int z2) rfl ?_
    wtm_at "r"
    with_reducible refine Z.i_2 (fun h => ?_) (fun h => ?_)
    rotate_left
    · wtm_at "r"
      exact qq po ys.length _ _ _ _ _ HX sX PX hyl (fun k hk => (hbf _ (ylt k hk)).2) (fun k hk => hok_some (by have := ylt k hk; omega))
    wtm_at "r"
    rw [Z.rl_len]
    refine Z.lcr_dataE ys.length (fun _ => True) (fun _ d => ∃ h bs, d = itD h bs ∧ Hok h ∧ bs.length ≤ 3) (by omega) ⟨by omega, by omega⟩ (by omega) (fun _ => rfl) (fun _ _ => trivial) ?_ ?_
    · intro k H6 hk s6 KY ky
      have P6 := PX.same (LamX.ExtN.of s6)
      obtain ⟨ak, eak, hak⟩ := P6.h k hk
      obtain ⟨ak', eak', hak'⟩ := PX.h k hk
      rw [eak] at eak'
      cases eak'
      have htk := P6.t k hk
      rw [eak] at htk
      have hbk := P6.b k hk
      have hbX := PX.b k hk
      wtm_at "w"
      wtm_at "r"
      refine Z.r_ixL (Z.s_sq s6 hoq) (show atI _ ((k : Nat) : Int) = some (V.ref (fs (ys.getD k 0))) from atI_nat (Z.rl_at _ hk)) ?_
      wtm_at "r"
      rw [show (9 : Int) + (k : Nat) = ((9 + k : Nat) : Int) by push_cast; rfl]
      refine ⟨a, ns, 9 + k, rfl, Z.s_sq s6 hSX, by omega, fun z => ?_⟩
      wtm_at "r"
      refine ⟨z, 2, 1048576, rfl, by decide, by decide, by decide, by decide, fun q ms H7 s7 nq hq ml mb => ?_⟩
      obtain ⟨m0, m1, rfl⟩ := Z.len2 (ns := ms) (by omega)
      have b0 := mb m0 (by simp)
      have b1 := mb m1 (by simp)
      wtm_at "r"
      refine ⟨fs (ys.getD k 0), ak, fb (ys.getD k 0), _, _, _, _, q, m0, m1, rfl, s7 _ _ htk, s7 _ _ hak, s7 _ _ hbk, Z.sq_l hq, ⟨b0.1, b1.1⟩, by have := ylt k hk; omega, (hbf _ (ylt k hk)).2, fun y H8 h2 b2 s8 o2 l2 d8 => ?_⟩
      refine ky y H8 _ (s7.trans s8) ⟨h2, b2, rfl, o2, l2⟩ (d8.wk fun u hu => ?_)
      rcases hu with hu | rfl | rfl
      · exact .inl (Z.s_back s7 hu)
      · exact .inr ⟨trivial, by rw [hak']; simp⟩
      · exact .inr ⟨trivial, by rw [hbX]; simp⟩
    intro D9 H9 ds9 nD9 s9 hds ow
    obtain ⟨hf, hhf⟩ : ∃ hf : Nat → Hd × List Int, ∀ k, k < ys.length → ds9 k = itD (hf k).1 (hf k).2 ∧ Hok (hf k).1 ∧ (hf k).2.length ≤ 3 := ⟨fun k => if h : k < ys.length then ((hds k h).choose, (hds k h).choose_spec.choose) else (none, []), fun k hk => by simp only [dif_pos hk]; exact (hds k hk).choose_spec.choose_spec⟩
    have da9 : Z.Da (fun _ => True) H9 (.ref D9) (prD ys.length (fun k => (hf k).1) (fun k => (hf k).2)) := by
      have := ow.da
      rw [Z.rl_congr fun k hk => (hhf k hk).1] at this
      exact this
    obtain ⟨p9, ps9, hv9, bl9, e, _, P9, _⟩ := da_prs da9
    cases e
    wtm_at "r"
    exact qq D9 ys.length _ _ _ _ _ H9 (sX.trans s9) P9 hyl (fun k hk => (hhf k hk).2.2) (fun k hk => (hhf k hk).2.1)
end
theorem f_pn : ¬ (("place" : Str) = "name") := by decide +kernel
theorem jn_eq {n : Nat} {hs : Nat → Hd} {bs : Nat → List Int} {t : List Int} (h : jnO n hs bs = .ok t) : t = (odL n hs).flatMap bs := by
  unfold jnO at h
  split at h
  · cases h
  · split at h
    · cases h
    · split at h
      · cases h
      · exact (Except.ok.inj h).symm
theorem lay_prD2 (n : Nat) (hs : Nat → Hd) (bs : Nat → List Int) : Z.Lay 3 (prD n hs bs) := lay_prD n hs bs
section
variable {P : Program} {w : World} {K : PySem.W.Frag} {mg : Str → Option Value} {base : Heap}
def sp_law {K : PySem.W.Frag} {mg : Str → Option Value} (T : Top K mg) : Sp := fun vs H Q _ => ∃ (a : Addr) (ns : List Int), vs = [.ref a] ∧ SqL K H a (ns.map V.int) ∧ ns.length ≤ 63 ∧ LamX.Tabs (lamT T.P_join) H ∧ ∀ H1, Q (.bl true) H1
set_option maxHeartbeats 2000000 in
theorem ok_law (T : Top K mg) (TB : LamX.TabB base mg T.c_join T.P_join) : FnOk P w K mg base CX0 5 T.a_law T.d_law pl_law (sp_law T) := by
  refine T.F_law.ok sc_law (fun vs H Q E h => ?_) (fun cdv A outer s H vs Q E hr h => ?_)
  · obtain ⟨a, ns, rfl, _⟩ := h
    rfl
  · obtain ⟨a, ns, rfl, hS, hn, hT, q⟩ := h
    have hu := hu_of hr
    refine ⟨_, (pss_cons (ps_set (i := 1) sc_law.nd rfl (Or.inl rfl) (pe_call (ok__law_pairs T) (hr.mono (by decide)) (by rfl) T.g__law_pairs T.F__law_pairs.kp T.b__law_pairs .nil pass0 (pa_cons (pv 0) pa_nil)))
      (pss_cons (ps_set (i := 2) sc_law.nd rfl (Or.inl rfl) (pe_lst pa_nil))
      (pss_cons (ps_for PassesOwn.never rfl (pi_list (pv 1)) (pg_tup rfl (pgs_cons (pg_name (i := 3) sc_law.nd rfl (Or.inl rfl)) (pgs_cons (pg_name (i := 4) sc_law.nd rfl (Or.inl rfl)) pgs_nil))) (pss_one (ps_expr (pe_bm PySem.F.plainAttrs_list PySem.F.slot_list_append PySem.F.type_list_append mt_append (pv 2) (pa_cons (pe_tup (pa_cons (pv 3) (pa_cons (pe_callTy (show CallR _ _ (Z.cList K) from Z.call_list) (by rfl) T.n_list (by decide +kernel) (pa_cons (pv 4) pa_nil)) pa_nil))) pa_nil)))))
      (pss_cons (ps_asg (pe_call (ok__law_due T) (hr.mono (by decide)) (by rfl) T.g__law_due T.F__law_due.kp T.b__law_due .nil pass0 (pa_cons (pv 1) pa_nil)) (pg_tup rfl (pgs_cons (pg_name (i := 5) sc_law.nd rfl (Or.inl rfl)) (pgs_cons (pg_name (i := 6) sc_law.nd rfl (Or.inl rfl)) pgs_nil))))
      (pss_cons (ps_try_as (i := 8) rfl rfl sc_law.nd rfl rfl ⟨by rfl, by decide +kernel, .inl T.g_DotfieldError⟩ takes0 (fun W pn xe tk pz => (pss_one (ps_set (i := 7) sc_law.nd rfl (Or.inl rfl) (pe_callS (ok_join T TB) (hr.mono (by decide)) (by rfl) T.g_join T.F_join.kp T.b_join (fun σ => passAt tk σ) (pa_cons (pv 2) pa_nil))))) (fun a oe cls d pn hz hf => (pss_cons (ps_if (PW.pt (pw_or (pt_not (pt_val (pe_callB (show CallR _ _ (Z.rErI K a cls d) from Z.call_erI hz hf) (by rfl) T.n_isinstance (by decide +kernel) (pa_cons (pv 8) (pa_cons (pe_glob (v := .ref T.a_InvalidSequence) (u := .ref T.a_InvalidSequence) rfl T.g_InvalidSequence rfl) pa_nil))))) (pw_or (pt_val (pe_callB (show CallR _ _ (Z.rErI K a cls d) from Z.call_erI hz hf) (by rfl) T.n_isinstance (by decide +kernel) (pa_cons (pv 8) (pa_cons (pe_glob (v := .ref T.a_InvalidFormat) (u := .ref T.a_InvalidFormat) rfl T.g_InvalidFormat rfl) pa_nil)))) (pw_or1 (pt_cmpR op_ne (Z.pe_erF hz hf (pv 8)) pe_str (nomark _)))))) (pss_one (ps_ret pe_bl)) pss_nil)
      (pss_one (ps_ret (pe_and (pe_cmpR Z.op_notN (pv 5) pe_non (nomark _)) (pe_and (pe_cmpR op_eq (Z.pe_erF hz hf (pv 8)) (pv 5) (nomark _)) (pe_and (pe_callB (show CallR _ _ (Z.rErI K a cls d) from Z.call_erI hz hf) (by rfl) T.n_isinstance (by decide +kernel) (pa_cons (pv 8) (pa_cons (pe_bltn (v := .ty "ValueError") (u := .type "ValueError") (by rfl) T.n_ValueError (by decide +kernel) rfl) pa_nil))) (pe_one (pe_cmpR (Z.op_eqDs (hr.units)) (pv 2) (pv 1) (nomark _)))))))))))
      (pss_one (ps_ret (pe_and (pe_cmpR Z.op_isN (pv 5) pe_non (nomark _)) (pe_and (pe_call (ok__law_same T) (hr.mono (by decide)) (by rfl) T.g__law_same T.F__law_same.kp T.b__law_same .nil pass0 (pa_cons (pv 7) (pa_cons (pv 6) pa_nil))) (pe_one (pe_cmpR (op_eqD (hr.units)) (pv 2) (pv 1) (nomark _)))))))))))), ?_⟩
    show (_ : L2.TS) _ [some _, none, none, none, none, none, none, none, none] H
    try simp only [Z.kx]
    wtm_at "r"
    refine ⟨a, ns, rfl, hS, hn, fun x n ps hv bl hs bs H1 s1 P1 hn8 hbl hok => ?_⟩
    have T1 := hT.ext s1
    clear hT hS s1
    wtm_at "r"
    refine ⟨by decide, fun b nb => ?_⟩
    wtm_at "r"
    have hpq : SqL K (upd H1 b (.lst [])) x (Z.rl n fun k => V.ref (ps k)) := Z.s_sq (Z.s_upd nb) (Z.sq_l P1.l)
    refine ⟨x, rfl, ⟨_, hpq⟩, ?_⟩
    refine for_list (K := K) (xs := Z.rl n fun k => V.ref (ps k)) (fun i σ H2 => ∃ (x3 x4 : Option V), σ = [some (.ref a), some (.ref x), some (.ref b), x3, x4, none, none, none, none] ∧ Same H1 H2 ∧ Z.Ow (fun _ => True) H2 b (Z.rl i fun k => itD (hs k) (bs k))) ⟨none, none, rfl, Z.s_upd nb, Z.Ow.nil trivial L2.upd_same⟩ ?_ ?_ ?_
    · rintro i σ H2 _ ⟨x3, x4, rfl, s2, _⟩
      exact Z.sq_l (P1.same (LamX.ExtN.of s2)).l
    · rintro i y σ H2 ex ⟨x3, x4, rfl, s2, ow⟩
      have hi : i < n := by
        have := (List.getElem?_eq_some_iff.mp ex).1
        rwa [Z.rl_len] at this
      rw [Z.rl_at _ hi] at ex
      cases ex
      have P2 := P1.same (LamX.ExtN.of s2)
      have hdi := P2.h i hi
      have hbi := P2.b i hi
      obtain ⟨_, xs0, hb0, l0⟩ := id ow
      have hl0 : xs0.length = i := by rw [l0.len, Z.rl_len]
      refine Z.r_prT (Z.sq_t (P2.t i hi)) (by wtm_at "set") ?_
      wtm_at "r"
      refine Z.r_list (Z.sq_l hbi) fun u nu => ?_
      have su : Same H2 (upd H2 u (.lst ((bs i).map V.int))) := Z.s_upd nu
      have hu : (upd H2 u (.lst ((bs i).map V.int))) u = some (.lst ((bs i).map V.int)) := L2.upd_same
      show tNil _ (upd H2 u (.lst ((bs i).map V.int))) _
      generalize upd H2 u (.lst ((bs i).map V.int)) = H3 at su hu ⊢
      wtm_at "r"
      refine ⟨by show 2 ≤ sizeLine; decide, fun t nt => ?_⟩
      have st : Same H3 (upd H3 t (.tup [hv i, .ref u])) := Z.s_upd nt
      have ht : (upd H3 t (.tup [hv i, .ref u])) t = some (.tup [hv i, .ref u]) := L2.upd_same
      have hut := st _ _ hu
      show tNil _ (upd H3 t (.tup [hv i, .ref u])) _
      generalize upd H3 t (.tup [hv i, .ref u]) = H4 at st ht hut ⊢
      have s24 := su.trans st
      have nbx : ∀ q, H2 q = none → q ≠ b := fun q hq z => by rw [z, hb0] at hq; cases hq
      have dh : Z.Da (fun q => True ∧ q ≠ b) H4 (hv i) (hdD (hs i)) := by
        cases e : hs i with
        | none => rw [e] at hdi; rw [show hv i = .non from hdi]; exact .non
        | some tr =>
          obtain ⟨j, c, w⟩ := tr
          rw [e] at hdi
          obtain ⟨q, eq, hq⟩ := hdi
          rw [eq]
          exact .tup ⟨trivial, fun z => by rw [z, hb0] at hq; cases hq⟩ (s24 _ _ hq) (.cons (.int _) (.cons (.int _) (.cons (.int _) .nil)))
      have d4 : Z.Da (fun q => True ∧ q ≠ b) H4 (.ref t) (itD (hs i) (bs i)) := .pair ⟨trivial, nbx _ (Z.s_back su nt)⟩ ht dh (.lst ⟨trivial, nbx _ nu⟩ hut (Z.DaL.ints _))
      have hb4 := s24 _ _ hb0
      wtm_at "r"
      refine Z.r_append hb4 (Z.szl (by omega)) ?_
      wtm_at "r"
      refine ⟨_, _, rfl, Z.s_mut (s2.trans s24) nb, ?_⟩
      have := ow.push s24 hb4 d4
      unfold Z.rl at this ⊢
      rw [List.range_succ, List.map_append]
      exact this
    rintro σ H2 ⟨x3, x4, rfl, s2, ow⟩
    rw [Z.rl_len] at ow
    obtain ⟨b', ps2, hv2, bl2, e, _, PH2, _⟩ := da_prs (n := n) (hs := hs) (bs := bs) ow.da
    cases e
    have P2 := P1.same (LamX.ExtN.of s2)
    have T2 := T1.ext s2
    clear P1 T1 s2 ow nb hpq
    wtm_at "r"
    refine ⟨x, n, ps, hv, bl, hs, bs, rfl, P2, by omega, hbl, hok, fun r u v H3 s3 hr due => ?_⟩
    refine Z.r_prT (Z.sq_t hr) (by wtm_at "set") ?_
    have P3 := P2.same (LamX.ExtN.of s3)
    have PH3 := PH2.same (LamX.ExtN.of s3)
    have T3 := T2.ext s3
    clear P2 PH2 T2 s3 hr
    wtm_at "e"
    refine ⟨b, n, ps2, hv2, bl2, hs, bs, rfl, PH3, by omega, fun k hk => Nat.le_trans (hbl k hk) (by decide), T3, fun t z H4 ej ext T4 fresh hz => ?_, fun k ej d H4 ext T4 hd => ?_⟩
    · rw [ej] at due
      obtain ⟨rfl, l, rfl, hl⟩ := due
      have hl4 := ext _ _ hl (fun ps z => by cases z)
      have P4 := P3.same ext
      have PH4 := PH3.same ext
      have tlen : t.length ≤ 8 * 3 := by
        rw [jn_eq ej]
        exact Nat.le_trans (flat_le fun k hk => hbl k (od_mem hk)) (by rw [od_len]; exact Nat.mul_le_mul hn8 (Nat.le_refl _))
      wtm_at "e"
      refine Z.r_isN ?_
      wtm_at "e"
      refine Z.i_dt rfl ?_
      wtm_at "e"
      refine ⟨z, l, t, rfl, hz, Z.sq_l hl4, by omega, ?_⟩
      wtm_at "e"
      refine Z.r_eqDa PH4.da P4.da (lay_prD _ _ _) (by decide) ?_
      exact q _
    · rw [ej] at due
      obtain ⟨rfl, rfl⟩ := due
      refine ⟨true, T.ex_InvalidSequence_DotfieldError, fun _ a' ha' => ?_, fun q => nomatch q⟩
      have hx : (upd H4 d (.xd [("name", .str "InvalidSequence"), ("place", .int (k : Nat))])) d = some (.xd [("name", .str "InvalidSequence"), ("place", .int (k : Nat))]) := L2.upd_same
      have sx : Same H4 (upd H4 d (.xd [("name", .str "InvalidSequence"), ("place", .int (k : Nat))])) := Z.s_upd hd
      generalize upd H4 d (.xd [("name", .str "InvalidSequence"), ("place", .int (k : Nat))]) = H5 at hx sx ha' ⊢
      have P5 := P3.same (ext.trans (LamX.ExtN.of sx))
      have PH5 := PH3.same (ext.trans (LamX.ExtN.of sx))
      wtm_at "w"
      wtm_at "e"
      refine Z.r_erI T.ec_InvalidSequence T.ki_InvalidSequence_InvalidSequence (fun u h => h) hx ?_
      wtm_at "e"
      refine Z.r_erI T.ec_InvalidSequence T.ki_InvalidSequence_InvalidFormat (fun u h => h) hx ?_
      wtm_at "e"
      refine Z.r_erFP T.xf_InvalidSequence T.no_InvalidSequence_name hx Z.look_1 ?_
      wtm_at "e"
      refine Z.i_df (not_not_intro rfl) ?_
      wtm_at "e"
      refine Z.r_notN ?_
      wtm_at "e"
      refine Z.i_dtn (fun z => by cases z) ?_
      wtm_at "e"
      refine Z.r_erFP T.xf_InvalidSequence T.no_InvalidSequence_place hx ((Z.look_s f_pn).trans Z.look_1) ?_
      wtm_at "e"
      refine Z.i_dt rfl ?_
      wtm_at "e"
      refine Z.r_erI T.ec_InvalidSequence T.ki_InvalidSequence_ValueError (fun u h => h) hx ?_
      wtm_at "e"
      refine Z.r_eqDa PH5.da P5.da (lay_prD _ _ _) (by decide) ?_
      exact q _
end
set_option maxHeartbeats 8000000 in
theorem all_mk {l : PySem.W.OpenLaw} {w : World} {K : PySem.W.Frag} {h : Heap} {mg : Str → Option Value} {fa : Addr} (X : K.In h) (G : h.Ns mainGlobals mg) (hfa : mg "law" = some (.ref fa))
    {f0 : Addr} {od0 an0 : Option Addr} {sl0 : Array (Option Value)} {oc0 kV0 dc0 pm0 cd0 ct0 : Value}
    {f1 : Addr} {od1 an1 : Option Addr} {sl1 : Array (Option Value)} {oc1 kV1 dc1 pm1 cd1 ct1 : Value}
    {f2 : Addr} {od2 an2 : Option Addr} {sl2 : Array (Option Value)} {oc2 kV2 dc2 pm2 cd2 ct2 : Value}
    {f3 cd3 : Addr} {od3 an3 : Option Addr} {sl3 : Array (Option Value)} {oc3 kV3 dc3 pm3 ct3 : Value}
    {f4 : Addr} {od4 an4 : Option Addr} {sl4 : Array (Option Value)} {oc4 kV4 dc4 pm4 cd4 ct4 : Value}
    {f5 : Addr} {od5 an5 : Option Addr} {sl5 : Array (Option Value)} {oc5 kV5 dc5 pm5 cd5 ct5 : Value}
    {f6 : Addr} {od6 an6 : Option Addr} {sl6 : Array (Option Value)} {oc6 kV6 dc6 pm6 cd6 ct6 : Value}
    {f7 : Addr} {od7 an7 : Option Addr} {sl7 : Array (Option Value)} {oc7 kV7 dc7 pm7 cd7 ct7 : Value}
    {f8 : Addr} {od8 an8 : Option Addr} {sl8 : Array (Option Value)} {oc8 kV8 dc8 pm8 cd8 ct8 : Value}
    {f9 : Addr} {od9 an9 : Option Addr} {sl9 : Array (Option Value)} {oc9 kV9 dc9 pm9 cd9 ct9 : Value}
    {f10 : Addr} {od10 an10 : Option Addr} {sl10 : Array (Option Value)} {oc10 kV10 dc10 pm10 cd10 ct10 : Value}
    {f11 : Addr} {od11 an11 : Option Addr} {sl11 : Array (Option Value)} {oc11 kV11 dc11 pm11 cd11 ct11 : Value}
    {C_DotfieldError : Addr}
    {C_InvalidFormat : Addr}
    {C_InvalidSequence : Addr}
    {nm_InvalidSequence q_InvalidSequence : Str} {N_InvalidSequence : Addr} {bs_InvalidSequence bm_InvalidSequence : List Value} {sn_InvalidSequence : List Str} {sub_InvalidSequence : List Value} {ab_InvalidSequence : Bool} {col_InvalidSequence : Option Bool} {dd_InvalidSequence : Option Addr} {e0_InvalidSequence e1_InvalidSequence e3_InvalidSequence e5_InvalidSequence : Option Value} {et_InvalidSequence : Tok}
    {Pt : Addr} {oy : Option Addr} {ocy : Value} {vsx : Array Value} {sly : Array (Option Value)}
    (aC_DotfieldError : PySem.W.nsIn K mainGlobals "DotfieldError" = some (some (.ref C_DotfieldError)))
    (aC_InvalidFormat : PySem.W.nsIn K mainGlobals "InvalidFormat" = some (some (.ref C_InvalidFormat)))
    (aC_InvalidSequence : PySem.W.nsIn K mainGlobals "InvalidSequence" = some (some (.ref C_InvalidSequence)))
    (a0 : PySem.W.findIn K (.ref C_DotfieldError) "__init__" = some (some (.ref f0)))
    (i0 : PySem.W.isFn K (.ref f0) = true)
    (l0 : K.lookup f0 = some ⟨oc0, od0, .func (PySem.W.fnOf "__init__" "DotfieldError.__init__" (defArgs s_DotfieldError___init__) (defBody s_DotfieldError___init__) (defScope s_DotfieldError___init__) .none kV0 dc0 pm0 an0 cd0 ct0), sl0⟩)
    (c0 : PySem.W.codeIn K cd0 "DotfieldError.__init__" = true) (k0 : PySem.W.keepIn K (.ref f0) = true)
    (a1 : PySem.W.nsIn K mainGlobals "check_headers" = some (some (.ref f1)))
    (l1 : K.lookup f1 = some ⟨oc1, od1, .func (PySem.W.fnOf "check_headers" "check_headers" (defArgs s_check_headers) (defBody s_check_headers) (defScope s_check_headers) .none kV1 dc1 pm1 an1 cd1 ct1), sl1⟩)
    (c1 : PySem.W.codeIn K cd1 "check_headers" = true) (k1 : PySem.W.keepIn K (.ref f1) = true)
    (a2 : PySem.W.nsIn K mainGlobals "parity" = some (some (.ref f2)))
    (l2 : K.lookup f2 = some ⟨oc2, od2, .func (PySem.W.fnOf "parity" "parity" (defArgs s_parity) (defBody s_parity) (defScope s_parity) .none kV2 dc2 pm2 an2 cd2 ct2), sl2⟩)
    (c2 : PySem.W.codeIn K cd2 "parity" = true) (k2 : PySem.W.keepIn K (.ref f2) = true)
    (a3 : PySem.W.nsIn K mainGlobals "join" = some (some (.ref f3)))
    (l3 : K.lookup f3 = some ⟨oc3, od3, .func (PySem.W.fnOf "join" "join" (defArgs s_join) (defBody s_join) (defScope s_join) .none kV3 dc3 pm3 an3 (.ref cd3) ct3), sl3⟩)
    (c3 : PySem.W.codeIn K (.ref cd3) "join" = true) (k3 : PySem.W.keepIn K (.ref f3) = true)
    (a4 : PySem.W.nsIn K mainGlobals "_law_draw" = some (some (.ref f4)))
    (l4 : K.lookup f4 = some ⟨oc4, od4, .func (PySem.W.fnOf "_law_draw" "_law_draw" (defArgs s__law_draw) (defBody s__law_draw) (defScope s__law_draw) .none kV4 dc4 pm4 an4 cd4 ct4), sl4⟩)
    (c4 : PySem.W.codeIn K cd4 "_law_draw" = true) (k4 : PySem.W.keepIn K (.ref f4) = true)
    (a5 : PySem.W.nsIn K mainGlobals "_law_is_integer" = some (some (.ref f5)))
    (l5 : K.lookup f5 = some ⟨oc5, od5, .func (PySem.W.fnOf "_law_is_integer" "_law_is_integer" (defArgs s__law_is_integer) (defBody s__law_is_integer) (defScope s__law_is_integer) .none kV5 dc5 pm5 an5 cd5 ct5), sl5⟩)
    (c5 : PySem.W.codeIn K cd5 "_law_is_integer" = true) (k5 : PySem.W.keepIn K (.ref f5) = true)
    (a6 : PySem.W.nsIn K mainGlobals "_law_same" = some (some (.ref f6)))
    (l6 : K.lookup f6 = some ⟨oc6, od6, .func (PySem.W.fnOf "_law_same" "_law_same" (defArgs s__law_same) (defBody s__law_same) (defScope s__law_same) .none kV6 dc6 pm6 an6 cd6 ct6), sl6⟩)
    (c6 : PySem.W.codeIn K cd6 "_law_same" = true) (k6 : PySem.W.keepIn K (.ref f6) = true)
    (a7 : PySem.W.nsIn K mainGlobals "_law_cell" = some (some (.ref f7)))
    (l7 : K.lookup f7 = some ⟨oc7, od7, .func (PySem.W.fnOf "_law_cell" "_law_cell" (defArgs s__law_cell) (defBody s__law_cell) (defScope s__law_cell) .none kV7 dc7 pm7 an7 cd7 ct7), sl7⟩)
    (c7 : PySem.W.codeIn K cd7 "_law_cell" = true) (k7 : PySem.W.keepIn K (.ref f7) = true)
    (a8 : PySem.W.nsIn K mainGlobals "_law_changed" = some (some (.ref f8)))
    (l8 : K.lookup f8 = some ⟨oc8, od8, .func (PySem.W.fnOf "_law_changed" "_law_changed" (defArgs s__law_changed) (defBody s__law_changed) (defScope s__law_changed) .none kV8 dc8 pm8 an8 cd8 ct8), sl8⟩)
    (c8 : PySem.W.codeIn K cd8 "_law_changed" = true) (k8 : PySem.W.keepIn K (.ref f8) = true)
    (a9 : PySem.W.nsIn K mainGlobals "_law_due" = some (some (.ref f9)))
    (l9 : K.lookup f9 = some ⟨oc9, od9, .func (PySem.W.fnOf "_law_due" "_law_due" (defArgs s__law_due) (defBody s__law_due) (defScope s__law_due) .none kV9 dc9 pm9 an9 cd9 ct9), sl9⟩)
    (c9 : PySem.W.codeIn K cd9 "_law_due" = true) (k9 : PySem.W.keepIn K (.ref f9) = true)
    (a10 : PySem.W.nsIn K mainGlobals "_law_pairs" = some (some (.ref f10)))
    (l10 : K.lookup f10 = some ⟨oc10, od10, .func (PySem.W.fnOf "_law_pairs" "_law_pairs" (defArgs s__law_pairs) (defBody s__law_pairs) (defScope s__law_pairs) .none kV10 dc10 pm10 an10 cd10 ct10), sl10⟩)
    (c10 : PySem.W.codeIn K cd10 "_law_pairs" = true) (k10 : PySem.W.keepIn K (.ref f10) = true)
    (a11 : PySem.W.nsIn K mainGlobals "law" = some (some (.ref f11)))
    (l11 : K.lookup f11 = some ⟨oc11, od11, .func (PySem.W.fnOf "law" "law" (defArgs s_law) (defBody s_law) (defScope s_law) .none kV11 dc11 pm11 an11 cd11 ct11), sl11⟩)
    (c11 : PySem.W.codeIn K cd11 "law" = true) (k11 : PySem.W.keepIn K (.ref f11) = true)
    (lk_InvalidSequence : K.lookup C_InvalidSequence = some (excClassObj nm_InvalidSequence q_InvalidSequence C_InvalidSequence N_InvalidSequence bs_InvalidSequence bm_InvalidSequence true sn_InvalidSequence sub_InvalidSequence ab_InvalidSequence col_InvalidSequence dd_InvalidSequence e0_InvalidSequence e1_InvalidSequence (some (.str "InvalidSequence" et_InvalidSequence)) e3_InvalidSequence e5_InvalidSequence "ValueError.__new__"))
    (rv_InvalidSequence : PySem.HandSPX.refsVE bm_InvalidSequence = true)
    (sa_InvalidSequence : PySem.W.findIn K (.ref C_InvalidSequence) "__setattr__" = some (some (.builtin "object.__setattr__")))
    (ga_InvalidSequence : PySem.W.findIn K (.ref C_InvalidSequence) "__getattribute__" = some (some (.builtin "BaseException.__getattribute__")))
    (gg_InvalidSequence : PySem.W.findIn K (.ref C_InvalidSequence) "__getattr__" = some none)
    (cl_InvalidSequence : PySem.W.findIn K (.ref C_InvalidSequence) "__class__" = some (some (.builtin "object.__class__")))
    (sb_InvalidSequence : PySem.W.subIn K (.ref C_InvalidSequence) (.type "BaseException") = some true) (ty_InvalidSequence : PySem.W.typeIn K (.ref C_InvalidSequence) = some (.type "type")) (kc_InvalidSequence : PySem.W.keepIn K (.ref C_InvalidSequence) = true) (hd_InvalidSequence : PySem.W.hasDictIn K C_InvalidSequence = true) (ob_InvalidSequence : PySem.W.mroIn K C_InvalidSequence (.type "object") = some true) (rd_InvalidSequence : PySem.W.readsIn K C_InvalidSequence (.type "type") = true)
    (fd_InvalidSequence : PySem.W.findCls K (.ref C_InvalidSequence) (.type "type") "__name__" = some (.get (.builtin "getset_descriptor.__get__") (.builtin "type.__name__") (.ref C_InvalidSequence) (.type "type")))
    (ic_InvalidSequence : PySem.W.findIn K (.ref C_InvalidSequence) "__init__" = some (some (.ref f0)))
    (no_InvalidSequence_place : PySem.W.findIn K (.ref C_InvalidSequence) "place" = some none)
    (no_InvalidSequence_name : PySem.W.findIn K (.ref C_InvalidSequence) "name" = some none)
    (xs_InvalidSequence_DotfieldError : PySem.W.subIn K (.ref C_DotfieldError) (.type "BaseException") = some true) (xh_InvalidSequence_DotfieldError : PySem.W.hasDictIn K C_DotfieldError = true) (xt_InvalidSequence_DotfieldError : PySem.W.typeIn K (.ref C_DotfieldError) = some (.type "type")) (xu_InvalidSequence_DotfieldError : PySem.W.subIn K (.ref C_InvalidSequence) (.ref C_DotfieldError) = some true)
    (ki_InvalidSequence_InvalidSequence : PySem.W.kitOne K (.ref C_InvalidSequence) (.ref C_InvalidSequence) = some true)
    (ki_InvalidSequence_InvalidFormat : PySem.W.kitOne K (.ref C_InvalidSequence) (.ref C_InvalidFormat) = some false)
    (ki_InvalidSequence_ValueError : PySem.W.kitOne K (.ref C_InvalidSequence) (.type "ValueError") = some true)
    (gt_ : PySem.W.specialIn K (.builtin "object.__class__") "__get__" = some (some (.builtin "getset_descriptor.__get__"))) (tk_ : PySem.W.takesIn K (.builtin "object.__class__") = some true)
    (it_DotfieldError___init__ : PySem.W.typeIn K (.ref f0) = some (.type "function"))
    (z_enumerate : PySem.W.nsIn K mainGlobals "enumerate" = some none)
    (z_sorted : PySem.W.nsIn K mainGlobals "sorted" = some none)
    (z_pair : PySem.W.nsIn K mainGlobals "pair" = some none)
    (z_len : PySem.W.nsIn K mainGlobals "len" = some none)
    (z_range : PySem.W.nsIn K mainGlobals "range" = some none)
    (z_int : PySem.W.nsIn K mainGlobals "int" = some none)
    (z_isinstance : PySem.W.nsIn K mainGlobals "isinstance" = some none)
    (z_bool : PySem.W.nsIn K mainGlobals "bool" = some none)
    (z_list : PySem.W.nsIn K mainGlobals "list" = some none)
    (z_ValueError : PySem.W.nsIn K mainGlobals "ValueError" = some none)
    (tc : K.lookup cd3 = some ⟨ocy, oy, .fields vsx, sly⟩) (tp : (vsx[11]? : Option Value) = some (.ref Pt)) (qT : PySem.W.codeHdIn K cd3 Pt = true) (nT : K.lookup Pt = none) (hPt : h.get? Pt = some { cls := .none, data := .fields #[] }) :
    LamX.LawAtS l w K CX0 5 63 "script" mg fa h := by
  have e := hfa.symm.trans (PySem.W.mg_of X G a11)
  cases e
  let T : Top K mg := {
    a_DotfieldError___init__ := f0,
    d_DotfieldError___init__ := _,
    F_DotfieldError___init__ := fun_mk (st := s_DotfieldError___init__) l0 c0 k0,
    b_DotfieldError___init__ := (fun_mk (st := s_DotfieldError___init__) l0 c0 k0).binds (ps := pl_DotfieldError___init__) fun _ _ _ _ _ _ us hl => match us, hl with | [_, _], _ => rfl,
    a_check_headers := f1,
    d_check_headers := _,
    F_check_headers := fun_mk (st := s_check_headers) l1 c1 k1,
    b_check_headers := (fun_mk (st := s_check_headers) l1 c1 k1).binds (ps := pl_check_headers) fun _ _ _ _ _ _ us hl => match us, hl with | [_], _ => rfl,
    g_check_headers := PySem.W.mg_of X G a1,
    a_parity := f2,
    d_parity := _,
    F_parity := fun_mk (st := s_parity) l2 c2 k2,
    b_parity := (fun_mk (st := s_parity) l2 c2 k2).binds (ps := pl_parity) fun _ _ _ _ _ _ us hl => match us, hl with | [_], _ => rfl,
    g_parity := PySem.W.mg_of X G a2,
    a_join := f3,
    d_join := _,
    F_join := fun_mk (st := s_join) l3 c3 k3,
    c_join := cd3,
    P_join := Pt,
    FC_join := ⟨⟨_, _, _, _, _, _, _, _, rfl, l3, c3⟩⟩,
    b_join := (fun_mk (st := s_join) l3 c3 k3).binds (ps := pl_join) fun _ _ _ _ _ _ us hl => match us, hl with | [_], _ => rfl,
    g_join := PySem.W.mg_of X G a3,
    a__law_draw := f4,
    d__law_draw := _,
    F__law_draw := fun_mk (st := s__law_draw) l4 c4 k4,
    b__law_draw := (fun_mk (st := s__law_draw) l4 c4 k4).binds (ps := pl__law_draw) fun _ _ _ _ _ _ us hl => match us, hl with | [_, _, _], _ => rfl,
    g__law_draw := PySem.W.mg_of X G a4,
    a__law_is_integer := f5,
    d__law_is_integer := _,
    F__law_is_integer := fun_mk (st := s__law_is_integer) l5 c5 k5,
    b__law_is_integer := (fun_mk (st := s__law_is_integer) l5 c5 k5).binds (ps := pl__law_is_integer) fun _ _ _ _ _ _ us hl => match us, hl with | [_], _ => rfl,
    g__law_is_integer := PySem.W.mg_of X G a5,
    a__law_same := f6,
    d__law_same := _,
    F__law_same := fun_mk (st := s__law_same) l6 c6 k6,
    b__law_same := (fun_mk (st := s__law_same) l6 c6 k6).binds (ps := pl__law_same) fun _ _ _ _ _ _ us hl => match us, hl with | [_, _], _ => rfl,
    g__law_same := PySem.W.mg_of X G a6,
    a__law_cell := f7,
    d__law_cell := _,
    F__law_cell := fun_mk (st := s__law_cell) l7 c7 k7,
    b__law_cell := (fun_mk (st := s__law_cell) l7 c7 k7).binds (ps := pl__law_cell) fun _ _ _ _ _ _ us hl => match us, hl with | [_, _], _ => rfl,
    g__law_cell := PySem.W.mg_of X G a7,
    a__law_changed := f8,
    d__law_changed := _,
    F__law_changed := fun_mk (st := s__law_changed) l8 c8 k8,
    b__law_changed := (fun_mk (st := s__law_changed) l8 c8 k8).binds (ps := pl__law_changed) fun _ _ _ _ _ _ us hl => match us, hl with | [_, _], _ => rfl,
    g__law_changed := PySem.W.mg_of X G a8,
    a__law_due := f9,
    d__law_due := _,
    F__law_due := fun_mk (st := s__law_due) l9 c9 k9,
    b__law_due := (fun_mk (st := s__law_due) l9 c9 k9).binds (ps := pl__law_due) fun _ _ _ _ _ _ us hl => match us, hl with | [_], _ => rfl,
    g__law_due := PySem.W.mg_of X G a9,
    a__law_pairs := f10,
    d__law_pairs := _,
    F__law_pairs := fun_mk (st := s__law_pairs) l10 c10 k10,
    b__law_pairs := (fun_mk (st := s__law_pairs) l10 c10 k10).binds (ps := pl__law_pairs) fun _ _ _ _ _ _ us hl => match us, hl with | [_], _ => rfl,
    g__law_pairs := PySem.W.mg_of X G a10,
    a_law := fa,
    d_law := _,
    F_law := fun_mk (st := s_law) l11 c11 k11,
    b_law := (fun_mk (st := s_law) l11 c11 k11).binds (ps := pl_law) fun _ _ _ _ _ _ us hl => match us, hl with | [_], _ => rfl,
    g_law := PySem.W.mg_of X G a11,
    a_DotfieldError := C_DotfieldError,
    g_DotfieldError := PySem.W.mg_of X G aC_DotfieldError,
    a_InvalidFormat := C_InvalidFormat,
    g_InvalidFormat := PySem.W.mg_of X G aC_InvalidFormat,
    a_InvalidSequence := C_InvalidSequence,
    g_InvalidSequence := PySem.W.mg_of X G aC_InvalidSequence,
    ox_InvalidSequence := ⟨⟨_, _, _, _, _, _, _, _, _, _, _, _, _, _, _, lk_InvalidSequence, rv_InvalidSequence⟩, sa_InvalidSequence, sb_InvalidSequence, ty_InvalidSequence, kc_InvalidSequence⟩,
    ec_InvalidSequence := ⟨ga_InvalidSequence, gg_InvalidSequence, sb_InvalidSequence, hd_InvalidSequence, cl_InvalidSequence, gt_, tk_, ob_InvalidSequence⟩,
    nm_InvalidSequence := ⟨⟨_, _, _, _, _, _, #[_, _, _], lk_InvalidSequence⟩, rd_InvalidSequence, fd_InvalidSequence⟩,
    xf_InvalidSequence := ⟨ga_InvalidSequence, gg_InvalidSequence, sb_InvalidSequence, hd_InvalidSequence⟩,
    ic_InvalidSequence := ic_InvalidSequence,
    no_InvalidSequence_place := no_InvalidSequence_place,
    no_InvalidSequence_name := no_InvalidSequence_name,
    ex_InvalidSequence_DotfieldError := PySem.W.exm_ref xs_InvalidSequence_DotfieldError xh_InvalidSequence_DotfieldError xt_InvalidSequence_DotfieldError xu_InvalidSequence_DotfieldError,
    ki_InvalidSequence_InvalidSequence := ki_InvalidSequence_InvalidSequence,
    ki_InvalidSequence_InvalidFormat := ki_InvalidSequence_InvalidFormat,
    ki_InvalidSequence_ValueError := ki_InvalidSequence_ValueError,
    it_DotfieldError___init__ := it_DotfieldError___init__,
    n_enumerate := PySem.W.mg_none_of X G z_enumerate,
    n_sorted := PySem.W.mg_none_of X G z_sorted,
    n_pair := PySem.W.mg_none_of X G z_pair,
    n_len := PySem.W.mg_none_of X G z_len,
    n_range := PySem.W.mg_none_of X G z_range,
    n_int := PySem.W.mg_none_of X G z_int,
    n_isinstance := PySem.W.mg_none_of X G z_isinstance,
    n_bool := PySem.W.mg_none_of X G z_bool,
    n_list := PySem.W.mg_none_of X G z_list,
    n_ValueError := PySem.W.mg_none_of X G z_ValueError }
  refine ⟨T.d_law, [(cd3, Pt)], sp_law T, fun p hp => ?_, fun p hp => ?_, fun p hp => ?_, fun s v => .of_eq rfl, fun H a ns hl _ hH hS => ⟨a, ns, rfl, hS, hl, fun p hp => ?_, fun _ => rfl⟩, fun base _ _ hTB => ok_law T (hTB (cd3, Pt) (List.mem_singleton.mpr rfl))⟩
  · rw [List.mem_singleton.mp hp]; exact hPt
  · rw [List.mem_singleton.mp hp]; exact nT
  · rw [List.mem_singleton.mp hp]; exact PySem.W.codeHd_of_K X qT
  · rw [List.mem_singleton.mp hp]; exact LamX.TabS.nil (hH (cd3, Pt) (List.mem_singleton.mpr rfl))
end M_k20
open PySem PySem.W PyProof.Rows
set_option maxRecDepth 100000 in
set_option maxHeartbeats 0 in
theorem PySem.Challenge.cw_dotfield_k20_parts_that_do_not_fit_holds : PySem.Challenge.rw_dotfield_k20_parts_that_do_not_fit.Holds := by
  w_on; o_law; k_head; (case hw => w_witness2)
  k_fill
  refine LamX.walk_ofTs (l := PySem.Challenge.rw_dotfield_k20_parts_that_do_not_fit) (n := 63) (k := 5) (x := "script") (CX := fun _ => L2.CX0) rfl (by decide) rfl ⟨rfl, by decide, by decide⟩ (fun w h Y => PySem.W.km_in_of Y) ?F (fun _ _ _ _ _ h => h)
  case F =>
    intro w mg fa h Y KX G hmg
    refine' M_k20.all_mk KX G hmg ?aC_DotfieldError ?aC_InvalidFormat ?aC_InvalidSequence ?a0 ?i0 ?l0 ?c0 ?k0 ?a1 ?l1 ?c1 ?k1 ?a2 ?l2 ?c2 ?k2 ?a3 ?l3 ?c3 ?k3 ?a4 ?l4 ?c4 ?k4 ?a5 ?l5 ?c5 ?k5 ?a6 ?l6 ?c6 ?k6 ?a7 ?l7 ?c7 ?k7 ?a8 ?l8 ?c8 ?k8 ?a9 ?l9 ?c9 ?k9 ?a10 ?l10 ?c10 ?k10 ?a11 ?l11 ?c11 ?k11 ?lk_InvalidSequence ?rv_InvalidSequence ?sa_InvalidSequence ?ga_InvalidSequence ?gg_InvalidSequence ?cl_InvalidSequence ?sb_InvalidSequence ?ty_InvalidSequence ?kc_InvalidSequence ?hd_InvalidSequence ?ob_InvalidSequence ?rd_InvalidSequence ?fd_InvalidSequence ?ic_InvalidSequence ?no_InvalidSequence_place ?no_InvalidSequence_name ?xs_InvalidSequence_DotfieldError ?xh_InvalidSequence_DotfieldError ?xt_InvalidSequence_DotfieldError ?xu_InvalidSequence_DotfieldError ?ki_InvalidSequence_InvalidSequence ?ki_InvalidSequence_InvalidFormat ?ki_InvalidSequence_ValueError ?gt_ ?tk_ ?it_DotfieldError___init__ ?z_enumerate ?z_sorted ?z_pair ?z_len ?z_range ?z_int ?z_isinstance ?z_bool ?z_list ?z_ValueError ?tc ?tp ?qT ?nT ?hPt
    (case aC_DotfieldError => k_is)
    (case aC_InvalidFormat => k_is)
    (case aC_InvalidSequence => k_is)
    (case a0 => k_is)
    (case i0 => k_is)
    (case l0 => k_is)
    (case c0 => k_is)
    (case k0 => k_is)
    (case a1 => k_is)
    (case l1 => k_is)
    (case c1 => k_is)
    (case k1 => k_is)
    (case a2 => k_is)
    (case l2 => k_is)
    (case c2 => k_is)
    (case k2 => k_is)
    (case a3 => k_is)
    (case l3 => k_is)
    (case c3 => k_is)
    (case k3 => k_is)
    (case a4 => k_is)
    (case l4 => k_is)
    (case c4 => k_is)
    (case k4 => k_is)
    (case a5 => k_is)
    (case l5 => k_is)
    (case c5 => k_is)
    (case k5 => k_is)
    (case a6 => k_is)
    (case l6 => k_is)
    (case c6 => k_is)
    (case k6 => k_is)
    (case a7 => k_is)
    (case l7 => k_is)
    (case c7 => k_is)
    (case k7 => k_is)
    (case a8 => k_is)
    (case l8 => k_is)
    (case c8 => k_is)
    (case k8 => k_is)
    (case a9 => k_is)
    (case l9 => k_is)
    (case c9 => k_is)
    (case k9 => k_is)
    (case a10 => k_is)
    (case l10 => k_is)
    (case c10 => k_is)
    (case k10 => k_is)
    (case a11 => k_is)
    (case l11 => k_is)
    (case c11 => k_is)
    (case k11 => k_is)
    (case lk_InvalidSequence => k_is)
    (case rv_InvalidSequence => decide +kernel)
    (case sa_InvalidSequence => k_is)
    (case ga_InvalidSequence => k_is)
    (case gg_InvalidSequence => k_is)
    (case cl_InvalidSequence => k_is)
    (case sb_InvalidSequence => k_is)
    (case ty_InvalidSequence => k_is)
    (case kc_InvalidSequence => k_is)
    (case hd_InvalidSequence => k_is)
    (case ob_InvalidSequence => k_is)
    (case rd_InvalidSequence => k_is)
    (case fd_InvalidSequence => k_is)
    (case ic_InvalidSequence => k_is)
    (case no_InvalidSequence_place => k_is)
    (case no_InvalidSequence_name => k_is)
    (case xs_InvalidSequence_DotfieldError => k_is)
    (case xh_InvalidSequence_DotfieldError => k_is)
    (case xt_InvalidSequence_DotfieldError => k_is)
    (case xu_InvalidSequence_DotfieldError => first | k_is | rfl | decide +kernel)
    (case ki_InvalidSequence_InvalidSequence => first | k_is | rfl | decide +kernel)
    (case ki_InvalidSequence_InvalidFormat => first | k_is | rfl | decide +kernel)
    (case ki_InvalidSequence_ValueError => first | k_is | rfl | decide +kernel)
    (case gt_ => k_is)
    (case tk_ => k_is)
    (case it_DotfieldError___init__ => k_is)
    (case z_enumerate => k_is)
    (case z_sorted => k_is)
    (case z_pair => k_is)
    (case z_len => k_is)
    (case z_range => k_is)
    (case z_int => k_is)
    (case z_isinstance => k_is)
    (case z_bool => k_is)
    (case z_list => k_is)
    (case z_ValueError => k_is)
    (case tc => k_is)
    (case tp => rfl)
    (case qT => kernel_rfl)
    (case nT => kernel_rfl)
    (case hPt => exact PySem.W.km_tabs_of Y _ (List.mem_singleton.mpr rfl))

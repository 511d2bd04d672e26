import PyProof.Rows.All
import Wide.All
import OpenK.AllK
import Wide.FinOn
import HandS.ForMost
import HandS.IsInst
import HandS.Codes
import HandS.Style
import PySem.Challenge.RW_dotfield_k12_format_words
import HandS.ForExc
import HandS.ExcInit
import HandS.ExcField
import HandS.ExcIs
import KE.KTypeName
import HandS.CallSlots
import HandS.Defaults
import HandS.Strs
import HandS.More
import HandS.Small
import HandS.WideBits
import KE.KxField
import HandS.HotCalls
import HandS.Lambda
import HandS.EndTab
import KE.KMinKey
import HandS.CallRecv
import HandS.HeadWalk
import KE.KNestM
import HandS.Iter
import HandS.Comp
import KE.KDictWalk
set_option Elab.async false
set_option linter.all false
set_option maxRecDepth 100000
namespace Z
open PySem PySem.Spec PyProof.Rows L2
/-! ## Readings, step by step (own words over the layer) -/
section
variable {K : PySem.W.Frag} {D : Ends} {H : Hp} {Q : VK} {R : Bool → Hp → Prop}
theorem r_seq {σ : L2.St} {t u : TS} (h : t { D with nx := u D } σ H) : tSeq t u D σ H := h
theorem r_asg {σ : L2.St} {te : TE} {g : TG} (h : te σ H fun x H1 => g x σ H1 D.nx) : tAsg te g D σ H := h
theorem r_gname {σ σ2 : L2.St} {i : Nat} {v : V} {k : L2.St → Hp → Prop} (hs : σ.set i (some v) = σ2) (h : k σ2 H) : gName i v σ H k := by
  subst hs; exact h
theorem r_ret {σ : L2.St} {te : TE} (h : te σ H D.rt) : tRet te D σ H := h
theorem r_retN {σ : L2.St} (h : D.rt .non H) : tRetN D σ H := h
theorem r_drop {σ : L2.St} {te : TE} (h : te σ H fun _ H1 => D.nx σ H1) : tDrop te D σ H := h
theorem r_next {σ : L2.St} (h : D.nx σ H) : tNext D σ H := h
theorem r_brk {σ : L2.St} (h : D.bk σ H) : tBreak D σ H := h
theorem r_cnt {σ : L2.St} (h : D.ct σ H) : tCont D σ H := h
theorem r_if {σ : L2.St} {c : TT} {t u : TS} (h : c σ H fun b H1 => if b = true then t D σ H1 else u D σ H1) : tIfS c t u D σ H := h
theorem r_ifE {σ : L2.St} {c : TT} {t u : TE} (h : c σ H fun b H1 => if b = true then t σ H1 Q else u σ H1 Q) : tIf c t u σ H Q := h
theorem r_test {σ : L2.St} {t : TE} (h : t σ H fun x H' => ∃ k, x = .bl k ∧ R k H') : tTest t σ H R := h
theorem r_tB {σ : L2.St} {t : TE} (h : t σ H fun x H' => ∃ k, x = .bl k ∧ R k H') : tB t σ H R := h
theorem r_bl {b : Bool} {P : Bool → Prop} (q : P b) : ∃ k, V.bl b = V.bl k ∧ P k := ⟨b, rfl, q⟩
theorem r_and {σ : L2.St} {t u : TT} (h : t σ H fun c H1 => if c = true then u σ H1 R else R false H1) : tAnd t u σ H R := h
theorem r_or {σ : L2.St} {t u : TT} (h : t σ H fun c H1 => if c = true then R true H1 else u σ H1 R) : tOr t u σ H R := h
theorem r_not {σ : L2.St} {t : TT} (h : t σ H fun c H1 => R (!c) H1) : tNot t σ H R := h
theorem r_andV {σ : L2.St} {ta tb : TE} (h : ta σ H fun x H1 => ∃ c, x = .bl c ∧ if c = true then tb σ H1 Q else Q (.bl false) H1) : tAndV ta tb σ H Q := h
theorem r_orV {σ : L2.St} {ta tb : TE} (h : ta σ H fun x H1 => ∃ c, x = .bl c ∧ if c = true then Q (.bl true) H1 else tb σ H1 Q) : tOrV ta tb σ H Q := h
theorem r_notV {σ : L2.St} {ta : TE} (h : ta σ H fun x H1 => ∃ c, x = .bl c ∧ Q (.bl (!c)) H1) : tNotV ta σ H Q := h
theorem r_v0 {v : V} {l : List (Option V)} (q : Q v H) : tVar 0 (some v :: l) H Q := ⟨v, rfl, q⟩
theorem r_vS {i : Nat} {x : Option V} {l : List (Option V)} (q : tVar i l H Q) : tVar (i + 1) (x :: l) H Q := q
theorem r_v1 {a : Option V} {v : V} {l : List (Option V)} (q : Q v H) : tVar 1 (a :: some v :: l) H Q := ⟨v, rfl, q⟩
theorem r_v2 {a b : Option V} {v : V} {l : List (Option V)} (q : Q v H) : tVar 2 (a :: b :: some v :: l) H Q := ⟨v, rfl, q⟩
theorem r_var {σ : L2.St} {i : Nat} {v : V} (h : σ[i]? = some (some v)) (q : Q v H) : tVar i σ H Q := ⟨v, h, q⟩
theorem r_c {σ : L2.St} {v : V} (q : Q v H) : tC v σ H Q := q
theorem r_op {σ : L2.St} {r : R2} {ta tb : TE} (h : ta σ H fun x H1 => tb σ H1 fun y H2 => r x y H2 Q) : tOp r ta tb σ H Q := h
theorem r_un {σ : L2.St} {r : V → Hp → VK → Prop} {ta : TE} (h : ta σ H fun x H1 => r x H1 Q) : tUn r ta σ H Q := h
theorem r_chain {σ : L2.St} {r r' : R2} {ta tb tc : TE} (h : ta σ H fun x H1 => tb σ H1 fun y H2 => r x y H2 fun z H3 => ∃ k, z = .bl k ∧ (if k = true then tc σ H3 fun w' H4 => r' y w' H4 Q else Q (.bl false) H3)) : tChain r r' ta tb tc σ H Q := h
theorem r_nil {σ : L2.St} {P : List V → Hp → Prop} (q : P [] H) : tNil σ H P := q
theorem r_cons {σ : L2.St} {ta : TE} {tr : TA} {P : List V → Hp → Prop} (h : ta σ H fun x H1 => tr σ H1 fun xs H2 => P (x :: xs) H2) : tCons ta tr σ H P := h
theorem r_I0 {g : Int → Int → V} {i j : Int} (q : Q (g i j) H) : rI0 g (.int i) (.int j) H Q := ⟨i, j, rfl, rfl, q⟩
theorem r_I {C : Int → Int → Prop} {g : Int → Int → V} {i j : Int} (c : C i j) (q : Q (g i j) H) : rI C g (.int i) (.int j) H Q := ⟨i, j, rfl, rfl, c, q⟩
theorem r_U {g : Int → V} {i : Int} (q : Q (g i) H) : rU g (.int i) H Q := ⟨i, rfl, q⟩
/-- a truth that is not looked into -/
def dB (p : Prop) [Decidable p] : Bool := decide p
theorem dB_t {p : Prop} [Decidable p] (h : p) : dB p = true := decide_eq_true h
theorem dB_f {p : Prop} [Decidable p] (h : ¬ p) : dB p = false := decide_eq_false h
theorem dB_of {p : Prop} [Decidable p] (h : dB p = true) : p := of_decide_eq_true h
theorem dB_iff {p q : Prop} [Decidable p] [Decidable q] (h : p ↔ q) : dB p = dB q := by
  by_cases c : p
  · rw [dB_t c, dB_t (h.mp c)]
  · rw [dB_f c, dB_f (fun z => c (h.mpr z))]
theorem r_lt {i j : Int} (q : Q (.bl (dB (i < j))) H) : rI0 (fun i j => .bl (decide (i < j))) (.int i) (.int j) H Q := ⟨i, j, rfl, rfl, q⟩
theorem r_le {i j : Int} (q : Q (.bl (dB (i ≤ j))) H) : rI0 (fun i j => .bl (decide (i ≤ j))) (.int i) (.int j) H Q := ⟨i, j, rfl, rfl, q⟩
theorem r_gt {i j : Int} (q : Q (.bl (dB (j < i))) H) : rI0 (fun i j => .bl (decide (j < i))) (.int i) (.int j) H Q := ⟨i, j, rfl, rfl, q⟩
theorem r_ge {i j : Int} (q : Q (.bl (dB (j ≤ i))) H) : rI0 (fun i j => .bl (decide (j ≤ i))) (.int i) (.int j) H Q := ⟨i, j, rfl, rfl, q⟩
theorem eq_int (i j : Int) : decide (V.int i = V.int j) = dB (i = j) := by
  unfold dB
  by_cases h : i = j
  · subst h; simp
  · simp [h]
theorem eq_bl (i j : Bool) : decide (V.bl i = V.bl j) = dB (i = j) := by
  unfold dB
  by_cases h : i = j
  · subst h; simp
  · simp [h]
theorem eq_str (i j : Str) : decide (V.str i = V.str j) = dB (i = j) := by
  unfold dB
  by_cases h : i = j
  · subst h; simp
  · simp [h]
theorem not_dB (p : Prop) [Decidable p] : (!dB p) = dB (¬ p) := by
  by_cases h : p
  · rw [dB_t h, dB_f (fun z => z h)]; rfl
  · rw [dB_f h, dB_t h]; rfl
theorem r_eqI {i j : Int} (q : Q (.bl (dB (i = j))) H) : rEq (.int i) (.int j) H Q := ⟨rfl, by rw [eq_int]; exact q⟩
theorem r_neI {i j : Int} (q : Q (.bl (dB (¬ i = j))) H) : rNe (.int i) (.int j) H Q := ⟨rfl, by rw [eq_int, not_dB]; exact q⟩
theorem r_eqB {i j : Bool} (q : Q (.bl (dB (i = j))) H) : rEq (.bl i) (.bl j) H Q := ⟨rfl, by rw [eq_bl]; exact q⟩
theorem r_neB {i j : Bool} (q : Q (.bl (dB (¬ i = j))) H) : rNe (.bl i) (.bl j) H Q := ⟨rfl, by rw [eq_bl, not_dB]; exact q⟩
theorem r_eqS {i j : Str} (q : Q (.bl (dB (i = j))) H) : rEq (.str i) (.str j) H Q := ⟨rfl, by rw [eq_str]; exact q⟩
theorem r_neS {i j : Str} (q : Q (.bl (dB (¬ i = j))) H) : rNe (.str i) (.str j) H Q := ⟨rfl, by rw [eq_str, not_dB]; exact q⟩
/-! tests that are decided -/
theorem i_t {A B : Prop} (h : A) : if true = true then A else B := h
theorem i_f {A B : Prop} (h : B) : if false = true then A else B := by rw [if_neg Bool.false_ne_true]; exact h
theorem i_2 {p : Prop} [Decidable p] {A B : Prop} (h1 : p → A) (h2 : ¬ p → B) : if dB p = true then A else B := by
  by_cases h : p
  · rw [dB_t h]; exact h1 h
  · rw [dB_f h, if_neg Bool.false_ne_true]; exact h2 h
theorem i_2n {p : Prop} [Decidable p] {A B : Prop} (h1 : ¬ p → A) (h2 : p → B) : if (!dB p) = true then A else B := by
  by_cases h : p
  · rw [dB_t h]; exact i_f (h2 h)
  · rw [dB_f h]; exact i_t (h1 h)
theorem i_2b {b : Bool} {A B : Prop} (h1 : b = true → A) (h2 : b = false → B) : if b = true then A else B := by
  cases b with
  | true => exact h1 rfl
  | false => exact i_f (h2 rfl)
theorem i_dt {p : Prop} [Decidable p] {A B : Prop} (h : p) (a : A) : if dB p = true then A else B := by rw [dB_t h]; exact a
theorem i_df {p : Prop} [Decidable p] {A B : Prop} (h : ¬ p) (b : B) : if dB p = true then A else B := by rw [dB_f h, if_neg Bool.false_ne_true]; exact b
theorem i_dtn {p : Prop} [Decidable p] {A B : Prop} (h : ¬ p) (a : A) : if (!dB p) = true then A else B := by rw [dB_f h]; exact a
theorem i_dfn {p : Prop} [Decidable p] {A B : Prop} (h : p) (b : B) : if (!dB p) = true then A else B := by rw [dB_t h]; exact i_f b
theorem i_nt {A B : Prop} (h : A) : if (!false) = true then A else B := h
theorem i_nf {A B : Prop} (h : B) : if (!true) = true then A else B := i_f h
theorem kx {CX : CXT} {P : Program} {w : World} {K : PySem.W.Frag} {mg : Str → Option Value} {base : Heap} {N : List Str} {qual : Str} {scope : Scope} {f : Addr} {cd : Value} {A : Around} {outer : List Env} {s : Shared} {H : Hp} {E : XK} :
    (cxOf CX P w K mg base N qual scope f cd A outer s H E).K = K := rfl
/-! heaps -/
theorem s_at {H H' : Hp} {a : Addr} {o : HO} (s : Same H H') (h : H a = some o) : H' a = some o := s _ _ h
theorem s_upd {H : Hp} {p : Addr} {o : HO} (h : H p = none) : Same H (upd H p o) := fun b x e => by
  rw [upd_ne (ne_of_none e h)]
  exact e
/-- an object that H does not know may change -/
theorem s_mut {H H' : Hp} {p : Addr} {o : HO} (e : Same H H') (h : H p = none) : Same H (upd H' p o) := fun a u ha => by
  rw [upd_ne (ne_of_none ha h)]
  exact e a u ha
theorem s_back {H H' : Hp} {p : Addr} (e : Same H H') (h : H' p = none) : H p = none := e.free h
theorem ne_of' {H : Hp} {a b : Addr} {o : HO} (h' : H b = none) (h : H a = some o) : a ≠ b := ne_of_none h h'
theorem ne_new {H H' : Hp} {a b : Addr} {o : HO} (h : H a = some o) (s : Same H H') (h' : H' b = none) : a ≠ b := ne_of_none (s _ _ h) h'
theorem sq_l {H : Hp} {a : Addr} {xs : List V} (h : H a = some (.lst xs)) : SqL K H a xs := .inl (.inl h)
theorem sq_t {H : Hp} {a : Addr} {xs : List V} (h : H a = some (.tup xs)) : SqT K H a xs := .inl (.inl h)
theorem s_sq {H H' : Hp} {a : Addr} {xs : List V} (s : Same H H') (h : SqL K H a xs) : SqL K H' a xs := s.seq h
theorem s_rd {H H' : Hp} {a : Addr} {u : HO} (e : Same H H') (h : Rd H a u) : Rd H' a u := by
  rcases h with h | ⟨o, h⟩
  · exact .inl (e a _ h)
  · exact .inr ⟨o, e a _ h⟩
theorem s_st {H H' : Hp} {a : Addr} {xs : List V} (s : Same H H') (h : SqT K H a xs) : SqT K H' a xs := by
  rcases h with h | h
  · exact .inl (s_rd s h)
  · exact .inr h
theorem sz {n : Nat} (h : n ≤ 100000) : n ≤ sizeLine := Nat.le_trans h (by decide)
theorem szl {n : Nat} (h : n < 100000) : n < sizeLine := Nat.lt_of_lt_of_le h (by decide)
/-! lists -/
theorem r_ixL {p : Addr} {xs : List V} {i : Int} {v : V} (h : SqL K H p xs) (ha : atI xs i = some v) (q : Q v H) : rIxL K (.ref p) (.int i) H Q := ⟨p, xs, i, v, rfl, rfl, h, ha, q⟩
theorem r_ixT {p : Addr} {xs : List V} {i : Int} {v : V} (h : SqT K H p xs) (ha : atI xs i = some v) (q : Q v H) : rIxT K (.ref p) (.int i) H Q := ⟨p, xs, i, v, rfl, rfl, h, ha, q⟩
theorem r_new {σ : L2.St} {t : TA} (h : t σ H fun xs H1 => xs.length ≤ sizeLine ∧ ∀ p, H1 p = none → Q (.ref p) (upd H1 p (.lst xs))) : tLst t σ H Q := h
theorem r_tup {σ : L2.St} {t : TA} (h : t σ H fun xs H1 => xs.length ≤ sizeLine ∧ ∀ p, H1 p = none → Q (.ref p) (upd H1 p (.tup xs))) : tTup t σ H Q := h
theorem r_cb {σ : L2.St} {r : List V → Hp → VK → Prop} {t : TA} (h : t σ H fun vs H1 => r vs H1 Q) : tCB r t σ H Q := h
theorem r_call {σ : L2.St} {sp : Sp} {E : XK} {t : TA} (h : t σ H fun vs H1 => sp (vs ++ []) H1 Q E) : tCall sp [] E t σ H Q := h
theorem r_bm {σ : L2.St} {T : String} {r : V → List V → Hp → VK → Prop} {to : TE} {t : TA} (h : to σ H fun x H1 => tyV K T x H1 ∧ t σ H1 fun xs H2 => r x xs H2 Q) : tBM K T r to t σ H Q := h
theorem ty_lst {x : Addr} {xs : List V} {P : Prop} (h : SqL K H x xs) (q : P) : tyV K "list" (.ref x) H ∧ P := ⟨Or.inl ⟨rfl, xs, h⟩, q⟩
theorem r_append {l : Addr} {xs : List V} {y : V} (h : H l = some (.lst xs)) (z : xs.length < sizeLine) (q : Q .non (upd H l (.lst (xs ++ [y])))) : rAppend (.ref l) [y] H Q := ⟨l, xs, y, rfl, rfl, h, z, q⟩
def cLen (K : PySem.W.Frag) : List V → Hp → VK → Prop := fun xs H Q => ∃ p ys, xs = [.ref p] ∧ (SqL K H p ys ∨ SqT K H p ys) ∧ Q (.int ys.length) H
theorem call_len {X : Cx} : CallR X (.builtin "len") (cLen X.K) := call_len_seq
theorem r_lenL {p : Addr} {ys : List V} (h : SqL K H p ys) (q : Q (.int ys.length) H) : cLen K [.ref p] H Q := ⟨p, ys, rfl, .inl h, q⟩
theorem r_lenT {p : Addr} {ys : List V} (h : SqT K H p ys) (q : Q (.int ys.length) H) : cLen K [.ref p] H Q := ⟨p, ys, rfl, .inr h, q⟩
def cInt : List V → Hp → VK → Prop := fun xs H Q => (∃ i, xs = [.int i] ∧ Q (.int i) H) ∨ ∃ k, xs = [.bl k] ∧ Q (.int (if k then 1 else 0)) H
theorem call_int {X : Cx} : CallR X (.type "int") cInt := call_int1
theorem r_int {i : Int} (q : Q (.int i) H) : cInt [.int i] H Q := .inl ⟨i, rfl, q⟩
def cIsN : R2 := fun x y H Q => y = .non ∧ Q (.bl (decide (x = .non))) H
def cNotN : R2 := fun x y H Q => y = .non ∧ Q (.bl (!decide (x = .non))) H
theorem op_isN {X : Cx} : OpR X (compareOp .Is) cIsN := L2.op_isN
theorem op_notN {X : Cx} : OpR X (compareOp .IsNot) cNotN := L2.op_notN
theorem r_notN {x : V} (q : Q (.bl (!dB (x = .non))) H) : cNotN x .non H Q := ⟨rfl, q⟩
theorem r_isN {x : V} (q : Q (.bl (dB (x = .non))) H) : cIsN x .non H Q := ⟨rfl, q⟩
theorem r_isi {x c : V} {t u : Value} {b : Bool} (h1 : ClsV c u) (h2 : TyX K H x t) (h3 : PySem.W.kitOne K t u = some b) (q : Q (.bl b) H) : rIsi K [x, c] H Q := ⟨x, c, t, u, b, rfl, h1, h2, h3, q⟩
/-! slices -/
theorem r_sl {σ : L2.St} {r : V → Option Int → Option Int → Hp → VK → Prop} {te : TE} {tl th : TO} (h : te σ H fun x H1 => tl σ H1 fun l H2 => th σ H2 fun u H3 => r x l u H3 Q) : tSl r te tl th σ H Q := h
theorem r_noPart {σ : L2.St} {P : Option Int → Hp → Prop} (q : P none H) : tNoPart σ H P := q
theorem r_part {σ : L2.St} {t : TE} {P : Option Int → Hp → Prop} (h : t σ H fun x H1 => ∃ i, x = .int i ∧ P (some i) H1) : tPart t σ H P := h
theorem r_pint {i : Int} {P : Int → Prop} (q : P i) : ∃ j, V.int i = .int j ∧ P j := ⟨i, rfl, q⟩
theorem r_slL {a : Addr} {xs : List V} {lo hi : Option Int} (h : SqL K H a xs) (q : ∀ p, H p = none → Q (.ref p) (upd H p (.lst (cutV xs lo hi)))) : rSlL K (.ref a) lo hi H Q := ⟨a, xs, rfl, h, q⟩
theorem r_aug {σ σ2 : L2.St} {i : Nat} {te : TE} {ti : TIp} {x : V} (hx : σ[i]? = some (some x)) (h : te σ H fun y H1 => ti x y H1 fun z H2 => D.nx (σ.set i (some z)) H2) : tAug i te ti D σ H := ⟨x, hx, h⟩
/-! loops -/
theorem for_lst {σ : L2.St} {tl : TE} {g : TG} {tb : TS} (h : tl σ H fun x H1 => ∃ a, x = .ref a ∧ (∃ xs, SqL K H1 a xs) ∧ ∃ W : Nat → Nat → L2.St → Hp → Prop, (∃ m, W 0 m σ H1) ∧ ∀ i m σ H, W i m σ H →
  ((Itl K a).stop i H ∧ D.nx σ H) ∨ ((Itl K a).go i H ∧ ∃ N : L2.St → Hp → Prop, (∀ σ' H', N σ' H' → ∃ m', m' < m ∧ W (i + 1) m' σ' H') ∧ ∀ x H', (Itl K a).yld i H x H' → g x σ H' fun σ2 H2 => tb { D with nx := N, ct := N, bk := D.nx } σ2 H2)) : tFor (iList K tl) g tb D σ H := h
theorem lst_go {σ : L2.St} {a : Addr} {xs : List V} {g : TG} {tb : TS} (hs0 : SqL K H a xs) (Pv : Nat → L2.St → Hp → Prop) (h0 : Pv 0 σ H) (hl : ∀ i σ H, i ≤ xs.length → Pv i σ H → SqL K H a xs)
    (hs : ∀ i x σ H, xs[i]? = some x → Pv i σ H → g x σ H fun σ2 H2 => tb { D with nx := Pv (i + 1), ct := Pv (i + 1), bk := D.nx } σ2 H2) (hd : ∀ σ H, Pv xs.length σ H → D.nx σ H) :
    ∃ a', V.ref a = .ref a' ∧ (∃ xs, SqL K H a' xs) ∧ ∃ W : Nat → Nat → L2.St → Hp → Prop, (∃ m, W 0 m σ H) ∧ ∀ i m σ H, W i m σ H →
  ((Itl K a').stop i H ∧ D.nx σ H) ∨ ((Itl K a').go i H ∧ ∃ N : L2.St → Hp → Prop, (∀ σ' H', N σ' H' → ∃ m', m' < m ∧ W (i + 1) m' σ' H') ∧ ∀ x H', (Itl K a').yld i H x H' → g x σ H' fun σ2 H2 => tb { D with nx := N, ct := N, bk := D.nx } σ2 H2) :=
  ⟨a, rfl, ⟨xs, hs0⟩, for_list (K := K) Pv h0 hl hs hd⟩
theorem for_rng {σ : L2.St} {ta : TA} {g : TG} {tb : TS} (h : ta σ H fun vs H1 => ∃ j : Int, vs = [.int j] ∧ -(2 ^ 62) ≤ j ∧ j < 2 ^ 62 ∧ ∃ W : Nat → Nat → L2.St → Hp → Prop, (∃ m, W 0 m σ H1) ∧ ∀ i m σ H, W i m σ H →
  ((Itr 0 j.toNat).stop i H ∧ D.nx σ H) ∨ ((Itr 0 j.toNat).go i H ∧ ∃ N : L2.St → Hp → Prop, (∀ σ' H', N σ' H' → ∃ m', m' < m ∧ W (i + 1) m' σ' H') ∧ ∀ x H', (Itr 0 j.toNat).yld i H x H' → g x σ H' fun σ2 H2 => tb { D with nx := N, ct := N, bk := D.nx } σ2 H2)) : tFor (iRng1 ta) g tb D σ H := h
theorem rng_go {σ : L2.St} {j : Int} {g : TG} {tb : TS} (n : Nat) (hj : j.toNat = n) (hb : -(2 ^ 62) ≤ j ∧ j < 2 ^ 62) (Pv : Nat → L2.St → Hp → Prop) (h0 : Pv 0 σ H)
    (hs : ∀ i σ H, i < n → Pv i σ H → g (.int (i : Nat)) σ H fun σ2 H2 => tb { D with nx := Pv (i + 1), ct := Pv (i + 1), bk := D.nx } σ2 H2) (hd : ∀ σ H, Pv n σ H → D.nx σ H) :
    ∃ j' : Int, [V.int j] = [.int j'] ∧ -(2 ^ 62) ≤ j' ∧ j' < 2 ^ 62 ∧ ∃ W : Nat → Nat → L2.St → Hp → Prop, (∃ m, W 0 m σ H) ∧ ∀ i m σ H, W i m σ H →
  ((Itr 0 j'.toNat).stop i H ∧ D.nx σ H) ∨ ((Itr 0 j'.toNat).go i H ∧ ∃ N : L2.St → Hp → Prop, (∀ σ' H', N σ' H' → ∃ m', m' < m ∧ W (i + 1) m' σ' H') ∧ ∀ x H', (Itr 0 j'.toNat).yld i H x H' → g x σ H' fun σ2 H2 => tb { D with nx := N, ct := N, bk := D.nx } σ2 H2) := by
  subst hj
  refine ⟨j, rfl, hb.1, hb.2, for_range (lo := 0) Pv h0 (fun i σ H hi p => ?_) hd⟩
  have e : (0 : Int) + (i : Nat) = (i : Nat) := Int.zero_add _
  rw [e]
  exact hs i σ H hi p
theorem for_rng2 {σ : L2.St} {ta : TA} {g : TG} {tb : TS} (h : ta σ H fun vs H1 => ∃ i j : Int, vs = [.int i, .int j] ∧ (-(2 ^ 62) ≤ i ∧ i < 2 ^ 62 ∧ -(2 ^ 62) ≤ j ∧ j < 2 ^ 62) ∧ ∃ W : Nat → Nat → L2.St → Hp → Prop, (∃ m, W 0 m σ H1) ∧ ∀ k m σ H, W k m σ H →
  ((Itr i (j - i).toNat).stop k H ∧ D.nx σ H) ∨ ((Itr i (j - i).toNat).go k H ∧ ∃ N : L2.St → Hp → Prop, (∀ σ' H', N σ' H' → ∃ m', m' < m ∧ W (k + 1) m' σ' H') ∧ ∀ x H', (Itr i (j - i).toNat).yld k H x H' → g x σ H' fun σ2 H2 => tb { D with nx := N, ct := N, bk := D.nx } σ2 H2)) : tFor (iRng2 ta) g tb D σ H := h
theorem rng_go2 {σ : L2.St} {a j : Int} {g : TG} {tb : TS} (n : Nat) (hj : (j - a).toNat = n) (hb : -(2 ^ 62) ≤ a ∧ a < 2 ^ 62 ∧ -(2 ^ 62) ≤ j ∧ j < 2 ^ 62) (Pv : Nat → L2.St → Hp → Prop) (h0 : Pv 0 σ H)
    (hs : ∀ i σ H, i < n → Pv i σ H → g (.int (a + (i : Nat))) σ H fun σ2 H2 => tb { D with nx := Pv (i + 1), ct := Pv (i + 1), bk := D.nx } σ2 H2) (hd : ∀ σ H, Pv n σ H → D.nx σ H) :
    ∃ i' j' : Int, [V.int a, V.int j] = [.int i', .int j'] ∧ (-(2 ^ 62) ≤ i' ∧ i' < 2 ^ 62 ∧ -(2 ^ 62) ≤ j' ∧ j' < 2 ^ 62) ∧ ∃ W : Nat → Nat → L2.St → Hp → Prop, (∃ m, W 0 m σ H) ∧ ∀ k m σ H, W k m σ H →
  ((Itr i' (j' - i').toNat).stop k H ∧ D.nx σ H) ∨ ((Itr i' (j' - i').toNat).go k H ∧ ∃ N : L2.St → Hp → Prop, (∀ σ' H', N σ' H' → ∃ m', m' < m ∧ W (k + 1) m' σ' H') ∧ ∀ x H', (Itr i' (j' - i').toNat).yld k H x H' → g x σ H' fun σ2 H2 => tb { D with nx := N, ct := N, bk := D.nx } σ2 H2) := by
  subst hj
  exact ⟨a, j, rfl, hb, for_range (lo := a) Pv h0 hs hd⟩
end
theorem for_enum {D : Ends} {H : Hp} {K : PySem.W.Frag} {σ : L2.St} {ta : TA} {g : TG} {tb : TS} (h : ta σ H fun vs H1 => ∃ a xs, vs = [.ref a] ∧ SqL K H1 a xs ∧ ∃ W : Nat → Nat → L2.St → Hp → Prop, (∃ m, W 0 m σ H1) ∧ ∀ i m σ H, W i m σ H →
  ((Ite K a).stop i H ∧ D.nx σ H) ∨ ((Ite K a).go i H ∧ ∃ N : L2.St → Hp → Prop, (∀ σ' H', N σ' H' → ∃ m', m' < m ∧ W (i + 1) m' σ' H') ∧ ∀ x H', (Ite K a).yld i H x H' → g x σ H' fun σ2 H2 => tb { D with nx := N, ct := N, bk := D.nx } σ2 H2)) : tFor (iEnum K ta) g tb D σ H := h
theorem enum_go {D : Ends} {H : Hp} {K : PySem.W.Frag} {σ : L2.St} {a : Addr} {xs : List V} {g : TG} {tb : TS} (hs0 : SqL K H a xs) (Pv : Nat → L2.St → Hp → Prop) (h0 : Pv 0 σ H) (hl : ∀ i σ H, i ≤ xs.length → Pv i σ H → SqL K H a xs)
    (hs : ∀ i x σ H T, xs[i]? = some x → Pv i σ H → H T = none → g (.ref T) σ (upd H T (.tup [.int (i : Nat), x])) fun σ2 H2 => tb { D with nx := Pv (i + 1), ct := Pv (i + 1), bk := D.nx } σ2 H2) (hd : ∀ σ H, Pv xs.length σ H → D.nx σ H) :
    ∃ a' xs', [V.ref a] = [.ref a'] ∧ SqL K H a' xs' ∧ ∃ W : Nat → Nat → L2.St → Hp → Prop, (∃ m, W 0 m σ H) ∧ ∀ i m σ H, W i m σ H →
  ((Ite K a').stop i H ∧ D.nx σ H) ∨ ((Ite K a').go i H ∧ ∃ N : L2.St → Hp → Prop, (∀ σ' H', N σ' H' → ∃ m', m' < m ∧ W (i + 1) m' σ' H') ∧ ∀ x H', (Ite K a').yld i H x H' → g x σ H' fun σ2 H2 => tb { D with nx := N, ct := N, bk := D.nx } σ2 H2) := by
  refine ⟨a, xs, rfl, hs0, fun i m σ H => m = xs.length - i ∧ i ≤ xs.length ∧ Pv i σ H, ⟨xs.length, by simp, Nat.zero_le _, h0⟩, ?_⟩
  rintro i m σ H ⟨rfl, hi, p⟩
  have q := hl i σ H hi p
  by_cases hlt : i < xs.length
  · refine .inr ⟨⟨xs, xs[i], q, by simp [hlt]⟩, Pv (i + 1), fun σ' H' p' => ⟨xs.length - (i + 1), by omega, rfl, hlt, p'⟩, fun x H' y => ?_⟩
    obtain ⟨T, x, rfl, hT, rfl, hx⟩ := y
    exact hs i x σ H T (hx xs q) p hT
  · have e : i = xs.length := by omega
    subst e
    exact .inl ⟨⟨xs, q, Nat.le_refl _⟩, hd σ H p⟩
theorem r_pair {H : Hp} {K : PySem.W.Frag} {σ σ2 : L2.St} {i j : Nat} {T : Addr} {x y : V} {k : L2.St → Hp → Prop} (hT : H T = some (.tup [x, y])) (hs : (σ.set i (some x)).set j (some y) = σ2) (h : k σ2 H) :
    gTup K 2 (gCons (gName i) (gCons (gName j) gNil)) (.ref T) σ H k := by
  subst hs
  exact ⟨T, [x, y], rfl, .inl (.inl hT), rfl, x, [y], rfl, y, [], rfl, rfl, h⟩
theorem r_three {H : Hp} {K : PySem.W.Frag} {σ σ2 : L2.St} {i j l : Nat} {T : Addr} {x y z : V} {k : L2.St → Hp → Prop} (hT : H T = some (.tup [x, y, z])) (hs : ((σ.set i (some x)).set j (some y)).set l (some z) = σ2) (h : k σ2 H) :
    gTup K 3 (gCons (gName i) (gCons (gName j) (gCons (gName l) gNil))) (.ref T) σ H k := by
  subst hs
  exact ⟨T, [x, y, z], rfl, .inl (.inl hT), rfl, x, [y, z], rfl, y, [z], rfl, z, [], rfl, rfl, h⟩
theorem r_gsub {H : Hp} {σ : L2.St} {to ti : TE} {t : TSet} {v : V} {k : L2.St → Hp → Prop} (h : to σ H fun o H1 => ti σ H1 fun i H2 => t o i v H2 fun H3 => k σ H3) : gSub to ti t v σ H k := h
theorem r_setL {H : Hp} {p : Addr} {xs : List V} {k : Int} {j : Nat} {v : V} {Q : Hp → Prop} (hp : H p = some (.lst xs)) (e : k = (j : Int)) (hj : j < xs.length) (q : Q (upd H p (.lst (xs.set j v)))) : rSetL (.ref p) (.int k) v H Q := by
  subst e
  refine ⟨p, xs, (j : Int), j, rfl, rfl, hp, ?_, q⟩
  unfold ixN
  rw [if_pos (by omega), if_pos (by omega), Int.toNat_natCast]
theorem r_rep {H : Hp} {Q : VK} {l : Addr} {k : Int} {v : V} (hl : H l = some (.lst [v])) (h1 : -(2 ^ 63) ≤ k) (h2 : k < 100000) (q : ∀ p, H p = none → Q (.ref p) (upd H p (.lst (List.replicate k.toNat v)))) : rRep (.ref l) (.int k) H Q := by
  refine ⟨l, k, [v], rfl, rfl, hl, h1, Int.lt_trans h2 (by decide), sz (by show 1 * k.toNat ≤ 100000; omega), fun p hp => ?_⟩
  have e : (List.replicate k.toNat [v]).flatten = List.replicate k.toNat v := by
    generalize k.toNat = n
    induction n with
    | zero => rfl
    | succ n ih => rw [List.replicate_succ, List.flatten_cons, ih, List.replicate_succ]; rfl
  rw [e]
  exact q p hp
theorem r_cat {H : Hp} {Q : VK} {l b : Addr} {xs zs : List V} (hl : H l = some (.lst xs)) (hb : H b = some (.lst zs)) (hz : xs.length + zs.length ≤ 100000) (q : ∀ p, H p = none → Q (.ref p) (upd H p (.lst (xs ++ zs)))) : rCat (.ref l) (.ref b) H Q :=
  ⟨l, b, xs, zs, rfl, rfl, hl, hb, sz hz, q⟩
def cList (K : PySem.W.Frag) : List V → Hp → VK → Prop := fun xs H Q => ∃ p ys, xs = [.ref p] ∧ (SqL K H p ys ∨ SqT K H p ys) ∧ ∀ l, H l = none → Q (.ref l) (upd H l (.lst ys))
theorem call_list {X : Cx} : CallR X (.type "list") (cList X.K) := call_list_of
theorem r_list {H : Hp} {K : PySem.W.Frag} {Q : VK} {p : Addr} {ys : List V} (h : SqL K H p ys) (q : ∀ l, H l = none → Q (.ref l) (upd H l (.lst ys))) : cList K [.ref p] H Q := ⟨p, ys, rfl, .inl h, q⟩
theorem r_intB {H : Hp} {Q : VK} {b : Bool} (q : Q (.int (if b then 1 else 0)) H) : cInt [.bl b] H Q := .inr ⟨b, rfl, q⟩
/-! two lists of ints compared -/
theorem dp_ints {K : PySem.W.Frag} {H : Hp} : ∀ ns : List Int, DpAll K H (ns.map V.int) (ns.map PyData.int)
  | [] => .nil
  | n :: r => .cons (.int n) (dp_ints r)
theorem depth_ints : ∀ ns : List Int, PyData.depthAll (ns.map PyData.int) = 0
  | [] => rfl
  | n :: r => by
    show max 0 (PyData.depthAll (r.map PyData.int)) = 0
    rw [depth_ints r]; rfl
theorem lay_ints : ∀ ns : List Int, PyData.canLayAll0 (ns.map PyData.int) = true
  | [] => rfl
  | n :: r => by
    show (true && PyData.canLayAll0 (r.map PyData.int)) = true
    rw [lay_ints r]; rfl
theorem shaped_ints (ns : List Int) : SeqAt.shaped (.list (ns.map PyData.int)) = true := by
  have h1 : (PyData.list (ns.map PyData.int)).canLay0 = true := lay_ints ns
  have h2 : (PyData.list (ns.map PyData.int)).depth ≤ 64 := by
    show PyData.depthAll (ns.map PyData.int) + 1 ≤ 64
    rw [depth_ints ns]; decide
  unfold SeqAt.shaped
  rw [h1, decide_eq_true h2]; rfl
theorem eqv_ints : ∀ ns : List Int, PyData.eqv (.list (ns.map PyData.int)) (.list (ns.map PyData.int)) = true := by
  intro ns
  unfold PyData.eqv
  induction ns with
  | nil => rfl
  | cons n r ih => simp [PyData.eqvAll, PyData.eqv, ih]
theorem r_eqL {H : Hp} {K : PySem.W.Frag} {Q : VK} {a b : Addr} {ns : List Int} (ha : SqL K H a (ns.map V.int)) (hb : SqL K H b (ns.map V.int)) (q : Q (.bl true) H) : rEqD K (.ref a) (.ref b) H Q :=
  ⟨_, _, .lst ha (dp_ints ns), .lst hb (dp_ints ns), shaped_ints ns, shaped_ints ns, by rw [eqv_ints]; exact q⟩
theorem eqv_ints2 : ∀ ns ms : List Int, PyData.eqv (.list (ns.map PyData.int)) (.list (ms.map PyData.int)) = dB (ns = ms) := by
  intro ns
  induction ns with
  | nil =>
    intro ms
    cases ms with
    | nil => rw [dB_t rfl]; simp [PyData.eqv, PyData.eqvAll]
    | cons m r => rw [dB_f (by simp)]; simp [PyData.eqv, PyData.eqvAll]
  | cons n ns ih =>
    intro ms
    cases ms with
    | nil => rw [dB_f (by simp)]; simp [PyData.eqv, PyData.eqvAll]
    | cons m r =>
      have i2 := ih r
      unfold PyData.eqv at i2
      have e : PyData.eqv (.list ((n :: ns).map PyData.int)) (.list ((m :: r).map PyData.int)) = ((n == m) && PyData.eqv (.list (ns.map PyData.int)) (.list (r.map PyData.int))) := by
        unfold PyData.eqv
        simp [PyData.eqvAll, PyData.eqv]
      rw [e, ih r]
      by_cases h : n = m
      · subst h
        by_cases h2 : ns = r
        · subst h2; rw [dB_t rfl, dB_t rfl]; simp
        · rw [dB_f h2, dB_f (by intro z; injection z with _ z; exact h2 z)]; simp
      · rw [dB_f (p := n :: ns = m :: r) (by intro z; injection z with z _; exact h z)]; simp [h]
theorem r_eqL2 {H : Hp} {K : PySem.W.Frag} {Q : VK} {a b : Addr} {ns ms : List Int} (ha : SqL K H a (ns.map V.int)) (hb : SqL K H b (ms.map V.int)) (q : Q (.bl (dB (ns = ms))) H) : rEqD K (.ref a) (.ref b) H Q :=
  ⟨_, _, .lst ha (dp_ints ns), .lst hb (dp_ints ms), shaped_ints ns, shaped_ints ms, by rw [eqv_ints2]; exact q⟩
theorem r_sum {K : PySem.W.Frag} {H : Hp} {Q : VK} {a : Addr} {ns : List Int} (h : SqL K H a (ns.map V.int)) (q : Q (.int ns.sum) H) : rSum K [.ref a] H Q := ⟨a, ns, rfl, h, q⟩
/-! comprehensions whose elements leave all as it was -/
theorem lc_rng {H : Hp} {Q : VK} {σ : L2.St} {ta : TA} {g : TG} {tt : TT} {te : TE} {vs : List Nat} (h : ta σ H fun ws H1 => ∃ j : Int, ws = [V.int j] ∧ -(2 ^ 62) ≤ j ∧ j < 2 ^ 62 ∧ ∀ D, H1 D = none → ∃ W : Nat → Nat → Hp → Prop, (∃ m, W 0 m (upd H1 D (.lst []))) ∧ ∀ i m H, W i m H →
  ((Itr 0 j.toNat).stop i H ∧ Q (.ref D) H) ∨ ((Itr 0 j.toNat).go i H ∧ ∃ Nx : Hp → Prop, (∀ H', Nx H' → ∃ m', m' < m ∧ W (i + 1) m' H') ∧ ∀ x H', (Itr 0 j.toNat).yld i H x H' → g x (wipe σ vs) H' fun σ2 H2 => wipe σ2 vs = wipe σ vs ∧ tt σ2 H2 fun b H3 =>
    if b = true then te σ2 H3 fun y H4 => ∃ acc, H4 D = some (.lst acc) ∧ acc.length < sizeLine ∧ Nx (upd H4 D (.lst (acc ++ [y]))) else Nx H3)) : tLc (iRng1 ta) g tt te vs σ H Q := h
theorem lc_lst {H : Hp} {K : PySem.W.Frag} {Q : VK} {σ : L2.St} {tl : TE} {g : TG} {tt : TT} {te : TE} {vs : List Nat} (h : tl σ H fun x H1 => ∃ a, x = .ref a ∧ (∃ xs, SqL K H1 a xs) ∧ ∀ D, H1 D = none → ∃ W : Nat → Nat → Hp → Prop, (∃ m, W 0 m (upd H1 D (.lst []))) ∧ ∀ i m H, W i m H →
  ((Itl K a).stop i H ∧ Q (.ref D) H) ∨ ((Itl K a).go i H ∧ ∃ Nx : Hp → Prop, (∀ H', Nx H' → ∃ m', m' < m ∧ W (i + 1) m' H') ∧ ∀ x H', (Itl K a).yld i H x H' → g x (wipe σ vs) H' fun σ2 H2 => wipe σ2 vs = wipe σ vs ∧ tt σ2 H2 fun b H3 =>
    if b = true then te σ2 H3 fun y H4 => ∃ acc, H4 D = some (.lst acc) ∧ acc.length < sizeLine ∧ Nx (upd H4 D (.lst (acc ++ [y]))) else Nx H3)) : tLc (iList K tl) g tt te vs σ H Q := h
theorem lcr_pure {H1 : Hp} {Qd : Addr → Hp → Prop} {σ : L2.St} {te : TE} {vs : List Nat} {sl : Nat} {j : Int} (n : Nat) (f : Nat → V) (hj : j.toNat = n) (hb : -(2 ^ 62) ≤ j ∧ j < 2 ^ 62) (hz : n ≤ 100000) (hw : ∀ v : Option V, wipe ((wipe σ vs).set sl v) vs = wipe σ vs)
    (hs : ∀ i H2, i < n → Same H1 H2 → ∀ k : VK, (∀ H5, Same H2 H5 → k (f i) H5) → te ((wipe σ vs).set sl (some (V.int (i : Nat)))) H2 k)
    (hd : ∀ D H2, H1 D = none → Same H1 H2 → H2 D = some (.lst ((List.range n).map f)) → Qd D H2) :
    ∃ j' : Int, [V.int j] = [V.int j'] ∧ -(2 ^ 62) ≤ j' ∧ j' < 2 ^ 62 ∧ ∀ D, H1 D = none → ∃ W : Nat → Nat → Hp → Prop, (∃ m, W 0 m (upd H1 D (.lst []))) ∧ ∀ i m H, W i m H →
  ((Itr 0 j'.toNat).stop i H ∧ Qd D H) ∨ ((Itr 0 j'.toNat).go i H ∧ ∃ Nx : Hp → Prop, (∀ H', Nx H' → ∃ m', m' < m ∧ W (i + 1) m' H') ∧ ∀ x H', (Itr 0 j'.toNat).yld i H x H' → gName sl x (wipe σ vs) H' fun σ2 H2 => wipe σ2 vs = wipe σ vs ∧ tYes σ2 H2 fun b H3 =>
    if b = true then te σ2 H3 fun y H4 => ∃ acc, H4 D = some (.lst acc) ∧ acc.length < sizeLine ∧ Nx (upd H4 D (.lst (acc ++ [y]))) else Nx H3) := by
  refine ⟨j, rfl, hb.1, hb.2, fun D hD => ?_⟩
  subst hj
  refine lc_range (lo := 0) (fun i H2 => Same H1 H2 ∧ H2 D = some (.lst ((List.range i).map f))) ⟨s_upd hD, upd_same⟩ (fun i H2 hi ⟨s2, hl⟩ => ?_) (fun H2 ⟨s2, hl⟩ => hd D H2 hD s2 hl)
  have e : (0 : Int) + (i : Nat) = (i : Nat) := Int.zero_add _
  rw [e]
  refine ⟨hw _, i_t (B := Same H1 H2 ∧ H2 D = some (.lst ((List.range (i + 1)).map f))) ?_⟩
  refine (hs i H2 hi s2 _ fun H5 s5 => ⟨_, s5 _ _ hl, szl (by rw [List.length_map, List.length_range]; omega), s_mut (s2.trans s5) hD, ?_⟩)
  rw [List.range_succ, List.map_append]
  exact upd_same
theorem lcl_pure {H1 : Hp} {K : PySem.W.Frag} {Qd : Addr → Hp → Prop} {σ : L2.St} {te : TE} {vs : List Nat} {sl : Nat} {a : Addr} {xs : List V} (f : V → V) (hx : SqL K H1 a xs) (hz : xs.length ≤ 100000) (hw : ∀ v : Option V, wipe ((wipe σ vs).set sl v) vs = wipe σ vs)
    (hs : ∀ (i : Nat) x H2, xs[i]? = some x → Same H1 H2 → ∀ k : VK, (∀ H5, Same H2 H5 → k (f x) H5) → te ((wipe σ vs).set sl (some x)) H2 k)
    (hd : ∀ D H2, H1 D = none → Same H1 H2 → H2 D = some (.lst (xs.map f)) → Qd D H2) :
    ∃ a', V.ref a = .ref a' ∧ (∃ xs, SqL K H1 a' xs) ∧ ∀ D, H1 D = none → ∃ W : Nat → Nat → Hp → Prop, (∃ m, W 0 m (upd H1 D (.lst []))) ∧ ∀ i m H, W i m H →
  ((Itl K a').stop i H ∧ Qd D H) ∨ ((Itl K a').go i H ∧ ∃ Nx : Hp → Prop, (∀ H', Nx H' → ∃ m', m' < m ∧ W (i + 1) m' H') ∧ ∀ x H', (Itl K a').yld i H x H' → gName sl x (wipe σ vs) H' fun σ2 H2 => wipe σ2 vs = wipe σ vs ∧ tYes σ2 H2 fun b H3 =>
    if b = true then te σ2 H3 fun y H4 => ∃ acc, H4 D = some (.lst acc) ∧ acc.length < sizeLine ∧ Nx (upd H4 D (.lst (acc ++ [y]))) else Nx H3) := by
  refine ⟨a, rfl, ⟨xs, hx⟩, fun D hD => ?_⟩
  refine lc_list (K := K) (xs := xs) (fun i H2 => Same H1 H2 ∧ H2 D = some (.lst ((xs.take i).map f))) ⟨s_upd hD, upd_same⟩ (fun i H2 _ p => p.1.seq hx) (fun i x H2 hi ⟨s2, hl⟩ => ?_) (fun H2 ⟨s2, hl⟩ => hd D H2 hD s2 (by rw [List.take_length] at hl; exact hl))
  have hlt := (List.getElem?_eq_some_iff.mp hi).1
  refine ⟨hw _, i_t (B := Same H1 H2 ∧ H2 D = some (.lst ((xs.take (i + 1)).map f))) ?_⟩
  refine (hs i x H2 hi s2 _ fun H5 s5 => ⟨_, s5 _ _ hl, szl (by rw [List.length_map, List.length_take]; omega), s_mut (s2.trans s5) hD, ?_⟩)
  rw [List.take_add_one, hi, List.map_append]
  exact upd_same
theorem lcl_idx {H1 : Hp} {K : PySem.W.Frag} {Qd : Addr → Hp → Prop} {σ : L2.St} {te : TE} {vs : List Nat} {sl : Nat} {a : Addr} {xs : List V} (f : Nat → V) (hx : SqL K H1 a xs) (hz : xs.length ≤ 100000) (hw : ∀ v : Option V, wipe ((wipe σ vs).set sl v) vs = wipe σ vs)
    (hs : ∀ (i : Nat) x H2, xs[i]? = some x → Same H1 H2 → ∀ k : VK, (∀ H5, Same H2 H5 → k (f i) H5) → te ((wipe σ vs).set sl (some x)) H2 k)
    (hd : ∀ D H2, H1 D = none → Same H1 H2 → H2 D = some (.lst ((List.range xs.length).map f)) → Qd D H2) :
    ∃ a', V.ref a = .ref a' ∧ (∃ xs, SqL K H1 a' xs) ∧ ∀ D, H1 D = none → ∃ W : Nat → Nat → Hp → Prop, (∃ m, W 0 m (upd H1 D (.lst []))) ∧ ∀ i m H, W i m H →
  ((Itl K a').stop i H ∧ Qd D H) ∨ ((Itl K a').go i H ∧ ∃ Nx : Hp → Prop, (∀ H', Nx H' → ∃ m', m' < m ∧ W (i + 1) m' H') ∧ ∀ x H', (Itl K a').yld i H x H' → gName sl x (wipe σ vs) H' fun σ2 H2 => wipe σ2 vs = wipe σ vs ∧ tYes σ2 H2 fun b H3 =>
    if b = true then te σ2 H3 fun y H4 => ∃ acc, H4 D = some (.lst acc) ∧ acc.length < sizeLine ∧ Nx (upd H4 D (.lst (acc ++ [y]))) else Nx H3) := by
  refine ⟨a, rfl, ⟨xs, hx⟩, fun D hD => ?_⟩
  refine lc_list (K := K) (xs := xs) (fun i H2 => Same H1 H2 ∧ H2 D = some (.lst ((List.range i).map f))) ⟨s_upd hD, upd_same⟩ (fun i H2 _ p => p.1.seq hx) (fun i x H2 hi ⟨s2, hl⟩ => ?_) (fun H2 ⟨s2, hl⟩ => hd D H2 hD s2 hl)
  have hlt := (List.getElem?_eq_some_iff.mp hi).1
  refine ⟨hw _, i_t (B := Same H1 H2 ∧ H2 D = some (.lst ((List.range (i + 1)).map f))) ?_⟩
  refine (hs i x H2 hi s2 _ fun H5 s5 => ⟨_, s5 _ _ hl, szl (by rw [List.length_map, List.length_range]; omega), s_mut (s2.trans s5) hD, ?_⟩)
  rw [List.range_succ, List.map_append]
  exact upd_same
theorem lc_rng2 {H : Hp} {Q : VK} {σ : L2.St} {ta : TA} {g : TG} {tt : TT} {te : TE} {vs : List Nat} (h : ta σ H fun ws H1 => ∃ a j : Int, ws = [V.int a, V.int j] ∧ (-(2 ^ 62) ≤ a ∧ a < 2 ^ 62 ∧ -(2 ^ 62) ≤ j ∧ j < 2 ^ 62) ∧ ∀ D, H1 D = none → ∃ W : Nat → Nat → Hp → Prop, (∃ m, W 0 m (upd H1 D (.lst []))) ∧ ∀ i m H, W i m H →
  ((Itr a (j - a).toNat).stop i H ∧ Q (.ref D) H) ∨ ((Itr a (j - a).toNat).go i H ∧ ∃ Nx : Hp → Prop, (∀ H', Nx H' → ∃ m', m' < m ∧ W (i + 1) m' H') ∧ ∀ x H', (Itr a (j - a).toNat).yld i H x H' → g x (wipe σ vs) H' fun σ2 H2 => wipe σ2 vs = wipe σ vs ∧ tt σ2 H2 fun b H3 =>
    if b = true then te σ2 H3 fun y H4 => ∃ acc, H4 D = some (.lst acc) ∧ acc.length < sizeLine ∧ Nx (upd H4 D (.lst (acc ++ [y]))) else Nx H3)) : tLc (iRng2 ta) g tt te vs σ H Q := h
/-- a comprehension over range(a, j) with a test; elements and tests leave all as it was -/
theorem lcr2_filt {H1 : Hp} {Qd : Addr → Hp → Prop} {σ : L2.St} {tt : TT} {te : TE} {vs : List Nat} {sl : Nat} {a j : Int} (n : Nat) (p : Nat → Bool) (f : Nat → V) (hj : (j - a).toNat = n) (hb : -(2 ^ 62) ≤ a ∧ a < 2 ^ 62 ∧ -(2 ^ 62) ≤ j ∧ j < 2 ^ 62) (hz : n ≤ 100000) (hw : ∀ v : Option V, wipe ((wipe σ vs).set sl v) vs = wipe σ vs)
    (ht : ∀ i H2, i < n → Same H1 H2 → ∀ k : Bool → Hp → Prop, (∀ H5, Same H2 H5 → k (p i) H5) → tt ((wipe σ vs).set sl (some (V.int (a + (i : Nat))))) H2 k)
    (hs : ∀ i H2, i < n → Same H1 H2 → ∀ k : VK, (∀ H5, Same H2 H5 → k (f i) H5) → te ((wipe σ vs).set sl (some (V.int (a + (i : Nat))))) H2 k)
    (hd : ∀ D H2, H1 D = none → Same H1 H2 → H2 D = some (.lst (((List.range n).filter p).map f)) → Qd D H2) :
    ∃ a' j' : Int, [V.int a, V.int j] = [V.int a', V.int j'] ∧ (-(2 ^ 62) ≤ a' ∧ a' < 2 ^ 62 ∧ -(2 ^ 62) ≤ j' ∧ j' < 2 ^ 62) ∧ ∀ D, H1 D = none → ∃ W : Nat → Nat → Hp → Prop, (∃ m, W 0 m (upd H1 D (.lst []))) ∧ ∀ i m H, W i m H →
  ((Itr a' (j' - a').toNat).stop i H ∧ Qd D H) ∨ ((Itr a' (j' - a').toNat).go i H ∧ ∃ Nx : Hp → Prop, (∀ H', Nx H' → ∃ m', m' < m ∧ W (i + 1) m' H') ∧ ∀ x H', (Itr a' (j' - a').toNat).yld i H x H' → gName sl x (wipe σ vs) H' fun σ2 H2 => wipe σ2 vs = wipe σ vs ∧ tt σ2 H2 fun b H3 =>
    if b = true then te σ2 H3 fun y H4 => ∃ acc, H4 D = some (.lst acc) ∧ acc.length < sizeLine ∧ Nx (upd H4 D (.lst (acc ++ [y]))) else Nx H3) := by
  refine ⟨a, j, rfl, hb, fun D hD => ?_⟩
  subst hj
  refine lc_range (lo := a) (fun i H2 => Same H1 H2 ∧ H2 D = some (.lst (((List.range i).filter p).map f))) ⟨s_upd hD, upd_same⟩ (fun i H2 hi ⟨s2, hl⟩ => ?_) (fun H2 ⟨s2, hl⟩ => hd D H2 hD s2 hl)
  refine ⟨hw _, ht i H2 hi s2 _ fun H5 s5 => ?_⟩
  have hl5 := s5 _ _ hl
  cases hp : p i with
  | true =>
    refine i_t ?_
    refine (hs i H5 hi (s2.trans s5) _ fun H6 s6 => ⟨_, s6 _ _ hl5, szl ?_, s_mut ((s2.trans s5).trans s6) hD, ?_⟩)
    · rw [List.length_map]
      have := List.length_filter_le p (List.range i)
      rw [List.length_range] at this
      omega
    · rw [List.range_succ, List.filter_append, List.filter_cons, hp, if_pos rfl, List.filter_nil, List.map_append]
      exact upd_same
  | false =>
    refine i_f ⟨s2.trans s5, ?_⟩
    rw [List.range_succ, List.filter_append, List.filter_cons, hp, if_neg Bool.false_ne_true, List.filter_nil, List.append_nil]
    exact hl5
theorem lcr_filt {H1 : Hp} {Qd : Addr → Hp → Prop} {σ : L2.St} {tt : TT} {te : TE} {vs : List Nat} {sl : Nat} {j : Int} (n : Nat) (p : Nat → Bool) (f : Nat → V) (hj : j.toNat = n) (hb : -(2 ^ 62) ≤ j ∧ j < 2 ^ 62) (hz : n ≤ 100000) (hw : ∀ v : Option V, wipe ((wipe σ vs).set sl v) vs = wipe σ vs)
    (ht : ∀ i H2, i < n → Same H1 H2 → ∀ k : Bool → Hp → Prop, (∀ H5, Same H2 H5 → k (p i) H5) → tt ((wipe σ vs).set sl (some (V.int (i : Nat)))) H2 k)
    (hs : ∀ i H2, i < n → Same H1 H2 → ∀ k : VK, (∀ H5, Same H2 H5 → k (f i) H5) → te ((wipe σ vs).set sl (some (V.int (i : Nat)))) H2 k)
    (hd : ∀ D H2, H1 D = none → Same H1 H2 → H2 D = some (.lst (((List.range n).filter p).map f)) → Qd D H2) :
    ∃ j' : Int, [V.int j] = [V.int j'] ∧ -(2 ^ 62) ≤ j' ∧ j' < 2 ^ 62 ∧ ∀ D, H1 D = none → ∃ W : Nat → Nat → Hp → Prop, (∃ m, W 0 m (upd H1 D (.lst []))) ∧ ∀ i m H, W i m H →
  ((Itr 0 j'.toNat).stop i H ∧ Qd D H) ∨ ((Itr 0 j'.toNat).go i H ∧ ∃ Nx : Hp → Prop, (∀ H', Nx H' → ∃ m', m' < m ∧ W (i + 1) m' H') ∧ ∀ x H', (Itr 0 j'.toNat).yld i H x H' → gName sl x (wipe σ vs) H' fun σ2 H2 => wipe σ2 vs = wipe σ vs ∧ tt σ2 H2 fun b H3 =>
    if b = true then te σ2 H3 fun y H4 => ∃ acc, H4 D = some (.lst acc) ∧ acc.length < sizeLine ∧ Nx (upd H4 D (.lst (acc ++ [y]))) else Nx H3) := by
  refine ⟨j, rfl, hb.1, hb.2, fun D hD => ?_⟩
  subst hj
  refine lc_range (lo := 0) (fun i H2 => Same H1 H2 ∧ H2 D = some (.lst (((List.range i).filter p).map f))) ⟨s_upd hD, upd_same⟩ (fun i H2 hi ⟨s2, hl⟩ => ?_) (fun H2 ⟨s2, hl⟩ => hd D H2 hD s2 hl)
  have e0 : (0 : Int) + (i : Nat) = (i : Nat) := Int.zero_add _
  rw [e0]
  refine ⟨hw _, ht i H2 hi s2 _ fun H5 s5 => ?_⟩
  have hl5 := s5 _ _ hl
  cases hp : p i with
  | true =>
    refine i_t ?_
    refine (hs i H5 hi (s2.trans s5) _ fun H6 s6 => ⟨_, s6 _ _ hl5, szl ?_, s_mut ((s2.trans s5).trans s6) hD, ?_⟩)
    · rw [List.length_map]
      have := List.length_filter_le p (List.range i)
      rw [List.length_range] at this
      omega
    · rw [List.range_succ, List.filter_append, List.filter_cons, hp, if_pos rfl, List.filter_nil, List.map_append]
      exact upd_same
  | false =>
    refine i_f ⟨s2.trans s5, ?_⟩
    rw [List.range_succ, List.filter_append, List.filter_cons, hp, if_neg Bool.false_ne_true, List.filter_nil, List.append_nil]
    exact hl5
/-! ranges with a step -/
theorem for_rng3 {D : Ends} {H : Hp} {σ : L2.St} {ta : TA} {g : TG} {tb : TS} (h : ta σ H fun vs H1 => ∃ (i j c : Int) (n : Nat), vs = [V.int i, V.int j, V.int c] ∧ RgC i j c n ∧ ∃ W : Nat → Nat → L2.St → Hp → Prop, (∃ m, W 0 m σ H1) ∧ ∀ k m σ H, W k m σ H →
  ((Itc i c n).stop k H ∧ D.nx σ H) ∨ ((Itc i c n).go k H ∧ ∃ N : L2.St → Hp → Prop, (∀ σ' H', N σ' H' → ∃ m', m' < m ∧ W (k + 1) m' σ' H') ∧ ∀ x H', (Itc i c n).yld k H x H' → g x σ H' fun σ2 H2 => tb { D with nx := N, ct := N, bk := D.nx } σ2 H2)) : tFor (iRng3 ta) g tb D σ H := h
theorem rng_go3 {D : Ends} {H1 : Hp} {σ : L2.St} {a j c : Int} {g : TG} {tb : TS} (n : Nat) (hr : RgC a j c n) (Pv : Nat → L2.St → Hp → Prop) (h0 : Pv 0 σ H1)
    (hs : ∀ i σ H, i < n → Pv i σ H → g (V.int (a + (i : Nat) * c)) σ H fun σ2 H2 => tb { D with nx := Pv (i + 1), ct := Pv (i + 1), bk := D.nx } σ2 H2) (hd : ∀ σ H, Pv n σ H → D.nx σ H) :
    ∃ (i' j' c' : Int) (n' : Nat), [V.int a, V.int j, V.int c] = [V.int i', V.int j', V.int c'] ∧ RgC i' j' c' n' ∧ ∃ W : Nat → Nat → L2.St → Hp → Prop, (∃ m, W 0 m σ H1) ∧ ∀ k m σ H, W k m σ H →
  ((Itc i' c' n').stop k H ∧ D.nx σ H) ∨ ((Itc i' c' n').go k H ∧ ∃ N : L2.St → Hp → Prop, (∀ σ' H', N σ' H' → ∃ m', m' < m ∧ W (k + 1) m' σ' H') ∧ ∀ x H', (Itc i' c' n').yld k H x H' → g x σ H' fun σ2 H2 => tb { D with nx := N, ct := N, bk := D.nx } σ2 H2) :=
  ⟨a, j, c, n, rfl, hr, for_rangeC (lo := a) (c := c) Pv h0 hs hd⟩
theorem lc_rng3 {H : Hp} {Q : VK} {σ : L2.St} {ta : TA} {g : TG} {tt : TT} {te : TE} {vs : List Nat} (h : ta σ H fun ws H1 => ∃ (lo j c : Int) (n : Nat), ws = [V.int lo, V.int j, V.int c] ∧ RgC lo j c n ∧ ∀ D, H1 D = none → ∃ W : Nat → Nat → Hp → Prop, (∃ m, W 0 m (upd H1 D (.lst []))) ∧ ∀ i m H, W i m H →
  ((Itc lo c n).stop i H ∧ Q (.ref D) H) ∨ ((Itc lo c n).go i H ∧ ∃ Nx : Hp → Prop, (∀ H', Nx H' → ∃ m', m' < m ∧ W (i + 1) m' H') ∧ ∀ x H', (Itc lo c n).yld i H x H' → g x (wipe σ vs) H' fun σ2 H2 => wipe σ2 vs = wipe σ vs ∧ tt σ2 H2 fun b H3 =>
    if b = true then te σ2 H3 fun y H4 => ∃ acc, H4 D = some (.lst acc) ∧ acc.length < sizeLine ∧ Nx (upd H4 D (.lst (acc ++ [y]))) else Nx H3)) : tLc (iRng3 ta) g tt te vs σ H Q := h
theorem lcr3_pure {H1 : Hp} {Qd : Addr → Hp → Prop} {σ : L2.St} {te : TE} {vs : List Nat} {sl : Nat} {a j c : Int} (n : Nat) (f : Nat → V) (hr : RgC a j c n) (hz : n ≤ 100000) (hw : ∀ v : Option V, wipe ((wipe σ vs).set sl v) vs = wipe σ vs)
    (hs : ∀ i H2, i < n → Same H1 H2 → ∀ k : VK, (∀ H5, Same H2 H5 → k (f i) H5) → te ((wipe σ vs).set sl (some (V.int (a + (i : Nat) * c)))) H2 k)
    (hd : ∀ D H2, H1 D = none → Same H1 H2 → H2 D = some (.lst ((List.range n).map f)) → Qd D H2) :
    ∃ (i' j' c' : Int) (n' : Nat), [V.int a, V.int j, V.int c] = [V.int i', V.int j', V.int c'] ∧ RgC i' j' c' n' ∧ ∀ D, H1 D = none → ∃ W : Nat → Nat → Hp → Prop, (∃ m, W 0 m (upd H1 D (.lst []))) ∧ ∀ i m H, W i m H →
  ((Itc i' c' n').stop i H ∧ Qd D H) ∨ ((Itc i' c' n').go i H ∧ ∃ Nx : Hp → Prop, (∀ H', Nx H' → ∃ m', m' < m ∧ W (i + 1) m' H') ∧ ∀ x H', (Itc i' c' n').yld i H x H' → gName sl x (wipe σ vs) H' fun σ2 H2 => wipe σ2 vs = wipe σ vs ∧ tYes σ2 H2 fun b H3 =>
    if b = true then te σ2 H3 fun y H4 => ∃ acc, H4 D = some (.lst acc) ∧ acc.length < sizeLine ∧ Nx (upd H4 D (.lst (acc ++ [y]))) else Nx H3) := by
  refine ⟨a, j, c, n, rfl, hr, fun D hD => ?_⟩
  refine ⟨fun i m H2 => m = n - i ∧ i ≤ n ∧ Same H1 H2 ∧ H2 D = some (.lst ((List.range i).map f)), ⟨n, by simp, Nat.zero_le _, s_upd hD, upd_same⟩, ?_⟩
  rintro i m H2 ⟨rfl, hi, s2, hl⟩
  by_cases hlt : i < n
  · refine .inr ⟨hlt, fun H' => Same H1 H' ∧ H' D = some (.lst ((List.range (i + 1)).map f)), fun H' p' => ⟨n - (i + 1), by omega, rfl, hlt, p'.1, p'.2⟩, fun x H' y => ?_⟩
    obtain ⟨e, y⟩ := y
    subst e y
    refine ⟨hw _, i_t (B := Same H1 H' ∧ H' D = some (HO.lst ((List.range (i + 1)).map f))) ?_⟩
    refine (hs i _ hlt s2 _ fun H5 s5 => ⟨_, s5 _ _ hl, szl (by rw [List.length_map, List.length_range]; omega), s_mut (s2.trans s5) hD, ?_⟩)
    rw [List.range_succ, List.map_append]
    exact upd_same
  · have e : i = n := by omega
    subst e
    exact .inl ⟨Nat.le_refl _, hd D H2 hD s2 hl⟩
/-! instances -/
def fldP (K : PySem.W.Frag) (f : Str) : V → Hp → VK → Prop := fun x H1 Q => ∃ a C dx fs v, x = .ref a ∧ H1 a = some (.ins C dx fs) ∧ Cls K C ∧ NoAttr K C f ∧ fs.lookup f = some v ∧ Q v H1
theorem r_fld {H : Hp} {K : PySem.W.Frag} {Q : VK} {σ : L2.St} {ta : TE} {f : Str} (h : ta σ H fun x H1 => fldP K f x H1 Q) : tFld K ta f σ H Q := h
theorem r_fldP {H : Hp} {K : PySem.W.Frag} {Q : VK} {f : Str} {a C dx : Addr} {fs : List (Str × V)} {v : V} (h : H a = some (.ins C dx fs)) (c : Cls K C) (n : NoAttr K C f) (l : fs.lookup f = some v) (q : Q v H) : fldP K f (.ref a) H Q := ⟨a, C, dx, fs, v, rfl, h, c, n, l, q⟩
def setP (K : PySem.W.Frag) (f : Str) (y : V) : V → Hp → (Hp → Prop) → Prop := fun x H2 k => ∃ a C dx fs, x = .ref a ∧ H2 a = some (.ins C dx fs) ∧ Cls K C ∧ NoAttr K C f ∧ fs.length < 1000 ∧ k (upd H2 a (.ins C dx (putF f y fs)))
theorem r_sfld {D : Ends} {H : Hp} {K : PySem.W.Frag} {σ : L2.St} {ta tv : TE} {f : Str} (h : tv σ H fun y H1 => ta σ H1 fun x H2 => setP K f y x H2 fun H3 => D.nx σ H3) : sFld K ta tv f D σ H := h
theorem r_setP {H : Hp} {K : PySem.W.Frag} {f : Str} {y : V} {a C dx : Addr} {fs : List (Str × V)} {k : Hp → Prop} (h : H a = some (.ins C dx fs)) (c : Cls K C) (n : NoAttr K C f) (l : fs.length < 1000) (q : k (upd H a (.ins C dx (putF f y fs)))) : setP K f y (.ref a) H k := ⟨a, C, dx, fs, rfl, h, c, n, l, q⟩
theorem r_make {H : Hp} {Q : VK} {σ : L2.St} {C : Addr} {sp : Sp} {E : XK} {t : TA} (h : t σ H fun vs H1 => ∀ x dx, H1 x = none → H1 dx = none → dx ≠ x → sp (.ref x :: (vs ++ [])) (upd (upd H1 dx (.own x)) x (.ins C dx [])) (fun v H2 => v = .non ∧ Q (.ref x) H2) E) : tMake C sp [] E t σ H Q := h
def objP (C : Addr) (m : Str) : V → Hp → (Hp → Prop) → Prop := fun x H1 k => ∃ a dx fs, x = .ref a ∧ H1 a = some (.ins C dx fs) ∧ fs.lookup m = none ∧ k H1
theorem r_meth {H : Hp} {Q : VK} {σ : L2.St} {C : Addr} {m : Str} {sp : Sp} {E : XK} {ta : TE} {t : TA} (h : ta σ H fun x H1 => objP C m x H1 fun H1 => t σ H1 fun vs H2 => sp (x :: (vs ++ [])) H2 Q E) : tMeth C m sp [] E ta t σ H Q := h
theorem r_objP {H : Hp} {m : Str} {a C dx : Addr} {fs : List (Str × V)} {k : Hp → Prop} (h : H a = some (.ins C dx fs)) (l : fs.lookup m = none) (q : k H) : objP C m (.ref a) H k := ⟨a, dx, fs, rfl, h, l, q⟩
theorem look_1 {f : Str} {v : V} {r : List (Str × V)} : List.lookup f ((f, v) :: r) = some v := by simp [List.lookup]
theorem look_s {f g : Str} {v : V} {r : List (Str × V)} (h : ¬ f = g) : List.lookup f ((g, v) :: r) = List.lookup f r := by
  have e : (f == g) = false := by simp [h]
  simp [List.lookup, e]
theorem look_0 {f : Str} : List.lookup f ([] : List (Str × V)) = none := rfl
theorem put_s {f g : Str} {v x : V} {r : List (Str × V)} (h : ¬ g = f) : putF f v ((g, x) :: r) = (g, x) :: putF f v r := if_neg h
theorem put_1 {f : Str} {v x : V} {r : List (Str × V)} : putF f v ((f, x) :: r) = (f, v) :: r := if_pos rfl
theorem put_0 {f : Str} {v : V} : putF f v [] = [(f, v)] := rfl
theorem cut_mid {xs : List V} {a b : Nat} (h : a ≤ b) : cutV xs (some (a : Int)) (some (b : Int)) = (xs.drop a).take (b - a) := by
  unfold cutV
  rw [HT.sIx_nat, HT.sIx_nat]
  by_cases h1 : b ≤ xs.length
  · rw [Nat.min_eq_left h1, Nat.min_eq_left (by omega)]
  · by_cases h2 : a ≤ xs.length
    · rw [Nat.min_eq_right (by omega), Nat.min_eq_left h2, List.take_of_length_le (by rw [List.length_drop]; omega), List.take_of_length_le (by rw [List.length_drop]; omega)]
    · rw [Nat.min_eq_right (by omega), Nat.min_eq_right (by omega), List.drop_length, List.drop_of_length_le (by omega)]
      simp
theorem c_pow {i j : Int} (h0 : 0 ≤ j) (h1 : j ≤ 1000000) (h2 : i.natAbs < 2 ^ 64) : CPow i j := ⟨h0, h1, h2⟩
theorem c_mulR {i j : Int} (h0 : -18446744073709551616 < j) (h1 : j < 18446744073709551616) : CMul i j := .inr ⟨h0, h1⟩
theorem c_mulL {i j : Int} (h0 : -18446744073709551616 < i) (h1 : i < 18446744073709551616) : CMul i j := .inl ⟨h0, h1⟩
theorem c_div {i j : Int} (h0 : 0 < j) (h1 : j < 1073741824) : CDiv i j := ⟨h0, h1⟩
theorem r_cut {D : Ends} {H : Hp} {σ : L2.St} {t u : TS} (Mid : L2.St → Hp → Prop) (h : t { D with nx := Mid } σ H) (k : ∀ σ' H', Mid σ' H' → u D σ' H') : C8.tCut t u D σ H := ⟨Mid, h, k⟩
theorem cut_to {xs : List V} {k : Nat} : cutV xs none (some (k : Int)) = xs.take k := by
  unfold cutV
  rw [HT.sIx_none, HT.sIx_nat, List.drop_zero, Nat.sub_zero]
  by_cases h : k ≤ xs.length
  · rw [Nat.min_eq_left h]
  · rw [Nat.min_eq_right (by omega), List.take_length, List.take_of_length_le (by omega)]
theorem cut_all {xs : List V} {k : Nat} (h : xs.length ≤ k) : cutV xs none (some (k : Int)) = xs := by
  rw [cut_to, List.take_of_length_le h]
theorem len4 {ns : List Int} (h : ns.length = 4) : ∃ a b c d, ns = [a, b, c, d] := by
  match ns, h with
  | [a, b, c, d], _ => exact ⟨a, b, c, d, rfl⟩
theorem len3 {ns : List Int} (h : ns.length = 3) : ∃ a b c, ns = [a, b, c] := by
  match ns, h with
  | [a, b, c], _ => exact ⟨a, b, c, rfl⟩
theorem len2 {ns : List Int} (h : ns.length = 2) : ∃ a b, ns = [a, b] := by
  match ns, h with
  | [a, b], _ => exact ⟨a, b, rfl⟩
theorem len7 {ns : List Int} (h : ns.length = 7) : ∃ a b c d e f g, ns = [a, b, c, d, e, f, g] := by
  match ns, h with
  | [a, b, c, d, e, f, g], _ => exact ⟨a, b, c, d, e, f, g, rfl⟩
theorem len6 {ns : List Int} (h : ns.length = 6) : ∃ a b c d e f, ns = [a, b, c, d, e, f] := by
  match ns, h with
  | [a, b, c, d, e, f], _ => exact ⟨a, b, c, d, e, f, rfl⟩
theorem r_take {K : PySem.W.Frag} {H : Hp} {Q : VK} {a : Addr} {ns : List Int} {k : Int} (n : Nat) (hk : k = (n : Int)) (h : SqL K H a (ns.map V.int)) (q : ∀ p H1, H p = none → Same H H1 → H1 p = some (.lst ((ns.take n).map V.int)) → Q (.ref p) H1) : rSlL K (.ref a) none (some k) H Q := by
  subst hk
  refine ⟨a, ns.map V.int, rfl, h, fun p hp => ?_⟩
  rw [cut_to, ← List.map_take]
  exact q p _ hp (s_upd hp) upd_same
/-- the script's first items: the whole of it -/
theorem r_script {K : PySem.W.Frag} {H : Hp} {Q : VK} {a : Addr} {ns : List Int} {k : Int} (hk : 63 ≤ k) (h : SqL K H a (ns.map V.int)) (hn : ns.length ≤ 63) (q : ∀ p H1, H p = none → Same H H1 → H1 p = some (.lst (ns.map V.int)) → Q (.ref p) H1) : rSlL K (.ref a) none (some k) H Q := by
  refine ⟨a, ns.map V.int, rfl, h, fun p hp => ?_⟩
  have e : k = ((k.toNat : Nat) : Int) := by omega
  rw [e, cut_all (by rw [List.length_map]; omega)]
  exact q p _ hp (s_upd hp) upd_same
/-! list facts -/
theorem at_map {ns : List Int} {i : Int} {j : Nat} {n : Int} (e : i = (j : Int)) (h : ns[j]? = some n) : atI (ns.map V.int) i = some (.int n) := by
  subst e
  exact atI_nat (by rw [List.getElem?_map, h]; rfl)
theorem at_lt {α : Type} {xs : List α} {i : Int} {j : Nat} (e : i = (j : Int)) (h : j < xs.length) : atI xs i = some xs[j] := by
  subst e
  exact atI_nat (List.getElem?_eq_getElem h)
theorem get_map {ns : List Int} {i : Nat} {x : V} (h : (ns.map V.int)[i]? = some x) : ∃ n, ns[i]? = some n ∧ x = .int n := by
  rw [List.getElem?_map] at h
  cases e : ns[i]? with
  | none => rw [e] at h; cases h
  | some z => rw [e] at h; exact ⟨z, rfl, (Option.some.inj h).symm⟩
theorem flat_ints (ns : List Int) : (ns.map V.int).all flatV = true := by
  rw [List.all_eq_true]; intro v hv; obtain ⟨n, _, rfl⟩ := List.mem_map.mp hv; rfl
theorem inV_ints (n : Int) (ns : List Int) : inV (.int n) (ns.map V.int) = dB (n ∈ ns) := by
  unfold inV
  induction ns with
  | nil => rw [dB_f (by simp)]; rfl
  | cons m r ih =>
    rw [List.map_cons, List.any_cons, ih]
    show ((m == n) || dB (n ∈ r)) = _
    by_cases h : m = n
    · subst h; rw [dB_t (List.mem_cons_self ..)]; simp
    · by_cases h2 : n ∈ r
      · rw [dB_t h2, dB_t (List.mem_cons_of_mem _ h2)]; simp
      · rw [dB_f h2, dB_f (fun z => by rcases List.mem_cons.mp z with z | z; exact h z.symm; exact h2 z)]; simp [h]
theorem r_inI {K : PySem.W.Frag} {H : Hp} {Q : VK} {p : Addr} {ns : List Int} {n : Int} (h : SqL K H p (ns.map V.int)) (q : Q (.bl (dB (n ∈ ns))) H) : rIn K false (.int n) (.ref p) H Q :=
  ⟨p, ns.map V.int, rfl, .inl h, rfl, flat_ints ns, by rw [inV_ints]; exact q⟩
theorem cut_from {xs : List V} {k : Nat} : cutV xs (some (k : Int)) none = xs.drop k := by
  unfold cutV
  rw [HT.sIx_none, HT.sIx_nat]
  by_cases h : k ≤ xs.length
  · rw [Nat.min_eq_left h, List.take_of_length_le (by rw [List.length_drop]; omega)]
  · rw [Nat.min_eq_right (by omega), List.drop_length, List.drop_of_length_le (by omega)]; simp
/-! any of ints -/
def rAnyI (K : PySem.W.Frag) : List V → Hp → VK → Prop := fun vs H Q => ∃ (a : Addr) (ns : List Int), vs = [V.ref a] ∧ SqL K H a (ns.map V.int) ∧ Q (.bl (ns.any (· != 0))) H
theorem truth_ints {prog : Program} {w : World} {A : Around} {ns : List Int} {its : List Value} (r : Vals (ns.map V.int) its) :
    TruthOf prog w A (fun i v => its.toArray[i]? = some v) (fun i => (ns.map (· != 0)).getD i false) := fun i v s Q E hv hq => by
  have hv' : its[i]? = some v := by simpa using hv
  have hl := r.length
  have hi : i < ns.length := by
    have := (List.getElem?_eq_some_iff.mp hv').1
    rw [List.length_map] at hl
    omega
  obtain ⟨u, hu, ru⟩ := r.get (i := i) (x := .int ns[i]) (by rw [List.getElem?_map, List.getElem?_eq_getElem hi]; rfl)
  rw [hv'] at hu
  cases hu
  obtain ⟨t, rfl⟩ := ru
  have hg : (ns.map (· != 0)).getD i false = (ns[i] != 0) := by rw [List.getD_eq_getElem?_getD, List.getElem?_map, List.getElem?_eq_getElem hi]; rfl
  have hq' : Q ((ns.map (· != 0)).getD i false) s := hq
  rw [hg] at hq'
  exact truthy_int hq'
theorem cr_anyI {X : Cx} (hc : X.calm = true) : CallR X (.builtin "any") (rAnyI X.K) := by
  intro pins s σ H vs us Q I r h
  obtain ⟨a, ns, rfl, hs, q⟩ := h
  obtain ⟨its, rv, hl, _⟩ := I.list hs
  rw [Vals.ref1 r]
  have hlen := rv.length
  rw [List.length_map] at hlen
  refine call_any_walk (iter_any hl.isList fun s₂ e2 st hne => ?_)
  subst e2
  refine ⟨_, _, _, _, _, _, _, rfl, Walks.list (A := X.A.in1) (I.ok.hd hc) _ a hne its.toArray, st, truth_ints rv, fun h' tk hk => ?_⟩
  refine ⟨.bl _, H, I.kept fun b o eo => hk b o (fun hmem => ?_) (Heap.get?_push_of_some _ eo), ?_, q⟩
  · rcases List.mem_cons.mp hmem with e1 | hmem
    · exact absurd (e1 ▸ Heap.lt_size eo) (Nat.lt_irrefl _)
    · cases hmem
  · show Value.bool _ = Value.bool _
    have e := L2.any_range (ns.map (· != 0))
    rw [List.any_map, List.length_map] at e
    rw [List.size_toArray, ← hlen, e]; rfl
theorem r_anyI {K : PySem.W.Frag} {H : Hp} {Q : VK} {a : Addr} {ns : List Int} (h : SqL K H a (ns.map V.int)) (q : Q (.bl (ns.any (· != 0))) H) : rAnyI K [.ref a] H Q := ⟨a, ns, rfl, h, q⟩
theorem r_isB {i j : Bool} {H : Hp} {Q : VK} (q : Q (.bl (dB (i = j))) H) : rIsB (.bl i) (.bl j) H Q := ⟨i, j, rfl, rfl, q⟩
theorem r_notB {i j : Bool} {H : Hp} {Q : VK} (q : Q (.bl (!dB (i = j))) H) : rNotB (.bl i) (.bl j) H Q := ⟨i, j, rfl, rfl, q⟩
theorem r_neL {H : Hp} {K : PySem.W.Frag} {Q : VK} {a b : Addr} {ns : List Int} (ha : SqL K H a (ns.map V.int)) (hb : SqL K H b (ns.map V.int)) (q : Q (.bl false) H) : rNeD K (.ref a) (.ref b) H Q :=
  ⟨_, _, .lst ha (dp_ints ns), .lst hb (dp_ints ns), shaped_ints ns, shaped_ints ns, by rw [eqv_ints]; exact q⟩
/-! ## what the top has written -/
def valsOk (us : Array Value) (xs : List V) : Bool := decide (us.size ≤ 100000) && decide (us.toList.mapM absV = some xs)
theorem rel_of {u : Value} {x : V} (h : absV u = some x) : RelV x u := by
  cases u <;> first | (cases h; rfl) | (cases h; exact ⟨_, rfl⟩) | (cases h)
theorem vals_of : ∀ {us : List Value} {xs : List V}, us.mapM absV = some xs → Vals xs us
  | [], xs, h => by
    have e : some [] = some xs := h
    cases e; exact .nil
  | u :: us, xs, h => by
    rw [List.mapM_cons] at h
    cases e1 : absV u with
    | none => rw [e1] at h; cases h
    | some x =>
      cases e2 : us.mapM absV with
      | none => rw [e1, e2] at h; cases h
      | some ys =>
        rw [e1, e2] at h
        have e : some (x :: ys) = some xs := h
        cases e
        exact .cons (rel_of e1) (vals_of e2)
theorem sqt_of {K : PySem.W.Frag} {H : Hp} {A : Addr} {dd : Option Addr} {its : Array Value} {n : Nat} {ss : Array (Option Value)} {xs : List V}
    (lk : K.lookup A = some ⟨.type "tuple", dd, .seq its n, ss⟩) (h : valsOk its xs = true) : SqT K H A xs := by
  unfold valsOk at h
  rw [Bool.and_eq_true] at h
  exact .inr ⟨_, its, n, lk, rfl, rfl, sz (of_decide_eq_true h.1), vals_of (of_decide_eq_true h.2)⟩
end Z

namespace Z
open PySem PySem.W PySem.Spec PySem.Calls PyProof.Rows Builtin Builtin.ObjectAttr Builtin.Getset_descriptor
section
variable {prog : Program} {w : World} {A : Around} {E : Value → Shared → Prop} {s : Shared} {K : Frag} {x D : Addr} {ox : Obj} {od : Option Obj}
/-- what an error's class must say, so that `__class__` of its objects is read -/
structure EcC (K : Frag) (D : Addr) : Prop where
  ga : findIn K (.ref D) "__getattribute__" = some (some (.builtin "BaseException.__getattribute__"))
  gg : findIn K (.ref D) "__getattr__" = some none
  sb : subIn K (.ref D) (.type "BaseException") = some true
  hd : hasDictIn K D = true
  cl : findIn K (.ref D) "__class__" = some (some (.builtin "object.__class__"))
  gt : specialIn K (.builtin "object.__class__") "__get__" = some (some (.builtin "getset_descriptor.__get__"))
  tk : takesIn K (.builtin "object.__class__") = some true
  ob : mroIn K D (.type "object") = some true
theorem EcC.find (c : EcC K D) (od : Option Obj) : findObj K D od "__class__" = some (.bind (.builtin "getset_descriptor.__get__") (.builtin "object.__class__")) := by
  obtain ⟨cd, hc, _⟩ := any_some c.hd
  have hc' : clsIn K D = some cd := hc
  unfold findObj; simp [hc', c.cl, c.gt, c.tk]
/-- the call behind it -/
theorem ec_code {R : Result → Shared → Prop} {tk : Tok} (c : EcC K D) (X : K.In s.heap) (I : InstAt s.heap x ox D od) (h : R (.ok (.ret (.ref D))) s) :
    codeAny (model prog w) A (.call (.builtin "BaseException.__getattribute__") ⟨[.ref x, .str "__class__" tk], []⟩) R s := by
  obtain ⟨hp, g, d, t, os⟩ := s
  have La := I.type (M := model prog w)
  have Lb := looks_find (M := model prog w) X I (c.find od)
  have Lc : Looks (model prog w) hp (isInstance (.ref x) (.type "BaseException")) true := La.andThen (looks_subIn X c.sb)
  refine codeAny_call_builtin PySem.F.excAttr_ValueError.ga.plain PySem.F.entry_bexc_ga (@check_slot (model prog w) _ _ ⟨hp, g, d, t, os⟩ "BaseException.__getattribute__" "BaseException" "__getattribute__" (.ref x) [.str "__class__" tk] [] _ (by decide +kernel) (by decide +kernel) Lc (PySem.F.args_bexc_ga (.ref x) (.str "__class__" tk)) ?_)
  unfold Builtin.«object.__getattribute__»
  refine wpAny_bind (wpAny_of_eq (a := ((Value.ref x : Value), [Value.str "__class__" tk])) (by first | rfl | (simp only [slotArgs]; rfl)) (wpAny_bind (wpAny_pure (wpAny_bind (La.at (wpAny_bind (Lb.at ?_)))))))
  show wpAny _ _ (holding [Value.builtin "object.__class__"] (call (.builtin "getset_descriptor.__get__") [.builtin "object.__class__", .ref x, .ref D]) >>= ret) _ _ _
  exact wpAny_bind (wpAny_holding (wpAny_call (class_get (s := ⟨hp, g, d, t, os⟩) X I c.ob (wpAny_pure h))))
theorem ec_no {b : Bool} {v : Value} : (b && onTheHeap (Value.builtin "BaseException.__getattribute__")) = false ∧ (onTheHeap v && Value.builtin "BaseException.__getattribute__" == Value.builtin "object.__getattribute__") = false := by
  have z : (Value.builtin "BaseException.__getattribute__" == Value.builtin "object.__getattribute__") = false := by decide +kernel
  exact ⟨by cases b <;> rfl, by rw [z, Bool.and_false]⟩
/-- e.__class__, e an error -/
theorem ec_get {expr : Bool} {Q : Value → Shared → Prop} (c : EcC K D) (X : K.In s.heap) (I : InstAt s.heap x ox D od) (h : Q (.ref D) { s with toks := s.toks + 1 }) :
    wpAny (model prog w) A (getAttr (.ref x) "__class__" expr) Q E s := by
  obtain ⟨hp, g, d, t, os⟩ := s
  unfold getAttr getAttrBy
  refine wpAny_bind (wpAny_mkText (wpAny_holding (wpAny_bind (I.type.at (wpAny_bind ((looks_findIn (M := model prog w) X c.ga).at ?_))))))
  dsimp only
  rw [ec_no (b := true).2, if_neg Bool.false_ne_true]
  unfold getAttrByItsOwn hookBefore
  rw [if_pos (show onTheHeap (Value.ref D) = true from rfl)]
  refine wpAny_bind ((looks_findIn (M := model prog w) X c.gg).at (wpAny_bind (wpAny_attempt (wpAny_holding ?_))))
  unfold callGetattribute
  rw [ec_no (v := Value.none).1, if_neg Bool.false_ne_true]
  unfold boundAndCalled
  rw [PySem.F.excAttr_ValueError.ga.bind (.ref x)]
  refine wpAny_bind (wpAny_pure (wpAny_call (ec_code (s := ⟨hp, g, d, t + 1, os⟩) c X I ?_)))
  show wpAny _ _ (handedOut (.ref D)) _ _ _
  rw [handedOut_of (v := .ref D) rfl]
  exact wpAny_pure h
theorem ec_getQ {Q : Option Value → Shared → Prop} (c : EcC K D) (X : K.In s.heap) (I : InstAt s.heap x ox D od) (h : Q (some (.ref D)) { s with toks := s.toks + 1 }) :
    wpAny (model prog w) A (getAttr? (.ref x) "__class__") Q E s := by
  obtain ⟨hp, g, d, t, os⟩ := s
  unfold getAttr? getAttrBy? getAttrBy
  refine wpAny_bind (wpAny_mkText (wpAny_bind (wpAny_attempt (wpAny_holding (wpAny_bind (I.type.at (wpAny_bind ((looks_findIn (M := model prog w) X c.ga).at ?_))))))))
  dsimp only
  rw [ec_no (b := true).2, if_neg Bool.false_ne_true]
  unfold getAttrByItsOwn hookBefore
  rw [if_pos (show onTheHeap (Value.ref D) = true from rfl)]
  refine wpAny_bind ((looks_findIn (M := model prog w) X c.gg).at (wpAny_bind (wpAny_attempt (wpAny_holding ?_))))
  unfold callGetattribute
  rw [ec_no (v := Value.none).1, if_neg Bool.false_ne_true]
  unfold boundAndCalled
  rw [PySem.F.excAttr_ValueError.ga.bind (.ref x)]
  refine wpAny_bind (wpAny_pure (wpAny_call (ec_code (s := ⟨hp, g, d, t + 1, os⟩) c X I ?_)))
  show wpAny _ _ (handedOut (.ref D)) _ _ _
  rw [handedOut_of (v := .ref D) rfl]
  first
    | exact wpAny_pure (wpAny_pure h)
    | exact wpAny_pure h
    | exact wpAny_pure (wpAny_bind (wpAny_pure (wpAny_pure h)))
theorem ec_kit (c : EcC K D) : KitX K (.ref x) (.ref D) (fun h => ∃ ox od, InstAt h x ox D od) where
  ty := fun _ _ _ ⟨_, _, I⟩ => I.type
  it := fun _ _ X _ => by
    obtain ⟨cd, hc, _⟩ := any_some c.hd
    unfold clsIn at hc
    split at hc
    · rename_i ho
      exact fun A' Q' E' s' k q => by unfold isType loadHead; exact wpAny_bind (wpAny_loadPart (k _ _ (X _ _ ho)) (wpAny_pure q))
    · cases hc
  ne := fun h tp dd its n sl X htp => Bool.eq_false_iff.mpr fun q => by
    obtain rfl : D = tp := Value.ref.inj (beq_iff_eq.mp q)
    obtain ⟨cd, hc, _⟩ := any_some c.hd
    unfold clsIn at hc
    split at hc
    · rename_i ho
      have z := (X _ _ ho).symm.trans htp
      cases z
    · cases hc
  ca := fun X ⟨_, _, I⟩ k => ec_getQ c X I k
/-- the class C tells its name n -/
structure NmC (K : Frag) (C : Addr) (n : Str) : Prop where
  at_ : ∃ oc od cd k0 k1 t k, K.lookup C = some ⟨oc, od, .cls cd, #[k0, k1, some (.str n t)] ++ k⟩
  rd : readsIn K C (.type "type") = true
  fd : findCls K (.ref C) (.type "type") "__name__" = some (.get (.builtin "getset_descriptor.__get__") (.builtin "type.__name__") (.ref C) (.type "type"))
theorem nm_dga (d : Value) (C : Addr) (tp : Value) : descrGetArgs ⟨[d, .ref C, tp], []⟩ = pure (d, some (.ref C), given tp) := by rfl
theorem nm_get {C : Addr} {n : Str} {expr : Bool} {Q : Value → Shared → Prop} (c : NmC K C n) (X : K.In s.heap) (h : ∀ t u, Q (.str n t) { s with toks := u }) : wpAny (model prog w) A (getAttr (.ref C) "__name__" expr) Q E s := by
  obtain ⟨oc, od, cd, k0, k1, t, k, hC⟩ := c.at_
  refine cls_bind X c.rd c.fd (wpAny_call ?_)
  have hT : typeIn K (.ref C) = some (.type "type") := by
    have r := c.rd
    simp only [readsIn, Bool.and_eq_true, beq_iff_eq] at r
    exact r.1.1.1.2
  obtain ⟨hh, g, dr, tt, os⟩ := s
  have ho : hh.get? C = some ⟨oc, od, .cls cd, #[k0, k1, some (.str n t)] ++ k⟩ := X _ _ hC
  have L0 : Looks (model prog w) hh (typeOf (.ref C)) (.type "type") := looks_typeIn X hT
  have L1 : Looks (model prog w) hh (isSubtype (.type "type") (.type "type")) true := Looks.of_pure (by rw [isSubtype_type]; kernel_rfl)
  refine codeAny_call_builtin KF.slot_gs.plain KF.entry_gs (KF.slot_gs.check _ _ _ _ _ _ _ _ ktyn_type (KF.args_gs _ _ _) ?_)
  unfold Builtin.«getset_descriptor.__get__» descrGet
  rw [nm_dga]
  refine wpAny_bind (wpAny_pure ?_)
  unfold descrGetter descrCheckInstance descrNameAndClass isInstance
  simp only [ktyn_owner]
  repeat lk
  refine ⟨Code.quiet_builtin _ (by decide +kernel), codeAny_builtin ktyn_entry ?_⟩
  unfold Builtin.«type.__name__»
  dsimp only
  unfold keptObject slotAt
  refine wpAny_bind (wpAny_bind (wpAny_loadPart ho (wpAny_pure ?_)))
  have e2 : ((#[k0, k1, some (.str n t)] ++ k)[2]?).join = some (.str n t) := by rw [Array.getElem?_append_left (by simp)]; rfl
  show wpAny _ _ (match ((#[k0, k1, some (.str n t)] ++ k)[2]?).join with | some v => ret v | x => _) _ _ _
  rw [e2]
  exact wpAny_pure (handed_on rfl (h t _))
end
end Z
namespace Z
open PySem PySem.Spec PyProof.Rows L2
/-- an error that the suite holds stands there, with its own fields -/
theorem held_at {X : Cx} {a : Addr} {oe : Obj} {d : Option Addr} {C : Addr} {pn pins : List (Addr × Obj)} {σ : L2.St} {H : Hp} {s : Shared} (I : Inv (X.suite a ((a, oe) :: pn)) pins σ H s) (hz : Zc (.ref C) d oe) (hf : ∃ vs, oe.data = .fields vs)
    {dd : Addr} {fs : List (Str × V)} (ed : d = some dd) (ea : H dd = some (.xd fs)) : ∃ (od : Obj) (mA : Str → Option Value), PySem.W.InstAt s.heap a oe C (some od) ∧ (∀ f, PySem.W.lookIn f od = some (mA f)) ∧ ∀ f, RelO (fs.lookup f) (mA f) := by
  subst ed
  obtain ⟨ha, _⟩ := I.pin (a, oe) (List.mem_append_left _ List.mem_cons_self)
  obtain ⟨vs, hd⟩ := hf
  have hx : ObjOk X.prog X.w H s.heap dd (.xd fs) := I.hok dd _ ea
  obtain ⟨mA, hns, hr⟩ := hx
  obtain ⟨od, ho, hl⟩ := lookIn_ns hns
  exact ⟨od, mA, ⟨ha, hz.1, by unfold PySem.W.notCls; rw [hd] <;> rfl, by rw [hz.2]; exact ho⟩, hl, hr⟩
/-- e.f, e the error that the suite holds: a its place, cls its class, d its fields -/
def tErF (K : PySem.W.Frag) (a : Addr) (cls : Value) (d : Option Addr) (f : Str) (te : TE) : TE := fun σ H Q => te σ H fun x H1 => x = .ref a ∧ ∃ (C : Addr) (dd : Addr) (fs : List (Str × V)) (v : V), cls = .ref C ∧ XfC K C ∧ PySem.W.findIn K (.ref C) f = some none ∧ d = some dd ∧ H1 dd = some (.xd fs) ∧ fs.lookup f = some v ∧ Q v H1
theorem pe_erF {X : Cx} {a : Addr} {oe : Obj} {cls : Value} {d : Option Addr} {pn : List (Addr × Obj)} {e : Expr} {te : TE} {pos : Pos} {n : Str} (hz : Zc cls d oe) (hf : ∃ vs, oe.data = .fields vs) (he : PE (X.suite a ((a, oe) :: pn)) e te)
    (hb : attributeBase e n X.env (eval e X.env) = eval e X.env := by rfl) : PE (X.suite a ((a, oe) :: pn)) (.Attribute e n pos) (tErF X.K a cls d n te) := ⟨fun pins s σ H Q I h => by
  refine attr_of hb (thn (he.run pins s σ H _ I h) fun u s1 ⟨x, H1, I1, rx, ex, C, dd, fs, v, ec, T, hno, ed, ea, l, q⟩ => ?_)
  subst ex ec
  obtain rfl : u = Value.ref a := rx
  obtain ⟨od, mA, J, hl, hr⟩ := held_at I1 hz hf ed ea
  obtain ⟨u, hu, ru⟩ := RelO.some_of (v := v) (o := mA n) (by rw [← l]; exact hr n)
  exact HandSPX.exc_get I1.kIn J T.ga T.gg T.exC (PySem.W.findObj_own T.hdC hno rfl (by rw [hl, hu])) (handed_of ru) ⟨v, H1, I1.tok _, ru, q⟩⟩
/-- isinstance(e, c) of it -/
def rErI (K : PySem.W.Frag) (a : Addr) (cls : Value) (d : Option Addr) : List V → Hp → VK → Prop := fun xs H Q => ∃ (C : Addr) (c : V) (cv : Value) (b : Bool) (dd : Addr) (fs : List (Str × V)), xs = [.ref a, c] ∧ cls = .ref C ∧ EcC K C ∧ (∀ u, RelV c u → u = cv) ∧ PySem.W.kitOne K (.ref C) cv = some b ∧ d = some dd ∧ H dd = some (.xd fs) ∧ Q (.bl b) H
theorem call_erI {X : Cx} {a : Addr} {oe : Obj} {cls : Value} {d : Option Addr} {pn : List (Addr × Obj)} (hz : Zc cls d oe) (hf : ∃ vs, oe.data = .fields vs) : CallR (X.suite a ((a, oe) :: pn)) (.builtin "isinstance") (rErI X.K a cls d) := fun pins s σ H xs us Q I r h => by
  obtain ⟨C, c, cv, b, dd, fs, rfl, rfl, hc, hcv, e, ed, ea, q⟩ := h
  match r with
  | .cons rx (.cons rt .nil) =>
    cases rx
    obtain rfl := hcv _ rt
    obtain ⟨od, mA, J, _, _⟩ := held_at I hz hf ed ea
    exact PySem.W.kia_one (ec_kit hc) I.kIn ⟨oe, some od, J⟩ e (fun z => nomatch z) fun tk => ⟨.bl b, H, I.kept (t' := tk) fun _ _ z => z, rfl, q⟩
/-- self.__class__.__name__ in the making of an error -/
def tCnm (K : PySem.W.Frag) (te : TE) : TE := fun σ H Q => te σ H fun x H1 => ∃ (a C dx : Addr) (fs : List (Str × V)) (n : Str), x = .ref a ∧ EcC K C ∧ NmC K C n ∧ H1 a = some (exo a C (some dx)) ∧ H1 dx = some (exd dx fs) ∧ Q (.str n) H1
theorem pe_cnm {X : Cx} {e : Expr} {te : TE} {pos p2 : Pos} (he : PE X e te) (hb : attributeBase e "__class__" X.env (eval e X.env) = eval e X.env := by rfl)
    (hb2 : attributeBase (.Attribute e "__class__" p2) "__name__" X.env (eval (.Attribute e "__class__" p2) X.env) = eval (.Attribute e "__class__" p2) X.env := by rfl) :
    PE X (.Attribute (.Attribute e "__class__" p2) "__name__" pos) (tCnm X.K te) := ⟨fun pins s σ H Q I h => by
  refine attr_of hb2 (attr_of hb (thn (he.run pins s σ H _ I h) fun u s1 ⟨x, H1, I1, rx, a, C, dx, fs, n, ex, hc, hn, ea, ed, q⟩ => ?_))
  subst ex
  obtain rfl : u = Value.ref a := rx
  obtain ⟨t1, ho⟩ := exo_at I1.hok ea
  obtain ⟨mA, hns, hr⟩ := exd_at I1.hok ed
  obtain ⟨od, hod, _⟩ := lookIn_ns hns
  refine ec_get (ox := { cls := .ref C, dict := some dx, data := .fields #[.ref t1, .none, .none, .none, .bool false, .none] }) (od := some od) hc I1.kIn ⟨ho, rfl, rfl, hod⟩ ?_
  have I2 := I1.tok (s1.toks + 1)
  exact nm_get hn I2.kIn fun t u => ⟨.str n, H1, I2.tok _, ⟨t, rfl⟩, q⟩⟩
/-- o.m(e, ..), what it raises wished for at the caller's slots -/
def tMethX (C : Addr) (m : Str) (sp : Sp) (dvs : List V) (E : L2.St → XK) (ta : TE) (t : TA) : TE := fun σ H Q => ta σ H fun x H1 => ∃ (a dx : Addr) (fs : List (Str × V)), x = .ref a ∧ H1 a = some (.ins C dx fs) ∧ fs.lookup m = none ∧ t σ H1 fun vs H2 => sp (x :: (vs ++ dvs)) H2 Q (E σ)
theorem pe_methX {X : Cx} {CX : CXT} {k : Nat} {f C : Addr} {fd : FuncData} {ps : List Str} {sp : Sp} {dvs : List V} {ds : List Value} {E : L2.St → XK} {m : Str} {pos apos : Pos} {e o : Expr} {es : List Expr} {ta : TE} {t : TA} {pl : Sem Bool} (he : PE X o ta) (c : Cls X.K C) (hm : Meth X.K C m f) (F : FnOk X.prog X.w X.K X.mg X.base CX k f fd ps sp) (hr : Room k X.A) (hb : Binds X.K fd ps ds) (hd : Vals dvs ds) (hx : ∀ σ, PassesAt CX X σ (E σ)) (ha : PA X (e :: es) t)
    (hst : starEach (e :: es) X.env = (false, eval e X.env) :: starEach es X.env := by rfl) (hpl : (backTo pos (starEach es X.env)).any (·.1) = false := by rfl)
    (ht : eval (.Call (.Attribute o m apos) (e :: es) [] pos) X.env = (do let ov ← eval o X.env; standAt apos.atName; let (f, first) ← holding [ov] (getMethod ov m pl); callWith pos f first (backTo pos (starEach (e :: es) X.env)) (backToKw pos (keywordEach [] X.env))) := by rfl) :
    PE X (.Call (.Attribute o m apos) (e :: es) [] pos) (tMethX C m sp dvs E ta t) := ⟨fun pins s σ H Q I h => by
  refine PySem.W.methodCall_KW (pl := pl) (thn (he.run pins s σ H _ I h) fun u s1 ⟨x, H1, I1, rx, a, dx, fs, ex, ea, l, q⟩ => ?_) ht
  subst ex
  obtain rfl : u = Value.ref a := rx
  exact getmeth_ok I1 ea c hm l (PySem.W.callWith_K (first := [.ref a]) (h₀ := X.base) I.ok.mod.kin hm.kp (thn (ha.run pos pins s1 σ H1 _ I1 q) fun us s2 ⟨vs, H2, I2, r, q2⟩ => ⟨I2.kIn, run_fnSD (us := .ref a :: us) (vs := .ref a :: vs) F hr hb hd (hx σ) I2 (.cons rfl r) q2⟩) hst hpl)⟩
theorem vals_arr {its : Array Value} {xs : List V} (h : valsOk its xs = true) : Vals xs its.toList := by
  unfold valsOk at h
  rw [Bool.and_eq_true] at h
  exact vals_of (of_decide_eq_true h.2)
theorem dfl_of {K : PySem.W.Frag} {T : Addr} {oc : Value} {od : Option Addr} {its : Array Value} {n : Nat} {sl : Array (Option Value)} {dvs : List V} (l : K.lookup T = some ⟨oc, od, .seq its n, sl⟩) (h : valsOk its dvs = true) (ne : dvs ≠ []) : DflV K (.ref T) dvs :=
  .inr ⟨ne, T, _, its.toList, n, rfl, l, by rw [Array.toArray_toList], vals_arr h⟩
theorem fund_mk {K : PySem.W.Frag} {x qual : Str} {st : Stmt} {f : Addr} {dvs : List V} {oc : Value} {od an : Option Addr} {osl : Array (Option Value)} {dV kV doc pm cdv ct : Value} (l : K.lookup f = some ⟨oc, od, .func (PySem.W.fnOf x qual (defArgs st) (defBody st) (defScope st) dV kV doc pm an cdv ct), osl⟩)
    (c : PySem.W.codeIn K cdv qual = true) (k : PySem.W.keepIn K (.ref f) = true) (d : DflV K dV dvs) : FunD K x qual (defArgs st) (defBody st) (defScope st) dvs [] f (PySem.W.fnOf x qual (defArgs st) (defBody st) (defScope st) dV kV doc pm an cdv ct) :=
  ⟨⟨oc, od, dV, kV, doc, pm, an, cdv, ct, osl, rfl, l, c, d, .inl rfl⟩, k⟩
/-- an error is made: its class, its fields stand, all else as before -/
theorem r_mkO {σ : L2.St} {H : Hp} {Q : XK} {C : Addr} {sp : Sp} {dvs : List V} {ta : TA} (h : ta σ H fun vs H1 => vs.length ≤ 1000 ∧ ∀ a, H1 a = none → sp (.ref a :: (vs ++ dvs)) (upd H1 a (exo a C none))
    (fun v H2 => v = .non ∧ ∃ (d : Addr) (fs : List (Str × V)), H2 a = some (exo a C (some d)) ∧ H2 d = some (exd d fs) ∧ H1 d = none ∧ Q (.ref C) (some d) (upd (del H2 a) d (.xd fs))) (fun _ _ _ => False)) : tMkO C sp dvs ta σ H Q := h
theorem made_eq {H1 H2 : Hp} {a C d : Addr} {fs : List (Str × V)} (ha : H1 a = none) (k : ∀ b, b ≠ a → b ≠ d → H2 b = upd H1 a (exo a C none) b) : upd (del H2 a) d (.xd fs) = upd H1 d (.xd fs) := by
  funext b
  by_cases hd : b = d
  · subst hd; rw [L2.upd_same, L2.upd_same]
  · rw [L2.upd_ne hd, L2.upd_ne hd]
    by_cases hb : b = a
    · subst hb; rw [del_same, ha]
    · rw [del_ne hb, k b hb hd, L2.upd_ne hb]
theorem r_methX {H : Hp} {Q : VK} {σ : L2.St} {C : Addr} {m : Str} {sp : Sp} {dvs : List V} {E : L2.St → XK} {ta : TE} {t : TA} (h : ta σ H fun x H1 => objP C m x H1 fun H1 => t σ H1 fun vs H2 => sp (x :: (vs ++ dvs)) H2 Q (E σ)) : tMethX C m sp dvs E ta t σ H Q := h
theorem r_erI {K : PySem.W.Frag} {H : Hp} {Q : VK} {a C dd : Addr} {fs : List (Str × V)} {c : V} {cv : Value} {b : Bool} (hC : EcC K C) (hk : PySem.W.kitOne K (.ref C) cv = some b) (hcv : ∀ u, RelV c u → u = cv) (h : H dd = some (.xd fs)) (q : Q (.bl b) H) : rErI K a (.ref C) (some dd) [.ref a, c] H Q :=
  ⟨C, c, cv, b, dd, fs, rfl, rfl, hC, hcv, hk, rfl, h, q⟩
def erP (K : PySem.W.Frag) (a : Addr) (cls : Value) (d : Option Addr) (f : Str) (x : V) (H1 : Hp) (Q : VK) : Prop := x = .ref a ∧ ∃ (C : Addr) (dd : Addr) (fs : List (Str × V)) (v : V), cls = .ref C ∧ XfC K C ∧ PySem.W.findIn K (.ref C) f = some none ∧ d = some dd ∧ H1 dd = some (.xd fs) ∧ fs.lookup f = some v ∧ Q v H1
theorem r_erF {K : PySem.W.Frag} {H : Hp} {Q : VK} {σ : L2.St} {a : Addr} {cls : Value} {d : Option Addr} {f : Str} {te : TE} (h : te σ H fun x H1 => erP K a cls d f x H1 Q) : tErF K a cls d f te σ H Q := h
theorem r_erFP {K : PySem.W.Frag} {H : Hp} {Q : VK} {a C dd : Addr} {f : Str} {fs : List (Str × V)} {v : V} (X : XfC K C) (n : PySem.W.findIn K (.ref C) f = some none) (h : H dd = some (.xd fs)) (l : fs.lookup f = some v) (q : Q v H) : erP K a (.ref C) (some dd) f (.ref a) H Q :=
  ⟨rfl, C, dd, fs, v, rfl, X, n, rfl, h, l, q⟩
theorem r_makeD {H : Hp} {Q : VK} {σ : L2.St} {C : Addr} {sp : Sp} {dvs : List V} {E : XK} {t : TA} (h : t σ H fun vs H1 => ∀ x dx, H1 x = none → H1 dx = none → dx ≠ x → sp (.ref x :: (vs ++ dvs)) (upd (upd H1 dx (.own x)) x (.ins C dx [])) (fun v H2 => v = .non ∧ Q (.ref x) H2) E) : tMake C sp dvs E t σ H Q := h
theorem r_callS {sp : Sp} {E : L2.St → XK} {t : TA} {σ : L2.St} {H : Hp} {Q : VK} (h : t σ H fun vs H1 => sp vs H1 Q (E σ)) : tCallS sp E t σ H Q := h
theorem r_callSD {sp : Sp} {dvs : List V} {E : L2.St → XK} {t : TA} {σ : L2.St} {H : Hp} {Q : VK} (h : t σ H fun vs H1 => sp (vs ++ dvs) H1 Q (E σ)) : tCallSD sp dvs E t σ H Q := h
/-- tuples of a text and an int, compared -/
theorem si_shaped {s : Str} (n : Int) (h : PyData.strOk s = true) : SeqAt.shaped (.tuple [.str s, .int n]) = true := by
  unfold SeqAt.shaped
  simp [PyData.canLay0, PyData.canLayAll0, PyData.depth, PyData.depthAll, h]
theorem si_eqv (s : Str) (n : Int) : PyData.eqv (.tuple [.str s, .int n]) (.tuple [.str s, .int n]) = true := by
  simp [PyData.eqv, PyData.eqvAll]
theorem r_neT {H : Hp} {K : PySem.W.Frag} {Q : VK} {a b : Addr} {s : Str} {n : Int} (hs : PyData.strOk s = true) (ha : SqT K H a [.str s, .int n]) (hb : SqT K H b [.str s, .int n]) (q : Q (.bl false) H) : rNeD K (.ref a) (.ref b) H Q :=
  ⟨_, _, .tup ha (.cons (.str s) (.cons (.int n) .nil)), .tup hb (.cons (.str s) (.cons (.int n) .nil)), si_shaped n hs, si_shaped n hs, by rw [si_eqv]; exact q⟩
end Z

namespace Z
open PySem PySem.Spec PyProof.Rows L2
/-! ## nested tuples and dicts that the top has written -/
inductive Tr where
  | i (n : Int)
  | s (x : Str)
  | t (l : List Tr)
mutual
def okT (K : PySem.W.Frag) : Value → Tr → Bool
  | .int m _, .i n => decide (m = n)
  | .str y _, .s x => decide (y = x)
  | .ref a, .t l => match K.lookup a with
    | some ⟨.type "tuple", none, .seq its _, _⟩ => decide (its.size ≤ 100000) && okL K its.toList l
    | _ => false
  | _, _ => false
def okL (K : PySem.W.Frag) : List Value → List Tr → Bool
  | [], [] => true
  | v :: vs, t :: ts => okT K v t && okL K vs ts
  | _, _ => false
end
/-- what an item is -/
def VT (K : PySem.W.Frag) : V → Tr → Prop
  | .int m, .i n => m = n
  | .str y, .s x => y = x
  | .ref a, .t l => okT K (.ref a) (.t l) = true
  | _, _ => False
theorem okT_V {K : PySem.W.Frag} {v : Value} {t : Tr} (h : okT K v t = true) : ∃ x, RelV x v ∧ VT K x t := by
  cases t with
  | i n =>
    cases v with
    | int m t =>
      have z : m = n := of_decide_eq_true h
      exact ⟨.int m, ⟨t, rfl⟩, z⟩
    | _ => exact absurd (show false = true from h) Bool.false_ne_true
  | s y =>
    cases v with
    | str m t =>
      have z : m = y := of_decide_eq_true h
      exact ⟨.str m, ⟨t, rfl⟩, z⟩
    | _ => exact absurd (show false = true from h) Bool.false_ne_true
  | t l =>
    cases v with
    | ref a => exact ⟨.ref a, rfl, h⟩
    | _ => exact absurd (show false = true from h) Bool.false_ne_true
theorem okL_V {K : PySem.W.Frag} : ∀ {vs : List Value} {ts : List Tr}, okL K vs ts = true → ∃ xs : List V, Vals xs vs ∧ xs.length = ts.length ∧ ∀ (i : Nat) (c : Tr), ts[i]? = some c → ∃ x, xs[i]? = some x ∧ VT K x c
  | [], [], _ => ⟨[], .nil, rfl, fun i c h => by simp at h⟩
  | v :: vs, t :: ts, h => by
    unfold okL at h
    rw [Bool.and_eq_true] at h
    obtain ⟨x, r, q⟩ := okT_V h.1
    obtain ⟨xs, rs, hl, qs⟩ := okL_V h.2
    refine ⟨x :: xs, .cons r rs, by simp [hl], fun i c hi => ?_⟩
    match i with
    | 0 => simp at hi; subst hi; exact ⟨x, rfl, q⟩
    | i + 1 => exact qs i c (by simpa using hi)
  | [], _ :: _, h => by unfold okL at h; cases h
  | _ :: _, [], h => by unfold okL at h; cases h
theorem tr_tup {K : PySem.W.Frag} {a : Addr} {l : List Tr} (h : okT K (.ref a) (.t l) = true) :
    ∃ xs : List V, (∀ H, SqT K H a xs) ∧ xs.length = l.length ∧ (∀ (i : Nat) (c : Tr), l[i]? = some c → ∃ x, xs[i]? = some x ∧ VT K x c) ∧ ∀ H, tyV K "tuple" (.ref a) H := by
  unfold okT at h
  split at h
  · rename_i its n ss e
    rw [Bool.and_eq_true] at h
    obtain ⟨xs, rs, hl, q⟩ := okL_V h.2
    exact ⟨xs, fun H => .inr ⟨_, its, n, e, rfl, rfl, sz (of_decide_eq_true h.1), rs⟩, hl, q, fun H => .inr (.inl ⟨rfl, _, e, rfl, rfl⟩)⟩
  · cases h
theorem vt_i {K : PySem.W.Frag} {x : V} {n : Int} (h : VT K x (.i n)) : x = .int n := by
  cases x <;> first | (cases h; rfl) | cases h
theorem vt_s {K : PySem.W.Frag} {x : V} {y : Str} (h : VT K x (.s y)) : x = .str y := by
  cases x <;> first | (cases h; rfl) | cases h
theorem vt_t {K : PySem.W.Frag} {x : V} {l : List Tr} (h : VT K x (.t l)) : ∃ a, x = .ref a ∧ okT K (.ref a) (.t l) = true := by
  cases x <;> first | exact ⟨_, rfl, h⟩ | cases h
/-- t[i] of a written tuple -/
theorem r_tr {K : PySem.W.Frag} {H : Hp} {Q : VK} {a : Addr} {l : List Tr} {i : Int} {j : Nat} {c : Tr} (h : okT K (.ref a) (.t l) = true) (e : i = (j : Int)) (hc : l[j]? = some c) (q : ∀ x, VT K x c → Q x H) : rIxT K (.ref a) (.int i) H Q := by
  obtain ⟨xs, hs, _, hx, _⟩ := tr_tup h
  obtain ⟨x, e1, e2⟩ := hx j c hc
  subst e
  exact ⟨a, xs, j, x, rfl, rfl, hs H, atI_nat e1, q x e2⟩
theorem r_trI {K : PySem.W.Frag} {H : Hp} {Q : VK} {a : Addr} {l : List Tr} {i : Int} {j : Nat} {n : Int} (h : okT K (.ref a) (.t l) = true) (e : i = (j : Int)) (hc : l[j]? = some (.i n)) (q : Q (.int n) H) : rIxT K (.ref a) (.int i) H Q :=
  r_tr h e hc fun x hx => by rw [vt_i hx]; exact q
theorem r_trT {K : PySem.W.Frag} {H : Hp} {Q : VK} {a : Addr} {l m : List Tr} {i : Int} {j : Nat} (h : okT K (.ref a) (.t l) = true) (e : i = (j : Int)) (hc : l[j]? = some (.t m)) (q : ∀ b, okT K (.ref b) (.t m) = true → Q (.ref b) H) : rIxT K (.ref a) (.int i) H Q :=
  r_tr h e hc fun x hx => by obtain ⟨b, rfl, hb⟩ := vt_t hx; exact q b hb
/-- t.index(x) of a written tuple of texts -/
theorem tr_strs {K : PySem.W.Frag} {a : Addr} {ys : List Str} (h : okT K (.ref a) (.t (ys.map .s)) = true) : (∀ H, SqT K H a (ys.map V.str)) ∧ ∀ H, tyV K "tuple" (.ref a) H := by
  obtain ⟨xs, hs, hl, hx, ht⟩ := tr_tup h
  refine ⟨?_, ht⟩
  rw [show ys.map V.str = xs from ?_]; exact hs
  refine List.ext_getElem (by rw [hl, List.length_map, List.length_map]) fun i h1 h2 => ?_
  rw [List.length_map] at h1
  obtain ⟨x, e1, e2⟩ := hx i (.s ys[i]) (by rw [List.getElem?_map, List.getElem?_eq_getElem h1]; rfl)
  rw [vt_s e2, List.getElem?_eq_getElem h2] at e1
  rw [List.getElem_map]
  exact (Option.some.inj e1).symm
theorem r_tidx {K : PySem.W.Frag} {H : Hp} {Q : VK} {p : Addr} {ys : List Str} {z : Str} (j : Nat) (h : SqT K H p (ys.map V.str)) (e : ys[j]? = some z) (hn : ∀ m, m < j → ys[m]? ≠ some z) (q : Q (.int (j : Nat)) H) :
    ∃ p', ∃ ys : List Str, ∃ z' j, V.ref p = .ref p' ∧ [V.str z] = [.str z'] ∧ SqT K H p' (ys.map V.str) ∧ ys[j]? = some z' ∧ (∀ m, m < j → ys[m]? ≠ some z') ∧ Q (.int (j : Nat)) H := ⟨p, ys, z, j, rfl, rfl, h, e, hn, q⟩
/-- d[k] of a written dict -/
def KD (K : PySem.W.Frag) (w : World) (a : Addr) : Prop := ∃ es n, K.lookup a = some ⟨.type "dict", none, .dict es n, #[]⟩ ∧ PySem.W.KeysLit w.params es.toList
theorem r_kd {K : PySem.W.Frag} {w : World} {H : Hp} {Q : VK} {a : Addr} {z : Str} {u : Value} {v : V} (D : KD K w a) (h : PySem.W.nsIn K a z = some (some u)) (r : RelV v u) (q : Q v H) : rIxD K w (.ref a) (.str z) H Q := by
  obtain ⟨es, n, e, k⟩ := D
  exact ⟨a, z, v, rfl, rfl, ⟨es, n, u, e, k, h, r⟩, q⟩
theorem kd_mk {K : PySem.W.Frag} {w : World} {a : Addr} {es : Array DictEntry} {n : Nat} (e : K.lookup a = some ⟨.type "dict", none, .dict es n, #[]⟩) (k : PySem.W.KeysLit w.params es.toList) : KD K w a := ⟨es, n, e, k⟩
end Z

namespace Z
open PySem PySem.Spec PyProof.Rows L2
/-! ## numbers in base 2 -/
def binS (n : Nat) : Str := ⟨((Nat.toDigits 2 n).map Char.toNat).toArray⟩
def pc : Nat → Nat → Nat
  | 0, _ => 0
  | k + 1, n => n % 2 + pc k (n / 2)
theorem pc_zero : ∀ k, pc k 0 = 0
  | 0 => rfl
  | k + 1 => by show 0 % 2 + pc k (0 / 2) = 0; rw [Nat.zero_mod, Nat.zero_div, pc_zero k]
theorem core_ne : ∀ (f n : Nat) (ds : List Char), 0 < f → Nat.toDigitsCore 2 f n ds ≠ []
  | f + 1, n, ds, _ => by
    unfold Nat.toDigitsCore
    by_cases h : n / 2 = 0
    · simp only [h, if_true]; exact fun z => nomatch z
    · simp only [h, if_false]
      by_cases hf : f = 0
      · subst hf; unfold Nat.toDigitsCore; exact fun z => nomatch z
      · exact core_ne f _ _ (by omega)
theorem core_len : ∀ (f n : Nat) (ds : List Char), (Nat.toDigitsCore 2 f n ds).length ≤ ds.length + f
  | 0, n, ds => by simp [Nat.toDigitsCore]
  | f + 1, n, ds => by
    unfold Nat.toDigitsCore
    by_cases h : n / 2 = 0
    · simp only [h, if_true, List.length_cons]; omega
    · simp only [h, if_false]
      have := core_len f (n / 2) (Nat.digitChar (n % 2) :: ds)
      simp only [List.length_cons] at this
      omega
theorem core_pow : ∀ (k f n : Nat) (ds : List Char), 1 ≤ k → n < 2 ^ k → (Nat.toDigitsCore 2 f n ds).length ≤ ds.length + k
  | _, 0, _, ds, _, _ => by simp [Nat.toDigitsCore]
  | k, f + 1, n, ds, hk, hn => by
    unfold Nat.toDigitsCore
    by_cases h : n / 2 = 0
    · simp only [h, if_true, List.length_cons]; omega
    · simp only [h, if_false]
      have hk2 : 2 ≤ k := by
        by_cases h1 : k = 1
        · subst h1; omega
        · omega
      obtain ⟨j, rfl⟩ : ∃ j, k = j + 1 := ⟨k - 1, by omega⟩
      have hn' : n / 2 < 2 ^ j := by rw [Nat.pow_succ] at hn; omega
      have ih := core_pow j f (n / 2) (Nat.digitChar (n % 2) :: ds) (by omega) hn'
      simp only [List.length_cons] at ih
      omega
theorem digit_one (n : Nat) : (if ((Nat.digitChar (n % 2)).toNat == 49) = true then 1 else 0) = n % 2 := by
  rcases Nat.mod_two_eq_zero_or_one n with h | h <;> rw [h] <;> rfl
theorem core_pc : ∀ (k f n : Nat) (ds : List Char), n < f → n < 2 ^ k → ((Nat.toDigitsCore 2 f n ds).map Char.toNat).count 49 = pc k n + (ds.map Char.toNat).count 49
  | k, f + 1, n, ds, hf, hk => by
    unfold Nat.toDigitsCore
    have hd := digit_one n
    have hc : ((Nat.digitChar (n % 2) :: ds).map Char.toNat).count 49 = n % 2 + (ds.map Char.toNat).count 49 := by
      rw [List.map_cons, List.count_cons, hd, Nat.add_comm]
    by_cases h : n / 2 = 0
    · simp only [h, if_true]
      rw [hc]
      match k, hk with
      | 0, hk => have : n = 0 := by simpa using hk
                 subst this; rfl
      | k + 1, _ => show _ = n % 2 + pc k (n / 2) + _; rw [h, pc_zero, Nat.add_zero]
    · simp only [h, if_false]
      match k, hk with
      | 0, hk => have : n = 0 := by simpa using hk
                 omega
      | k + 1, hk =>
        rw [core_pc k f (n / 2) _ (by omega) (by rw [Nat.pow_succ] at hk; omega), hc]
        show _ = n % 2 + pc k (n / 2) + _
        omega
theorem binS_count {k n : Nat} (hk : n < 2 ^ k) : (binS n).cps.toList.count 49 = pc k n := by
  show ((Nat.toDigitsCore 2 (n + 1) n []).map Char.toNat).count 49 = _
  rw [core_pc k (n + 1) n [] (by omega) hk]; rfl
theorem binS_len {k n : Nat} (h1 : 1 ≤ k) (hk : n < 2 ^ k) : (binS n).length ≤ k := by
  show ((Nat.toDigitsCore 2 (n + 1) n []).map Char.toNat).toArray.size ≤ k
  rw [List.size_toArray, List.length_map]
  have := core_pow k (n + 1) n [] h1 hk
  simpa using this
/-! one sign counted -/
theorem occ_one (s sub : Str) (hi limit : Nat) (h1 : sub.length = 1) : ∀ (n a : Nat) (st : Array Nat × Nat), st.2 ≤ a → st.1.size + n ≤ limit →
    (forIn (List.range' a n) st (StrLaws.occBody s sub hi limit)).run.fst.size = st.1.size + ((List.range' a n).filter fun i => decide (i + 1 ≤ hi) && Builtin.Str.subAt s sub i).length
  | 0, a, st, _, _ => by simp
  | n + 1, a, st, h2, h3 => by
    rw [List.range'_succ, List.forIn_cons]
    by_cases hc : a + 1 ≤ hi ∧ Builtin.Str.subAt s sub a = true
    · have c1 : ((st.fst.size < limit ∧ st.snd ≤ a) ∧ a + 1 ≤ hi) ∧ Builtin.Str.subAt s sub a = true := ⟨⟨⟨by omega, h2⟩, hc.1⟩, hc.2⟩
      have hb : StrLaws.occBody s sub hi limit a st = pure (ForInStep.yield (st.fst.push a, a + 1)) := by unfold StrLaws.occBody; rw [h1, if_pos c1]
      rw [hb, List.filter_cons, if_pos (by rw [decide_eq_true hc.1, hc.2]; rfl)]
      have ih := occ_one s sub hi limit h1 n (a + 1) (st.fst.push a, a + 1) (Nat.le_refl _) (by simp only [Array.size_push]; omega)
      simp only [Array.size_push] at ih
      show (forIn (List.range' (a + 1) n) (st.fst.push a, a + 1) (StrLaws.occBody s sub hi limit)).run.fst.size = _
      rw [ih, List.length_cons]; omega
    · have c1 : ¬ (((st.fst.size < limit ∧ st.snd ≤ a) ∧ a + 1 ≤ hi) ∧ Builtin.Str.subAt s sub a = true) := fun z => hc ⟨z.1.2, z.2⟩
      have c2 : ¬ ((decide (a + 1 ≤ hi) && Builtin.Str.subAt s sub a) = true) := fun z => by
        rw [Bool.and_eq_true, decide_eq_true_eq] at z; exact hc z
      have hb : StrLaws.occBody s sub hi limit a st = pure (ForInStep.yield (st.fst, st.snd)) := by unfold StrLaws.occBody; rw [h1, if_neg c1]
      rw [hb, List.filter_cons, if_neg c2]
      exact occ_one s sub hi limit h1 n (a + 1) st (by omega) (by omega)
theorem filter_count (l : List Nat) (c : Nat) : ((List.range' 0 l.length).filter fun i => decide (l[i]? = some c)).length = l.count c := by
  induction l with
  | nil => rfl
  | cons x l ih =>
    rw [List.length_cons, List.range'_succ, List.filter_cons, List.count_cons]
    have e : ((List.range' (0 + 1) l.length).filter fun i => decide ((x :: l)[i]? = some c)).length = ((List.range' 0 l.length).filter fun i => decide (l[i]? = some c)).length := by
      rw [List.range'_eq_map_range, List.range'_eq_map_range, List.filter_map, List.filter_map, List.length_map, List.length_map]
      congr 1
      refine List.filter_congr fun i _ => ?_
      show decide ((x :: l)[0 + 1 + i]? = some c) = decide (l[0 + i]? = some c)
      rw [show 0 + 1 + i = (0 + i) + 1 by omega, List.getElem?_cons_succ]
    by_cases h : x = c
    · subst h
      rw [if_pos (by simp), List.length_cons, e, ih]; simp
    · rw [if_neg (by simpa using h), e, ih]; simp [h]
theorem sub_one (s : Str) (c i : Nat) (h : i < s.length) : Builtin.Str.subAt s ⟨#[c]⟩ i = decide (s.cps.toList[i]? = some c) := by
  unfold Builtin.Str.subAt
  have hl : i < s.cps.size := h
  have e : s.cps.extract i (i + Str.length ⟨#[c]⟩) = #[s.cps[i]] := by
    apply Array.ext
    · simp [Str.length]; omega
    · intro j h1 h2
      simp at h2
      subst h2
      simp
  rw [e]
  rw [Array.getElem?_toList, Array.getElem?_eq_getElem hl]
  by_cases h2 : s.cps[i] = c
  · subst h2; simp
  · simp [h2]
theorem count_one (s : Str) (c : Nat) : Txt.count s ⟨#[c]⟩ = (s.cps.toList.count c : Nat) := by
  show (((Builtin.Str.occurrences s ⟨#[c]⟩ 0 s.length (s.length + 1)).length : Nat) : Int) = _
  congr 1
  rw [StrLaws.occ_eq, Array.length_toList, occ_one s ⟨#[c]⟩ s.length (s.length + 1) rfl (s.length + 1 - 0) 0 (#[], 0) (Nat.le_refl _) (by simp)]
  rw [← filter_count]
  have e0 : s.cps.toList.length = s.length := by simp [Str.length]
  rw [e0, show s.length + 1 - 0 = s.length + 1 by omega, List.range'_concat, List.filter_append]
  have e1 : ((List.range' 0 s.length).filter fun i => decide (i + 1 ≤ s.length) && Builtin.Str.subAt s ⟨#[c]⟩ i) = (List.range' 0 s.length).filter fun i => decide (s.cps.toList[i]? = some c) := by
    refine List.filter_congr fun i hi => ?_
    have hi2 : i < s.length := by have := List.mem_range'_1.mp hi; omega
    rw [decide_eq_true (by omega : i + 1 ≤ s.length), Bool.true_and, sub_one s c i hi2]
  rw [e1]
  have e2 : ([0 + 1 * s.length].filter fun i => decide (i + 1 ≤ s.length) && Builtin.Str.subAt s ⟨#[c]⟩ i) = [] := by
    rw [List.filter_cons, if_neg (by rw [decide_eq_false (by omega)]; simp)]; rfl
  rw [e2]; simp

theorem bin_digits_ne (n : Nat) : ((Nat.toDigits 2 n).map fun c => (if (98 : Nat) == 88 then c.toUpper else c).toNat).isEmpty = false := by
  have := core_ne (n + 1) n [] (by omega)
  cases h : Nat.toDigits 2 n with
  | nil => exact absurd h this
  | cons _ _ => rfl
theorem fmt_field {f : Builtin.Float.FormatSpec} (n : Nat) (hf : f.fill = 32) (ha : f.align = 62) (hs : f.sign = none) (hw : f.width = none) (hg : f.grouping = none) :
    intField' f (decide ((n : Int) < 0)) [] ((Nat.toDigits 2 n).map fun c => (if (98 : Nat) == 88 then c.toUpper else c).toNat) [] 4 = binS n := by
  rw [decide_eq_false (by omega)]
  unfold intField' binS
  simp only [hf, ha, hs, hw, hg, bin_digits_ne]
  simp
end Z
namespace Z
open PySem PySem.Spec PyProof.Rows L2
open Builtin Float
def fb : FormatSpec := { align := 62, type := some 98 }
theorem fmt_b0 {prog : Program} {w : World} {A : Around} {E : Value → Shared → Prop} {s : Shared} {a : Int} {t : Tok} {spec T : Str} {f : FormatSpec} {Q : Value → Shared → Prop} (hf : f = fb)
    (hp : parseFormatSpec spec.cps.toList "int" 62 = .ok f)
    (hne : (spec.length == 0) = false)
    (hasc : ((spec.cps.toList.drop 1).any (· ≥ 128) || (spec.cps.getD 0 0 ≥ 128 && !([60, 62, 61, 94] : List Nat).contains (spec.cps.getD 1 0))) = false)
    (hT : intField' fb (decide (a < 0)) [] ((Nat.toDigits 2 a.natAbs).map fun c => (if (98 : Nat) == 88 then c.toUpper else c).toNat) [] 4 = T) (hlen : T.length ≤ sizeLine)
    (h : ∀ t' k, Q (.str T t') { s with toks := k }) (hsz : spec.length ≤ sizeLine) :
    wpAny (model prog w) A (formatField (.int a t) spec) Q E s := by
  have hty : f.type.getD (if spec.cps.back? == some 0 then 0 else 100) = 98 := by rw [hf]; rfl
  have hpr : f.precision = none := by rw [hf]; rfl
  have hz : f.noNeg0 = false := by rw [hf]; rfl
  have hal : f.alt = false := by rw [hf]; rfl
  have hw : f.width.getD 0 ≤ 100000 := by rw [hf]; decide
  show wpAny _ _ (holding [.int a t] (pyFormat (.int a t) spec)) Q E s
  refine wpAny_holding ?_
  unfold pyFormat
  refine wpAny_bind (wpAny_mkStr ?_ hsz)
  refine wpAny_bind (m := callSpecial? (.int a t) (Str.ofString "__format__") [.str spec s.toks]) (wpAny_callSpecial?_slot (name := Str.ofString "__format__") (typeIs_int _ a t) F.slot_int_format ?_)
  refine wpAny_call (codeAny_call_builtin F.slot_int_format.plain F.entry_int_format (F.slot_int_format.check _ _ _ _ _ _ _ _ (typeIs_int _ a t) (F.args_int_format_2 _ _) ?_))
  unfold Builtin.«int.__format__»
  simp only [selfAndOne, noKeywords, Int.intOfSelf, asInt?, asStr?, List.isEmpty_nil, if_true, pure_bind, bind_pure, bind_assoc, hne, hasc, Bool.false_eq_true, if_false,
    show (Value.str spec s.toks == Value.none) = false from rfl]
  refine wpAny_bind (wpAny_typeNameOf (T := "str") (typeIs_str _ _ _) (by decide) fun _ => ?_)
  refine wpAny_bind (wpAny_typeNameOfCut_int ?_)
  simp only [hp, hty]
  rw [if_pos (by decide)]
  show wpAny _ _ (if _ then _ else _) _ _ _
  rw [if_neg (by simp [hpr])]
  show wpAny _ _ (if _ then _ else _) _ _ _
  rw [if_neg (by simp [hz])]
  show wpAny _ _ (if _ then _ else _) _ _ _
  rw [if_neg (by decide)]
  show wpAny _ _ (if _ then _ else _) _ _ _
  have hw' : ¬ (f.width.getD 0 > 100000) := by omega
  rw [if_neg (by decide)]
  show wpAny _ _ (if _ then _ else _) _ _ _
  rw [if_neg (by simpa using hw')]
  show wpAny _ _ (retStr _) _ _ _
  have key : ∀ X, X = T → ∀ (A : Around) (Q' : Fin → Shared → Prop) (E' : Value → Shared → Prop) (s' : Shared), (∀ t k, Q' (.done (.ret (.str T t))) { s' with toks := k }) → wpAny (model prog w) A (retStr X) Q' E' s' :=
    fun X e A Q' E' s' hq => PySem.W.KXf.ret_text e (by rw [e]; exact hlen) hq
  refine key _ ?_ _ _ _ _ fun t' k => ?_
  · rw [hal, if_neg Bool.false_ne_true, if_neg (by decide)]
    subst hf
    exact hT
  · exact wpAny_bind (wpAny_isInstance (typeIs_str _ _ _) isSubtype_str_str (wpAny_pure (h t' k)))

theorem fmt_b {prog : Program} {w : World} {A : Around} {E : Value → Shared → Prop} {s : Shared} {Q : Value → Shared → Prop} {n : Nat} {t : Tok} (hn : n < 2 ^ 40)
    (h : ∀ t' k, Q (.str (binS n) t') { s with toks := k }) : wpAny (model prog w) A (formatField (.int (n : Int) t) "b") Q E s := by
  refine fmt_b0 (T := binS n) (f := fb) rfl (by rfl) (by decide) (by decide +kernel) ?_ (Nat.le_trans (binS_len (by decide) hn) (by decide)) h (by decide)
  exact fmt_field n rfl rfl rfl rfl rfl
end Z
namespace Z
open PySem PySem.Spec PyProof.Rows L2
/-- f'{e:b}' -/
def tFb (te : TE) : TE := fun σ H Q => te σ H fun x H1 => ∃ n : Nat, x = .int (n : Int) ∧ n < 2 ^ 40 ∧ Q (.str (binS n)) H1
theorem pe_fmtb {X : Cx} {e : Expr} {te : TE} {pos p1 p2 p3 : Pos} {k : Nat} (he : PE X e te) : PE X (.JoinedStr [.FormattedValue e (-1) (some (.JoinedStr [.Constant (.str "b") k p1] p2)) p3] pos) (tFb te) := ⟨fun pins s σ H Q I h => by
  refine JoinedStr_one (wpAny_FormattedValue_spec (thn (he.run pins s σ H _ I h) fun v s1 ⟨x, H1, I1, rx, n, ex, hn, q⟩ => ?_))
  subst ex
  obtain ⟨t, rfl⟩ := rx
  refine JoinedStr_one (Calls.Constant_str ⟨_, _, rfl, ?_⟩)
  exact fmt_b hn fun t' k => ⟨.str (binS n), H1, I1.tok _, ⟨_, rfl⟩, q⟩⟩
theorem r_fb {te : TE} {σ : L2.St} {H : Hp} {Q : VK} (h : te σ H fun x H1 => ∃ n : Nat, x = .int (n : Int) ∧ n < 2 ^ 40 ∧ Q (.str (binS n)) H1) : tFb te σ H Q := h
theorem r_m1 {r : V → List V → Hp → VK → Prop} {to te : TE} {σ : L2.St} {H : Hp} {Q : VK} (h : to σ H fun x H1 => (∃ a, x = .str a) ∧ te σ H1 fun y H2 => r x [y] H2 Q) : tM1 r to te σ H Q := h
theorem r_cnt1 {H : Hp} {Q : VK} {s : Str} (q : Q (.int (s.cps.toList.count 49 : Nat)) H) : ∃ a b, V.str s = .str a ∧ [V.str "1"] = [.str b] ∧ Q (.int (Txt.count a b)) H :=
  ⟨s, "1", rfl, rfl, by rw [show ("1" : Str) = ⟨#[49]⟩ by rfl, count_one]; exact q⟩
def blN (n : Nat) : Nat := if n = 0 then 0 else n.log2 + 1
theorem bits_nat (n : Nat) : Builtin.Int.intBits (n : Int) = blN n := by
  unfold Builtin.Int.intBits blN
  by_cases h : n = 0
  · subst h; rfl
  · rw [if_neg h, if_neg (by simp; omega)]; rfl
theorem r_bits {te : TE} {σ : L2.St} {H : Hp} {Q : VK} (h : te σ H fun x H1 => ∃ i, x = .int i ∧ Q (.int (Builtin.Int.intBits i : Nat)) H1) : tBits te σ H Q := h
theorem r_bitsI {n : Nat} {H : Hp} {Q : VK} (q : Q (.int (blN n : Nat)) H) : ∃ i, V.int (n : Int) = .int i ∧ Q (.int (Builtin.Int.intBits i : Nat)) H := ⟨n, rfl, by rw [bits_nat]; exact q⟩
theorem r_min2 {i j : Int} {H : Hp} {Q : VK} (q : Q (.int (if j < i then j else i)) H) : ∃ i' j', [V.int i, V.int j] = [V.int i', V.int j'] ∧ Q (.int (if j' < i' then j' else i')) H := ⟨i, j, rfl, q⟩
/-! bits counted -/
theorem pc_xor : ∀ (k a b : Nat), pc k (a ^^^ b) ≤ pc k a + pc k b
  | 0, _, _ => Nat.le_refl _
  | k + 1, a, b => by
    have e : (a ^^^ b) / 2 = a / 2 ^^^ b / 2 := by
      have := Nat.shiftRight_xor_distrib (a := a) (b := b) (i := 1)
      simpa [Nat.shiftRight_eq_div_pow] using this
    have ih := pc_xor k (a / 2) (b / 2)
    have hx := @Nat.xor_mod_two_eq_one a b
    have h1 := Nat.mod_two_eq_zero_or_one a
    have h2 := Nat.mod_two_eq_zero_or_one b
    have h3 := Nat.mod_two_eq_zero_or_one (a ^^^ b)
    show (a ^^^ b) % 2 + pc k ((a ^^^ b) / 2) ≤ (a % 2 + pc k (a / 2)) + (b % 2 + pc k (b / 2))
    rw [e]
    generalize (a ^^^ b) % 2 = z at *
    generalize a % 2 = x at *
    generalize b % 2 = y at *
    generalize pc k (a / 2 ^^^ b / 2) = u at *
    omega
theorem pc_tri (k a b c : Nat) : pc k (a ^^^ c) ≤ pc k (a ^^^ b) + pc k (b ^^^ c) := by
  have := pc_xor k (a ^^^ b) (b ^^^ c)
  rw [Nat.xor_assoc, ← Nat.xor_assoc b b c, Nat.xor_self, Nat.zero_xor] at this
  exact this
def farK (x : Nat) : Nat → Nat
  | 0 => 0
  | k + 1 => farK x k + (x >>> k) % 2
theorem farK_half (x : Nat) : ∀ k, farK x (k + 1) = x % 2 + farK (x / 2) k
  | 0 => by show 0 + (x >>> 0) % 2 = x % 2 + 0; simp
  | k + 1 => by
    have e : x >>> (k + 1) = (x / 2) >>> k := by
      rw [Nat.shiftRight_eq_div_pow, Nat.shiftRight_eq_div_pow, Nat.div_div_eq_div_mul, Nat.pow_succ, Nat.mul_comm]
    show farK x (k + 1) + (x >>> (k + 1)) % 2 = x % 2 + (farK (x / 2) k + ((x / 2) >>> k) % 2)
    rw [farK_half x k, e]; omega
theorem farK_pc : ∀ (k x : Nat), farK x k = pc k x
  | 0, _ => rfl
  | k + 1, x => by
    rw [farK_half, farK_pc k (x / 2)]; rfl
theorem r_while {c : TT} {tb : TS} {D : Ends} {σ : L2.St} {H : Hp} (W : Nat → L2.St → Hp → Prop) (m : Nat) (h0 : W m σ H)
    (hs : ∀ m σ H, W m σ H → c σ H fun b H1 => if b = true then ∃ N : L2.St → Hp → Prop, (∀ σ' H', N σ' H' → ∃ m', m' < m ∧ W m' σ' H') ∧ tb { D with nx := N, ct := N, bk := D.nx } σ H1 else D.nx σ H1) : tWhile c tb D σ H := ⟨W, ⟨m, h0⟩, hs⟩
end Z

namespace Z
open PySem PySem.Spec PyProof.Rows L2
/-! ## defs that raise nothing, called while an error is held -/
structure FnQ (P : Program) (w : World) (K : PySem.W.Frag) (mg : Str → Option Value) (base : Heap) (k : Nat) (f : Addr) (fd : FuncData) (ps : List Str) (sp : Sp) : Prop where
  len : ∀ (vs : List V) (H : Hp) (Q : VK) (E : XK), sp vs H Q E → vs.length = ps.length
  run : ∀ (A : Around) (outer : List Env) (s : Shared) (H : Hp) (args : Args) (us : List Value) (vs : List V) (Q : VK) (E : XK) (p : Addr × Obj),
    L2H.RoomH k A → L2H.PinOk outer H s p → Env0 P w K mg base A outer s H → BindsTo s fd args (ps.zip us) → Vals vs us → sp vs H Q E →
      codeAny (model P w) A (Code.call (Value.ref f) args) (CR CX0 outer P w H s Q E) s
theorem fn_ofQ {P : Program} {w : World} {K : PySem.W.Frag} {mg : Str → Option Value} {base : Heap} {k : Nat} {f : Addr} {name qual : Str} {params : Arguments} {body : List Stmt} {scope : Scope} {dV kV doc pm cdv ct oc : Value} {an od : Option Addr} {osl : Array (Option Value)} {N ps : List Str} {sp : Sp}
    (lk : List.lookup f K = some { cls := oc, dict := od, data := Data.func (PySem.W.fnOf name qual params body scope dV kV doc pm an cdv ct), slots := osl })
    (hcd : PySem.W.codeIn K cdv qual = true) (S : FnScope N ps scope) (len : ∀ (vs : List V) (H : Hp) (Q : VK) (E : XK), sp vs H Q E → vs.length = ps.length)
    (hbody : ∀ (A : Around) (outer : List Env) (s : Shared) (H : Hp) (vs : List V) (Q : VK) (E : XK) (p : Addr × Obj), L2H.RoomH k (A.deeper (envOfC qual scope s.heap.objs.size f cdv)) → sp vs H Q E →
      ∃ t, PSs (L2H.cxH CX0 P w K mg base N qual scope f cdv A outer s H E p) body t ∧ t { nx := fun _ H' => Q V.non H', rt := Q } (L2.start N vs) H) :
    FnQ P w K mg base (k + 1) f (PySem.W.fnOf name qual params body scope dV kV doc pm an cdv ct) ps sp where
  len := len
  run := fun A outer s H args us vs Q E p hr hpin e0 hb r hsp => by
    have hl := len vs H Q E hsp
    have KX := PySem.W.Frag.In.keeps e0.mod.kin fun b o e => (e0.bs b o e).left
    have lim := Heap.NoLimit.keeps e0.mod.nolimit fun b o e => (e0.bs b o e).left
    refine codeAny_call_function (L2H.RoomH.depth hr) (KX f _ lk) rfl S.co S.gen rfl (PySem.W.codeRec_of KX hcd) ?_
    refine hb (model P w) A.in1 (fun e s' => CR CX0 outer P w H s Q E (Except.error e) s') (fun binds s₁ => wpAny (model P w) A.in1 (newFunctionEnv scope _ _ binds _ (some f) _ none _) _ _ s₁) ?_
    refine wpAny_newFunctionEnv_cells S.kind (fun x hy => ?_) fun env he s1 x => ?_
    · obtain ⟨n, v⟩ := x
      rcases S.par n (List.of_mem_zip hy).left with q | q
      · exact .inl q
      · exact .inr ⟨q, PySem.W.cellsFrom_some scope.names (s.heap.objs.size + 1) [] (.inl q)⟩
    · subst he
      refine ⟨Heap.NoLimit.keeps lim x.toInCall.keep, codeAny_func ?_⟩
      obtain ⟨t, ht, hq⟩ := hbody A outer s H vs Q E p (L2H.RoomH.deeper hr (envOfC qual scope s.heap.objs.size f cdv)) hsp
      have I : L2.Inv (L2H.cxH CX0 P w K mg base N qual scope f cdv A outer s H E p) [] (L2.start N vs) H s1 := L2H.inv_startH S hpin e0 hl r x
      refine wpAny_mono (ht.run [] s1 (L2.start N vs) H { nx := fun _ H' => Q V.non H', rt := Q } I hq) (fun fl s' hs => ?_) (fun e s' hs => hs)
      cases fl with
      | ret u =>
        obtain ⟨v, σ', H', J, rv, q⟩ := hs
        exact ⟨v, H', J.os, J.bare, J.base, J.hok, rv, q⟩
      | next =>
        obtain ⟨σ', H', J, q⟩ := hs
        exact ⟨V.non, H', J.os, J.bare, J.base, J.hok, (rfl : RelV V.non Value.none), q⟩
      | _ =>
        obtain ⟨_, _, _, q⟩ := hs
        exact q.elim
theorem okQ {P : Program} {w : World} {K : PySem.W.Frag} {mg : Str → Option Value} {base : Heap} {x qual : Str} {st : Stmt} {f : Addr} {fd : FuncData} {N ps : List Str} {k : Nat} {sp : Sp} (F : Fun K x qual st f fd) (S : FnScope N ps (defScope st))
    (len : ∀ (vs : List V) (H : Hp) (Q : VK) (E : XK), sp vs H Q E → vs.length = ps.length)
    (hbody : ∀ (cdv : Value) (A : Around) (outer : List Env) (s : Shared) (H : Hp) (vs : List V) (Q : VK) (E : XK) (p : Addr × Obj), L2H.RoomH k (A.deeper (envOfC qual (defScope st) s.heap.objs.size f cdv)) → sp vs H Q E →
      ∃ t, PSs (L2H.cxH CX0 P w K mg base N qual (defScope st) f cdv A outer s H E p) (defBody st) t ∧ t { nx := fun _ H' => Q V.non H', rt := Q } (L2.start N vs) H) : FnQ P w K mg base (k + 1) f fd ps sp := by
  obtain ⟨oc, od, kV, doc, pm, an, cdv, ct, osl, rfl, lk, hcd⟩ := F.ex
  exact fn_ofQ lk hcd S len fun A outer s H vs Q E p hr hsp => hbody cdv A outer s H vs Q E p hr hsp
theorem run_fnQ {X : Cx} {k : Nat} {f : Addr} {fd : FuncData} {ps : List Str} {sp : Sp} {E : XK} {pins : List (Addr × Obj)} {σ : L2.St} {H : Hp} {s : Shared} {Q : VK} {us : List Value} {vs : List V} (F : FnQ X.prog X.w X.K X.mg X.base k f fd ps sp) (hr : L2H.RoomH k X.A) (hc : ∃ p, p ∈ X.pn) (hb : L2.Binds X.K fd ps []) (I : L2.Inv X pins σ H s) (r : Vals vs us) (h : sp vs H Q E) : wpAny (model X.prog X.w) X.A (call (Value.ref f) us) (EP X pins σ Q) X.xe s := by
  obtain ⟨p, hp⟩ := hc
  have hl : us.length = ps.length := by rw [← r.length]; exact F.len vs H Q E h
  have b := hb s us (Inv.kIn I) (by rw [List.append_nil]; exact hl)
  rw [List.append_nil] at b
  have P1 := I.pin p (List.mem_append_left pins hp)
  refine wpAny_call (codeAny_mono (F.run X.A X.stack s H { pos := us } us vs Q E p hr ⟨P1.1, P1.2.1, fun hm => ?_, P1.2.2.2.2⟩ (Inv.env0 I) b r h) fun r s' hq => ?_)
  · rcases List.mem_cons.mp (Inv.stkSub I p.fst hm) with q | q
    · exact P1.2.2.1 q
    · exact P1.2.2.2.1 q
  · cases r with
    | error e => exact hq.elim
    | ok fl =>
      cases fl with
      | ret u => exact Inv.after I hq
      | _ => exact hq.elim
theorem pe_callQ {X : Cx} {k : Nat} {f : Addr} {fd : FuncData} {ps : List Str} {sp : Sp} {E : XK} {x : Str} {q pos : Pos} {e : Expr} {es : List Expr} {t : TA} (F : FnQ X.prog X.w X.K X.mg X.base k f fd ps sp) (hr : L2H.RoomH k X.A) (hc : ∃ p, p ∈ X.pn) (hg : Gl X x) (hm : X.mg x = some (Value.ref f)) (hk : PySem.W.keepIn X.K (Value.ref f) = true) (hb : L2.Binds X.K fd ps []) (ha : PA X (e :: es) t)
    (hdb : (x == ("__debug__" : Str)) = false := by decide +kernel) (he : starEach (e :: es) X.env = (false, eval e X.env) :: starEach es X.env := by rfl) (hpl : (backTo pos (starEach es X.env)).any (·.1) = false := by rfl) : PE X (.Call (.Name x q) (e :: es) [] pos) (tCall sp [] E t) := by
  refine ⟨fun pins s σ H Q I h => ?_⟩
  refine wpAny_Call_Name_kw (ld_glob I hg hm ?_ hdb)
  refine PySem.W.callWith_K (h₀ := X.base) I.ok.mod.kin hk (thn (ha.run pos pins s σ H _ I h) fun us s1 ⟨vs, H1, I1, r, q1⟩ => ⟨I1.kIn, ?_⟩) he hpl
  have q2 : sp (vs ++ []) H1 Q E := q1
  rw [List.append_nil] at q2
  exact run_fnQ F hr hc hb I1 r q2
theorem op_neDt {X : Cx} {pn : List (Addr × Obj)} {xe : Value → Shared → Prop} (hu : X.A.units + 64 < cLine) : OpR (X.tr pn xe) (compareOp .NotEq) (rNeD X.K) := L2.op_neD (X := X.tr pn xe) hu
theorem op_eqDt {X : Cx} {pn : List (Addr × Obj)} {xe : Value → Shared → Prop} (hu : X.A.units + 64 < cLine) : OpR (X.tr pn xe) (compareOp .Eq) (rEqD X.K) := L2.op_eqD (X := X.tr pn xe) hu
theorem op_neDs {X : Cx} {a : Addr} {pn : List (Addr × Obj)} (hu : X.A.units + 64 < cLine) : OpR (X.suite a pn) (compareOp .NotEq) (rNeD X.K) := L2.op_neD (X := X.suite a pn) hu
theorem op_eqDs {X : Cx} {a : Addr} {pn : List (Addr × Obj)} (hu : X.A.units + 64 < cLine) : OpR (X.suite a pn) (compareOp .Eq) (rEqD X.K) := L2.op_eqD (X := X.suite a pn) hu
theorem kxH {CX : CXT} {P : Program} {w : World} {K : PySem.W.Frag} {mg : Str → Option Value} {base : Heap} {N : List Str} {qual : Str} {scope : Scope} {f : Addr} {cd : Value} {A : Around} {outer : List Env} {s : Shared} {H : Hp} {E : XK} {p : Addr × Obj} :
    (L2H.cxH CX P w K mg base N qual scope f cd A outer s H E p).K = K := rfl
theorem roomQ {j k : Nat} {A : Around} {h : Option Value} (hr : L2.Room k A) (hk : j ≤ k) : L2H.RoomH j (A.mark h) := ⟨(hr.mono hk).dp, (hr.mono hk).un⟩
end Z

namespace Z
open PySem PySem.Spec PyProof.Rows L2 LamX
/-! ## a lambda of one name as a key -/
section
variable {P : Program} {w : World} {K : PySem.W.Frag} {mg : Str → Option Value} {base : Heap}
theorem lam_run {N ps : List Str} {A : Around} {outer : List Env} {s : Shared} {H : Hp} {f c' : Addr} {qual : Str} {params : Arguments} {bd : Expr} {scope : Scope} {pm ctv : Value} {us : List Value} {vs : List V} {Q : VK} {k : Nat}
    (at_f : s.heap.get? f = some (PySem.W.kla_obj "<lambda>" qual params bd scope [] pm c' ctv)) (rec : s.heap.CodeRec (.ref c') qual) (S : FnScope N ps scope) (hr : Room (k + 1) A) (e0 : Env0 P w K mg base A outer s H)
    (hb : bindArgs (PySem.W.kla_fn "<lambda>" qual params bd scope [] pm (.ref c') ctv) ⟨us, []⟩ = pure (ps.zip us)) (r : Vals vs us) (hl : vs.length = ps.length)
    (body : Room k (A.deeper (envOfC qual scope s.heap.objs.size f (.ref c'))) → ∃ t : TE, PE (cxOf CX0 P w K mg base N qual scope f (.ref c') A outer s H (fun _ _ _ => False)) bd t ∧ t (L2.start N vs) H Q) :
    codeAny (model P w) A (.call (.ref f) ⟨us, []⟩) (CR CX0 outer P w H s Q (fun _ _ _ => False)) s := by
  have lim : s.heap.NoLimit := e0.mod.nolimit.keeps fun b o e => (e0.bs b o e).1
  refine PySem.W.kla_callFunE hr.depth at_f rfl S.co S.gen rfl rec ?_
  rw [hb]
  refine wpAny_pure (wpAny_newFunctionEnv_cells S.kind (fun y hy => ?_) fun env he s1 x => ?_)
  · obtain ⟨n, v⟩ := y
    rcases S.par n (List.of_mem_zip hy).1 with z | z
    · exact .inl z
    · exact .inr ⟨z, PySem.W.cellsFrom_some _ _ _ (.inl z)⟩
  subst he
  refine ⟨lim.keeps x.toInCall.keep, ?_⟩
  obtain ⟨t, ht, wish⟩ := body (hr.deeper _)
  have J : Inv (cxOf CX0 P w K mg base N qual scope f (.ref c') A outer s H (fun _ _ _ => False)) [] (L2.start N vs) H s1 := inv_start S hr.hd e0 hl r x
  refine PySem.W.kla_codeExpr (wpAny_mono (ht.run [] s1 (L2.start N vs) H Q J wish) (fun u s2 hs => ?_) fun e s2 hs => hs)
  obtain ⟨v, H2, J2, rv, q⟩ := hs
  exact ⟨v, H2, J2.os, J2.bare, J2.base, J2.hok, rv, q⟩
end
section
variable {X : Cx} {pins : List (Addr × Obj)} {σ : L2.St} {H : Hp} {l f I S : Addr} {xs : List V} {kf : Nat → Int} {R : Result → Shared → Prop}
/-- one turn: the key of an item -/
def KeyTurn (X : Cx) (pins : List (Addr × Obj)) (σ : L2.St) (H : Hp) (f : Addr) (xs : List V) (kf : Nat → Int) : Prop :=
  ∀ (pl : List (Addr × Obj)) (i : Nat) (x : V) (v : Value) (t : Shared), xs[i]? = some x → RelV x v → Inv X (pins ++ pl) σ H t →
    wpAny (model X.prog X.w) X.A.in1 (call (.ref f) [v]) (fun u t2 => ∃ tk, u = .int (kf i) tk ∧ Inv X (pins ++ pl) σ H t2) (fun _ _ => False) t
def FirstMin (kf : Nat → Int) (n i : Nat) : Prop := ∀ j, j < n → kf i ≤ kf j ∧ (j < i → kf i < kf j)
set_option maxHeartbeats 8000000 in
theorem min_go (hh : X.A.handled = none) (hs : SqL X.K H l xs) (fI : FpOk X pins H I) (fS : FpOk X pins H S) (hSI : S ≠ I) (turn : KeyTurn X pins σ H f xs kf)
    (done : ∀ i x v t, xs[i]? = some x → RelV x v → FirstMin kf xs.length i → Inv X pins σ H t → R (.ok (.ret v)) t) :
    ∀ (r j i : Nat) (t : Shared) (x : V) (v : Value) (tb : Tok) (c : Nat), xs.length - (j + 1) = r → j + 1 ≤ xs.length → Inv X pins σ H t → t.heap.get? S = some (seqObj "list" #[v, .int (kf i) tb] c) → t.heap.IsListIter I l (j + 1) →
      xs[i]? = some x → RelV x v → i ≤ j → (∀ a, a ≤ j → kf i ≤ kf a ∧ (a < i → kf i < kf a)) → codeAny (model X.prog X.w) X.A (.builtin "min.loop" ⟨[.ref I, .ref f, .ref S], []⟩) R t := by
  have nm : (toString "min" ++ toString ".loop" : String) = "min.loop" := by decide
  intro r
  induction r with
  | zero =>
    intro j i t x v tb c hr hj J gS hit hx rx hij best
    obtain ⟨its, rv, pl, hz⟩ := J.list hs
    have hn := rv.length
    have ne : l ≠ I := fun z => by
      obtain ⟨o1, e1, c1, _⟩ := hit
      obtain ⟨o2, e2, c2, _⟩ := pl.isList
      rw [z, e1] at e2
      cases e2
      rw [c1] at c2
      exact absurd (Value.type.inj c2) (by decide)
    have Wk := Walks.list (prog := X.prog) (w := X.w) (A := X.A.in1) hh I l ne its.toArray
    have hj2 : j + 1 = its.toArray.size := by rw [List.size_toArray]; omega
    refine codeAny_builtin PySem.F.entry_min_loop ?_
    rw [Around.under_plainId PySem.F.plain_min_loop _]
    show wpAny _ X.A.in1 (seqItems? (.ref S) >>= _) _ _ _
    refine wpAny_bind (wpAny_seqItems gS rfl ?_)
    show wpAny _ X.A.in1 (tryCatch (pyNext (.ref I)) _ >>= _) _ _ _
    refine wpAny_bind (wpAny_tryCatch (Wk.done _ _ _ ⟨by rw [← hj2]; exact hit, pl.isList⟩ fun h2 tk2 keep => ?_))
    have J2 : Inv X pins σ H { t with heap := h2, toks := tk2 } := J.turnedL (ch := [I]) keep (fun b hb => by rw [List.mem_singleton.mp hb]; exact fI)
    have gS2 := keep S _ (by simpa using hSI) gS
    have sb := Heap.SameBut.update h2 S (Obj.mapSeq fun _ => (#[] : Array Value))
    show wpAny _ X.A.in1 (updateSeq S (fun _ => #[]) >>= _) _ _ _
    refine wpAny_bind (wpAny_updateSeq gS2 rfl (wpAny_bind (wpAny_letGo (wpAny_pure ?_))))
    exact done i x v _ hx rx (fun a ha => best a (by omega)) (J2.turnedL (t' := tk2) (ch := [S]) (fun b o hb e => (sb.2 b (by simpa using hb)).trans e) (fun b hb => by rw [List.mem_singleton.mp hb]; exact fS))
  | succ r ih =>
    intro j i t x v tb c hr hj J gS hit hx rx hij best
    have hlt : j + 1 < xs.length := by omega
    obtain ⟨its, rv, pl, hz⟩ := J.list hs
    have hn := rv.length
    have ne : l ≠ I := fun z => by
      obtain ⟨o1, e1, c1, _⟩ := hit
      obtain ⟨o2, e2, c2, _⟩ := pl.isList
      rw [z, e1] at e2
      cases e2
      rw [c1] at c2
      exact absurd (Value.type.inj c2) (by decide)
    have Wk := Walks.list (prog := X.prog) (w := X.w) (A := X.A.in1) hh I l ne its.toArray
    refine codeAny_builtin PySem.F.entry_min_loop ?_
    rw [Around.under_plainId PySem.F.plain_min_loop _]
    show wpAny _ X.A.in1 (seqItems? (.ref S) >>= _) _ _ _
    refine wpAny_bind (wpAny_seqItems gS rfl ?_)
    show wpAny _ X.A.in1 (tryCatch (pyNext (.ref I)) _ >>= _) _ _ _
    refine wpAny_bind (wpAny_tryCatch (Wk.item (j + 1) _ _ _ (by rw [List.size_toArray]; omega) ⟨hit, pl.isList⟩ fun y h2 tk2 hy st2 keep => ?_))
    obtain ⟨z, hxz⟩ : ∃ z, xs[j + 1]? = some z := ⟨_, List.getElem?_eq_getElem hlt⟩
    have ry : RelV z y := by
      obtain ⟨u, hu, ru⟩ := rv.get hxz
      have hy2 : its[j + 1]? = some y := by simpa using hy
      rw [hu] at hy2
      cases hy2
      exact ru
    have J2 : Inv X pins σ H { t with heap := h2, toks := tk2 } := J.turnedL (ch := [I]) keep (fun b hb => by rw [List.mem_singleton.mp hb]; exact fI)
    have gS2 := keep S _ (by simpa using hSI) gS
    obtain ⟨oI, gI2, cI, dI⟩ := id st2.1
    have fps : ∀ b ∈ [S, I], FpOk X pins H b := fun b hb => by
      rcases List.mem_cons.mp hb with e | e
      · subst e
        exact fS
      · have e2 := List.mem_singleton.mp e
        subst e2
        exact fI
    have obs : ∀ b ∈ [S, I], ∃ o, h2.get? b = some o ∧ ∀ v, o.data ≠ .cell v := fun b hb => by
      rcases List.mem_cons.mp hb with e | e
      · subst e
        exact ⟨_, gS2, fun v z => by cases z⟩
      · have e2 := List.mem_singleton.mp e
        subst e2
        exact ⟨oI, gI2, fun v z => by rw [dI] at z; cases z⟩
    have pin2 : Inv X (pins ++ pinsAt [S, I] h2) σ H { t with heap := h2, toks := tk2 } := J2.pinned (fp := [S, I]) fps obs
    show wpAny _ X.A.in1 (tryCatch (holding [y] (call (.ref f) [y])) _ >>= _) _ _ _
    refine wpAny_bind (wpAny_tryCatch (wpAny_holding (wpAny_mono (turn _ (j + 1) z y _ hxz ry pin2) (fun u t3 hu => ?_) fun _ _ hF => hF.elim)))
    obtain ⟨tk3, rfl, pin3⟩ := hu
    have gS3 : t3.heap.get? S = some (seqObj "list" #[v, .int (kf i) tb] c) := (pin3.pin (S, _) (List.mem_append_right _ (List.mem_append_right _ (mem_pinsAt (by simp) gS2)))).1
    have gI3 : t3.heap.get? I = some oI := (pin3.pin (I, oI) (List.mem_append_right _ (List.mem_append_right _ (mem_pinsAt (by simp) gI2)))).1
    have J3 : Inv X pins σ H t3 := pin3.unpinned
    have hit3 : t3.heap.IsListIter I l (j + 1 + 1) := ⟨oI, gI3, cI, dI⟩
    show wpAny _ X.A.in1 (tryCatch (holding [y, .int (kf (j + 1)) tk3] (richCompare .Lt (.int (kf (j + 1)) tk3) (.int (kf i) tb) >>= _)) _ >>= _) _ _ _
    refine wpAny_bind (wpAny_tryCatch (wpAny_holding (wpAny_bind (CmpOf.ints_lt (prog := X.prog) (w := X.w) (A := X.A.in1) (P := fun i v => ∃ t, v = .int (kf i) t) kf (fun _ _ h => h) (j + 1) i _ _ _ _ _ ⟨tk3, rfl⟩ ⟨tb, rfl⟩ ?_))))
    refine wpAny_bind (wpAny_holding (wpAny_truthy_bool (wpAny_bind (wpAny_letGo (wpAny_pure ?_)))))
    by_cases lt : kf (j + 1) < kf i
    · have sb := Heap.SameBut.update t3.heap S (Obj.mapSeq fun _ => #[y, .int (kf (j + 1)) tk3])
      obtain ⟨c4, gS4⟩ : ∃ c4, (t3.heap.update S (Obj.mapSeq fun _ => #[y, .int (kf (j + 1)) tk3])).get? S = some (seqObj "list" #[y, .int (kf (j + 1)) tk3] c4) := ⟨_, get?_update_seq gS3 fun _ => #[y, .int (kf (j + 1)) tk3]⟩
      simp only [lt, decide_true, if_true]
      refine wpAny_bind (wpAny_updateSeq gS3 rfl (wpAny_bind (wpAny_letGo ?_)))
      rw [nm]
      refine wpAny_pure ⟨plainId_quiet PySem.F.plain_min_loop _, ih (j + 1) (j + 1) _ z y tk3 c4 (by omega) hlt (J3.turnedL (t' := t3.toks) (ch := [S]) (fun b o hb e => (sb.2 b (by simpa using hb)).trans e) (fun b hb => by rw [List.mem_singleton.mp hb]; exact fS)) gS4 ⟨oI, (sb.2 I hSI.symm).trans gI3, cI, dI⟩ hxz ry (Nat.le_refl _) fun a ha => ?_⟩
      by_cases e : a = j + 1
      · subst e
        exact ⟨Int.le_refl _, fun z => absurd z (Nat.lt_irrefl _)⟩
      · have b1 := (best a (by omega)).1
        exact ⟨by omega, fun _ => by omega⟩
    · simp only [lt, decide_false, Bool.false_eq_true, if_false]
      refine wpAny_bind (wpAny_letGo ?_)
      rw [nm]
      refine wpAny_pure ⟨plainId_quiet PySem.F.plain_min_loop _, ih (j + 1) i t3 x v tb c (by omega) hlt J3 gS3 hit3 hx rx (by omega) fun a ha => ?_⟩
      by_cases e : a = j + 1
      · subst e
        exact ⟨by omega, fun _ => by omega⟩
      · exact best a (by omega)
set_option maxHeartbeats 8000000 in
theorem min_key {s : Shared} {Q : Value → Shared → Prop} {E : Value → Shared → Prop} (hh : X.A.handled = none) (J : Inv X pins σ H s) (hs : SqL X.K H l xs) (h0 : 0 < xs.length) (turn : KeyTurn X pins σ H f xs kf)
    (done : ∀ i x v t, xs[i]? = some x → RelV x v → FirstMin kf xs.length i → Inv X pins σ H t → Q v t) : wpAny (model X.prog X.w) X.A (call (.builtin "min") [.ref l] [(Str.ofString "key", .ref f)]) Q E s := by
  have nm : (toString "min" ++ toString ".loop" : String) = "min.loop" := by decide
  obtain ⟨its, rv, pl, hz⟩ := J.list hs
  have hn := rv.length
  obtain ⟨ol, gl, _⟩ := id pl.isList
  have ll : l < s.heap.objs.size := Heap.lt_size gl
  refine kmk_tree PySem.F.kind_min PySem.F.plain_min PySem.F.entry_min (kmk_min_key _ _) ?_
  show wpAny _ X.A.in1 (Builtin.Builtins.bindParams "min" ["key", "default"] 0 ⟨[], [(Str.ofString "key", .ref f)]⟩ >>= _) _ _ s
  refine wpAny_bind (wpAny_of_eq (show Builtin.Builtins.bindParams "min" ["key", "default"] 0 ⟨[], [(Str.ofString "key", .ref f)]⟩ = pure [some (.ref f), none] from rfl) (wpAny_bind (wpAny_pure (wpAny_bind (wpAny_pyIter_list pl.isList (wpAny_bind (wpAny_newList ?_ (Nat.zero_le _))))))))
  rw [nm]
  refine wpAny_pure ⟨plainId_quiet PySem.F.plain_min_loop _, ?_⟩
  have gI : ∀ o2, ((s.heap.push { cls := .type "list_iterator", data := .fields #[.ref l, .int 0 0] }).push o2).get? s.heap.objs.size = some { cls := .type "list_iterator", data := .fields #[.ref l, .int 0 0] } := fun o2 => Heap.get?_push_of_some _ (Heap.get?_push_size _ rfl)
  have zS : (s.heap.push { cls := .type "list_iterator", data := .fields #[.ref l, .int 0 0] }).objs.size = s.heap.objs.size + 1 := size_push' ..
  have gS : ((s.heap.push { cls := .type "list_iterator", data := .fields #[.ref l, .int 0 0] }).push (seqObj "list" #[] 0)).get? (s.heap.objs.size + 1) = some (seqObj "list" #[] 0) := by rw [← zS]; exact Heap.get?_push_size _ rfl
  have J1 : ∀ tk, Inv X pins σ H { s with heap := (s.heap.push { cls := .type "list_iterator", data := .fields #[.ref l, .int 0 0] }).push (seqObj "list" #[] 0), toks := tk } := fun tk => J.kept (t' := tk) fun b o e => Heap.get?_push_of_some _ (Heap.get?_push_of_some _ e)
  have fI : FpOk X pins H s.heap.objs.size := J.fpOk (Nat.le_refl _) (J.hok.fresh (Nat.le_refl _))
  have fS : FpOk X pins H (s.heap.objs.size + 1) := J.fpOk (Nat.le_succ _) (J.hok.fresh (Nat.le_succ _))
  have hSI : s.heap.objs.size + 1 ≠ s.heap.objs.size := Nat.succ_ne_self _
  have ne : l ≠ s.heap.objs.size := Nat.ne_of_lt ll
  rw [zS]
  have plk : ∀ o2, ((s.heap.push { cls := .type "list_iterator", data := .fields #[.ref l, .int 0 0] }).push o2).IsList l its.toArray := fun o2 => pl.isList.at fun o e => Heap.get?_push_of_some _ (Heap.get?_push_of_some _ e)
  generalize hG : (s.heap.push { cls := .type "list_iterator", data := .fields #[.ref l, .int 0 0] }).push (seqObj "list" #[] 0) = g1 at *
  have gI1 := gI (seqObj "list" #[] 0)
  have pl1 := plk (seqObj "list" #[] 0)
  rw [hG] at gI1 pl1
  clear gI plk
  generalize s.heap.objs.size + 1 = S at *
  generalize s.heap.objs.size = I at *
  have J1 := J1 s.toks
  have Wk := Walks.list (prog := X.prog) (w := X.w) (A := X.A.in1) hh I l ne its.toArray
  refine codeAny_builtin PySem.F.entry_min_loop ?_
  rw [Around.under_plainId PySem.F.plain_min_loop _]
  show wpAny _ X.A.in1 (seqItems? (.ref S) >>= _) _ _ _
  refine wpAny_bind (wpAny_seqItems gS rfl ?_)
  show wpAny _ X.A.in1 (tryCatch (pyNext (.ref I)) _ >>= _) _ _ _
  refine wpAny_bind (wpAny_tryCatch (Wk.item 0 _ _ _ (by rw [List.size_toArray]; omega) ⟨⟨_, gI1, rfl, rfl⟩, pl1⟩ fun y h2 tk2 hy st2 keep => ?_))
  obtain ⟨z, hxz⟩ : ∃ z, xs[0]? = some z := ⟨_, List.getElem?_eq_getElem h0⟩
  have ry : RelV z y := by
    obtain ⟨u, hu, ru⟩ := rv.get hxz
    have hy2 : its[0]? = some y := by simpa using hy
    rw [hu] at hy2
    cases hy2
    exact ru
  have J2a := J1.turnedL (h' := h2) (t' := tk2) (ch := [I]) keep (fun b hb => by rw [List.mem_singleton.mp hb]; exact fI)
  have J2 : Inv X pins σ H { s with heap := h2, toks := tk2 } := J2a
  have gS2 := keep S _ (by simpa using hSI) gS
  obtain ⟨oI, gI2, cI, dI⟩ := id st2.1
  have fps : ∀ b ∈ [S, I], FpOk X pins H b := fun b hb => by
    rcases List.mem_cons.mp hb with e | e
    · subst e
      exact fS
    · have e2 := List.mem_singleton.mp e
      subst e2
      exact fI
  have obs : ∀ b ∈ [S, I], ∃ o, h2.get? b = some o ∧ ∀ v, o.data ≠ .cell v := fun b hb => by
    rcases List.mem_cons.mp hb with e | e
    · subst e
      exact ⟨_, gS2, fun v z => by cases z⟩
    · have e2 := List.mem_singleton.mp e
      subst e2
      exact ⟨oI, gI2, fun v z => by rw [dI] at z; cases z⟩
  have pin2 : Inv X (pins ++ pinsAt [S, I] h2) σ H { s with heap := h2, toks := tk2 } := J2.pinned (fp := [S, I]) fps obs
  show wpAny _ X.A.in1 (tryCatch (holding [y] (call (.ref f) [y])) _ >>= _) _ _ _
  refine wpAny_bind (wpAny_tryCatch (wpAny_holding (wpAny_mono (turn _ 0 z y _ hxz ry pin2) (fun u t3 hu => ?_) fun _ _ hF => hF.elim)))
  obtain ⟨tk3, rfl, pin3⟩ := hu
  have gS3 : t3.heap.get? S = some (seqObj "list" #[] 0) := (pin3.pin (S, _) (List.mem_append_right _ (List.mem_append_right _ (mem_pinsAt (by simp) gS2)))).1
  have gI3 : t3.heap.get? I = some oI := (pin3.pin (I, oI) (List.mem_append_right _ (List.mem_append_right _ (mem_pinsAt (by simp) gI2)))).1
  have J3 : Inv X pins σ H t3 := pin3.unpinned
  have sb := Heap.SameBut.update t3.heap S (Obj.mapSeq fun _ => #[y, .int (kf 0) tk3])
  obtain ⟨c4, gS4⟩ : ∃ c4, (t3.heap.update S (Obj.mapSeq fun _ => #[y, .int (kf 0) tk3])).get? S = some (seqObj "list" #[y, .int (kf 0) tk3] c4) := ⟨_, get?_update_seq gS3 fun _ => #[y, .int (kf 0) tk3]⟩
  show wpAny _ X.A.in1 (updateSeq S (fun _ => #[y, .int (kf 0) tk3]) >>= _) _ _ _
  refine wpAny_bind (wpAny_updateSeq gS3 rfl ?_)
  rw [nm]
  refine wpAny_pure ⟨plainId_quiet PySem.F.plain_min_loop _, min_go hh hs fI fS hSI turn done _ 0 0 _ z y tk3 c4 rfl h0 (J3.turnedL (t' := t3.toks) (ch := [S]) (fun b o hb e => (sb.2 b (by simpa using hb)).trans e) (fun b hb => by rw [List.mem_singleton.mp hb]; exact fS)) gS4 ⟨oI, (sb.2 I hSI.symm).trans gI3, cI, dI⟩ hxz ry (Nat.le_refl _) fun a ha => ?_⟩
  have e : a = 0 := by omega
  subst e
  exact ⟨Int.le_refl _, fun z => absurd z (Nat.lt_irrefl _)⟩
end
/-! ### min(xs, key=lambda a: ..) -/
theorem ext_rd {H H' : Hp} {a : Addr} {u : HO} (e : ExtN H H') (n : ∀ ps, u ≠ .tbl ps) (h : Rd H a u) : Rd H' a u := by
  rcases h with h | ⟨o, h⟩
  · exact .inl (e a _ h n)
  · exact .inr ⟨o, e a _ h fun ps z => by cases z⟩
theorem ext_sl {K : PySem.W.Frag} {H H' : Hp} {a : Addr} {xs : List V} (e : ExtN H H') (h : SqL K H a xs) : SqL K H' a xs := by
  rcases h with h | h
  · exact .inl (ext_rd e (fun ps z => by cases z) h)
  · exact .inr h
theorem ext_st {K : PySem.W.Frag} {H H' : Hp} {a : Addr} {xs : List V} (e : ExtN H H') (h : SqT K H a xs) : SqT K H' a xs := by
  rcases h with h | h
  · exact .inl (ext_rd e (fun ps z => by cases z) h)
  · exact .inr h
def tMinK (K : PySem.W.Frag) (T : List (Addr × Str)) (tb : TE) (t : TA) : TE := fun σ H Q => t σ H fun vs H1 => ∃ (a : Addr) (xs : List V) (kf : Nat → Int), vs = [.ref a] ∧ SqL K H1 a xs ∧ 0 < xs.length ∧ Tabs T H1 ∧
  (∀ H2, ExtN H1 H2 → ∀ i x, xs[i]? = some x → ∀ k : VK, k (.int (kf i)) H2 → tb [some x] H2 k) ∧ ∀ H2, ExtN H1 H2 → Tabs T H2 → ∀ i x, xs[i]? = some x → FirstMin kf xs.length i → Q x H2
section
variable {X : Cx} {T : List (Addr × Str)} {c Pt : Addr} {e : Expr} {t : TA} {params : Arguments} {bd : Expr} {scope : Scope} {a : Str} {p pos lpos kpos : Pos} {k : Nat} {tb : TE}
set_option maxHeartbeats 4000000 in
theorem pe_minK (hg : Gl X "min") (hm : X.mg "min" = none) (TB : TabB X.base X.mg c Pt) (hcode : X.env.code = .ref c) (hT : (Pt, X.env.qual ++ "<lambda>") ∈ T) (hu : ∀ q ∈ T, q.1 = Pt → q.2 = X.env.qual ++ "<lambda>")
    (hst : X.stack = X.env :: X.outer) (hfr : X.env.frame = some X.env.locals) (hpn : X.pn = []) (S : FnScope [a] [a] scope) (hr : Room (k + 2) X.A) (hn : scope.names = [(a, NameKind.local)])
    (hdef : defaultsOf params X.env = ([], [])) (hb : ∀ (v : Value) (c' : Addr) (pm ctv : Value), bindArgs (PySem.W.kla_fn "<lambda>" (X.env.qual ++ "<lambda>") params bd scope [] pm (.ref c') ctv) ⟨[v], []⟩ = pure [(a, v)])
    (body : ∀ (f c' : Addr) (A : Around) (s : Shared) (H : Hp), Room k (A.deeper (envOfC (X.env.qual ++ "<lambda>") scope s.heap.objs.size f (.ref c'))) → PE (cxOf CX0 X.prog X.w X.K X.mg X.base [a] (X.env.qual ++ "<lambda>") scope f (.ref c') A X.stack s H (fun _ _ _ => False)) bd tb)
    (ha : PA X [e] t) (he : backTo pos (starEach [e] X.env) = (false, eval e X.env) :: backTo pos (starEach [] X.env) := by rfl) (hpl : (backTo pos (starEach [e] X.env)).any (·.1) = false := by rfl) :
    PE X (.Call (.Name "min" p) [e] [⟨some "key", .Lambda params bd scope lpos, kpos⟩] pos) (tMinK X.K T tb t) := by
  refine ⟨fun pins s σ H Q I h => ?_⟩
  refine wpAny_Call_Name_kw (ld_blt I hg hm (by decide +kernel : bootBuiltins "min" = some (.builtin "min")) ?_ (by decide +kernel) (by decide +kernel))
  refine PyProof.Rows.callWith_kw (thn (ha.run pos pins s σ H _ I h) fun us s1 ⟨vs, H1, I1, r1, q1⟩ => ?_) he hpl rfl rfl
  obtain ⟨l, xs, kf, ev, hs, h0, hTb, hbody, hq⟩ := q1
  subst ev
  show wpAny _ _ (evalAll [(do let v ← eval (.Lambda params bd scope lpos) X.env; standAt pos; pure v)]) _ _ s1
  refine wpAny_evalAll_cons (wpAny_bind (lam_make2 (T := T) I1 TB hcode hT hu hTb hdef (fun y hy e => ?_) fun f c' pm ctv H2 s2 I2 ext hT2 at_f nf out hco => ?_))
  · rw [hn] at hy
    have := List.mem_singleton.mp hy
    subst this
    cases e
  refine wpAny_bind (wpAny_standAt (wpAny_pure (wpAny_evalAll_nil ?_)))
  have eus : us = [.ref l] := by
    cases r1 with
    | cons r rs =>
      cases rs
      rw [show _ = Value.ref l from r]
  subst eus
  have hcl : cloFrom X.env.cells scope.names [] = [] := by rw [hn]; rfl
  rw [hcl] at at_f
  have hs2 : SqL X.K H2 l xs := ext_sl ext hs
  -- the lambda's object is held fast
  have nL : f ≠ X.env.locals := fun z => out (by rw [hst]; exact List.mem_filterMap.mpr ⟨X.env, List.mem_cons_self, by rw [hfr, z]⟩)
  have nF : f ∉ X.fs := fun hm => by
    obtain ⟨e1, e2, e3⟩ := List.mem_filterMap.mp hm
    exact out (by rw [hst]; exact List.mem_filterMap.mpr ⟨e1, List.mem_cons_of_mem _ e2, e3⟩)
  have I3 : Inv X ((f, PySem.W.kla_obj "<lambda>" (X.env.qual ++ "<lambda>") params bd scope [] pm c' ctv) :: pins) σ H2 s2 := I2.pins_of fun q hqm => by
    rcases List.mem_cons.mp hqm with e | e
    · subst e
      exact ⟨at_f, nf, nL, nF, fun v z => by cases z⟩
    · exact I2.pin q (List.mem_append_right _ e)
  refine min_key hr.hd I3 hs2 h0 (fun pl i x v t1 hx rx J => ?_) fun i x v t1 hx rx hmin J => ⟨x, H2, J.pins_of fun q hqm => J.pin q (List.mem_append_right _ (List.mem_cons_of_mem _ hqm)), rx, hq H2 ext hT2 i x hx hmin⟩
  have at1 := (J.pin (f, _) (List.mem_append_right _ (List.mem_append_left _ List.mem_cons_self))).1
  obtain ⟨⟨oc, vs, tq, e1, e2, e3⟩, _, _⟩ := J.hok c' _ hco
  have hrun : codeAny (model X.prog X.w) X.A.in1 (.call (.ref f) ⟨[v], []⟩) (CR CX0 X.stack X.prog X.w H2 t1 (fun y H3 => y = .int (kf i) ∧ H3 = H2) (fun _ _ _ => False)) t1 :=
    lam_run (k := k) (N := [a]) (ps := [a]) (vs := [x]) (us := [v]) at1 ⟨c', oc, vs, tq, rfl, e1, e2, e3⟩ S hr.in1 J.env0.in1 (hb v c' pm ctv) (.cons rx .nil) rfl fun room => ⟨tb, body f c' X.A.in1 t1 H2 room, hbody H2 ext i x hx _ ⟨rfl, rfl⟩⟩
  refine wpAny_call (codeAny_mono hrun fun r t2 hqr => ?_)
  cases r with
  | error e => exact hqr.elim
  | ok fl =>
    cases fl with
    | ret u =>
      obtain ⟨y, H3, J3, ry, ey, eH⟩ := J.after hqr
      subst ey eH
      obtain ⟨tk, rfl⟩ := ry
      exact ⟨tk, rfl, J3⟩
    | next => exact hqr.elim
    | brk => exact hqr.elim
    | cont => exact hqr.elim
end
/-- a def whose code object is known -/
structure FunC (K : PySem.W.Frag) (x qual : Str) (st : Stmt) (f : Addr) (fd : FuncData) (c : Addr) : Prop where
  ex : ∃ (oc : Value) (od : Option Addr) (kV doc pm : Value) (an : Option Addr) (ct : Value) (osl : Array (Option Value)),
    fd = PySem.W.fnOf x qual (defArgs st) (defBody st) (defScope st) .none kV doc pm an (.ref c) ct ∧ K.lookup f = some ⟨oc, od, .func fd, osl⟩ ∧ PySem.W.codeIn K (.ref c) qual = true
theorem FunC.okC {P : Program} {w : World} {K : PySem.W.Frag} {mg : Str → Option Value} {base : Heap} {CX : CXT} {x qual : Str} {st : Stmt} {f c : Addr} {fd : FuncData} {N ps : List Str} {k : Nat} {sp : Sp} (F : FunC K x qual st f fd c) (S : FnScope N ps (defScope st)) (len : ∀ vs H Q E, sp vs H Q E → vs.length = ps.length)
    (body : ∀ (A : Around) (outer : List Env) (s : Shared) (H : Hp) (vs : List V) (Q : VK) (E : XK), Room k (A.deeper (envOfC qual (defScope st) s.heap.objs.size f (.ref c))) → sp vs H Q E →
      ∃ t, PSs (cxOf CX P w K mg base N qual (defScope st) f (.ref c) A outer s H E) (defBody st) t ∧ t { nx := fun _ H' => Q .non H', rt := Q } (L2.start N vs) H) : FnOk P w K mg base CX (k + 1) f fd ps sp := by
  obtain ⟨oc, od, kV, doc, pm, an, ct, osl, rfl, lk, hcd⟩ := F.ex
  exact fn_of lk hcd S len fun A outer s H vs Q E hr hsp => body A outer s H vs Q E hr hsp
theorem r_minK {K : PySem.W.Frag} {T : List (Addr × Str)} {tb : TE} {t : TA} {σ : L2.St} {H : Hp} {Q : VK} (h : t σ H fun vs H1 => ∃ (a : Addr) (xs : List V) (kf : Nat → Int), vs = [.ref a] ∧ SqL K H1 a xs ∧ 0 < xs.length ∧ Tabs T H1 ∧
  (∀ H2, ExtN H1 H2 → ∀ i x, xs[i]? = some x → ∀ k : VK, k (.int (kf i)) H2 → tb [some x] H2 k) ∧ ∀ H2, ExtN H1 H2 → Tabs T H2 → ∀ i x, xs[i]? = some x → FirstMin kf xs.length i → Q x H2) : tMinK K T tb t σ H Q := h
def kvOk (es : Array DictEntry) (ks : List V) : Bool := decide ((es.toList.map (·.key)).mapM absV = some ks)
theorem kv_of {es : Array DictEntry} {ks : List V} (h : kvOk es ks = true) : Vals ks (es.toList.map (·.key)) := vals_of (of_decide_eq_true h)
end Z

namespace Z
open PySem PySem.Spec PyProof.Rows L2
/-! ## a dict of the top, walked through by its keys -/
def Itq (ks : List V) : It := ⟨fun i _ => i < ks.length, fun i H x H' => H' = H ∧ ks[i]? = some x, fun i _ => ks.length ≤ i⟩
/-- the dict at d holds the keys ks, in this order -/
structure KQ (K : PySem.W.Frag) (d : Addr) (ks : List V) : Prop where
  ex : ∃ (es : Array DictEntry) (ep : Nat), K.lookup d = some ⟨.type "dict", none, .dict es ep, #[]⟩ ∧ Vals ks (es.toList.map (·.key))
  ns : (d == sysModules) = false
theorem kq_raw {K : PySem.W.Frag} {d : Addr} {es : Array DictEntry} {ep : Nat} {h : Heap} (e : K.lookup d = some ⟨.type "dict", none, .dict es ep, #[]⟩) (X : K.In h) : h.DictRaw d es ep := ⟨_, X d _ e, ⟨rfl, rfl, rfl⟩, rfl⟩
theorem turn_q {P : Program} {w : World} {K : PySem.W.Frag} {tg : Expr} {d : Addr} {es : Array DictEntry} {ep : Nat} {ks : List V} (it : Addr) (hd : (d == sysModules) = false) (lk : K.lookup d = some ⟨.type "dict", none, .dict es ep, #[]⟩) (rv : Vals ks (es.toList.map (·.key))) : Turn P w K tg (Itq ks) [it] it (fun i h => h.IsKeyIter it d i es.size ep) where
  mem := List.mem_singleton.mpr rfl
  obj := fun i h st b hb => by
    have e := List.mem_singleton.mp hb
    subst e
    obtain ⟨o, e1, _, e3⟩ := st
    exact ⟨o, e1, fun v z => by rw [e3] at z; cases z⟩
  keep := fun i h h' st k => by
    obtain ⟨o, e1, e2, e3⟩ := st
    exact ⟨o, k it (List.mem_singleton.mpr rfl) o e1, e2, e3⟩
  item := by
    intro X hP hw hK hc i pins s σ H E I hf st hg
    subst hP hw hK
    have hl := rv.length
    have hsz : (es.toList.map (·.key)).length = es.size := by simp
    rw [hsz] at hl
    have hi : i < es.size := by have : i < ks.length := hg; omega
    obtain ⟨f0, f1, f2, f3, f4, f5⟩ := hf it (List.mem_singleton.mpr rfl)
    refine wpAny_pyNext_keys_item_raw st (kq_raw lk I.kIn) hi fun h2 st2 sb => ?_
    have J : Inv X pins σ H { s with heap := h2 } := I.turned (t' := s.toks) (fun b o hb e => (sb.2 b hb).trans e) f0 f1 f3 f4 f5
    obtain ⟨o, e1, e2, e3⟩ := id st2
    obtain ⟨x, hx⟩ : ∃ x, ks[i]? = some x := ⟨_, List.getElem?_eq_getElem hg⟩
    obtain ⟨u, hu, ru⟩ := rv.get hx
    have eu : u = es[i].key := by
      rw [List.getElem?_map, Array.getElem?_toList, Array.getElem?_eq_getElem hi] at hu
      exact (Option.some.inj hu).symm
    subst eu
    exact ⟨_, rfl, go_of (s := { s with heap := h2 }) e1 e2 e3 (by decide) ⟨x, H, J, ru, ⟨rfl, hx⟩, st2, fun b hb => (hf b hb).1⟩⟩
  done := by
    intro X hP hw hK hc i pins s σ H E I hf st hg
    subst hP hw hK
    have hl := rv.length
    have hsz : (es.toList.map (·.key)).length = es.size := by simp
    rw [hsz] at hl
    obtain ⟨f0, f1, f2, f3, f4, f5⟩ := hf it (List.mem_singleton.mpr rfl)
    have hge : es.size ≤ i := by have : ks.length ≤ i := hg; omega
    exact next_key_end (I.ok.hd hc) st (I.kIn d _ lk) rfl rfl hge fun h2 eb => ⟨rfl, I.turned (t' := s.toks) (fun b o hb e => eb b o hb e) f0 f1 f3 f4 f5⟩
  self := fun _ _ _ _ _ st h => wpAny_pyIter_keyiter st h
def iQ (K : PySem.W.Frag) (td : TE) : TI := fun σ H R => td σ H fun x H1 => ∃ (d : Addr) (ks : List V), x = .ref d ∧ KQ K d ks ∧ R (Itq ks) H1
theorem pi_q {X : Cx} {tg e : Expr} {td : TE} (he : PE X e td) : PI X tg e (iQ X.K td) := by
  refine ⟨fun pins s σ H R I h => ?_⟩
  refine thn (he.run pins s σ H _ I h) fun u s1 ⟨x, H1, I1, rx, d, ks, ex, kq, q⟩ => ?_
  subst ex
  obtain rfl : u = Value.ref d := rx
  obtain ⟨⟨es, ep, lk, rv⟩, hd⟩ := kq
  exact iter_keys hd (I1.kIn d _ lk) ⟨rfl, rfl, rfl⟩ rfl (pi_one (tk := s1.toks) I1 _ (turn_q _ hd lk rv) ⟨_, Heap.get?_push_size _ rfl, rfl, rfl⟩ q)
theorem kq_mk {K : PySem.W.Frag} {d : Addr} {es : Array DictEntry} {ep : Nat} {ks : List V} (lk : K.lookup d = some ⟨.type "dict", none, .dict es ep, #[]⟩) (ns : (d == sysModules) = false) (rv : Vals ks (es.toList.map (·.key))) : KQ K d ks := ⟨⟨es, ep, lk, rv⟩, ns⟩
/-- [te for x in a dict of the top for y in range(n)] -/
theorem r_lc2 {K : PySem.W.Frag} {σ : L2.St} {H1 : Hp} {Q : VK} {d : Addr} {ks : List V} {n : Nat} {te : TE} {td : TE} {ta : TA} {vs vs1 : List Nat} {sl sl1 : Nat} (kq : KQ K d ks) (hn : n < 1000)
    (ht : ∀ k : VK, k (.ref d) H1 → td σ H1 k) (ha : ∀ (σ2 : L2.St) (H : Hp) (k : List V → Hp → Prop), k [.int (n : Int)] H → ta σ2 H k)
    (w1 : ∀ v, wipe ((wipe σ vs).set sl v) vs = wipe σ vs) (w2 : ∀ (σ2 : L2.St) v, wipe ((wipe σ2 vs1).set sl1 v) vs1 = wipe σ2 vs1)
    (Pv : Addr → Nat → Nat → Hp → Prop) (h0 : ∀ D, H1 D = none → Pv D 0 0 (upd H1 D (.lst [])))
    (turn : ∀ D i j x H, H1 D = none → ks[i]? = some x → j < n → Pv D i j H → te ((wipe ((wipe σ vs).set sl (some x)) vs1).set sl1 (some (.int (j : Nat)))) H fun y H2 => ∃ acc, H2 D = some (.lst acc) ∧ acc.length < sizeLine ∧ Pv D i (j + 1) (upd H2 D (.lst (acc ++ [y]))))
    (next : ∀ D i H, i < ks.length → Pv D i n H → Pv D (i + 1) 0 H) (done : ∀ D H, H1 D = none → Pv D ks.length 0 H → Q (.ref D) H) :
    tLc2 (iQ K td) (gName sl) tYes (iRng1 ta) (gName sl1) tYes te vs vs1 σ H1 Q := by
  refine ht _ ⟨d, ks, rfl, kq, fun D hD => ?_⟩
  refine ⟨fun i m H => m = ks.length - i ∧ i ≤ ks.length ∧ Pv D i 0 H, ⟨ks.length, by simp, Nat.zero_le _, h0 D hD⟩, ?_⟩
  rintro i m H ⟨rfl, hi, p⟩
  by_cases lt : i < ks.length
  · refine .inr ⟨lt, fun H2 => Pv D (i + 1) 0 H2, fun H2 p2 => ⟨ks.length - (i + 1), by omega, rfl, lt, p2⟩, ?_⟩
    rintro x H2 ⟨rfl, hx⟩
    refine ⟨w1 _, i_t (B := Pv D (i + 1) 0 H2) ?_⟩
    refine ha _ _ _ ⟨(n : Int), rfl, by omega, by omega, fun j k H => k = n - j ∧ j ≤ n ∧ Pv D i j H, ⟨n, by simp, Nat.zero_le _, p⟩, ?_⟩
    rintro j k H3 ⟨rfl, hj, p3⟩
    rw [Int.toNat_natCast]
    by_cases lt2 : j < n
    · refine .inr ⟨lt2, fun H4 => Pv D i (j + 1) H4, fun H4 p4 => ⟨n - (j + 1), by omega, rfl, lt2, p4⟩, ?_⟩
      rintro y H4 ⟨rfl, ey⟩
      subst ey
      have e0 : (0 : Int) + (j : Nat) = (j : Nat) := Int.zero_add _
      refine ⟨w2 _ _, i_t (B := Pv D i (j + 1) H4) ?_⟩
      rw [e0]
      exact turn D i j x H4 hD hx lt2 p3
    · have e : j = n := by omega
      subst e
      exact .inl ⟨Nat.le_refl _, next D i H3 lt p3⟩
  · have e : i = ks.length := by omega
    subst e
    exact .inl ⟨Nat.le_refl _, done D H hD p⟩
end Z

/-! ## the words: wtm_at "1" one step, "r" steps as far as they go, "h" a heap fact, "s" a side condition, "n" two addresses apart, "m" all that was tracked is as it was -/
local macro_rules | `(tactic| wtm_at "s") => `(tactic| first
  | (with_reducible assumption)
  | ((with_reducible refine Z.c_div ?_ ?_) <;> first | omega | decide)
  | ((with_reducible refine Z.c_mulR ?_ ?_) <;> first | omega | decide)
  | ((with_reducible refine Z.c_mulL ?_ ?_) <;> first | omega | decide)
  | ((with_reducible refine Z.c_pow ?_ ?_ ?_) <;> first | omega | decide)
  | omega | decide)
local macro_rules | `(tactic| wtm_at "n") => `(tactic| first
  | assumption | exact Ne.symm (by assumption)
  | exact Z.ne_of' (by assumption) (by wtm_at "h")
  | exact Ne.symm (Z.ne_of' (by assumption) (by wtm_at "h")))
local macro_rules | `(tactic| wtm_at "h") => `(tactic| with_reducible first
  | exact L2.upd_same
  | assumption
  | exact Eq.trans (L2.upd_ne (by wtm_at "n")) (by wtm_at "h")
  | exact Z.s_at (by assumption) (by wtm_at "h"))
local macro_rules | `(tactic| wtm_at "ql") => `(tactic| with_reducible first
  | assumption
  | exact Z.sq_l (by wtm_at "h")
  | exact Z.s_sq (by assumption) (by wtm_at "ql")
  | exact Z.s_sq (Z.s_upd (by assumption)) (by wtm_at "ql"))
local macro_rules | `(tactic| wtm_at "qt") => `(tactic| with_reducible first
  | assumption
  | exact Z.sq_t (by wtm_at "h")
  | exact Z.s_st (by assumption) (by wtm_at "qt")
  | exact Z.s_st (Z.s_upd (by assumption)) (by wtm_at "qt"))
local macro_rules | `(tactic| wtm_at "f") => `(tactic| with_reducible first
  | assumption
  | exact Z.s_back (by assumption) (by wtm_at "f"))
local macro_rules | `(tactic| wtm_at "m") => `(tactic| with_reducible first
  | exact L2.Same.refl _
  | assumption
  | exact L2.Same.trans (by wtm_at "m") (Z.s_upd (by assumption))
  | exact Z.s_mut (by wtm_at "m") (by wtm_at "f")
  | exact L2.Same.trans (by wtm_at "m") (by assumption))
local macro_rules | `(tactic| wtm_at "z") => `(tactic| first
  | (refine Z.szl ?_; simp only [List.length_map, List.length_append, List.length_cons, List.length_nil]; omega)
  | (refine Z.sz ?_; simp only [List.length_map, List.length_append, List.length_cons, List.length_nil]; omega))
local macro_rules | `(tactic| wtm_at "set") => `(tactic| (simp only [List.set_cons_zero, List.set_cons_succ]; rfl))
local macro_rules | `(tactic| wtm_at "1") => `(tactic| with_reducible first
  | refine Z.r_seq ?_ | refine Z.r_asg ?_
  | (refine' Z.r_gname ?c ?_; (case c => wtm_at "set"))
  | refine Z.r_v0 ?_ | refine Z.r_v1 ?_ | refine Z.r_v2 ?_ | refine Z.r_vS ?_ | refine Z.r_c ?_
  | refine Z.r_op ?_ | refine Z.r_lt ?_ | refine Z.r_le ?_ | refine Z.r_gt ?_ | refine Z.r_ge ?_ | refine Z.r_I0 ?_ | (refine' Z.r_I ?c ?_; (case c => wtm_at "s")) | refine Z.r_cons ?_ | refine Z.r_nil ?_
  | refine Z.r_eqI ?_ | refine Z.r_neI ?_ | refine Z.r_test ?_ | refine Z.r_bl ?_ | refine Z.r_if ?_
  | refine Z.r_cb ?_ | refine Z.r_call ?_ | refine Z.r_int ?_
  | refine Z.r_ret ?_ | refine Z.r_drop ?_ | refine Z.r_next ?_ | refine Z.r_brk ?_ | refine Z.r_cnt ?_ | refine Z.r_retN ?_
  | refine Z.i_t ?_ | refine Z.i_f ?_ | refine Z.i_nt ?_ | refine Z.i_nf ?_
  | refine Z.r_and ?_ | refine Z.r_or ?_ | refine Z.r_not ?_ | refine Z.r_andV ?_ | refine Z.r_orV ?_ | refine Z.r_notV ?_ | refine Z.r_tB ?_ | refine Z.r_ifE ?_
  | refine Z.r_chain ?_ | refine Z.r_un ?_ | refine Z.r_U ?_
  | refine Z.r_new ?_ | refine Z.r_tup ?_ | refine Z.r_bm ?_ | (refine' Z.ty_lst ?c ?_; (case c => wtm_at "ql"))
  | (refine' Z.r_append ?c ?d ?_; (case c => wtm_at "h"); (case d => wtm_at "z"))
  | (refine' Z.r_lenL ?c ?_; (case c => first | assumption | exact Z.sq_l (by assumption))) | (refine' Z.r_lenT ?c ?_; (case c => first | assumption | exact Z.sq_t (by assumption)))
  | (refine' Z.r_lenL ?c ?_; (case c => wtm_at "ql")) | (refine' Z.r_lenT ?c ?_; (case c => wtm_at "qt"))
  | refine Z.r_sl ?_ | refine Z.r_noPart ?_ | refine Z.r_part ?_ | refine Z.r_pint ?_
  | refine Z.r_isB ?_ | refine Z.r_notB ?_ | refine Z.r_eqB ?_ | refine Z.r_neB ?_ | refine Z.r_eqS ?_ | refine Z.r_neS ?_
  | refine Z.r_fld ?_ | refine Z.r_sfld ?_ | refine Z.r_make ?_ | refine Z.r_meth ?_ | refine Z.for_rng3 ?_ | refine Z.lc_rng3 ?_ | refine Z.lc_rng ?_ | refine Z.lc_rng2 ?_ | refine Z.lc_lst ?_ | refine Z.r_gsub ?_ | refine Z.for_enum ?_ | refine Z.r_intB ?_
  | refine Z.for_lst ?_ | refine Z.for_rng ?_ | refine Z.for_rng2 ?_)
local macro_rules | `(tactic| wtm_at "w") => `(tactic| simp only [L2.wipe, List.map_cons, List.map_nil, List.set_cons_zero, List.set_cons_succ])
local macro_rules | `(tactic| wtm_at "r") => `(tactic| repeat (wtm_at "1"))
local macro_rules | `(tactic| wtm_at "e") => `(tactic| repeat (first | (with_reducible first | refine Z.r_methX ?_ | refine Z.r_erF ?_) | wtm_at "1"))
local macro_rules | `(tactic| wtm_at "1") => `(tactic| with_reducible first | refine Z.r_callS ?_ | refine Z.r_callSD ?_)
local macro_rules | `(tactic| wtm_at "1") => `(tactic| with_reducible first | refine Z.r_fb ?_ | refine Z.r_m1 ?_ | refine Z.r_bits ?_ | refine Z.r_bitsI ?_ | refine Z.r_min2 ?_)

namespace M_k12
open PySem PySem.Spec PyProof.Rows L2
def topS (i : Nat) : Stmt := PySem.Challenge.pw_dotfield_k12_format_words.main.body.getD i (.Pass ⟨0, 0, 0, 0⟩)
abbrev s_DotfieldError___init__ : Stmt := (inClass (topS 1) 0)
abbrev sl_DotfieldError___init__ : List Str := ["self", "place"]
abbrev pl_DotfieldError___init__ : List Str := ["self", "place"]
theorem sc_DotfieldError___init__ : FnScope sl_DotfieldError___init__ pl_DotfieldError___init__ (defScope s_DotfieldError___init__) := ⟨rfl, rfl, rfl, by decide +kernel, rfl, by decide +kernel, by decide +kernel⟩
abbrev s_remainder : Stmt := (topS 11)
abbrev sl_remainder : List Str := ["a", "g"]
abbrev pl_remainder : List Str := ["a", "g"]
theorem sc_remainder : FnScope sl_remainder pl_remainder (defScope s_remainder) := ⟨rfl, rfl, rfl, by decide +kernel, rfl, by decide +kernel, by decide +kernel⟩
abbrev s_ones : Stmt := (topS 4)
abbrev sl_ones : List Str := ["number"]
abbrev pl_ones : List Str := ["number"]
theorem sc_ones : FnScope sl_ones pl_ones (defScope s_ones) := ⟨rfl, rfl, rfl, by decide +kernel, rfl, by decide +kernel, by decide +kernel⟩
abbrev s_distance : Stmt := (topS 10)
abbrev sl_distance : List Str := ["first", "second"]
abbrev pl_distance : List Str := ["first", "second"]
theorem sc_distance : FnScope sl_distance pl_distance (defScope s_distance) := ⟨rfl, rfl, rfl, by decide +kernel, rfl, by decide +kernel, by decide +kernel⟩
abbrev s_format_word : Stmt := (topS 7)
abbrev sl_format_word : List Str := ["level", "mask", "product"]
abbrev pl_format_word : List Str := ["level", "mask"]
theorem sc_format_word : FnScope sl_format_word pl_format_word (defScope s_format_word) := ⟨rfl, rfl, rfl, by decide +kernel, rfl, by decide +kernel, by decide +kernel⟩
abbrev s_ways_to_formats : Stmt := (topS 9)
abbrev sl_ways_to_formats : List Str := ["word", "level", "mask"]
abbrev pl_ways_to_formats : List Str := ["word"]
theorem sc_ways_to_formats : FnScope sl_ways_to_formats pl_ways_to_formats (defScope s_ways_to_formats) := ⟨rfl, rfl, rfl, by decide +kernel, rfl, by decide +kernel, by decide +kernel⟩
abbrev s_nearest_format : Stmt := (topS 8)
abbrev sl_nearest_format : List Str := ["first", "second", "ways", "least", "level", "mask"]
abbrev pl_nearest_format : List Str := ["first", "second"]
theorem sc_nearest_format : FnScope sl_nearest_format pl_nearest_format (defScope s_nearest_format) := ⟨rfl, rfl, rfl, by decide +kernel, rfl, by decide +kernel, by decide +kernel⟩
abbrev s__law_draw : Stmt := (topS 13)
abbrev sl__law_draw : List Str := ["cell", "many", "bound", "numbers", "k", "seed", "mixed"]
abbrev pl__law_draw : List Str := ["cell", "many", "bound"]
theorem sc__law_draw : FnScope sl__law_draw pl__law_draw (defScope s__law_draw) := ⟨rfl, rfl, rfl, by decide +kernel, rfl, by decide +kernel, by decide +kernel⟩
abbrev s__law_is_integer : Stmt := (topS 14)
abbrev sl__law_is_integer : List Str := ["actual"]
abbrev pl__law_is_integer : List Str := ["actual"]
theorem sc__law_is_integer : FnScope sl__law_is_integer pl__law_is_integer (defScope s__law_is_integer) := ⟨rfl, rfl, rfl, by decide +kernel, rfl, by decide +kernel, by decide +kernel⟩
abbrev s__law_cell : Stmt := (topS 15)
abbrev sl__law_cell : List Str := ["script", "k"]
abbrev pl__law_cell : List Str := ["script", "k"]
theorem sc__law_cell : FnScope sl__law_cell pl__law_cell (defScope s__law_cell) := ⟨rfl, rfl, rfl, by decide +kernel, rfl, by decide +kernel, by decide +kernel⟩
abbrev s__law_left : Stmt := (topS 16)
abbrev sl__law_left : List Str := ["value", "divisor", "size", "more", "rest", "k"]
abbrev pl__law_left : List Str := ["value", "divisor", "size", "more"]
theorem sc__law_left : FnScope sl__law_left pl__law_left (defScope s__law_left) := ⟨rfl, rfl, rfl, by decide +kernel, rfl, by decide +kernel, by decide +kernel⟩
abbrev s__law_form : Stmt := (topS 17)
abbrev sl__law_form : List Str := ["value"]
abbrev pl__law_form : List Str := ["value"]
theorem sc__law_form : FnScope sl__law_form pl__law_form (defScope s__law_form) := ⟨rfl, rfl, rfl, by decide +kernel, rfl, by decide +kernel, by decide +kernel⟩
abbrev s__law_far : Stmt := (topS 18)
abbrev sl__law_far : List Str := ["first", "second", "rest", "many", "k"]
abbrev pl__law_far : List Str := ["first", "second"]
theorem sc__law_far : FnScope sl__law_far pl__law_far (defScope s__law_far) := ⟨rfl, rfl, rfl, by decide +kernel, rfl, by decide +kernel, by decide +kernel⟩
abbrev s__law_words : Stmt := (topS 19)
abbrev sl__law_words : List Str := ["words", "value"]
abbrev pl__law_words : List Str := []
theorem sc__law_words : FnScope sl__law_words pl__law_words (defScope s__law_words) := ⟨rfl, rfl, rfl, by decide +kernel, rfl, by decide +kernel, by decide +kernel⟩
abbrev s__law_level : Stmt := (topS 20)
abbrev sl__law_level : List Str := ["value"]
abbrev pl__law_level : List Str := ["value"]
theorem sc__law_level : FnScope sl__law_level pl__law_level (defScope s__law_level) := ⟨rfl, rfl, rfl, by decide +kernel, rfl, by decide +kernel, by decide +kernel⟩
abbrev s__law_strange : Stmt := (topS 21)
abbrev sl__law_strange : List Str := ["cell", "words", "k", "value", "word"]
abbrev pl__law_strange : List Str := ["cell", "words"]
theorem sc__law_strange : FnScope sl__law_strange pl__law_strange (defScope s__law_strange) := ⟨rfl, rfl, rfl, by decide +kernel, rfl, by decide +kernel, by decide +kernel⟩
abbrev s_law : Stmt := (topS 22)
abbrev sl_law : List Str := ["script", "words", "value", "told", "other", "numbers", "many", "strange", "cell", "word", "k", "due"]
abbrev pl_law : List Str := ["script"]
theorem sc_law : FnScope sl_law pl_law (defScope s_law) := ⟨rfl, rfl, rfl, by decide +kernel, rfl, by decide +kernel, by decide +kernel⟩
def allB (f : Nat → Bool) : Nat → Bool
  | 0 => true
  | n + 1 => f n && allB f n
theorem allB_at {f : Nat → Bool} : ∀ {n i : Nat}, allB f n = true → i < n → f i = true
  | n + 1, i, h, hi => by
    unfold allB at h
    rw [Bool.and_eq_true] at h
    by_cases e : i = n
    · subst e; exact h.1
    · exact allB_at h.2 (by omega)
/-! ints that are naturals -/
theorem nat_shr (b k : Nat) : ((b : Int) / 2 ^ ((k : Nat) : Int).toNat) = ((b >>> k : Nat) : Int) := by
  rw [Int.toNat_natCast, Nat.shiftRight_eq_div_pow]
  have e : (2 : Int) ^ k = ((2 ^ k : Nat) : Int) := by simp
  rw [e]; rfl
theorem nat_shl (b k : Nat) : ((b : Int) * 2 ^ ((k : Nat) : Int).toNat) = ((b <<< k : Nat) : Int) := by
  rw [Int.toNat_natCast, Nat.shiftLeft_eq]
  have e : (2 : Int) ^ k = ((2 ^ k : Nat) : Int) := by simp
  rw [e]; rfl
theorem nat_xor (a b : Nat) : Builtin.bitXor (a : Int) (b : Int) = ((a ^^^ b : Nat) : Int) := by
  rw [Bits.bitXor_pp (Int.natCast_nonneg _) (Int.natCast_nonneg _)]; rfl
theorem nat_and (a b : Nat) : Builtin.bitAnd (a : Int) (b : Int) = ((a &&& b : Nat) : Int) := by
  unfold Builtin.bitAnd
  rw [decide_eq_true (Int.natCast_nonneg a), decide_eq_true (Int.natCast_nonneg b)]
  rfl
theorem nat_and1 (a : Nat) : Builtin.bitAnd (a : Int) 1 = ((a % 2 : Nat) : Int) := by
  rw [show (1 : Int) = ((1 : Nat) : Int) from rfl, nat_and, Nat.and_one_is_mod]
/-! ## polynomials -/
def nv (cs : List Nat) : List V := cs.map fun c => V.int (c : Nat)
theorem nv_len (cs : List Nat) : (nv cs).length = cs.length := List.length_map _
theorem nv_int (cs : List Nat) : nv cs = (cs.map fun c : Nat => (c : Int)).map V.int := by
  unfold nv; rw [List.map_map]; rfl
theorem nv_get {cs : List Nat} {i : Nat} {x : V} (h : (nv cs)[i]? = some x) : ∃ c, cs[i]? = some c ∧ x = .int (c : Nat) := by
  unfold nv at h
  rw [List.getElem?_map] at h
  cases e : cs[i]? with
  | none => rw [e] at h; cases h
  | some z => rw [e] at h; exact ⟨z, rfl, (Option.some.inj h).symm⟩
theorem nv_at {cs : List Nat} {i : Int} {j : Nat} (e : i = (j : Int)) (h : j < cs.length) : atI (nv cs) i = some (.int (cs.getD j 0 : Nat)) := by
  subst e
  refine atI_nat ?_
  unfold nv
  rw [List.getElem?_map, List.getElem?_eq_getElem h, List.getD_eq_getElem?_getD, List.getElem?_eq_getElem h]
  rfl
theorem nv_set (cs : List Nat) (j c : Nat) : (nv cs).set j (.int (c : Nat)) = nv (cs.set j c) := by
  unfold nv; rw [List.map_set]
theorem nv_rep (n : Nat) : List.replicate n (V.int 0) = nv (List.replicate n 0) := by
  unfold nv; rw [List.map_replicate]; rfl
/-! ## remainders, words -/
def remF : Nat → Nat → Nat → Option Nat
  | 0, _, _ => none
  | f + 1, a, g => if Z.blN g ≤ Z.blN a then remF f (a ^^^ (g <<< (Z.blN a - Z.blN g))) g else some a
def leftR (v d size more : Nat) : Nat → Nat
  | 0 => v <<< more
  | k + 1 => if (leftR v d size more k >>> (size + more - 1 - k)) % 2 = 1 then leftR v d size more k ^^^ (d <<< (size - 1 - k)) else leftR v d size more k
def leftN (v d size more : Nat) : Nat := (v <<< more) + leftR v d size more size
def farN (a b : Nat) : Nat := Z.farK (a ^^^ b) 20
theorem pc_cut {m : Nat} : ∀ {k n : Nat}, m ≤ k → n < 2 ^ m → Z.pc k n = Z.pc m n := by
  induction m with
  | zero =>
    intro k n _ h
    have : n = 0 := by simpa using h
    subst this
    rw [Z.pc_zero, Z.pc_zero]
  | succ m ih =>
    intro k n hk h
    obtain ⟨j, rfl⟩ : ∃ j, k = j + 1 := ⟨k - 1, by omega⟩
    show n % 2 + Z.pc j (n / 2) = n % 2 + Z.pc m (n / 2)
    rw [ih (by omega) (by rw [Nat.pow_succ] at h; omega)]
theorem far_pc (a b : Nat) : farN a b = Z.pc 20 (a ^^^ b) := Z.farK_pc 20 _
theorem xor20 {a b : Nat} (ha : a < 1048576) (hb : b < 1048576) : a ^^^ b < 1048576 := Nat.xor_lt_two_pow (n := 20) ha hb
/-! ## format words -/
def fmN (v : Nat) : Nat := leftN v 1335 5 10 ^^^ 21522
def lnT : List Nat := [1, 0, 3, 2]
def lnN (j : Nat) : Nat := lnT.getD j 0
def lvs : List Str := ["L", "M", "Q", "H"]
def lvS (j : Nat) : Str := lvs.getD j ""
def nms : List Str := ["M", "L", "H", "Q"]
def nmS (n : Nat) : Str := nms.getD n ""
def vIx (i : Nat) : Nat := 8 * lnN (i / 8) + i % 8
theorem fm_ok : allB (fun v => (remF 40 (1024 * v) 1335).isSome && Nat.beq ((1024 * v + (remF 40 (1024 * v) 1335).getD 0) ^^^ 21522) (fmN v) && Nat.blt (fmN v) 32768) 32 = true := by decide +kernel
theorem fm_rem {v : Nat} (h : v < 32) : ∃ r, remF 40 (1024 * v) 1335 = some r ∧ (1024 * v + r) ^^^ 21522 = fmN v ∧ fmN v < 32768 := by
  have := allB_at fm_ok h
  rw [Bool.and_eq_true, Bool.and_eq_true] at this
  obtain ⟨⟨a, b⟩, c⟩ := this
  obtain ⟨r, hr⟩ := Option.isSome_iff_exists.mp a
  rw [hr] at b
  exact ⟨r, hr, Nat.eq_of_beq_eq_true b, by rw [Nat.blt_eq] at c; exact c⟩
theorem fm_lt {v : Nat} (h : v < 32) : fmN v < 32768 := by obtain ⟨r, _, _, c⟩ := fm_rem h; exact c
theorem fm_far : allB (fun i => allB (fun j => Nat.ble 7 (farN (fmN i) (fmN j))) i) 32 = true := by decide +kernel
theorem fm_dist {i j : Nat} (hi : i < 32) (hj : j < i) : 7 ≤ farN (fmN i) (fmN j) := by
  have h1 : allB (fun j => Nat.ble 7 (farN (fmN i) (fmN j))) i = true := allB_at (f := fun i => allB (fun j => Nat.ble 7 (farN (fmN i) (fmN j))) i) fm_far hi
  have h2 : Nat.ble 7 (farN (fmN i) (fmN j)) = true := allB_at (f := fun j => Nat.ble 7 (farN (fmN i) (fmN j))) h1 hj
  exact Nat.le_of_ble_eq_true h2
theorem far_comm (a b : Nat) : farN a b = farN b a := by unfold farN; rw [Nat.xor_comm]
theorem far_self (a : Nat) : farN a a = 0 := by rw [far_pc, Nat.xor_self, Z.pc_zero]
theorem far_tri (a b c : Nat) : farN a c ≤ farN a b + farN b c := by rw [far_pc, far_pc, far_pc]; exact Z.pc_tri 20 a b c
/-- at most one format word is near -/
theorem fm_one {w i j : Nat} (hi : i < 32) (hj : j < 32) (h1 : farN w (fmN i) ≤ 3) (h2 : farN w (fmN j) ≤ 3) : i = j := by
  have t := far_tri (fmN i) w (fmN j)
  rw [far_comm (fmN i) w] at t
  rcases Nat.lt_trichotomy i j with c | c | c
  · have := fm_dist hj c
    rw [far_comm] at this
    omega
  · exact c
  · have := fm_dist hi c
    omega
theorem ix_lt : ∀ i, i < 32 → vIx i < 32 := by decide +kernel
theorem ix_num : ∀ i, i < 32 → vIx i / 8 = lnN (i / 8) ∧ vIx i % 8 = i % 8 := by decide +kernel
theorem ix_name : ∀ i, i < 32 → lvS (i / 8) = nmS (vIx i / 8) := by decide +kernel
theorem ix_of : ∀ v, v < 32 → vIx (8 * lnN (v / 8) + v % 8) = v ∧ 8 * lnN (v / 8) + v % 8 < 32 := by decide +kernel
theorem ln_lt : ∀ j, j < 4 → lnN j < 4 := by decide +kernel
/-- the ways over one word -/
def wayK (w i : Nat) : Nat := farN w (fmN (vIx i))
def WaysAt (H : Hp) (xs : List V) (w : Nat) (n : Nat) : Prop := xs.length = n ∧ ∀ i, i < n → ∃ t : Addr, xs[i]? = some (.ref t) ∧ H t = some (.tup [.int (wayK w i : Nat), .str (lvS (i / 8)), .int ((i % 8 : Nat) : Int)])
def key2 (a b i : Nat) : Int := if i < 32 then (wayK a i : Nat) else (wayK b (i - 32) : Nat)
theorem WaysAt.same {H H' : Hp} {xs : List V} {w n : Nat} (h : WaysAt H xs w n) (s : Same H H') : WaysAt H' xs w n := ⟨h.1, fun i hi => by obtain ⟨t, a, b⟩ := h.2 i hi; exact ⟨t, a, s _ _ b⟩⟩
theorem f_pn : ¬ (("place" : Str) = "name") := by decide +kernel
def notFmt : HO := .xd [("name", .str "InvalidFormat"), ("place", .int 0)]
/-- the nearest of two copies -/
def NearF (a b i : Nat) : Prop := i < 64 ∧ Z.FirstMin (key2 a b) 64 i
theorem near_le {a b i : Nat} (h : NearF a b i) : ∀ v, v < 32 → key2 a b i ≤ (farN a (fmN v) : Nat) ∧ key2 a b i ≤ (farN b (fmN v) : Nat) := fun v hv => by
  obtain ⟨e, l⟩ := ix_of v hv
  have h1 := (h.2 (8 * lnN (v / 8) + v % 8) (by omega)).1
  have h2 := (h.2 (32 + (8 * lnN (v / 8) + v % 8)) (by omega)).1
  have k1 : key2 a b (8 * lnN (v / 8) + v % 8) = (farN a (fmN v) : Nat) := by
    unfold key2 wayK; rw [if_pos l, e]
  have k2 : key2 a b (32 + (8 * lnN (v / 8) + v % 8)) = (farN b (fmN v) : Nat) := by
    unfold key2 wayK; rw [if_neg (by omega), show 32 + (8 * lnN (v / 8) + v % 8) - 32 = 8 * lnN (v / 8) + v % 8 by omega, e]
  rw [k1] at h1
  rw [k2] at h2
  exact ⟨h1, h2⟩
def lamT (P : Addr) : List (Addr × Str) := [(P, (("nearest_format" : Str) ++ ".<locals>.") ++ "<lambda>")]
structure Top (K : PySem.W.Frag) (mg : Str → Option Value) (w : World) where
  a_DotfieldError___init__ : Addr
  d_DotfieldError___init__ : FuncData
  F_DotfieldError___init__ : Fun K "__init__" "DotfieldError.__init__" s_DotfieldError___init__ a_DotfieldError___init__ d_DotfieldError___init__
  b_DotfieldError___init__ : Binds K d_DotfieldError___init__ pl_DotfieldError___init__ []
  a_remainder : Addr
  d_remainder : FuncData
  F_remainder : Fun K "remainder" "remainder" s_remainder a_remainder d_remainder
  b_remainder : Binds K d_remainder pl_remainder []
  g_remainder : mg "remainder" = some (.ref a_remainder)
  a_ones : Addr
  d_ones : FuncData
  F_ones : Fun K "ones" "ones" s_ones a_ones d_ones
  b_ones : Binds K d_ones pl_ones []
  g_ones : mg "ones" = some (.ref a_ones)
  a_distance : Addr
  d_distance : FuncData
  F_distance : Fun K "distance" "distance" s_distance a_distance d_distance
  b_distance : Binds K d_distance pl_distance []
  g_distance : mg "distance" = some (.ref a_distance)
  a_format_word : Addr
  d_format_word : FuncData
  F_format_word : Fun K "format_word" "format_word" s_format_word a_format_word d_format_word
  b_format_word : Binds K d_format_word pl_format_word []
  g_format_word : mg "format_word" = some (.ref a_format_word)
  a_ways_to_formats : Addr
  d_ways_to_formats : FuncData
  F_ways_to_formats : Fun K "ways_to_formats" "ways_to_formats" s_ways_to_formats a_ways_to_formats d_ways_to_formats
  b_ways_to_formats : Binds K d_ways_to_formats pl_ways_to_formats []
  g_ways_to_formats : mg "ways_to_formats" = some (.ref a_ways_to_formats)
  a_nearest_format : Addr
  d_nearest_format : FuncData
  F_nearest_format : Fun K "nearest_format" "nearest_format" s_nearest_format a_nearest_format d_nearest_format
  b_nearest_format : Binds K d_nearest_format pl_nearest_format []
  c_nearest_format : Addr
  P_nearest_format : Addr
  FC_nearest_format : Z.FunC K "nearest_format" "nearest_format" s_nearest_format a_nearest_format d_nearest_format c_nearest_format
  g_nearest_format : mg "nearest_format" = some (.ref a_nearest_format)
  a__law_draw : Addr
  d__law_draw : FuncData
  F__law_draw : Fun K "_law_draw" "_law_draw" s__law_draw a__law_draw d__law_draw
  b__law_draw : Binds K d__law_draw pl__law_draw []
  g__law_draw : mg "_law_draw" = some (.ref a__law_draw)
  a__law_is_integer : Addr
  d__law_is_integer : FuncData
  F__law_is_integer : Fun K "_law_is_integer" "_law_is_integer" s__law_is_integer a__law_is_integer d__law_is_integer
  b__law_is_integer : Binds K d__law_is_integer pl__law_is_integer []
  g__law_is_integer : mg "_law_is_integer" = some (.ref a__law_is_integer)
  a__law_cell : Addr
  d__law_cell : FuncData
  F__law_cell : Fun K "_law_cell" "_law_cell" s__law_cell a__law_cell d__law_cell
  b__law_cell : Binds K d__law_cell pl__law_cell []
  g__law_cell : mg "_law_cell" = some (.ref a__law_cell)
  a__law_left : Addr
  d__law_left : FuncData
  F__law_left : Fun K "_law_left" "_law_left" s__law_left a__law_left d__law_left
  b__law_left : Binds K d__law_left pl__law_left []
  g__law_left : mg "_law_left" = some (.ref a__law_left)
  a__law_form : Addr
  d__law_form : FuncData
  F__law_form : Fun K "_law_form" "_law_form" s__law_form a__law_form d__law_form
  b__law_form : Binds K d__law_form pl__law_form []
  g__law_form : mg "_law_form" = some (.ref a__law_form)
  a__law_far : Addr
  d__law_far : FuncData
  F__law_far : Fun K "_law_far" "_law_far" s__law_far a__law_far d__law_far
  b__law_far : Binds K d__law_far pl__law_far []
  g__law_far : mg "_law_far" = some (.ref a__law_far)
  a__law_words : Addr
  d__law_words : FuncData
  F__law_words : Fun K "_law_words" "_law_words" s__law_words a__law_words d__law_words
  b__law_words : Binds K d__law_words pl__law_words []
  g__law_words : mg "_law_words" = some (.ref a__law_words)
  a__law_level : Addr
  d__law_level : FuncData
  F__law_level : Fun K "_law_level" "_law_level" s__law_level a__law_level d__law_level
  b__law_level : Binds K d__law_level pl__law_level []
  g__law_level : mg "_law_level" = some (.ref a__law_level)
  a__law_strange : Addr
  d__law_strange : FuncData
  F__law_strange : Fun K "_law_strange" "_law_strange" s__law_strange a__law_strange d__law_strange
  b__law_strange : Binds K d__law_strange pl__law_strange []
  g__law_strange : mg "_law_strange" = some (.ref a__law_strange)
  a_law : Addr
  d_law : FuncData
  F_law : Fun K "law" "law" s_law a_law d_law
  b_law : Binds K d_law pl_law []
  g_law : mg "law" = some (.ref a_law)
  a_DotfieldError : Addr
  g_DotfieldError : mg "DotfieldError" = some (.ref a_DotfieldError)
  a_InvalidFormat : Addr
  g_InvalidFormat : mg "InvalidFormat" = some (.ref a_InvalidFormat)
  ox_InvalidFormat : OexC K a_InvalidFormat
  ec_InvalidFormat : Z.EcC K a_InvalidFormat
  nm_InvalidFormat : Z.NmC K a_InvalidFormat "InvalidFormat"
  xf_InvalidFormat : XfC K a_InvalidFormat
  ic_InvalidFormat : PySem.W.findIn K (.ref a_InvalidFormat) "__init__" = some (some (.ref a_DotfieldError___init__))
  no_InvalidFormat_place : PySem.W.findIn K (.ref a_InvalidFormat) "place" = some none
  no_InvalidFormat_name : PySem.W.findIn K (.ref a_InvalidFormat) "name" = some none
  it_DotfieldError___init__ : PySem.W.typeIn K (.ref a_DotfieldError___init__) = some (.type "function")
  a_LEVEL_NUMBERS : Addr
  m_LEVEL_NUMBERS : mg "LEVEL_NUMBERS" = some (.ref a_LEVEL_NUMBERS)
  d_LEVEL_NUMBERS : Z.KD K w a_LEVEL_NUMBERS
  q_LEVEL_NUMBERS : Z.KQ K a_LEVEL_NUMBERS [.str "L", .str "M", .str "Q", .str "H"]
  u_LEVEL_NUMBERS_0 : Value
  k_LEVEL_NUMBERS_0 : PySem.W.nsIn K a_LEVEL_NUMBERS "L" = some (some u_LEVEL_NUMBERS_0)
  t_LEVEL_NUMBERS_0 : Z.okT K u_LEVEL_NUMBERS_0 (.i (lnN 0 : Nat)) = true
  u_LEVEL_NUMBERS_1 : Value
  k_LEVEL_NUMBERS_1 : PySem.W.nsIn K a_LEVEL_NUMBERS "M" = some (some u_LEVEL_NUMBERS_1)
  t_LEVEL_NUMBERS_1 : Z.okT K u_LEVEL_NUMBERS_1 (.i (lnN 1 : Nat)) = true
  u_LEVEL_NUMBERS_2 : Value
  k_LEVEL_NUMBERS_2 : PySem.W.nsIn K a_LEVEL_NUMBERS "Q" = some (some u_LEVEL_NUMBERS_2)
  t_LEVEL_NUMBERS_2 : Z.okT K u_LEVEL_NUMBERS_2 (.i (lnN 2 : Nat)) = true
  u_LEVEL_NUMBERS_3 : Value
  k_LEVEL_NUMBERS_3 : PySem.W.nsIn K a_LEVEL_NUMBERS "H" = some (some u_LEVEL_NUMBERS_3)
  t_LEVEL_NUMBERS_3 : Z.okT K u_LEVEL_NUMBERS_3 (.i (lnN 3 : Nat)) = true
  n_range : mg "range" = none
  n_min : mg "min" = none
  n_way : mg "way" = none
  n_int : mg "int" = none
  n_isinstance : mg "isinstance" = none
  n_bool : mg "bool" = none
  n_len : mg "len" = none
section
variable {P : Program} {w : World} {K : PySem.W.Frag} {mg : Str → Option Value} {base : Heap}
def sp_DotfieldError___init__ (K : PySem.W.Frag) : Sp := fun vs H Q _ => ∃ (a C : Addr) (n : Int), vs = [.ref a, .int n] ∧ ∃ (nm : Str), H a = some (exo a C none) ∧ OexC K C ∧ Z.EcC K C ∧ Z.NmC K C nm ∧ PySem.W.findIn K (.ref C) "place" = some none ∧ PySem.W.findIn K (.ref C) "name" = some none ∧ ∀ d H1, H d = none → d ≠ a → H1 a = some (exo a C (some d)) → H1 d = some (exd d [("name", .str nm), ("place", .int n)]) → (∀ b, b ≠ a → b ≠ d → H1 b = H b) → Q .non H1
set_option maxHeartbeats 2000000 in
theorem ok_DotfieldError___init__ (T : Top K mg w) : FnOk P w K mg base CX0 1 T.a_DotfieldError___init__ T.d_DotfieldError___init__ pl_DotfieldError___init__ (sp_DotfieldError___init__ K) := by
  refine T.F_DotfieldError___init__.ok sc_DotfieldError___init__ (fun vs H Q E h => ?_) (fun cdv A outer s H vs Q E hr h => ?_)
  · obtain ⟨a, C, n, rfl, _⟩ := h
    rfl
  · obtain ⟨a, C, n, rfl, nm, hH, ho, he, hn, hp, hnm, q⟩ := h
    have hu := hu_of hr
    refine ⟨_, (pss_cons (ps_ost (pv 0) (pv 1))
      (pss_one (ps_ost (pv 0) (Z.pe_cnm (pv 0))))), ?_⟩
    show (_ : L2.TS) _ [some _, some _] H
    try simp only [Z.kx]
    wtm_at "r"
    refine ⟨_, rfl, _, rfl, a, C, rfl, ho, hp, .inl ⟨hH, fun d hd hda => ?_⟩⟩
    have ha : (upd (upd H d (exd d [(("place" : Str), V.int n)])) a (exo a C (some d))) a = some (exo a C (some d)) := L2.upd_same
    have hd1 : (upd (upd H d (exd d [(("place" : Str), V.int n)])) a (exo a C (some d))) d = some (exd d [(("place" : Str), V.int n)]) := (upd_ne hda).trans L2.upd_same
    refine ⟨_, rfl, a, C, d, _, nm, rfl, he, hn, ha, hd1, ?_⟩
    refine ⟨_, rfl, a, C, rfl, ho, hnm, .inr ⟨d, _, ha, hd1, by show 1 ≤ 900; decide, ?_⟩⟩
    refine q d _ hd hda ((upd_ne hda.symm).trans ha) L2.upd_same (fun b hb hb2 => ?_)
    rw [upd_ne hb2, upd_ne hb, upd_ne hb2]
def sp_remainder (K : PySem.W.Frag) : Sp := fun vs H Q _ => ∃ (a g f r : Nat), vs = [.int a, .int g] ∧ remF f a g = some r ∧ g < 2 ^ 40 ∧ a < 2 ^ 40 ∧ Q (.int r) H
set_option maxHeartbeats 2000000 in
theorem ok_remainder (T : Top K mg w) : FnOk P w K mg base CX0 1 T.a_remainder T.d_remainder pl_remainder (sp_remainder K) := by
  refine T.F_remainder.ok sc_remainder (fun vs H Q E h => ?_) (fun cdv A outer s H vs Q E hr h => ?_)
  · obtain ⟨a, g, f, r, rfl, _⟩ := h
    rfl
  · obtain ⟨a, g, f, r, rfl, hR, hg, ha, q⟩ := h
    have hu := hu_of hr
    refine ⟨_, (pss_cons (ps_while PassesOwn.never (pt_cmpR op_ge (pe_bits (pv 0)) (pe_bits (pv 1)) (nomark _)) (pss_one (ps_set (i := 0) sc_remainder.nd rfl (Or.inl rfl) (pe_op op_xor (pv 0) (pe_op op_shl (pv 1) (pe_op op_sub (pe_bits (pv 0)) (pe_bits (pv 1))))))))
      (pss_one (ps_ret (pv 0)))), ?_⟩
    show (_ : L2.TS) _ [some _, some _] H
    try simp only [Z.kx]
    wtm_at "r"
    refine Z.r_while (fun m σ H2 => ∃ (a : Nat), σ = [some (.int a), some (.int g)] ∧ H2 = H ∧ a < 2 ^ 40 ∧ remF m a g = some r) f ⟨a, rfl, rfl, ha, hR⟩ ?_
    clear hR
    rintro m σ H2 ⟨a, rfl, rfl, ha, hR⟩
    wtm_at "r"
    obtain ⟨m, rfl⟩ : ∃ j, m = j + 1 := by
      cases m with
      | zero => cases hR
      | succ j => exact ⟨j, rfl⟩
    have bl40 : ∀ {x : Nat}, x < 2 ^ 40 → Z.blN x ≤ 40 := by
      intro x hx
      unfold Z.blN
      split
      · omega
      · rename_i h0
        have := (Nat.log2_lt h0).mpr hx
        omega
    have b1 := bl40 ha
    have b2 := bl40 hg
    unfold remF at hR
    with_reducible refine Z.i_2 (fun h => ?_) (fun h => ?_) <;> rw [Z.bits_nat, Z.bits_nat] at h
    · rw [if_pos (by omega)] at hR
      refine ⟨fun σ' H' => ∃ m', m' < m + 1 ∧ ∃ (a : Nat), σ' = [some (.int a), some (.int g)] ∧ H' = H2 ∧ a < 2 ^ 40 ∧ remF m' a g = some r, fun σ' H' z => z, ?_⟩
      wtm_at "r"
      rw [Z.bits_nat, Z.bits_nat, show ((Z.blN a : Nat) : Int) - (Z.blN g : Nat) = ((Z.blN a - Z.blN g : Nat) : Int) by omega]
      refine Z.r_I (Z.c_pow (by omega) (by omega) (by rw [Int.natAbs_natCast]; exact Nat.lt_trans hg (by decide))) ?_
      wtm_at "r"
      rw [nat_shl, nat_xor]
      refine ⟨m, Nat.lt_succ_self m, _, rfl, rfl, Nat.xor_lt_two_pow ha ?_, hR⟩
      have hb : g < 2 ^ Z.blN g := by
        unfold Z.blN
        split
        · rename_i h0; subst h0; decide
        · exact Nat.lt_log2_self
      have hs : g <<< (Z.blN a - Z.blN g) < 2 ^ Z.blN a := by
        rw [Nat.shiftLeft_eq]
        calc g * 2 ^ (Z.blN a - Z.blN g) < 2 ^ Z.blN g * 2 ^ (Z.blN a - Z.blN g) := Nat.mul_lt_mul_of_pos_right hb (Nat.two_pow_pos _)
          _ = 2 ^ Z.blN a := by rw [← Nat.pow_add]; congr 1; omega
      exact Nat.lt_of_lt_of_le hs (Nat.pow_le_pow_right (by decide) b1)
    · rw [if_neg (by omega)] at hR
      cases hR
      wtm_at "r"
      exact q
def sp_ones (K : PySem.W.Frag) : Sp := fun vs H Q _ => ∃ (n : Nat), vs = [.int n] ∧ n < 2 ^ 20 ∧ Q (.int (Z.pc 20 n : Nat)) H
set_option maxHeartbeats 2000000 in
theorem ok_ones (T : Top K mg w) : FnOk P w K mg base CX0 1 T.a_ones T.d_ones pl_ones (sp_ones K) := by
  refine T.F_ones.ok sc_ones (fun vs H Q E h => ?_) (fun cdv A outer s H vs Q E hr h => ?_)
  · obtain ⟨n, rfl, _⟩ := h
    rfl
  · obtain ⟨n, rfl, hn, q⟩ := h
    have hu := hu_of hr
    refine ⟨_, (pss_one (ps_ret (pe_m1 PySem.F.slot_str_count PySem.F.type_str_count mt_count (Z.pe_fmtb (pv 0)) pe_str))), ?_⟩
    show (_ : L2.TS) _ [some _] H
    try simp only [Z.kx]
    wtm_at "r"
    refine ⟨n, rfl, Nat.lt_of_lt_of_le hn (Nat.pow_le_pow_right (by decide) (by decide)), ⟨_, rfl⟩, ?_⟩
    wtm_at "r"
    refine Z.r_cnt1 ?_
    rw [Z.binS_count (k := 20) hn]
    exact q
def sp_distance (K : PySem.W.Frag) : Sp := fun vs H Q _ => ∃ (a b : Nat), vs = [.int a, .int b] ∧ a < 1048576 ∧ b < 1048576 ∧ Q (.int (farN a b : Nat)) H
set_option maxHeartbeats 2000000 in
theorem ok_distance (T : Top K mg w) : FnOk P w K mg base CX0 2 T.a_distance T.d_distance pl_distance (sp_distance K) := by
  refine T.F_distance.ok sc_distance (fun vs H Q E h => ?_) (fun cdv A outer s H vs Q E hr h => ?_)
  · obtain ⟨a, b, rfl, _⟩ := h
    rfl
  · obtain ⟨a, b, rfl, ha, hb, q⟩ := h
    have hu := hu_of hr
    refine ⟨_, (pss_one (ps_ret (pe_call (ok_ones T) (hr.mono (by decide)) (by rfl) T.g_ones T.F_ones.kp T.b_ones .nil pass0 (pa_cons (pe_op op_xor (pv 0) (pv 1)) pa_nil)))), ?_⟩
    show (_ : L2.TS) _ [some _, some _] H
    try simp only [Z.kx]
    wtm_at "r"
    rw [nat_xor]
    refine ⟨a ^^^ b, rfl, xor20 ha hb, ?_⟩
    rw [← far_pc]
    exact q
end
theorem kd_LEVEL {K : PySem.W.Frag} {mg : Str → Option Value} {w : World} (T : Top K mg w) {j : Nat} (hj : j < 4) {H : Hp} {k : VK} (hk : k (.int (lnN j : Nat)) H) : rIxD K w (.ref T.a_LEVEL_NUMBERS) (.str (lvS j)) H k := by
  match j, hj with
  | 0, _ => obtain ⟨y, ry, vy⟩ := Z.okT_V T.t_LEVEL_NUMBERS_0; cases Z.vt_i vy; exact Z.r_kd T.d_LEVEL_NUMBERS T.k_LEVEL_NUMBERS_0 ry hk
  | 1, _ => obtain ⟨y, ry, vy⟩ := Z.okT_V T.t_LEVEL_NUMBERS_1; cases Z.vt_i vy; exact Z.r_kd T.d_LEVEL_NUMBERS T.k_LEVEL_NUMBERS_1 ry hk
  | 2, _ => obtain ⟨y, ry, vy⟩ := Z.okT_V T.t_LEVEL_NUMBERS_2; cases Z.vt_i vy; exact Z.r_kd T.d_LEVEL_NUMBERS T.k_LEVEL_NUMBERS_2 ry hk
  | 3, _ => obtain ⟨y, ry, vy⟩ := Z.okT_V T.t_LEVEL_NUMBERS_3; cases Z.vt_i vy; exact Z.r_kd T.d_LEVEL_NUMBERS T.k_LEVEL_NUMBERS_3 ry hk
section
variable {P : Program} {w : World} {K : PySem.W.Frag} {mg : Str → Option Value} {base : Heap}
def sp_format_word (K : PySem.W.Frag) : Sp := fun vs H Q _ => ∃ (j m : Nat), vs = [.str (lvS j), .int m] ∧ j < 4 ∧ m < 8 ∧ Q (.int (fmN (8 * lnN j + m) : Nat)) H
set_option maxHeartbeats 2000000 in
theorem ok_format_word (T : Top K mg w) : FnOk P w K mg base CX0 2 T.a_format_word T.d_format_word pl_format_word (sp_format_word K) := by
  refine T.F_format_word.ok sc_format_word (fun vs H Q E h => ?_) (fun cdv A outer s H vs Q E hr h => ?_)
  · obtain ⟨j, m, rfl, _⟩ := h
    rfl
  · obtain ⟨j, m, rfl, hj, hm, q⟩ := h
    have hu := hu_of hr
    refine ⟨_, (pss_cons (ps_set (i := 2) sc_format_word.nd rfl (Or.inl rfl) (pe_op op_mul pe_int (pe_op op_add (pe_op op_mul pe_int (pe_ix (show IxR _ (rIxD K w) from ix_kdict) (pe_glob (v := .ref T.a_LEVEL_NUMBERS) (u := .ref T.a_LEVEL_NUMBERS) rfl T.m_LEVEL_NUMBERS rfl) (pv 0) (fun _ _ => rfl))) (pv 1))))
      (pss_one (ps_ret (pe_op op_xor (pe_op op_add (pv 2) (pe_call (ok_remainder T) (hr.mono (by decide)) (by rfl) T.g_remainder T.F_remainder.kp T.b_remainder .nil pass0 (pa_cons (pv 2) (pa_cons pe_int pa_nil)))) pe_int)))), ?_⟩
    show (_ : L2.TS) _ [some _, some _, none] H
    try simp only [Z.kx]
    have hl := ln_lt j hj
    obtain ⟨r, hr, e1, e2⟩ := fm_rem (v := 8 * lnN j + m) (by omega)
    wtm_at "r"
    refine kd_LEVEL T hj ?_
    wtm_at "r"
    refine ⟨1024 * (8 * lnN j + m), 1335, 40, r, by rw [show (1024 : Int) * (8 * (lnN j : Nat) + (m : Nat)) = ((1024 * (8 * lnN j + m) : Nat) : Int) by omega]; rfl, hr, by decide, by omega, ?_⟩
    wtm_at "r"
    rw [show (1024 : Int) * (8 * (lnN j : Nat) + (m : Nat)) + (r : Nat) = ((1024 * (8 * lnN j + m) + r : Nat) : Int) by omega, show (21522 : Int) = ((21522 : Nat) : Int) from rfl, nat_xor, e1]
    exact q
def sp_ways_to_formats (K : PySem.W.Frag) : Sp := fun vs H Q _ => ∃ (w : Nat), vs = [.int w] ∧ w < 32768 ∧ ∀ (p : Addr) (H1 : Hp) (xs : List V), Same H H1 → H p = none → H1 p = some (.lst xs) → WaysAt H1 xs w 32 → Q (.ref p) H1
set_option maxHeartbeats 2000000 in
theorem ok_ways_to_formats (T : Top K mg w) : FnOk P w K mg base CX0 3 T.a_ways_to_formats T.d_ways_to_formats pl_ways_to_formats (sp_ways_to_formats K) := by
  refine T.F_ways_to_formats.ok sc_ways_to_formats (fun vs H Q E h => ?_) (fun cdv A outer s H vs Q E hr h => ?_)
  · obtain ⟨w, rfl, _⟩ := h
    rfl
  · obtain ⟨w, rfl, hw, q⟩ := h
    have hu := hu_of hr
    refine ⟨_, (pss_one (ps_ret (pe_lc2 (own := [("level", 1), ("mask", 2)]) (vs1 := [2]) rfl sc_ways_to_formats.nd (Z.pi_q (pe_glob (v := .ref T.a_LEVEL_NUMBERS) (u := .ref T.a_LEVEL_NUMBERS) rfl T.m_LEVEL_NUMBERS rfl)) (blkOk_by (N := sl_ways_to_formats) (sc := defScope s_ways_to_formats) (by decide +kernel)) (by decide) (fun _ _ _ _ _ => (pg_name (i := 1) sc_ways_to_formats.nd rfl (Or.inl rfl))) (fun _ _ _ _ _ => pts_nil) (fun _ _ _ _ _ => (pi_range1 rfl T.n_range (pa_cons pe_int pa_nil))) (fun _ _ _ _ _ => (pg_name (i := 2) sc_ways_to_formats.nd rfl (Or.inl rfl))) (fun _ _ _ _ _ => pts_nil) (fun _ _ _ _ _ => (pe_tup (pa_cons (pe_call (ok_distance T) (hr.mono (by decide)) (by rfl) T.g_distance T.F_distance.kp T.b_distance .nil pass0 (pa_cons (pv 0) (pa_cons (pe_call (ok_format_word T) (hr.mono (by decide)) (by rfl) T.g_format_word T.F_format_word.kp T.b_format_word .nil pass0 (pa_cons (pv 1) (pa_cons (pv 2) pa_nil))) pa_nil))) (pa_cons (pv 1) (pa_cons (pv 2) pa_nil)))))))), ?_⟩
    show (_ : L2.TS) _ [some _, none, none] H
    try simp only [Z.kx]
    wtm_at "r"
    refine Z.r_lc2 T.q_LEVEL_NUMBERS (n := 8) (by decide) (fun k hk => hk) (fun σ2 H2 k hk => hk) (fun _ => rfl) (fun σ2 v => by show ((σ2.set 2 none).set 2 v).set 2 none = σ2.set 2 none; rw [List.set_set, List.set_set]) (fun D i j H2 => Same H H2 ∧ ∃ xs, H2 D = some (.lst xs) ∧ WaysAt H2 xs w (8 * i + j)) (fun D hD => ⟨Z.s_upd hD, [], L2.upd_same, rfl, fun i hi => absurd hi (Nat.not_lt_zero i)⟩) ?_ (fun D i H2 _ ⟨s, xs, a, b⟩ => ⟨s, xs, a, by rw [show 8 * (i + 1) + 0 = 8 * i + 8 by omega]; exact b⟩) (fun D H2 hD ⟨s, xs, a, b⟩ => q D H2 xs s hD a b)
    rintro D i j x H2 hD hx hj ⟨s2, xs, hxs, hlen, hat⟩
    have hi : i < 4 := (List.getElem?_eq_some_iff.mp hx).1
    have ex : x = .str (lvS i) := by
      rcases (by omega : i = 0 ∨ i = 1 ∨ i = 2 ∨ i = 3) with e | e | e | e <;> subst e <;> exact (Option.some.inj hx).symm
    subst ex
    have hl := ln_lt i hi
    have hfl := fm_lt (v := 8 * lnN i + j) (by omega)
    wtm_at "w"
    wtm_at "r"
    refine ⟨i, j, rfl, hi, hj, ?_⟩
    wtm_at "r"
    refine ⟨w, _, rfl, by omega, by omega, ?_⟩
    wtm_at "r"
    refine ⟨by show 3 ≤ sizeLine; decide, fun t ht => ?_⟩
    have s3 : Same H2 (upd H2 t (.tup [.int (farN w (fmN (8 * lnN i + j)) : Nat), .str (lvS i), .int (j : Nat)])) := Z.s_upd ht
    have ht3 : (upd H2 t (.tup [.int (farN w (fmN (8 * lnN i + j)) : Nat), .str (lvS i), .int (j : Nat)])) t = some (.tup [.int (farN w (fmN (8 * lnN i + j)) : Nat), .str (lvS i), .int (j : Nat)]) := L2.upd_same
    generalize upd H2 t (.tup [.int (farN w (fmN (8 * lnN i + j)) : Nat), .str (lvS i), .int (j : Nat)]) = H3 at s3 ht3
    refine ⟨xs, s3 _ _ hxs, Z.szl (by omega), Z.s_mut (s2.trans s3) hD, _, L2.upd_same, by rw [List.length_append, hlen]; rfl, fun k hk => ?_⟩
    by_cases hk2 : k < 8 * i + j
    · obtain ⟨t', a, b⟩ := hat k hk2
      refine ⟨t', by rw [List.getElem?_append_left (by omega)]; exact a, (L2.upd_ne (ne_of b hxs (by intro z; cases z))).trans (s3 _ _ b)⟩
    · have ek : k = 8 * i + j := by omega
      subst ek
      refine ⟨t, by rw [List.getElem?_append_right (by omega), hlen, Nat.sub_self]; rfl, (L2.upd_ne (fun z => by rw [z, hxs] at ht; cases ht)).trans ?_⟩
      rw [ht3]
      unfold wayK vIx
      rw [show (8 * i + j) / 8 = i by omega, show (8 * i + j) % 8 = j by omega]
def sp_nearest_format {K : PySem.W.Frag} {mg : Str → Option Value} {w : World} (T : Top K mg w) : Sp := fun vs H Q E => ∃ (a b : Nat), vs = [.int a, .int b] ∧ a < 32768 ∧ b < 32768 ∧ LamX.Tabs (lamT T.P_nearest_format) H ∧ (∀ i, NearF a b i → 3 < key2 a b i → ∀ H1 d, LamX.ExtN H H1 → LamX.Tabs (lamT T.P_nearest_format) H1 → H1 d = none → E (.ref T.a_InvalidFormat) (some d) (upd H1 d notFmt)) ∧ (∀ i, NearF a b i → ¬ 3 < key2 a b i → ∀ t H1, LamX.ExtN H H1 → LamX.Tabs (lamT T.P_nearest_format) H1 → H1 t = some (.tup [.str (lvS (i % 32 / 8)), .int ((i % 8 : Nat) : Int)]) → Q (.ref t) H1)
set_option maxHeartbeats 2000000 in
theorem ok_nearest_format (T : Top K mg w) (TB : LamX.TabB base mg T.c_nearest_format T.P_nearest_format) : FnOk P w K mg base (L2.CX P w) 4 T.a_nearest_format T.d_nearest_format pl_nearest_format (sp_nearest_format T) := by
  refine T.FC_nearest_format.okC sc_nearest_format (fun vs H Q E h => ?_) (fun A outer s H vs Q E hr h => ?_)
  · obtain ⟨a, b, rfl, _⟩ := h
    rfl
  · obtain ⟨a, b, rfl, ha, hb, hT, qe, qv⟩ := h
    have hu := hu_of hr
    refine ⟨_, (pss_cons (ps_set (i := 2) sc_nearest_format.nd rfl (Or.inl rfl) (pe_op op_cat (pe_call (ok_ways_to_formats T) (hr.mono (by decide)) (by rfl) T.g_ways_to_formats T.F_ways_to_formats.kp T.b_ways_to_formats .nil pass0 (pa_cons (pv 0) pa_nil)) (pe_call (ok_ways_to_formats T) (hr.mono (by decide)) (by rfl) T.g_ways_to_formats T.F_ways_to_formats.kp T.b_ways_to_formats .nil pass0 (pa_cons (pv 1) pa_nil))))
      (pss_cons (ps_asg (Z.pe_minK (T := lamT T.P_nearest_format) (k := 0) (by rfl) T.n_min TB rfl (List.mem_singleton.mpr rfl) (fun q hq _ => by rw [List.mem_singleton.mp hq]; rfl) rfl rfl rfl ⟨rfl, rfl, rfl, by decide +kernel, rfl, by decide +kernel, by decide +kernel⟩ (hr.mono (by decide)) rfl rfl (fun _ _ _ _ => rfl) (fun _ _ _ _ _ _ => (pe_ix (show IxR _ (rIxT K) from ix_tup) (pv 0) pe_int (fun _ _ => rfl))) (pa_cons (pv 2) pa_nil)) (pg_tup rfl (pgs_cons (pg_name (i := 3) sc_nearest_format.nd rfl (Or.inl rfl)) (pgs_cons (pg_name (i := 4) sc_nearest_format.nd rfl (Or.inl rfl)) (pgs_cons (pg_name (i := 5) sc_nearest_format.nd rfl (Or.inl rfl)) pgs_nil)))))
      (pss_cons (ps_if (pt_cmpR op_gt (pv 3) pe_int (nomark _)) (pss_one (ps_raise rfl (takes_of rfl rfl rfl rfl) (pmk_oex T.ox_InvalidFormat T.ic_InvalidFormat T.it_DotfieldError___init__ (ok_DotfieldError___init__ T) (hr.mono (by decide)) T.b_DotfieldError___init__ .nil pass0 (by rfl) T.g_InvalidFormat (pa_cons pe_int pa_nil)))) pss_nil)
      (pss_one (ps_ret (pe_tup (pa_cons (pv 4) (pa_cons (pv 5) pa_nil)))))))), ?_⟩
    show (_ : L2.TS) _ [some _, some _, none, none, none, none] H
    try simp only [Z.kx]
    wtm_at "e"
    refine ⟨a, rfl, ha, fun p1 H1 xs s1 n1 h1 w1 => ?_⟩
    wtm_at "e"
    refine ⟨b, rfl, hb, fun p2 H2 ys s2 n2 h2 w2 => ?_⟩
    refine Z.r_cat (s2 _ _ h1) h2 (by rw [w1.1, w2.1]; decide) (fun pw nw => ?_)
    have s3 : Same H2 (upd H2 pw (.lst (xs ++ ys))) := Z.s_upd nw
    have hw3 : (upd H2 pw (.lst (xs ++ ys))) pw = some (.lst (xs ++ ys)) := L2.upd_same
    generalize upd H2 pw (.lst (xs ++ ys)) = H3 at s3 hw3
    have t3 : Same H H3 := s1.trans (s2.trans s3)
    have lz : (xs ++ ys).length = 64 := by rw [List.length_append, w1.1, w2.1]
    have way : ∀ i, i < 64 → ∃ t : Addr, (xs ++ ys)[i]? = some (.ref t) ∧ H3 t = some (.tup [.int (key2 a b i), .str (lvS (i % 32 / 8)), .int ((i % 8 : Nat) : Int)]) := fun i hi => by
      by_cases c : i < 32
      · obtain ⟨t, e1, e2⟩ := w1.2 i c
        refine ⟨t, by rw [List.getElem?_append_left (by rw [w1.1]; exact c)]; exact e1, ?_⟩
        unfold key2
        rw [if_pos c, show i % 32 = i by omega]
        exact s3 _ _ (s2 _ _ e2)
      · obtain ⟨t, e1, e2⟩ := w2.2 (i - 32) (by omega)
        refine ⟨t, by rw [List.getElem?_append_right (by rw [w1.1]; omega), w1.1]; exact e1, ?_⟩
        unfold key2
        rw [if_neg c, show i % 32 = i - 32 by omega]
        rw [show i % 8 = (i - 32) % 8 by omega]
        exact s3 _ _ e2
    wtm_at "e"
    refine Z.r_minK ?_
    wtm_at "e"
    refine ⟨pw, xs ++ ys, key2 a b, rfl, Z.sq_l hw3, by omega, hT.ext t3, fun H4 ext i x hx k hk => ?_, fun H4 ext hT4 i x hx hmin => ?_⟩
    · have hi : i < 64 := by rw [← lz]; exact (List.getElem?_eq_some_iff.mp hx).1
      obtain ⟨t, e1, e2⟩ := way i hi
      rw [e1] at hx
      cases hx
      have e3 := ext _ _ e2 (fun ps z => by cases z)
      show tOp (rIxT K) (tVar 0) (tC (.int 0)) [some (.ref t)] H4 k
      wtm_at "r"
      refine Z.r_ixT (Z.sq_t e3) (v := .int (key2 a b i)) rfl ?_
      exact hk
    have hi : i < 64 := by rw [← lz]; exact (List.getElem?_eq_some_iff.mp hx).1
    obtain ⟨t, e1, e2⟩ := way i hi
    rw [e1] at hx
    cases hx
    rw [lz] at hmin
    have near : NearF a b i := ⟨hi, hmin⟩
    have e4 := ext _ _ e2 (fun ps z => by cases z)
    refine Z.r_three e4 rfl ?_
    have ext0 : LamX.ExtN H H4 := (LamX.ExtN.of t3).trans ext
    wtm_at "w"
    wtm_at "e"
    with_reducible refine Z.i_2 (fun h => ?_) (fun h => ?_)
    · wtm_at "e"
      try dsimp only
      refine Z.r_mkO ?_
      wtm_at "e"
      refine ⟨by show 1 ≤ 1000; decide, fun e he => ?_⟩
      refine ⟨e, T.a_InvalidFormat, _, rfl, "InvalidFormat", L2.upd_same, T.ox_InvalidFormat, T.ec_InvalidFormat, T.nm_InvalidFormat, T.no_InvalidFormat_place, T.no_InvalidFormat_name, fun d H9 hd hde g1 g2 g3 => ⟨rfl, d, _, g1, g2, (L2.upd_ne hde).symm.trans hd, ?_⟩⟩
      rw [Z.made_eq he g3]
      exact qe i near h H4 d ext0 hT4 ((L2.upd_ne hde).symm.trans hd)
    · wtm_at "e"
      refine ⟨by show 2 ≤ sizeLine; decide, fun u hu => ?_⟩
      exact qv i near h u _ (ext0.trans (LamX.ExtN.of (Z.s_upd hu))) (hT4.ext (Z.s_upd hu)) L2.upd_same
end
theorem pc_le : ∀ (k n : Nat), Z.pc k n ≤ k
  | 0, _ => Nat.le_refl 0
  | k + 1, n => by
    show n % 2 + Z.pc k (n / 2) ≤ k + 1
    have := pc_le k (n / 2)
    omega
theorem far_le (a b : Nat) : farN a b ≤ 20 := by rw [far_pc]; exact pc_le 20 _
theorem nm_lv : ∀ n, n < 4 → nmS n = lvS (lnN n) ∧ lnN (lnN n) = n ∧ lnN n < 4 := by decide +kernel
theorem nm_at : ∀ n, n < 4 → ([V.str "M", V.str "L", V.str "H", V.str "Q"] : List V)[n]? = some (V.str (nmS n))
  | 0, _ => rfl
  | 1, _ => rfl
  | 2, _ => rfl
  | 3, _ => rfl
theorem nm_ok : ∀ n : Nat, PyData.strOk (nmS n) = true
  | 0 => by decide +kernel
  | 1 => by decide +kernel
  | 2 => by decide +kernel
  | 3 => by decide +kernel
  | _ + 4 => by show PyData.strOk "" = true; decide +kernel
theorem lay_fm (n : Nat) (i : Int) : (PyData.tuple [.str (nmS n), .int i]).canLay0 = true := by
  simp only [PyData.canLay0, PyData.canLayAll0, nm_ok, Bool.and_self]
theorem shaped_fm (n : Nat) (i : Int) : SeqAt.shaped (.tuple [.str (nmS n), .int i]) = true := by
  have h2 : (PyData.tuple [.str (nmS n), .int i]).depth ≤ 64 := by
    show max 0 (max 0 0) + 1 ≤ 64; decide
  unfold SeqAt.shaped
  rw [lay_fm, decide_eq_true h2]; rfl
theorem r_neFm {K : PySem.W.Frag} {H : Hp} {Q : VK} {a b : Addr} {n : Nat} {i : Int} (ha : H a = some (.tup [.str (nmS n), .int i])) (hb : H b = some (.tup [.str (nmS n), .int i])) (q : Q (.bl false) H) : rNeD K (.ref a) (.ref b) H Q :=
  ⟨_, _, .tup (Z.sq_t ha) (.cons (.str _) (.cons (.int i) .nil)), .tup (Z.sq_t hb) (.cons (.str _) (.cons (.int i) .nil)), shaped_fm n i, shaped_fm n i, by rw [SeqAt.eqv_refl _ (lay_fm n i)]; exact q⟩
def fms : List Nat := (List.range 32).map fmN
theorem fms_len : fms.length = 32 := by unfold fms; simp
theorem fms_get {i : Nat} (h : i < 32) : fms.getD i 0 = fmN i := by
  unfold fms
  rw [List.getD_eq_getElem?_getD, List.getElem?_map, List.getElem?_range h]; rfl
theorem fms_take (i : Nat) (h : i ≤ 32) : fms.take i = (List.range i).map fmN := by
  unfold fms; rw [← List.map_take, List.take_range, Nat.min_eq_left h]
theorem fms_at {i c : Nat} (h : fms[i]? = some c) : i < 32 ∧ c = fmN i := by
  have hl := (List.getElem?_eq_some_iff.mp h).1
  rw [fms_len] at hl
  unfold fms at h
  rw [List.getElem?_map, List.getElem?_range hl] at h
  exact ⟨hl, (Option.some.inj h).symm⟩
theorem nv_app' (a b : List Nat) : nv (a ++ b) = nv a ++ nv b := List.map_append
theorem sq_script {K : PySem.W.Frag} {H H' : Hp} {a : Addr} {ns : List Int} (e : LamX.ExtN H H') (h : SqL K H a (ns.map V.int)) : SqL K H' a (ns.map V.int) := Z.ext_sl e h
section
variable {P : Program} {w : World} {K : PySem.W.Frag} {mg : Str → Option Value} {base : Heap}
def sp__law_draw (K : PySem.W.Frag) : Sp := fun vs H Q _ => ∃ (c m b : Int), vs = [.int c, .int m, .int b] ∧ 0 ≤ m ∧ m ≤ 1000 ∧ 0 < b ∧ b < 1073741824 ∧ ∀ (p : Addr) (ns : List Int) (H1 : Hp), Same H H1 → H p = none → H1 p = some (.lst (ns.map V.int)) → (ns.length : Int) = m → (∀ n ∈ ns, 0 ≤ n ∧ n < b) → Q (.ref p) H1
set_option maxHeartbeats 2000000 in
theorem ok__law_draw (T : Top K mg w) : FnOk P w K mg base CX0 1 T.a__law_draw T.d__law_draw pl__law_draw (sp__law_draw K) := by
  refine T.F__law_draw.ok sc__law_draw (fun vs H Q E h => ?_) (fun cdv A outer s H vs Q E hr h => ?_)
  · obtain ⟨c, m, b, rfl, _⟩ := h
    rfl
  · obtain ⟨c, m, b, rfl, m0, m1, b0, b1, q⟩ := h
    have hu := hu_of hr
    refine ⟨_, (pss_cons (ps_set (i := 3) sc__law_draw.nd rfl (Or.inl rfl) (pe_lst pa_nil))
      (pss_cons (ps_if (pt_cmpR op_ge (pv 0) (pe_op op_pow pe_int pe_int) (nomark _)) (pss_cons (ps_for PassesOwn.never rfl (pi_range1 rfl T.n_range (pa_cons (pv 1) pa_nil)) (pg_name (i := 4) sc__law_draw.nd rfl (Or.inl rfl)) (pss_cons (ps_expr (pe_bm PySem.F.plainAttrs_list PySem.F.slot_list_append PySem.F.type_list_append mt_append (pv 3) (pa_cons (pe_op op_mod (pe_callTy Z.call_int (by rfl) T.n_int (by decide +kernel) (pa_cons (pv 0) pa_nil)) (pv 2)) pa_nil)))
      (pss_one (ps_set (i := 0) sc__law_draw.nd rfl (Or.inl rfl) (pe_op op_fdiv (pv 0) (pv 2))))))
      (pss_one (ps_ret (pv 3)))) pss_nil)
      (pss_cons (ps_set (i := 5) sc__law_draw.nd rfl (Or.inl rfl) (pe_op op_mod (pe_callTy Z.call_int (by rfl) T.n_int (by decide +kernel) (pa_cons (pv 0) pa_nil)) pe_int))
      (pss_cons (ps_for PassesOwn.never rfl (pi_range1 rfl T.n_range (pa_cons (pv 1) pa_nil)) (pg_name (i := 4) sc__law_draw.nd rfl (Or.inl rfl)) (pss_cons (ps_set (i := 5) sc__law_draw.nd rfl (Or.inl rfl) (pe_op op_mod (pe_callTy Z.call_int (by rfl) T.n_int (by decide +kernel) (pa_cons (pe_op op_add (pe_op op_add (pe_op op_mul (pv 5) pe_int) pe_int) (pv 4)) pa_nil)) pe_int))
      (pss_cons (ps_set (i := 6) sc__law_draw.nd rfl (Or.inl rfl) (pe_op op_mod (pe_callTy Z.call_int (by rfl) T.n_int (by decide +kernel) (pa_cons (pe_op op_add (pe_op op_mul (pv 5) pe_int) (pe_op op_mul pe_int (pv 4))) pa_nil)) pe_int))
      (pss_one (ps_expr (pe_bm PySem.F.plainAttrs_list PySem.F.slot_list_append PySem.F.type_list_append mt_append (pv 3) (pa_cons (pe_op op_mod (pe_callTy Z.call_int (by rfl) T.n_int (by decide +kernel) (pa_cons (pe_op op_fdiv (pv 6) pe_int) pa_nil)) (pv 2)) pa_nil)))))))
      (pss_one (ps_ret (pv 3))))))), ?_⟩
    show (_ : L2.TS) _ [some _, some _, some _, none, none, none, none] H
    try simp only [Z.kx]
    wtm_at "r"
    refine ⟨Nat.zero_le _, fun p hp => ?_⟩
    wtm_at "r"
    
    with_reducible refine Z.i_2 (fun hx => ?_) (fun hx => ?_) <;> clear hx
    · -- the digits of a great cell
      wtm_at "r"
      refine Z.rng_go m.toNat rfl ⟨by omega, by omega⟩ (fun i σ H2 => ∃ (c : Int) (k : Option V) (ns : List Int), σ = [some (.int c), some (.int m), some (.int b), some (.ref p), k, none, none] ∧ Same H H2 ∧ H2 p = some (.lst (ns.map V.int)) ∧ ns.length = i ∧ (∀ n ∈ ns, 0 ≤ n ∧ n < b)) ?_ ?_ ?_
      · exact ⟨_, none, [], rfl, Z.s_upd hp, L2.upd_same, rfl, fun n hn => by cases hn⟩
      · rintro i σ H2 hi ⟨c, k, ns, rfl, sm, hl, el, hb⟩
        wtm_at "r"
        refine ⟨_, _, ns ++ [c % b], rfl, Z.s_mut sm hp, ?_, by simp [el], fun n hn => ?_⟩
        · rw [List.map_append]; exact L2.upd_same
        · rcases List.mem_append.mp hn with h | h
          · exact hb n h
          · rw [List.mem_singleton] at h; subst h; exact ⟨Int.emod_nonneg _ (by omega), Int.emod_lt_of_pos _ (by omega)⟩
      · rintro σ H2 ⟨c, k, ns, rfl, sm, hl, el, hb⟩
        wtm_at "r"
        exact q p ns H2 sm hp hl (by omega) hb
    · wtm_at "r"
      refine Z.rng_go m.toNat rfl ⟨by omega, by omega⟩ (fun i σ H2 => ∃ (s : Int) (k x : Option V) (ns : List Int), σ = [some (.int c), some (.int m), some (.int b), some (.ref p), k, some (.int s), x] ∧ Same H H2 ∧ H2 p = some (.lst (ns.map V.int)) ∧ ns.length = i ∧ (∀ n ∈ ns, 0 ≤ n ∧ n < b)) ?_ ?_ ?_
      · exact ⟨_, none, none, [], rfl, Z.s_upd hp, L2.upd_same, rfl, fun n hn => by cases hn⟩
      · rintro i σ H2 hi ⟨s, k, x, ns, rfl, sm, hl, el, hb⟩
        wtm_at "r"
        refine ⟨_, _, _, ns ++ [((s * 48271 + 12345 + (i : Nat)) % 2147483647 * 69621 + 977 * (i : Nat)) % 2147483629 / 3 % b], rfl, Z.s_mut sm hp, ?_, by simp [el], fun n hn => ?_⟩
        · rw [List.map_append]; exact L2.upd_same
        · rcases List.mem_append.mp hn with h | h
          · exact hb n h
          · rw [List.mem_singleton] at h; subst h; exact ⟨Int.emod_nonneg _ (by omega), Int.emod_lt_of_pos _ (by omega)⟩
      · rintro σ H2 ⟨s, k, x, ns, rfl, sm, hl, el, hb⟩
        wtm_at "r"
        exact q p ns H2 sm hp hl (by omega) hb
def sp__law_is_integer (K : PySem.W.Frag) : Sp := fun vs H Q _ => ∃ (i : Int), vs = [.int i] ∧ Q (.bl true) H
set_option maxHeartbeats 2000000 in
theorem ok__law_is_integer (T : Top K mg w) : FnOk P w K mg base CX0 1 T.a__law_is_integer T.d__law_is_integer pl__law_is_integer (sp__law_is_integer K) := by
  refine T.F__law_is_integer.ok sc__law_is_integer (fun vs H Q E h => ?_) (fun cdv A outer s H vs Q E hr h => ?_)
  · obtain ⟨i, rfl, _⟩ := h
    rfl
  · obtain ⟨i, rfl, q⟩ := h
    have hu := hu_of hr
    refine ⟨_, (pss_one (ps_ret (pe_and (pe_callB (show CallR _ _ (rIsi K) from call_isi) (by rfl) T.n_isinstance (by decide +kernel) (pa_cons (pv 0) (pa_cons (pe_bltn (v := .ty "int") (u := .type "int") (by rfl) T.n_int (by decide +kernel) rfl) pa_nil))) (pe_one (pe_not (pe_callB (show CallR _ _ (rIsi K) from call_isi) (by rfl) T.n_isinstance (by decide +kernel) (pa_cons (pv 0) (pa_cons (pe_bltn (v := .ty "bool") (u := .type "bool") (by rfl) T.n_bool (by decide +kernel) rfl) pa_nil)))))))), ?_⟩
    show (_ : L2.TS) _ [some _] H
    try simp only [Z.kx]
    wtm_at "r"
    refine Z.r_isi (b := true) (.ty "int") (.base (.int _)) (kit_ty (by decide +kernel)) ?_
    wtm_at "r"
    refine Z.r_isi (b := false) (.ty "bool") (.base (.int _)) (kit_ty (by decide +kernel)) ?_
    wtm_at "r"
    exact q
def sp__law_cell (K : PySem.W.Frag) : Sp := fun vs H Q _ => ∃ (a : Addr) (ns : List Int) (k : Nat), vs = [.ref a, .int k] ∧ SqL K H a (ns.map V.int) ∧ k < 100 ∧ ∀ z : Int, Q (.int z) H
set_option maxHeartbeats 2000000 in
theorem ok__law_cell (T : Top K mg w) : FnOk P w K mg base CX0 1 T.a__law_cell T.d__law_cell pl__law_cell (sp__law_cell K) := by
  refine T.F__law_cell.ok sc__law_cell (fun vs H Q E h => ?_) (fun cdv A outer s H vs Q E hr h => ?_)
  · obtain ⟨a, ns, k, rfl, _⟩ := h
    rfl
  · obtain ⟨a, ns, k, rfl, hS, hk, q⟩ := h
    have hu := hu_of hr
    refine ⟨_, (pss_cons (ps_if (pt_cmpR op_lt (pv 1) (pe_callB (show CallR _ _ (Z.cLen K) from Z.call_len) (by rfl) T.n_len (by decide +kernel) (pa_cons (pv 0) pa_nil)) (nomark _)) (pss_one (ps_ret (pe_ix (show IxR _ (rIxL K) from ix_list) (pv 0) (pv 1) (fun _ _ => rfl)))) pss_nil)
      (pss_one (ps_ret pe_int))), ?_⟩
    show (_ : L2.TS) _ [some _, some _] H
    try simp only [Z.kx]
    wtm_at "r"
    with_reducible refine Z.i_2 (fun h => ?_) (fun h => ?_)
    · rw [List.length_map] at h
      have h' : k < ns.length := by omega
      wtm_at "r"
      refine Z.r_ixL hS (Z.at_map rfl (List.getElem?_eq_getElem h')) ?_
      exact q _
    · wtm_at "r"
      exact q _
def sp__law_left (K : PySem.W.Frag) : Sp := fun vs H Q _ => ∃ (v d s m : Nat), vs = [.int v, .int d, .int s, .int m] ∧ v < 2 ^ 20 ∧ d < 2 ^ 20 ∧ s ≤ 20 ∧ m ≤ 20 ∧ Q (.int (leftN v d s m : Nat)) H
set_option maxHeartbeats 2000000 in
theorem ok__law_left (T : Top K mg w) : FnOk P w K mg base CX0 1 T.a__law_left T.d__law_left pl__law_left (sp__law_left K) := by
  refine T.F__law_left.ok sc__law_left (fun vs H Q E h => ?_) (fun cdv A outer s H vs Q E hr h => ?_)
  · obtain ⟨v, d, s, m, rfl, _⟩ := h
    rfl
  · obtain ⟨v, d, s, m, rfl, hv, hd, hs, hm, q⟩ := h
    have hu := hu_of hr
    refine ⟨_, (pss_cons (ps_set (i := 4) sc__law_left.nd rfl (Or.inl rfl) (pe_op op_shl (pv 0) (pv 3)))
      (pss_cons (ps_for PassesOwn.never rfl (pi_range1 rfl T.n_range (pa_cons (pv 2) pa_nil)) (pg_name (i := 5) sc__law_left.nd rfl (Or.inl rfl)) (pss_one (ps_if (pt_cmpR op_eq (pe_op op_and (pe_op op_shr (pv 4) (pe_op op_sub (pe_op op_sub (pe_op op_add (pv 2) (pv 3)) pe_int) (pv 5))) pe_int) pe_int (nomark _)) (pss_one (ps_set (i := 4) sc__law_left.nd rfl (Or.inl rfl) (pe_op op_xor (pv 4) (pe_op op_shl (pv 1) (pe_op op_sub (pe_op op_sub (pv 2) pe_int) (pv 5)))))) pss_nil)))
      (pss_one (ps_ret (pe_op op_add (pe_op op_shl (pv 0) (pv 3)) (pv 4)))))), ?_⟩
    show (_ : L2.TS) _ [some _, some _, some _, some _, none, none] H
    try simp only [Z.kx]
    wtm_at "r"
    rw [nat_shl]
    refine Z.rng_go s rfl ⟨by omega, by omega⟩ (fun k σ H2 => ∃ (x : Option V), σ = [some (.int v), some (.int d), some (.int s), some (.int m), some (.int (leftR v d s m k : Nat)), x] ∧ H2 = H) ⟨none, rfl, rfl⟩ ?_ ?_
    · rintro k σ H2 hk ⟨x, rfl, rfl⟩
      have e1 : (s : Int) + (m : Nat) - 1 - (k : Nat) = ((s + m - 1 - k : Nat) : Int) := by omega
      have e2 : (s : Int) - 1 - (k : Nat) = ((s - 1 - k : Nat) : Int) := by omega
      wtm_at "r"
      rw [e1, nat_shr, nat_and1]
      with_reducible refine Z.i_2 (fun h => ?_) (fun h => ?_)
      · wtm_at "r"
        rw [e2, nat_shl, nat_xor]
        have e : leftR v d s m (k + 1) = leftR v d s m k ^^^ (d <<< (s - 1 - k)) := by
          show (if _ then _ else _) = _
          rw [if_pos (by omega)]
        rw [← e]
        exact ⟨_, rfl, rfl⟩
      · wtm_at "r"
        have e : leftR v d s m (k + 1) = leftR v d s m k := by
          show (if _ then _ else _) = _
          rw [if_neg (by omega)]
        exact ⟨_, by rw [e], rfl⟩
    · rintro σ H2 ⟨x, rfl, rfl⟩
      wtm_at "r"
      rw [nat_shl, ← Int.natCast_add]
      exact q
def sp__law_form (K : PySem.W.Frag) : Sp := fun vs H Q _ => ∃ (v : Nat), vs = [.int v] ∧ v < 32 ∧ Q (.int (fmN v : Nat)) H
set_option maxHeartbeats 2000000 in
theorem ok__law_form (T : Top K mg w) : FnOk P w K mg base CX0 2 T.a__law_form T.d__law_form pl__law_form (sp__law_form K) := by
  refine T.F__law_form.ok sc__law_form (fun vs H Q E h => ?_) (fun cdv A outer s H vs Q E hr h => ?_)
  · obtain ⟨v, rfl, _⟩ := h
    rfl
  · obtain ⟨v, rfl, hv, q⟩ := h
    have hu := hu_of hr
    refine ⟨_, (pss_one (ps_ret (pe_op op_xor (pe_call (ok__law_left T) (hr.mono (by decide)) (by rfl) T.g__law_left T.F__law_left.kp T.b__law_left .nil pass0 (pa_cons (pv 0) (pa_cons pe_int (pa_cons pe_int (pa_cons pe_int pa_nil))))) pe_int))), ?_⟩
    show (_ : L2.TS) _ [some _] H
    try simp only [Z.kx]
    wtm_at "r"
    refine ⟨v, 1335, 5, 10, rfl, by omega, by decide, by decide, by decide, ?_⟩
    wtm_at "r"
    rw [show (21522 : Int) = ((21522 : Nat) : Int) from rfl, nat_xor]
    exact q
def sp__law_far (K : PySem.W.Frag) : Sp := fun vs H Q _ => ∃ (a b : Nat), vs = [.int a, .int b] ∧ Q (.int (farN a b : Nat)) H
set_option maxHeartbeats 2000000 in
theorem ok__law_far (T : Top K mg w) : FnOk P w K mg base CX0 1 T.a__law_far T.d__law_far pl__law_far (sp__law_far K) := by
  refine T.F__law_far.ok sc__law_far (fun vs H Q E h => ?_) (fun cdv A outer s H vs Q E hr h => ?_)
  · obtain ⟨a, b, rfl, _⟩ := h
    rfl
  · obtain ⟨a, b, rfl, q⟩ := h
    have hu := hu_of hr
    refine ⟨_, (pss_cons (ps_set (i := 2) sc__law_far.nd rfl (Or.inl rfl) (pe_op op_xor (pv 0) (pv 1)))
      (pss_cons (ps_set (i := 3) sc__law_far.nd rfl (Or.inl rfl) pe_int)
      (pss_cons (ps_for PassesOwn.never rfl (pi_range1 rfl T.n_range (pa_cons pe_int pa_nil)) (pg_name (i := 4) sc__law_far.nd rfl (Or.inl rfl)) (pss_one (ps_set (i := 3) sc__law_far.nd rfl (Or.inl rfl) (pe_op op_add (pv 3) (pe_op op_and (pe_op op_shr (pv 2) (pv 4)) pe_int)))))
      (pss_one (ps_ret (pv 3)))))), ?_⟩
    show (_ : L2.TS) _ [some _, some _, none, none, none] H
    try simp only [Z.kx]
    wtm_at "r"
    rw [nat_xor]
    refine Z.rng_go 20 rfl ⟨by omega, by omega⟩ (fun k σ H2 => ∃ (x : Option V), σ = [some (.int a), some (.int b), some (.int (a ^^^ b : Nat)), some (.int (Z.farK (a ^^^ b) k : Nat)), x] ∧ H2 = H) ⟨none, rfl, rfl⟩ ?_ ?_
    · rintro k σ H2 hk ⟨x, rfl, rfl⟩
      wtm_at "r"
      rw [nat_shr, nat_and1, ← Int.natCast_add]
      exact ⟨_, rfl, rfl⟩
    · rintro σ H2 ⟨x, rfl, rfl⟩
      wtm_at "r"
      exact q
def sp__law_words (K : PySem.W.Frag) : Sp := fun vs H Q _ => vs = [] ∧ ∀ (p : Addr) (H1 : Hp), Same H H1 → H p = none → H1 p = some (.lst (nv fms)) → Q (.ref p) H1
set_option maxHeartbeats 2000000 in
theorem ok__law_words (T : Top K mg w) : FnOk P w K mg base CX0 3 T.a__law_words T.d__law_words pl__law_words (sp__law_words K) := by
  refine T.F__law_words.ok sc__law_words (fun vs H Q E h => ?_) (fun cdv A outer s H vs Q E hr h => ?_)
  · obtain ⟨rfl, _⟩ := h
    rfl
  · obtain ⟨rfl, q⟩ := h
    have hu := hu_of hr
    refine ⟨_, (pss_cons (ps_set (i := 0) sc__law_words.nd rfl (Or.inl rfl) (pe_lst pa_nil))
      (pss_cons (ps_for PassesOwn.never rfl (pi_range1 rfl T.n_range (pa_cons pe_int pa_nil)) (pg_name (i := 1) sc__law_words.nd rfl (Or.inl rfl)) (pss_one (ps_expr (pe_bm PySem.F.plainAttrs_list PySem.F.slot_list_append PySem.F.type_list_append mt_append (pv 0) (pa_cons (pe_call (ok__law_form T) (hr.mono (by decide)) (by rfl) T.g__law_form T.F__law_form.kp T.b__law_form .nil pass0 (pa_cons (pv 1) pa_nil)) pa_nil)))))
      (pss_one (ps_ret (pv 0))))), ?_⟩
    show (_ : L2.TS) _ [none, none] H
    try simp only [Z.kx]
    wtm_at "r"
    refine ⟨by show 0 ≤ sizeLine; decide, fun p hp => ?_⟩
    wtm_at "r"
    refine Z.rng_go 32 rfl ⟨by omega, by omega⟩ (fun i σ H2 => ∃ (x : Option V), σ = [some (.ref p), x] ∧ Same H H2 ∧ H2 p = some (.lst (nv (fms.take i)))) ⟨_, rfl, Z.s_upd hp, by exact L2.upd_same⟩ ?_ ?_
    · rintro i σ H2 hi ⟨x, rfl, s2, hl⟩
      wtm_at "r"
      refine ⟨i, rfl, hi, ?_⟩
      refine Z.r_nil ?_
      refine Z.r_append hl (Z.szl (by rw [nv_len, List.length_take]; omega)) ?_
      refine ⟨_, rfl, Z.s_mut s2 hp, ?_⟩
      rw [L2.upd_same, fms_take (i + 1) (by omega), fms_take i (by omega), List.range_succ, List.map_append, nv_app']; rfl
    · rintro σ H2 ⟨x, rfl, s2, hl⟩
      rw [show fms.take 32 = fms from List.take_of_length_le (by rw [fms_len]; exact Nat.le_refl _)] at hl
      wtm_at "r"
      exact q p H2 s2 hp hl
def sp__law_level (K : PySem.W.Frag) : Sp := fun vs H Q _ => ∃ (v : Nat), vs = [.int v] ∧ v < 32 ∧ ∀ H1, Same H H1 → Q (.str (nmS (v / 8))) H1
set_option maxHeartbeats 2000000 in
theorem ok__law_level (T : Top K mg w) : FnOk P w K mg base CX0 1 T.a__law_level T.d__law_level pl__law_level (sp__law_level K) := by
  refine T.F__law_level.ok sc__law_level (fun vs H Q E h => ?_) (fun cdv A outer s H vs Q E hr h => ?_)
  · obtain ⟨v, rfl, _⟩ := h
    rfl
  · obtain ⟨v, rfl, hv, q⟩ := h
    have hu := hu_of hr
    refine ⟨_, (pss_one (ps_ret (pe_ix (show IxR _ (rIxL K) from ix_list) (pe_lst (pa_cons pe_str (pa_cons pe_str (pa_cons pe_str (pa_cons pe_str pa_nil))))) (pe_op op_fdiv (pv 0) pe_int) (fun _ _ => rfl)))), ?_⟩
    show (_ : L2.TS) _ [some _] H
    try simp only [Z.kx]
    wtm_at "r"
    refine ⟨by show 4 ≤ sizeLine; decide, fun p np => ?_⟩
    wtm_at "r"
    refine Z.r_ixL (Z.sq_l L2.upd_same) (v := V.str (nmS (v / 8))) (by rw [show (v : Int) / 8 = ((v / 8 : Nat) : Int) by omega]; exact atI_nat (nm_at (v / 8) (by omega))) ?_
    wtm_at "r"
    exact q _ (Z.s_upd np)
def sp__law_strange (K : PySem.W.Frag) : Sp := fun vs H Q _ => ∃ (c : Int) (a : Addr), vs = [.int c, .ref a] ∧ SqL K H a (nv fms) ∧ (∀ H1, Same H H1 → Q .non H1) ∧ (∀ (v : Nat) H1, Same H H1 → v < 32768 → (∀ i, i < 32 → 3 < farN v (fmN i)) → Q (.int v) H1)
set_option maxHeartbeats 2000000 in
theorem ok__law_strange (T : Top K mg w) : FnOk P w K mg base CX0 2 T.a__law_strange T.d__law_strange pl__law_strange (sp__law_strange K) := by
  refine T.F__law_strange.ok sc__law_strange (fun vs H Q E h => ?_) (fun cdv A outer s H vs Q E hr h => ?_)
  · obtain ⟨c, a, rfl, _⟩ := h
    rfl
  · obtain ⟨c, a, rfl, hw, qn, qv⟩ := h
    have hu := hu_of hr
    refine ⟨_, (pss_cons (ps_for PassesOwn.never rfl (pi_range1 rfl T.n_range (pa_cons pe_int pa_nil)) (pg_name (i := 2) sc__law_strange.nd rfl (Or.inl rfl)) (pss_cons (ps_set (i := 3) sc__law_strange.nd rfl (Or.inr rfl) (pe_op op_mod (pe_callTy Z.call_int (by rfl) T.n_int (by decide +kernel) (pa_cons (pe_op op_add (pv 0) (pe_op op_mul (pe_op op_mul pe_int (pv 2)) (pv 2))) pa_nil)) pe_int))
      (pss_one (ps_if (pt_cmpR op_gt (pe_callB (show CallR _ _ (rMin K) from cr_min rfl) (by rfl) T.n_min (by decide +kernel) (pa_cons (pe_lc (own := [("word", 4)]) (tt := tYes) rfl sc__law_strange.nd (pi_list (pv 1)) (blkOk_by (N := sl__law_strange) (sc := defScope s__law_strange) (by decide +kernel)) (fun _ _ _ _ _ => (pg_name (i := 4) sc__law_strange.nd rfl (Or.inl rfl))) (fun _ _ _ _ _ => pts_nil) (fun _ _ _ _ _ => (pe_call (ok__law_far T) (hr.mono (by decide)) (by rfl) T.g__law_far T.F__law_far.kp T.b__law_far .nil pass0 (pa_cons (pv 3) (pa_cons (pv 4) pa_nil))))) pa_nil)) pe_int (nomark _)) (pss_one (ps_ret (pv 3))) pss_nil))))
      (pss_one (ps_ret pe_non))), ?_⟩
    show (_ : L2.TS) _ [some _, some _, none, none, none] H
    try simp only [Z.kx]
    wtm_at "r"
    refine Z.rng_go 60 rfl ⟨by omega, by omega⟩ (fun k σ H2 => ∃ (x y z : Option V), σ = [some (.int c), some (.ref a), x, y, z] ∧ Same H H2) ⟨_, _, _, rfl, Same.refl _⟩ ?_ ?_
    · rintro k σ H2 hk ⟨x, y, z, rfl, s2⟩
      wtm_at "r"
      obtain ⟨v, ev, hv⟩ : ∃ v : Nat, (c + 77 * (k : Int) * (k : Int)) % 32768 = (v : Int) ∧ v < 32768 := ⟨((c + 77 * (k : Int) * (k : Int)) % 32768).toNat, by omega, by omega⟩
      rw [ev]
      refine Z.lcl_idx (fun i => V.int (farN v (fmN i) : Nat)) (Z.s_sq s2 hw) (by rw [nv_len, fms_len]; decide) (fun _ => rfl) ?_ ?_
      · intro i w H3 hi s3 kq kk
        obtain ⟨b, hb, rfl⟩ := nv_get hi
        obtain ⟨hi2, rfl⟩ := fms_at hb
        wtm_at "w"
        wtm_at "r"
        exact ⟨v, _, rfl, kk _ (Same.refl _)⟩
      intro D H3 hD s3 hl
      rw [nv_len, fms_len] at hl
      wtm_at "r"
      refine ⟨D, (List.range 32).map (fun i => ((farN v (fmN i) : Nat) : Int)), rfl, by rw [List.map_map]; exact Z.sq_l hl, by simp, fun m hm hle => ?_⟩
      wtm_at "r"
      with_reducible refine Z.i_2 (fun h => ?_) (fun h => ?_)
      · wtm_at "r"
        refine qv v H3 (s2.trans s3) hv fun i hi => ?_
        have := hle _ (List.mem_map.mpr ⟨i, List.mem_range.mpr hi, rfl⟩)
        omega
      · wtm_at "r"
        exact ⟨_, _, _, rfl, s2.trans s3⟩
    · rintro σ H2 ⟨x, y, z, rfl, s2⟩
      wtm_at "r"
      exact qn H2 s2
def sp_law {K : PySem.W.Frag} {mg : Str → Option Value} {w : World} (T : Top K mg w) : Sp := fun vs H Q _ => ∃ (a : Addr) (ns : List Int), vs = [.ref a] ∧ SqL K H a (ns.map V.int) ∧ ns.length ≤ 63 ∧ LamX.Tabs (lamT T.P_nearest_format) H ∧ ∀ H1, Q (.bl true) H1
set_option maxHeartbeats 2000000 in
theorem ok_law (T : Top K mg w) (TB : LamX.TabB base mg T.c_nearest_format T.P_nearest_format) : FnOk P w K mg base CX0 5 T.a_law T.d_law pl_law (sp_law T) := by
  refine T.F_law.ok sc_law (fun vs H Q E h => ?_) (fun cdv A outer s H vs Q E hr h => ?_)
  · obtain ⟨a, ns, rfl, _⟩ := h
    rfl
  · obtain ⟨a, ns, rfl, hS, hn, hT, q⟩ := h
    have hu := hu_of hr
    refine ⟨_, (pss_cons (ps_set (i := 1) sc_law.nd rfl (Or.inl rfl) (pe_call0 (ok__law_words T) (hr.mono (by decide)) (by rfl) T.g__law_words T.F__law_words.kp T.b__law_words .nil pass0))
      (pss_cons (ps_for PassesOwn.never rfl (pi_range1 rfl T.n_range (pa_cons pe_int pa_nil)) (pg_name (i := 2) sc_law.nd rfl (Or.inl rfl)) (pss_cons (ps_set (i := 3) sc_law.nd rfl (Or.inl rfl) (pe_call (ok_format_word T) (hr.mono (by decide)) (by rfl) T.g_format_word T.F_format_word.kp T.b_format_word .nil pass0 (pa_cons (pe_call (ok__law_level T) (hr.mono (by decide)) (by rfl) T.g__law_level T.F__law_level.kp T.b__law_level .nil pass0 (pa_cons (pv 2) pa_nil)) (pa_cons (pe_op op_mod (pe_callTy Z.call_int (by rfl) T.n_int (by decide +kernel) (pa_cons (pv 2) pa_nil)) pe_int) pa_nil))))
      (pss_cons (ps_if (PW.pt (pw_or (pt_not (pt_val (pe_call (ok__law_is_integer T) (hr.mono (by decide)) (by rfl) T.g__law_is_integer T.F__law_is_integer.kp T.b__law_is_integer .nil pass0 (pa_cons (pv 3) pa_nil)))) (pw_or1 (pt_cmpR op_ne (pv 3) (pe_ix (show IxR _ (rIxL K) from ix_list) (pv 1) (pv 2) (fun _ _ => rfl)) (nomark _))))) (pss_one (ps_ret pe_bl)) pss_nil)
      (pss_one (ps_for PassesOwn.never rfl (pi_list (pe_slice (show SlR _ (rSlL K) from sl_list) (pv 1) po_none (po_some (pv 2)))) (pg_name (i := 4) sc_law.nd rfl (Or.inl rfl)) (pss_one (ps_if (pt_cmpR op_lt (pe_call (ok__law_far T) (hr.mono (by decide)) (by rfl) T.g__law_far T.F__law_far.kp T.b__law_far .nil pass0 (pa_cons (pv 3) (pa_cons (pv 4) pa_nil))) pe_int (nomark _)) (pss_one (ps_ret pe_bl)) pss_nil)))))))
      (pss_cons (ps_set (i := 5) sc_law.nd rfl (Or.inl rfl) (pe_call (ok__law_draw T) (hr.mono (by decide)) (by rfl) T.g__law_draw T.F__law_draw.kp T.b__law_draw .nil pass0 (pa_cons (pe_call (ok__law_cell T) (hr.mono (by decide)) (by rfl) T.g__law_cell T.F__law_cell.kp T.b__law_cell .nil pass0 (pa_cons (pv 0) (pa_cons pe_int pa_nil))) (pa_cons pe_int (pa_cons (pe_op op_shl pe_int pe_int) pa_nil)))))
      (pss_cons (ps_set (i := 6) sc_law.nd rfl (Or.inl rfl) (pe_call (ok_distance T) (hr.mono (by decide)) (by rfl) T.g_distance T.F_distance.kp T.b_distance .nil pass0 (pa_cons (pe_ix (show IxR _ (rIxL K) from ix_list) (pv 5) pe_int (fun _ _ => rfl)) (pa_cons (pe_ix (show IxR _ (rIxL K) from ix_list) (pv 5) pe_int (fun _ _ => rfl)) pa_nil))))
      (pss_cons (ps_if (PW.pt (pw_or (pt_not (pt_val (pe_call (ok__law_is_integer T) (hr.mono (by decide)) (by rfl) T.g__law_is_integer T.F__law_is_integer.kp T.b__law_is_integer .nil pass0 (pa_cons (pv 6) pa_nil)))) (pw_or (pt_cmpR op_ne (pv 6) (pe_call (ok__law_far T) (hr.mono (by decide)) (by rfl) T.g__law_far T.F__law_far.kp T.b__law_far .nil pass0 (pa_cons (pe_ix (show IxR _ (rIxL K) from ix_list) (pv 5) pe_int (fun _ _ => rfl)) (pa_cons (pe_ix (show IxR _ (rIxL K) from ix_list) (pv 5) pe_int (fun _ _ => rfl)) pa_nil))) (nomark _)) (pw_or1 (pt_cmpR op_ne (pe_call (ok_distance T) (hr.mono (by decide)) (by rfl) T.g_distance T.F_distance.kp T.b_distance .nil pass0 (pa_cons (pv 6) (pa_cons (pv 6) pa_nil))) pe_int (nomark _)))))) (pss_one (ps_ret pe_bl)) pss_nil)
      (pss_cons (ps_set (i := 7) sc_law.nd rfl (Or.inl rfl) (pe_call (ok__law_strange T) (hr.mono (by decide)) (by rfl) T.g__law_strange T.F__law_strange.kp T.b__law_strange .nil pass0 (pa_cons (pe_call (ok__law_cell T) (hr.mono (by decide)) (by rfl) T.g__law_cell T.F__law_cell.kp T.b__law_cell .nil pass0 (pa_cons (pv 0) (pa_cons pe_int pa_nil))) (pa_cons (pv 1) pa_nil))))
      (pss_cons (ps_if (pt_cmpR Z.op_isN (pv 7) pe_non (nomark _)) (pss_one (ps_ret pe_bl)) pss_nil)
      (pss_cons (ps_for PassesOwn.never rfl (pi_list (pe_op op_cat (pe_slice (show SlR _ (rSlL K) from sl_list) (pv 0) (po_some pe_int) (po_some pe_int)) (pe_lst (pa_cons pe_int pa_nil)))) (pg_name (i := 8) sc_law.nd rfl (Or.inl rfl)) (pss_cons (ps_set (i := 2) sc_law.nd rfl (Or.inl rfl) (pe_op op_mod (pe_callTy Z.call_int (by rfl) T.n_int (by decide +kernel) (pa_cons (pv 8) pa_nil)) pe_int))
      (pss_cons (ps_set (i := 9) sc_law.nd rfl (Or.inl rfl) (pe_ix (show IxR _ (rIxL K) from ix_list) (pv 1) (pv 2) (fun _ _ => rfl)))
      (pss_cons (ps_for PassesOwn.never rfl (pi_range1 rfl T.n_range (pa_cons (pe_op op_mod (pe_op op_fdiv (pe_callTy Z.call_int (by rfl) T.n_int (by decide +kernel) (pa_cons (pv 8) pa_nil)) pe_int) pe_int) pa_nil)) (pg_name (i := 10) sc_law.nd rfl (Or.inl rfl)) (pss_one (ps_set (i := 9) sc_law.nd rfl (Or.inl rfl) (pe_op op_xor (pv 9) (pe_op op_shl pe_int (pe_op op_mod (pe_op op_fdiv (pe_callTy Z.call_int (by rfl) T.n_int (by decide +kernel) (pa_cons (pv 8) pa_nil)) (pe_ix (show IxR _ (rIxL K) from ix_list) (pe_lst (pa_cons pe_int (pa_cons pe_int (pa_cons pe_int pa_nil)))) (pv 10) (fun _ _ => rfl))) pe_int))))))
      (pss_cons (ps_set (i := 11) sc_law.nd rfl (Or.inl rfl) (pe_tup (pa_cons (pe_call (ok__law_level T) (hr.mono (by decide)) (by rfl) T.g__law_level T.F__law_level.kp T.b__law_level .nil pass0 (pa_cons (pv 2) pa_nil)) (pa_cons (pe_op op_mod (pv 2) pe_int) pa_nil))))
      (C8.pss_cut (ps_if (PW.pt (pw_and (pt_cmpR op_le (pe_call (ok__law_far T) (hr.mono (by decide)) (by rfl) T.g__law_far T.F__law_far.kp T.b__law_far .nil pass0 (pa_cons (pv 9) (pa_cons (pe_ix (show IxR _ (rIxL K) from ix_list) (pv 1) (pv 2) (fun _ _ => rfl)) pa_nil))) pe_int (nomark _)) (pw_and1 (pt_cmpR (op_neD (hr.units)) (pe_callS (ok_nearest_format T TB) (hr.mono (by decide)) (by rfl) T.g_nearest_format T.F_nearest_format.kp T.b_nearest_format (fun σ => passAt takes0 σ) (pa_cons (pv 9) (pa_cons (pv 7) pa_nil))) (pv 11) (nomark _))))) (pss_one (ps_ret pe_bl)) pss_nil)
      (pss_one (ps_if (PW.pt (pw_and (pt_cmpR op_le (pe_call (ok__law_far T) (hr.mono (by decide)) (by rfl) T.g__law_far T.F__law_far.kp T.b__law_far .nil pass0 (pa_cons (pv 9) (pa_cons (pe_ix (show IxR _ (rIxL K) from ix_list) (pv 1) (pv 2) (fun _ _ => rfl)) pa_nil))) pe_int (nomark _)) (pw_and1 (pt_cmpR (op_neD (hr.units)) (pe_callS (ok_nearest_format T TB) (hr.mono (by decide)) (by rfl) T.g_nearest_format T.F_nearest_format.kp T.b_nearest_format (fun σ => passAt takes0 σ) (pa_cons (pv 7) (pa_cons (pv 9) pa_nil))) (pv 11) (nomark _))))) (pss_one (ps_ret pe_bl)) pss_nil))))))))
      (pss_one (ps_ret pe_bl)))))))))), ?_⟩
    show (_ : L2.TS) _ [some _, none, none, none, none, none, none, none, none, none, none, none] H
    try simp only [Z.kx]
    wtm_at "r"
    refine ⟨rfl, fun p H1 s1 n1 h1 => ?_⟩
    wtm_at "r"
    refine Z.rng_go 32 rfl ⟨by omega, by omega⟩ (fun i σ H2 => ∃ (x2 x3 x4 : Option V), σ = [some (.ref a), some (.ref p), x2, x3, x4, none, none, none, none, none, none, none] ∧ Same H1 H2) ⟨_, _, _, rfl, Same.refl _⟩ ?_ ?_
    · rintro v σ H2 hv ⟨x2, x3, x4, rfl, s2⟩
      obtain ⟨e1, e2, e3⟩ := nm_lv (v / 8) (by omega)
      have hp2 := s2 _ _ h1
      wtm_at "r"
      refine ⟨v, rfl, hv, fun H3 s3 => ?_⟩
      wtm_at "r"
      refine ⟨lnN (v / 8), v % 8, by rw [e1, show (v : Int) % 8 = ((v % 8 : Nat) : Int) by omega]; rfl, e3, by omega, ?_⟩
      rw [e2, show 8 * (v / 8) + v % 8 = v by omega]
      have hp3 := s3 _ _ hp2
      wtm_at "r"
      refine ⟨_, rfl, ?_⟩
      wtm_at "r"
      refine Z.r_ixL (Z.sq_l hp3) (nv_at (j := v) rfl (by rw [fms_len]; exact hv)) ?_
      rw [fms_get hv]
      wtm_at "r"
      with_reducible refine Z.i_df (not_not_intro rfl) ?_
      wtm_at "r"
      refine Z.r_slL (Z.sq_l hp3) (fun pc nc => ?_)
      rw [Z.cut_to, show (nv fms).take v = nv (fms.take v) from List.map_take.symm]
      have s4 : Same H3 (upd H3 pc (.lst (nv (fms.take v)))) := Z.s_upd nc
      have hc4 : (upd H3 pc (.lst (nv (fms.take v)))) pc = some (.lst (nv (fms.take v))) := L2.upd_same
      generalize upd H3 pc (.lst (nv (fms.take v))) = H4 at s4 hc4
      refine Z.lst_go (Z.sq_l hc4) (fun j σ H5 => ∃ (x4 : Option V), σ = [some (.ref a), some (.ref p), some (.int v), some (.int (fmN v : Nat)), x4, none, none, none, none, none, none, none] ∧ H5 = H4) ⟨_, rfl, rfl⟩ (fun j σ H5 _ ⟨_, _, e⟩ => by subst e; exact Z.sq_l hc4) ?_ ?_
      · rintro j y σ H5 hj ⟨x4, rfl, rfl⟩
        obtain ⟨c, hc, rfl⟩ := nv_get hj
        have hji : j < v := by
          have := (List.getElem?_eq_some_iff.mp hc).1
          rw [List.length_take] at this; omega
        have ec : c = fmN j := by
          rw [fms_take v (by omega), List.getElem?_map, List.getElem?_range hji] at hc
          exact (Option.some.inj hc).symm
        subst ec
        have d := fm_dist hv hji
        wtm_at "r"
        refine ⟨_, _, rfl, ?_⟩
        wtm_at "r"
        with_reducible refine Z.i_df (by omega) ?_
        wtm_at "r"
        exact ⟨_, rfl, rfl⟩
      · rintro σ H5 ⟨x4, rfl, rfl⟩
        wtm_at "r"
        exact ⟨_, _, _, rfl, s2.trans (s3.trans s4)⟩
    rintro σ H2 ⟨x2, x3, x4, rfl, s2⟩
    have hp2 := s2 _ _ h1
    have t2 := s1.trans s2
    wtm_at "r"
    refine ⟨a, ns, 0, rfl, Z.s_sq t2 hS, by decide, fun z0 => ?_⟩
    wtm_at "r"
    rw [show (1 : Int) * 2 ^ Int.toNat 20 = 1048576 by decide]
    refine ⟨_, _, _, rfl, by decide, by decide, by decide, by decide, fun ps ms H3 s3 hps hm el hb => ?_⟩
    obtain ⟨m0, m1, rfl⟩ := Z.len2 (ns := ms) (by omega)
    have hb0 := hb m0 (by simp)
    have hb1 := hb m1 (by simp)
    obtain ⟨k0, rfl⟩ : ∃ k : Nat, m0 = (k : Int) := ⟨m0.toNat, by omega⟩
    obtain ⟨k1, rfl⟩ : ∃ k : Nat, m1 = (k : Int) := ⟨m1.toNat, by omega⟩
    wtm_at "r"
    refine Z.r_ixL (Z.sq_l hm) (v := .int k0) rfl ?_
    wtm_at "r"
    refine Z.r_ixL (Z.sq_l hm) (v := .int k1) rfl ?_
    wtm_at "r"
    refine ⟨k0, k1, rfl, by omega, by omega, ?_⟩
    wtm_at "r"
    refine ⟨_, rfl, ?_⟩
    wtm_at "r"
    refine Z.r_ixL (Z.sq_l hm) (v := .int k0) rfl ?_
    wtm_at "r"
    refine Z.r_ixL (Z.sq_l hm) (v := .int k1) rfl ?_
    wtm_at "r"
    refine ⟨k0, k1, rfl, ?_⟩
    wtm_at "r"
    with_reducible refine Z.i_df (not_not_intro rfl) ?_
    wtm_at "r"
    have hfl := far_le k0 k1
    refine ⟨_, _, rfl, by omega, by omega, ?_⟩
    rw [far_self]
    wtm_at "r"
    with_reducible refine Z.i_df (not_not_intro rfl) ?_
    wtm_at "r"
    refine ⟨a, ns, 1, rfl, Z.s_sq (t2.trans s3) hS, by decide, fun z1 => ?_⟩
    wtm_at "r"
    refine ⟨z1, p, rfl, Z.sq_l (s3 _ _ hp2), fun H4 s4 => ?_, fun st H4 s4 hst0 hst => ?_⟩
    · wtm_at "r"
      refine Z.r_isN ?_
      wtm_at "r"
      with_reducible refine Z.i_dt rfl ?_
      wtm_at "r"
      exact q _
    have t4 := t2.trans (s3.trans s4)
    have hp4 := s4 _ _ (s3 _ _ hp2)
    wtm_at "r"
    refine Z.r_isN ?_
    wtm_at "r"
    with_reducible refine Z.i_df (fun z => nomatch z) ?_
    wtm_at "r"
    refine Z.r_slL (Z.s_sq t4 hS) (fun pc nc => ?_)
    obtain ⟨cs, ecs, lcs⟩ : ∃ cs : List Int, cutV (ns.map V.int) (some 2) (some 8) = cs.map V.int ∧ cs.length ≤ 63 := by
      rw [show (2 : Int) = ((2 : Nat) : Int) from rfl, show (8 : Int) = ((8 : Nat) : Int) from rfl, Z.cut_mid (by decide)]
      exact ⟨(ns.drop 2).take 6, by rw [List.map_take, List.map_drop], by rw [List.length_take, List.length_drop]; omega⟩
    rw [ecs]
    wtm_at "r"
    refine ⟨by show 1 ≤ sizeLine; decide, fun p1 np1 => ?_⟩
    have s5 : Same H4 (upd (upd H4 pc (.lst (cs.map V.int))) p1 (.lst [V.int 0])) := (Z.s_upd nc).trans (Z.s_upd np1)
    refine Z.r_cat (xs := cs.map V.int) (zs := [V.int 0]) ((L2.upd_ne (fun z => by rw [← z] at np1; rw [L2.upd_same] at np1; cases np1)).trans L2.upd_same) L2.upd_same (by rw [List.length_map]; show _ + 1 ≤ 100000; omega) (fun pl nl => ?_)
    have ecs2 : cs.map V.int ++ [V.int 0] = (cs ++ [0]).map V.int := by rw [List.map_append]; rfl
    rw [ecs2]
    have s6 := s5.trans (Z.s_upd (o := .lst ((cs ++ [0]).map V.int)) nl)
    have hl6 : (upd (upd (upd H4 pc (.lst (cs.map V.int))) p1 (.lst [V.int 0])) pl (.lst ((cs ++ [0]).map V.int))) pl = some (.lst ((cs ++ [0]).map V.int)) := L2.upd_same
    generalize upd (upd (upd H4 pc (.lst (cs.map V.int))) p1 (.lst [V.int 0])) pl (.lst ((cs ++ [0]).map V.int)) = H6 at s6 hl6
    have hT6 := hT.ext (t4.trans s6)
    have hp6 := s6 _ _ hp4
    refine Z.lst_go (Z.sq_l hl6) (fun i σ H7 => ∃ (x2 x3 x4 x8 x9 x10 x11 x12 : Option V), σ = [some (.ref a), some (.ref p), x2, x3, x4, some (.ref ps), some (.int (farN k0 k1 : Nat)), some (.int st), x8, x9, x10, x11] ∧ LamX.ExtN H6 H7 ∧ LamX.Tabs (lamT T.P_nearest_format) H7) ⟨_, _, _, _, _, _, _, none, rfl, LamX.ExtN.refl _, hT6⟩ (fun i σ H7 _ ⟨_, _, _, _, _, _, _, _, _, e7, _⟩ => Z.sq_l (e7 _ _ hl6 (fun ps z => by cases z))) ?_ ?_
    · rintro i y σ H7 hi ⟨x2, x3, x4, x8, x9, x10, x11, x12, rfl, e7, hT7⟩
      obtain ⟨c, _, rfl⟩ := Z.get_map hi
      have hp7 := e7 _ _ hp6 (fun ps z => by cases z)
      obtain ⟨v, ev, hv⟩ : ∃ v : Nat, c % 32 = (v : Int) ∧ v < 32 := ⟨(c % 32).toNat, by omega, by omega⟩
      wtm_at "r"
      rw [ev]
      refine Z.r_ixL (Z.sq_l hp7) (nv_at (j := v) rfl (by rw [fms_len]; exact hv)) ?_
      rw [fms_get hv]
      have fl := fm_lt hv
      wtm_at "r"
      refine Z.rng_go (c / 32 % 4).toNat rfl ⟨by omega, by omega⟩ (fun k σ H8 => ∃ (w : Nat) (x10 : Option V), σ = [some (.ref a), some (.ref p), some (.int v), x3, x4, some (.ref ps), some (.int (farN k0 k1 : Nat)), some (.int st), some (.int c), some (.int w), x10, x11] ∧ Same H7 H8 ∧ w < 32768) ⟨fmN v, _, rfl, Same.refl _, fl⟩ ?_ ?_
      · rintro k σ H8 hk ⟨w, x10, rfl, s8, hw⟩
        wtm_at "r"
        refine ⟨by show 3 ≤ sizeLine; decide, fun pt nt => ?_⟩
        have s9 : Same H8 (upd H8 pt (.lst [V.int 128, V.int 1920, V.int 28800])) := Z.s_upd nt
        have ht9 : (upd H8 pt (.lst [V.int 128, V.int 1920, V.int 28800])) pt = some (.lst ([128, 1920, 28800].map V.int)) := L2.upd_same
        generalize upd H8 pt (.lst [V.int 128, V.int 1920, V.int 28800]) = H9 at s9 ht9
        obtain ⟨d, hd, d1, d2⟩ : ∃ d : Int, ([128, 1920, 28800] : List Int)[k]? = some d ∧ 0 < d ∧ d < 30000 := by
          rcases (by omega : k = 0 ∨ k = 1 ∨ k = 2) with e | e | e <;> subst e <;> exact ⟨_, rfl, by decide, by decide⟩
        wtm_at "r"
        refine Z.r_ixL (Z.sq_l ht9) (Z.at_map (j := k) rfl hd) ?_
        refine Z.r_I (Z.c_div (by omega) (by omega)) ?_
        wtm_at "r"
        obtain ⟨u, eu, hu'⟩ : ∃ u : Nat, c / d % 15 = (u : Int) ∧ u < 15 := ⟨(c / d % 15).toNat, by omega, by omega⟩
        rw [eu]
        wtm_at "r"
        rw [show (1 : Int) = ((1 : Nat) : Int) from rfl, nat_shl, nat_xor]
        refine ⟨_, _, rfl, s8.trans s9, Nat.xor_lt_two_pow (n := 15) hw ?_⟩
        rw [Nat.shiftLeft_eq, Nat.one_mul]
        exact Nat.pow_lt_pow_right (by decide) hu'
      rintro σ H8 ⟨w, y10, rfl, s8, hw⟩
      have hT8 := hT7.ext s8
      have hp8 := s8 _ _ hp7
      wtm_at "r"
      refine ⟨v, rfl, hv, fun H9 s9 => ?_⟩
      wtm_at "r"
      rw [show (v : Int) % 8 = ((v % 8 : Nat) : Int) by omega]
      refine ⟨by show 2 ≤ sizeLine; decide, fun pd npd => ?_⟩
      have s10 : Same H9 (upd H9 pd (.tup [.str (nmS (v / 8)), .int ((v % 8 : Nat) : Int)])) := Z.s_upd npd
      have hd9 : (upd H9 pd (.tup [.str (nmS (v / 8)), .int ((v % 8 : Nat) : Int)])) pd = some (.tup [.str (nmS (v / 8)), .int ((v % 8 : Nat) : Int)]) := L2.upd_same
      generalize upd H9 pd (.tup [.str (nmS (v / 8)), .int ((v % 8 : Nat) : Int)]) = H11 at s10 hd9
      have hT9 := hT8.ext (s9.trans s10)
      have hp9 := s10 _ _ (s9 _ _ hp8)
      have e9 : LamX.ExtN H6 H11 := e7.trans (LamX.ExtN.of (s8.trans (s9.trans s10)))
      clear hT7 hT8 hp7 hp8 s8 s9 s10 e7 npd
      wtm_at "r"
      refine Z.r_cut (fun σ H12 => σ = [some (.ref a), some (.ref p), some (.int v), x3, x4, some (.ref ps), some (.int (farN k0 k1 : Nat)), some (.int st), some (.int c), some (.int w), y10, some (.ref pd)] ∧ LamX.ExtN H11 H12 ∧ LamX.Tabs (lamT T.P_nearest_format) H12) ?_ ?_
      · wtm_at "w"
        wtm_at "r"
        refine Z.r_ixL (Z.sq_l hp9) (nv_at (j := v) rfl (by rw [fms_len]; exact hv)) ?_
        rw [fms_get hv]
        wtm_at "r"
        refine ⟨_, _, rfl, ?_⟩
        wtm_at "r"
        with_reducible refine Z.i_2 (fun hfar0 => ?_) (fun hfar0 => ?_)
        · have hfar : farN w (fmN v) ≤ 3 := by omega
          wtm_at "r"
          refine ⟨w, st, rfl, by omega, by omega, hT9, fun j near hgt => ?_, fun j near hle t H10 e10 T10 ht => ?_⟩
          · have := (near_le near v hv).1
            omega
          · have hkey : key2 w st j ≤ 3 := by omega
            have hv2 : vIx (j % 32) = v := by
              have h64 := near.1
              unfold key2 wayK at hkey
              by_cases c : j < 32
              · rw [if_pos c] at hkey
                rw [show j % 32 = j by omega]
                exact fm_one (ix_lt j c) hv (by omega) hfar
              · rw [if_neg c] at hkey
                exact absurd (hst (vIx (j - 32)) (ix_lt (j - 32) (by omega))) (by omega)
            have h1 := ix_name (j % 32) (by omega)
            have h2 := ix_num (j % 32) (by omega)
            rw [h1, hv2] at ht
            rw [show j % 8 = j % 32 % 8 by omega, ← h2.2, hv2] at ht
            have e9b := e9.trans e10
            have hd10 := e10 _ _ hd9 (fun ps z => by cases z)
            wtm_at "r"
            refine r_neFm ht hd10 ?_
            refine ⟨_, rfl, ?_⟩
            wtm_at "r"
            exact ⟨rfl, e10, T10⟩
        · wtm_at "r"
          exact ⟨rfl, LamX.ExtN.refl _, hT9⟩
      rintro σ H12 ⟨rfl, e12, hT12⟩
      have hd12 := e12 _ _ hd9 (fun ps z => by cases z)
      have hp12 := e12 _ _ hp9 (fun ps z => by cases z)
      have e13 := e9.trans e12
      clear hT9 hd9 hp9 e9 e12
      wtm_at "r"
      refine Z.r_ixL (Z.sq_l hp12) (nv_at (j := v) rfl (by rw [fms_len]; exact hv)) ?_
      rw [fms_get hv]
      wtm_at "r"
      refine ⟨_, _, rfl, ?_⟩
      wtm_at "r"
      with_reducible refine Z.i_2 (fun hfar0 => ?_) (fun hfar0 => ?_)
      · have hfar : farN w (fmN v) ≤ 3 := by omega
        have hT9 := hT12
        have hd9 := hd12
        have e9 := e13
        wtm_at "r"
        refine ⟨st, w, rfl, by omega, by omega, hT9, fun j near hgt => ?_, fun j near hle t H10 e10 T10 ht => ?_⟩
        · have := (near_le near v hv).2
          omega
        · have hkey : key2 st w j ≤ 3 := by omega
          have hv2 : vIx (j % 32) = v := by
            have h64 := near.1
            unfold key2 wayK at hkey
            by_cases c : j < 32
            · rw [if_pos c] at hkey
              exact absurd (hst (vIx j) (ix_lt j c)) (by omega)
            · rw [if_neg c] at hkey
              rw [show j % 32 = j - 32 by omega]
              exact fm_one (ix_lt (j - 32) (by omega)) hv (by omega) hfar
          have h1 := ix_name (j % 32) (by omega)
          have h2 := ix_num (j % 32) (by omega)
          rw [h1, hv2] at ht
          rw [show j % 8 = j % 32 % 8 by omega, ← h2.2, hv2] at ht
          have e9b := e9.trans e10
          have hd10 := e10 _ _ hd9 (fun ps z => by cases z)
          wtm_at "r"
          refine r_neFm ht hd10 ?_
          refine ⟨_, rfl, ?_⟩
          wtm_at "r"
          exact ⟨_, _, _, _, _, _, _, none, rfl, e9.trans e10, T10⟩
      · wtm_at "r"
        exact ⟨_, _, _, _, _, _, _, none, rfl, e13, hT12⟩
    · rintro σ H7 ⟨x2, x3, x4, x8, x9, x10, x11, x12, rfl, e7, hT7⟩
      wtm_at "r"
      exact q _
end
theorem all_mk {l : PySem.W.OpenLaw} {w : World} {K : PySem.W.Frag} {h : Heap} {mg : Str → Option Value} {fa : Addr} (X : K.In h) (G : h.Ns mainGlobals mg) (hfa : mg "law" = some (.ref fa))
    {f0 : Addr} {od0 an0 : Option Addr} {sl0 : Array (Option Value)} {oc0 kV0 dc0 pm0 cd0 ct0 : Value}
    {f1 : Addr} {od1 an1 : Option Addr} {sl1 : Array (Option Value)} {oc1 kV1 dc1 pm1 cd1 ct1 : Value}
    {f2 : Addr} {od2 an2 : Option Addr} {sl2 : Array (Option Value)} {oc2 kV2 dc2 pm2 cd2 ct2 : Value}
    {f3 : Addr} {od3 an3 : Option Addr} {sl3 : Array (Option Value)} {oc3 kV3 dc3 pm3 cd3 ct3 : Value}
    {f4 : Addr} {od4 an4 : Option Addr} {sl4 : Array (Option Value)} {oc4 kV4 dc4 pm4 cd4 ct4 : Value}
    {f5 : Addr} {od5 an5 : Option Addr} {sl5 : Array (Option Value)} {oc5 kV5 dc5 pm5 cd5 ct5 : Value}
    {f6 cd6 : Addr} {od6 an6 : Option Addr} {sl6 : Array (Option Value)} {oc6 kV6 dc6 pm6 ct6 : Value}
    {f7 : Addr} {od7 an7 : Option Addr} {sl7 : Array (Option Value)} {oc7 kV7 dc7 pm7 cd7 ct7 : Value}
    {f8 : Addr} {od8 an8 : Option Addr} {sl8 : Array (Option Value)} {oc8 kV8 dc8 pm8 cd8 ct8 : Value}
    {f9 : Addr} {od9 an9 : Option Addr} {sl9 : Array (Option Value)} {oc9 kV9 dc9 pm9 cd9 ct9 : Value}
    {f10 : Addr} {od10 an10 : Option Addr} {sl10 : Array (Option Value)} {oc10 kV10 dc10 pm10 cd10 ct10 : Value}
    {f11 : Addr} {od11 an11 : Option Addr} {sl11 : Array (Option Value)} {oc11 kV11 dc11 pm11 cd11 ct11 : Value}
    {f12 : Addr} {od12 an12 : Option Addr} {sl12 : Array (Option Value)} {oc12 kV12 dc12 pm12 cd12 ct12 : Value}
    {f13 : Addr} {od13 an13 : Option Addr} {sl13 : Array (Option Value)} {oc13 kV13 dc13 pm13 cd13 ct13 : Value}
    {f14 : Addr} {od14 an14 : Option Addr} {sl14 : Array (Option Value)} {oc14 kV14 dc14 pm14 cd14 ct14 : Value}
    {f15 : Addr} {od15 an15 : Option Addr} {sl15 : Array (Option Value)} {oc15 kV15 dc15 pm15 cd15 ct15 : Value}
    {f16 : Addr} {od16 an16 : Option Addr} {sl16 : Array (Option Value)} {oc16 kV16 dc16 pm16 cd16 ct16 : Value}
    {C_DotfieldError : Addr}
    {C_InvalidFormat : Addr}
    {nm_InvalidFormat q_InvalidFormat : Str} {N_InvalidFormat : Addr} {bs_InvalidFormat bm_InvalidFormat : List Value} {sn_InvalidFormat : List Str} {sub_InvalidFormat : List Value} {ab_InvalidFormat : Bool} {col_InvalidFormat : Option Bool} {dd_InvalidFormat : Option Addr} {e0_InvalidFormat e1_InvalidFormat e3_InvalidFormat e5_InvalidFormat : Option Value} {et_InvalidFormat : Tok}
    {A_LEVEL_NUMBERS : Addr} {es_LEVEL_NUMBERS : Array DictEntry} {en_LEVEL_NUMBERS : Nat}
    {u_LEVEL_NUMBERS_0 : Value}
    {u_LEVEL_NUMBERS_1 : Value}
    {u_LEVEL_NUMBERS_2 : Value}
    {u_LEVEL_NUMBERS_3 : Value}
    {Pt : Addr} {oy : Option Addr} {ocy : Value} {vsx : Array Value} {sly : Array (Option Value)}
    (aC_DotfieldError : PySem.W.nsIn K mainGlobals "DotfieldError" = some (some (.ref C_DotfieldError)))
    (aC_InvalidFormat : PySem.W.nsIn K mainGlobals "InvalidFormat" = some (some (.ref C_InvalidFormat)))
    (a0 : PySem.W.findIn K (.ref C_DotfieldError) "__init__" = some (some (.ref f0)))
    (i0 : PySem.W.isFn K (.ref f0) = true)
    (l0 : K.lookup f0 = some ⟨oc0, od0, .func (PySem.W.fnOf "__init__" "DotfieldError.__init__" (defArgs s_DotfieldError___init__) (defBody s_DotfieldError___init__) (defScope s_DotfieldError___init__) .none kV0 dc0 pm0 an0 cd0 ct0), sl0⟩)
    (c0 : PySem.W.codeIn K cd0 "DotfieldError.__init__" = true) (k0 : PySem.W.keepIn K (.ref f0) = true)
    (a1 : PySem.W.nsIn K mainGlobals "remainder" = some (some (.ref f1)))
    (l1 : K.lookup f1 = some ⟨oc1, od1, .func (PySem.W.fnOf "remainder" "remainder" (defArgs s_remainder) (defBody s_remainder) (defScope s_remainder) .none kV1 dc1 pm1 an1 cd1 ct1), sl1⟩)
    (c1 : PySem.W.codeIn K cd1 "remainder" = true) (k1 : PySem.W.keepIn K (.ref f1) = true)
    (a2 : PySem.W.nsIn K mainGlobals "ones" = some (some (.ref f2)))
    (l2 : K.lookup f2 = some ⟨oc2, od2, .func (PySem.W.fnOf "ones" "ones" (defArgs s_ones) (defBody s_ones) (defScope s_ones) .none kV2 dc2 pm2 an2 cd2 ct2), sl2⟩)
    (c2 : PySem.W.codeIn K cd2 "ones" = true) (k2 : PySem.W.keepIn K (.ref f2) = true)
    (a3 : PySem.W.nsIn K mainGlobals "distance" = some (some (.ref f3)))
    (l3 : K.lookup f3 = some ⟨oc3, od3, .func (PySem.W.fnOf "distance" "distance" (defArgs s_distance) (defBody s_distance) (defScope s_distance) .none kV3 dc3 pm3 an3 cd3 ct3), sl3⟩)
    (c3 : PySem.W.codeIn K cd3 "distance" = true) (k3 : PySem.W.keepIn K (.ref f3) = true)
    (a4 : PySem.W.nsIn K mainGlobals "format_word" = some (some (.ref f4)))
    (l4 : K.lookup f4 = some ⟨oc4, od4, .func (PySem.W.fnOf "format_word" "format_word" (defArgs s_format_word) (defBody s_format_word) (defScope s_format_word) .none kV4 dc4 pm4 an4 cd4 ct4), sl4⟩)
    (c4 : PySem.W.codeIn K cd4 "format_word" = true) (k4 : PySem.W.keepIn K (.ref f4) = true)
    (a5 : PySem.W.nsIn K mainGlobals "ways_to_formats" = some (some (.ref f5)))
    (l5 : K.lookup f5 = some ⟨oc5, od5, .func (PySem.W.fnOf "ways_to_formats" "ways_to_formats" (defArgs s_ways_to_formats) (defBody s_ways_to_formats) (defScope s_ways_to_formats) .none kV5 dc5 pm5 an5 cd5 ct5), sl5⟩)
    (c5 : PySem.W.codeIn K cd5 "ways_to_formats" = true) (k5 : PySem.W.keepIn K (.ref f5) = true)
    (a6 : PySem.W.nsIn K mainGlobals "nearest_format" = some (some (.ref f6)))
    (l6 : K.lookup f6 = some ⟨oc6, od6, .func (PySem.W.fnOf "nearest_format" "nearest_format" (defArgs s_nearest_format) (defBody s_nearest_format) (defScope s_nearest_format) .none kV6 dc6 pm6 an6 (.ref cd6) ct6), sl6⟩)
    (c6 : PySem.W.codeIn K (.ref cd6) "nearest_format" = true) (k6 : PySem.W.keepIn K (.ref f6) = true)
    (a7 : PySem.W.nsIn K mainGlobals "_law_draw" = some (some (.ref f7)))
    (l7 : K.lookup f7 = some ⟨oc7, od7, .func (PySem.W.fnOf "_law_draw" "_law_draw" (defArgs s__law_draw) (defBody s__law_draw) (defScope s__law_draw) .none kV7 dc7 pm7 an7 cd7 ct7), sl7⟩)
    (c7 : PySem.W.codeIn K cd7 "_law_draw" = true) (k7 : PySem.W.keepIn K (.ref f7) = true)
    (a8 : PySem.W.nsIn K mainGlobals "_law_is_integer" = some (some (.ref f8)))
    (l8 : K.lookup f8 = some ⟨oc8, od8, .func (PySem.W.fnOf "_law_is_integer" "_law_is_integer" (defArgs s__law_is_integer) (defBody s__law_is_integer) (defScope s__law_is_integer) .none kV8 dc8 pm8 an8 cd8 ct8), sl8⟩)
    (c8 : PySem.W.codeIn K cd8 "_law_is_integer" = true) (k8 : PySem.W.keepIn K (.ref f8) = true)
    (a9 : PySem.W.nsIn K mainGlobals "_law_cell" = some (some (.ref f9)))
    (l9 : K.lookup f9 = some ⟨oc9, od9, .func (PySem.W.fnOf "_law_cell" "_law_cell" (defArgs s__law_cell) (defBody s__law_cell) (defScope s__law_cell) .none kV9 dc9 pm9 an9 cd9 ct9), sl9⟩)
    (c9 : PySem.W.codeIn K cd9 "_law_cell" = true) (k9 : PySem.W.keepIn K (.ref f9) = true)
    (a10 : PySem.W.nsIn K mainGlobals "_law_left" = some (some (.ref f10)))
    (l10 : K.lookup f10 = some ⟨oc10, od10, .func (PySem.W.fnOf "_law_left" "_law_left" (defArgs s__law_left) (defBody s__law_left) (defScope s__law_left) .none kV10 dc10 pm10 an10 cd10 ct10), sl10⟩)
    (c10 : PySem.W.codeIn K cd10 "_law_left" = true) (k10 : PySem.W.keepIn K (.ref f10) = true)
    (a11 : PySem.W.nsIn K mainGlobals "_law_form" = some (some (.ref f11)))
    (l11 : K.lookup f11 = some ⟨oc11, od11, .func (PySem.W.fnOf "_law_form" "_law_form" (defArgs s__law_form) (defBody s__law_form) (defScope s__law_form) .none kV11 dc11 pm11 an11 cd11 ct11), sl11⟩)
    (c11 : PySem.W.codeIn K cd11 "_law_form" = true) (k11 : PySem.W.keepIn K (.ref f11) = true)
    (a12 : PySem.W.nsIn K mainGlobals "_law_far" = some (some (.ref f12)))
    (l12 : K.lookup f12 = some ⟨oc12, od12, .func (PySem.W.fnOf "_law_far" "_law_far" (defArgs s__law_far) (defBody s__law_far) (defScope s__law_far) .none kV12 dc12 pm12 an12 cd12 ct12), sl12⟩)
    (c12 : PySem.W.codeIn K cd12 "_law_far" = true) (k12 : PySem.W.keepIn K (.ref f12) = true)
    (a13 : PySem.W.nsIn K mainGlobals "_law_words" = some (some (.ref f13)))
    (l13 : K.lookup f13 = some ⟨oc13, od13, .func (PySem.W.fnOf "_law_words" "_law_words" (defArgs s__law_words) (defBody s__law_words) (defScope s__law_words) .none kV13 dc13 pm13 an13 cd13 ct13), sl13⟩)
    (c13 : PySem.W.codeIn K cd13 "_law_words" = true) (k13 : PySem.W.keepIn K (.ref f13) = true)
    (a14 : PySem.W.nsIn K mainGlobals "_law_level" = some (some (.ref f14)))
    (l14 : K.lookup f14 = some ⟨oc14, od14, .func (PySem.W.fnOf "_law_level" "_law_level" (defArgs s__law_level) (defBody s__law_level) (defScope s__law_level) .none kV14 dc14 pm14 an14 cd14 ct14), sl14⟩)
    (c14 : PySem.W.codeIn K cd14 "_law_level" = true) (k14 : PySem.W.keepIn K (.ref f14) = true)
    (a15 : PySem.W.nsIn K mainGlobals "_law_strange" = some (some (.ref f15)))
    (l15 : K.lookup f15 = some ⟨oc15, od15, .func (PySem.W.fnOf "_law_strange" "_law_strange" (defArgs s__law_strange) (defBody s__law_strange) (defScope s__law_strange) .none kV15 dc15 pm15 an15 cd15 ct15), sl15⟩)
    (c15 : PySem.W.codeIn K cd15 "_law_strange" = true) (k15 : PySem.W.keepIn K (.ref f15) = true)
    (a16 : PySem.W.nsIn K mainGlobals "law" = some (some (.ref f16)))
    (l16 : K.lookup f16 = some ⟨oc16, od16, .func (PySem.W.fnOf "law" "law" (defArgs s_law) (defBody s_law) (defScope s_law) .none kV16 dc16 pm16 an16 cd16 ct16), sl16⟩)
    (c16 : PySem.W.codeIn K cd16 "law" = true) (k16 : PySem.W.keepIn K (.ref f16) = true)
    (lk_InvalidFormat : K.lookup C_InvalidFormat = some (excClassObj nm_InvalidFormat q_InvalidFormat C_InvalidFormat N_InvalidFormat bs_InvalidFormat bm_InvalidFormat true sn_InvalidFormat sub_InvalidFormat ab_InvalidFormat col_InvalidFormat dd_InvalidFormat e0_InvalidFormat e1_InvalidFormat (some (.str "InvalidFormat" et_InvalidFormat)) e3_InvalidFormat e5_InvalidFormat "ValueError.__new__"))
    (rv_InvalidFormat : PySem.HandSPX.refsVE bm_InvalidFormat = true)
    (sa_InvalidFormat : PySem.W.findIn K (.ref C_InvalidFormat) "__setattr__" = some (some (.builtin "object.__setattr__")))
    (ga_InvalidFormat : PySem.W.findIn K (.ref C_InvalidFormat) "__getattribute__" = some (some (.builtin "BaseException.__getattribute__")))
    (gg_InvalidFormat : PySem.W.findIn K (.ref C_InvalidFormat) "__getattr__" = some none)
    (cl_InvalidFormat : PySem.W.findIn K (.ref C_InvalidFormat) "__class__" = some (some (.builtin "object.__class__")))
    (sb_InvalidFormat : PySem.W.subIn K (.ref C_InvalidFormat) (.type "BaseException") = some true) (ty_InvalidFormat : PySem.W.typeIn K (.ref C_InvalidFormat) = some (.type "type")) (kc_InvalidFormat : PySem.W.keepIn K (.ref C_InvalidFormat) = true) (hd_InvalidFormat : PySem.W.hasDictIn K C_InvalidFormat = true) (ob_InvalidFormat : PySem.W.mroIn K C_InvalidFormat (.type "object") = some true) (rd_InvalidFormat : PySem.W.readsIn K C_InvalidFormat (.type "type") = true)
    (fd_InvalidFormat : PySem.W.findCls K (.ref C_InvalidFormat) (.type "type") "__name__" = some (.get (.builtin "getset_descriptor.__get__") (.builtin "type.__name__") (.ref C_InvalidFormat) (.type "type")))
    (ic_InvalidFormat : PySem.W.findIn K (.ref C_InvalidFormat) "__init__" = some (some (.ref f0)))
    (no_InvalidFormat_place : PySem.W.findIn K (.ref C_InvalidFormat) "place" = some none)
    (no_InvalidFormat_name : PySem.W.findIn K (.ref C_InvalidFormat) "name" = some none)
    (gt_ : PySem.W.specialIn K (.builtin "object.__class__") "__get__" = some (some (.builtin "getset_descriptor.__get__"))) (tk_ : PySem.W.takesIn K (.builtin "object.__class__") = some true)
    (it_DotfieldError___init__ : PySem.W.typeIn K (.ref f0) = some (.type "function"))
    (m_LEVEL_NUMBERS : PySem.W.nsIn K mainGlobals "LEVEL_NUMBERS" = some (some (.ref A_LEVEL_NUMBERS))) (ld_LEVEL_NUMBERS : K.lookup A_LEVEL_NUMBERS = some ⟨.type "dict", none, .dict es_LEVEL_NUMBERS en_LEVEL_NUMBERS, #[]⟩) (kl_LEVEL_NUMBERS : PySem.W.KeysLit w.params es_LEVEL_NUMBERS.toList)
    (sm_LEVEL_NUMBERS : (A_LEVEL_NUMBERS == sysModules) = false) (ks_LEVEL_NUMBERS : Z.kvOk es_LEVEL_NUMBERS [.str "L", .str "M", .str "Q", .str "H"] = true)
    (k_LEVEL_NUMBERS_0 : PySem.W.nsIn K A_LEVEL_NUMBERS "L" = some (some u_LEVEL_NUMBERS_0)) (tr_LEVEL_NUMBERS_0 : Z.okT K u_LEVEL_NUMBERS_0 (.i (lnN 0 : Nat)) = true)
    (k_LEVEL_NUMBERS_1 : PySem.W.nsIn K A_LEVEL_NUMBERS "M" = some (some u_LEVEL_NUMBERS_1)) (tr_LEVEL_NUMBERS_1 : Z.okT K u_LEVEL_NUMBERS_1 (.i (lnN 1 : Nat)) = true)
    (k_LEVEL_NUMBERS_2 : PySem.W.nsIn K A_LEVEL_NUMBERS "Q" = some (some u_LEVEL_NUMBERS_2)) (tr_LEVEL_NUMBERS_2 : Z.okT K u_LEVEL_NUMBERS_2 (.i (lnN 2 : Nat)) = true)
    (k_LEVEL_NUMBERS_3 : PySem.W.nsIn K A_LEVEL_NUMBERS "H" = some (some u_LEVEL_NUMBERS_3)) (tr_LEVEL_NUMBERS_3 : Z.okT K u_LEVEL_NUMBERS_3 (.i (lnN 3 : Nat)) = true)
    (z_range : PySem.W.nsIn K mainGlobals "range" = some none)
    (z_min : PySem.W.nsIn K mainGlobals "min" = some none)
    (z_way : PySem.W.nsIn K mainGlobals "way" = some none)
    (z_int : PySem.W.nsIn K mainGlobals "int" = some none)
    (z_isinstance : PySem.W.nsIn K mainGlobals "isinstance" = some none)
    (z_bool : PySem.W.nsIn K mainGlobals "bool" = some none)
    (z_len : PySem.W.nsIn K mainGlobals "len" = some none)
    (tc : K.lookup cd6 = some ⟨ocy, oy, .fields vsx, sly⟩) (tp : (vsx[11]? : Option Value) = some (.ref Pt)) (qT : PySem.W.codeHdIn K cd6 Pt = true) (nT : K.lookup Pt = none) (hPt : h.get? Pt = some { cls := .none, data := .fields #[] }) :
    LamX.LawAtS l w K CX0 5 63 "script" mg fa h := by
  have e := hfa.symm.trans (PySem.W.mg_of X G a16)
  cases e
  let T : Top K mg w := {
    a_DotfieldError___init__ := f0,
    d_DotfieldError___init__ := _,
    F_DotfieldError___init__ := fun_mk (st := s_DotfieldError___init__) l0 c0 k0,
    b_DotfieldError___init__ := (fun_mk (st := s_DotfieldError___init__) l0 c0 k0).binds (ps := pl_DotfieldError___init__) fun _ _ _ _ _ _ us hl => match us, hl with | [_, _], _ => rfl,
    a_remainder := f1,
    d_remainder := _,
    F_remainder := fun_mk (st := s_remainder) l1 c1 k1,
    b_remainder := (fun_mk (st := s_remainder) l1 c1 k1).binds (ps := pl_remainder) fun _ _ _ _ _ _ us hl => match us, hl with | [_, _], _ => rfl,
    g_remainder := PySem.W.mg_of X G a1,
    a_ones := f2,
    d_ones := _,
    F_ones := fun_mk (st := s_ones) l2 c2 k2,
    b_ones := (fun_mk (st := s_ones) l2 c2 k2).binds (ps := pl_ones) fun _ _ _ _ _ _ us hl => match us, hl with | [_], _ => rfl,
    g_ones := PySem.W.mg_of X G a2,
    a_distance := f3,
    d_distance := _,
    F_distance := fun_mk (st := s_distance) l3 c3 k3,
    b_distance := (fun_mk (st := s_distance) l3 c3 k3).binds (ps := pl_distance) fun _ _ _ _ _ _ us hl => match us, hl with | [_, _], _ => rfl,
    g_distance := PySem.W.mg_of X G a3,
    a_format_word := f4,
    d_format_word := _,
    F_format_word := fun_mk (st := s_format_word) l4 c4 k4,
    b_format_word := (fun_mk (st := s_format_word) l4 c4 k4).binds (ps := pl_format_word) fun _ _ _ _ _ _ us hl => match us, hl with | [_, _], _ => rfl,
    g_format_word := PySem.W.mg_of X G a4,
    a_ways_to_formats := f5,
    d_ways_to_formats := _,
    F_ways_to_formats := fun_mk (st := s_ways_to_formats) l5 c5 k5,
    b_ways_to_formats := (fun_mk (st := s_ways_to_formats) l5 c5 k5).binds (ps := pl_ways_to_formats) fun _ _ _ _ _ _ us hl => match us, hl with | [_], _ => rfl,
    g_ways_to_formats := PySem.W.mg_of X G a5,
    a_nearest_format := f6,
    d_nearest_format := _,
    F_nearest_format := fun_mk (st := s_nearest_format) l6 c6 k6,
    c_nearest_format := cd6,
    P_nearest_format := Pt,
    FC_nearest_format := ⟨⟨_, _, _, _, _, _, _, _, rfl, l6, c6⟩⟩,
    b_nearest_format := (fun_mk (st := s_nearest_format) l6 c6 k6).binds (ps := pl_nearest_format) fun _ _ _ _ _ _ us hl => match us, hl with | [_, _], _ => rfl,
    g_nearest_format := PySem.W.mg_of X G a6,
    a__law_draw := f7,
    d__law_draw := _,
    F__law_draw := fun_mk (st := s__law_draw) l7 c7 k7,
    b__law_draw := (fun_mk (st := s__law_draw) l7 c7 k7).binds (ps := pl__law_draw) fun _ _ _ _ _ _ us hl => match us, hl with | [_, _, _], _ => rfl,
    g__law_draw := PySem.W.mg_of X G a7,
    a__law_is_integer := f8,
    d__law_is_integer := _,
    F__law_is_integer := fun_mk (st := s__law_is_integer) l8 c8 k8,
    b__law_is_integer := (fun_mk (st := s__law_is_integer) l8 c8 k8).binds (ps := pl__law_is_integer) fun _ _ _ _ _ _ us hl => match us, hl with | [_], _ => rfl,
    g__law_is_integer := PySem.W.mg_of X G a8,
    a__law_cell := f9,
    d__law_cell := _,
    F__law_cell := fun_mk (st := s__law_cell) l9 c9 k9,
    b__law_cell := (fun_mk (st := s__law_cell) l9 c9 k9).binds (ps := pl__law_cell) fun _ _ _ _ _ _ us hl => match us, hl with | [_, _], _ => rfl,
    g__law_cell := PySem.W.mg_of X G a9,
    a__law_left := f10,
    d__law_left := _,
    F__law_left := fun_mk (st := s__law_left) l10 c10 k10,
    b__law_left := (fun_mk (st := s__law_left) l10 c10 k10).binds (ps := pl__law_left) fun _ _ _ _ _ _ us hl => match us, hl with | [_, _, _, _], _ => rfl,
    g__law_left := PySem.W.mg_of X G a10,
    a__law_form := f11,
    d__law_form := _,
    F__law_form := fun_mk (st := s__law_form) l11 c11 k11,
    b__law_form := (fun_mk (st := s__law_form) l11 c11 k11).binds (ps := pl__law_form) fun _ _ _ _ _ _ us hl => match us, hl with | [_], _ => rfl,
    g__law_form := PySem.W.mg_of X G a11,
    a__law_far := f12,
    d__law_far := _,
    F__law_far := fun_mk (st := s__law_far) l12 c12 k12,
    b__law_far := (fun_mk (st := s__law_far) l12 c12 k12).binds (ps := pl__law_far) fun _ _ _ _ _ _ us hl => match us, hl with | [_, _], _ => rfl,
    g__law_far := PySem.W.mg_of X G a12,
    a__law_words := f13,
    d__law_words := _,
    F__law_words := fun_mk (st := s__law_words) l13 c13 k13,
    b__law_words := (fun_mk (st := s__law_words) l13 c13 k13).binds (ps := pl__law_words) fun _ _ _ _ _ _ us hl => match us, hl with | [], _ => rfl,
    g__law_words := PySem.W.mg_of X G a13,
    a__law_level := f14,
    d__law_level := _,
    F__law_level := fun_mk (st := s__law_level) l14 c14 k14,
    b__law_level := (fun_mk (st := s__law_level) l14 c14 k14).binds (ps := pl__law_level) fun _ _ _ _ _ _ us hl => match us, hl with | [_], _ => rfl,
    g__law_level := PySem.W.mg_of X G a14,
    a__law_strange := f15,
    d__law_strange := _,
    F__law_strange := fun_mk (st := s__law_strange) l15 c15 k15,
    b__law_strange := (fun_mk (st := s__law_strange) l15 c15 k15).binds (ps := pl__law_strange) fun _ _ _ _ _ _ us hl => match us, hl with | [_, _], _ => rfl,
    g__law_strange := PySem.W.mg_of X G a15,
    a_law := fa,
    d_law := _,
    F_law := fun_mk (st := s_law) l16 c16 k16,
    b_law := (fun_mk (st := s_law) l16 c16 k16).binds (ps := pl_law) fun _ _ _ _ _ _ us hl => match us, hl with | [_], _ => rfl,
    g_law := PySem.W.mg_of X G a16,
    a_DotfieldError := C_DotfieldError,
    g_DotfieldError := PySem.W.mg_of X G aC_DotfieldError,
    a_InvalidFormat := C_InvalidFormat,
    g_InvalidFormat := PySem.W.mg_of X G aC_InvalidFormat,
    ox_InvalidFormat := ⟨⟨_, _, _, _, _, _, _, _, _, _, _, _, _, _, _, lk_InvalidFormat, rv_InvalidFormat⟩, sa_InvalidFormat, sb_InvalidFormat, ty_InvalidFormat, kc_InvalidFormat⟩,
    ec_InvalidFormat := ⟨ga_InvalidFormat, gg_InvalidFormat, sb_InvalidFormat, hd_InvalidFormat, cl_InvalidFormat, gt_, tk_, ob_InvalidFormat⟩,
    nm_InvalidFormat := ⟨⟨_, _, _, _, _, _, #[_, _, _], lk_InvalidFormat⟩, rd_InvalidFormat, fd_InvalidFormat⟩,
    xf_InvalidFormat := ⟨ga_InvalidFormat, gg_InvalidFormat, sb_InvalidFormat, hd_InvalidFormat⟩,
    ic_InvalidFormat := ic_InvalidFormat,
    no_InvalidFormat_place := no_InvalidFormat_place,
    no_InvalidFormat_name := no_InvalidFormat_name,
    it_DotfieldError___init__ := it_DotfieldError___init__,
    a_LEVEL_NUMBERS := A_LEVEL_NUMBERS,
    m_LEVEL_NUMBERS := PySem.W.mg_of X G m_LEVEL_NUMBERS,
    d_LEVEL_NUMBERS := Z.kd_mk ld_LEVEL_NUMBERS kl_LEVEL_NUMBERS,
    q_LEVEL_NUMBERS := Z.kq_mk ld_LEVEL_NUMBERS sm_LEVEL_NUMBERS (Z.kv_of ks_LEVEL_NUMBERS),
    u_LEVEL_NUMBERS_0 := u_LEVEL_NUMBERS_0,
    k_LEVEL_NUMBERS_0 := k_LEVEL_NUMBERS_0,
    t_LEVEL_NUMBERS_0 := tr_LEVEL_NUMBERS_0,
    u_LEVEL_NUMBERS_1 := u_LEVEL_NUMBERS_1,
    k_LEVEL_NUMBERS_1 := k_LEVEL_NUMBERS_1,
    t_LEVEL_NUMBERS_1 := tr_LEVEL_NUMBERS_1,
    u_LEVEL_NUMBERS_2 := u_LEVEL_NUMBERS_2,
    k_LEVEL_NUMBERS_2 := k_LEVEL_NUMBERS_2,
    t_LEVEL_NUMBERS_2 := tr_LEVEL_NUMBERS_2,
    u_LEVEL_NUMBERS_3 := u_LEVEL_NUMBERS_3,
    k_LEVEL_NUMBERS_3 := k_LEVEL_NUMBERS_3,
    t_LEVEL_NUMBERS_3 := tr_LEVEL_NUMBERS_3,
    n_range := PySem.W.mg_none_of X G z_range,
    n_min := PySem.W.mg_none_of X G z_min,
    n_way := PySem.W.mg_none_of X G z_way,
    n_int := PySem.W.mg_none_of X G z_int,
    n_isinstance := PySem.W.mg_none_of X G z_isinstance,
    n_bool := PySem.W.mg_none_of X G z_bool,
    n_len := PySem.W.mg_none_of X G z_len }
  refine ⟨T.d_law, [(cd6, Pt)], sp_law T, fun p hp => ?_, fun p hp => ?_, fun p hp => ?_, fun s v => .of_eq rfl, fun H a ns hl _ hH hS => ⟨a, ns, rfl, hS, hl, fun p hp => ?_, fun _ => rfl⟩, fun base _ _ hTB => ok_law T (hTB (cd6, Pt) (List.mem_singleton.mpr rfl))⟩
  · rw [List.mem_singleton.mp hp]; exact hPt
  · rw [List.mem_singleton.mp hp]; exact nT
  · rw [List.mem_singleton.mp hp]; exact PySem.W.codeHd_of_K X qT
  · rw [List.mem_singleton.mp hp]; exact LamX.TabS.nil (hH (cd6, Pt) (List.mem_singleton.mpr rfl))
end M_k12
open PySem PySem.W PyProof.Rows
set_option maxRecDepth 100000 in
set_option maxHeartbeats 0 in
theorem PySem.Challenge.cw_dotfield_k12_format_words_holds : PySem.Challenge.rw_dotfield_k12_format_words.Holds := by
  w_on; o_law; k_head; (case hw => w_witness2)
  k_fill
  refine LamX.walk_ofTs (l := PySem.Challenge.rw_dotfield_k12_format_words) (n := 63) (k := 5) (x := "script") (CX := fun _ => L2.CX0) rfl (by decide) rfl ⟨rfl, by decide, by decide⟩ (fun w h Y => PySem.W.km_in_of Y) ?F (fun _ _ _ _ _ h => h)
  case F =>
    intro w mg fa h Y KX G hmg
    refine' M_k12.all_mk KX G hmg ?aC_DotfieldError ?aC_InvalidFormat ?a0 ?i0 ?l0 ?c0 ?k0 ?a1 ?l1 ?c1 ?k1 ?a2 ?l2 ?c2 ?k2 ?a3 ?l3 ?c3 ?k3 ?a4 ?l4 ?c4 ?k4 ?a5 ?l5 ?c5 ?k5 ?a6 ?l6 ?c6 ?k6 ?a7 ?l7 ?c7 ?k7 ?a8 ?l8 ?c8 ?k8 ?a9 ?l9 ?c9 ?k9 ?a10 ?l10 ?c10 ?k10 ?a11 ?l11 ?c11 ?k11 ?a12 ?l12 ?c12 ?k12 ?a13 ?l13 ?c13 ?k13 ?a14 ?l14 ?c14 ?k14 ?a15 ?l15 ?c15 ?k15 ?a16 ?l16 ?c16 ?k16 ?lk_InvalidFormat ?rv_InvalidFormat ?sa_InvalidFormat ?ga_InvalidFormat ?gg_InvalidFormat ?cl_InvalidFormat ?sb_InvalidFormat ?ty_InvalidFormat ?kc_InvalidFormat ?hd_InvalidFormat ?ob_InvalidFormat ?rd_InvalidFormat ?fd_InvalidFormat ?ic_InvalidFormat ?no_InvalidFormat_place ?no_InvalidFormat_name ?gt_ ?tk_ ?it_DotfieldError___init__ ?m_LEVEL_NUMBERS ?ld_LEVEL_NUMBERS ?kl_LEVEL_NUMBERS ?sm_LEVEL_NUMBERS ?ks_LEVEL_NUMBERS ?k_LEVEL_NUMBERS_0 ?tr_LEVEL_NUMBERS_0 ?k_LEVEL_NUMBERS_1 ?tr_LEVEL_NUMBERS_1 ?k_LEVEL_NUMBERS_2 ?tr_LEVEL_NUMBERS_2 ?k_LEVEL_NUMBERS_3 ?tr_LEVEL_NUMBERS_3 ?z_range ?z_min ?z_way ?z_int ?z_isinstance ?z_bool ?z_len ?tc ?tp ?qT ?nT ?hPt
    (case aC_DotfieldError => k_is)
    (case aC_InvalidFormat => k_is)
    (case a0 => k_is)
    (case i0 => k_is)
    (case l0 => k_is)
    (case c0 => k_is)
    (case k0 => k_is)
    (case a1 => k_is)
    (case l1 => k_is)
    (case c1 => k_is)
    (case k1 => k_is)
    (case a2 => k_is)
    (case l2 => k_is)
    (case c2 => k_is)
    (case k2 => k_is)
    (case a3 => k_is)
    (case l3 => k_is)
    (case c3 => k_is)
    (case k3 => k_is)
    (case a4 => k_is)
    (case l4 => k_is)
    (case c4 => k_is)
    (case k4 => k_is)
    (case a5 => k_is)
    (case l5 => k_is)
    (case c5 => k_is)
    (case k5 => k_is)
    (case a6 => k_is)
    (case l6 => k_is)
    (case c6 => k_is)
    (case k6 => k_is)
    (case a7 => k_is)
    (case l7 => k_is)
    (case c7 => k_is)
    (case k7 => k_is)
    (case a8 => k_is)
    (case l8 => k_is)
    (case c8 => k_is)
    (case k8 => k_is)
    (case a9 => k_is)
    (case l9 => k_is)
    (case c9 => k_is)
    (case k9 => k_is)
    (case a10 => k_is)
    (case l10 => k_is)
    (case c10 => k_is)
    (case k10 => k_is)
    (case a11 => k_is)
    (case l11 => k_is)
    (case c11 => k_is)
    (case k11 => k_is)
    (case a12 => k_is)
    (case l12 => k_is)
    (case c12 => k_is)
    (case k12 => k_is)
    (case a13 => k_is)
    (case l13 => k_is)
    (case c13 => k_is)
    (case k13 => k_is)
    (case a14 => k_is)
    (case l14 => k_is)
    (case c14 => k_is)
    (case k14 => k_is)
    (case a15 => k_is)
    (case l15 => k_is)
    (case c15 => k_is)
    (case k15 => k_is)
    (case a16 => k_is)
    (case l16 => k_is)
    (case c16 => k_is)
    (case k16 => k_is)
    (case lk_InvalidFormat => k_is)
    (case rv_InvalidFormat => decide +kernel)
    (case sa_InvalidFormat => k_is)
    (case ga_InvalidFormat => k_is)
    (case gg_InvalidFormat => k_is)
    (case cl_InvalidFormat => k_is)
    (case sb_InvalidFormat => k_is)
    (case ty_InvalidFormat => k_is)
    (case kc_InvalidFormat => k_is)
    (case hd_InvalidFormat => k_is)
    (case ob_InvalidFormat => k_is)
    (case rd_InvalidFormat => k_is)
    (case fd_InvalidFormat => k_is)
    (case ic_InvalidFormat => k_is)
    (case no_InvalidFormat_place => k_is)
    (case no_InvalidFormat_name => k_is)
    (case gt_ => k_is)
    (case tk_ => k_is)
    (case it_DotfieldError___init__ => k_is)
    (case m_LEVEL_NUMBERS => k_is)
    (case ld_LEVEL_NUMBERS => k_is)
    (case kl_LEVEL_NUMBERS => repeat (first | exact trivial | refine ⟨⟨_, _, rfl, rfl⟩, ?_⟩))
    (case sm_LEVEL_NUMBERS => decide +kernel)
    (case ks_LEVEL_NUMBERS => kernel_rfl)
    (case k_LEVEL_NUMBERS_0 => k_is)
    (case tr_LEVEL_NUMBERS_0 => kernel_rfl)
    (case k_LEVEL_NUMBERS_1 => k_is)
    (case tr_LEVEL_NUMBERS_1 => kernel_rfl)
    (case k_LEVEL_NUMBERS_2 => k_is)
    (case tr_LEVEL_NUMBERS_2 => kernel_rfl)
    (case k_LEVEL_NUMBERS_3 => k_is)
    (case tr_LEVEL_NUMBERS_3 => kernel_rfl)
    (case z_range => k_is)
    (case z_min => k_is)
    (case z_way => k_is)
    (case z_int => k_is)
    (case z_isinstance => k_is)
    (case z_bool => k_is)
    (case z_len => k_is)
    (case tc => k_is)
    (case tp => rfl)
    (case qT => kernel_rfl)
    (case nT => kernel_rfl)
    (case hPt => exact PySem.W.km_tabs_of Y _ (List.mem_singleton.mpr rfl))

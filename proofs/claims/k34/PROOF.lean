import PyProof.Rows.All
import Wide.All
import OpenK.AllK
import Wide.FinOn
import HandS.ForMost
import HandS.IsInst
import HandS.Codes
import HandS.Style
import PySem.Challenge.RW_dotfield_k34_best_segments
import HandS.Strs
import HandS.More
import HandS.Small
import HandS.WideBits
import KE.KxField
import HandS.TryMany
import HandS.TupAny
import KE.DataMinMax
import HandS.DictComp
import HandS.Walk
set_option Elab.async false
set_option linter.all false
set_option maxRecDepth 100000
namespace Z
open PySem PySem.Spec PyProof.Rows L2
/-! ## Readings, step by step (own words over the layer) -/
section
variable {K : PySem.W.Frag} {D : Ends} {H : Hp} {Q : VK} {R : Bool → Hp → Prop}
theorem r_seq {σ : L2.St} {t u : TS} (h : t { D with nx := u D } σ H) : tSeq t u D σ H := h
theorem r_asg {σ : L2.St} {te : TE} {g : TG} (h : te σ H fun x H1 => g x σ H1 D.nx) : tAsg te g D σ H := h
theorem r_gname {σ σ2 : L2.St} {i : Nat} {v : V} {k : L2.St → Hp → Prop} (hs : σ.set i (some v) = σ2) (h : k σ2 H) : gName i v σ H k := by
  subst hs; exact h
theorem r_ret {σ : L2.St} {te : TE} (h : te σ H D.rt) : tRet te D σ H := h
theorem r_retN {σ : L2.St} (h : D.rt .non H) : tRetN D σ H := h
theorem r_drop {σ : L2.St} {te : TE} (h : te σ H fun _ H1 => D.nx σ H1) : tDrop te D σ H := h
theorem r_next {σ : L2.St} (h : D.nx σ H) : tNext D σ H := h
theorem r_brk {σ : L2.St} (h : D.bk σ H) : tBreak D σ H := h
theorem r_cnt {σ : L2.St} (h : D.ct σ H) : tCont D σ H := h
theorem r_if {σ : L2.St} {c : TT} {t u : TS} (h : c σ H fun b H1 => if b = true then t D σ H1 else u D σ H1) : tIfS c t u D σ H := h
theorem r_ifE {σ : L2.St} {c : TT} {t u : TE} (h : c σ H fun b H1 => if b = true then t σ H1 Q else u σ H1 Q) : tIf c t u σ H Q := h
theorem r_test {σ : L2.St} {t : TE} (h : t σ H fun x H' => ∃ k, x = .bl k ∧ R k H') : tTest t σ H R := h
theorem r_tB {σ : L2.St} {t : TE} (h : t σ H fun x H' => ∃ k, x = .bl k ∧ R k H') : tB t σ H R := h
theorem r_bl {b : Bool} {P : Bool → Prop} (q : P b) : ∃ k, V.bl b = V.bl k ∧ P k := ⟨b, rfl, q⟩
theorem r_and {σ : L2.St} {t u : TT} (h : t σ H fun c H1 => if c = true then u σ H1 R else R false H1) : tAnd t u σ H R := h
theorem r_or {σ : L2.St} {t u : TT} (h : t σ H fun c H1 => if c = true then R true H1 else u σ H1 R) : tOr t u σ H R := h
theorem r_not {σ : L2.St} {t : TT} (h : t σ H fun c H1 => R (!c) H1) : tNot t σ H R := h
theorem r_andV {σ : L2.St} {ta tb : TE} (h : ta σ H fun x H1 => ∃ c, x = .bl c ∧ if c = true then tb σ H1 Q else Q (.bl false) H1) : tAndV ta tb σ H Q := h
theorem r_orV {σ : L2.St} {ta tb : TE} (h : ta σ H fun x H1 => ∃ c, x = .bl c ∧ if c = true then Q (.bl true) H1 else tb σ H1 Q) : tOrV ta tb σ H Q := h
theorem r_notV {σ : L2.St} {ta : TE} (h : ta σ H fun x H1 => ∃ c, x = .bl c ∧ Q (.bl (!c)) H1) : tNotV ta σ H Q := h
theorem r_v0 {v : V} {l : List (Option V)} (q : Q v H) : tVar 0 (some v :: l) H Q := ⟨v, rfl, q⟩
theorem r_vS {i : Nat} {x : Option V} {l : List (Option V)} (q : tVar i l H Q) : tVar (i + 1) (x :: l) H Q := q
theorem r_v1 {a : Option V} {v : V} {l : List (Option V)} (q : Q v H) : tVar 1 (a :: some v :: l) H Q := ⟨v, rfl, q⟩
theorem r_v2 {a b : Option V} {v : V} {l : List (Option V)} (q : Q v H) : tVar 2 (a :: b :: some v :: l) H Q := ⟨v, rfl, q⟩
theorem r_var {σ : L2.St} {i : Nat} {v : V} (h : σ[i]? = some (some v)) (q : Q v H) : tVar i σ H Q := ⟨v, h, q⟩
theorem r_c {σ : L2.St} {v : V} (q : Q v H) : tC v σ H Q := q
theorem r_op {σ : L2.St} {r : R2} {ta tb : TE} (h : ta σ H fun x H1 => tb σ H1 fun y H2 => r x y H2 Q) : tOp r ta tb σ H Q := h
theorem r_un {σ : L2.St} {r : V → Hp → VK → Prop} {ta : TE} (h : ta σ H fun x H1 => r x H1 Q) : tUn r ta σ H Q := h
theorem r_chain {σ : L2.St} {r r' : R2} {ta tb tc : TE} (h : ta σ H fun x H1 => tb σ H1 fun y H2 => r x y H2 fun z H3 => ∃ k, z = .bl k ∧ (if k = true then tc σ H3 fun w' H4 => r' y w' H4 Q else Q (.bl false) H3)) : tChain r r' ta tb tc σ H Q := h
theorem r_nil {σ : L2.St} {P : List V → Hp → Prop} (q : P [] H) : tNil σ H P := q
theorem r_cons {σ : L2.St} {ta : TE} {tr : TA} {P : List V → Hp → Prop} (h : ta σ H fun x H1 => tr σ H1 fun xs H2 => P (x :: xs) H2) : tCons ta tr σ H P := h
theorem r_I0 {g : Int → Int → V} {i j : Int} (q : Q (g i j) H) : rI0 g (.int i) (.int j) H Q := ⟨i, j, rfl, rfl, q⟩
theorem r_I {C : Int → Int → Prop} {g : Int → Int → V} {i j : Int} (c : C i j) (q : Q (g i j) H) : rI C g (.int i) (.int j) H Q := ⟨i, j, rfl, rfl, c, q⟩
theorem r_U {g : Int → V} {i : Int} (q : Q (g i) H) : rU g (.int i) H Q := ⟨i, rfl, q⟩
/-- a truth that is not looked into -/
def dB (p : Prop) [Decidable p] : Bool := decide p
theorem dB_t {p : Prop} [Decidable p] (h : p) : dB p = true := decide_eq_true h
theorem dB_f {p : Prop} [Decidable p] (h : ¬ p) : dB p = false := decide_eq_false h
theorem dB_of {p : Prop} [Decidable p] (h : dB p = true) : p := of_decide_eq_true h
theorem dB_iff {p q : Prop} [Decidable p] [Decidable q] (h : p ↔ q) : dB p = dB q := by
  by_cases c : p
  · rw [dB_t c, dB_t (h.mp c)]
  · rw [dB_f c, dB_f (fun z => c (h.mpr z))]
theorem r_lt {i j : Int} (q : Q (.bl (dB (i < j))) H) : rI0 (fun i j => .bl (decide (i < j))) (.int i) (.int j) H Q := ⟨i, j, rfl, rfl, q⟩
theorem r_le {i j : Int} (q : Q (.bl (dB (i ≤ j))) H) : rI0 (fun i j => .bl (decide (i ≤ j))) (.int i) (.int j) H Q := ⟨i, j, rfl, rfl, q⟩
theorem r_gt {i j : Int} (q : Q (.bl (dB (j < i))) H) : rI0 (fun i j => .bl (decide (j < i))) (.int i) (.int j) H Q := ⟨i, j, rfl, rfl, q⟩
theorem r_ge {i j : Int} (q : Q (.bl (dB (j ≤ i))) H) : rI0 (fun i j => .bl (decide (j ≤ i))) (.int i) (.int j) H Q := ⟨i, j, rfl, rfl, q⟩
theorem eq_int (i j : Int) : decide (V.int i = V.int j) = dB (i = j) := by
  unfold dB
  by_cases h : i = j
  · subst h; simp
  · simp [h]
theorem eq_bl (i j : Bool) : decide (V.bl i = V.bl j) = dB (i = j) := by
  unfold dB
  by_cases h : i = j
  · subst h; simp
  · simp [h]
theorem eq_str (i j : Str) : decide (V.str i = V.str j) = dB (i = j) := by
  unfold dB
  by_cases h : i = j
  · subst h; simp
  · simp [h]
theorem not_dB (p : Prop) [Decidable p] : (!dB p) = dB (¬ p) := by
  by_cases h : p
  · rw [dB_t h, dB_f (fun z => z h)]; rfl
  · rw [dB_f h, dB_t h]; rfl
theorem r_eqI {i j : Int} (q : Q (.bl (dB (i = j))) H) : rEq (.int i) (.int j) H Q := ⟨rfl, by rw [eq_int]; exact q⟩
theorem r_neI {i j : Int} (q : Q (.bl (dB (¬ i = j))) H) : rNe (.int i) (.int j) H Q := ⟨rfl, by rw [eq_int, not_dB]; exact q⟩
theorem r_eqB {i j : Bool} (q : Q (.bl (dB (i = j))) H) : rEq (.bl i) (.bl j) H Q := ⟨rfl, by rw [eq_bl]; exact q⟩
theorem r_neB {i j : Bool} (q : Q (.bl (dB (¬ i = j))) H) : rNe (.bl i) (.bl j) H Q := ⟨rfl, by rw [eq_bl, not_dB]; exact q⟩
theorem r_eqS {i j : Str} (q : Q (.bl (dB (i = j))) H) : rEq (.str i) (.str j) H Q := ⟨rfl, by rw [eq_str]; exact q⟩
theorem r_neS {i j : Str} (q : Q (.bl (dB (¬ i = j))) H) : rNe (.str i) (.str j) H Q := ⟨rfl, by rw [eq_str, not_dB]; exact q⟩
/-! tests that are decided -/
theorem i_t {A B : Prop} (h : A) : if true = true then A else B := h
theorem i_f {A B : Prop} (h : B) : if false = true then A else B := by rw [if_neg Bool.false_ne_true]; exact h
theorem i_2 {p : Prop} [Decidable p] {A B : Prop} (h1 : p → A) (h2 : ¬ p → B) : if dB p = true then A else B := by
  by_cases h : p
  · rw [dB_t h]; exact h1 h
  · rw [dB_f h, if_neg Bool.false_ne_true]; exact h2 h
theorem i_2n {p : Prop} [Decidable p] {A B : Prop} (h1 : ¬ p → A) (h2 : p → B) : if (!dB p) = true then A else B := by
  by_cases h : p
  · rw [dB_t h]; exact i_f (h2 h)
  · rw [dB_f h]; exact i_t (h1 h)
theorem i_2b {b : Bool} {A B : Prop} (h1 : b = true → A) (h2 : b = false → B) : if b = true then A else B := by
  cases b with
  | true => exact h1 rfl
  | false => exact i_f (h2 rfl)
theorem i_dt {p : Prop} [Decidable p] {A B : Prop} (h : p) (a : A) : if dB p = true then A else B := by rw [dB_t h]; exact a
theorem i_df {p : Prop} [Decidable p] {A B : Prop} (h : ¬ p) (b : B) : if dB p = true then A else B := by rw [dB_f h, if_neg Bool.false_ne_true]; exact b
theorem i_dtn {p : Prop} [Decidable p] {A B : Prop} (h : ¬ p) (a : A) : if (!dB p) = true then A else B := by rw [dB_f h]; exact a
theorem i_dfn {p : Prop} [Decidable p] {A B : Prop} (h : p) (b : B) : if (!dB p) = true then A else B := by rw [dB_t h]; exact i_f b
theorem i_nt {A B : Prop} (h : A) : if (!false) = true then A else B := h
theorem i_nf {A B : Prop} (h : B) : if (!true) = true then A else B := i_f h
theorem kx {CX : CXT} {P : Program} {w : World} {K : PySem.W.Frag} {mg : Str → Option Value} {base : Heap} {N : List Str} {qual : Str} {scope : Scope} {f : Addr} {cd : Value} {A : Around} {outer : List Env} {s : Shared} {H : Hp} {E : XK} :
    (cxOf CX P w K mg base N qual scope f cd A outer s H E).K = K := rfl
/-! heaps -/
theorem s_at {H H' : Hp} {a : Addr} {o : HO} (s : Same H H') (h : H a = some o) : H' a = some o := s _ _ h
theorem s_upd {H : Hp} {p : Addr} {o : HO} (h : H p = none) : Same H (upd H p o) := fun b x e => by
  rw [upd_ne (ne_of_none e h)]
  exact e
/-- an object that H does not know may change -/
theorem s_mut {H H' : Hp} {p : Addr} {o : HO} (e : Same H H') (h : H p = none) : Same H (upd H' p o) := fun a u ha => by
  rw [upd_ne (ne_of_none ha h)]
  exact e a u ha
theorem s_back {H H' : Hp} {p : Addr} (e : Same H H') (h : H' p = none) : H p = none := e.free h
theorem ne_of' {H : Hp} {a b : Addr} {o : HO} (h' : H b = none) (h : H a = some o) : a ≠ b := ne_of_none h h'
theorem ne_new {H H' : Hp} {a b : Addr} {o : HO} (h : H a = some o) (s : Same H H') (h' : H' b = none) : a ≠ b := ne_of_none (s _ _ h) h'
theorem sq_l {H : Hp} {a : Addr} {xs : List V} (h : H a = some (.lst xs)) : SqL K H a xs := .inl (.inl h)
theorem sq_t {H : Hp} {a : Addr} {xs : List V} (h : H a = some (.tup xs)) : SqT K H a xs := .inl (.inl h)
theorem s_sq {H H' : Hp} {a : Addr} {xs : List V} (s : Same H H') (h : SqL K H a xs) : SqL K H' a xs := s.seq h
theorem s_rd {H H' : Hp} {a : Addr} {u : HO} (e : Same H H') (h : Rd H a u) : Rd H' a u := by
  rcases h with h | ⟨o, h⟩
  · exact .inl (e a _ h)
  · exact .inr ⟨o, e a _ h⟩
theorem s_st {H H' : Hp} {a : Addr} {xs : List V} (s : Same H H') (h : SqT K H a xs) : SqT K H' a xs := by
  rcases h with h | h
  · exact .inl (s_rd s h)
  · exact .inr h
theorem sz {n : Nat} (h : n ≤ 100000) : n ≤ sizeLine := Nat.le_trans h (by decide)
theorem szl {n : Nat} (h : n < 100000) : n < sizeLine := Nat.lt_of_lt_of_le h (by decide)
/-! lists -/
theorem r_ixL {p : Addr} {xs : List V} {i : Int} {v : V} (h : SqL K H p xs) (ha : atI xs i = some v) (q : Q v H) : rIxL K (.ref p) (.int i) H Q := ⟨p, xs, i, v, rfl, rfl, h, ha, q⟩
theorem r_ixT {p : Addr} {xs : List V} {i : Int} {v : V} (h : SqT K H p xs) (ha : atI xs i = some v) (q : Q v H) : rIxT K (.ref p) (.int i) H Q := ⟨p, xs, i, v, rfl, rfl, h, ha, q⟩
theorem r_new {σ : L2.St} {t : TA} (h : t σ H fun xs H1 => xs.length ≤ sizeLine ∧ ∀ p, H1 p = none → Q (.ref p) (upd H1 p (.lst xs))) : tLst t σ H Q := h
theorem r_tup {σ : L2.St} {t : TA} (h : t σ H fun xs H1 => xs.length ≤ sizeLine ∧ ∀ p, H1 p = none → Q (.ref p) (upd H1 p (.tup xs))) : tTup t σ H Q := h
theorem r_cb {σ : L2.St} {r : List V → Hp → VK → Prop} {t : TA} (h : t σ H fun vs H1 => r vs H1 Q) : tCB r t σ H Q := h
theorem r_call {σ : L2.St} {sp : Sp} {E : XK} {t : TA} (h : t σ H fun vs H1 => sp (vs ++ []) H1 Q E) : tCall sp [] E t σ H Q := h
theorem r_bm {σ : L2.St} {T : String} {r : V → List V → Hp → VK → Prop} {to : TE} {t : TA} (h : to σ H fun x H1 => tyV K T x H1 ∧ t σ H1 fun xs H2 => r x xs H2 Q) : tBM K T r to t σ H Q := h
theorem ty_lst {x : Addr} {xs : List V} {P : Prop} (h : SqL K H x xs) (q : P) : tyV K "list" (.ref x) H ∧ P := ⟨Or.inl ⟨rfl, xs, h⟩, q⟩
theorem r_append {l : Addr} {xs : List V} {y : V} (h : H l = some (.lst xs)) (z : xs.length < sizeLine) (q : Q .non (upd H l (.lst (xs ++ [y])))) : rAppend (.ref l) [y] H Q := ⟨l, xs, y, rfl, rfl, h, z, q⟩
def cLen (K : PySem.W.Frag) : List V → Hp → VK → Prop := fun xs H Q => ∃ p ys, xs = [.ref p] ∧ (SqL K H p ys ∨ SqT K H p ys) ∧ Q (.int ys.length) H
theorem call_len {X : Cx} : CallR X (.builtin "len") (cLen X.K) := call_len_seq
theorem r_lenL {p : Addr} {ys : List V} (h : SqL K H p ys) (q : Q (.int ys.length) H) : cLen K [.ref p] H Q := ⟨p, ys, rfl, .inl h, q⟩
theorem r_lenT {p : Addr} {ys : List V} (h : SqT K H p ys) (q : Q (.int ys.length) H) : cLen K [.ref p] H Q := ⟨p, ys, rfl, .inr h, q⟩
def cInt : List V → Hp → VK → Prop := fun xs H Q => (∃ i, xs = [.int i] ∧ Q (.int i) H) ∨ ∃ k, xs = [.bl k] ∧ Q (.int (if k then 1 else 0)) H
theorem call_int {X : Cx} : CallR X (.type "int") cInt := call_int1
theorem r_int {i : Int} (q : Q (.int i) H) : cInt [.int i] H Q := .inl ⟨i, rfl, q⟩
def cIsN : R2 := fun x y H Q => y = .non ∧ Q (.bl (decide (x = .non))) H
def cNotN : R2 := fun x y H Q => y = .non ∧ Q (.bl (!decide (x = .non))) H
theorem op_isN {X : Cx} : OpR X (compareOp .Is) cIsN := L2.op_isN
theorem op_notN {X : Cx} : OpR X (compareOp .IsNot) cNotN := L2.op_notN
theorem r_notN {x : V} (q : Q (.bl (!dB (x = .non))) H) : cNotN x .non H Q := ⟨rfl, q⟩
theorem r_isN {x : V} (q : Q (.bl (dB (x = .non))) H) : cIsN x .non H Q := ⟨rfl, q⟩
theorem r_isi {x c : V} {t u : Value} {b : Bool} (h1 : ClsV c u) (h2 : TyX K H x t) (h3 : PySem.W.kitOne K t u = some b) (q : Q (.bl b) H) : rIsi K [x, c] H Q := ⟨x, c, t, u, b, rfl, h1, h2, h3, q⟩
/-! slices -/
theorem r_sl {σ : L2.St} {r : V → Option Int → Option Int → Hp → VK → Prop} {te : TE} {tl th : TO} (h : te σ H fun x H1 => tl σ H1 fun l H2 => th σ H2 fun u H3 => r x l u H3 Q) : tSl r te tl th σ H Q := h
theorem r_noPart {σ : L2.St} {P : Option Int → Hp → Prop} (q : P none H) : tNoPart σ H P := q
theorem r_part {σ : L2.St} {t : TE} {P : Option Int → Hp → Prop} (h : t σ H fun x H1 => ∃ i, x = .int i ∧ P (some i) H1) : tPart t σ H P := h
theorem r_pint {i : Int} {P : Int → Prop} (q : P i) : ∃ j, V.int i = .int j ∧ P j := ⟨i, rfl, q⟩
theorem r_slL {a : Addr} {xs : List V} {lo hi : Option Int} (h : SqL K H a xs) (q : ∀ p, H p = none → Q (.ref p) (upd H p (.lst (cutV xs lo hi)))) : rSlL K (.ref a) lo hi H Q := ⟨a, xs, rfl, h, q⟩
theorem r_aug {σ σ2 : L2.St} {i : Nat} {te : TE} {ti : TIp} {x : V} (hx : σ[i]? = some (some x)) (h : te σ H fun y H1 => ti x y H1 fun z H2 => D.nx (σ.set i (some z)) H2) : tAug i te ti D σ H := ⟨x, hx, h⟩
/-! loops -/
theorem for_lst {σ : L2.St} {tl : TE} {g : TG} {tb : TS} (h : tl σ H fun x H1 => ∃ a, x = .ref a ∧ (∃ xs, SqL K H1 a xs) ∧ ∃ W : Nat → Nat → L2.St → Hp → Prop, (∃ m, W 0 m σ H1) ∧ ∀ i m σ H, W i m σ H →
  ((Itl K a).stop i H ∧ D.nx σ H) ∨ ((Itl K a).go i H ∧ ∃ N : L2.St → Hp → Prop, (∀ σ' H', N σ' H' → ∃ m', m' < m ∧ W (i + 1) m' σ' H') ∧ ∀ x H', (Itl K a).yld i H x H' → g x σ H' fun σ2 H2 => tb { D with nx := N, ct := N, bk := D.nx } σ2 H2)) : tFor (iList K tl) g tb D σ H := h
theorem lst_go {σ : L2.St} {a : Addr} {xs : List V} {g : TG} {tb : TS} (hs0 : SqL K H a xs) (Pv : Nat → L2.St → Hp → Prop) (h0 : Pv 0 σ H) (hl : ∀ i σ H, i ≤ xs.length → Pv i σ H → SqL K H a xs)
    (hs : ∀ i x σ H, xs[i]? = some x → Pv i σ H → g x σ H fun σ2 H2 => tb { D with nx := Pv (i + 1), ct := Pv (i + 1), bk := D.nx } σ2 H2) (hd : ∀ σ H, Pv xs.length σ H → D.nx σ H) :
    ∃ a', V.ref a = .ref a' ∧ (∃ xs, SqL K H a' xs) ∧ ∃ W : Nat → Nat → L2.St → Hp → Prop, (∃ m, W 0 m σ H) ∧ ∀ i m σ H, W i m σ H →
  ((Itl K a').stop i H ∧ D.nx σ H) ∨ ((Itl K a').go i H ∧ ∃ N : L2.St → Hp → Prop, (∀ σ' H', N σ' H' → ∃ m', m' < m ∧ W (i + 1) m' σ' H') ∧ ∀ x H', (Itl K a').yld i H x H' → g x σ H' fun σ2 H2 => tb { D with nx := N, ct := N, bk := D.nx } σ2 H2) :=
  ⟨a, rfl, ⟨xs, hs0⟩, for_list (K := K) Pv h0 hl hs hd⟩
theorem for_rng {σ : L2.St} {ta : TA} {g : TG} {tb : TS} (h : ta σ H fun vs H1 => ∃ j : Int, vs = [.int j] ∧ -(2 ^ 62) ≤ j ∧ j < 2 ^ 62 ∧ ∃ W : Nat → Nat → L2.St → Hp → Prop, (∃ m, W 0 m σ H1) ∧ ∀ i m σ H, W i m σ H →
  ((Itr 0 j.toNat).stop i H ∧ D.nx σ H) ∨ ((Itr 0 j.toNat).go i H ∧ ∃ N : L2.St → Hp → Prop, (∀ σ' H', N σ' H' → ∃ m', m' < m ∧ W (i + 1) m' σ' H') ∧ ∀ x H', (Itr 0 j.toNat).yld i H x H' → g x σ H' fun σ2 H2 => tb { D with nx := N, ct := N, bk := D.nx } σ2 H2)) : tFor (iRng1 ta) g tb D σ H := h
theorem rng_go {σ : L2.St} {j : Int} {g : TG} {tb : TS} (n : Nat) (hj : j.toNat = n) (hb : -(2 ^ 62) ≤ j ∧ j < 2 ^ 62) (Pv : Nat → L2.St → Hp → Prop) (h0 : Pv 0 σ H)
    (hs : ∀ i σ H, i < n → Pv i σ H → g (.int (i : Nat)) σ H fun σ2 H2 => tb { D with nx := Pv (i + 1), ct := Pv (i + 1), bk := D.nx } σ2 H2) (hd : ∀ σ H, Pv n σ H → D.nx σ H) :
    ∃ j' : Int, [V.int j] = [.int j'] ∧ -(2 ^ 62) ≤ j' ∧ j' < 2 ^ 62 ∧ ∃ W : Nat → Nat → L2.St → Hp → Prop, (∃ m, W 0 m σ H) ∧ ∀ i m σ H, W i m σ H →
  ((Itr 0 j'.toNat).stop i H ∧ D.nx σ H) ∨ ((Itr 0 j'.toNat).go i H ∧ ∃ N : L2.St → Hp → Prop, (∀ σ' H', N σ' H' → ∃ m', m' < m ∧ W (i + 1) m' σ' H') ∧ ∀ x H', (Itr 0 j'.toNat).yld i H x H' → g x σ H' fun σ2 H2 => tb { D with nx := N, ct := N, bk := D.nx } σ2 H2) := by
  subst hj
  refine ⟨j, rfl, hb.1, hb.2, for_range (lo := 0) Pv h0 (fun i σ H hi p => ?_) hd⟩
  have e : (0 : Int) + (i : Nat) = (i : Nat) := Int.zero_add _
  rw [e]
  exact hs i σ H hi p
theorem for_rng2 {σ : L2.St} {ta : TA} {g : TG} {tb : TS} (h : ta σ H fun vs H1 => ∃ i j : Int, vs = [.int i, .int j] ∧ (-(2 ^ 62) ≤ i ∧ i < 2 ^ 62 ∧ -(2 ^ 62) ≤ j ∧ j < 2 ^ 62) ∧ ∃ W : Nat → Nat → L2.St → Hp → Prop, (∃ m, W 0 m σ H1) ∧ ∀ k m σ H, W k m σ H →
  ((Itr i (j - i).toNat).stop k H ∧ D.nx σ H) ∨ ((Itr i (j - i).toNat).go k H ∧ ∃ N : L2.St → Hp → Prop, (∀ σ' H', N σ' H' → ∃ m', m' < m ∧ W (k + 1) m' σ' H') ∧ ∀ x H', (Itr i (j - i).toNat).yld k H x H' → g x σ H' fun σ2 H2 => tb { D with nx := N, ct := N, bk := D.nx } σ2 H2)) : tFor (iRng2 ta) g tb D σ H := h
theorem rng_go2 {σ : L2.St} {a j : Int} {g : TG} {tb : TS} (n : Nat) (hj : (j - a).toNat = n) (hb : -(2 ^ 62) ≤ a ∧ a < 2 ^ 62 ∧ -(2 ^ 62) ≤ j ∧ j < 2 ^ 62) (Pv : Nat → L2.St → Hp → Prop) (h0 : Pv 0 σ H)
    (hs : ∀ i σ H, i < n → Pv i σ H → g (.int (a + (i : Nat))) σ H fun σ2 H2 => tb { D with nx := Pv (i + 1), ct := Pv (i + 1), bk := D.nx } σ2 H2) (hd : ∀ σ H, Pv n σ H → D.nx σ H) :
    ∃ i' j' : Int, [V.int a, V.int j] = [.int i', .int j'] ∧ (-(2 ^ 62) ≤ i' ∧ i' < 2 ^ 62 ∧ -(2 ^ 62) ≤ j' ∧ j' < 2 ^ 62) ∧ ∃ W : Nat → Nat → L2.St → Hp → Prop, (∃ m, W 0 m σ H) ∧ ∀ k m σ H, W k m σ H →
  ((Itr i' (j' - i').toNat).stop k H ∧ D.nx σ H) ∨ ((Itr i' (j' - i').toNat).go k H ∧ ∃ N : L2.St → Hp → Prop, (∀ σ' H', N σ' H' → ∃ m', m' < m ∧ W (k + 1) m' σ' H') ∧ ∀ x H', (Itr i' (j' - i').toNat).yld k H x H' → g x σ H' fun σ2 H2 => tb { D with nx := N, ct := N, bk := D.nx } σ2 H2) := by
  subst hj
  exact ⟨a, j, rfl, hb, for_range (lo := a) Pv h0 hs hd⟩
end
theorem for_enum {D : Ends} {H : Hp} {K : PySem.W.Frag} {σ : L2.St} {ta : TA} {g : TG} {tb : TS} (h : ta σ H fun vs H1 => ∃ a xs, vs = [.ref a] ∧ SqL K H1 a xs ∧ ∃ W : Nat → Nat → L2.St → Hp → Prop, (∃ m, W 0 m σ H1) ∧ ∀ i m σ H, W i m σ H →
  ((Ite K a).stop i H ∧ D.nx σ H) ∨ ((Ite K a).go i H ∧ ∃ N : L2.St → Hp → Prop, (∀ σ' H', N σ' H' → ∃ m', m' < m ∧ W (i + 1) m' σ' H') ∧ ∀ x H', (Ite K a).yld i H x H' → g x σ H' fun σ2 H2 => tb { D with nx := N, ct := N, bk := D.nx } σ2 H2)) : tFor (iEnum K ta) g tb D σ H := h
theorem enum_go {D : Ends} {H : Hp} {K : PySem.W.Frag} {σ : L2.St} {a : Addr} {xs : List V} {g : TG} {tb : TS} (hs0 : SqL K H a xs) (Pv : Nat → L2.St → Hp → Prop) (h0 : Pv 0 σ H) (hl : ∀ i σ H, i ≤ xs.length → Pv i σ H → SqL K H a xs)
    (hs : ∀ i x σ H T, xs[i]? = some x → Pv i σ H → H T = none → g (.ref T) σ (upd H T (.tup [.int (i : Nat), x])) fun σ2 H2 => tb { D with nx := Pv (i + 1), ct := Pv (i + 1), bk := D.nx } σ2 H2) (hd : ∀ σ H, Pv xs.length σ H → D.nx σ H) :
    ∃ a' xs', [V.ref a] = [.ref a'] ∧ SqL K H a' xs' ∧ ∃ W : Nat → Nat → L2.St → Hp → Prop, (∃ m, W 0 m σ H) ∧ ∀ i m σ H, W i m σ H →
  ((Ite K a').stop i H ∧ D.nx σ H) ∨ ((Ite K a').go i H ∧ ∃ N : L2.St → Hp → Prop, (∀ σ' H', N σ' H' → ∃ m', m' < m ∧ W (i + 1) m' σ' H') ∧ ∀ x H', (Ite K a').yld i H x H' → g x σ H' fun σ2 H2 => tb { D with nx := N, ct := N, bk := D.nx } σ2 H2) := by
  refine ⟨a, xs, rfl, hs0, fun i m σ H => m = xs.length - i ∧ i ≤ xs.length ∧ Pv i σ H, ⟨xs.length, by simp, Nat.zero_le _, h0⟩, ?_⟩
  rintro i m σ H ⟨rfl, hi, p⟩
  have q := hl i σ H hi p
  by_cases hlt : i < xs.length
  · refine .inr ⟨⟨xs, xs[i], q, by simp [hlt]⟩, Pv (i + 1), fun σ' H' p' => ⟨xs.length - (i + 1), by omega, rfl, hlt, p'⟩, fun x H' y => ?_⟩
    obtain ⟨T, x, rfl, hT, rfl, hx⟩ := y
    exact hs i x σ H T (hx xs q) p hT
  · have e : i = xs.length := by omega
    subst e
    exact .inl ⟨⟨xs, q, Nat.le_refl _⟩, hd σ H p⟩
theorem r_pair {H : Hp} {K : PySem.W.Frag} {σ σ2 : L2.St} {i j : Nat} {T : Addr} {x y : V} {k : L2.St → Hp → Prop} (hT : H T = some (.tup [x, y])) (hs : (σ.set i (some x)).set j (some y) = σ2) (h : k σ2 H) :
    gTup K 2 (gCons (gName i) (gCons (gName j) gNil)) (.ref T) σ H k := by
  subst hs
  exact ⟨T, [x, y], rfl, .inl (.inl hT), rfl, x, [y], rfl, y, [], rfl, rfl, h⟩
theorem r_three {H : Hp} {K : PySem.W.Frag} {σ σ2 : L2.St} {i j l : Nat} {T : Addr} {x y z : V} {k : L2.St → Hp → Prop} (hT : H T = some (.tup [x, y, z])) (hs : ((σ.set i (some x)).set j (some y)).set l (some z) = σ2) (h : k σ2 H) :
    gTup K 3 (gCons (gName i) (gCons (gName j) (gCons (gName l) gNil))) (.ref T) σ H k := by
  subst hs
  exact ⟨T, [x, y, z], rfl, .inl (.inl hT), rfl, x, [y, z], rfl, y, [z], rfl, z, [], rfl, rfl, h⟩
theorem r_gsub {H : Hp} {σ : L2.St} {to ti : TE} {t : TSet} {v : V} {k : L2.St → Hp → Prop} (h : to σ H fun o H1 => ti σ H1 fun i H2 => t o i v H2 fun H3 => k σ H3) : gSub to ti t v σ H k := h
theorem r_setL {H : Hp} {p : Addr} {xs : List V} {k : Int} {j : Nat} {v : V} {Q : Hp → Prop} (hp : H p = some (.lst xs)) (e : k = (j : Int)) (hj : j < xs.length) (q : Q (upd H p (.lst (xs.set j v)))) : rSetL (.ref p) (.int k) v H Q := by
  subst e
  refine ⟨p, xs, (j : Int), j, rfl, rfl, hp, ?_, q⟩
  unfold ixN
  rw [if_pos (by omega), if_pos (by omega), Int.toNat_natCast]
theorem r_rep {H : Hp} {Q : VK} {l : Addr} {k : Int} {v : V} (hl : H l = some (.lst [v])) (h1 : -(2 ^ 63) ≤ k) (h2 : k < 100000) (q : ∀ p, H p = none → Q (.ref p) (upd H p (.lst (List.replicate k.toNat v)))) : rRep (.ref l) (.int k) H Q := by
  refine ⟨l, k, [v], rfl, rfl, hl, h1, Int.lt_trans h2 (by decide), sz (by show 1 * k.toNat ≤ 100000; omega), fun p hp => ?_⟩
  have e : (List.replicate k.toNat [v]).flatten = List.replicate k.toNat v := by
    generalize k.toNat = n
    induction n with
    | zero => rfl
    | succ n ih => rw [List.replicate_succ, List.flatten_cons, ih, List.replicate_succ]; rfl
  rw [e]
  exact q p hp
theorem r_cat {H : Hp} {Q : VK} {l b : Addr} {xs zs : List V} (hl : H l = some (.lst xs)) (hb : H b = some (.lst zs)) (hz : xs.length + zs.length ≤ 100000) (q : ∀ p, H p = none → Q (.ref p) (upd H p (.lst (xs ++ zs)))) : rCat (.ref l) (.ref b) H Q :=
  ⟨l, b, xs, zs, rfl, rfl, hl, hb, sz hz, q⟩
def cList (K : PySem.W.Frag) : List V → Hp → VK → Prop := fun xs H Q => ∃ p ys, xs = [.ref p] ∧ (SqL K H p ys ∨ SqT K H p ys) ∧ ∀ l, H l = none → Q (.ref l) (upd H l (.lst ys))
theorem call_list {X : Cx} : CallR X (.type "list") (cList X.K) := call_list_of
theorem r_list {H : Hp} {K : PySem.W.Frag} {Q : VK} {p : Addr} {ys : List V} (h : SqL K H p ys) (q : ∀ l, H l = none → Q (.ref l) (upd H l (.lst ys))) : cList K [.ref p] H Q := ⟨p, ys, rfl, .inl h, q⟩
theorem r_intB {H : Hp} {Q : VK} {b : Bool} (q : Q (.int (if b then 1 else 0)) H) : cInt [.bl b] H Q := .inr ⟨b, rfl, q⟩
/-! two lists of ints compared -/
theorem dp_ints {K : PySem.W.Frag} {H : Hp} : ∀ ns : List Int, DpAll K H (ns.map V.int) (ns.map PyData.int)
  | [] => .nil
  | n :: r => .cons (.int n) (dp_ints r)
theorem depth_ints : ∀ ns : List Int, PyData.depthAll (ns.map PyData.int) = 0
  | [] => rfl
  | n :: r => by
    show max 0 (PyData.depthAll (r.map PyData.int)) = 0
    rw [depth_ints r]; rfl
theorem lay_ints : ∀ ns : List Int, PyData.canLayAll0 (ns.map PyData.int) = true
  | [] => rfl
  | n :: r => by
    show (true && PyData.canLayAll0 (r.map PyData.int)) = true
    rw [lay_ints r]; rfl
theorem shaped_ints (ns : List Int) : SeqAt.shaped (.list (ns.map PyData.int)) = true := by
  have h1 : (PyData.list (ns.map PyData.int)).canLay0 = true := lay_ints ns
  have h2 : (PyData.list (ns.map PyData.int)).depth ≤ 64 := by
    show PyData.depthAll (ns.map PyData.int) + 1 ≤ 64
    rw [depth_ints ns]; decide
  unfold SeqAt.shaped
  rw [h1, decide_eq_true h2]; rfl
theorem eqv_ints : ∀ ns : List Int, PyData.eqv (.list (ns.map PyData.int)) (.list (ns.map PyData.int)) = true := by
  intro ns
  unfold PyData.eqv
  induction ns with
  | nil => rfl
  | cons n r ih => simp [PyData.eqvAll, PyData.eqv, ih]
theorem r_eqL {H : Hp} {K : PySem.W.Frag} {Q : VK} {a b : Addr} {ns : List Int} (ha : SqL K H a (ns.map V.int)) (hb : SqL K H b (ns.map V.int)) (q : Q (.bl true) H) : rEqD K (.ref a) (.ref b) H Q :=
  ⟨_, _, .lst ha (dp_ints ns), .lst hb (dp_ints ns), shaped_ints ns, shaped_ints ns, by rw [eqv_ints]; exact q⟩
theorem eqv_ints2 : ∀ ns ms : List Int, PyData.eqv (.list (ns.map PyData.int)) (.list (ms.map PyData.int)) = dB (ns = ms) := by
  intro ns
  induction ns with
  | nil =>
    intro ms
    cases ms with
    | nil => rw [dB_t rfl]; simp [PyData.eqv, PyData.eqvAll]
    | cons m r => rw [dB_f (by simp)]; simp [PyData.eqv, PyData.eqvAll]
  | cons n ns ih =>
    intro ms
    cases ms with
    | nil => rw [dB_f (by simp)]; simp [PyData.eqv, PyData.eqvAll]
    | cons m r =>
      have i2 := ih r
      unfold PyData.eqv at i2
      have e : PyData.eqv (.list ((n :: ns).map PyData.int)) (.list ((m :: r).map PyData.int)) = ((n == m) && PyData.eqv (.list (ns.map PyData.int)) (.list (r.map PyData.int))) := by
        unfold PyData.eqv
        simp [PyData.eqvAll, PyData.eqv]
      rw [e, ih r]
      by_cases h : n = m
      · subst h
        by_cases h2 : ns = r
        · subst h2; rw [dB_t rfl, dB_t rfl]; simp
        · rw [dB_f h2, dB_f (by intro z; injection z with _ z; exact h2 z)]; simp
      · rw [dB_f (p := n :: ns = m :: r) (by intro z; injection z with z _; exact h z)]; simp [h]
theorem r_eqL2 {H : Hp} {K : PySem.W.Frag} {Q : VK} {a b : Addr} {ns ms : List Int} (ha : SqL K H a (ns.map V.int)) (hb : SqL K H b (ms.map V.int)) (q : Q (.bl (dB (ns = ms))) H) : rEqD K (.ref a) (.ref b) H Q :=
  ⟨_, _, .lst ha (dp_ints ns), .lst hb (dp_ints ms), shaped_ints ns, shaped_ints ms, by rw [eqv_ints2]; exact q⟩
theorem r_sum {K : PySem.W.Frag} {H : Hp} {Q : VK} {a : Addr} {ns : List Int} (h : SqL K H a (ns.map V.int)) (q : Q (.int ns.sum) H) : rSum K [.ref a] H Q := ⟨a, ns, rfl, h, q⟩
/-! comprehensions whose elements leave all as it was -/
theorem lc_rng {H : Hp} {Q : VK} {σ : L2.St} {ta : TA} {g : TG} {tt : TT} {te : TE} {vs : List Nat} (h : ta σ H fun ws H1 => ∃ j : Int, ws = [V.int j] ∧ -(2 ^ 62) ≤ j ∧ j < 2 ^ 62 ∧ ∀ D, H1 D = none → ∃ W : Nat → Nat → Hp → Prop, (∃ m, W 0 m (upd H1 D (.lst []))) ∧ ∀ i m H, W i m H →
  ((Itr 0 j.toNat).stop i H ∧ Q (.ref D) H) ∨ ((Itr 0 j.toNat).go i H ∧ ∃ Nx : Hp → Prop, (∀ H', Nx H' → ∃ m', m' < m ∧ W (i + 1) m' H') ∧ ∀ x H', (Itr 0 j.toNat).yld i H x H' → g x (wipe σ vs) H' fun σ2 H2 => wipe σ2 vs = wipe σ vs ∧ tt σ2 H2 fun b H3 =>
    if b = true then te σ2 H3 fun y H4 => ∃ acc, H4 D = some (.lst acc) ∧ acc.length < sizeLine ∧ Nx (upd H4 D (.lst (acc ++ [y]))) else Nx H3)) : tLc (iRng1 ta) g tt te vs σ H Q := h
theorem lc_lst {H : Hp} {K : PySem.W.Frag} {Q : VK} {σ : L2.St} {tl : TE} {g : TG} {tt : TT} {te : TE} {vs : List Nat} (h : tl σ H fun x H1 => ∃ a, x = .ref a ∧ (∃ xs, SqL K H1 a xs) ∧ ∀ D, H1 D = none → ∃ W : Nat → Nat → Hp → Prop, (∃ m, W 0 m (upd H1 D (.lst []))) ∧ ∀ i m H, W i m H →
  ((Itl K a).stop i H ∧ Q (.ref D) H) ∨ ((Itl K a).go i H ∧ ∃ Nx : Hp → Prop, (∀ H', Nx H' → ∃ m', m' < m ∧ W (i + 1) m' H') ∧ ∀ x H', (Itl K a).yld i H x H' → g x (wipe σ vs) H' fun σ2 H2 => wipe σ2 vs = wipe σ vs ∧ tt σ2 H2 fun b H3 =>
    if b = true then te σ2 H3 fun y H4 => ∃ acc, H4 D = some (.lst acc) ∧ acc.length < sizeLine ∧ Nx (upd H4 D (.lst (acc ++ [y]))) else Nx H3)) : tLc (iList K tl) g tt te vs σ H Q := h
theorem lcr_pure {H1 : Hp} {Qd : Addr → Hp → Prop} {σ : L2.St} {te : TE} {vs : List Nat} {sl : Nat} {j : Int} (n : Nat) (f : Nat → V) (hj : j.toNat = n) (hb : -(2 ^ 62) ≤ j ∧ j < 2 ^ 62) (hz : n ≤ 100000) (hw : ∀ v : Option V, wipe ((wipe σ vs).set sl v) vs = wipe σ vs)
    (hs : ∀ i H2, i < n → Same H1 H2 → ∀ k : VK, (∀ H5, Same H2 H5 → k (f i) H5) → te ((wipe σ vs).set sl (some (V.int (i : Nat)))) H2 k)
    (hd : ∀ D H2, H1 D = none → Same H1 H2 → H2 D = some (.lst ((List.range n).map f)) → Qd D H2) :
    ∃ j' : Int, [V.int j] = [V.int j'] ∧ -(2 ^ 62) ≤ j' ∧ j' < 2 ^ 62 ∧ ∀ D, H1 D = none → ∃ W : Nat → Nat → Hp → Prop, (∃ m, W 0 m (upd H1 D (.lst []))) ∧ ∀ i m H, W i m H →
  ((Itr 0 j'.toNat).stop i H ∧ Qd D H) ∨ ((Itr 0 j'.toNat).go i H ∧ ∃ Nx : Hp → Prop, (∀ H', Nx H' → ∃ m', m' < m ∧ W (i + 1) m' H') ∧ ∀ x H', (Itr 0 j'.toNat).yld i H x H' → gName sl x (wipe σ vs) H' fun σ2 H2 => wipe σ2 vs = wipe σ vs ∧ tYes σ2 H2 fun b H3 =>
    if b = true then te σ2 H3 fun y H4 => ∃ acc, H4 D = some (.lst acc) ∧ acc.length < sizeLine ∧ Nx (upd H4 D (.lst (acc ++ [y]))) else Nx H3) := by
  refine ⟨j, rfl, hb.1, hb.2, fun D hD => ?_⟩
  subst hj
  refine lc_range (lo := 0) (fun i H2 => Same H1 H2 ∧ H2 D = some (.lst ((List.range i).map f))) ⟨s_upd hD, upd_same⟩ (fun i H2 hi ⟨s2, hl⟩ => ?_) (fun H2 ⟨s2, hl⟩ => hd D H2 hD s2 hl)
  have e : (0 : Int) + (i : Nat) = (i : Nat) := Int.zero_add _
  rw [e]
  refine ⟨hw _, i_t (B := Same H1 H2 ∧ H2 D = some (.lst ((List.range (i + 1)).map f))) ?_⟩
  refine (hs i H2 hi s2 _ fun H5 s5 => ⟨_, s5 _ _ hl, szl (by rw [List.length_map, List.length_range]; omega), s_mut (s2.trans s5) hD, ?_⟩)
  rw [List.range_succ, List.map_append]
  exact upd_same
theorem lcl_pure {H1 : Hp} {K : PySem.W.Frag} {Qd : Addr → Hp → Prop} {σ : L2.St} {te : TE} {vs : List Nat} {sl : Nat} {a : Addr} {xs : List V} (f : V → V) (hx : SqL K H1 a xs) (hz : xs.length ≤ 100000) (hw : ∀ v : Option V, wipe ((wipe σ vs).set sl v) vs = wipe σ vs)
    (hs : ∀ (i : Nat) x H2, xs[i]? = some x → Same H1 H2 → ∀ k : VK, (∀ H5, Same H2 H5 → k (f x) H5) → te ((wipe σ vs).set sl (some x)) H2 k)
    (hd : ∀ D H2, H1 D = none → Same H1 H2 → H2 D = some (.lst (xs.map f)) → Qd D H2) :
    ∃ a', V.ref a = .ref a' ∧ (∃ xs, SqL K H1 a' xs) ∧ ∀ D, H1 D = none → ∃ W : Nat → Nat → Hp → Prop, (∃ m, W 0 m (upd H1 D (.lst []))) ∧ ∀ i m H, W i m H →
  ((Itl K a').stop i H ∧ Qd D H) ∨ ((Itl K a').go i H ∧ ∃ Nx : Hp → Prop, (∀ H', Nx H' → ∃ m', m' < m ∧ W (i + 1) m' H') ∧ ∀ x H', (Itl K a').yld i H x H' → gName sl x (wipe σ vs) H' fun σ2 H2 => wipe σ2 vs = wipe σ vs ∧ tYes σ2 H2 fun b H3 =>
    if b = true then te σ2 H3 fun y H4 => ∃ acc, H4 D = some (.lst acc) ∧ acc.length < sizeLine ∧ Nx (upd H4 D (.lst (acc ++ [y]))) else Nx H3) := by
  refine ⟨a, rfl, ⟨xs, hx⟩, fun D hD => ?_⟩
  refine lc_list (K := K) (xs := xs) (fun i H2 => Same H1 H2 ∧ H2 D = some (.lst ((xs.take i).map f))) ⟨s_upd hD, upd_same⟩ (fun i H2 _ p => p.1.seq hx) (fun i x H2 hi ⟨s2, hl⟩ => ?_) (fun H2 ⟨s2, hl⟩ => hd D H2 hD s2 (by rw [List.take_length] at hl; exact hl))
  have hlt := (List.getElem?_eq_some_iff.mp hi).1
  refine ⟨hw _, i_t (B := Same H1 H2 ∧ H2 D = some (.lst ((xs.take (i + 1)).map f))) ?_⟩
  refine (hs i x H2 hi s2 _ fun H5 s5 => ⟨_, s5 _ _ hl, szl (by rw [List.length_map, List.length_take]; omega), s_mut (s2.trans s5) hD, ?_⟩)
  rw [List.take_add_one, hi, List.map_append]
  exact upd_same
theorem lcl_idx {H1 : Hp} {K : PySem.W.Frag} {Qd : Addr → Hp → Prop} {σ : L2.St} {te : TE} {vs : List Nat} {sl : Nat} {a : Addr} {xs : List V} (f : Nat → V) (hx : SqL K H1 a xs) (hz : xs.length ≤ 100000) (hw : ∀ v : Option V, wipe ((wipe σ vs).set sl v) vs = wipe σ vs)
    (hs : ∀ (i : Nat) x H2, xs[i]? = some x → Same H1 H2 → ∀ k : VK, (∀ H5, Same H2 H5 → k (f i) H5) → te ((wipe σ vs).set sl (some x)) H2 k)
    (hd : ∀ D H2, H1 D = none → Same H1 H2 → H2 D = some (.lst ((List.range xs.length).map f)) → Qd D H2) :
    ∃ a', V.ref a = .ref a' ∧ (∃ xs, SqL K H1 a' xs) ∧ ∀ D, H1 D = none → ∃ W : Nat → Nat → Hp → Prop, (∃ m, W 0 m (upd H1 D (.lst []))) ∧ ∀ i m H, W i m H →
  ((Itl K a').stop i H ∧ Qd D H) ∨ ((Itl K a').go i H ∧ ∃ Nx : Hp → Prop, (∀ H', Nx H' → ∃ m', m' < m ∧ W (i + 1) m' H') ∧ ∀ x H', (Itl K a').yld i H x H' → gName sl x (wipe σ vs) H' fun σ2 H2 => wipe σ2 vs = wipe σ vs ∧ tYes σ2 H2 fun b H3 =>
    if b = true then te σ2 H3 fun y H4 => ∃ acc, H4 D = some (.lst acc) ∧ acc.length < sizeLine ∧ Nx (upd H4 D (.lst (acc ++ [y]))) else Nx H3) := by
  refine ⟨a, rfl, ⟨xs, hx⟩, fun D hD => ?_⟩
  refine lc_list (K := K) (xs := xs) (fun i H2 => Same H1 H2 ∧ H2 D = some (.lst ((List.range i).map f))) ⟨s_upd hD, upd_same⟩ (fun i H2 _ p => p.1.seq hx) (fun i x H2 hi ⟨s2, hl⟩ => ?_) (fun H2 ⟨s2, hl⟩ => hd D H2 hD s2 hl)
  have hlt := (List.getElem?_eq_some_iff.mp hi).1
  refine ⟨hw _, i_t (B := Same H1 H2 ∧ H2 D = some (.lst ((List.range (i + 1)).map f))) ?_⟩
  refine (hs i x H2 hi s2 _ fun H5 s5 => ⟨_, s5 _ _ hl, szl (by rw [List.length_map, List.length_range]; omega), s_mut (s2.trans s5) hD, ?_⟩)
  rw [List.range_succ, List.map_append]
  exact upd_same
theorem lc_rng2 {H : Hp} {Q : VK} {σ : L2.St} {ta : TA} {g : TG} {tt : TT} {te : TE} {vs : List Nat} (h : ta σ H fun ws H1 => ∃ a j : Int, ws = [V.int a, V.int j] ∧ (-(2 ^ 62) ≤ a ∧ a < 2 ^ 62 ∧ -(2 ^ 62) ≤ j ∧ j < 2 ^ 62) ∧ ∀ D, H1 D = none → ∃ W : Nat → Nat → Hp → Prop, (∃ m, W 0 m (upd H1 D (.lst []))) ∧ ∀ i m H, W i m H →
  ((Itr a (j - a).toNat).stop i H ∧ Q (.ref D) H) ∨ ((Itr a (j - a).toNat).go i H ∧ ∃ Nx : Hp → Prop, (∀ H', Nx H' → ∃ m', m' < m ∧ W (i + 1) m' H') ∧ ∀ x H', (Itr a (j - a).toNat).yld i H x H' → g x (wipe σ vs) H' fun σ2 H2 => wipe σ2 vs = wipe σ vs ∧ tt σ2 H2 fun b H3 =>
    if b = true then te σ2 H3 fun y H4 => ∃ acc, H4 D = some (.lst acc) ∧ acc.length < sizeLine ∧ Nx (upd H4 D (.lst (acc ++ [y]))) else Nx H3)) : tLc (iRng2 ta) g tt te vs σ H Q := h
/-- a comprehension over range(a, j) with a test; elements and tests leave all as it was -/
theorem lcr2_filt {H1 : Hp} {Qd : Addr → Hp → Prop} {σ : L2.St} {tt : TT} {te : TE} {vs : List Nat} {sl : Nat} {a j : Int} (n : Nat) (p : Nat → Bool) (f : Nat → V) (hj : (j - a).toNat = n) (hb : -(2 ^ 62) ≤ a ∧ a < 2 ^ 62 ∧ -(2 ^ 62) ≤ j ∧ j < 2 ^ 62) (hz : n ≤ 100000) (hw : ∀ v : Option V, wipe ((wipe σ vs).set sl v) vs = wipe σ vs)
    (ht : ∀ i H2, i < n → Same H1 H2 → ∀ k : Bool → Hp → Prop, (∀ H5, Same H2 H5 → k (p i) H5) → tt ((wipe σ vs).set sl (some (V.int (a + (i : Nat))))) H2 k)
    (hs : ∀ i H2, i < n → Same H1 H2 → ∀ k : VK, (∀ H5, Same H2 H5 → k (f i) H5) → te ((wipe σ vs).set sl (some (V.int (a + (i : Nat))))) H2 k)
    (hd : ∀ D H2, H1 D = none → Same H1 H2 → H2 D = some (.lst (((List.range n).filter p).map f)) → Qd D H2) :
    ∃ a' j' : Int, [V.int a, V.int j] = [V.int a', V.int j'] ∧ (-(2 ^ 62) ≤ a' ∧ a' < 2 ^ 62 ∧ -(2 ^ 62) ≤ j' ∧ j' < 2 ^ 62) ∧ ∀ D, H1 D = none → ∃ W : Nat → Nat → Hp → Prop, (∃ m, W 0 m (upd H1 D (.lst []))) ∧ ∀ i m H, W i m H →
  ((Itr a' (j' - a').toNat).stop i H ∧ Qd D H) ∨ ((Itr a' (j' - a').toNat).go i H ∧ ∃ Nx : Hp → Prop, (∀ H', Nx H' → ∃ m', m' < m ∧ W (i + 1) m' H') ∧ ∀ x H', (Itr a' (j' - a').toNat).yld i H x H' → gName sl x (wipe σ vs) H' fun σ2 H2 => wipe σ2 vs = wipe σ vs ∧ tt σ2 H2 fun b H3 =>
    if b = true then te σ2 H3 fun y H4 => ∃ acc, H4 D = some (.lst acc) ∧ acc.length < sizeLine ∧ Nx (upd H4 D (.lst (acc ++ [y]))) else Nx H3) := by
  refine ⟨a, j, rfl, hb, fun D hD => ?_⟩
  subst hj
  refine lc_range (lo := a) (fun i H2 => Same H1 H2 ∧ H2 D = some (.lst (((List.range i).filter p).map f))) ⟨s_upd hD, upd_same⟩ (fun i H2 hi ⟨s2, hl⟩ => ?_) (fun H2 ⟨s2, hl⟩ => hd D H2 hD s2 hl)
  refine ⟨hw _, ht i H2 hi s2 _ fun H5 s5 => ?_⟩
  have hl5 := s5 _ _ hl
  cases hp : p i with
  | true =>
    refine i_t ?_
    refine (hs i H5 hi (s2.trans s5) _ fun H6 s6 => ⟨_, s6 _ _ hl5, szl ?_, s_mut ((s2.trans s5).trans s6) hD, ?_⟩)
    · rw [List.length_map]
      have := List.length_filter_le p (List.range i)
      rw [List.length_range] at this
      omega
    · rw [List.range_succ, List.filter_append, List.filter_cons, hp, if_pos rfl, List.filter_nil, List.map_append]
      exact upd_same
  | false =>
    refine i_f ⟨s2.trans s5, ?_⟩
    rw [List.range_succ, List.filter_append, List.filter_cons, hp, if_neg Bool.false_ne_true, List.filter_nil, List.append_nil]
    exact hl5
theorem lcr_filt {H1 : Hp} {Qd : Addr → Hp → Prop} {σ : L2.St} {tt : TT} {te : TE} {vs : List Nat} {sl : Nat} {j : Int} (n : Nat) (p : Nat → Bool) (f : Nat → V) (hj : j.toNat = n) (hb : -(2 ^ 62) ≤ j ∧ j < 2 ^ 62) (hz : n ≤ 100000) (hw : ∀ v : Option V, wipe ((wipe σ vs).set sl v) vs = wipe σ vs)
    (ht : ∀ i H2, i < n → Same H1 H2 → ∀ k : Bool → Hp → Prop, (∀ H5, Same H2 H5 → k (p i) H5) → tt ((wipe σ vs).set sl (some (V.int (i : Nat)))) H2 k)
    (hs : ∀ i H2, i < n → Same H1 H2 → ∀ k : VK, (∀ H5, Same H2 H5 → k (f i) H5) → te ((wipe σ vs).set sl (some (V.int (i : Nat)))) H2 k)
    (hd : ∀ D H2, H1 D = none → Same H1 H2 → H2 D = some (.lst (((List.range n).filter p).map f)) → Qd D H2) :
    ∃ j' : Int, [V.int j] = [V.int j'] ∧ -(2 ^ 62) ≤ j' ∧ j' < 2 ^ 62 ∧ ∀ D, H1 D = none → ∃ W : Nat → Nat → Hp → Prop, (∃ m, W 0 m (upd H1 D (.lst []))) ∧ ∀ i m H, W i m H →
  ((Itr 0 j'.toNat).stop i H ∧ Qd D H) ∨ ((Itr 0 j'.toNat).go i H ∧ ∃ Nx : Hp → Prop, (∀ H', Nx H' → ∃ m', m' < m ∧ W (i + 1) m' H') ∧ ∀ x H', (Itr 0 j'.toNat).yld i H x H' → gName sl x (wipe σ vs) H' fun σ2 H2 => wipe σ2 vs = wipe σ vs ∧ tt σ2 H2 fun b H3 =>
    if b = true then te σ2 H3 fun y H4 => ∃ acc, H4 D = some (.lst acc) ∧ acc.length < sizeLine ∧ Nx (upd H4 D (.lst (acc ++ [y]))) else Nx H3) := by
  refine ⟨j, rfl, hb.1, hb.2, fun D hD => ?_⟩
  subst hj
  refine lc_range (lo := 0) (fun i H2 => Same H1 H2 ∧ H2 D = some (.lst (((List.range i).filter p).map f))) ⟨s_upd hD, upd_same⟩ (fun i H2 hi ⟨s2, hl⟩ => ?_) (fun H2 ⟨s2, hl⟩ => hd D H2 hD s2 hl)
  have e0 : (0 : Int) + (i : Nat) = (i : Nat) := Int.zero_add _
  rw [e0]
  refine ⟨hw _, ht i H2 hi s2 _ fun H5 s5 => ?_⟩
  have hl5 := s5 _ _ hl
  cases hp : p i with
  | true =>
    refine i_t ?_
    refine (hs i H5 hi (s2.trans s5) _ fun H6 s6 => ⟨_, s6 _ _ hl5, szl ?_, s_mut ((s2.trans s5).trans s6) hD, ?_⟩)
    · rw [List.length_map]
      have := List.length_filter_le p (List.range i)
      rw [List.length_range] at this
      omega
    · rw [List.range_succ, List.filter_append, List.filter_cons, hp, if_pos rfl, List.filter_nil, List.map_append]
      exact upd_same
  | false =>
    refine i_f ⟨s2.trans s5, ?_⟩
    rw [List.range_succ, List.filter_append, List.filter_cons, hp, if_neg Bool.false_ne_true, List.filter_nil, List.append_nil]
    exact hl5
/-! ranges with a step -/
theorem for_rng3 {D : Ends} {H : Hp} {σ : L2.St} {ta : TA} {g : TG} {tb : TS} (h : ta σ H fun vs H1 => ∃ (i j c : Int) (n : Nat), vs = [V.int i, V.int j, V.int c] ∧ RgC i j c n ∧ ∃ W : Nat → Nat → L2.St → Hp → Prop, (∃ m, W 0 m σ H1) ∧ ∀ k m σ H, W k m σ H →
  ((Itc i c n).stop k H ∧ D.nx σ H) ∨ ((Itc i c n).go k H ∧ ∃ N : L2.St → Hp → Prop, (∀ σ' H', N σ' H' → ∃ m', m' < m ∧ W (k + 1) m' σ' H') ∧ ∀ x H', (Itc i c n).yld k H x H' → g x σ H' fun σ2 H2 => tb { D with nx := N, ct := N, bk := D.nx } σ2 H2)) : tFor (iRng3 ta) g tb D σ H := h
theorem rng_go3 {D : Ends} {H1 : Hp} {σ : L2.St} {a j c : Int} {g : TG} {tb : TS} (n : Nat) (hr : RgC a j c n) (Pv : Nat → L2.St → Hp → Prop) (h0 : Pv 0 σ H1)
    (hs : ∀ i σ H, i < n → Pv i σ H → g (V.int (a + (i : Nat) * c)) σ H fun σ2 H2 => tb { D with nx := Pv (i + 1), ct := Pv (i + 1), bk := D.nx } σ2 H2) (hd : ∀ σ H, Pv n σ H → D.nx σ H) :
    ∃ (i' j' c' : Int) (n' : Nat), [V.int a, V.int j, V.int c] = [V.int i', V.int j', V.int c'] ∧ RgC i' j' c' n' ∧ ∃ W : Nat → Nat → L2.St → Hp → Prop, (∃ m, W 0 m σ H1) ∧ ∀ k m σ H, W k m σ H →
  ((Itc i' c' n').stop k H ∧ D.nx σ H) ∨ ((Itc i' c' n').go k H ∧ ∃ N : L2.St → Hp → Prop, (∀ σ' H', N σ' H' → ∃ m', m' < m ∧ W (k + 1) m' σ' H') ∧ ∀ x H', (Itc i' c' n').yld k H x H' → g x σ H' fun σ2 H2 => tb { D with nx := N, ct := N, bk := D.nx } σ2 H2) :=
  ⟨a, j, c, n, rfl, hr, for_rangeC (lo := a) (c := c) Pv h0 hs hd⟩
theorem lc_rng3 {H : Hp} {Q : VK} {σ : L2.St} {ta : TA} {g : TG} {tt : TT} {te : TE} {vs : List Nat} (h : ta σ H fun ws H1 => ∃ (lo j c : Int) (n : Nat), ws = [V.int lo, V.int j, V.int c] ∧ RgC lo j c n ∧ ∀ D, H1 D = none → ∃ W : Nat → Nat → Hp → Prop, (∃ m, W 0 m (upd H1 D (.lst []))) ∧ ∀ i m H, W i m H →
  ((Itc lo c n).stop i H ∧ Q (.ref D) H) ∨ ((Itc lo c n).go i H ∧ ∃ Nx : Hp → Prop, (∀ H', Nx H' → ∃ m', m' < m ∧ W (i + 1) m' H') ∧ ∀ x H', (Itc lo c n).yld i H x H' → g x (wipe σ vs) H' fun σ2 H2 => wipe σ2 vs = wipe σ vs ∧ tt σ2 H2 fun b H3 =>
    if b = true then te σ2 H3 fun y H4 => ∃ acc, H4 D = some (.lst acc) ∧ acc.length < sizeLine ∧ Nx (upd H4 D (.lst (acc ++ [y]))) else Nx H3)) : tLc (iRng3 ta) g tt te vs σ H Q := h
theorem lcr3_pure {H1 : Hp} {Qd : Addr → Hp → Prop} {σ : L2.St} {te : TE} {vs : List Nat} {sl : Nat} {a j c : Int} (n : Nat) (f : Nat → V) (hr : RgC a j c n) (hz : n ≤ 100000) (hw : ∀ v : Option V, wipe ((wipe σ vs).set sl v) vs = wipe σ vs)
    (hs : ∀ i H2, i < n → Same H1 H2 → ∀ k : VK, (∀ H5, Same H2 H5 → k (f i) H5) → te ((wipe σ vs).set sl (some (V.int (a + (i : Nat) * c)))) H2 k)
    (hd : ∀ D H2, H1 D = none → Same H1 H2 → H2 D = some (.lst ((List.range n).map f)) → Qd D H2) :
    ∃ (i' j' c' : Int) (n' : Nat), [V.int a, V.int j, V.int c] = [V.int i', V.int j', V.int c'] ∧ RgC i' j' c' n' ∧ ∀ D, H1 D = none → ∃ W : Nat → Nat → Hp → Prop, (∃ m, W 0 m (upd H1 D (.lst []))) ∧ ∀ i m H, W i m H →
  ((Itc i' c' n').stop i H ∧ Qd D H) ∨ ((Itc i' c' n').go i H ∧ ∃ Nx : Hp → Prop, (∀ H', Nx H' → ∃ m', m' < m ∧ W (i + 1) m' H') ∧ ∀ x H', (Itc i' c' n').yld i H x H' → gName sl x (wipe σ vs) H' fun σ2 H2 => wipe σ2 vs = wipe σ vs ∧ tYes σ2 H2 fun b H3 =>
    if b = true then te σ2 H3 fun y H4 => ∃ acc, H4 D = some (.lst acc) ∧ acc.length < sizeLine ∧ Nx (upd H4 D (.lst (acc ++ [y]))) else Nx H3) := by
  refine ⟨a, j, c, n, rfl, hr, fun D hD => ?_⟩
  refine ⟨fun i m H2 => m = n - i ∧ i ≤ n ∧ Same H1 H2 ∧ H2 D = some (.lst ((List.range i).map f)), ⟨n, by simp, Nat.zero_le _, s_upd hD, upd_same⟩, ?_⟩
  rintro i m H2 ⟨rfl, hi, s2, hl⟩
  by_cases hlt : i < n
  · refine .inr ⟨hlt, fun H' => Same H1 H' ∧ H' D = some (.lst ((List.range (i + 1)).map f)), fun H' p' => ⟨n - (i + 1), by omega, rfl, hlt, p'.1, p'.2⟩, fun x H' y => ?_⟩
    obtain ⟨e, y⟩ := y
    subst e y
    refine ⟨hw _, i_t (B := Same H1 H' ∧ H' D = some (HO.lst ((List.range (i + 1)).map f))) ?_⟩
    refine (hs i _ hlt s2 _ fun H5 s5 => ⟨_, s5 _ _ hl, szl (by rw [List.length_map, List.length_range]; omega), s_mut (s2.trans s5) hD, ?_⟩)
    rw [List.range_succ, List.map_append]
    exact upd_same
  · have e : i = n := by omega
    subst e
    exact .inl ⟨Nat.le_refl _, hd D H2 hD s2 hl⟩
/-! instances -/
def fldP (K : PySem.W.Frag) (f : Str) : V → Hp → VK → Prop := fun x H1 Q => ∃ a C dx fs v, x = .ref a ∧ H1 a = some (.ins C dx fs) ∧ Cls K C ∧ NoAttr K C f ∧ fs.lookup f = some v ∧ Q v H1
theorem r_fld {H : Hp} {K : PySem.W.Frag} {Q : VK} {σ : L2.St} {ta : TE} {f : Str} (h : ta σ H fun x H1 => fldP K f x H1 Q) : tFld K ta f σ H Q := h
theorem r_fldP {H : Hp} {K : PySem.W.Frag} {Q : VK} {f : Str} {a C dx : Addr} {fs : List (Str × V)} {v : V} (h : H a = some (.ins C dx fs)) (c : Cls K C) (n : NoAttr K C f) (l : fs.lookup f = some v) (q : Q v H) : fldP K f (.ref a) H Q := ⟨a, C, dx, fs, v, rfl, h, c, n, l, q⟩
def setP (K : PySem.W.Frag) (f : Str) (y : V) : V → Hp → (Hp → Prop) → Prop := fun x H2 k => ∃ a C dx fs, x = .ref a ∧ H2 a = some (.ins C dx fs) ∧ Cls K C ∧ NoAttr K C f ∧ fs.length < 1000 ∧ k (upd H2 a (.ins C dx (putF f y fs)))
theorem r_sfld {D : Ends} {H : Hp} {K : PySem.W.Frag} {σ : L2.St} {ta tv : TE} {f : Str} (h : tv σ H fun y H1 => ta σ H1 fun x H2 => setP K f y x H2 fun H3 => D.nx σ H3) : sFld K ta tv f D σ H := h
theorem r_setP {H : Hp} {K : PySem.W.Frag} {f : Str} {y : V} {a C dx : Addr} {fs : List (Str × V)} {k : Hp → Prop} (h : H a = some (.ins C dx fs)) (c : Cls K C) (n : NoAttr K C f) (l : fs.length < 1000) (q : k (upd H a (.ins C dx (putF f y fs)))) : setP K f y (.ref a) H k := ⟨a, C, dx, fs, rfl, h, c, n, l, q⟩
theorem r_make {H : Hp} {Q : VK} {σ : L2.St} {C : Addr} {sp : Sp} {E : XK} {t : TA} (h : t σ H fun vs H1 => ∀ x dx, H1 x = none → H1 dx = none → dx ≠ x → sp (.ref x :: (vs ++ [])) (upd (upd H1 dx (.own x)) x (.ins C dx [])) (fun v H2 => v = .non ∧ Q (.ref x) H2) E) : tMake C sp [] E t σ H Q := h
def objP (C : Addr) (m : Str) : V → Hp → (Hp → Prop) → Prop := fun x H1 k => ∃ a dx fs, x = .ref a ∧ H1 a = some (.ins C dx fs) ∧ fs.lookup m = none ∧ k H1
theorem r_meth {H : Hp} {Q : VK} {σ : L2.St} {C : Addr} {m : Str} {sp : Sp} {E : XK} {ta : TE} {t : TA} (h : ta σ H fun x H1 => objP C m x H1 fun H1 => t σ H1 fun vs H2 => sp (x :: (vs ++ [])) H2 Q E) : tMeth C m sp [] E ta t σ H Q := h
theorem r_objP {H : Hp} {m : Str} {a C dx : Addr} {fs : List (Str × V)} {k : Hp → Prop} (h : H a = some (.ins C dx fs)) (l : fs.lookup m = none) (q : k H) : objP C m (.ref a) H k := ⟨a, dx, fs, rfl, h, l, q⟩
theorem look_1 {f : Str} {v : V} {r : List (Str × V)} : List.lookup f ((f, v) :: r) = some v := by simp [List.lookup]
theorem look_s {f g : Str} {v : V} {r : List (Str × V)} (h : ¬ f = g) : List.lookup f ((g, v) :: r) = List.lookup f r := by
  have e : (f == g) = false := by simp [h]
  simp [List.lookup, e]
theorem look_0 {f : Str} : List.lookup f ([] : List (Str × V)) = none := rfl
theorem put_s {f g : Str} {v x : V} {r : List (Str × V)} (h : ¬ g = f) : putF f v ((g, x) :: r) = (g, x) :: putF f v r := if_neg h
theorem put_1 {f : Str} {v x : V} {r : List (Str × V)} : putF f v ((f, x) :: r) = (f, v) :: r := if_pos rfl
theorem put_0 {f : Str} {v : V} : putF f v [] = [(f, v)] := rfl
theorem cut_mid {xs : List V} {a b : Nat} (h : a ≤ b) : cutV xs (some (a : Int)) (some (b : Int)) = (xs.drop a).take (b - a) := by
  unfold cutV
  rw [HT.sIx_nat, HT.sIx_nat]
  by_cases h1 : b ≤ xs.length
  · rw [Nat.min_eq_left h1, Nat.min_eq_left (by omega)]
  · by_cases h2 : a ≤ xs.length
    · rw [Nat.min_eq_right (by omega), Nat.min_eq_left h2, List.take_of_length_le (by rw [List.length_drop]; omega), List.take_of_length_le (by rw [List.length_drop]; omega)]
    · rw [Nat.min_eq_right (by omega), Nat.min_eq_right (by omega), List.drop_length, List.drop_of_length_le (by omega)]
      simp
theorem c_pow {i j : Int} (h0 : 0 ≤ j) (h1 : j ≤ 1000000) (h2 : i.natAbs < 2 ^ 64) : CPow i j := ⟨h0, h1, h2⟩
theorem c_mulR {i j : Int} (h0 : -18446744073709551616 < j) (h1 : j < 18446744073709551616) : CMul i j := .inr ⟨h0, h1⟩
theorem c_mulL {i j : Int} (h0 : -18446744073709551616 < i) (h1 : i < 18446744073709551616) : CMul i j := .inl ⟨h0, h1⟩
theorem c_div {i j : Int} (h0 : 0 < j) (h1 : j < 1073741824) : CDiv i j := ⟨h0, h1⟩
theorem r_cut {D : Ends} {H : Hp} {σ : L2.St} {t u : TS} (Mid : L2.St → Hp → Prop) (h : t { D with nx := Mid } σ H) (k : ∀ σ' H', Mid σ' H' → u D σ' H') : C8.tCut t u D σ H := ⟨Mid, h, k⟩
theorem cut_to {xs : List V} {k : Nat} : cutV xs none (some (k : Int)) = xs.take k := by
  unfold cutV
  rw [HT.sIx_none, HT.sIx_nat, List.drop_zero, Nat.sub_zero]
  by_cases h : k ≤ xs.length
  · rw [Nat.min_eq_left h]
  · rw [Nat.min_eq_right (by omega), List.take_length, List.take_of_length_le (by omega)]
theorem cut_all {xs : List V} {k : Nat} (h : xs.length ≤ k) : cutV xs none (some (k : Int)) = xs := by
  rw [cut_to, List.take_of_length_le h]
theorem len4 {ns : List Int} (h : ns.length = 4) : ∃ a b c d, ns = [a, b, c, d] := by
  match ns, h with
  | [a, b, c, d], _ => exact ⟨a, b, c, d, rfl⟩
theorem len3 {ns : List Int} (h : ns.length = 3) : ∃ a b c, ns = [a, b, c] := by
  match ns, h with
  | [a, b, c], _ => exact ⟨a, b, c, rfl⟩
theorem len2 {ns : List Int} (h : ns.length = 2) : ∃ a b, ns = [a, b] := by
  match ns, h with
  | [a, b], _ => exact ⟨a, b, rfl⟩
theorem len7 {ns : List Int} (h : ns.length = 7) : ∃ a b c d e f g, ns = [a, b, c, d, e, f, g] := by
  match ns, h with
  | [a, b, c, d, e, f, g], _ => exact ⟨a, b, c, d, e, f, g, rfl⟩
theorem len6 {ns : List Int} (h : ns.length = 6) : ∃ a b c d e f, ns = [a, b, c, d, e, f] := by
  match ns, h with
  | [a, b, c, d, e, f], _ => exact ⟨a, b, c, d, e, f, rfl⟩
theorem r_take {K : PySem.W.Frag} {H : Hp} {Q : VK} {a : Addr} {ns : List Int} {k : Int} (n : Nat) (hk : k = (n : Int)) (h : SqL K H a (ns.map V.int)) (q : ∀ p H1, H p = none → Same H H1 → H1 p = some (.lst ((ns.take n).map V.int)) → Q (.ref p) H1) : rSlL K (.ref a) none (some k) H Q := by
  subst hk
  refine ⟨a, ns.map V.int, rfl, h, fun p hp => ?_⟩
  rw [cut_to, ← List.map_take]
  exact q p _ hp (s_upd hp) upd_same
/-- the script's first items: the whole of it -/
theorem r_script {K : PySem.W.Frag} {H : Hp} {Q : VK} {a : Addr} {ns : List Int} {k : Int} (hk : 63 ≤ k) (h : SqL K H a (ns.map V.int)) (hn : ns.length ≤ 63) (q : ∀ p H1, H p = none → Same H H1 → H1 p = some (.lst (ns.map V.int)) → Q (.ref p) H1) : rSlL K (.ref a) none (some k) H Q := by
  refine ⟨a, ns.map V.int, rfl, h, fun p hp => ?_⟩
  have e : k = ((k.toNat : Nat) : Int) := by omega
  rw [e, cut_all (by rw [List.length_map]; omega)]
  exact q p _ hp (s_upd hp) upd_same
/-! list facts -/
theorem at_map {ns : List Int} {i : Int} {j : Nat} {n : Int} (e : i = (j : Int)) (h : ns[j]? = some n) : atI (ns.map V.int) i = some (.int n) := by
  subst e
  exact atI_nat (by rw [List.getElem?_map, h]; rfl)
theorem at_lt {α : Type} {xs : List α} {i : Int} {j : Nat} (e : i = (j : Int)) (h : j < xs.length) : atI xs i = some xs[j] := by
  subst e
  exact atI_nat (List.getElem?_eq_getElem h)
theorem get_map {ns : List Int} {i : Nat} {x : V} (h : (ns.map V.int)[i]? = some x) : ∃ n, ns[i]? = some n ∧ x = .int n := by
  rw [List.getElem?_map] at h
  cases e : ns[i]? with
  | none => rw [e] at h; cases h
  | some z => rw [e] at h; exact ⟨z, rfl, (Option.some.inj h).symm⟩
theorem flat_ints (ns : List Int) : (ns.map V.int).all flatV = true := by
  rw [List.all_eq_true]; intro v hv; obtain ⟨n, _, rfl⟩ := List.mem_map.mp hv; rfl
theorem inV_ints (n : Int) (ns : List Int) : inV (.int n) (ns.map V.int) = dB (n ∈ ns) := by
  unfold inV
  induction ns with
  | nil => rw [dB_f (by simp)]; rfl
  | cons m r ih =>
    rw [List.map_cons, List.any_cons, ih]
    show ((m == n) || dB (n ∈ r)) = _
    by_cases h : m = n
    · subst h; rw [dB_t (List.mem_cons_self ..)]; simp
    · by_cases h2 : n ∈ r
      · rw [dB_t h2, dB_t (List.mem_cons_of_mem _ h2)]; simp
      · rw [dB_f h2, dB_f (fun z => by rcases List.mem_cons.mp z with z | z; exact h z.symm; exact h2 z)]; simp [h]
theorem r_inI {K : PySem.W.Frag} {H : Hp} {Q : VK} {p : Addr} {ns : List Int} {n : Int} (h : SqL K H p (ns.map V.int)) (q : Q (.bl (dB (n ∈ ns))) H) : rIn K false (.int n) (.ref p) H Q :=
  ⟨p, ns.map V.int, rfl, .inl h, rfl, flat_ints ns, by rw [inV_ints]; exact q⟩
theorem cut_from {xs : List V} {k : Nat} : cutV xs (some (k : Int)) none = xs.drop k := by
  unfold cutV
  rw [HT.sIx_none, HT.sIx_nat]
  by_cases h : k ≤ xs.length
  · rw [Nat.min_eq_left h, List.take_of_length_le (by rw [List.length_drop]; omega)]
  · rw [Nat.min_eq_right (by omega), List.drop_length, List.drop_of_length_le (by omega)]; simp
/-! any of ints -/
def rAnyI (K : PySem.W.Frag) : List V → Hp → VK → Prop := fun vs H Q => ∃ (a : Addr) (ns : List Int), vs = [V.ref a] ∧ SqL K H a (ns.map V.int) ∧ Q (.bl (ns.any (· != 0))) H
theorem truth_ints {prog : Program} {w : World} {A : Around} {ns : List Int} {its : List Value} (r : Vals (ns.map V.int) its) :
    TruthOf prog w A (fun i v => its.toArray[i]? = some v) (fun i => (ns.map (· != 0)).getD i false) := fun i v s Q E hv hq => by
  have hv' : its[i]? = some v := by simpa using hv
  have hl := r.length
  have hi : i < ns.length := by
    have := (List.getElem?_eq_some_iff.mp hv').1
    rw [List.length_map] at hl
    omega
  obtain ⟨u, hu, ru⟩ := r.get (i := i) (x := .int ns[i]) (by rw [List.getElem?_map, List.getElem?_eq_getElem hi]; rfl)
  rw [hv'] at hu
  cases hu
  obtain ⟨t, rfl⟩ := ru
  have hg : (ns.map (· != 0)).getD i false = (ns[i] != 0) := by rw [List.getD_eq_getElem?_getD, List.getElem?_map, List.getElem?_eq_getElem hi]; rfl
  have hq' : Q ((ns.map (· != 0)).getD i false) s := hq
  rw [hg] at hq'
  exact truthy_int hq'
theorem cr_anyI {X : Cx} (hc : X.calm = true) : CallR X (.builtin "any") (rAnyI X.K) := by
  intro pins s σ H vs us Q I r h
  obtain ⟨a, ns, rfl, hs, q⟩ := h
  obtain ⟨its, rv, hl, _⟩ := I.list hs
  rw [Vals.ref1 r]
  have hlen := rv.length
  rw [List.length_map] at hlen
  refine call_any_walk (iter_any hl.isList fun s₂ e2 st hne => ?_)
  subst e2
  refine ⟨_, _, _, _, _, _, _, rfl, Walks.list (A := X.A.in1) (I.ok.hd hc) _ a hne its.toArray, st, truth_ints rv, fun h' tk hk => ?_⟩
  refine ⟨.bl _, H, I.kept fun b o eo => hk b o (fun hmem => ?_) (Heap.get?_push_of_some _ eo), ?_, q⟩
  · rcases List.mem_cons.mp hmem with e1 | hmem
    · exact absurd (e1 ▸ Heap.lt_size eo) (Nat.lt_irrefl _)
    · cases hmem
  · show Value.bool _ = Value.bool _
    have e := L2.any_range (ns.map (· != 0))
    rw [List.any_map, List.length_map] at e
    rw [List.size_toArray, ← hlen, e]; rfl
theorem r_anyI {K : PySem.W.Frag} {H : Hp} {Q : VK} {a : Addr} {ns : List Int} (h : SqL K H a (ns.map V.int)) (q : Q (.bl (ns.any (· != 0))) H) : rAnyI K [.ref a] H Q := ⟨a, ns, rfl, h, q⟩
theorem r_isB {i j : Bool} {H : Hp} {Q : VK} (q : Q (.bl (dB (i = j))) H) : rIsB (.bl i) (.bl j) H Q := ⟨i, j, rfl, rfl, q⟩
theorem r_notB {i j : Bool} {H : Hp} {Q : VK} (q : Q (.bl (!dB (i = j))) H) : rNotB (.bl i) (.bl j) H Q := ⟨i, j, rfl, rfl, q⟩
theorem r_neL {H : Hp} {K : PySem.W.Frag} {Q : VK} {a b : Addr} {ns : List Int} (ha : SqL K H a (ns.map V.int)) (hb : SqL K H b (ns.map V.int)) (q : Q (.bl false) H) : rNeD K (.ref a) (.ref b) H Q :=
  ⟨_, _, .lst ha (dp_ints ns), .lst hb (dp_ints ns), shaped_ints ns, shaped_ints ns, by rw [eqv_ints]; exact q⟩
/-! ## what the top has written -/
def valsOk (us : Array Value) (xs : List V) : Bool := decide (us.size ≤ 100000) && decide (us.toList.mapM absV = some xs)
theorem rel_of {u : Value} {x : V} (h : absV u = some x) : RelV x u := by
  cases u <;> first | (cases h; rfl) | (cases h; exact ⟨_, rfl⟩) | (cases h)
theorem vals_of : ∀ {us : List Value} {xs : List V}, us.mapM absV = some xs → Vals xs us
  | [], xs, h => by
    have e : some [] = some xs := h
    cases e; exact .nil
  | u :: us, xs, h => by
    rw [List.mapM_cons] at h
    cases e1 : absV u with
    | none => rw [e1] at h; cases h
    | some x =>
      cases e2 : us.mapM absV with
      | none => rw [e1, e2] at h; cases h
      | some ys =>
        rw [e1, e2] at h
        have e : some (x :: ys) = some xs := h
        cases e
        exact .cons (rel_of e1) (vals_of e2)
theorem sqt_of {K : PySem.W.Frag} {H : Hp} {A : Addr} {dd : Option Addr} {its : Array Value} {n : Nat} {ss : Array (Option Value)} {xs : List V}
    (lk : K.lookup A = some ⟨.type "tuple", dd, .seq its n, ss⟩) (h : valsOk its xs = true) : SqT K H A xs := by
  unfold valsOk at h
  rw [Bool.and_eq_true] at h
  exact .inr ⟨_, its, n, lk, rfl, rfl, sz (of_decide_eq_true h.1), vals_of (of_decide_eq_true h.2)⟩
end Z

namespace Z
open PySem PySem.Spec PyProof.Rows L2
/-! ## nested tuples and dicts that the top has written -/
inductive Tr where
  | i (n : Int)
  | s (x : Str)
  | t (l : List Tr)
mutual
def okT (K : PySem.W.Frag) : Value → Tr → Bool
  | .int m _, .i n => decide (m = n)
  | .str y _, .s x => decide (y = x)
  | .ref a, .t l => match K.lookup a with
    | some ⟨.type "tuple", none, .seq its _, _⟩ => decide (its.size ≤ 100000) && okL K its.toList l
    | _ => false
  | _, _ => false
def okL (K : PySem.W.Frag) : List Value → List Tr → Bool
  | [], [] => true
  | v :: vs, t :: ts => okT K v t && okL K vs ts
  | _, _ => false
end
/-- what an item is -/
def VT (K : PySem.W.Frag) : V → Tr → Prop
  | .int m, .i n => m = n
  | .str y, .s x => y = x
  | .ref a, .t l => okT K (.ref a) (.t l) = true
  | _, _ => False
theorem okT_V {K : PySem.W.Frag} {v : Value} {t : Tr} (h : okT K v t = true) : ∃ x, RelV x v ∧ VT K x t := by
  cases t with
  | i n =>
    cases v with
    | int m t =>
      have z : m = n := of_decide_eq_true h
      exact ⟨.int m, ⟨t, rfl⟩, z⟩
    | _ => exact absurd (show false = true from h) Bool.false_ne_true
  | s y =>
    cases v with
    | str m t =>
      have z : m = y := of_decide_eq_true h
      exact ⟨.str m, ⟨t, rfl⟩, z⟩
    | _ => exact absurd (show false = true from h) Bool.false_ne_true
  | t l =>
    cases v with
    | ref a => exact ⟨.ref a, rfl, h⟩
    | _ => exact absurd (show false = true from h) Bool.false_ne_true
theorem okL_V {K : PySem.W.Frag} : ∀ {vs : List Value} {ts : List Tr}, okL K vs ts = true → ∃ xs : List V, Vals xs vs ∧ xs.length = ts.length ∧ ∀ (i : Nat) (c : Tr), ts[i]? = some c → ∃ x, xs[i]? = some x ∧ VT K x c
  | [], [], _ => ⟨[], .nil, rfl, fun i c h => by simp at h⟩
  | v :: vs, t :: ts, h => by
    unfold okL at h
    rw [Bool.and_eq_true] at h
    obtain ⟨x, r, q⟩ := okT_V h.1
    obtain ⟨xs, rs, hl, qs⟩ := okL_V h.2
    refine ⟨x :: xs, .cons r rs, by simp [hl], fun i c hi => ?_⟩
    match i with
    | 0 => simp at hi; subst hi; exact ⟨x, rfl, q⟩
    | i + 1 => exact qs i c (by simpa using hi)
  | [], _ :: _, h => by unfold okL at h; cases h
  | _ :: _, [], h => by unfold okL at h; cases h
theorem tr_tup {K : PySem.W.Frag} {a : Addr} {l : List Tr} (h : okT K (.ref a) (.t l) = true) :
    ∃ xs : List V, (∀ H, SqT K H a xs) ∧ xs.length = l.length ∧ (∀ (i : Nat) (c : Tr), l[i]? = some c → ∃ x, xs[i]? = some x ∧ VT K x c) ∧ ∀ H, tyV K "tuple" (.ref a) H := by
  unfold okT at h
  split at h
  · rename_i its n ss e
    rw [Bool.and_eq_true] at h
    obtain ⟨xs, rs, hl, q⟩ := okL_V h.2
    exact ⟨xs, fun H => .inr ⟨_, its, n, e, rfl, rfl, sz (of_decide_eq_true h.1), rs⟩, hl, q, fun H => .inr (.inl ⟨rfl, _, e, rfl, rfl⟩)⟩
  · cases h
theorem vt_i {K : PySem.W.Frag} {x : V} {n : Int} (h : VT K x (.i n)) : x = .int n := by
  cases x <;> first | (cases h; rfl) | cases h
theorem vt_s {K : PySem.W.Frag} {x : V} {y : Str} (h : VT K x (.s y)) : x = .str y := by
  cases x <;> first | (cases h; rfl) | cases h
theorem vt_t {K : PySem.W.Frag} {x : V} {l : List Tr} (h : VT K x (.t l)) : ∃ a, x = .ref a ∧ okT K (.ref a) (.t l) = true := by
  cases x <;> first | exact ⟨_, rfl, h⟩ | cases h
/-- t[i] of a written tuple -/
theorem r_tr {K : PySem.W.Frag} {H : Hp} {Q : VK} {a : Addr} {l : List Tr} {i : Int} {j : Nat} {c : Tr} (h : okT K (.ref a) (.t l) = true) (e : i = (j : Int)) (hc : l[j]? = some c) (q : ∀ x, VT K x c → Q x H) : rIxT K (.ref a) (.int i) H Q := by
  obtain ⟨xs, hs, _, hx, _⟩ := tr_tup h
  obtain ⟨x, e1, e2⟩ := hx j c hc
  subst e
  exact ⟨a, xs, j, x, rfl, rfl, hs H, atI_nat e1, q x e2⟩
theorem r_trI {K : PySem.W.Frag} {H : Hp} {Q : VK} {a : Addr} {l : List Tr} {i : Int} {j : Nat} {n : Int} (h : okT K (.ref a) (.t l) = true) (e : i = (j : Int)) (hc : l[j]? = some (.i n)) (q : Q (.int n) H) : rIxT K (.ref a) (.int i) H Q :=
  r_tr h e hc fun x hx => by rw [vt_i hx]; exact q
theorem r_trT {K : PySem.W.Frag} {H : Hp} {Q : VK} {a : Addr} {l m : List Tr} {i : Int} {j : Nat} (h : okT K (.ref a) (.t l) = true) (e : i = (j : Int)) (hc : l[j]? = some (.t m)) (q : ∀ b, okT K (.ref b) (.t m) = true → Q (.ref b) H) : rIxT K (.ref a) (.int i) H Q :=
  r_tr h e hc fun x hx => by obtain ⟨b, rfl, hb⟩ := vt_t hx; exact q b hb
/-- t.index(x) of a written tuple of texts -/
theorem tr_strs {K : PySem.W.Frag} {a : Addr} {ys : List Str} (h : okT K (.ref a) (.t (ys.map .s)) = true) : (∀ H, SqT K H a (ys.map V.str)) ∧ ∀ H, tyV K "tuple" (.ref a) H := by
  obtain ⟨xs, hs, hl, hx, ht⟩ := tr_tup h
  refine ⟨?_, ht⟩
  rw [show ys.map V.str = xs from ?_]; exact hs
  refine List.ext_getElem (by rw [hl, List.length_map, List.length_map]) fun i h1 h2 => ?_
  rw [List.length_map] at h1
  obtain ⟨x, e1, e2⟩ := hx i (.s ys[i]) (by rw [List.getElem?_map, List.getElem?_eq_getElem h1]; rfl)
  rw [vt_s e2, List.getElem?_eq_getElem h2] at e1
  rw [List.getElem_map]
  exact (Option.some.inj e1).symm
theorem r_tidx {K : PySem.W.Frag} {H : Hp} {Q : VK} {p : Addr} {ys : List Str} {z : Str} (j : Nat) (h : SqT K H p (ys.map V.str)) (e : ys[j]? = some z) (hn : ∀ m, m < j → ys[m]? ≠ some z) (q : Q (.int (j : Nat)) H) :
    ∃ p', ∃ ys : List Str, ∃ z' j, V.ref p = .ref p' ∧ [V.str z] = [.str z'] ∧ SqT K H p' (ys.map V.str) ∧ ys[j]? = some z' ∧ (∀ m, m < j → ys[m]? ≠ some z') ∧ Q (.int (j : Nat)) H := ⟨p, ys, z, j, rfl, rfl, h, e, hn, q⟩
/-- d[k] of a written dict -/
def KD (K : PySem.W.Frag) (w : World) (a : Addr) : Prop := ∃ es n, K.lookup a = some ⟨.type "dict", none, .dict es n, #[]⟩ ∧ PySem.W.KeysLit w.params es.toList
theorem r_kd {K : PySem.W.Frag} {w : World} {H : Hp} {Q : VK} {a : Addr} {z : Str} {u : Value} {v : V} (D : KD K w a) (h : PySem.W.nsIn K a z = some (some u)) (r : RelV v u) (q : Q v H) : rIxD K w (.ref a) (.str z) H Q := by
  obtain ⟨es, n, e, k⟩ := D
  exact ⟨a, z, v, rfl, rfl, ⟨es, n, u, e, k, h, r⟩, q⟩
theorem kd_mk {K : PySem.W.Frag} {w : World} {a : Addr} {es : Array DictEntry} {n : Nat} (e : K.lookup a = some ⟨.type "dict", none, .dict es n, #[]⟩) (k : PySem.W.KeysLit w.params es.toList) : KD K w a := ⟨es, n, e, k⟩
end Z

namespace Z
open PySem PySem.Spec PyProof.Rows L2
/-! ## numbers in base 2 -/
def binS (n : Nat) : Str := ⟨((Nat.toDigits 2 n).map Char.toNat).toArray⟩
def pc : Nat → Nat → Nat
  | 0, _ => 0
  | k + 1, n => n % 2 + pc k (n / 2)
theorem pc_zero : ∀ k, pc k 0 = 0
  | 0 => rfl
  | k + 1 => by show 0 % 2 + pc k (0 / 2) = 0; rw [Nat.zero_mod, Nat.zero_div, pc_zero k]
theorem core_ne : ∀ (f n : Nat) (ds : List Char), 0 < f → Nat.toDigitsCore 2 f n ds ≠ []
  | f + 1, n, ds, _ => by
    unfold Nat.toDigitsCore
    by_cases h : n / 2 = 0
    · simp only [h, if_true]; exact fun z => nomatch z
    · simp only [h, if_false]
      by_cases hf : f = 0
      · subst hf; unfold Nat.toDigitsCore; exact fun z => nomatch z
      · exact core_ne f _ _ (by omega)
theorem core_len : ∀ (f n : Nat) (ds : List Char), (Nat.toDigitsCore 2 f n ds).length ≤ ds.length + f
  | 0, n, ds => by simp [Nat.toDigitsCore]
  | f + 1, n, ds => by
    unfold Nat.toDigitsCore
    by_cases h : n / 2 = 0
    · simp only [h, if_true, List.length_cons]; omega
    · simp only [h, if_false]
      have := core_len f (n / 2) (Nat.digitChar (n % 2) :: ds)
      simp only [List.length_cons] at this
      omega
theorem core_pow : ∀ (k f n : Nat) (ds : List Char), 1 ≤ k → n < 2 ^ k → (Nat.toDigitsCore 2 f n ds).length ≤ ds.length + k
  | _, 0, _, ds, _, _ => by simp [Nat.toDigitsCore]
  | k, f + 1, n, ds, hk, hn => by
    unfold Nat.toDigitsCore
    by_cases h : n / 2 = 0
    · simp only [h, if_true, List.length_cons]; omega
    · simp only [h, if_false]
      have hk2 : 2 ≤ k := by
        by_cases h1 : k = 1
        · subst h1; omega
        · omega
      obtain ⟨j, rfl⟩ : ∃ j, k = j + 1 := ⟨k - 1, by omega⟩
      have hn' : n / 2 < 2 ^ j := by rw [Nat.pow_succ] at hn; omega
      have ih := core_pow j f (n / 2) (Nat.digitChar (n % 2) :: ds) (by omega) hn'
      simp only [List.length_cons] at ih
      omega
theorem digit_one (n : Nat) : (if ((Nat.digitChar (n % 2)).toNat == 49) = true then 1 else 0) = n % 2 := by
  rcases Nat.mod_two_eq_zero_or_one n with h | h <;> rw [h] <;> rfl
theorem core_pc : ∀ (k f n : Nat) (ds : List Char), n < f → n < 2 ^ k → ((Nat.toDigitsCore 2 f n ds).map Char.toNat).count 49 = pc k n + (ds.map Char.toNat).count 49
  | k, f + 1, n, ds, hf, hk => by
    unfold Nat.toDigitsCore
    have hd := digit_one n
    have hc : ((Nat.digitChar (n % 2) :: ds).map Char.toNat).count 49 = n % 2 + (ds.map Char.toNat).count 49 := by
      rw [List.map_cons, List.count_cons, hd, Nat.add_comm]
    by_cases h : n / 2 = 0
    · simp only [h, if_true]
      rw [hc]
      match k, hk with
      | 0, hk => have : n = 0 := by simpa using hk
                 subst this; rfl
      | k + 1, _ => show _ = n % 2 + pc k (n / 2) + _; rw [h, pc_zero, Nat.add_zero]
    · simp only [h, if_false]
      match k, hk with
      | 0, hk => have : n = 0 := by simpa using hk
                 omega
      | k + 1, hk =>
        rw [core_pc k f (n / 2) _ (by omega) (by rw [Nat.pow_succ] at hk; omega), hc]
        show _ = n % 2 + pc k (n / 2) + _
        omega
theorem binS_count {k n : Nat} (hk : n < 2 ^ k) : (binS n).cps.toList.count 49 = pc k n := by
  show ((Nat.toDigitsCore 2 (n + 1) n []).map Char.toNat).count 49 = _
  rw [core_pc k (n + 1) n [] (by omega) hk]; rfl
theorem binS_len {k n : Nat} (h1 : 1 ≤ k) (hk : n < 2 ^ k) : (binS n).length ≤ k := by
  show ((Nat.toDigitsCore 2 (n + 1) n []).map Char.toNat).toArray.size ≤ k
  rw [List.size_toArray, List.length_map]
  have := core_pow k (n + 1) n [] h1 hk
  simpa using this
/-! one sign counted -/
theorem occ_one (s sub : Str) (hi limit : Nat) (h1 : sub.length = 1) : ∀ (n a : Nat) (st : Array Nat × Nat), st.2 ≤ a → st.1.size + n ≤ limit →
    (forIn (List.range' a n) st (StrLaws.occBody s sub hi limit)).run.fst.size = st.1.size + ((List.range' a n).filter fun i => decide (i + 1 ≤ hi) && Builtin.Str.subAt s sub i).length
  | 0, a, st, _, _ => by simp
  | n + 1, a, st, h2, h3 => by
    rw [List.range'_succ, List.forIn_cons]
    by_cases hc : a + 1 ≤ hi ∧ Builtin.Str.subAt s sub a = true
    · have c1 : ((st.fst.size < limit ∧ st.snd ≤ a) ∧ a + 1 ≤ hi) ∧ Builtin.Str.subAt s sub a = true := ⟨⟨⟨by omega, h2⟩, hc.1⟩, hc.2⟩
      have hb : StrLaws.occBody s sub hi limit a st = pure (ForInStep.yield (st.fst.push a, a + 1)) := by unfold StrLaws.occBody; rw [h1, if_pos c1]
      rw [hb, List.filter_cons, if_pos (by rw [decide_eq_true hc.1, hc.2]; rfl)]
      have ih := occ_one s sub hi limit h1 n (a + 1) (st.fst.push a, a + 1) (Nat.le_refl _) (by simp only [Array.size_push]; omega)
      simp only [Array.size_push] at ih
      show (forIn (List.range' (a + 1) n) (st.fst.push a, a + 1) (StrLaws.occBody s sub hi limit)).run.fst.size = _
      rw [ih, List.length_cons]; omega
    · have c1 : ¬ (((st.fst.size < limit ∧ st.snd ≤ a) ∧ a + 1 ≤ hi) ∧ Builtin.Str.subAt s sub a = true) := fun z => hc ⟨z.1.2, z.2⟩
      have c2 : ¬ ((decide (a + 1 ≤ hi) && Builtin.Str.subAt s sub a) = true) := fun z => by
        rw [Bool.and_eq_true, decide_eq_true_eq] at z; exact hc z
      have hb : StrLaws.occBody s sub hi limit a st = pure (ForInStep.yield (st.fst, st.snd)) := by unfold StrLaws.occBody; rw [h1, if_neg c1]
      rw [hb, List.filter_cons, if_neg c2]
      exact occ_one s sub hi limit h1 n (a + 1) st (by omega) (by omega)
theorem filter_count (l : List Nat) (c : Nat) : ((List.range' 0 l.length).filter fun i => decide (l[i]? = some c)).length = l.count c := by
  induction l with
  | nil => rfl
  | cons x l ih =>
    rw [List.length_cons, List.range'_succ, List.filter_cons, List.count_cons]
    have e : ((List.range' (0 + 1) l.length).filter fun i => decide ((x :: l)[i]? = some c)).length = ((List.range' 0 l.length).filter fun i => decide (l[i]? = some c)).length := by
      rw [List.range'_eq_map_range, List.range'_eq_map_range, List.filter_map, List.filter_map, List.length_map, List.length_map]
      congr 1
      refine List.filter_congr fun i _ => ?_
      show decide ((x :: l)[0 + 1 + i]? = some c) = decide (l[0 + i]? = some c)
      rw [show 0 + 1 + i = (0 + i) + 1 by omega, List.getElem?_cons_succ]
    by_cases h : x = c
    · subst h
      rw [if_pos (by simp), List.length_cons, e, ih]; simp
    · rw [if_neg (by simpa using h), e, ih]; simp [h]
theorem sub_one (s : Str) (c i : Nat) (h : i < s.length) : Builtin.Str.subAt s ⟨#[c]⟩ i = decide (s.cps.toList[i]? = some c) := by
  unfold Builtin.Str.subAt
  have hl : i < s.cps.size := h
  have e : s.cps.extract i (i + Str.length ⟨#[c]⟩) = #[s.cps[i]] := by
    apply Array.ext
    · simp [Str.length]; omega
    · intro j h1 h2
      simp at h2
      subst h2
      simp
  rw [e]
  rw [Array.getElem?_toList, Array.getElem?_eq_getElem hl]
  by_cases h2 : s.cps[i] = c
  · subst h2; simp
  · simp [h2]
theorem count_one (s : Str) (c : Nat) : Txt.count s ⟨#[c]⟩ = (s.cps.toList.count c : Nat) := by
  show (((Builtin.Str.occurrences s ⟨#[c]⟩ 0 s.length (s.length + 1)).length : Nat) : Int) = _
  congr 1
  rw [StrLaws.occ_eq, Array.length_toList, occ_one s ⟨#[c]⟩ s.length (s.length + 1) rfl (s.length + 1 - 0) 0 (#[], 0) (Nat.le_refl _) (by simp)]
  rw [← filter_count]
  have e0 : s.cps.toList.length = s.length := by simp [Str.length]
  rw [e0, show s.length + 1 - 0 = s.length + 1 by omega, List.range'_concat, List.filter_append]
  have e1 : ((List.range' 0 s.length).filter fun i => decide (i + 1 ≤ s.length) && Builtin.Str.subAt s ⟨#[c]⟩ i) = (List.range' 0 s.length).filter fun i => decide (s.cps.toList[i]? = some c) := by
    refine List.filter_congr fun i hi => ?_
    have hi2 : i < s.length := by have := List.mem_range'_1.mp hi; omega
    rw [decide_eq_true (by omega : i + 1 ≤ s.length), Bool.true_and, sub_one s c i hi2]
  rw [e1]
  have e2 : ([0 + 1 * s.length].filter fun i => decide (i + 1 ≤ s.length) && Builtin.Str.subAt s ⟨#[c]⟩ i) = [] := by
    rw [List.filter_cons, if_neg (by rw [decide_eq_false (by omega)]; simp)]; rfl
  rw [e2]; simp

theorem bin_digits_ne (n : Nat) : ((Nat.toDigits 2 n).map fun c => (if (98 : Nat) == 88 then c.toUpper else c).toNat).isEmpty = false := by
  have := core_ne (n + 1) n [] (by omega)
  cases h : Nat.toDigits 2 n with
  | nil => exact absurd h this
  | cons _ _ => rfl
theorem fmt_field {f : Builtin.Float.FormatSpec} (n : Nat) (hf : f.fill = 32) (ha : f.align = 62) (hs : f.sign = none) (hw : f.width = none) (hg : f.grouping = none) :
    intField' f (decide ((n : Int) < 0)) [] ((Nat.toDigits 2 n).map fun c => (if (98 : Nat) == 88 then c.toUpper else c).toNat) [] 4 = binS n := by
  rw [decide_eq_false (by omega)]
  unfold intField' binS
  simp only [hf, ha, hs, hw, hg, bin_digits_ne]
  simp
end Z
namespace Z
open PySem PySem.Spec PyProof.Rows L2
open Builtin Float
def fb : FormatSpec := { align := 62, type := some 98 }
theorem fmt_b0 {prog : Program} {w : World} {A : Around} {E : Value → Shared → Prop} {s : Shared} {a : Int} {t : Tok} {spec T : Str} {f : FormatSpec} {Q : Value → Shared → Prop} (hf : f = fb)
    (hp : parseFormatSpec spec.cps.toList "int" 62 = .ok f)
    (hne : (spec.length == 0) = false)
    (hasc : ((spec.cps.toList.drop 1).any (· ≥ 128) || (spec.cps.getD 0 0 ≥ 128 && !([60, 62, 61, 94] : List Nat).contains (spec.cps.getD 1 0))) = false)
    (hT : intField' fb (decide (a < 0)) [] ((Nat.toDigits 2 a.natAbs).map fun c => (if (98 : Nat) == 88 then c.toUpper else c).toNat) [] 4 = T) (hlen : T.length ≤ sizeLine)
    (h : ∀ t' k, Q (.str T t') { s with toks := k }) (hsz : spec.length ≤ sizeLine) :
    wpAny (model prog w) A (formatField (.int a t) spec) Q E s := by
  have hty : f.type.getD (if spec.cps.back? == some 0 then 0 else 100) = 98 := by rw [hf]; rfl
  have hpr : f.precision = none := by rw [hf]; rfl
  have hz : f.noNeg0 = false := by rw [hf]; rfl
  have hal : f.alt = false := by rw [hf]; rfl
  have hw : f.width.getD 0 ≤ 100000 := by rw [hf]; decide
  show wpAny _ _ (holding [.int a t] (pyFormat (.int a t) spec)) Q E s
  refine wpAny_holding ?_
  unfold pyFormat
  refine wpAny_bind (wpAny_mkStr ?_ hsz)
  refine wpAny_bind (m := callSpecial? (.int a t) (Str.ofString "__format__") [.str spec s.toks]) (wpAny_callSpecial?_slot (name := Str.ofString "__format__") (typeIs_int _ a t) F.slot_int_format ?_)
  refine wpAny_call (codeAny_call_builtin F.slot_int_format.plain F.entry_int_format (F.slot_int_format.check _ _ _ _ _ _ _ _ (typeIs_int _ a t) (F.args_int_format_2 _ _) ?_))
  unfold Builtin.«int.__format__»
  simp only [selfAndOne, noKeywords, Int.intOfSelf, asInt?, asStr?, List.isEmpty_nil, if_true, pure_bind, bind_pure, bind_assoc, hne, hasc, Bool.false_eq_true, if_false,
    show (Value.str spec s.toks == Value.none) = false from rfl]
  refine wpAny_bind (wpAny_typeNameOf (T := "str") (typeIs_str _ _ _) (by decide) fun _ => ?_)
  refine wpAny_bind (wpAny_typeNameOfCut_int ?_)
  simp only [hp, hty]
  rw [if_pos (by decide)]
  show wpAny _ _ (if _ then _ else _) _ _ _
  rw [if_neg (by simp [hpr])]
  show wpAny _ _ (if _ then _ else _) _ _ _
  rw [if_neg (by simp [hz])]
  show wpAny _ _ (if _ then _ else _) _ _ _
  rw [if_neg (by decide)]
  show wpAny _ _ (if _ then _ else _) _ _ _
  have hw' : ¬ (f.width.getD 0 > 100000) := by omega
  rw [if_neg (by decide)]
  show wpAny _ _ (if _ then _ else _) _ _ _
  rw [if_neg (by simpa using hw')]
  show wpAny _ _ (retStr _) _ _ _
  have key : ∀ X, X = T → ∀ (A : Around) (Q' : Fin → Shared → Prop) (E' : Value → Shared → Prop) (s' : Shared), (∀ t k, Q' (.done (.ret (.str T t))) { s' with toks := k }) → wpAny (model prog w) A (retStr X) Q' E' s' :=
    fun X e A Q' E' s' hq => PySem.W.KXf.ret_text e (by rw [e]; exact hlen) hq
  refine key _ ?_ _ _ _ _ fun t' k => ?_
  · rw [hal, if_neg Bool.false_ne_true, if_neg (by decide)]
    subst hf
    exact hT
  · exact wpAny_bind (wpAny_isInstance (typeIs_str _ _ _) isSubtype_str_str (wpAny_pure (h t' k)))

theorem fmt_b {prog : Program} {w : World} {A : Around} {E : Value → Shared → Prop} {s : Shared} {Q : Value → Shared → Prop} {n : Nat} {t : Tok} (hn : n < 2 ^ 40)
    (h : ∀ t' k, Q (.str (binS n) t') { s with toks := k }) : wpAny (model prog w) A (formatField (.int (n : Int) t) "b") Q E s := by
  refine fmt_b0 (T := binS n) (f := fb) rfl (by rfl) (by decide) (by decide +kernel) ?_ (Nat.le_trans (binS_len (by decide) hn) (by decide)) h (by decide)
  exact fmt_field n rfl rfl rfl rfl rfl
end Z
namespace Z
open PySem PySem.Spec PyProof.Rows L2
/-- f'{e:b}' -/
def tFb (te : TE) : TE := fun σ H Q => te σ H fun x H1 => ∃ n : Nat, x = .int (n : Int) ∧ n < 2 ^ 40 ∧ Q (.str (binS n)) H1
theorem pe_fmtb {X : Cx} {e : Expr} {te : TE} {pos p1 p2 p3 : Pos} {k : Nat} (he : PE X e te) : PE X (.JoinedStr [.FormattedValue e (-1) (some (.JoinedStr [.Constant (.str "b") k p1] p2)) p3] pos) (tFb te) := ⟨fun pins s σ H Q I h => by
  refine JoinedStr_one (wpAny_FormattedValue_spec (thn (he.run pins s σ H _ I h) fun v s1 ⟨x, H1, I1, rx, n, ex, hn, q⟩ => ?_))
  subst ex
  obtain ⟨t, rfl⟩ := rx
  refine JoinedStr_one (Calls.Constant_str ⟨_, _, rfl, ?_⟩)
  exact fmt_b hn fun t' k => ⟨.str (binS n), H1, I1.tok _, ⟨_, rfl⟩, q⟩⟩
theorem r_fb {te : TE} {σ : L2.St} {H : Hp} {Q : VK} (h : te σ H fun x H1 => ∃ n : Nat, x = .int (n : Int) ∧ n < 2 ^ 40 ∧ Q (.str (binS n)) H1) : tFb te σ H Q := h
theorem r_m1 {r : V → List V → Hp → VK → Prop} {to te : TE} {σ : L2.St} {H : Hp} {Q : VK} (h : to σ H fun x H1 => (∃ a, x = .str a) ∧ te σ H1 fun y H2 => r x [y] H2 Q) : tM1 r to te σ H Q := h
theorem r_cnt1 {H : Hp} {Q : VK} {s : Str} (q : Q (.int (s.cps.toList.count 49 : Nat)) H) : ∃ a b, V.str s = .str a ∧ [V.str "1"] = [.str b] ∧ Q (.int (Txt.count a b)) H :=
  ⟨s, "1", rfl, rfl, by rw [show ("1" : Str) = ⟨#[49]⟩ by rfl, count_one]; exact q⟩
def blN (n : Nat) : Nat := if n = 0 then 0 else n.log2 + 1
theorem bits_nat (n : Nat) : Builtin.Int.intBits (n : Int) = blN n := by
  unfold Builtin.Int.intBits blN
  by_cases h : n = 0
  · subst h; rfl
  · rw [if_neg h, if_neg (by simp; omega)]; rfl
theorem r_bits {te : TE} {σ : L2.St} {H : Hp} {Q : VK} (h : te σ H fun x H1 => ∃ i, x = .int i ∧ Q (.int (Builtin.Int.intBits i : Nat)) H1) : tBits te σ H Q := h
theorem r_bitsI {n : Nat} {H : Hp} {Q : VK} (q : Q (.int (blN n : Nat)) H) : ∃ i, V.int (n : Int) = .int i ∧ Q (.int (Builtin.Int.intBits i : Nat)) H := ⟨n, rfl, by rw [bits_nat]; exact q⟩
theorem r_min2 {i j : Int} {H : Hp} {Q : VK} (q : Q (.int (if j < i then j else i)) H) : ∃ i' j', [V.int i, V.int j] = [V.int i', V.int j'] ∧ Q (.int (if j' < i' then j' else i')) H := ⟨i, j, rfl, q⟩
/-! bits counted -/
theorem pc_xor : ∀ (k a b : Nat), pc k (a ^^^ b) ≤ pc k a + pc k b
  | 0, _, _ => Nat.le_refl _
  | k + 1, a, b => by
    have e : (a ^^^ b) / 2 = a / 2 ^^^ b / 2 := by
      have := Nat.shiftRight_xor_distrib (a := a) (b := b) (i := 1)
      simpa [Nat.shiftRight_eq_div_pow] using this
    have ih := pc_xor k (a / 2) (b / 2)
    have hx := @Nat.xor_mod_two_eq_one a b
    have h1 := Nat.mod_two_eq_zero_or_one a
    have h2 := Nat.mod_two_eq_zero_or_one b
    have h3 := Nat.mod_two_eq_zero_or_one (a ^^^ b)
    show (a ^^^ b) % 2 + pc k ((a ^^^ b) / 2) ≤ (a % 2 + pc k (a / 2)) + (b % 2 + pc k (b / 2))
    rw [e]
    generalize (a ^^^ b) % 2 = z at *
    generalize a % 2 = x at *
    generalize b % 2 = y at *
    generalize pc k (a / 2 ^^^ b / 2) = u at *
    omega
theorem pc_tri (k a b c : Nat) : pc k (a ^^^ c) ≤ pc k (a ^^^ b) + pc k (b ^^^ c) := by
  have := pc_xor k (a ^^^ b) (b ^^^ c)
  rw [Nat.xor_assoc, ← Nat.xor_assoc b b c, Nat.xor_self, Nat.zero_xor] at this
  exact this
def farK (x : Nat) : Nat → Nat
  | 0 => 0
  | k + 1 => farK x k + (x >>> k) % 2
theorem farK_half (x : Nat) : ∀ k, farK x (k + 1) = x % 2 + farK (x / 2) k
  | 0 => by show 0 + (x >>> 0) % 2 = x % 2 + 0; simp
  | k + 1 => by
    have e : x >>> (k + 1) = (x / 2) >>> k := by
      rw [Nat.shiftRight_eq_div_pow, Nat.shiftRight_eq_div_pow, Nat.div_div_eq_div_mul, Nat.pow_succ, Nat.mul_comm]
    show farK x (k + 1) + (x >>> (k + 1)) % 2 = x % 2 + (farK (x / 2) k + ((x / 2) >>> k) % 2)
    rw [farK_half x k, e]; omega
theorem farK_pc : ∀ (k x : Nat), farK x k = pc k x
  | 0, _ => rfl
  | k + 1, x => by
    rw [farK_half, farK_pc k (x / 2)]; rfl
theorem r_while {c : TT} {tb : TS} {D : Ends} {σ : L2.St} {H : Hp} (W : Nat → L2.St → Hp → Prop) (m : Nat) (h0 : W m σ H)
    (hs : ∀ m σ H, W m σ H → c σ H fun b H1 => if b = true then ∃ N : L2.St → Hp → Prop, (∀ σ' H', N σ' H' → ∃ m', m' < m ∧ W m' σ' H') ∧ tb { D with nx := N, ct := N, bk := D.nx } σ H1 else D.nx σ H1) : tWhile c tb D σ H := ⟨W, ⟨m, h0⟩, hs⟩
end Z

namespace Z
open PySem PySem.Spec PyProof.Rows L2
/-! ## several except clauses, with and without a name -/
abbrev Suite := Addr → Value → Option Addr → TS
/-- what the clauses wish -/
def wHs (K : PySem.W.Frag) (Wx : WX) (D : Ends) : List (Value × Option Nat × Suite) → WX
  | [] => Wx
  | (c, none, ts) :: r => fun cls d σ H => ∃ b, PySem.W.exmOne K cls c = some b ∧ (b = true → ∀ a, H a = none → ts a cls d D σ H) ∧ (b = false → wHs K Wx D r cls d σ H)
  | (c, some i, ts) :: r => fun cls d σ H => ∃ b, PySem.W.exmOne K cls c = some b ∧ (b = true → ∀ a, H a = none → ts a cls d { nx := fun τ G => D.nx (τ.set i none) G, rt := D.rt, bk := fun τ G => D.bk (τ.set i none) G, ct := fun τ G => D.ct (τ.set i none) G } (σ.set i (some (.ref a))) H) ∧ (b = false → wHs K Wx D r cls d σ H)
inductive Hs (X : Cx) : List ExceptHandler → List (Value × Option Nat × Suite) → Prop
  | nil : Hs X [] []
  | bare {x : Str} {c : Value} {ts : Suite} {b0 : Stmt} {sts : List Stmt} {p1 p2 : Pos} {hs : List ExceptHandler} {l : List (Value × Option Nat × Suite)} (hc : Names X x c)
      (hS : ∀ (a : Addr) (oe : Obj) (cls : Value) (d : Option Addr) (pn : List (Addr × Obj)), Zc cls d oe → (∃ us, oe.data = .fields us) → PSs (X.suite a ((a, oe) :: pn)) (b0 :: sts) (ts a cls d)) (r : Hs X hs l) :
      Hs X (.ExceptHandler (some (.Name x p1)) none (b0 :: sts) p2 :: hs) ((c, none, ts) :: l)
  | named {x n : Str} {i : Nat} {c : Value} {ts : Suite} {b0 : Stmt} {sts : List Stmt} {p1 p2 : Pos} {hs : List ExceptHandler} {l : List (Value × Option Nat × Suite)} (hN : X.N.Nodup) (hi : X.N[i]? = some n) (hn : X.env.kindOf n = some .local) (hc : Names X x c)
      (hS : ∀ (a : Addr) (oe : Obj) (cls : Value) (d : Option Addr) (pn : List (Addr × Obj)), Zc cls d oe → (∃ us, oe.data = .fields us) → PSs (X.suite a ((a, oe) :: pn)) (b0 :: sts) (ts a cls d)) (r : Hs X hs l) :
      Hs X (.ExceptHandler (some (.Name x p1)) (some n) (b0 :: sts) p2 :: hs) ((c, some i, ts) :: l)
section
variable {X : Cx} {bd : List Stmt} {hd0 : ExceptHandler} {hds : List ExceptHandler} {cl : List (Value × Option Nat × Suite)} {tpos : Pos} {tb : WX → TS} {Wx : WX}
set_option maxHeartbeats 4000000 in
theorem ps_tries (h1 : X.stack = X.env :: X.outer) (h2 : X.env.frame = some X.env.locals) (tk : Takes X Wx)
    (body : ∀ (W : WX) (pn : List (Addr × Obj)) (xe : Value → Shared → Prop), Takes (X.tr pn xe) W → PassesOwn (model X.prog X.w) X.A X.env xe → PSs (X.tr pn xe) bd (tb W))
    (hh : Hs X (hd0 :: hds) cl) : PS X (.Try bd (hd0 :: hds) [] [] tpos) (fun D σ H => tb (wHs X.K Wx D cl) D σ H) := by
  refine ⟨fun pins s σ H D J0 wish => ?_⟩
  have ok0 := J0.ok
  have frm : X.A.frames = some (X.env :: X.outer) := by rw [ok0.frames, h1]
  refine wpAny_Try_except (wpAny_mono ((body (wHs X.K Wx D cl) (X.pn ++ pins) (fun u t1 => wpAny (model X.prog X.w) X.A (noteFrame u X.env) (fun _ t2 => wpAny (model X.prog X.w) X.A (setFlight u none) (fun _ t3 =>
    wpAny (model X.prog X.w) X.A (handleBy u X.env (hd0 :: hds)) (SP X pins D) X.xe t3) X.xe t2) X.xe t1) (fun u t' xx => ?_) PassesOwn.looking).run [] s σ H D (J0.toTry _) wish) (fun fl t1 hsp => ?_) (fun u t1 he => he))
  · obtain ⟨a, B, sI, pins', τ, G, cls, d, rfl, Jt, nb, up, sky, fresh, os, ag, ww⟩ := xx
    have Ja : Inv X pins τ G sI := Jt.ofTry ok0
    have sky2 : Sky B (X.env :: X.outer) a (Zc cls d) X.env.locals t'.heap := by rw [← h1]; exact sky
    show wpAny (model X.prog X.w) X.A (noteFrame (.ref a) X.env) _ _ _
    refine Sky.land Zc.steady frm h2 sky2 fun g3 fl3 up3 => ?_
    have J3 : Inv X pins τ G { t' with heap := g3 } := Ja.landed nb fl3.1 (up.trans up3) os ag
    obtain ⟨o3, us3, at3, z3, dt3⟩ := fl3.there
    have off : ∀ {g : Heap} {o : Obj} {us : Array Value}, g.FunFrames B (X.env :: X.outer) → g.get? a = some o → o.data = .fields us → a ∉ frs (X.env :: X.outer) := fun {g o us} ff e1 e2 hm => by
      obtain ⟨_, o2, e3, no⟩ := ff.mem hm
      rw [e1] at e3
      cases e3
      exact no _ e2
    have out := off fl3.2.2.1 at3 dt3
    have aL : a ≠ X.env.locals := fun z => out (List.mem_filterMap.mpr ⟨X.env, List.mem_cons_self, by rw [h2, z]⟩)
    have aF : a ∉ X.fs := fun hm => by
      obtain ⟨e1, e2, e3⟩ := List.mem_filterMap.mp hm
      exact out (List.mem_filterMap.mpr ⟨e1, List.mem_cons_of_mem _ e2, e3⟩)
    have S3 := J3.suite at3 dt3 fresh aL aF
    have LT : PySem.W.Looks (model X.prog X.w) g3 (typeOf (.ref a)) cls := fun A Q E t k q => wpAny_typeOf_ref (k _ _ at3) (by rw [z3.1]; exact q)
    have test : ∀ {x : Str} {p1 : Pos} {c : Value} {Q E : Value → Shared → Prop}, Names X x c → Q c { t' with heap := g3 } → wpAny (model X.prog X.w) (X.A.mark (some (.ref a))) (eval (.Name x p1) X.env) Q E { t' with heap := g3 } := fun {x p1 c Q E} nm q => by
      obtain ⟨m1, m2, m3 | ⟨m3, m4, m5⟩⟩ := nm
      · exact ld_glob (X := X.suite a ((a, o3) :: (X.pn ++ pins))) S3 m1 m3 q m2
      · exact ld_blt (X := X.suite a ((a, o3) :: (X.pn ++ pins))) S3 m1 m3 m4 q m5 m2
    have go : ∀ {hl : List ExceptHandler} {cl' : List (Value × Option Nat × Suite)}, Hs X hl cl' → wHs X.K Wx D cl' cls d τ G → wpAny (model X.prog X.w) X.A (handleBy (.ref a) X.env hl) (SP X pins D) X.xe { t' with heap := g3 } := by
      intro hl cl' hk
      induction hk with
      | nil =>
        intro ww
        refine wpAny_handleBy_nil ?_
        obtain ⟨_, _, _, o4, us4, T4, oT4, ts4, e1, e2, e3, e4, e5⟩ := id fl3
        unfold PySem.passOn
        refine wpAny_bind (wpAny_field e1 e3 e4 ?_)
        rw [if_neg (by simp)]
        have fin : wpAny (model X.prog X.w) X.A (setFlight (.ref a) X.env.frame) (fun _ t4 => wpAny (model X.prog X.w) X.A (throw (.ref a) : Sem Flow) (SP X pins D) X.xe t4) X.xe { t' with heap := g3 } := by
          rw [h2]
          refine HandSPX.setFlight_upZ fl3 fun g4 fl4 up4 => wpAny_throw (tk _ _ ⟨a, B, sI, pins, τ, G, cls, d, rfl, Ja, nb, (up.trans up3).trans up4, .inr (.inr (by rw [h1]; exact fl4)), fresh, os, ag, ww⟩)
        first | exact wpAny_bind (wpAny_pure (wpAny_bind fin)) | exact wpAny_bind fin
      | @bare x c ts b0 sts p1 p2 hs l hc hS r ih =>
        intro ww
        obtain ⟨b, eb, yes, no⟩ := ww
        refine wpAny_handleBy_cons (codeAny_handlers_test (test hc ((PySem.W.exm_one (M := model X.prog X.w) (J3.kIn) LT eb).here ?_))) (by intro q; cases q)
        cases b with
        | false => exact ih (no rfl)
        | true =>
          refine codeAny_handlers_suite (HandSPX.lands_againZ fl3 fun g4 fl4 up4 => ?_)
          have J4 : Inv X pins τ G { t' with heap := g4 } := Ja.landed nb fl4.1 ((up.trans up3).trans up4) os ag
          obtain ⟨o4, us4, at4, z4, dt4⟩ := fl4.there
          refine wpAny_mono ((hS a o4 cls d (X.pn ++ pins) z4 ⟨_, dt4⟩).run [] _ _ G _ (J4.suite at4 dt4 fresh aL aF) (yes rfl a fresh)) (fun f t6 hp => ?_) (fun _ _ z => False.elim z)
          cases f with
          | next => obtain ⟨τ6, G6, S6, q6⟩ := hp; exact ⟨_, _, S6.unsuite ok0, q6⟩
          | brk => obtain ⟨τ6, G6, S6, q6⟩ := hp; exact ⟨_, _, S6.unsuite ok0, q6⟩
          | cont => obtain ⟨τ6, G6, S6, q6⟩ := hp; exact ⟨_, _, S6.unsuite ok0, q6⟩
          | ret u => obtain ⟨v6, τ6, G6, S6, r6, q6⟩ := hp; exact ⟨_, _, _, S6.unsuite ok0, r6, q6⟩
      | @named x n i c ts b0 sts p1 p2 hs l hN hi hn hc hS r ih =>
        intro ww
        obtain ⟨b, eb, yes, no⟩ := ww
        refine wpAny_handleBy_cons (codeAny_handlers_test (test hc ((PySem.W.exm_one (M := model X.prog X.w) (J3.kIn) LT eb).here ?_))) (by intro q; cases q)
        cases b with
        | false => exact ih (no rfl)
        | true =>
          refine codeAny_handlers_suite_as (HandSPX.lands_againZ fl3 fun g4 fl4 up4 => ?_)
          have J4 : Inv X pins τ G { t' with heap := g4 } := Ja.landed nb fl4.1 ((up.trans up3).trans up4) os ag
          obtain ⟨o4, us4, at4, z4, dt4⟩ := fl4.there
          refine store_ok (X := X.suite a ((a, o4) :: (X.pn ++ pins))) (v := .ref a) (J4.suite at4 dt4 fresh aL aF) hN hi (.inl hn) rfl (fun t5 S5 => ?_) (.inr hn)
          refine wpAny_mono ((hS a o4 cls d (X.pn ++ pins) z4 ⟨_, dt4⟩).run [] t5 _ G _ S5 (yes rfl a fresh)) (fun f t6 hp => ?_) (fun _ _ z => False.elim z)
          have leave : ∀ {τ6 : L2.St} {G6 : Hp} {R : Shared → Prop}, Inv (X.suite a ((a, o4) :: (X.pn ++ pins))) [] τ6 G6 t6 → (∀ t7, Inv X pins (τ6.set i none) G6 t7 → R t7) →
              wpAny (model X.prog X.w) X.A (do bindName X.env n .none; unbindBehindTheSuite X.env n p2) (fun _ t7 => R t7) X.xe t6 := fun {τ6 G6 R} S6 k => gone_ok (S6.unsuite ok0) hN hi hn k
          cases f with
          | next => obtain ⟨τ6, G6, S6, q6⟩ := hp; exact leave S6 fun t7 J7 => ⟨_, _, J7, q6⟩
          | brk => obtain ⟨τ6, G6, S6, q6⟩ := hp; exact leave S6 fun t7 J7 => ⟨_, _, J7, q6⟩
          | cont => obtain ⟨τ6, G6, S6, q6⟩ := hp; exact leave S6 fun t7 J7 => ⟨_, _, J7, q6⟩
          | ret u => obtain ⟨v6, τ6, G6, S6, r6, q6⟩ := hp; exact leave S6 fun t7 J7 => ⟨_, _, _, J7, r6, q6⟩
    exact go hh ww
  · cases fl with
    | next => obtain ⟨τ, G, Jt, q⟩ := hsp; exact wpAny_execs_nil ⟨τ, G, Jt.ofTry ok0, q⟩
    | brk => obtain ⟨τ, G, Jt, q⟩ := hsp; exact ⟨τ, G, Jt.ofTry ok0, q⟩
    | cont => obtain ⟨τ, G, Jt, q⟩ := hsp; exact ⟨τ, G, Jt.ofTry ok0, q⟩
    | ret u => obtain ⟨v, τ, G, Jt, r, q⟩ := hsp; exact ⟨v, τ, G, Jt.ofTry ok0, r, q⟩
end
/-- a tuple walked through -/
theorem for_tupT {D : Ends} {H : Hp} {K : PySem.W.Frag} {σ : L2.St} {tl : TE} {g : TG} {tb : TS} (h : tl σ H fun x H1 => ∃ a, x = .ref a ∧ (∃ xs, SqT K H1 a xs) ∧ ∃ W : Nat → Nat → L2.St → Hp → Prop, (∃ m, W 0 m σ H1) ∧ ∀ i m σ H, W i m σ H →
  ((Itt K a).stop i H ∧ D.nx σ H) ∨ ((Itt K a).go i H ∧ ∃ N : L2.St → Hp → Prop, (∀ σ' H', N σ' H' → ∃ m', m' < m ∧ W (i + 1) m' σ' H') ∧ ∀ x H', (Itt K a).yld i H x H' → g x σ H' fun σ2 H2 => tb { D with nx := N, ct := N, bk := D.nx } σ2 H2)) : tFor (iTup K tl) g tb D σ H := h
theorem tup_go {D : Ends} {H : Hp} {K : PySem.W.Frag} {σ : L2.St} {a : Addr} {xs : List V} {g : TG} {tb : TS} (hx : ∀ H, SqT K H a xs) (Pv : Nat → L2.St → Hp → Prop) (h0 : Pv 0 σ H)
    (hs : ∀ i x σ H, xs[i]? = some x → Pv i σ H → g x σ H fun σ2 H2 => tb { D with nx := Pv (i + 1), ct := Pv (i + 1), bk := D.nx } σ2 H2) (hd : ∀ σ H, Pv xs.length σ H → D.nx σ H) :
    ∃ a', V.ref a = .ref a' ∧ (∃ xs, SqT K H a' xs) ∧ ∃ W : Nat → Nat → L2.St → Hp → Prop, (∃ m, W 0 m σ H) ∧ ∀ i m σ H, W i m σ H →
  ((Itt K a').stop i H ∧ D.nx σ H) ∨ ((Itt K a').go i H ∧ ∃ N : L2.St → Hp → Prop, (∀ σ' H', N σ' H' → ∃ m', m' < m ∧ W (i + 1) m' σ' H') ∧ ∀ x H', (Itt K a').yld i H x H' → g x σ H' fun σ2 H2 => tb { D with nx := N, ct := N, bk := D.nx } σ2 H2) :=
  ⟨a, rfl, ⟨xs, hx H⟩, for_tup (K := K) Pv h0 (fun _ _ H _ _ => hx H) hs hd⟩
theorem r_revL {K : PySem.W.Frag} {σ : L2.St} {H : Hp} {Q : VK} {te : TE} (h : te σ H fun x H1 => ∃ a xs, x = .ref a ∧ SqL K H1 a xs ∧ ∀ p, H1 p = none → Q (.ref p) (upd H1 p (.lst xs.reverse))) : tRevL K te σ H Q := h
end Z

namespace Z
open PySem PySem.Spec PyProof.Rows L2
/-! ## min of tuples of ints, t.index of an int -/
theorem r_dput {σ : L2.St} {H : Hp} {D : Ends} {td ty tv : TE} (h : tv σ H fun v H1 => td σ H1 fun x H2 => ty σ H2 fun y H3 => ∃ a H4, x = .ref a ∧ DPut H3 a y v H4 ∧ D.nx σ H4) : sDPut td ty tv D σ H := h
theorem r_dget {σ : L2.St} {H : Hp} {Q : VK} {td ty : TE} (h : td σ H fun x H1 => ty σ H1 fun y H2 => ∃ a v, x = .ref a ∧ DGet H2 a y (some v) ∧ Q v H2) : tDGet td ty σ H Q := h
theorem r_dget2 {σ : L2.St} {H : Hp} {Q : VK} {td ty tx : TE} (h : td σ H fun x H1 => ∃ a, x = .ref a ∧ IsD H1 a ∧ ty σ H1 fun y H2 => tx σ H2 fun z H3 => ∃ o, DGet H3 a y o ∧ Q (o.getD z) H3) : tDGet2 td ty tx σ H Q := h
theorem r_dnew {σ : L2.St} {H : Hp} {Q : VK} (h : ∀ p, H p = none → Q (.ref p) (upd H p (.dK []))) : tDNewK σ H Q := h
/-- for k in d, d locked -/
theorem lock_go {D : Ends} {σ : L2.St} {H : Hp} {td : TE} {g : TG} {tb : TS} {d : Addr} {kvs : List (Key × V)} (hd : H d = some (.dK kvs)) (htd : ∀ H (k : VK), k (.ref d) H → td σ H k) (Pv : Obj → Nat → L2.St → Hp → Prop)
    (h0 : ∀ od, Pv od 0 σ (upd H d (.frz od (.dK kvs)))) (hl : ∀ od i σ H, Pv od i σ H → H d = some (.frz od (.dK kvs)))
    (hs : ∀ (D' : Ends) od i k v σ H, kvs[i]? = some (k, v) → Pv od i σ H → g (kV k) σ H fun σ2 H2 => tb { D' with nx := Pv od (i + 1), ct := Pv od (i + 1), bk := D'.nx } σ2 H2) (hn : ∀ od σ H, Pv od kvs.length σ H → D.nx σ (upd H d (.dK kvs))) :
    tLock (tFor (iKeys td) g tb) D σ H := by
  refine ⟨d, .dK kvs, hd, trivial, fun od => ?_⟩
  refine htd _ _ ⟨d, od, rfl, .inl ⟨kvs, L2.upd_same, ?_⟩⟩
  refine ⟨fun i m σ H => m = kvs.length - i ∧ i ≤ kvs.length ∧ Pv od i σ H, ⟨kvs.length, by simp, Nat.zero_le _, h0 od⟩, ?_⟩
  rintro i m σ H ⟨rfl, hi, p⟩
  by_cases hlt : i < kvs.length
  · refine .inr ⟨⟨hl od i σ H p, hlt⟩, Pv od (i + 1), fun σ' H' p' => ⟨kvs.length - (i + 1), by omega, rfl, hlt, p'⟩, fun x H' y => ?_⟩
    obtain ⟨rfl, k, v, e, rfl⟩ := y
    exact hs _ od i k v σ _ e p
  · obtain rfl : i = kvs.length := by omega
    exact .inl ⟨⟨hl od _ σ H p, Nat.le_refl _⟩, hl od _ σ H p, hn od σ H p⟩
theorem lc_tupT {H : Hp} {K : PySem.W.Frag} {Q : VK} {σ : L2.St} {tl : TE} {g : TG} {tt : TT} {te : TE} {vs : List Nat} (h : tl σ H fun x H1 => ∃ a, x = .ref a ∧ (∃ xs, SqT K H1 a xs) ∧ ∀ D, H1 D = none → ∃ W : Nat → Nat → Hp → Prop, (∃ m, W 0 m (upd H1 D (.lst []))) ∧ ∀ i m H, W i m H →
  ((Itt K a).stop i H ∧ Q (.ref D) H) ∨ ((Itt K a).go i H ∧ ∃ Nx : Hp → Prop, (∀ H', Nx H' → ∃ m', m' < m ∧ W (i + 1) m' H') ∧ ∀ x H', (Itt K a).yld i H x H' → g x (wipe σ vs) H' fun σ2 H2 => wipe σ2 vs = wipe σ vs ∧ tt σ2 H2 fun b H3 =>
    if b = true then te σ2 H3 fun y H4 => ∃ acc, H4 D = some (.lst acc) ∧ acc.length < sizeLine ∧ Nx (upd H4 D (.lst (acc ++ [y]))) else Nx H3)) : tLc (iTup K tl) g tt te vs σ H Q := h
/-- [f(x) for x in t if p(x)], t a tuple of the top -/
theorem tlc_filt {H1 : Hp} {K : PySem.W.Frag} {Qd : Addr → Hp → Prop} {σ : L2.St} {tt : TT} {te : TE} {vs : List Nat} {sl : Nat} {a : Addr} {xs : List V} (p : Nat → Bool) (f : Nat → V) (hx : ∀ H, SqT K H a xs) (hz : xs.length ≤ 100000) (hw : ∀ v : Option V, wipe ((wipe σ vs).set sl v) vs = wipe σ vs)
    (ht : ∀ i x H2, xs[i]? = some x → Same H1 H2 → ∀ k : Bool → Hp → Prop, (∀ H5, Same H2 H5 → k (p i) H5) → tt ((wipe σ vs).set sl (some x)) H2 k)
    (hs : ∀ i x H2, xs[i]? = some x → Same H1 H2 → ∀ k : VK, (∀ H5, Same H2 H5 → k (f i) H5) → te ((wipe σ vs).set sl (some x)) H2 k)
    (hd : ∀ D H2, H1 D = none → Same H1 H2 → H2 D = some (.lst (((List.range xs.length).filter p).map f)) → Qd D H2) :
    ∃ a', V.ref a = .ref a' ∧ (∃ xs, SqT K H1 a' xs) ∧ ∀ D, H1 D = none → ∃ W : Nat → Nat → Hp → Prop, (∃ m, W 0 m (upd H1 D (.lst []))) ∧ ∀ i m H, W i m H →
  ((Itt K a').stop i H ∧ Qd D H) ∨ ((Itt K a').go i H ∧ ∃ Nx : Hp → Prop, (∀ H', Nx H' → ∃ m', m' < m ∧ W (i + 1) m' H') ∧ ∀ x H', (Itt K a').yld i H x H' → gName sl x (wipe σ vs) H' fun σ2 H2 => wipe σ2 vs = wipe σ vs ∧ tt σ2 H2 fun b H3 =>
    if b = true then te σ2 H3 fun y H4 => ∃ acc, H4 D = some (.lst acc) ∧ acc.length < sizeLine ∧ Nx (upd H4 D (.lst (acc ++ [y]))) else Nx H3) := by
  refine ⟨a, rfl, ⟨xs, hx _⟩, fun D hD => ?_⟩
  refine lc_tup (K := K) (xs := xs) (fun i H2 => i ≤ xs.length ∧ Same H1 H2 ∧ H2 D = some (.lst (((List.range i).filter p).map f))) ⟨Nat.zero_le _, s_upd hD, upd_same⟩ (fun i H2 _ _ => hx _) (fun i x H2 hi ⟨hil, s2, hl⟩ => ?_) (fun H2 ⟨_, s2, hl⟩ => hd D H2 hD s2 hl)
  have hlt := (List.getElem?_eq_some_iff.mp hi).1
  refine ⟨hw _, ht i x H2 hi s2 _ fun H5 s5 => ?_⟩
  have hl5 := s5 _ _ hl
  cases hp : p i with
  | true =>
    refine i_t ?_
    refine (hs i x H5 hi (s2.trans s5) _ fun H6 s6 => ⟨_, s6 _ _ hl5, szl ?_, hlt, s_mut ((s2.trans s5).trans s6) hD, ?_⟩)
    · rw [List.length_map]
      have := List.length_filter_le p (List.range i)
      rw [List.length_range] at this
      omega
    · rw [List.range_succ, List.filter_append, List.filter_cons, hp, if_pos rfl, List.filter_nil, List.map_append]
      exact upd_same
  | false =>
    refine i_f ⟨hlt, s2.trans s5, ?_⟩
    rw [List.range_succ, List.filter_append, List.filter_cons, hp, if_neg Bool.false_ne_true, List.filter_nil, List.append_nil]
    exact hl5
/-- {k: v for x in a list} -/
theorem dc_lst {H : Hp} {K : PySem.W.Frag} {Q : VK} {σ : L2.St} {tl : TE} {g : TG} {tt : TT} {tk tv : TE} {vs : List Nat} (h : tl σ H fun x H1 => ∃ a xs, x = .ref a ∧ SqL K H1 a xs ∧ ∀ D, H1 D = none → ∃ Pv : Nat → Hp → Prop, Pv 0 (upd H1 D (.dK [])) ∧ (∀ i H, i ≤ xs.length → Pv i H → SqL K H a xs) ∧
    (∀ i x H, xs[i]? = some x → Pv i H → g x (wipe σ vs) H fun σ2 H2 => wipe σ2 vs = wipe σ vs ∧ tt σ2 H2 fun b H3 =>
      if b = true then tk σ2 H3 fun y H4 => tv σ2 H4 fun z H5 => ∃ kvs k, y = kV k ∧ H5 D = some (.dK kvs) ∧ kvs.length < sizeLine ∧ Pv (i + 1) (upd H5 D (.dK (putK kvs k z))) else Pv (i + 1) H3) ∧ ∀ H, Pv xs.length H → Q (.ref D) H)
    (mono : ∀ (σ : L2.St) (H : Hp) (k k' : VK), (∀ v H, k v H → k' v H) → tl σ H k → tl σ H k') : tDc (iList K tl) g tt tk tv vs σ H Q := by
  refine mono σ H _ _ (fun x H1 hx => ?_) h
  obtain ⟨a, xs, rfl, hq, hD⟩ := hx
  refine ⟨a, rfl, ⟨xs, hq⟩, fun D hDn => ?_⟩
  obtain ⟨Pv, h0, hl, hs, hd⟩ := hD D hDn
  refine ⟨fun i m H => m = xs.length - i ∧ i ≤ xs.length ∧ Pv i H, ⟨xs.length, by simp, Nat.zero_le _, h0⟩, ?_⟩
  rintro i m H ⟨rfl, hi, p⟩
  have q := hl i H hi p
  by_cases hlt : i < xs.length
  · refine .inr ⟨⟨xs, xs[i], q, by simp [hlt]⟩, Pv (i + 1), fun H' p' => ⟨xs.length - (i + 1), by omega, rfl, hlt, p'⟩, fun x H' y => ?_⟩
    obtain ⟨e, y⟩ := y
    subst e
    exact hs i x _ (y xs q) p
  · have e : i = xs.length := by omega
    subst e
    exact .inl ⟨⟨xs, q, Nat.le_refl _⟩, hd H p⟩
section
variable {X : Cx}
/-- x = {k: v for ..} -/
theorem ps_setDc {i : Nat} {y : Str} {py : Pos} {kx vx tg iter : Expr} {ifs : List Expr} {scope : Scope} {own : List (Str × Nat)} {pos spos : Pos} {wi : TI} {g : TG} {tt : TT} {tk tv : TE} (hc : X.calm = true) (hN : X.N.Nodup) (hy : X.N[i]? = some y) (hyl : X.env.scope.names.lookup y = some .local)
    (hsw : swapsWith (.DictComp kx vx [⟨tg, iter, ifs, 0⟩] scope pos) (some (.Name y py)) spos.line X.env = pure true) (hi : PI X tg iter wi) (ok : BlkOk X.N X.env.scope scope own)
    (hg : ∀ (s : Shared) (H : Hp) (C : Addr) (cl : List (Str × Addr)) (fp : List Addr), PG (X.blk s H scope (compEnvC scope cl C X.env) fp) tg g) (ht : ∀ (s : Shared) (H : Hp) (C : Addr) (cl : List (Str × Addr)) (fp : List Addr), PTs (X.blk s H scope (compEnvC scope cl C X.env) fp) ifs tt)
    (hk : ∀ (s : Shared) (H : Hp) (C : Addr) (cl : List (Str × Addr)) (fp : List Addr), PE (X.blk s H scope (compEnvC scope cl C X.env) fp) kx tk)
    (he : ∀ (s : Shared) (H : Hp) (C : Addr) (cl : List (Str × Addr)) (fp : List Addr), PE (X.blk s H scope (compEnvC scope cl C X.env) fp) vx tv) (hs : ∀ x, foldedSetIterable iter X.env x = pure x := by intro _; rfl) :
    PS X (.Assign [.Name y py] (.DictComp kx vx [⟨tg, iter, ifs, 0⟩] scope pos) spos) (tAsg (tDc wi g tt tk tv (own.map (·.2))) (gName i)) := by
  refine ⟨fun pins s σ H D I h => ?_⟩
  rw [exec_Assign_Name_used _ _ _ _ hsw]
  refine wpAny_bind (wpAny_standAt (wpAny_bind ?_))
  show wpAny _ X.A (do let _ ← comprehension (.DictComp kx vx [⟨tg, iter, ifs, 0⟩] scope pos) scope X.env (firstIterPos [⟨tg, iter, ifs, 0⟩] pos) newDict false (eval iter X.env) (some (assign (.Name y py) X.env))) _ _ s
  have hd : tDc wi g tt tk tv (own.map (·.2)) σ H (fun x H1 => gName i x σ H1 D.nx) := h
  refine wpAny_bind (thn (dc_core (Qf := fun _ s' => SP X pins D .next s') hc hN I hi ok hg ht hk he hs hd fun L C s' m H' I' q hn f => ?_) fun _ s' hq => wpAny_pure (wpAny_pure hq))
  show wpAny _ _ (assign (.Name y py) X.env (.ref L)) _ _ _
  refine wpAny_assign_Name (store_ok2 (v := V.ref L) I' hN hy (.inl hyl) rfl (fun s2 I2 ⟨a, sb, ha⟩ => ?_) (.inr hyl))
  obtain ⟨f0, f1, f2, f3, f4, f5⟩ := f
  have haC : C ≠ a := fun e => by
    rcases ha with z | z
    · exact f1 (e.trans z)
    · exact f4 y a z e.symm
  refine ⟨m, hn.sameBut sb haC, fun h3 sb3 => ?_⟩
  exact ⟨_, H', I2.turned (t' := s2.toks) (fun b o hb e => (sb3.2 b hb).trans e) f0 f1 f3 f4 f5, q⟩
theorem sw_trueD {kx vx : Expr} {gs : List Comprehension} {scope : Scope} {pos py : Pos} {y : Str} {l : Nat} {env : Env} (hk : env.scope.kind = .function) (hy : env.scope.names.lookup y = some .local) (hl : (py.line == pos.line) = true)
    (ha : (scope.names.any fun (n, k) => n == y && (k == .local || k == .cell)) = false) : swapsWith (.DictComp kx vx gs scope pos) (some (.Name y py)) l env = pure true := by
  have e1 : env.kindOf y = some .local := hy
  have e2 : env.blockKind = .function := by unfold Env.blockKind; rw [hk]; rfl
  unfold swapsWith
  simp only [e2, e1, ha, Expr.pos, hl]
  rfl
end
theorem yes_t {σ : L2.St} {H : Hp} {k : Bool → Hp → Prop} (h : k true H) : tYes σ H k := h
theorem at_ref {ps : List Addr} {i : Int} {j : Nat} {t : Addr} (e : i = (j : Int)) (h : ps[j]? = some t) : atI (ps.map V.ref) i = some (.ref t) := by
  subst e
  exact atI_nat (by rw [List.getElem?_map, h]; rfl)
theorem r_pairT {H : Hp} {K : PySem.W.Frag} {σ σ2 : L2.St} {i j : Nat} {T : Addr} {x y : V} {k : L2.St → Hp → Prop} (hT : SqT K H T [x, y]) (hs : (σ.set i (some x)).set j (some y) = σ2) (h : k σ2 H) :
    gTup K 2 (gCons (gName i) (gCons (gName j) gNil)) (.ref T) σ H k := by
  subst hs
  exact ⟨T, [x, y], rfl, hT, rfl, x, [y], rfl, y, [], rfl, rfl, h⟩
theorem r_threeT {H : Hp} {K : PySem.W.Frag} {σ σ2 : L2.St} {i j l : Nat} {T : Addr} {x y z : V} {k : L2.St → Hp → Prop} (hT : SqT K H T [x, y, z]) (hs : ((σ.set i (some x)).set j (some y)).set l (some z) = σ2) (h : k σ2 H) :
    gTup K 3 (gCons (gName i) (gCons (gName j) (gCons (gName l) gNil))) (.ref T) σ H k := by
  subst hs
  exact ⟨T, [x, y, z], rfl, hT, rfl, x, [y, z], rfl, y, [z], rfl, z, [], rfl, rfl, h⟩
theorem lex_irr : ∀ a : List Int, HT.lexLt a a = false
  | [] => rfl
  | x :: xs => by rw [HT.lexLt_cons, if_pos rfl]; exact lex_irr xs
theorem lex_trans : ∀ {a b c : List Int}, HT.lexLt a b = true → HT.lexLt b c = true → HT.lexLt a c = true
  | _, _ :: _, [], _, h => by rw [HT.lexLt_cons_nil] at h; cases h
  | _, [], [], _, h => by rw [HT.lexLt_nil_nil] at h; cases h
  | [], _, _ :: _, _, _ => HT.lexLt_nil_cons _ _
  | _ :: _, [], _, h, _ => by rw [HT.lexLt_cons_nil] at h; cases h
  | x :: xs, y :: ys, z :: zs, h, k => by
    rw [HT.lexLt_cons] at h k ⊢
    by_cases e : x = y
    · subst e
      rw [if_pos rfl] at h
      by_cases e2 : x = z
      · subst e2
        rw [if_pos rfl] at k ⊢
        exact lex_trans h k
      · rw [if_neg e2] at k ⊢; exact k
    · rw [if_neg e] at h
      have h1 := of_decide_eq_true h
      by_cases e2 : y = z
      · subst e2
        rw [if_neg e]; exact h
      · rw [if_neg e2] at k
        have k1 := of_decide_eq_true k
        rw [if_neg (by omega)]
        exact decide_eq_true (by omega)
theorem best_least (ns : Nat → List Int) : ∀ k, argBest (fun i j => HT.lexLt (ns i) (ns j)) k ≤ k ∧ ∀ j, j ≤ k → HT.lexLt (ns j) (ns (argBest (fun i j => HT.lexLt (ns i) (ns j)) k)) = false
  | 0 => ⟨Nat.le_refl _, fun j hj => by
    have : j = 0 := by omega
    subst this; exact lex_irr _⟩
  | k + 1 => by
    obtain ⟨a, b⟩ := best_least ns k
    generalize hb : argBest (fun i j => HT.lexLt (ns i) (ns j)) k = m at *
    show (if HT.lexLt (ns (k + 1)) (ns (argBest (fun i j => HT.lexLt (ns i) (ns j)) k)) = true then k + 1 else argBest (fun i j => HT.lexLt (ns i) (ns j)) k) ≤ k + 1 ∧ _
    simp only [argBest]
    rw [hb]
    by_cases h : HT.lexLt (ns (k + 1)) (ns m) = true
    · rw [if_pos h]
      refine ⟨Nat.le_refl _, fun j hj => ?_⟩
      rcases Nat.lt_or_ge j (k + 1) with c | c
      · cases e : HT.lexLt (ns j) (ns (k + 1)) with
        | false => rfl
        | true =>
          have := lex_trans e h
          rw [b j (by omega)] at this; cases this
      · obtain rfl : j = k + 1 := by omega
        exact lex_irr _
    · rw [if_neg h]
      refine ⟨by omega, fun j hj => ?_⟩
      rcases Nat.lt_or_ge j (k + 1) with c | c
      · exact b j (by omega)
      · obtain rfl : j = k + 1 := by omega
        exact Bool.not_eq_true _ ▸ h
section
variable {X : Cx}
theorem refs_of : ∀ {ps : List Addr} {us : List Value}, Vals (ps.map V.ref) us → us = ps.map Value.ref
  | [], _, .nil => rfl
  | p :: ps, _, .cons r t => by rw [refs_of t, show _ = Value.ref p from r]; rfl
theorem tup_keeps {h h' : Heap} {t : Addr} {xs : Array Value} (k : ∀ b o, h.get? b = some o → h'.get? b = some o) (it : IsTup h t xs) : IsTup h' t xs := by
  obtain ⟨o, e, r⟩ := it
  exact ⟨o, k _ _ e, r⟩
theorem cmp_tups {pins : List (Addr × Obj)} {σ : L2.St} {H : Hp} {s : Shared} {A : Around} {its : Array Value} {ps : List Addr} {ns : Nat → List Int} (hu : A.units < cLine) (I : Inv X pins σ H s) (hv : its.toList = ps.map Value.ref)
    (hp : ∀ i p, ps[i]? = some p → SqT X.K H p ((ns i).map V.int)) : CmpIn X.prog X.w A .Lt s.heap (fun i v => its[i]? = some v) (fun i j => HT.lexLt (ns i) (ns j)) := by
  intro i j vi vj s' Q E k hi hj q
  have at' : ∀ i v, its[i]? = some v → ∃ p, ps[i]? = some p ∧ v = Value.ref p := fun i v e => by
    rw [← Array.getElem?_toList, hv, List.getElem?_map] at e
    cases e2 : ps[i]? with
    | none => rw [e2] at e; cases e
    | some p => rw [e2] at e; exact ⟨p, e2, (Option.some.inj e).symm⟩
  obtain ⟨p, e1, rfl⟩ := at' i vi hi
  obtain ⟨p', e2, rfl⟩ := at' j vj hj
  obtain ⟨its1, r1, t1, _⟩ := I.tuple (hp i p e1)
  obtain ⟨its2, r2, t2, _⟩ := I.tuple (hp j p' e2)
  exact HT.lt_tupInts (tup_keeps k t1) (tup_keeps k t2) (intsAre_of r1) (intsAre_of r2) hu q
/-- min(xs), xs a list of tuples of ints: one that no other is below -/
def rMinT (K : PySem.W.Frag) : List V → Hp → VK → Prop := fun vs H Q => ∃ (l : Addr) (ps : List Addr) (ns : Nat → List Int), vs = [.ref l] ∧ SqL K H l (ps.map V.ref) ∧ 0 < ps.length ∧
  (∀ i p, ps[i]? = some p → SqT K H p ((ns i).map V.int)) ∧ ∀ i p, ps[i]? = some p → (∀ j, j < ps.length → HT.lexLt (ns j) (ns i) = false) → Q (.ref p) H
theorem call_minT (hc : X.calm = true) (hu : X.A.units + 1 < cLine) : CallR X (.builtin "min") (rMinT X.K) := by
  intro pins s σ H vs us Q I r h
  obtain ⟨l, ps, ns, rfl, hs, h0, hp, q⟩ := h
  obtain ⟨its, rv, hl, _⟩ := I.list hs
  rw [Vals.ref1 r]
  have hv := refs_of rv
  have hsz : its.toArray.size = ps.length := by rw [List.size_toArray, hv, List.length_map]
  refine call_min_walkH (PySem.W.iter_listW (A := X.A.in1) (I.ok.hd hc) hl.isList fun s₂ e W st hfp hw hk => ?_)
  refine ⟨_, _, _, _, _, _, _, s.heap, _, rfl, W, st, hfp, by omega, hw, hk, cmp_tups (A := X.A.in1) (ns := ns) hu I (by rw [← hv]) hp, fun v s' hP m => ?_⟩
  obtain ⟨h', tk, rfl, hk'⟩ := PySem.W.moved_old e rfl m
  obtain ⟨b1, b2⟩ := best_least ns (its.toArray.size - 1)
  generalize argBest (fun i j => HT.lexLt (ns i) (ns j)) (its.toArray.size - 1) = b at *
  have hbl : b < ps.length := by omega
  have ev : v = Value.ref ps[b] := by
    have hP' : its.toArray[b]? = some v := hP
    rw [hv, List.getElem?_toArray, List.getElem?_map, List.getElem?_eq_getElem hbl] at hP'
    exact (Option.some.inj hP').symm
  subst ev
  exact ⟨.ref ps[b], H, I.kept hk', rfl, q b _ (List.getElem?_eq_getElem hbl) fun j hj => b2 j (by omega)⟩
end
section
variable {prog : Program} {w : World} {A : Around} {E : Value → Shared → Prop} {s : Shared}
theorem call_min_twoH {a b : Value} {Q : Value → Shared → Prop}
    (h : wpAny (model prog w) A.in1 (pyIter (.ref s.heap.objs.size)) (fun it s₂ => ∃ I fp wr G n P St H bt, it = .ref I ∧ WalksS prog w A.in1 I fp wr G n P St ∧ St 0 s₂ ∧ (∀ b ∈ fp, b < s₂.heap.objs.size) ∧ 0 < n ∧
      (∀ b o, H.get? b = some o → b ∉ wr) ∧ (∀ b o, H.get? b = some o → s₂.heap.get? b = some o) ∧ CmpIn prog w A.in1 .Lt H P bt ∧ ∀ v s', P (argBest bt (n - 1)) v → Moved wr G s₂ s' → Q v s') E
      { s with heap := s.heap.push { cls := .type "tuple", data := .seq #[a, b] } }) :
    wpAny (model prog w) A (call (.builtin "min") [a, b]) Q E s := by
  have hname : (toString "min" ++ toString ".loop" : String) = "min.loop" := by decide
  refine call_function_tree F.kind_min F.plain_min F.entry_min (F.args_min2 _ _) ?_
  show wpAny _ A.in1 (Builtin.Builtins.bindParams "min" ["key", "default"] 0 ⟨[], []⟩ >>= _) _ _ s
  refine wpAny_bind (wpAny_of_eq (show Builtin.Builtins.bindParams "min" ["key", "default"] 0 ⟨[], []⟩ = pure [none, none] from rfl) ?_)
  show wpAny _ A.in1 (newTuple [a, b] >>= _) _ _ s
  refine wpAny_bind (wpAny_newObj_type ?_)
  refine wpAny_bind (wpAny_mono h (fun it s₂ h₂ => ?_) fun _ _ e => e)
  obtain ⟨I, fp, wr, G, n, P, St, H, bt, rfl, W, hst, hfp, hn, hw, hkeep, hcmp, hQ⟩ := h₂
  refine wpAny_bind (wpAny_newObj_type ?_)
  have hSf : s₂.heap.objs.size ∉ fp := fun hm => Nat.lt_irrefl _ (hfp _ hm)
  rw [hname]
  refine wpAny_pure ⟨plainId_quiet F.plain_min_loop _, codeAny_min_loop_firstH W H hw bt hcmp s₂.heap.objs.size hSf (fresh_in hkeep) _ hn (fun b o e => Heap.get?_push_of_some _ (hkeep b o e)) (W.frame 0 s₂ _ s₂.toks hst (Nat.le_refl _) fun b _ o e => Heap.get?_push_of_some _ e) (Heap.get?_push_size _ rfl) fun v s' hP hm => ?_⟩
  exact hQ v s' hP (Moved.drop_new (tk := s₂.toks) hm (Nat.le_refl _))
end
section
variable {X : Cx}
/-- min(a, b) of two tuples of ints -/
def rMin2T (K : PySem.W.Frag) : List V → Hp → VK → Prop := fun vs H Q => ∃ (a b : Addr) (ns ms : List Int), vs = [.ref a, .ref b] ∧ SqT K H a (ns.map V.int) ∧ SqT K H b (ms.map V.int) ∧ (HT.lexLt ms ns = true → Q (.ref b) H) ∧ (HT.lexLt ms ns = false → Q (.ref a) H)
theorem call_min2T (hc : X.calm = true) (hu : X.A.units + 1 < cLine) : CallR X (.builtin "min") (rMin2T X.K) := by
  intro pins s σ H vs us Q I r h
  obtain ⟨a, b, ns, ms, rfl, ha, hb, qb, qa⟩ := h
  obtain ⟨u, w', rfl, r1, r2⟩ := vals2 r
  cases r1; cases r2
  have hT : (s.heap.push { cls := .type "tuple", data := .seq #[Value.ref a, Value.ref b] }).IsTuple s.heap.objs.size #[Value.ref a, Value.ref b] := ⟨_, Heap.get?_push_size _ rfl, rfl, 0, rfl⟩
  refine call_min_twoH (wpAny_pyIter_tuple hT ?_)
  have hsz : (s.heap.push { cls := .type "tuple", data := .seq #[Value.ref a, Value.ref b] }).objs.size = s.heap.objs.size + 1 := Heap.size_push ..
  have hcmp := cmp_tups (A := X.A.in1) (ps := [a, b]) (its := #[Value.ref a, Value.ref b]) (ns := fun i => if i = 0 then ns else ms) hu I rfl (fun i p e => by
    match i, e with
    | 0, e => cases e; exact ha
    | 1, e => cases e; exact hb
    | i + 2, e => cases e)
  refine ⟨_, [_, s.heap.objs.size], [_], _, _, _, _, s.heap, _, rfl, (Walks.tuple (A := X.A.in1) (I.ok.hd hc) _ s.heap.objs.size (by rw [hsz]; exact Nat.ne_of_lt (Nat.lt_succ_self _)) #[Value.ref a, Value.ref b]).toS,
    ⟨⟨_, Heap.get?_push_size _ rfl, rfl, rfl⟩, hT.push _⟩, fun c hc => ?_, by simp, fun c o e hm => ?_, fun c o e => Heap.get?_push_of_some _ (Heap.get?_push_of_some _ e), hcmp, fun v s' hP m => ?_⟩
  · show c < ((s.heap.push _).push _).objs.size
    rw [Heap.size_push, hsz]
    rcases List.mem_cons.mp hc with rfl | hc
    · rw [hsz]; exact Nat.lt_succ_self _
    · rcases List.mem_cons.mp hc with rfl | hc
      · exact Nat.lt_succ_of_lt (Nat.lt_succ_self _)
      · cases hc
  · have := Heap.lt_size e
    rw [List.mem_singleton.mp hm, hsz] at this
    exact absurd this (Nat.not_lt.mpr (Nat.le_succ _))
  · obtain ⟨h', tk, rfl, hk'⟩ := PySem.W.moved_old rfl rfl m
    have hk2 : ∀ c o, s.heap.get? c = some o → h'.get? c = some o := fun c o e => hk' c o (Heap.get?_push_of_some _ e)
    have hP' : (#[Value.ref a, Value.ref b] : Array Value)[argBest (fun i j => HT.lexLt (if i = 0 then ns else ms) (if j = 0 then ns else ms)) 1]? = some v := hP
    by_cases hba : HT.lexLt ms ns = true
    · have e : argBest (fun i j => HT.lexLt (if i = 0 then ns else ms) (if j = 0 then ns else ms)) 1 = 1 := by simp [argBest, hba]
      rw [e] at hP'
      cases hP'
      exact ⟨.ref b, H, I.kept hk2, rfl, qb hba⟩
    · have hf : HT.lexLt ms ns = false := Bool.not_eq_true _ ▸ hba
      have e : argBest (fun i j => HT.lexLt (if i = 0 then ns else ms) (if j = 0 then ns else ms)) 1 = 0 := by simp [argBest, hf]
      rw [e] at hP'
      cases hP'
      exact ⟨.ref a, H, I.kept hk2, rfl, qa hf⟩
/-- t.index(x), the first place, flat items -/
def rIdxT (K : PySem.W.Frag) : V → List V → Hp → VK → Prop := fun x xs H Q => ∃ (a : Addr) (ys : List V) (y : V) (j : Nat) (z : V), x = V.ref a ∧ xs = [y] ∧ SqT K H a ys ∧ flatV y = true ∧ ys.all flatV = true ∧ ys[j]? = some z ∧ eqV z y = true ∧
  (∀ (m : Nat) (z' : V), m < j → ys[m]? = some z' → eqV z' y = false) ∧ Q (.int (j : Nat)) H
theorem mt_idxT : MtR X "tuple.index" (rIdxT X.K) := by
  intro pins s σ H x xs v us Q I rx rxs h
  obtain ⟨a, ys, y, j, z, rfl, rfl, hs, fy, fys, hz, hzj, hno, q⟩ := h
  cases rx
  cases rxs with
  | cons ry rt =>
    rename_i uy ut
    cases rt
    obtain ⟨its, rv, pl, hlen⟩ := I.tuple hs
    obtain ⟨⟨cls, dd, dt, sl⟩, ho, hc, n, hd⟩ := pl
    simp only at hc hd
    subst hc hd
    obtain ⟨u, hu, ru⟩ := rv.get hz
    obtain ⟨hjl, hje⟩ := List.getElem?_eq_some_iff.mp hu
    have hvl := rv.length
    have hj : j < its.toArray.size := by simpa using hjl
    refine call_meets PySem.F.slot_tuple_index ⟨_, ho, rfl⟩ PySem.F.entry_tuple_index (PySem.F.args_tuple_index_2 _ _)
      (TI.tuple_indexAt a its.toArray n dd sl uy (eqU y) j hj ?_ ?_) ⟨ho, fun u' hu' => mem_eqAt ry fy rv fys u' (by simpa using hu'), ?_⟩
    · have e1 : its.toArray[j] = u := by simpa using hje
      rw [e1, eqU_of ru (flat_at fys hz)]
      exact hzj
    · intro m hm hmj
      have hml : m < its.length := by simpa using hm
      have hmy : m < ys.length := by omega
      have hy' : ys[m]? = some ys[m] := List.getElem?_eq_getElem hmy
      obtain ⟨u2, hu2, ru2⟩ := rv.get hy'
      obtain ⟨_, hme⟩ := List.getElem?_eq_some_iff.mp hu2
      have e1 : its.toArray[m] = u2 := by simpa using hme
      rw [e1, eqU_of ru2 (flat_at fys hy')]
      exact hno m _ hmj hy'
    · exact ⟨.int (j : Nat), H, I.tok _, ⟨_, rfl⟩, q⟩
end
end Z

namespace Z
open PySem PySem.Spec PyProof.Rows L2
/-! data that stands in the heap, each of its objects in a region -/
abbrev Rg := Addr → Prop
mutual
inductive Da (r : Rg) (H : Hp) : V → PyData → Prop
  | non : Da r H .non .none
  | bl (b : Bool) : Da r H (.bl b) (.bool b)
  | int (i : Int) : Da r H (.int i) (.int i)
  | str (x : Str) : Da r H (.str x) (.str x)
  | lst {a : Addr} {xs : List V} {ds : List PyData} : r a → H a = some (.lst xs) → DaL r H xs ds → Da r H (.ref a) (.list ds)
  | tup {a : Addr} {xs : List V} {ds : List PyData} : r a → H a = some (.tup xs) → DaL r H xs ds → Da r H (.ref a) (.tuple ds)
inductive DaL (r : Rg) (H : Hp) : List V → List PyData → Prop
  | nil : DaL r H [] []
  | cons {v : V} {vs : List V} {d : PyData} {ds : List PyData} : Da r H v d → DaL r H vs ds → DaL r H (v :: vs) (d :: ds)
end
mutual
theorem Da.mono {r r' : Rg} {H H' : Hp} (k : ∀ a o, r a → H a = some o → r' a ∧ H' a = some o) : ∀ {v : V} {d : PyData}, Da r H v d → Da r' H' v d
  | _, _, .non => .non
  | _, _, .bl b => .bl b
  | _, _, .int i => .int i
  | _, _, .str x => .str x
  | _, _, .lst ra h l => .lst (k _ _ ra h).1 (k _ _ ra h).2 (DaL.mono k l)
  | _, _, .tup ra h l => .tup (k _ _ ra h).1 (k _ _ ra h).2 (DaL.mono k l)
theorem DaL.mono {r r' : Rg} {H H' : Hp} (k : ∀ a o, r a → H a = some o → r' a ∧ H' a = some o) : ∀ {vs : List V} {ds : List PyData}, DaL r H vs ds → DaL r' H' vs ds
  | _, _, .nil => .nil
  | _, _, .cons h l => .cons (Da.mono k h) (DaL.mono k l)
end
mutual
theorem Da.dp {K : PySem.W.Frag} {r : Rg} {H : Hp} : ∀ {v : V} {d : PyData}, Da r H v d → Dp K H v d
  | _, _, .non => .non
  | _, _, .bl b => .bl b
  | _, _, .int i => .int i
  | _, _, .str x => .str x
  | _, _, .lst _ h l => .lst (sq_l h) (DaL.dp l)
  | _, _, .tup _ h l => .tup (sq_t h) (DaL.dp l)
theorem DaL.dp {K : PySem.W.Frag} {r : Rg} {H : Hp} : ∀ {vs : List V} {ds : List PyData}, DaL r H vs ds → DpAll K H vs ds
  | _, _, .nil => .nil
  | _, _, .cons h l => .cons (Da.dp h) (DaL.dp l)
end
theorem Da.same {r : Rg} {H H' : Hp} {v : V} {d : PyData} (h : Da r H v d) (s : Same H H') : Da r H' v d := h.mono fun _ _ ra e => ⟨ra, s _ _ e⟩
theorem DaL.same {r : Rg} {H H' : Hp} {v : List V} {d : List PyData} (h : DaL r H v d) (s : Same H H') : DaL r H' v d := h.mono fun _ _ ra e => ⟨ra, s _ _ e⟩
theorem Da.wk {r r' : Rg} {H : Hp} {v : V} {d : PyData} (h : Da r H v d) (k : ∀ a, r a → r' a) : Da r' H v d := h.mono fun _ _ ra e => ⟨k _ ra, e⟩
theorem DaL.wk {r r' : Rg} {H : Hp} {v : List V} {d : List PyData} (h : DaL r H v d) (k : ∀ a, r a → r' a) : DaL r' H v d := h.mono fun _ _ ra e => ⟨k _ ra, e⟩
theorem Da.all {r : Rg} {H : Hp} {v : V} {d : PyData} (h : Da r H v d) : Da (fun _ => True) H v d := h.wk fun _ _ => trivial
theorem Da.upd {r : Rg} {H : Hp} {v : V} {d : PyData} {p : Addr} {o : HO} (h : Da r H v d) (n : ¬ r p) : Da r (upd H p o) v d := h.mono fun a _ ra e => ⟨ra, (upd_ne (fun z : a = p => n (by rw [← z]; exact ra))).trans e⟩
theorem DaL.upd {r : Rg} {H : Hp} {v : List V} {d : List PyData} {p : Addr} {o : HO} (h : DaL r H v d) (n : ¬ r p) : DaL r (upd H p o) v d := h.mono fun a _ ra e => ⟨ra, (upd_ne (fun z : a = p => n (by rw [← z]; exact ra))).trans e⟩
theorem da_non {r : Rg} {H : Hp} {v : V} (h : Da r H v .none) : v = .non := by cases h; rfl
theorem da_int {r : Rg} {H : Hp} {v : V} {i : Int} (h : Da r H v (.int i)) : v = .int i := by cases h; rfl
theorem da_bl {r : Rg} {H : Hp} {v : V} {b : Bool} (h : Da r H v (.bool b)) : v = .bl b := by cases h; rfl
theorem da_str {r : Rg} {H : Hp} {v : V} {x : Str} (h : Da r H v (.str x)) : v = .str x := by cases h; rfl
theorem da_lst {r : Rg} {H : Hp} {v : V} {ds : List PyData} (h : Da r H v (.list ds)) : ∃ a xs, v = .ref a ∧ r a ∧ H a = some (.lst xs) ∧ DaL r H xs ds := by cases h with | lst a b c => exact ⟨_, _, rfl, a, b, c⟩
theorem da_tup {r : Rg} {H : Hp} {v : V} {ds : List PyData} (h : Da r H v (.tuple ds)) : ∃ a xs, v = .ref a ∧ r a ∧ H a = some (.tup xs) ∧ DaL r H xs ds := by cases h with | tup a b c => exact ⟨_, _, rfl, a, b, c⟩
theorem da_lstA {r : Rg} {H : Hp} {a : Addr} {ds : List PyData} (h : Da r H (.ref a) (.list ds)) : ∃ xs, r a ∧ H a = some (.lst xs) ∧ DaL r H xs ds := by cases h with | lst a b c => exact ⟨_, a, b, c⟩
theorem da_tupA {r : Rg} {H : Hp} {a : Addr} {ds : List PyData} (h : Da r H (.ref a) (.tuple ds)) : ∃ xs, r a ∧ H a = some (.tup xs) ∧ DaL r H xs ds := by cases h with | tup a b c => exact ⟨_, a, b, c⟩
theorem DaL.len {r : Rg} {H : Hp} : ∀ {xs : List V} {ds : List PyData}, DaL r H xs ds → xs.length = ds.length
  | _, _, .nil => rfl
  | _, _, .cons _ l => by simp [DaL.len l]
theorem DaL.at {r : Rg} {H : Hp} : ∀ {xs : List V} {ds : List PyData} {i : Nat} {d : PyData}, DaL r H xs ds → ds[i]? = some d → ∃ x, xs[i]? = some x ∧ Da r H x d
  | _, _, _, _, .nil, e => by cases e
  | _, _, 0, _, .cons h _, e => by cases e; exact ⟨_, rfl, h⟩
  | _, _, i + 1, _, .cons _ l, e => DaL.at l (i := i) e
theorem DaL.at' {r : Rg} {H : Hp} : ∀ {xs : List V} {ds : List PyData} {i : Nat} {x : V}, DaL r H xs ds → xs[i]? = some x → ∃ d, ds[i]? = some d ∧ Da r H x d
  | _, _, _, _, .nil, e => by cases e
  | _, _, 0, _, .cons h _, e => by cases e; exact ⟨_, rfl, h⟩
  | _, _, i + 1, _, .cons _ l, e => DaL.at' l (i := i) e
theorem DaL.of {r : Rg} {H : Hp} : ∀ {xs : List V} {ds : List PyData}, xs.length = ds.length → (∀ (i : Nat) (x : V) (d : PyData), xs[i]? = some x → ds[i]? = some d → Da r H x d) → DaL r H xs ds
  | [], [], _, _ => .nil
  | x :: xs, d :: ds, hl, k => .cons (k 0 x d rfl rfl) (DaL.of (by simpa using hl) fun i x d a b => k (i + 1) x d a b)
theorem DaL.app {r : Rg} {H : Hp} : ∀ {xs ys : List V} {ds es : List PyData}, DaL r H xs ds → DaL r H ys es → DaL r H (xs ++ ys) (ds ++ es)
  | _, _, _, _, .nil, k => k
  | _, _, _, _, .cons h l, k => .cons h (DaL.app l k)
theorem DaL.one {r : Rg} {H : Hp} {x : V} {d : PyData} (h : Da r H x d) : DaL r H [x] [d] := .cons h .nil
theorem DaL.snoc {r : Rg} {H : Hp} {xs : List V} {ds : List PyData} {x : V} {d : PyData} (l : DaL r H xs ds) (h : Da r H x d) : DaL r H (xs ++ [x]) (ds ++ [d]) := l.app (.one h)
theorem DaL.take {r : Rg} {H : Hp} : ∀ {xs : List V} {ds : List PyData} (n : Nat), DaL r H xs ds → DaL r H (xs.take n) (ds.take n)
  | _, _, 0, _ => by simp; exact .nil
  | _, _, _ + 1, .nil => .nil
  | _, _, n + 1, .cons h l => .cons h (DaL.take n l)
theorem DaL.drop {r : Rg} {H : Hp} : ∀ {xs : List V} {ds : List PyData} (n : Nat), DaL r H xs ds → DaL r H (xs.drop n) (ds.drop n)
  | _, _, 0, l => l
  | _, _, _ + 1, .nil => .nil
  | _, _, n + 1, .cons _ l => DaL.drop n l
theorem DaL.rev {r : Rg} {H : Hp} : ∀ {xs : List V} {ds : List PyData}, DaL r H xs ds → DaL r H xs.reverse ds.reverse
  | _, _, .nil => .nil
  | _, _, .cons h l => by rw [List.reverse_cons, List.reverse_cons]; exact (DaL.rev l).snoc h
theorem DaL.rep {r : Rg} {H : Hp} {x : V} {d : PyData} (h : Da r H x d) : ∀ n, DaL r H (List.replicate n x) (List.replicate n d)
  | 0 => .nil
  | n + 1 => .cons h (DaL.rep h n)
theorem DaL.set {r : Rg} {H : Hp} {x : V} {d : PyData} (h : Da r H x d) : ∀ {xs : List V} {ds : List PyData} (i : Nat), DaL r H xs ds → DaL r H (xs.set i x) (ds.set i d)
  | _, _, _, .nil => .nil
  | _, _, 0, .cons _ l => .cons h l
  | _, _, i + 1, .cons g l => .cons g (DaL.set h i l)
theorem DaL.ints {r : Rg} {H : Hp} : ∀ ns : List Int, DaL r H (ns.map V.int) (ns.map PyData.int)
  | [] => .nil
  | n :: ns => .cons (.int n) (DaL.ints ns)
theorem dal_ints {r : Rg} {H : Hp} : ∀ {ns : List Int} {xs : List V}, DaL r H xs (ns.map PyData.int) → xs = ns.map V.int
  | [], _, .nil => rfl
  | n :: ns, _, .cons h l => by rw [da_int h, dal_ints l]; rfl
theorem DaL.bools {r : Rg} {H : Hp} : ∀ bs : List Bool, DaL r H (bs.map V.bl) (bs.map PyData.bool)
  | [] => .nil
  | n :: ns => .cons (.bl n) (DaL.bools ns)
theorem dal_bools {r : Rg} {H : Hp} : ∀ {bs : List Bool} {xs : List V}, DaL r H xs (bs.map PyData.bool) → xs = bs.map V.bl
  | [], _, .nil => rfl
  | n :: ns, _, .cons h l => by rw [da_bl h, dal_bools l]; rfl
/-- naturals as data -/
def dN (cs : List Nat) : List PyData := cs.map fun c : Nat => .int (c : Int)
theorem dN_len (cs : List Nat) : (dN cs).length = cs.length := List.length_map _
theorem DaL.nats {r : Rg} {H : Hp} : ∀ cs : List Nat, DaL r H (cs.map fun c : Nat => V.int (c : Int)) (dN cs)
  | [] => .nil
  | n :: ns => .cons (.int n) (DaL.nats ns)
theorem dal_nats {r : Rg} {H : Hp} : ∀ {cs : List Nat} {xs : List V}, DaL r H xs (dN cs) → xs = cs.map fun c : Nat => V.int (c : Int)
  | [], _, .nil => rfl
  | n :: ns, _, .cons h l => by rw [da_int h, dal_nats l]; rfl
/-- a pair of ints -/
def dI2 (p : Int × Int) : PyData := .tuple [.int p.1, .int p.2]
theorem da_pair {r : Rg} {H : Hp} {v : V} {d e : PyData} (h : Da r H v (.tuple [d, e])) : ∃ a x y, v = .ref a ∧ r a ∧ H a = some (.tup [x, y]) ∧ Da r H x d ∧ Da r H y e := by
  obtain ⟨a, xs, rfl, ra, ha, l⟩ := da_tup h
  match xs, l with
  | [x, y], .cons h1 (.cons h2 .nil) => exact ⟨a, x, y, rfl, ra, ha, h1, h2⟩
theorem da_three {r : Rg} {H : Hp} {v : V} {d e f : PyData} (h : Da r H v (.tuple [d, e, f])) : ∃ a x y z, v = .ref a ∧ r a ∧ H a = some (.tup [x, y, z]) ∧ Da r H x d ∧ Da r H y e ∧ Da r H z f := by
  obtain ⟨a, xs, rfl, ra, ha, l⟩ := da_tup h
  match xs, l with
  | [x, y, z], .cons h1 (.cons h2 (.cons h3 .nil)) => exact ⟨a, x, y, z, rfl, ra, ha, h1, h2, h3⟩
theorem da_i2 {r : Rg} {H : Hp} {v : V} {p : Int × Int} (h : Da r H v (dI2 p)) : ∃ a, v = .ref a ∧ r a ∧ H a = some (.tup [.int p.1, .int p.2]) := by
  obtain ⟨a, x, y, rfl, ra, ha, h1, h2⟩ := da_pair h
  rw [da_int h1, da_int h2] at ha
  exact ⟨a, rfl, ra, ha⟩
theorem Da.pair {r : Rg} {H : Hp} {a : Addr} {x y : V} {d e : PyData} (ra : r a) (ha : H a = some (.tup [x, y])) (h1 : Da r H x d) (h2 : Da r H y e) : Da r H (.ref a) (.tuple [d, e]) := .tup ra ha (.cons h1 (.cons h2 .nil))
theorem Da.three {r : Rg} {H : Hp} {a : Addr} {x y z : V} {d e f : PyData} (ra : r a) (ha : H a = some (.tup [x, y, z])) (h1 : Da r H x d) (h2 : Da r H y e) (h3 : Da r H z f) : Da r H (.ref a) (.tuple [d, e, f]) := .tup ra ha (.cons h1 (.cons h2 (.cons h3 .nil)))
theorem Da.i2 {r : Rg} {H : Hp} {a : Addr} {p : Int × Int} (ra : r a) (ha : H a = some (.tup [.int p.1, .int p.2])) : Da r H (.ref a) (dI2 p) := .pair ra ha (.int _) (.int _)
/-! a list of one's own: its items do not reach it -/
def Ow (r : Rg) (H : Hp) (p : Addr) (ds : List PyData) : Prop := r p ∧ ∃ xs, H p = some (.lst xs) ∧ DaL (fun a => r a ∧ a ≠ p) H xs ds
theorem Ow.da {r : Rg} {H : Hp} {p : Addr} {ds : List PyData} (h : Ow r H p ds) : Da r H (.ref p) (.list ds) := by
  obtain ⟨rp, xs, hp, l⟩ := h
  exact .lst rp hp (l.wk fun _ z => z.1)
theorem Ow.nil {r : Rg} {H : Hp} {p : Addr} (rp : r p) (hp : H p = some (.lst [])) : Ow r H p [] := ⟨rp, [], hp, .nil⟩
theorem Ow.same {r : Rg} {H H' : Hp} {p : Addr} {ds : List PyData} (h : Ow r H p ds) (s : Same H H') : Ow r H' p ds := by
  obtain ⟨rp, xs, hp, l⟩ := h
  exact ⟨rp, xs, s _ _ hp, l.same s⟩
theorem Ow.wk {r r' : Rg} {H : Hp} {p : Addr} {ds : List PyData} (h : Ow r H p ds) (k : ∀ a, r a → r' a) : Ow r' H p ds := by
  obtain ⟨rp, xs, hp, l⟩ := h
  exact ⟨k _ rp, xs, hp, l.wk fun a z => ⟨k _ z.1, z.2⟩⟩
theorem Ow.mono {r r' : Rg} {H H' : Hp} {p : Addr} {ds : List PyData} (k : ∀ a o, r a → H a = some o → r' a ∧ H' a = some o) (h : Ow r H p ds) : Ow r' H' p ds := by
  obtain ⟨rp, xs, hp, l⟩ := h
  exact ⟨(k _ _ rp hp).1, xs, (k _ _ rp hp).2, l.mono fun a o z e => ⟨⟨(k _ _ z.1 e).1, z.2⟩, (k _ _ z.1 e).2⟩⟩
/-- an item more: v was made behind H, or stands in the region already -/
theorem Ow.push {r : Rg} {H H' : Hp} {p : Addr} {xs : List V} {ds : List PyData} {v : V} {d : PyData} (h : Ow r H p ds) (s : Same H H') (hp : H' p = some (.lst xs)) (hv : Da (fun a => r a ∧ a ≠ p) H' v d) : Ow r (upd H' p (.lst (xs ++ [v]))) p (ds ++ [d]) := by
  obtain ⟨rp, ys, hp0, l⟩ := h
  rw [s _ _ hp0] at hp
  cases hp
  exact ⟨rp, _, upd_same, ((l.same s).snoc hv).upd fun z => z.2 rfl⟩
/-- an item of it set anew -/
theorem Ow.put {r : Rg} {H H' : Hp} {p : Addr} {xs : List V} {ds : List PyData} {v : V} {d : PyData} (h : Ow r H p ds) (s : Same H H') (hp : H' p = some (.lst xs)) (hv : Da (fun a => r a ∧ a ≠ p) H' v d) (j : Nat) : Ow r (upd H' p (.lst (xs.set j v))) p (ds.set j d) := by
  obtain ⟨rp, ys, hp0, l⟩ := h
  rw [s _ _ hp0] at hp
  cases hp
  exact ⟨rp, _, upd_same, (DaL.set hv j (l.same s)).upd fun z => z.2 rfl⟩
/-! lists by their places -/
def rl {α : Type} (n : Nat) (f : Nat → α) : List α := (List.range n).map f
theorem rl_len {α : Type} (n : Nat) (f : Nat → α) : (rl n f).length = n := by unfold rl; rw [List.length_map, List.length_range]
theorem rl_at {α : Type} {n i : Nat} (f : Nat → α) (h : i < n) : (rl n f)[i]? = some (f i) := by unfold rl; rw [List.getElem?_map, List.getElem?_range h]; rfl
theorem rl_congr {α : Type} {n : Nat} {f g : Nat → α} (h : ∀ i, i < n → f i = g i) : rl n f = rl n g := List.map_congr_left fun i hi => h i (List.mem_range.mp hi)
theorem rl_set {α : Type} {n j : Nat} {f g : Nat → α} {v : α} (h1 : g j = v) (h2 : ∀ i, i < n → i ≠ j → g i = f i) : (rl n f).set j v = rl n g := by
  refine List.ext_getElem? fun i => ?_
  rw [List.getElem?_set, rl_len]
  by_cases hi : i < n
  · rw [rl_at g hi]
    by_cases e : j = i
    · subst e; rw [if_pos rfl, if_pos hi, h1]
    · rw [if_neg e, rl_at f hi, h2 i hi (fun z => e z.symm)]
  · by_cases e : j = i
    · subst e; rw [if_pos rfl, if_neg hi, List.getElem?_eq_none (by rw [rl_len]; omega)]
    · rw [if_neg e, List.getElem?_eq_none (by rw [rl_len]; omega), List.getElem?_eq_none (by rw [rl_len]; omega)]
theorem rl_rep {α : Type} (n : Nat) (a : α) : rl n (fun _ => a) = List.replicate n a := List.ext_getElem (by rw [rl_len, List.length_replicate]) fun i h1 h2 => by simp [rl]
/-! comprehensions: each element is told as data -/
abbrev LcJ (J : It) (H1 : Hp) (g : TG) (tt : TT) (te : TE) (vs : List Nat) (σ : L2.St) (Q : Addr → Hp → Prop) : Prop := ∀ D, H1 D = none → ∃ W : Nat → Nat → Hp → Prop, (∃ m, W 0 m (upd H1 D (.lst []))) ∧ ∀ i m H, W i m H →
  (J.stop i H ∧ Q D H) ∨ (J.go i H ∧ ∃ Nx : Hp → Prop, (∀ H', Nx H' → ∃ m', m' < m ∧ W (i + 1) m' H') ∧ ∀ x H', J.yld i H x H' → g x (wipe σ vs) H' fun σ2 H2 => wipe σ2 vs = wipe σ vs ∧ tt σ2 H2 fun b H3 =>
    if b = true then te σ2 H3 fun y H4 => ∃ acc, H4 D = some (.lst acc) ∧ acc.length < sizeLine ∧ Nx (upd H4 D (.lst (acc ++ [y]))) else Nx H3)
theorem filt_succ {α : Type} (p : Nat → Bool) (d : Nat → α) (i : Nat) : ((List.range (i + 1)).filter p).map d = ((List.range i).filter p).map d ++ (if p i = true then [d i] else []) := by
  rw [List.range_succ, List.filter_append, List.map_append]
  cases h : p i <;> simp [h]
/-- the general word: n turns, those of p give data -/
theorem lc_data {J : It} {n : Nat} {G : Hp → Prop} {Y : Nat → Hp → V → Hp → Prop} (w : Walk J n G Y) {g : TG} {tt : TT} {te : TE} {vs : List Nat} {σ : L2.St} {H1 : Hp} {Q : Addr → Hp → Prop} (hz : n ≤ 100000)
    (r : Rg) (p : Nat → Bool) (d : Nat → PyData) (hr : ∀ a, H1 a = none → r a) (hG : ∀ H, Same H1 H → G H)
    (hs : ∀ i x H H', i < n → Same H1 H → Y i H x H' → ∀ (KY : V → Hp → Prop) (KN : Hp → Prop), (p i = true → ∀ y H4, Same H H4 → Da (fun a => H a = none ∨ (r a ∧ H1 a ≠ none)) H4 y (d i) → KY y H4) → (p i = false → ∀ H3, Same H H3 → KN H3) →
      g x (wipe σ vs) H' fun σ2 H2 => wipe σ2 vs = wipe σ vs ∧ tt σ2 H2 fun b H3 => if b = true then te σ2 H3 KY else KN H3)
    (hd : ∀ D H, H1 D = none → Same H1 H → Ow r H D (((List.range n).filter p).map d) → Q D H) : LcJ J H1 g tt te vs σ Q := fun D hD => by
  refine lc_it w (fun i H => Same H1 H ∧ Ow r H D (((List.range i).filter p).map d)) ⟨s_upd hD, Ow.nil (hr _ hD) upd_same⟩ (fun i H _ z => hG H z.1) (fun i x H H' hi z y => ?_) (fun H z => hd D H hD z.1 z.2)
  obtain ⟨s1, ow⟩ := z
  obtain ⟨rp, xs, hp, l⟩ := id ow
  have hxl : xs.length ≤ i := by
    rw [l.len, List.length_map]
    have := List.length_filter_le p (List.range i)
    rw [List.length_range] at this
    exact this
  refine hs i x H H' hi s1 y _ _ (fun hpi y4 H4 s4 hy => ?_) (fun hpi H3 s3 => ?_)
  · refine ⟨xs, s4 _ _ hp, szl (by omega), s_mut (s1.trans s4) hD, ?_⟩
    rw [filt_succ, hpi, if_pos rfl]
    refine ow.push s4 (s4 _ _ hp) (hy.wk fun a za => ?_)
    rcases za with za | ⟨za, zb⟩
    · exact ⟨hr _ (s1.free za), fun z => by rw [z, hp] at za; cases za⟩
    · exact ⟨za, fun z => zb (z ▸ hD)⟩
  · refine ⟨s1.trans s3, ?_⟩
    rw [filt_succ, hpi, if_neg Bool.false_ne_true, List.append_nil]
    exact ow.same s3
/-- .. without a test -/
theorem lc_data1 {J : It} {n : Nat} {G : Hp → Prop} {Y : Nat → Hp → V → Hp → Prop} (w : Walk J n G Y) {g : TG} {te : TE} {vs : List Nat} {σ : L2.St} {H1 : Hp} {Q : Addr → Hp → Prop} (hz : n ≤ 100000)
    (r : Rg) (d : Nat → PyData) (hr : ∀ a, H1 a = none → r a) (hG : ∀ H, Same H1 H → G H)
    (hs : ∀ i x H H', i < n → Same H1 H → Y i H x H' → ∀ (KY : V → Hp → Prop), (∀ y H4, Same H H4 → Da (fun a => H a = none ∨ (r a ∧ H1 a ≠ none)) H4 y (d i) → KY y H4) →
      g x (wipe σ vs) H' fun σ2 H2 => wipe σ2 vs = wipe σ vs ∧ te σ2 H2 KY)
    (gm : ∀ (x : V) (σ : L2.St) (H : Hp) (k k' : L2.St → Hp → Prop), (∀ σ H, k σ H → k' σ H) → g x σ H k → g x σ H k')
    (hd : ∀ D H, H1 D = none → Same H1 H → Ow r H D ((List.range n).map d) → Q D H) : LcJ J H1 g tYes te vs σ Q := by
  have ef : ∀ n, (List.range n).filter (fun _ => true) = List.range n := fun n => by simp
  refine lc_data w hz r (fun _ => true) d hr hG (fun i x H H' hi s y KY KN ky _ => gm _ _ _ _ _ (fun σ2 H2 z => ⟨z.1, i_t (B := KN H2) z.2⟩) (hs i x H H' hi s y KY (ky rfl))) (fun D H a b c => hd D H a b ?_)
  rwa [ef] at c
theorem gm_name {i : Nat} (x : V) (σ : L2.St) (H : Hp) (k k' : L2.St → Hp → Prop) (h : ∀ σ H, k σ H → k' σ H) (z : gName i x σ H k) : gName i x σ H k' := h _ _ z
theorem gm_pair {K : PySem.W.Frag} {i j : Nat} (x : V) (σ : L2.St) (H : Hp) (k k' : L2.St → Hp → Prop) (h : ∀ σ H, k σ H → k' σ H) (z : gTup K 2 (gCons (gName i) (gCons (gName j) gNil)) x σ H k) : gTup K 2 (gCons (gName i) (gCons (gName j) gNil)) x σ H k' := by
  obtain ⟨a, xs, e, hq, hl, x1, r1, e1, x2, r2, e2, e3, hk⟩ := z
  exact ⟨a, xs, e, hq, hl, x1, r1, e1, x2, r2, e2, e3, h _ _ hk⟩
/-! over range(n), range(a, b), a list, a tuple -/
theorem lcr_data {σ : L2.St} {H1 : Hp} {Q : Addr → Hp → Prop} {te : TE} {vs : List Nat} {sl : Nat} {j : Int} (n : Nat) (r : Rg) (d : Nat → PyData) (hj : j.toNat = n) (hb : -(2 ^ 62) ≤ j ∧ j < 2 ^ 62) (hz : n ≤ 100000) (hw : ∀ v : Option V, wipe ((wipe σ vs).set sl v) vs = wipe σ vs) (hr : ∀ a, H1 a = none → r a)
    (hs : ∀ i H, i < n → Same H1 H → ∀ KY : V → Hp → Prop, (∀ y H4, Same H H4 → Da (fun a => H a = none ∨ (r a ∧ H1 a ≠ none)) H4 y (d i) → KY y H4) → te ((wipe σ vs).set sl (some (V.int (i : Nat)))) H KY)
    (hd : ∀ D H, H1 D = none → Same H1 H → Ow r H D ((List.range n).map d) → Q D H) :
    ∃ j' : Int, [V.int j] = [V.int j'] ∧ -(2 ^ 62) ≤ j' ∧ j' < 2 ^ 62 ∧ LcJ (Itr 0 j'.toNat) H1 (gName sl) tYes te vs σ Q := by
  refine ⟨j, rfl, hb.1, hb.2, ?_⟩
  rw [hj]
  refine lc_data1 walk_range hz r d hr (fun _ _ => trivial) (fun i x H H' hi s y KY ky => ?_) gm_name hd
  obtain ⟨rfl, rfl⟩ := y
  dsimp only
  rw [show (0 : Int) + (i : Nat) = (i : Nat) from Int.zero_add _]
  exact ⟨hw _, hs i H' hi s KY ky⟩
theorem lcr2_data {σ : L2.St} {H1 : Hp} {Q : Addr → Hp → Prop} {te : TE} {vs : List Nat} {sl : Nat} {a j : Int} (n : Nat) (r : Rg) (d : Nat → PyData) (hj : (j - a).toNat = n) (hb : -(2 ^ 62) ≤ a ∧ a < 2 ^ 62 ∧ -(2 ^ 62) ≤ j ∧ j < 2 ^ 62) (hz : n ≤ 100000) (hw : ∀ v : Option V, wipe ((wipe σ vs).set sl v) vs = wipe σ vs) (hr : ∀ a, H1 a = none → r a)
    (hs : ∀ i H, i < n → Same H1 H → ∀ KY : V → Hp → Prop, (∀ y H4, Same H H4 → Da (fun a => H a = none ∨ (r a ∧ H1 a ≠ none)) H4 y (d i) → KY y H4) → te ((wipe σ vs).set sl (some (V.int (a + (i : Nat))))) H KY)
    (hd : ∀ D H, H1 D = none → Same H1 H → Ow r H D ((List.range n).map d) → Q D H) :
    ∃ a' j' : Int, [V.int a, V.int j] = [V.int a', V.int j'] ∧ (-(2 ^ 62) ≤ a' ∧ a' < 2 ^ 62 ∧ -(2 ^ 62) ≤ j' ∧ j' < 2 ^ 62) ∧ LcJ (Itr a' (j' - a').toNat) H1 (gName sl) tYes te vs σ Q := by
  refine ⟨a, j, rfl, hb, ?_⟩
  rw [hj]
  refine lc_data1 walk_range hz r d hr (fun _ _ => trivial) (fun i x H H' hi s y KY ky => ?_) gm_name hd
  obtain ⟨rfl, rfl⟩ := y
  exact ⟨hw _, hs i H' hi s KY ky⟩
theorem lcl_data {K : PySem.W.Frag} {σ : L2.St} {H1 : Hp} {Q : Addr → Hp → Prop} {te : TE} {vs : List Nat} {sl : Nat} {a : Addr} {xs : List V} (r : Rg) (d : Nat → PyData) (hx : SqL K H1 a xs) (hz : xs.length ≤ 100000) (hw : ∀ v : Option V, wipe ((wipe σ vs).set sl v) vs = wipe σ vs) (hr : ∀ a, H1 a = none → r a)
    (hs : ∀ (i : Nat) (x : V) (H : Hp), xs[i]? = some x → Same H1 H → ∀ KY : V → Hp → Prop, (∀ y H4, Same H H4 → Da (fun a => H a = none ∨ (r a ∧ H1 a ≠ none)) H4 y (d i) → KY y H4) → te ((wipe σ vs).set sl (some x)) H KY)
    (hd : ∀ D H, H1 D = none → Same H1 H → Ow r H D ((List.range xs.length).map d) → Q D H) :
    ∃ a', V.ref a = .ref a' ∧ (∃ xs, SqL K H1 a' xs) ∧ LcJ (Itl K a') H1 (gName sl) tYes te vs σ Q := by
  refine ⟨a, rfl, ⟨xs, hx⟩, ?_⟩
  refine lc_data1 walk_list hz r d hr (fun _ s => s_sq s hx) (fun i x H H' hi s y KY ky => ?_) gm_name hd
  obtain ⟨rfl, ex⟩ := y
  exact ⟨hw _, hs i x H' ex s KY ky⟩
theorem lcl_dataP {K : PySem.W.Frag} {σ : L2.St} {H1 : Hp} {Q : Addr → Hp → Prop} {te : TE} {vs : List Nat} {s1 s2 : Nat} {a : Addr} {xs : List V} (r : Rg) (d : Nat → PyData) (hx : SqL K H1 a xs) (hz : xs.length ≤ 100000)
    (hw : ∀ v v' : Option V, wipe (((wipe σ vs).set s1 v).set s2 v') vs = wipe σ vs) (hr : ∀ a, H1 a = none → r a)
    (hp : ∀ (i : Nat) (x : V), xs[i]? = some x → ∃ (t : Addr) (y z : V), x = .ref t ∧ SqT K H1 t [y, z])
    (hs : ∀ (i : Nat) (t : Addr) (y z : V) (H : Hp), xs[i]? = some (V.ref t) → SqT K H1 t [y, z] → Same H1 H → ∀ KY : V → Hp → Prop, (∀ y H4, Same H H4 → Da (fun a => H a = none ∨ (r a ∧ H1 a ≠ none)) H4 y (d i) → KY y H4) → te (((wipe σ vs).set s1 (some y)).set s2 (some z)) H KY)
    (hd : ∀ D H, H1 D = none → Same H1 H → Ow r H D ((List.range xs.length).map d) → Q D H) :
    ∃ a', V.ref a = .ref a' ∧ (∃ xs, SqL K H1 a' xs) ∧ LcJ (Itl K a') H1 (gTup K 2 (gCons (gName s1) (gCons (gName s2) gNil))) tYes te vs σ Q := by
  refine ⟨a, rfl, ⟨xs, hx⟩, ?_⟩
  refine lc_data1 walk_list hz r d hr (fun _ s => s_sq s hx) (fun i x H H' hi s y KY ky => ?_) gm_pair hd
  obtain ⟨rfl, ex⟩ := y
  obtain ⟨t, y, z, rfl, ht⟩ := hp i x ex
  exact ⟨t, [y, z], rfl, s_st s ht, rfl, y, [z], rfl, z, [], rfl, rfl, hw _ _, hs i t y z H' ex ht s KY ky⟩
/-! what is read -/
theorem r_ixD {K : PySem.W.Frag} {r : Rg} {H : Hp} {Q : VK} {v : V} {i : Int} {j : Nat} {ds : List PyData} {d : PyData} (h : Da r H v (.list ds)) (e : i = (j : Int)) (hj : ds[j]? = some d) (q : ∀ x, Da r H x d → Q x H) : rIxL K v (.int i) H Q := by
  obtain ⟨a, xs, rfl, _, ha, l⟩ := da_lst h
  obtain ⟨x, ex, hx⟩ := l.at hj
  exact r_ixL (sq_l ha) (by subst e; exact atI_nat ex) (q x hx)
theorem r_ixDT {K : PySem.W.Frag} {r : Rg} {H : Hp} {Q : VK} {v : V} {i : Int} {j : Nat} {ds : List PyData} {d : PyData} (h : Da r H v (.tuple ds)) (e : i = (j : Int)) (hj : ds[j]? = some d) (q : ∀ x, Da r H x d → Q x H) : rIxT K v (.int i) H Q := by
  obtain ⟨a, xs, rfl, _, ha, l⟩ := da_tup h
  obtain ⟨x, ex, hx⟩ := l.at hj
  exact r_ixT (sq_t ha) (by subst e; exact atI_nat ex) (q x hx)
theorem r_lenD {K : PySem.W.Frag} {r : Rg} {H : Hp} {Q : VK} {v : V} {ds : List PyData} (h : Da r H v (.list ds)) (q : Q (.int (ds.length : Nat)) H) : cLen K [v] H Q := by
  obtain ⟨a, xs, rfl, _, ha, l⟩ := da_lst h
  exact r_lenL (sq_l ha) (by rw [l.len]; exact q)
/-- a slice is a new list -/
theorem r_slD {K : PySem.W.Frag} {r : Rg} {H : Hp} {Q : VK} {v : V} {ds : List PyData} {lo hi : Option Int} {a b : Nat} (h : Da r H v (.list ds)) (e : ∀ xs : List V, cutV xs lo hi = (xs.drop a).take b) (r' : Rg) (hr : ∀ a, r a → r' a) (hn : ∀ a, H a = none → r' a)
    (q : ∀ p H1, H p = none → Same H H1 → Ow r' H1 p ((ds.drop a).take b) → Q (.ref p) H1) : rSlL K v lo hi H Q := by
  obtain ⟨a', xs, rfl, _, ha, l⟩ := da_lst h
  refine r_slL (sq_l ha) (fun p hp => q p _ hp (s_upd hp) ⟨hn _ hp, _, upd_same, ?_⟩)
  rw [e]
  exact ((l.drop a).take b).mono fun x o rx ex => ⟨⟨hr _ rx, fun z => by rw [z, hp] at ex; cases ex⟩, s_upd hp _ _ ex⟩
/-! shapes: data that == can look at -/
def Lay (n : Nat) (d : PyData) : Prop := d.canLay0 = true ∧ d.depth ≤ n
theorem Lay.non {n : Nat} : Lay n .none := ⟨rfl, Nat.zero_le _⟩
theorem Lay.int {n : Nat} (i : Int) : Lay n (.int i) := ⟨rfl, Nat.zero_le _⟩
theorem Lay.bl {n : Nat} (b : Bool) : Lay n (.bool b) := ⟨rfl, Nat.zero_le _⟩
theorem Lay.str {n : Nat} {x : Str} (h : PyData.strOk x = true) : Lay n (.str x) := ⟨h, Nat.zero_le _⟩
theorem lay_allL : ∀ {ds : List PyData} {n : Nat}, (∀ d ∈ ds, Lay n d) → PyData.canLayAll0 ds = true ∧ PyData.depthAll ds ≤ n
  | [], _, _ => ⟨rfl, Nat.zero_le _⟩
  | d :: ds, n, h => by
    obtain ⟨a, b⟩ := h d (List.mem_cons_self ..)
    obtain ⟨c, e⟩ := lay_allL fun x hx => h x (List.mem_cons_of_mem _ hx)
    exact ⟨by simp only [PyData.canLayAll0, a, c, Bool.and_self], by show max _ _ ≤ n; omega⟩
theorem Lay.list {n : Nat} {ds : List PyData} (h : ∀ d ∈ ds, Lay n d) : Lay (n + 1) (.list ds) := by
  obtain ⟨a, b⟩ := lay_allL h
  exact ⟨by simp only [PyData.canLay0, a], Nat.succ_le_succ b⟩
theorem Lay.tuple {n : Nat} {ds : List PyData} (h : ∀ d ∈ ds, Lay n d) : Lay (n + 1) (.tuple ds) := by
  obtain ⟨a, b⟩ := lay_allL h
  exact ⟨by simp only [PyData.canLay0, a], Nat.succ_le_succ b⟩
theorem Lay.ints {n : Nat} (ns : List Int) : Lay (n + 1) (.list (ns.map PyData.int)) := .list fun d hd => by obtain ⟨z, _, rfl⟩ := List.mem_map.mp hd; exact .int z
theorem Lay.nats {n : Nat} (cs : List Nat) : Lay (n + 1) (.list (dN cs)) := .list fun d hd => by obtain ⟨z, _, rfl⟩ := List.mem_map.mp hd; exact .int _
theorem Lay.pair {n : Nat} {d e : PyData} (h1 : Lay n d) (h2 : Lay n e) : Lay (n + 1) (.tuple [d, e]) := .tuple fun x hx => by
  rcases List.mem_cons.mp hx with rfl | hx
  · exact h1
  · rw [List.mem_singleton.mp hx]; exact h2
theorem Lay.three {n : Nat} {d e f : PyData} (h1 : Lay n d) (h2 : Lay n e) (h3 : Lay n f) : Lay (n + 1) (.tuple [d, e, f]) := .tuple fun x hx => by
  rcases List.mem_cons.mp hx with rfl | hx
  · exact h1
  rcases List.mem_cons.mp hx with rfl | hx
  · exact h2
  · rw [List.mem_singleton.mp hx]; exact h3
theorem Lay.shaped {n : Nat} {d : PyData} (h : Lay n d) (hn : n ≤ 64) : SeqAt.shaped d = true := by
  unfold SeqAt.shaped
  rw [h.1, decide_eq_true (Nat.le_trans h.2 hn)]; rfl
theorem r_eqDa {K : PySem.W.Frag} {r r' : Rg} {H : Hp} {Q : VK} {v w : V} {d : PyData} (hv : Da r H v d) (hw : Da r' H w d) {n : Nat} (h : Lay n d) (hn : n ≤ 64) (q : Q (.bl true) H) : rEqD K v w H Q :=
  ⟨d, d, hv.dp, hw.dp, h.shaped hn, h.shaped hn, by rw [SeqAt.eqv_refl _ h.1]; exact q⟩
theorem r_neDa {K : PySem.W.Frag} {r r' : Rg} {H : Hp} {Q : VK} {v w : V} {d : PyData} (hv : Da r H v d) (hw : Da r' H w d) {n : Nat} (h : Lay n d) (hn : n ≤ 64) (q : Q (.bl false) H) : rNeD K v w H Q :=
  ⟨d, d, hv.dp, hw.dp, h.shaped hn, h.shaped hn, by rw [SeqAt.eqv_refl _ h.1]; exact q⟩
end Z

/-! ## the words: wtm_at "1" one step, "r" steps as far as they go, "h" a heap fact, "s" a side condition, "n" two addresses apart, "m" all that was tracked is as it was -/
local macro_rules | `(tactic| wtm_at "s") => `(tactic| first
  | (with_reducible assumption)
  | ((with_reducible refine Z.c_div ?_ ?_) <;> first | omega | decide)
  | ((with_reducible refine Z.c_mulR ?_ ?_) <;> first | omega | decide)
  | ((with_reducible refine Z.c_mulL ?_ ?_) <;> first | omega | decide)
  | ((with_reducible refine Z.c_pow ?_ ?_ ?_) <;> first | omega | decide)
  | omega | decide)
local macro_rules | `(tactic| wtm_at "n") => `(tactic| first
  | assumption | exact Ne.symm (by assumption)
  | exact Z.ne_of' (by assumption) (by wtm_at "h")
  | exact Ne.symm (Z.ne_of' (by assumption) (by wtm_at "h")))
local macro_rules | `(tactic| wtm_at "h") => `(tactic| with_reducible first
  | exact L2.upd_same
  | assumption
  | exact Eq.trans (L2.upd_ne (by wtm_at "n")) (by wtm_at "h")
  | exact Z.s_at (by assumption) (by wtm_at "h"))
local macro_rules | `(tactic| wtm_at "ql") => `(tactic| with_reducible first
  | assumption
  | exact Z.sq_l (by wtm_at "h")
  | exact Z.s_sq (by assumption) (by wtm_at "ql")
  | exact Z.s_sq (Z.s_upd (by assumption)) (by wtm_at "ql"))
local macro_rules | `(tactic| wtm_at "qt") => `(tactic| with_reducible first
  | assumption
  | exact Z.sq_t (by wtm_at "h")
  | exact Z.s_st (by assumption) (by wtm_at "qt")
  | exact Z.s_st (Z.s_upd (by assumption)) (by wtm_at "qt"))
local macro_rules | `(tactic| wtm_at "f") => `(tactic| with_reducible first
  | assumption
  | exact Z.s_back (by assumption) (by wtm_at "f"))
local macro_rules | `(tactic| wtm_at "m") => `(tactic| with_reducible first
  | exact L2.Same.refl _
  | assumption
  | exact L2.Same.trans (by wtm_at "m") (Z.s_upd (by assumption))
  | exact Z.s_mut (by wtm_at "m") (by wtm_at "f")
  | exact L2.Same.trans (by wtm_at "m") (by assumption))
local macro_rules | `(tactic| wtm_at "z") => `(tactic| first
  | (refine Z.szl ?_; simp only [List.length_map, List.length_append, List.length_cons, List.length_nil]; omega)
  | (refine Z.sz ?_; simp only [List.length_map, List.length_append, List.length_cons, List.length_nil]; omega))
local macro_rules | `(tactic| wtm_at "set") => `(tactic| (simp only [List.set_cons_zero, List.set_cons_succ]; rfl))
local macro_rules | `(tactic| wtm_at "1") => `(tactic| with_reducible first
  | refine Z.r_seq ?_ | refine Z.r_asg ?_
  | (refine' Z.r_gname ?c ?_; (case c => wtm_at "set"))
  | refine Z.r_v0 ?_ | refine Z.r_v1 ?_ | refine Z.r_v2 ?_ | refine Z.r_vS ?_ | refine Z.r_c ?_
  | refine Z.r_op ?_ | refine Z.r_lt ?_ | refine Z.r_le ?_ | refine Z.r_gt ?_ | refine Z.r_ge ?_ | refine Z.r_I0 ?_ | (refine' Z.r_I ?c ?_; (case c => wtm_at "s")) | refine Z.r_cons ?_ | refine Z.r_nil ?_
  | refine Z.r_eqI ?_ | refine Z.r_neI ?_ | refine Z.r_test ?_ | refine Z.r_bl ?_ | refine Z.r_if ?_
  | refine Z.r_cb ?_ | refine Z.r_call ?_ | refine Z.r_int ?_
  | refine Z.r_ret ?_ | refine Z.r_drop ?_ | refine Z.r_next ?_ | refine Z.r_brk ?_ | refine Z.r_cnt ?_ | refine Z.r_retN ?_
  | refine Z.i_t ?_ | refine Z.i_f ?_ | refine Z.i_nt ?_ | refine Z.i_nf ?_
  | refine Z.r_and ?_ | refine Z.r_or ?_ | refine Z.r_not ?_ | refine Z.r_andV ?_ | refine Z.r_orV ?_ | refine Z.r_notV ?_ | refine Z.r_tB ?_ | refine Z.r_ifE ?_
  | refine Z.r_chain ?_ | refine Z.r_un ?_ | refine Z.r_U ?_
  | refine Z.r_new ?_ | refine Z.r_tup ?_ | refine Z.r_bm ?_ | (refine' Z.ty_lst ?c ?_; (case c => wtm_at "ql"))
  | (refine' Z.r_append ?c ?d ?_; (case c => wtm_at "h"); (case d => wtm_at "z"))
  | (refine' Z.r_lenL ?c ?_; (case c => first | assumption | exact Z.sq_l (by assumption))) | (refine' Z.r_lenT ?c ?_; (case c => first | assumption | exact Z.sq_t (by assumption)))
  | (refine' Z.r_lenL ?c ?_; (case c => wtm_at "ql")) | (refine' Z.r_lenT ?c ?_; (case c => wtm_at "qt"))
  | refine Z.r_sl ?_ | refine Z.r_noPart ?_ | refine Z.r_part ?_ | refine Z.r_pint ?_
  | refine Z.r_isB ?_ | refine Z.r_notB ?_ | refine Z.r_eqB ?_ | refine Z.r_neB ?_ | refine Z.r_eqS ?_ | refine Z.r_neS ?_
  | refine Z.r_fld ?_ | refine Z.r_sfld ?_ | refine Z.r_make ?_ | refine Z.r_meth ?_ | refine Z.for_rng3 ?_ | refine Z.lc_rng3 ?_ | refine Z.lc_rng ?_ | refine Z.lc_rng2 ?_ | refine Z.lc_lst ?_ | refine Z.r_gsub ?_ | refine Z.for_enum ?_ | refine Z.r_intB ?_
  | refine Z.for_lst ?_ | refine Z.for_rng ?_ | refine Z.for_rng2 ?_)
local macro_rules | `(tactic| wtm_at "w") => `(tactic| simp only [L2.wipe, List.map_cons, List.map_nil, List.set_cons_zero, List.set_cons_succ])
local macro_rules | `(tactic| wtm_at "r") => `(tactic| repeat (wtm_at "1"))
local macro_rules | `(tactic| wtm_at "1") => `(tactic| with_reducible first | refine Z.r_fb ?_ | refine Z.r_m1 ?_ | refine Z.r_bits ?_ | refine Z.r_bitsI ?_ | refine Z.r_min2 ?_)
local macro_rules | `(tactic| wtm_at "1") => `(tactic| with_reducible first | refine Z.for_tupT ?_ | refine Z.r_revL ?_)

namespace M_k34
open PySem PySem.Spec PyProof.Rows L2
def topS (i : Nat) : Stmt := PySem.Challenge.pw_dotfield_k34_best_segments.main.body.getD i (.Pass ⟨0, 0, 0, 0⟩)
abbrev s_BitWriter___init__ : Stmt := (inClass (topS 2) 0)
abbrev sl_BitWriter___init__ : List Str := ["self"]
abbrev pl_BitWriter___init__ : List Str := ["self"]
theorem sc_BitWriter___init__ : FnScope sl_BitWriter___init__ pl_BitWriter___init__ (defScope s_BitWriter___init__) := ⟨rfl, rfl, rfl, by decide +kernel, rfl, by decide +kernel, by decide +kernel⟩
abbrev s_BitWriter_write : Stmt := (inClass (topS 2) 1)
abbrev sl_BitWriter_write : List Str := ["self", "width", "value", "shift"]
abbrev pl_BitWriter_write : List Str := ["self", "width", "value"]
theorem sc_BitWriter_write : FnScope sl_BitWriter_write pl_BitWriter_write (defScope s_BitWriter_write) := ⟨rfl, rfl, rfl, by decide +kernel, rfl, by decide +kernel, by decide +kernel⟩
abbrev s_BitWriter_bit_list : Stmt := (inClass (topS 2) 2)
abbrev sl_BitWriter_bit_list : List Str := ["self"]
abbrev pl_BitWriter_bit_list : List Str := ["self"]
theorem sc_BitWriter_bit_list : FnScope sl_BitWriter_bit_list pl_BitWriter_bit_list (defScope s_BitWriter_bit_list) := ⟨rfl, rfl, rfl, by decide +kernel, rfl, by decide +kernel, by decide +kernel⟩
abbrev s_count_bits : Stmt := (topS 5)
abbrev sl_count_bits : List Str := ["mode", "version"]
abbrev pl_count_bits : List Str := ["mode", "version"]
theorem sc_count_bits : FnScope sl_count_bits pl_count_bits (defScope s_count_bits) := ⟨rfl, rfl, rfl, by decide +kernel, rfl, by decide +kernel, by decide +kernel⟩
abbrev s_group_size : Stmt := (topS 15)
abbrev sl_group_size : List Str := ["mode"]
abbrev pl_group_size : List Str := ["mode"]
theorem sc_group_size : FnScope sl_group_size pl_group_size (defScope s_group_size) := ⟨rfl, rfl, rfl, by decide +kernel, rfl, by decide +kernel, by decide +kernel⟩
abbrev s_head_bits : Stmt := (topS 14)
abbrev sl_head_bits : List Str := ["mode", "version"]
abbrev pl_head_bits : List Str := ["mode", "version"]
theorem sc_head_bits : FnScope sl_head_bits pl_head_bits (defScope s_head_bits) := ⟨rfl, rfl, rfl, by decide +kernel, rfl, by decide +kernel, by decide +kernel⟩
abbrev s_fits : Stmt := (topS 12)
abbrev sl_fits : List Str := ["mode", "content", "allowed", "byte"]
abbrev pl_fits : List Str := ["mode", "content"]
theorem sc_fits : FnScope sl_fits pl_fits (defScope s_fits) := ⟨rfl, rfl, rfl, by decide +kernel, rfl, by decide +kernel, by decide +kernel⟩
abbrev s_segment_bits : Stmt := (topS 13)
abbrev sl_segment_bits : List Str := ["segment", "version", "mode", "content", "size", "widths"]
abbrev pl_segment_bits : List Str := ["segment", "version"]
theorem sc_segment_bits : FnScope sl_segment_bits pl_segment_bits (defScope s_segment_bits) := ⟨rfl, rfl, rfl, by decide +kernel, rfl, by decide +kernel, by decide +kernel⟩
abbrev s_number_of : Stmt := (topS 23)
abbrev sl_number_of : List Str := ["mode", "group", "number", "byte", "value"]
abbrev pl_number_of : List Str := ["mode", "group"]
theorem sc_number_of : FnScope sl_number_of pl_number_of (defScope s_number_of) := ⟨rfl, rfl, rfl, by decide +kernel, rfl, by decide +kernel, by decide +kernel⟩
abbrev s_write_content : Stmt := (topS 22)
abbrev sl_write_content : List Str := ["writer", "mode", "content", "size", "start", "group"]
abbrev pl_write_content : List Str := ["writer", "mode", "content"]
theorem sc_write_content : FnScope sl_write_content pl_write_content (defScope s_write_content) := ⟨rfl, rfl, rfl, by decide +kernel, rfl, by decide +kernel, by decide +kernel⟩
abbrev s_write_segments : Stmt := (topS 21)
abbrev sl_write_segments : List Str := ["writer", "segments", "version", "mode", "content"]
abbrev pl_write_segments : List Str := ["writer", "segments", "version"]
theorem sc_write_segments : FnScope sl_write_segments pl_write_segments (defScope s_write_segments) := ⟨rfl, rfl, rfl, by decide +kernel, rfl, by decide +kernel, by decide +kernel⟩
abbrev s_ways_with_byte : Stmt := (topS 18)
abbrev sl_ways_with_byte : List Str := ["mode", "ways", "widths", "longer", "taken", "bits", "behind"]
abbrev pl_ways_with_byte : List Str := ["mode", "ways"]
theorem sc_ways_with_byte : FnScope sl_ways_with_byte pl_ways_with_byte (defScope s_ways_with_byte) := ⟨rfl, rfl, rfl, by decide +kernel, rfl, by decide +kernel, by decide +kernel⟩
abbrev s_ways_onward : Stmt := (topS 19)
abbrev sl_ways_onward : List Str := ["longer", "stop", "ways", "mode", "stops", "way"]
abbrev pl_ways_onward : List Str := ["longer", "stop"]
theorem sc_ways_onward : FnScope sl_ways_onward pl_ways_onward (defScope s_ways_onward) := ⟨rfl, rfl, rfl, by decide +kernel, rfl, by decide +kernel, by decide +kernel⟩
abbrev s_best_beginning : Stmt := (topS 20)
abbrev sl_best_beginning : List Str := ["longer", "version", "beginnings", "mode", "bits", "behind"]
abbrev pl_best_beginning : List Str := ["longer", "version"]
theorem sc_best_beginning : FnScope sl_best_beginning pl_best_beginning (defScope s_best_beginning) := ⟨rfl, rfl, rfl, by decide +kernel, rfl, by decide +kernel, by decide +kernel⟩
abbrev s_best_choices : Stmt := (topS 17)
abbrev sl_best_choices : List Str := ["text", "version", "choices", "ways", "start", "modes", "longer", "bits", "behind", "order", "mode"]
abbrev pl_best_choices : List Str := ["text", "version"]
theorem sc_best_choices : FnScope sl_best_choices pl_best_choices (defScope s_best_choices) := ⟨rfl, rfl, rfl, by decide +kernel, rfl, by decide +kernel, by decide +kernel⟩
abbrev s_best_segments : Stmt := (topS 16)
abbrev sl_best_segments : List Str := ["text", "version", "choices", "segments", "start", "mode", "end"]
abbrev pl_best_segments : List Str := ["text", "version"]
theorem sc_best_segments : FnScope sl_best_segments pl_best_segments (defScope s_best_segments) := ⟨rfl, rfl, rfl, by decide +kernel, rfl, by decide +kernel, by decide +kernel⟩
abbrev s__law_cell : Stmt := (topS 25)
abbrev sl__law_cell : List Str := ["script", "k"]
abbrev pl__law_cell : List Str := ["script", "k"]
theorem sc__law_cell : FnScope sl__law_cell pl__law_cell (defScope s__law_cell) := ⟨rfl, rfl, rfl, by decide +kernel, rfl, by decide +kernel, by decide +kernel⟩
abbrev s__law_head : Stmt := (topS 29)
abbrev sl__law_head : List Str := ["mode", "version", "group"]
abbrev pl__law_head : List Str := ["mode", "version"]
theorem sc__law_head : FnScope sl__law_head pl__law_head (defScope s__law_head) := ⟨rfl, rfl, rfl, by decide +kernel, rfl, by decide +kernel, by decide +kernel⟩
abbrev s__law_text : Stmt := (topS 26)
abbrev sl__law_text : List Str := ["script", "first", "most", "signs", "text", "k", "cell", "kind", "j", "rest"]
abbrev pl__law_text : List Str := ["script", "first", "most"]
theorem sc__law_text : FnScope sl__law_text pl__law_text (defScope s__law_text) := ⟨rfl, rfl, rfl, by decide +kernel, rfl, by decide +kernel, by decide +kernel⟩
abbrev s__law_value : Stmt := (topS 27)
abbrev sl__law_value : List Str := ["byte", "signs", "k"]
abbrev pl__law_value : List Str := ["byte"]
theorem sc__law_value : FnScope sl__law_value pl__law_value (defScope s__law_value) := ⟨rfl, rfl, rfl, by decide +kernel, rfl, by decide +kernel, by decide +kernel⟩
abbrev s__law_allows : Stmt := (topS 28)
abbrev sl__law_allows : List Str := ["mode", "byte"]
abbrev pl__law_allows : List Str := ["mode", "byte"]
theorem sc__law_allows : FnScope sl__law_allows pl__law_allows (defScope s__law_allows) := ⟨rfl, rfl, rfl, by decide +kernel, rfl, by decide +kernel, by decide +kernel⟩
abbrev s__law_cost : Stmt := (topS 30)
abbrev sl__law_cost : List Str := ["mode", "size", "version"]
abbrev pl__law_cost : List Str := ["mode", "size", "version"]
theorem sc__law_cost : FnScope sl__law_cost pl__law_cost (defScope s__law_cost) := ⟨rfl, rfl, rfl, by decide +kernel, rfl, by decide +kernel, by decide +kernel⟩
abbrev s__law_due : Stmt := (topS 31)
abbrev sl__law_due : List Str := ["text", "version", "least", "k", "first", "back", "at", "best", "mode", "stop", "bits", "segments", "turn"]
abbrev pl__law_due : List Str := ["text", "version"]
theorem sc__law_due : FnScope sl__law_due pl__law_due (defScope s__law_due) := ⟨rfl, rfl, rfl, by decide +kernel, rfl, by decide +kernel, by decide +kernel⟩
abbrev s__law_bits : Stmt := (topS 32)
abbrev sl__law_bits : List Str := ["value", "width", "k"]
abbrev pl__law_bits : List Str := ["value", "width"]
theorem sc__law_bits : FnScope sl__law_bits pl__law_bits (defScope s__law_bits) := ⟨rfl, rfl, rfl, by decide +kernel, rfl, by decide +kernel, by decide +kernel⟩
abbrev s__law_written : Stmt := (topS 33)
abbrev sl__law_written : List Str := ["segments", "version", "bits", "segment", "mode", "text", "group", "at", "value", "part", "byte"]
abbrev pl__law_written : List Str := ["segments", "version"]
theorem sc__law_written : FnScope sl__law_written pl__law_written (defScope s__law_written) := ⟨rfl, rfl, rfl, by decide +kernel, rfl, by decide +kernel, by decide +kernel⟩
abbrev s_law : Stmt := (topS 34)
abbrev sl_law : List Str := ["script", "version", "text", "given", "found", "bits", "due", "segment", "byte", "allowed", "writer"]
abbrev pl_law : List Str := ["script"]
theorem sc_law : FnScope sl_law pl_law (defScope s_law) := ⟨rfl, rfl, rfl, by decide +kernel, rfl, by decide +kernel, by decide +kernel⟩
def nv (cs : List Nat) : List V := cs.map fun c => V.int (c : Nat)
theorem nv_len (cs : List Nat) : (nv cs).length = cs.length := List.length_map _
theorem nv_int (cs : List Nat) : nv cs = (cs.map fun c : Nat => (c : Int)).map V.int := by
  unfold nv; rw [List.map_map]; rfl
theorem nv_get {cs : List Nat} {i : Nat} {x : V} (h : (nv cs)[i]? = some x) : ∃ c, cs[i]? = some c ∧ x = .int (c : Nat) := by
  unfold nv at h
  rw [List.getElem?_map] at h
  cases e : cs[i]? with
  | none => rw [e] at h; cases h
  | some z => rw [e] at h; exact ⟨z, rfl, (Option.some.inj h).symm⟩
theorem nv_at {cs : List Nat} {i : Int} {j : Nat} (e : i = (j : Int)) (h : j < cs.length) : atI (nv cs) i = some (.int (cs.getD j 0 : Nat)) := by
  subst e
  refine atI_nat ?_
  unfold nv
  rw [List.getElem?_map, List.getElem?_eq_getElem h, List.getD_eq_getElem?_getD, List.getElem?_eq_getElem h]
  rfl
theorem nv_set (cs : List Nat) (j c : Nat) : (nv cs).set j (.int (c : Nat)) = nv (cs.set j c) := by
  unfold nv; rw [List.map_set]
theorem nv_rep (n : Nat) : List.replicate n (V.int 0) = nv (List.replicate n 0) := by
  unfold nv; rw [List.map_replicate]; rfl
/-! ints that are naturals -/
theorem nat_shr (b k : Nat) : ((b : Int) / 2 ^ ((k : Nat) : Int).toNat) = ((b >>> k : Nat) : Int) := by
  rw [Int.toNat_natCast, Nat.shiftRight_eq_div_pow]
  have e : (2 : Int) ^ k = ((2 ^ k : Nat) : Int) := by simp
  rw [e]; rfl
theorem nat_shl (b k : Nat) : ((b : Int) * 2 ^ ((k : Nat) : Int).toNat) = ((b <<< k : Nat) : Int) := by
  rw [Int.toNat_natCast, Nat.shiftLeft_eq]
  have e : (2 : Int) ^ k = ((2 ^ k : Nat) : Int) := by simp
  rw [e]; rfl
theorem nat_xor (a b : Nat) : Builtin.bitXor (a : Int) (b : Int) = ((a ^^^ b : Nat) : Int) := by
  rw [Bits.bitXor_pp (Int.natCast_nonneg _) (Int.natCast_nonneg _)]; rfl
theorem nat_and (a b : Nat) : Builtin.bitAnd (a : Int) (b : Int) = ((a &&& b : Nat) : Int) := by
  unfold Builtin.bitAnd
  rw [decide_eq_true (Int.natCast_nonneg a), decide_eq_true (Int.natCast_nonneg b)]
  rfl
theorem nat_and1 (a : Nat) : Builtin.bitAnd (a : Int) 1 = ((a % 2 : Nat) : Int) := by
  rw [show (1 : Int) = ((1 : Nat) : Int) from rfl, nat_and, Nat.and_one_is_mod]
def valN (bs : List Nat) : Nat := bs.foldl (fun v b => 2 * v + b) 0
theorem valN_take {bs : List Nat} {i b : Nat} (e : bs[i]? = some b) : valN (bs.take (i + 1)) = 2 * valN (bs.take i) + b := by
  unfold valN
  rw [List.take_add_one, e, List.foldl_append]
  rfl
/-- the bits of a field, the first i of them -/
def fbs (w v i : Nat) : List Nat := (List.range i).map fun k => (v >>> (w - 1 - k)) % 2
theorem fbs_succ (w v i : Nat) : fbs w v (i + 1) = fbs w v i ++ [(v >>> (w - 1 - i)) % 2] := by
  unfold fbs
  rw [List.range_succ, List.map_append]
  rfl
theorem fbs_len (w v i : Nat) : (fbs w v i).length = i := by unfold fbs; rw [List.length_map, List.length_range]
theorem nv_app (a b : List Nat) : nv (a ++ b) = nv a ++ nv b := List.map_append ..
theorem nv_cut (cs : List Nat) {a b : Nat} (h : a ≤ b) : cutV (nv cs) (some (a : Int)) (some (b : Int)) = nv ((cs.drop a).take (b - a)) := by
  rw [Z.cut_mid h]
  unfold nv
  rw [List.map_take, List.map_drop]
/-- filled up to whole bytes -/
def padded (bs : List Nat) : List Nat := bs ++ List.replicate ((8 - bs.length % 8) % 8) 0
theorem padded_len (bs : List Nat) : (padded bs).length % 8 = 0 ∧ (padded bs).length ≤ bs.length + 7 := by
  unfold padded
  rw [List.length_append, List.length_replicate]
  omega
def chunk (bs : List Nat) (i : Nat) : List Nat := ((padded bs).drop (8 * i)).take 8
def bytesN (bs : List Nat) (n : Nat) : List Nat := (List.range n).map fun i => valN (chunk bs i)
theorem bytesN_succ (bs : List Nat) (n : Nat) : bytesN bs (n + 1) = bytesN bs n ++ [valN (chunk bs n)] := by
  unfold bytesN
  rw [List.range_succ, List.map_append]
  rfl
theorem bytesN_len (bs : List Nat) (n : Nat) : (bytesN bs n).length = n := by unfold bytesN; rw [List.length_map, List.length_range]
def toBytes (bs : List Nat) : List Nat := bytesN bs ((padded bs).length / 8)
theorem rg8 {n : Nat} (h : n % 8 = 0) (hl : n ≤ 100000) : RgC 0 (n : Int) 8 (n / 8) := by
  have e : Builtin.Range.rangeSize 0 (n : Int) 8 = ((n / 8 : Nat) : Int) := by
    rw [PyProof.Rows.rangeSize_pos (by decide) (by omega)]
    omega
  refine ⟨by decide, by decide, ?_, e⟩
  unfold Builtin.Range.small
  rw [e]
  have fl : ∀ z : Int, -9223372036854775808 ≤ z → z < 9223372036854775808 → Builtin.Range.rangeFitsLong z = true := fun z a b => by
    have a' : -(2 ^ 63) ≤ z := Int.le_trans (by decide) a
    have b' : z < 2 ^ 63 := Int.lt_of_lt_of_le b (by decide)
    unfold Builtin.Range.rangeFitsLong
    rw [decide_eq_true a', decide_eq_true b']; rfl
  rw [fl 0 (by decide) (by decide), fl n (by omega) (by omega), fl 8 (by decide) (by decide), fl _ (by omega) (by omega), if_pos (show (8 : Int) > 0 by decide), fl _ (by omega) (by omega), Bool.or_true]
  rfl
theorem two_pos (n : Int) : (0 : Int) < 1 * 2 ^ n.toNat := by
  rw [Int.one_mul]
  exact Int.pow_pos (by decide)
/-- a writer stands at p, its bits at b -/
def WAt (C : Addr) (H : Hp) (p b : Addr) (bs : List Nat) : Prop := (∃ dx, H p = some (.ins C dx [("_bits", .ref b)])) ∧ H b = some (.lst (nv bs))
theorem WAt.same {C : Addr} {H H' : Hp} {p b : Addr} {bs : List Nat} (w : WAt C H p b bs) (s : Same H H') : WAt C H' p b bs := ⟨⟨w.1.choose, s _ _ w.1.choose_spec⟩, s _ _ w.2⟩
theorem no_w : ¬ (("write" : Str) = "_bits") := by decide +kernel
theorem no_bl : ¬ (("bit_list" : Str) = "_bits") := by decide +kernel
theorem no_by : ¬ (("byte_list" : Str) = "_bits") := by decide +kernel
theorem no_bw : ¬ (("bits_written" : Str) = "_bits") := by decide +kernel
/-- a reader stands at p: its bits at b, its position t -/
def RAt (C : Addr) (H : Hp) (p b : Addr) (t : Int) : Prop := ∃ dx, H p = some (.ins C dx [("_bits", .ref b), ("_position", .int t)])
theorem RAt.same {C : Addr} {H H' : Hp} {p b : Addr} {t : Int} (w : RAt C H p b t) (s : Same H H') : RAt C H' p b t := ⟨w.choose, s _ _ w.choose_spec⟩
theorem f_pb : ¬ (("_position" : Str) = "_bits") := by decide +kernel
theorem f_bp : ¬ (("_bits" : Str) = "_position") := by decide +kernel
theorem f_np : ¬ (("name" : Str) = "place") := by decide +kernel
theorem f_pn : ¬ (("place" : Str) = "name") := by decide +kernel
theorem no_m {m : Str} {x y : V} (h1 : ¬ m = "_bits") (h2 : ¬ m = "_position") : List.lookup m [(("_bits" : Str), x), ("_position", y)] = none := (Z.look_s h1).trans ((Z.look_s h2).trans Z.look_0)
theorem r_1 : ¬ (("read" : Str) = "_bits") := by decide +kernel
theorem r_2 : ¬ (("read" : Str) = "_position") := by decide +kernel
theorem l_1 : ¬ (("left" : Str) = "_bits") := by decide +kernel
theorem l_2 : ¬ (("left" : Str) = "_position") := by decide +kernel
theorem a_1 : ¬ (("at" : Str) = "_bits") := by decide +kernel
theorem a_2 : ¬ (("at" : Str) = "_position") := by decide +kernel
def trunc (n : Nat) : HO := .xd [("name", .str "Truncated"), ("place", .int n)]
def modes : List Str := ["numeric", "alphanumeric", "byte"]
def cbT : List (List Nat) := [[10, 12, 14], [9, 11, 13], [8, 16, 16]]
def grp (v : Nat) : Nat := if v < 10 then 0 else if v < 27 then 1 else 2
def cbN (m v : Nat) : Nat := (cbT.getD m []).getD (grp v) 0
theorem tri_at {l : List Nat} {g : Nat} (h : g < l.length) : (l.map fun n : Nat => Z.Tr.i (n : Nat))[g]? = some (.i (l.getD g 0 : Nat)) := by
  rw [List.getElem?_map, List.getD_eq_getElem?_getD, List.getElem?_eq_getElem h]; rfl
theorem cb_len : ∀ m, m < 3 → (cbT.getD m []).length = 3 := by decide +kernel
theorem cb_at (m : Nat) (hm : m < 3) (g : Nat) (hg : g < 3) : ((cbT.getD m []).map fun n : Nat => Z.Tr.i (n : Nat))[g]? = some (.i ((cbT.getD m []).getD g 0 : Nat)) := tri_at (by rw [cb_len m hm]; exact hg)
theorem grp0 {v : Nat} (h : v < 10) : grp v = 0 := by unfold grp; rw [if_pos h]
theorem grp1 {v : Nat} (h : ¬ v < 10) (h2 : v < 27) : grp v = 1 := by unfold grp; rw [if_neg h, if_pos h2]
theorem grp2 {v : Nat} (h : ¬ v < 10) (h2 : ¬ v < 27) : grp v = 2 := by unfold grp; rw [if_neg h, if_neg h2]
/-! ## reading segments -/
def Bt (bs : List Nat) : Prop := ∀ b ∈ bs, b < 2
theorem Bt.app {a b : List Nat} (ha : Bt a) (hb : Bt b) : Bt (a ++ b) := fun x hx => by
  rcases List.mem_append.mp hx with h | h
  · exact ha x h
  · exact hb x h
theorem Bt.take {a : List Nat} (ha : Bt a) (n : Nat) : Bt (a.take n) := fun x hx => ha x (List.mem_of_mem_take hx)
theorem Bt.drop {a : List Nat} (ha : Bt a) (n : Nat) : Bt (a.drop n) := fun x hx => ha x (List.mem_of_mem_drop hx)
theorem valN_snoc (a : List Nat) (b : Nat) : valN (a ++ [b]) = 2 * valN a + b := by unfold valN; rw [List.foldl_append]; rfl
theorem valN_lt : ∀ (n : Nat) (a : List Nat), a.length = n → Bt a → valN a < 2 ^ n
  | 0, a, h, _ => by
    have : a = [] := List.length_eq_zero_iff.mp h
    subst this; decide
  | n + 1, a, h, hb => by
    have hne : a ≠ [] := fun z => by rw [z] at h; cases h
    have e := List.dropLast_concat_getLast hne
    have l : a.dropLast.length = n := by rw [List.length_dropLast]; omega
    have i := valN_lt n a.dropLast l fun x hx => hb x ((List.dropLast_sublist a).subset hx)
    have g := hb (a.getLast hne) (List.getLast_mem hne)
    rw [← e, valN_snoc]
    rw [Nat.pow_succ]
    omega
def numK (bs : List Nat) (p w : Nat) : Nat := valN ((bs.drop p).take w)
theorem numK_lt {bs : List Nat} (h : Bt bs) {p w : Nat} (hl : p + w ≤ bs.length) : numK bs p w < 2 ^ w :=
  valN_lt w _ (by rw [List.length_take, List.length_drop]; omega) ((h.drop p).take w)
theorem numK_succ {bs : List Nat} {p k : Nat} (hl : p + k < bs.length) : numK bs p (k + 1) = 2 * numK bs p k + bs.getD (p + k) 0 := by
  unfold numK
  have e : (bs.drop p)[k]? = some (bs.getD (p + k) 0) := by
    rw [List.getElem?_drop, List.getD_eq_getElem?_getD, List.getElem?_eq_getElem hl]; rfl
  exact valN_take e
def wdT : List (List Nat) := [[0, 4, 7, 10], [0, 6, 11], [0, 8]]
def wdN (m s : Nat) : Nat := (wdT.getD m []).getD s 0
def gsN (m : Nat) : Nat := 3 - m
def bsT : List Nat := [10, 45, 256]
def bsN (m : Nat) : Nat := bsT.getD m 0
def anL : List Nat := [48, 49, 50, 51, 52, 53, 54, 55, 56, 57, 65, 66, 67, 68, 69, 70, 71, 72, 73, 74, 75, 76, 77, 78, 79, 80, 81, 82, 83, 84, 85, 86, 87, 88, 89, 90, 32, 36, 37, 42, 43, 45, 46, 47, 58]
def sgN (m x : Nat) : Nat := if m = 2 then x else anL.getD x 0
def grpR (m v : Nat) : Nat → List Nat
  | 0 => []
  | j + 1 => grpR m v j ++ [sgN m (v / bsN m ^ j % bsN m)]
theorem grpR_len (m v : Nat) : ∀ j, (grpR m v j).length = j
  | 0 => rfl
  | j + 1 => by show (grpR m v j ++ _).length = _; rw [List.length_append, grpR_len m v j]; rfl
def digs (m s v : Nat) : List Nat := (grpR m v s).reverse
theorem digs_len (m s v : Nat) : (digs m s v).length = s := by unfold digs; rw [List.length_reverse, grpR_len]
inductive RR
  | er (k q : Nat)
  | ok (cs : List Nat) (q : Nat)
def conN (bs : List Nat) (m : Nat) : Nat → Nat → Nat → List Nat → RR
  | 0, p, _, acc => .ok acc p
  | f + 1, p, left, acc => if left = 0 then .ok acc p else
      if bs.length < p + wdN m (min (gsN m) left) then .er 0 bs.length else
      if bsN m ^ (min (gsN m) left) ≤ numK bs p (wdN m (min (gsN m) left)) then .er 2 p else
      conN bs m f (p + wdN m (min (gsN m) left)) (left - min (gsN m) left) (acc ++ digs m (min (gsN m) left) (numK bs p (wdN m (min (gsN m) left))))
inductive SR
  | er (k q : Nat)
  | ok (segs : List (Nat × List Nat))
def mdN (n : Nat) : Option Nat := if n = 1 then some 0 else if n = 2 then some 1 else if n = 4 then some 2 else none
def cntN (bs : List Nat) (m v p : Nat) : RR := if bs.length < p + cbN m v then .er 0 bs.length else if numK bs p (cbN m v) = 0 then .er 2 p else conN bs m (numK bs p (cbN m v)) (p + cbN m v) (numK bs p (cbN m v)) []
def segN (bs : List Nat) (v : Nat) : Nat → Nat → List (Nat × List Nat) → SR
  | 0, _, acc => .ok acc
  | f + 1, p, acc => if bs.length < p + 4 then .ok acc else if numK bs p 4 = 0 then .ok acc else
      match mdN (numK bs p 4) with
      | none => .er 1 p
      | some m => match cntN bs m v (p + 4) with
        | .er k q => .er k q
        | .ok cs q => segN bs v f q (acc ++ [(m, cs)])
def enm (k : Nat) : Str := (["Truncated", "InvalidMode", "InvalidCount"] : List Str).getD k ""
def xdE (k q : Nat) : HO := .xd [("name", .str (enm k)), ("place", .int q)]
/-- a list of segments stands at p -/
def SegsAt (H : Hp) (p : Addr) (segs : List (Nat × List Nat)) : Prop := ∃ xs : List V, H p = some (.lst xs) ∧ xs.length = segs.length ∧ ∀ (i : Nat) (s : Nat × List Nat), segs[i]? = some s → ∃ t l : Addr, xs[i]? = some (.ref t) ∧ H t = some (.tup [.str (modes.getD s.1 ""), .ref l]) ∧ H l = some (.lst (nv s.2)) ∧ l ≠ p
theorem SegsAt.keep {H H1 : Hp} {p r C dx : Addr} {fs : List (Str × V)} {segs : List (Nat × List Nat)} (h : SegsAt H p segs) (hr : H r = some (.ins C dx fs)) (k : ∀ x o, H x = some o → x ≠ r → H1 x = some o) : SegsAt H1 p segs := by
  obtain ⟨xs, h1, h2, h3⟩ := h
  have nn : ∀ x o, H x = some o → (∀ C dx fs, o ≠ .ins C dx fs) → H1 x = some o := fun x o e n => k x o e fun z => by rw [z, hr] at e; cases e; exact n _ _ _ rfl
  refine ⟨xs, nn _ _ h1 (fun _ _ _ z => by cases z), h2, fun i s e => ?_⟩
  obtain ⟨t, l, a, b, c, d⟩ := h3 i s e
  exact ⟨t, l, a, nn _ _ b (fun _ _ _ z => by cases z), nn _ _ c (fun _ _ _ z => by cases z), d⟩
theorem SegsAt.same {H H1 : Hp} {p : Addr} {segs : List (Nat × List Nat)} (h : SegsAt H p segs) (k : Same H H1) : SegsAt H1 p segs := by
  obtain ⟨xs, h1, h2, h3⟩ := h
  refine ⟨xs, k _ _ h1, h2, fun i s e => ?_⟩
  obtain ⟨t, l, a, b, c, d⟩ := h3 i s e
  exact ⟨t, l, a, k _ _ b, k _ _ c, d⟩
theorem SegsAt.nil {H : Hp} {p : Addr} (h : H p = some (.lst [])) : SegsAt H p [] := ⟨[], h, rfl, fun i s e => by cases e⟩
theorem SegsAt.push {H : Hp} {p t l : Addr} {xs : List V} {segs : List (Nat × List Nat)} {m : Nat} {cs : List Nat} (h : SegsAt H p segs) (hp : H p = some (.lst xs)) (ht : H t = some (.tup [.str (modes.getD m ""), .ref l])) (hl : H l = some (.lst (nv cs))) (hn : l ≠ p) : SegsAt (upd H p (.lst (xs ++ [V.ref t]))) p (segs ++ [(m, cs)]) := by
  obtain ⟨xs', h1, h2, h3⟩ := h
  rw [hp] at h1; cases h1
  refine ⟨_, L2.upd_same, by rw [List.length_append, List.length_append, h2]; rfl, fun i s e => ?_⟩
  by_cases hi : i < segs.length
  · rw [List.getElem?_append_left hi] at e
    obtain ⟨t', l', a, b, c, d⟩ := h3 i s e
    exact ⟨t', l', by rw [List.getElem?_append_left (by omega)]; exact a, (L2.upd_ne (ne_of b hp (by intro z; cases z))).trans b, (L2.upd_ne d).trans c, d⟩
  · rw [List.getElem?_append_right (by omega)] at e
    have e0 : i - segs.length = 0 := by
      have := (List.getElem?_eq_some_iff.mp e).1
      simp at this; omega
    rw [e0] at e
    cases e
    exact ⟨t, l, by rw [List.getElem?_append_right (by omega), h2, e0]; rfl, (L2.upd_ne (ne_of ht hp (by intro z; cases z))).trans ht, (L2.upd_ne hn).trans hl, hn⟩
def segD (s : Nat × List Nat) : PyData := .tuple [.str (modes.getD s.1 ""), .list (s.2.map fun c : Nat => PyData.int (c : Int))]
theorem dp_nv {K : PySem.W.Frag} {H : Hp} (cs : List Nat) : DpAll K H (nv cs) (cs.map fun c : Nat => PyData.int (c : Int)) := by
  have := Z.dp_ints (K := K) (H := H) (cs.map fun c : Nat => (c : Int))
  rwa [← nv_int, List.map_map] at this
theorem dp_all {K : PySem.W.Frag} {H : Hp} {f : (Nat × List Nat) → PyData} : ∀ (segs : List (Nat × List Nat)) (xs : List V), xs.length = segs.length → (∀ (i : Nat) (s : Nat × List Nat), segs[i]? = some s → ∃ x, xs[i]? = some x ∧ Dp K H x (f s)) → DpAll K H xs (segs.map f)
  | [], [], _, _ => .nil
  | s :: segs, x :: xs, hl, h => by
    obtain ⟨y, e, d⟩ := h 0 s rfl
    cases e
    exact .cons d (dp_all segs xs (by simpa using hl) fun i s' e => h (i + 1) s' e)
theorem SegsAt.dp {K : PySem.W.Frag} {H : Hp} {p : Addr} {segs : List (Nat × List Nat)} (h : SegsAt H p segs) : Dp K H (.ref p) (.list (segs.map segD)) := by
  obtain ⟨xs, h1, h2, h3⟩ := h
  refine .lst (Z.sq_l h1) (dp_all segs xs h2 fun i s e => ?_)
  obtain ⟨t, l, a, b, c, _⟩ := h3 i s e
  exact ⟨_, a, .tup (Z.sq_t b) (.cons (.str _) (.cons (.lst (Z.sq_l c) (dp_nv _)) .nil))⟩
theorem lay_nv (cs : List Nat) : PyData.canLayAll0 (cs.map fun c : Nat => PyData.int (c : Int)) = true := by
  have := Z.lay_ints (cs.map fun c : Nat => (c : Int))
  rwa [List.map_map] at this
theorem dep_nv (cs : List Nat) : PyData.depthAll (cs.map fun c : Nat => PyData.int (c : Int)) = 0 := by
  have := Z.depth_ints (cs.map fun c : Nat => (c : Int))
  rwa [List.map_map] at this
theorem md_ok : ∀ m : Nat, PyData.strOk (modes.getD m "") = true
  | 0 => by decide +kernel
  | 1 => by decide +kernel
  | 2 => by decide +kernel
  | _ + 3 => by show PyData.strOk "" = true; decide +kernel
theorem lay_tup (x : Str) (ys : List PyData) (d : PyData) (h : PyData.strOk x = true) (h2 : d.canLay0 = true) : (PyData.tuple [.str x, d]).canLay0 = true := by
  simp only [PyData.canLay0, PyData.canLayAll0, h, h2, Bool.and_self]
theorem lay_lst (ys : List PyData) (h : PyData.canLayAll0 ys = true) : (PyData.list ys).canLay0 = true := by
  simp only [PyData.canLay0, h]
theorem lay_segs : ∀ segs : List (Nat × List Nat), PyData.canLayAll0 (segs.map segD) = true
  | [] => rfl
  | s :: r => by
    show ((segD s).canLay0 && PyData.canLayAll0 (r.map segD)) = true
    rw [lay_segs r]
    rw [show (segD s).canLay0 = true from lay_tup _ [] _ (md_ok s.1) (lay_lst _ (lay_nv s.2))]; rfl
theorem dep_segs : ∀ segs : List (Nat × List Nat), PyData.depthAll (segs.map segD) ≤ 2
  | [] => Nat.zero_le _
  | s :: r => by
    show max (segD s).depth (PyData.depthAll (r.map segD)) ≤ 2
    have h := dep_segs r
    have e : (segD s).depth = 2 := by
      show (max 0 (max (PyData.depthAll (s.2.map fun c : Nat => PyData.int (c : Int)) + 1) 0)) + 1 = 2
      rw [dep_nv]; rfl
    omega
theorem shaped_segs (segs : List (Nat × List Nat)) : SeqAt.shaped (.list (segs.map segD)) = true := by
  have h1 : (PyData.list (segs.map segD)).canLay0 = true := lay_lst _ (lay_segs segs)
  have h2 : (PyData.list (segs.map segD)).depth ≤ 64 := by
    show PyData.depthAll (segs.map segD) + 1 ≤ 64
    have := dep_segs segs; omega
  unfold SeqAt.shaped
  rw [h1, decide_eq_true h2]; rfl
theorem r_eqSegs {K : PySem.W.Frag} {H : Hp} {Q : VK} {a b : Addr} {segs : List (Nat × List Nat)} (ha : SegsAt H a segs) (hb : SegsAt H b segs) (q : Q (.bl true) H) : rEqD K (.ref a) (.ref b) H Q :=
  ⟨_, _, ha.dp, hb.dp, shaped_segs segs, shaped_segs segs, by rw [SeqAt.eqv_refl _ (lay_lst _ (lay_segs segs))]; exact q⟩
theorem enm_ok : ∀ k : Nat, PyData.strOk (enm k) = true
  | 0 => by decide +kernel
  | 1 => by decide +kernel
  | 2 => by decide +kernel
  | _ + 3 => by show PyData.strOk "" = true; decide +kernel
theorem lay_er (k : Nat) (i : Int) : (PyData.tuple [.str (enm k), .int i]).canLay0 = true := lay_tup _ [] _ (enm_ok k) (by simp only [PyData.canLay0])
theorem shaped_er (k : Nat) (i : Int) : SeqAt.shaped (.tuple [.str (enm k), .int i]) = true := by
  have h2 : (PyData.tuple [.str (enm k), .int i]).depth ≤ 64 := by
    show max 0 (max 0 0) + 1 ≤ 64; decide
  unfold SeqAt.shaped
  rw [lay_er, decide_eq_true h2]; rfl
theorem r_eqEr {K : PySem.W.Frag} {H : Hp} {Q : VK} {a b : Addr} {k : Nat} {i : Int} (ha : H a = some (.tup [.str (enm k), .int i])) (hb : H b = some (.tup [.str (enm k), .int i])) (q : Q (.bl true) H) : rEqD K (.ref a) (.ref b) H Q :=
  ⟨_, _, .tup (Z.sq_t ha) (.cons (.str _) (.cons (.int i) .nil)), .tup (Z.sq_t hb) (.cons (.str _) (.cons (.int i) .nil)), shaped_er k i, shaped_er k i, by rw [SeqAt.eqv_refl _ (lay_er k i)]; exact q⟩
theorem md_cases {m : Nat} (h : m < 3) : m = 0 ∨ m = 1 ∨ m = 2 := by omega
theorem gs_pos {m : Nat} (h : m < 3) : 1 ≤ gsN m ∧ gsN m ≤ 3 := by unfold gsN; omega
theorem an_at (x : Nat) (h : x < 45) : (anL.map fun n : Nat => Z.Tr.i (n : Nat))[x]? = some (.i (anL.getD x 0 : Nat)) := tri_at (l := anL) h
theorem bs_pos : ∀ m, m < 3 → 0 < bsN m ∧ bsN m ≤ 256 := by decide +kernel
theorem wd_len : ∀ m, m < 3 → (wdT.getD m []).length = gsN m + 1 := by decide +kernel
theorem wd_lt : ∀ m, m < 3 → ∀ s, s ≤ 3 → wdN m s ≤ 11 := by decide +kernel
theorem wd_pos : ∀ m, m < 3 → ∀ s, s ≤ gsN m → 1 ≤ s → 1 ≤ wdN m s := by decide +kernel
theorem cb_lim : ∀ m, m < 3 → ∀ g, g < 3 → (cbT.getD m []).getD g 0 ≤ 16 ∧ 1 ≤ (cbT.getD m []).getD g 0 := by decide +kernel
theorem grp_lt (v : Nat) : grp v < 3 := by unfold grp; split; · decide
                                           · split <;> decide
theorem cbN_lim {m v : Nat} (h : m < 3) : cbN m v ≤ 16 ∧ 1 ≤ cbN m v := cb_lim m h _ (grp_lt v)
theorem md_byte {m : Nat} (h : m < 3) : Z.dB (modes.getD m "" = "byte") = Z.dB (m = 2) := by
  rcases md_cases h with e | e | e <;> subst e <;> decide +kernel
theorem ne_byte : ∀ m, m < 3 → ¬ m = 2 → bsN m ≤ 45 := by decide +kernel
theorem xor_none {n : Nat} : mdN n = none ↔ n ≠ 1 ∧ n ≠ 2 ∧ n ≠ 4 := by
  unfold mdN
  constructor
  · intro h
    refine ⟨fun z => ?_, fun z => ?_, fun z => ?_⟩ <;> subst z <;> cases h
  · rintro ⟨a, b, c⟩
    rw [if_neg a, if_neg b, if_neg c]
theorem md_some {n m : Nat} (h : mdN n = some m) : m < 3 ∧ n = 2 ^ m := by
  unfold mdN at h
  split at h
  · cases h; exact ⟨by decide, by omega⟩
  · split at h
    · cases h; exact ⟨by decide, by omega⟩
    · split at h
      · cases h; exact ⟨by decide, by omega⟩
      · cases h
theorem md_of {m : Nat} (h : m < 3) : mdN (2 ^ m) = some m := by
  rcases md_cases h with e | e | e <;> subst e <;> rfl
/-! ## the best segments: two ways to the same -/
namespace Sg
/-- bits, bytes behind -/
abbrev Wy := Int × Nat
/-- bits, bytes behind, mode -/
abbrev Ch := Int × Nat × Nat
def le2 (a b : Wy) : Prop := a.1 < b.1 ∨ (a.1 = b.1 ∧ a.2 ≤ b.2)
def le3 (a b : Ch) : Prop := a.1 < b.1 ∨ (a.1 = b.1 ∧ (a.2.1 < b.2.1 ∨ (a.2.1 = b.2.1 ∧ a.2.2 ≤ b.2.2)))
theorem le2_refl (a : Wy) : le2 a a := Or.inr ⟨rfl, Nat.le_refl _⟩
theorem le3_refl (a : Ch) : le3 a a := Or.inr ⟨rfl, Or.inr ⟨rfl, Nat.le_refl _⟩⟩
theorem le2_trans {a b c : Wy} (h : le2 a b) (k : le2 b c) : le2 a c := by unfold le2 at *; omega
theorem le3_trans {a b c : Ch} (h : le3 a b) (k : le3 b c) : le3 a c := by unfold le3 at *; omega
theorem le2_anti {a b : Wy} (h : le2 a b) (k : le2 b a) : a = b := by
  obtain ⟨a1, a2⟩ := a; obtain ⟨b1, b2⟩ := b
  unfold le2 at *; simp only at *
  obtain ⟨rfl, rfl⟩ : a1 = b1 ∧ a2 = b2 := by omega
  rfl
theorem le3_anti {a b : Ch} (h : le3 a b) (k : le3 b a) : a = b := by
  obtain ⟨a1, a2, a3⟩ := a; obtain ⟨b1, b2, b3⟩ := b
  unfold le3 at *; simp only at *
  obtain ⟨rfl, rfl, rfl⟩ : a1 = b1 ∧ a2 = b2 ∧ a3 = b3 := by omega
  rfl
theorem le2_total (a b : Wy) : le2 a b ∨ le2 b a := by unfold le2; omega
theorem le3_total (a b : Ch) : le3 a b ∨ le3 b a := by unfold le3; omega
def Best2 (S : Wy → Prop) (v : Wy) : Prop := S v ∧ ∀ w, S w → le2 v w
def Best3 (S : Ch → Prop) (v : Ch) : Prop := S v ∧ ∀ w, S w → le3 v w
theorem best3_one {S T : Ch → Prop} {v w : Ch} (h : Best3 S v) (k : Best3 T w) (e : ∀ x, S x ↔ T x) : v = w :=
  le3_anti (h.2 w ((e w).mpr k.1)) (k.2 v ((e v).mp h.1))

/-- widths of a group's bytes, bytes of a group, bits of the head, which byte a mode allows (the byte at the distance d from the end, d at least 1) -/
structure Tx where
  W : Nat → Nat → Int
  g : Nat → Nat
  hd : Nat → Int
  al : Nat → Nat → Prop
  gp : ∀ m, 0 < g m
  w0 : ∀ m, W m 0 = 0
variable (X : Tx)
/-- the bits of j further bytes behind r of the last group -/
def D (m : Nat) : Nat → Nat → Int
  | _, 0 => 0
  | r, j + 1 => X.W m (r + 1) - X.W m r + D m ((r + 1) % X.g m) j
def Run (m d j : Nat) : Prop := j ≤ d ∧ ∀ i, i < j → X.al m (d - i)
/-- the ways on from the distance d: L tells the least bits from each distance on -/
def Way (L : Nat → Int) (m d r : Nat) (v : Wy) : Prop := ∃ j, Run X m d j ∧ v = (D X m r j + L (d - j), d - j)
def Go (L : Nat → Int) (m d r : Nat) (v : Wy) : Prop := ∃ j, 1 ≤ j ∧ Run X m d j ∧ v = (D X m r j + L (d - j), d - j)
def Start (L : Nat → Int) (d : Nat) (v : Ch) : Prop := ∃ m, m < 3 ∧ ∃ j, 1 ≤ j ∧ Run X m d j ∧ v = (X.hd m + D X m 0 j + L (d - j), d - j, m)
theorem run_succ {m d j : Nat} : Run X m (d + 1) (j + 1) ↔ X.al m (d + 1) ∧ Run X m d j := by
  constructor
  · rintro ⟨h, k⟩
    refine ⟨k 0 (by omega), by omega, fun i hi => ?_⟩
    have := k (i + 1) (by omega)
    rwa [show d + 1 - (i + 1) = d - i by omega] at this
  · rintro ⟨a, h, k⟩
    refine ⟨by omega, fun i hi => ?_⟩
    cases i with
    | zero => exact a
    | succ i => rw [show d + 1 - (i + 1) = d - i by omega]; exact k i (by omega)
theorem way_end (L : Nat → Int) (m r : Nat) : Best2 (Way X L m 0 r) (L 0, 0) := by
  refine ⟨⟨0, ⟨by omega, fun i hi => absurd hi (by omega)⟩, by simp [D]⟩, ?_⟩
  rintro w ⟨j, ⟨hj, _⟩, rfl⟩
  obtain rfl : j = 0 := by omega
  simp only [D]
  exact Or.inr ⟨by simp, Nat.le_refl _⟩
/-- one byte more in front -/
theorem go_byte {L : Nat → Int} {m d r : Nat} {w : Wy} (ha : X.al m (d + 1)) (h : Best2 (Way X L m d ((r + 1) % X.g m)) w) : Best2 (Go X L m (d + 1) r) (X.W m (r + 1) - X.W m r + w.1, w.2) := by
  obtain ⟨⟨j, hj, rfl⟩, k⟩ := h
  refine ⟨⟨j + 1, by omega, (run_succ X).mpr ⟨ha, hj⟩, ?_⟩, ?_⟩
  · rw [show d + 1 - (j + 1) = d - j by omega]
    simp only [D, Prod.mk.injEq, and_true]; omega
  · rintro v ⟨i, hi, hr, rfl⟩
    obtain ⟨i, rfl⟩ : ∃ i', i = i' + 1 := ⟨i - 1, by omega⟩
    have := k _ ⟨i, ((run_succ X).mp hr).2, rfl⟩
    rw [show d + 1 - (i + 1) = d - i by omega]
    unfold le2 at *
    simp only [D] at *
    omega
/-- the least of going on and of stopping -/
theorem way_min {L : Nat → Int} {m d r : Nat} {w : Wy} (h : Best2 (Go X L m d r) w) (v : Wy) (hv : v = w ∨ v = (L d, d)) (h1 : le2 v w) (h2 : le2 v (L d, d)) : Best2 (Way X L m d r) v := by
  constructor
  · rcases hv with rfl | rfl
    · obtain ⟨j, _, hj, e⟩ := h.1
      exact ⟨j, hj, e⟩
    · exact ⟨0, ⟨by omega, fun i hi => absurd hi (by omega)⟩, by simp [D]⟩
  · rintro x ⟨j, hj, rfl⟩
    cases j with
    | zero => simpa [D] using h2
    | succ j => exact le2_trans h1 (h.2 _ ⟨j + 1, by omega, hj, rfl⟩)
theorem way_stop {L : Nat → Int} {m d r : Nat} (hd : ¬ X.al m d) (h0 : 0 < d) : Best2 (Way X L m d r) (L d, d) := by
  refine ⟨⟨0, ⟨by omega, fun i hi => absurd hi (by omega)⟩, by simp [D]⟩, ?_⟩
  rintro x ⟨j, ⟨hj, k⟩, rfl⟩
  cases j with
  | zero => simpa [D] using le2_refl _
  | succ j => exact absurd (by simpa using k 0 (by omega)) hd
/-- the least beginning: vs are the ways behind a first byte, of the modes that allow it -/
theorem start_best {L : Nat → Int} {d : Nat} {b : Nat → Wy} (h : ∀ m, m < 3 → X.al m d → Best2 (Go X L m d 0) (b m)) {v : Ch}
    (hv : ∃ m, m < 3 ∧ X.al m d ∧ v = (X.hd m + (b m).1, (b m).2, m)) (hl : ∀ m, m < 3 → X.al m d → le3 v (X.hd m + (b m).1, (b m).2, m)) : Best3 (Start X L d) v := by
  constructor
  · obtain ⟨m, hm, ha, rfl⟩ := hv
    obtain ⟨j, h1, hr, e⟩ := (h m hm ha).1
    refine ⟨m, hm, j, h1, hr, ?_⟩
    rw [e]; simp only [Prod.mk.injEq, and_true]; omega
  · rintro w ⟨m, hm, j, h1, hr, rfl⟩
    have ha : X.al m d := by simpa using hr.2 0 (by omega)
    have k := (h m hm ha).2 _ ⟨j, h1, hr, rfl⟩
    refine le3_trans (hl m hm ha) ?_
    unfold le2 at k; unfold le3
    simp only at *
    omega
/-- a table of the best beginnings up to the distance n -/
def Tab (f : Nat → Ch) (n : Nat) : Prop := (f 0).1 = 0 ∧ ∀ d, 1 ≤ d → d ≤ n → Best3 (Start X (fun i => (f i).1) d) (f d)
theorem start_congr {L L' : Nat → Int} {d : Nat} (h : ∀ i, i < d → L i = L' i) (v : Ch) : Start X L d v ↔ Start X L' d v := by
  constructor
  · rintro ⟨m, hm, j, h1, hr, rfl⟩
    exact ⟨m, hm, j, h1, hr, by rw [h _ (by have := hr.1; omega)]⟩
  · rintro ⟨m, hm, j, h1, hr, rfl⟩
    exact ⟨m, hm, j, h1, hr, by rw [h _ (by have := hr.1; omega)]⟩
/-- there is one table alone -/
theorem tab_one {f f' : Nat → Ch} {n : Nat} (h : Tab X f n) (h' : Tab X f' n) : ∀ d, 1 ≤ d → d ≤ n → f d = f' d := by
  have key : ∀ d, d ≤ n → (f d).1 = (f' d).1 ∧ (1 ≤ d → f d = f' d) := by
    intro d
    induction d using Nat.strongRecOn with
    | _ d ih =>
      intro hd
      by_cases h0 : 1 ≤ d
      · have e : f d = f' d := best3_one (h.2 d h0 hd) (h'.2 d h0 hd) (start_congr X fun i hi => (ih i hi (by omega)).1)
        exact ⟨by rw [e], fun _ => e⟩
      · obtain rfl : d = 0 := by omega
        exact ⟨by rw [h.1, h'.1], fun z => absurd z (by omega)⟩
  exact fun d h1 h2 => (key d h2).2 h1
/-- the bits of a segment, by groups -/
def G (m k : Nat) : Int := (k / X.g m : Nat) * X.W m (X.g m) + X.W m (k % X.g m)
theorem g_succ (m k : Nat) : G X m (k + 1) = G X m k + (X.W m (k % X.g m + 1) - X.W m (k % X.g m)) := by
  have hg := X.gp m
  unfold G
  by_cases h : k % X.g m + 1 = X.g m
  · have e1 : (k + 1) % X.g m = 0 := by rw [Nat.add_mod, ← Nat.mod_add_mod] ; simp [h]
    have e2 : (k + 1) / X.g m = k / X.g m + 1 := by
      have a := Nat.div_add_mod k (X.g m)
      have : k + 1 = X.g m * (k / X.g m + 1) := by rw [Nat.mul_add, Nat.mul_one]; omega
      rw [this, Nat.mul_div_cancel_left _ hg]
    rw [e1, e2, h, X.w0]
    push_cast
    rw [Int.add_mul]; omega
  · have hl := Nat.mod_lt k hg
    have a := Nat.div_add_mod k (X.g m)
    have e : k + 1 = X.g m * (k / X.g m) + (k % X.g m + 1) := by omega
    have hl2 : k % X.g m + 1 < X.g m := by omega
    have e1 : (k + 1) % X.g m = k % X.g m + 1 := by rw [e, Nat.mul_add_mod, Nat.mod_eq_of_lt hl2]
    have e2 : (k + 1) / X.g m = k / X.g m := by rw [e, Nat.mul_add_div hg, Nat.div_eq_of_lt hl2, Nat.add_zero]
    rw [e1, e2]; omega
theorem d_g (m : Nat) : ∀ j k, D X m (k % X.g m) j = G X m (k + j) - G X m k
  | 0, k => by simp [D]
  | j + 1, k => by
    have e : (k % X.g m + 1) % X.g m = (k + 1) % X.g m := by rw [Nat.mod_add_mod]
    show X.W m (k % X.g m + 1) - X.W m (k % X.g m) + D X m ((k % X.g m + 1) % X.g m) j = _
    rw [e, d_g m j (k + 1), g_succ X m k, show k + 1 + j = k + (j + 1) by omega]; omega
theorem d_zero (m j : Nat) : D X m 0 j = G X m j := by
  have := d_g X m j 0
  rw [Nat.zero_mod] at this
  rw [this, Nat.zero_add]
  have : G X m 0 = 0 := by unfold G; simp [X.w0]
  omega
/-! ## the table of all cuts: mode by mode, stop by stop -/
/-- what is looked at before the mode m and the j-th byte -/
def Seen (L : Nat → Int) (d m j : Nat) (v : Ch) : Prop := ∃ m', ∃ j', m' < 3 ∧ 1 ≤ j' ∧ Run X m' d j' ∧ (m' < m ∨ (m' = m ∧ j' ≤ j)) ∧ v = (X.hd m' + G X m' j' + L (d - j'), d - j', m')
def Cand (L : Nat → Int) (d m j : Nat) : Ch := (X.hd m + G X m j + L (d - j), d - j, m)
theorem seen_start {L : Nat → Int} {d : Nat} (v : Ch) : Seen X L d 3 0 v ↔ Start X L d v := by
  constructor
  · rintro ⟨m, j, hm, h1, hr, _, rfl⟩
    exact ⟨m, hm, j, h1, hr, by rw [d_zero]⟩
  · rintro ⟨m, hm, j, h1, hr, rfl⟩
    exact ⟨m, j, hm, h1, hr, Or.inl hm, by rw [d_zero]⟩
/-- the best so far, if anything was looked at -/
def Sofar (L : Nat → Int) (d m j : Nat) : Option Ch → Prop
  | none => ∀ v, ¬ Seen X L d m j v
  | some v => Best3 (Seen X L d m j) v
def better (v : Option Ch) (w : Ch) : Prop := match v with
  | none => True
  | some v => w.1 < v.1 ∨ (w.1 = v.1 ∧ w.2.1 < v.2.1)
theorem seen_zero {L : Nat → Int} {d : Nat} (v : Ch) : ¬ Seen X L d 0 0 v := by
  rintro ⟨m', j', _, h1, _, h, _⟩; omega
theorem seen_succ {L : Nat → Int} {d m j : Nat} (hm : m < 3) (hr : Run X m d (j + 1)) (v : Ch) : Seen X L d m (j + 1) v ↔ Seen X L d m j v ∨ v = Cand X L d m (j + 1) := by
  constructor
  · rintro ⟨m', j', a, b, c, e, f⟩
    by_cases h : m' = m ∧ j' = j + 1
    · obtain ⟨rfl, rfl⟩ := h
      exact Or.inr f
    · exact Or.inl ⟨m', j', a, b, c, by omega, f⟩
  · rintro (⟨m', j', a, b, c, e, f⟩ | h)
    · exact ⟨m', j', a, b, c, by omega, f⟩
    · exact ⟨m, j + 1, hm, by omega, hr, Or.inr ⟨rfl, Nat.le_refl _⟩, h⟩
/-- no further stop of this mode -/
theorem seen_next {L : Nat → Int} {d m j : Nat} (h : ¬ Run X m d (j + 1)) (v : Ch) : Seen X L d (m + 1) 0 v ↔ Seen X L d m j v := by
  constructor
  · rintro ⟨m', j', a, b, c, e, f⟩
    refine ⟨m', j', a, b, c, ?_, f⟩
    rcases Nat.lt_or_ge m' m with z | z
    · exact Or.inl z
    · obtain rfl : m' = m := by omega
      refine Or.inr ⟨rfl, ?_⟩
      rcases Nat.lt_or_ge j j' with y | y
      · exact absurd ⟨by have := c.1; omega, fun i hi => c.2 i (by omega)⟩ h
      · exact y
  · rintro ⟨m', j', a, b, c, e, f⟩
    exact ⟨m', j', a, b, c, Or.inl (by omega), f⟩
theorem sofar_congr {L : Nat → Int} {d m j m' j' : Nat} (h : ∀ v, Seen X L d m' j' v ↔ Seen X L d m j v) {o : Option Ch} (k : Sofar X L d m j o) : Sofar X L d m' j' o := by
  cases o with
  | none => exact fun v z => k v ((h v).mp z)
  | some v => exact ⟨(h v).mpr k.1, fun w z => k.2 w ((h w).mp z)⟩
theorem sofar_zero (L : Nat → Int) (d : Nat) : Sofar X L d 0 0 none := fun v => seen_zero X v
theorem sofar_next {L : Nat → Int} {d m j : Nat} {o : Option Ch} (k : Sofar X L d m j o) (h : ¬ Run X m d (j + 1)) : Sofar X L d (m + 1) 0 o := sofar_congr X (seen_next X h) k
theorem sofar_take {L : Nat → Int} {d m j : Nat} {o : Option Ch} (hm : m < 3) (k : Sofar X L d m j o) (hr : Run X m d (j + 1)) (hb : better o (Cand X L d m (j + 1))) : Sofar X L d m (j + 1) (some (Cand X L d m (j + 1))) := by
  refine ⟨(seen_succ X hm hr _).mpr (Or.inr rfl), fun w hw => ?_⟩
  rcases (seen_succ X hm hr _).mp hw with h | rfl
  · cases o with
    | none => exact absurd h (k w)
    | some v =>
      refine le3_trans ?_ (k.2 w h)
      unfold better at hb; unfold le3; simp only at hb
      omega
  · exact le3_refl _
theorem sofar_keep {L : Nat → Int} {d m j : Nat} {v : Ch} (hm : m < 3) (k : Sofar X L d m j (some v)) (hr : Run X m d (j + 1)) (hb : ¬ better (some v) (Cand X L d m (j + 1))) : Sofar X L d m (j + 1) (some v) := by
  refine ⟨(seen_succ X hm hr _).mpr (Or.inl k.1), fun w hw => ?_⟩
  rcases (seen_succ X hm hr _).mp hw with h | rfl
  · exact k.2 w h
  · obtain ⟨m', j', a, b, c, e, f⟩ := k.1
    have hmm : v.2.2 ≤ m := by rw [f]; simp only; omega
    unfold better at hb; unfold le3
    simp only [Cand] at *
    omega
theorem sofar_end {L : Nat → Int} {d : Nat} {v : Ch} (k : Sofar X L d 3 0 (some v)) : Best3 (Start X L d) v :=
  ⟨(seen_start X v).mp k.1, fun w hw => k.2 w ((seen_start X w).mpr hw)⟩
/-- where a mode allows all there is something -/
theorem sofar_some {L : Nat → Int} {d : Nat} {o : Option Ch} (k : Sofar X L d 3 0 o) (hd : 1 ≤ d) (ha : X.al 2 d) : ∃ v, o = some v := by
  cases o with
  | some v => exact ⟨v, rfl⟩
  | none =>
    refine absurd ⟨2, 1, by omega, by omega, ⟨hd, fun i hi => ?_⟩, Or.inl (by omega), rfl⟩ (k (Cand X L d 2 1))
    obtain rfl : i = 0 := by omega
    exact ha
/-! ## the segments that a table tells -/
/-- the segments from the distance d on: the modes and the sizes -/
def segs (f : Nat → Ch) : Nat → Nat → List (Nat × Nat)
  | 0, _ => []
  | _ + 1, 0 => []
  | k + 1, d + 1 => ((f (d + 1)).2.2, d + 1 - (f (d + 1)).2.1) :: segs f k (f (d + 1)).2.1
theorem tab_behind {f : Nat → Ch} {n d : Nat} (h : Tab X f n) (h1 : 1 ≤ d) (h2 : d ≤ n) : (f d).2.1 < d ∧ (f d).2.2 < 3 ∧ (∀ i, (f d).2.1 < i → i ≤ d → X.al (f d).2.2 i)
    ∧ (f d).1 = X.hd (f d).2.2 + G X (f d).2.2 (d - (f d).2.1) + (f (f d).2.1).1 := by
  obtain ⟨m, hm, j, j1, hr, e⟩ := (h.2 d h1 h2).1
  rw [d_zero] at e
  generalize f d = c at e
  subst e
  refine ⟨by simp only; have := hr.1; omega, hm, fun i a b => ?_, ?_⟩
  · simp only at *
    have := hr.2 (d - i) (by have := hr.1; omega)
    rwa [show d - (d - i) = i by omega] at this
  · simp only
    rw [show d - (d - j) = j by have := hr.1; omega]
theorem segs_bits {f : Nat → Ch} {n : Nat} (h : Tab X f n) : ∀ k d, d ≤ k → d ≤ n → (((segs f k d).map fun s => X.hd s.1 + G X s.1 s.2).sum) = (f d).1
  | 0, d, h1, _ => by
    obtain rfl : d = 0 := by omega
    simp [segs, h.1]
  | k + 1, 0, _, _ => by simp [segs, h.1]
  | k + 1, d + 1, h1, h2 => by
    obtain ⟨a, b, c, e⟩ := tab_behind X h (by omega : 1 ≤ d + 1) h2
    simp only [segs, List.map_cons, List.sum_cons]
    rw [segs_bits h k _ (by omega) (by omega), e]
theorem segs_congr {f f' : Nat → Ch} {n : Nat} (h : ∀ d, 1 ≤ d → d ≤ n → f d = f' d) (hb : ∀ d, 1 ≤ d → d ≤ n → (f d).2.1 < d) : ∀ k d, d ≤ n → segs f k d = segs f' k d
  | 0, _, _ => rfl
  | _ + 1, 0, _ => rfl
  | k + 1, d + 1, h2 => by
    have e := h (d + 1) (by omega) h2
    have b := hb (d + 1) (by omega) h2
    simp only [segs]
    rw [← e, segs_congr h hb k _ (by omega)]
end Sg
structure Top (K : PySem.W.Frag) (mg : Str → Option Value) (w : World) where
  a_BitWriter___init__ : Addr
  d_BitWriter___init__ : FuncData
  F_BitWriter___init__ : Fun K "__init__" "BitWriter.__init__" s_BitWriter___init__ a_BitWriter___init__ d_BitWriter___init__
  b_BitWriter___init__ : Binds K d_BitWriter___init__ pl_BitWriter___init__ []
  a_BitWriter_write : Addr
  d_BitWriter_write : FuncData
  F_BitWriter_write : Fun K "write" "BitWriter.write" s_BitWriter_write a_BitWriter_write d_BitWriter_write
  b_BitWriter_write : Binds K d_BitWriter_write pl_BitWriter_write []
  a_BitWriter_bit_list : Addr
  d_BitWriter_bit_list : FuncData
  F_BitWriter_bit_list : Fun K "bit_list" "BitWriter.bit_list" s_BitWriter_bit_list a_BitWriter_bit_list d_BitWriter_bit_list
  b_BitWriter_bit_list : Binds K d_BitWriter_bit_list pl_BitWriter_bit_list []
  a_count_bits : Addr
  d_count_bits : FuncData
  F_count_bits : Fun K "count_bits" "count_bits" s_count_bits a_count_bits d_count_bits
  b_count_bits : Binds K d_count_bits pl_count_bits []
  g_count_bits : mg "count_bits" = some (.ref a_count_bits)
  a_group_size : Addr
  d_group_size : FuncData
  F_group_size : Fun K "group_size" "group_size" s_group_size a_group_size d_group_size
  b_group_size : Binds K d_group_size pl_group_size []
  g_group_size : mg "group_size" = some (.ref a_group_size)
  a_head_bits : Addr
  d_head_bits : FuncData
  F_head_bits : Fun K "head_bits" "head_bits" s_head_bits a_head_bits d_head_bits
  b_head_bits : Binds K d_head_bits pl_head_bits []
  g_head_bits : mg "head_bits" = some (.ref a_head_bits)
  a_fits : Addr
  d_fits : FuncData
  F_fits : Fun K "fits" "fits" s_fits a_fits d_fits
  b_fits : Binds K d_fits pl_fits []
  g_fits : mg "fits" = some (.ref a_fits)
  a_segment_bits : Addr
  d_segment_bits : FuncData
  F_segment_bits : Fun K "segment_bits" "segment_bits" s_segment_bits a_segment_bits d_segment_bits
  b_segment_bits : Binds K d_segment_bits pl_segment_bits []
  g_segment_bits : mg "segment_bits" = some (.ref a_segment_bits)
  a_number_of : Addr
  d_number_of : FuncData
  F_number_of : Fun K "number_of" "number_of" s_number_of a_number_of d_number_of
  b_number_of : Binds K d_number_of pl_number_of []
  g_number_of : mg "number_of" = some (.ref a_number_of)
  a_write_content : Addr
  d_write_content : FuncData
  F_write_content : Fun K "write_content" "write_content" s_write_content a_write_content d_write_content
  b_write_content : Binds K d_write_content pl_write_content []
  g_write_content : mg "write_content" = some (.ref a_write_content)
  a_write_segments : Addr
  d_write_segments : FuncData
  F_write_segments : Fun K "write_segments" "write_segments" s_write_segments a_write_segments d_write_segments
  b_write_segments : Binds K d_write_segments pl_write_segments []
  g_write_segments : mg "write_segments" = some (.ref a_write_segments)
  a_ways_with_byte : Addr
  d_ways_with_byte : FuncData
  F_ways_with_byte : Fun K "ways_with_byte" "ways_with_byte" s_ways_with_byte a_ways_with_byte d_ways_with_byte
  b_ways_with_byte : Binds K d_ways_with_byte pl_ways_with_byte []
  g_ways_with_byte : mg "ways_with_byte" = some (.ref a_ways_with_byte)
  a_ways_onward : Addr
  d_ways_onward : FuncData
  F_ways_onward : Fun K "ways_onward" "ways_onward" s_ways_onward a_ways_onward d_ways_onward
  b_ways_onward : Binds K d_ways_onward pl_ways_onward []
  g_ways_onward : mg "ways_onward" = some (.ref a_ways_onward)
  a_best_beginning : Addr
  d_best_beginning : FuncData
  F_best_beginning : Fun K "best_beginning" "best_beginning" s_best_beginning a_best_beginning d_best_beginning
  b_best_beginning : Binds K d_best_beginning pl_best_beginning []
  g_best_beginning : mg "best_beginning" = some (.ref a_best_beginning)
  a_best_choices : Addr
  d_best_choices : FuncData
  F_best_choices : Fun K "best_choices" "best_choices" s_best_choices a_best_choices d_best_choices
  b_best_choices : Binds K d_best_choices pl_best_choices []
  g_best_choices : mg "best_choices" = some (.ref a_best_choices)
  a_best_segments : Addr
  d_best_segments : FuncData
  F_best_segments : Fun K "best_segments" "best_segments" s_best_segments a_best_segments d_best_segments
  b_best_segments : Binds K d_best_segments pl_best_segments []
  g_best_segments : mg "best_segments" = some (.ref a_best_segments)
  a__law_cell : Addr
  d__law_cell : FuncData
  F__law_cell : Fun K "_law_cell" "_law_cell" s__law_cell a__law_cell d__law_cell
  b__law_cell : Binds K d__law_cell pl__law_cell []
  g__law_cell : mg "_law_cell" = some (.ref a__law_cell)
  a__law_head : Addr
  d__law_head : FuncData
  F__law_head : Fun K "_law_head" "_law_head" s__law_head a__law_head d__law_head
  b__law_head : Binds K d__law_head pl__law_head []
  g__law_head : mg "_law_head" = some (.ref a__law_head)
  a__law_text : Addr
  d__law_text : FuncData
  F__law_text : Fun K "_law_text" "_law_text" s__law_text a__law_text d__law_text
  b__law_text : Binds K d__law_text pl__law_text []
  g__law_text : mg "_law_text" = some (.ref a__law_text)
  a__law_value : Addr
  d__law_value : FuncData
  F__law_value : Fun K "_law_value" "_law_value" s__law_value a__law_value d__law_value
  b__law_value : Binds K d__law_value pl__law_value []
  g__law_value : mg "_law_value" = some (.ref a__law_value)
  a__law_allows : Addr
  d__law_allows : FuncData
  F__law_allows : Fun K "_law_allows" "_law_allows" s__law_allows a__law_allows d__law_allows
  b__law_allows : Binds K d__law_allows pl__law_allows []
  g__law_allows : mg "_law_allows" = some (.ref a__law_allows)
  a__law_cost : Addr
  d__law_cost : FuncData
  F__law_cost : Fun K "_law_cost" "_law_cost" s__law_cost a__law_cost d__law_cost
  b__law_cost : Binds K d__law_cost pl__law_cost []
  g__law_cost : mg "_law_cost" = some (.ref a__law_cost)
  a__law_due : Addr
  d__law_due : FuncData
  F__law_due : Fun K "_law_due" "_law_due" s__law_due a__law_due d__law_due
  b__law_due : Binds K d__law_due pl__law_due []
  g__law_due : mg "_law_due" = some (.ref a__law_due)
  a__law_bits : Addr
  d__law_bits : FuncData
  F__law_bits : Fun K "_law_bits" "_law_bits" s__law_bits a__law_bits d__law_bits
  b__law_bits : Binds K d__law_bits pl__law_bits []
  g__law_bits : mg "_law_bits" = some (.ref a__law_bits)
  a__law_written : Addr
  d__law_written : FuncData
  F__law_written : Fun K "_law_written" "_law_written" s__law_written a__law_written d__law_written
  b__law_written : Binds K d__law_written pl__law_written []
  g__law_written : mg "_law_written" = some (.ref a__law_written)
  a_law : Addr
  d_law : FuncData
  F_law : Fun K "law" "law" s_law a_law d_law
  b_law : Binds K d_law pl_law []
  g_law : mg "law" = some (.ref a_law)
  a_BitWriter : Addr
  cl_BitWriter : Cls K a_BitWriter
  g_BitWriter : mg "BitWriter" = some (.ref a_BitWriter)
  M_BitWriter : Mk K a_BitWriter a_BitWriter___init__
  me_BitWriter_write : Meth K a_BitWriter "write" a_BitWriter_write
  me_BitWriter_bit_list : Meth K a_BitWriter "bit_list" a_BitWriter_bit_list
  no_BitWriter__bits : NoAttr K a_BitWriter "_bits"
  a_MODES : Addr
  m_MODES : mg "MODES" = some (.ref a_MODES)
  t_MODES : Z.okT K (.ref a_MODES) (.t (modes.map .s)) = true
  a_MODE_NUMBERS : Addr
  m_MODE_NUMBERS : mg "MODE_NUMBERS" = some (.ref a_MODE_NUMBERS)
  d_MODE_NUMBERS : Z.KD K w a_MODE_NUMBERS
  u_MODE_NUMBERS_0 : Value
  k_MODE_NUMBERS_0 : PySem.W.nsIn K a_MODE_NUMBERS "numeric" = some (some u_MODE_NUMBERS_0)
  t_MODE_NUMBERS_0 : Z.okT K u_MODE_NUMBERS_0 (.i ((2 ^ 0 : Nat) : Int)) = true
  u_MODE_NUMBERS_1 : Value
  k_MODE_NUMBERS_1 : PySem.W.nsIn K a_MODE_NUMBERS "alphanumeric" = some (some u_MODE_NUMBERS_1)
  t_MODE_NUMBERS_1 : Z.okT K u_MODE_NUMBERS_1 (.i ((2 ^ 1 : Nat) : Int)) = true
  u_MODE_NUMBERS_2 : Value
  k_MODE_NUMBERS_2 : PySem.W.nsIn K a_MODE_NUMBERS "byte" = some (some u_MODE_NUMBERS_2)
  t_MODE_NUMBERS_2 : Z.okT K u_MODE_NUMBERS_2 (.i ((2 ^ 2 : Nat) : Int)) = true
  a_GROUP_BITS : Addr
  m_GROUP_BITS : mg "GROUP_BITS" = some (.ref a_GROUP_BITS)
  d_GROUP_BITS : Z.KD K w a_GROUP_BITS
  u_GROUP_BITS_0 : Value
  k_GROUP_BITS_0 : PySem.W.nsIn K a_GROUP_BITS "numeric" = some (some u_GROUP_BITS_0)
  t_GROUP_BITS_0 : Z.okT K u_GROUP_BITS_0 (.t ((wdT.getD 0 []).map fun n : Nat => .i (n : Nat))) = true
  u_GROUP_BITS_1 : Value
  k_GROUP_BITS_1 : PySem.W.nsIn K a_GROUP_BITS "alphanumeric" = some (some u_GROUP_BITS_1)
  t_GROUP_BITS_1 : Z.okT K u_GROUP_BITS_1 (.t ((wdT.getD 1 []).map fun n : Nat => .i (n : Nat))) = true
  u_GROUP_BITS_2 : Value
  k_GROUP_BITS_2 : PySem.W.nsIn K a_GROUP_BITS "byte" = some (some u_GROUP_BITS_2)
  t_GROUP_BITS_2 : Z.okT K u_GROUP_BITS_2 (.t ((wdT.getD 2 []).map fun n : Nat => .i (n : Nat))) = true
  a_BASES : Addr
  m_BASES : mg "BASES" = some (.ref a_BASES)
  d_BASES : Z.KD K w a_BASES
  u_BASES_0 : Value
  k_BASES_0 : PySem.W.nsIn K a_BASES "numeric" = some (some u_BASES_0)
  t_BASES_0 : Z.okT K u_BASES_0 (.i (bsN 0 : Nat)) = true
  u_BASES_1 : Value
  k_BASES_1 : PySem.W.nsIn K a_BASES "alphanumeric" = some (some u_BASES_1)
  t_BASES_1 : Z.okT K u_BASES_1 (.i (bsN 1 : Nat)) = true
  u_BASES_2 : Value
  k_BASES_2 : PySem.W.nsIn K a_BASES "byte" = some (some u_BASES_2)
  t_BASES_2 : Z.okT K u_BASES_2 (.i (bsN 2 : Nat)) = true
  a_ALPHANUMERIC : Addr
  m_ALPHANUMERIC : mg "ALPHANUMERIC" = some (.ref a_ALPHANUMERIC)
  t_ALPHANUMERIC : Z.okT K (.ref a_ALPHANUMERIC) (.t (anL.map fun n : Nat => Z.Tr.i (n : Nat))) = true
  a_COUNT_BITS : Addr
  m_COUNT_BITS : mg "COUNT_BITS" = some (.ref a_COUNT_BITS)
  d_COUNT_BITS : Z.KD K w a_COUNT_BITS
  u_COUNT_BITS_0 : Value
  k_COUNT_BITS_0 : PySem.W.nsIn K a_COUNT_BITS "numeric" = some (some u_COUNT_BITS_0)
  t_COUNT_BITS_0 : Z.okT K u_COUNT_BITS_0 (.t ((cbT.getD 0 []).map fun n : Nat => .i (n : Nat))) = true
  u_COUNT_BITS_1 : Value
  k_COUNT_BITS_1 : PySem.W.nsIn K a_COUNT_BITS "alphanumeric" = some (some u_COUNT_BITS_1)
  t_COUNT_BITS_1 : Z.okT K u_COUNT_BITS_1 (.t ((cbT.getD 1 []).map fun n : Nat => .i (n : Nat))) = true
  u_COUNT_BITS_2 : Value
  k_COUNT_BITS_2 : PySem.W.nsIn K a_COUNT_BITS "byte" = some (some u_COUNT_BITS_2)
  t_COUNT_BITS_2 : Z.okT K u_COUNT_BITS_2 (.t ((cbT.getD 2 []).map fun n : Nat => .i (n : Nat))) = true
  n_range : mg "range" = none
  n_list : mg "list" = none
  n_len : mg "len" = none
  n_all : mg "all" = none
  n_min : mg "min" = none
  n_int : mg "int" = none
  n_isinstance : mg "isinstance" = none
  n_tuple : mg "tuple" = none
  n_sum : mg "sum" = none
section
variable {P : Program} {w : World} {K : PySem.W.Frag} {mg : Str → Option Value} {base : Heap}
def sp_BitWriter___init__ {K : PySem.W.Frag} {mg : Str → Option Value} {w : World} (T : Top K mg w) : Sp := fun vs H Q _ => ∃ (p dx : Addr), vs = [.ref p] ∧ H p = some (.ins T.a_BitWriter dx []) ∧ ∀ (b : Addr) (H1 : Hp), H b = none → (∀ a o, H a = some o → a ≠ p → H1 a = some o) → H1 p = some (.ins T.a_BitWriter dx [("_bits", .ref b)]) → H1 b = some (.lst []) → Q .non H1
set_option maxHeartbeats 2000000 in
theorem ok_BitWriter___init__ (T : Top K mg w) : FnOk P w K mg base CX0 1 T.a_BitWriter___init__ T.d_BitWriter___init__ pl_BitWriter___init__ (sp_BitWriter___init__ T) := by
  refine T.F_BitWriter___init__.ok sc_BitWriter___init__ (fun vs H Q E h => ?_) (fun cdv A outer s H vs Q E hr h => ?_)
  · obtain ⟨p, dx, rfl, _⟩ := h
    rfl
  · obtain ⟨p, dx, rfl, hp, q⟩ := h
    have hu := hu_of hr
    refine ⟨_, (pss_one (ps_fld (pv 0) (pe_lst pa_nil) rfl)), ?_⟩
    show (_ : L2.TS) _ [some _] H
    try simp only [Z.kx]
    wtm_at "r"
    refine ⟨Nat.zero_le _, fun b hb => ?_⟩
    have npb : p ≠ b := ne_of_none hp hb
    wtm_at "r"
    refine Z.r_setP (by wtm_at "h") T.cl_BitWriter T.no_BitWriter__bits (by show 0 < 1000; decide) ?_
    refine q b _ hb (fun a o ha hne => ?_) L2.upd_same ?_
    · rw [upd_ne hne, upd_ne (ne_of_none ha hb)]; exact ha
    · rw [upd_ne npb.symm]; exact L2.upd_same
def sp_BitWriter_write {K : PySem.W.Frag} {mg : Str → Option Value} {w : World} (T : Top K mg w) : Sp := fun vs H Q _ => ∃ (p b : Addr) (bs : List Nat) (w v : Nat), vs = [.ref p, .int w, .int v] ∧ WAt T.a_BitWriter H p b bs ∧ bs.length ≤ 5000 ∧ w ≤ 32 ∧ ∀ H1, (∀ a o, H a = some o → a ≠ b → H1 a = some o) → H1 b = some (.lst (nv (bs ++ fbs w v w))) → Q .non H1
set_option maxHeartbeats 2000000 in
theorem ok_BitWriter_write (T : Top K mg w) : FnOk P w K mg base CX0 1 T.a_BitWriter_write T.d_BitWriter_write pl_BitWriter_write (sp_BitWriter_write T) := by
  refine T.F_BitWriter_write.ok sc_BitWriter_write (fun vs H Q E h => ?_) (fun cdv A outer s H vs Q E hr h => ?_)
  · obtain ⟨p, b, bs, w, v, rfl, _⟩ := h
    rfl
  · obtain ⟨p, b, bs, w, v, rfl, hw, hl, hw32, q⟩ := h
    have hu := hu_of hr
    refine ⟨_, (pss_one (ps_for PassesOwn.never rfl (pi_range3 rfl T.n_range (pa_cons (pe_op op_sub (pv 1) pe_int) (pa_cons (pe_un un_neg pe_int) (pa_cons (pe_un un_neg pe_int) pa_nil)))) (pg_name (i := 3) sc_BitWriter_write.nd rfl (Or.inl rfl)) (pss_one (ps_expr (pe_bm PySem.F.plainAttrs_list PySem.F.slot_list_append PySem.F.type_list_append mt_append (pe_fld (pv 0) rfl) (pa_cons (pe_op op_and (pe_op op_shr (pv 2) (pv 3)) pe_int) pa_nil)))))), ?_⟩
    show (_ : L2.TS) _ [some _, some _, some _, none] H
    try simp only [Z.kx]
    obtain ⟨⟨dx, hp⟩, hb⟩ := hw
    have npb : p ≠ b := ne_of hp hb (by intro z; cases z)
    wtm_at "r"
    refine Z.rng_go3 w (by have := RgC.neg (i := (w : Int) - 1) (j := -1) (by omega) (by omega) (by omega) (by omega); rw [show ((w : Int) - 1 - -1).toNat = w by omega] at this; exact this) (fun i σ H2 => ∃ (x : Option V), σ = [some (.ref p), some (.int w), some (.int v), x] ∧ (∀ a o, H a = some o → a ≠ b → H2 a = some o) ∧ H2 b = some (.lst (nv (bs ++ fbs w v i)))) ?_ ?_ ?_
    · refine ⟨none, rfl, fun a o ha _ => ha, ?_⟩
      show H b = some (.lst (nv (bs ++ [])))
      rw [List.append_nil]; exact hb
    · rintro i σ H2 hi ⟨x, rfl, kp, hl⟩
      wtm_at "r"
      refine Z.r_fldP (kp _ _ hp npb) T.cl_BitWriter T.no_BitWriter__bits Z.look_1 ?_
      wtm_at "r"
      have e : (w : Int) - 1 + (i : Nat) * (-1 : Int) = ((w - 1 - i : Nat) : Int) := by omega
      rw [e]
      wtm_at "r"
      rw [nat_shr, nat_and1]
      refine Z.r_append hl (Z.szl (by rw [nv_len, List.length_append, fbs_len]; omega)) ?_
      refine ⟨_, rfl, fun a o ha hne => by rw [upd_ne hne]; exact kp a o ha hne, ?_⟩
      rw [fbs_succ, ← List.append_assoc, nv_app (bs ++ fbs w v i)]
      exact L2.upd_same
    · rintro σ H2 ⟨x, rfl, kp, hl⟩
      exact q H2 kp hl
def sp_BitWriter_bit_list {K : PySem.W.Frag} {mg : Str → Option Value} {w : World} (T : Top K mg w) : Sp := fun vs H Q _ => ∃ (p b : Addr) (bs : List Nat), vs = [.ref p] ∧ WAt T.a_BitWriter H p b bs ∧ bs.length ≤ 5000 ∧ ∀ (l : Addr) (H1 : Hp), Same H H1 → H l = none → H1 l = some (.lst (nv bs)) → Q (.ref l) H1
set_option maxHeartbeats 2000000 in
theorem ok_BitWriter_bit_list (T : Top K mg w) : FnOk P w K mg base CX0 1 T.a_BitWriter_bit_list T.d_BitWriter_bit_list pl_BitWriter_bit_list (sp_BitWriter_bit_list T) := by
  refine T.F_BitWriter_bit_list.ok sc_BitWriter_bit_list (fun vs H Q E h => ?_) (fun cdv A outer s H vs Q E hr h => ?_)
  · obtain ⟨p, b, bs, rfl, _⟩ := h
    rfl
  · obtain ⟨p, b, bs, rfl, hw, hl, q⟩ := h
    have hu := hu_of hr
    refine ⟨_, (pss_one (ps_ret (pe_callTy (show CallR _ _ (Z.cList K) from Z.call_list) (by rfl) T.n_list (by decide +kernel) (pa_cons (pe_fld (pv 0) rfl) pa_nil)))), ?_⟩
    show (_ : L2.TS) _ [some _] H
    try simp only [Z.kx]
    obtain ⟨⟨dx, hp⟩, hb⟩ := hw
    wtm_at "r"
    refine Z.r_fldP hp T.cl_BitWriter T.no_BitWriter__bits Z.look_1 ?_
    wtm_at "r"
    refine Z.r_list (Z.sq_l hb) (fun l hl => ?_)
    exact q l _ (Z.s_upd hl) hl L2.upd_same
end
theorem kd_COUNT_BITS {K : PySem.W.Frag} {mg : Str → Option Value} {w : World} (T : Top K mg w) {m : Nat} (hm : m < 3) {H : Hp} {k : VK} (hk : ∀ x, Z.VT K x (.t ((cbT.getD m []).map fun n : Nat => .i (n : Nat))) → k x H) : rIxD K w (.ref T.a_COUNT_BITS) (.str (modes.getD m "")) H k := by
  match m, hm with
  | 0, _ => obtain ⟨y, ry, vy⟩ := Z.okT_V T.t_COUNT_BITS_0; exact Z.r_kd T.d_COUNT_BITS T.k_COUNT_BITS_0 ry (hk y vy)
  | 1, _ => obtain ⟨y, ry, vy⟩ := Z.okT_V T.t_COUNT_BITS_1; exact Z.r_kd T.d_COUNT_BITS T.k_COUNT_BITS_1 ry (hk y vy)
  | 2, _ => obtain ⟨y, ry, vy⟩ := Z.okT_V T.t_COUNT_BITS_2; exact Z.r_kd T.d_COUNT_BITS T.k_COUNT_BITS_2 ry (hk y vy)
section
variable {P : Program} {w : World} {K : PySem.W.Frag} {mg : Str → Option Value} {base : Heap}
def sp_count_bits (K : PySem.W.Frag) : Sp := fun vs H Q _ => ∃ (m v : Nat), vs = [.str (modes.getD m ""), .int v] ∧ m < 3 ∧ 1 ≤ v ∧ v ≤ 40 ∧ Q (.int (cbN m v : Nat)) H
set_option maxHeartbeats 2000000 in
theorem ok_count_bits (T : Top K mg w) : FnOk P w K mg base CX0 1 T.a_count_bits T.d_count_bits pl_count_bits (sp_count_bits K) := by
  refine T.F_count_bits.ok sc_count_bits (fun vs H Q E h => ?_) (fun cdv A outer s H vs Q E hr h => ?_)
  · obtain ⟨m, v, rfl, _⟩ := h
    rfl
  · obtain ⟨m, v, rfl, hm, h1, h40, q⟩ := h
    have hu := hu_of hr
    refine ⟨_, (pss_cons (ps_if (pt_cmpR op_lt (pv 1) pe_int (nomark _)) (pss_one (ps_ret (pe_ix (show IxR _ (rIxT K) from ix_tup) (pe_ix (show IxR _ (rIxD K w) from ix_kdict) (pe_glob (v := .ref T.a_COUNT_BITS) (u := .ref T.a_COUNT_BITS) rfl T.m_COUNT_BITS rfl) (pv 0) (fun _ _ => rfl)) pe_int (fun _ _ => rfl)))) pss_nil)
      (pss_cons (ps_if (pt_cmpR op_lt (pv 1) pe_int (nomark _)) (pss_one (ps_ret (pe_ix (show IxR _ (rIxT K) from ix_tup) (pe_ix (show IxR _ (rIxD K w) from ix_kdict) (pe_glob (v := .ref T.a_COUNT_BITS) (u := .ref T.a_COUNT_BITS) rfl T.m_COUNT_BITS rfl) (pv 0) (fun _ _ => rfl)) pe_int (fun _ _ => rfl)))) pss_nil)
      (pss_one (ps_ret (pe_ix (show IxR _ (rIxT K) from ix_tup) (pe_ix (show IxR _ (rIxD K w) from ix_kdict) (pe_glob (v := .ref T.a_COUNT_BITS) (u := .ref T.a_COUNT_BITS) rfl T.m_COUNT_BITS rfl) (pv 0) (fun _ _ => rfl)) pe_int (fun _ _ => rfl)))))), ?_⟩
    show (_ : L2.TS) _ [some _, some _] H
    try simp only [Z.kx]
    wtm_at "r"
    with_reducible refine Z.i_2 (fun h => ?_) (fun h => ?_)
    · wtm_at "r"
      refine kd_COUNT_BITS T hm (fun x vx => ?_)
      obtain ⟨b, rfl, hb⟩ := Z.vt_t vx
      wtm_at "r"
      refine Z.r_trI hb (j := 0) rfl (cb_at m hm 0 (by decide)) ?_
      unfold cbN at q
      rw [grp0 (by omega)] at q
      wtm_at "r"
      exact q
    · wtm_at "r"
      with_reducible refine Z.i_2 (fun h2 => ?_) (fun h2 => ?_)
      · wtm_at "r"
        refine kd_COUNT_BITS T hm (fun x vx => ?_)
        obtain ⟨b, rfl, hb⟩ := Z.vt_t vx
        wtm_at "r"
        refine Z.r_trI hb (j := 1) rfl (cb_at m hm 1 (by decide)) ?_
        unfold cbN at q
        rw [grp1 (by omega) (by omega)] at q
        wtm_at "r"
        exact q
      · wtm_at "r"
        refine kd_COUNT_BITS T hm (fun x vx => ?_)
        obtain ⟨b, rfl, hb⟩ := Z.vt_t vx
        wtm_at "r"
        refine Z.r_trI hb (j := 2) rfl (cb_at m hm 2 (by decide)) ?_
        unfold cbN at q
        rw [grp2 (by omega) (by omega)] at q
        wtm_at "r"
        exact q
end
theorem an_ints : (anL.map fun n : Nat => Z.Tr.i (n : Nat)) = anL.map fun n : Nat => Z.Tr.i (n : Nat) := rfl
theorem tr_ints {K : PySem.W.Frag} {a : Addr} {ns : List Nat} (h : Z.okT K (.ref a) (.t (ns.map fun n : Nat => .i (n : Nat))) = true) : ∀ H, SqT K H a (nv ns) := by
  obtain ⟨xs, hs, hl, hx, _⟩ := Z.tr_tup h
  intro H
  rw [show nv ns = xs from ?_]; exact hs H
  unfold nv
  refine List.ext_getElem (by rw [hl, List.length_map, List.length_map]) fun i h1 h2 => ?_
  rw [List.length_map] at h1
  obtain ⟨x, e1, e2⟩ := hx i (.i (ns[i] : Nat)) (by rw [List.getElem?_map, List.getElem?_eq_getElem h1]; rfl)
  rw [Z.vt_i e2, List.getElem?_eq_getElem h2] at e1
  rw [List.getElem_map]
  exact (Option.some.inj e1).symm
theorem anl_len : anL.length = 45 := by decide +kernel
/-- a mode allows a byte -/
def alw (m c : Nat) : Bool := m == 2 || (anL.take (bsN m)).contains c
def valM (m c : Nat) : Nat := if m = 2 then c else anL.findIdx (· == c)
def numM (m : Nat) (cs : List Nat) : Nat := cs.foldl (fun n c => bsN m * n + valM m c) 0
theorem numM_take {m : Nat} {cs : List Nat} {i c : Nat} (e : cs[i]? = some c) : numM m (cs.take (i + 1)) = bsN m * numM m (cs.take i) + valM m c := by
  unfold numM
  rw [List.take_add_one, e, List.foldl_append]
  rfl
theorem an_idx {c : Nat} (h : c ∈ anL) : (nv anL)[anL.findIdx (· == c)]? = some (.int (c : Nat)) ∧ ∀ (m : Nat) (z' : V), m < anL.findIdx (· == c) → (nv anL)[m]? = some z' → eqV z' (.int (c : Nat)) = false := by
  have hl : anL.findIdx (· == c) < anL.length := List.findIdx_lt_length_of_exists ⟨c, h, beq_self_eq_true c⟩
  constructor
  · unfold nv
    rw [List.getElem?_map, List.getElem?_eq_getElem hl]
    have := List.findIdx_getElem (w := hl)
    rw [eq_of_beq this]; rfl
  · intro m z' hm hz
    unfold nv at hz
    have hml : m < anL.length := Nat.lt_trans hm hl
    rw [List.getElem?_map, List.getElem?_eq_getElem hml] at hz
    cases hz
    have := List.not_of_lt_findIdx hm
    show decide (((anL[m] : Nat) : Int) = (c : Int)) = false
    refine decide_eq_false fun e => ?_
    have e' : anL[m] = c := by omega
    rw [e', beq_self_eq_true] at this
    cases this
theorem valM_lt (m c : Nat) (h : c < 256) : valM m c < 256 := by
  unfold valM
  split
  · exact h
  · exact Nat.lt_of_le_of_lt List.findIdx_le_length (by rw [anl_len]; decide)
theorem numM_lt (m : Nat) (hm : m < 3) (cs : List Nat) (h : ∀ c ∈ cs, c < 256) (hl : cs.length ≤ 3) : numM m cs < 16777216 := by
  have hb := bs_pos m hm
  have key : ∀ (cs : List Nat) (n k : Nat), (∀ c ∈ cs, c < 256) → n < 256 ^ k → cs.foldl (fun n c => bsN m * n + valM m c) n < 256 ^ (k + cs.length) := by
    intro cs
    induction cs with
    | nil => intro n k _ hn; exact hn
    | cons c cs ih =>
      intro n k h hn
      have hv := valM_lt m c (h c (List.mem_cons_self ..))
      have h1 : bsN m * n ≤ 256 * n := Nat.mul_le_mul_right _ hb.2
      have h2 : bsN m * n + valM m c < 256 ^ (k + 1) := by rw [Nat.pow_succ]; omega
      have := ih _ (k + 1) (fun c hc => h c (List.mem_cons_of_mem _ hc)) h2
      rw [show k + 1 + cs.length = k + (cs.length + 1) by omega] at this
      exact this
  have := key cs 0 0 h (by decide)
  refine Nat.lt_of_lt_of_le this ?_
  rw [Nat.zero_add, show (16777216 : Nat) = 256 ^ 3 from rfl]
  exact Nat.pow_le_pow_right (by decide) hl
/-- the bits of a segment behind its head -/
def conB (m k : Nat) : Nat := k / gsN m * wdN m (gsN m) + wdN m (k % gsN m)
theorem wd_tr (m s : Nat) (hm : m < 3) (hs : s ≤ gsN m) : (((wdT.getD m []).map fun n : Nat => Z.Tr.i (n : Nat)))[s]? = some (.i ((wdN m s : Nat) : Int)) := tri_at (by have := wd_len m hm; omega)
def fitN (m : Nat) (cs : List Nat) : Bool := cs.all (alw m)
theorem inV_nv (c : Nat) : ∀ l : List Nat, inV (.int (c : Nat)) (nv l) = l.contains c
  | [] => rfl
  | a :: l => by
    have ih := inV_nv c l
    unfold inV at ih ⊢
    show ((eqV (.int (a : Nat)) (.int (c : Nat))) || _) = _
    rw [show ((List.map (fun c : Nat => V.int (c : Int)) l).any fun y => eqV y (V.int (c : Nat))) = l.contains c from ih, List.contains_cons]
    congr 1
    show decide ((a : Int) = (c : Int)) = (c == a)
    rw [show (c == a) = decide (c = a) from rfl]
    exact decide_eq_decide.mpr ⟨fun h => by omega, fun h => by omega⟩
theorem flat_nv (l : List Nat) : (nv l).all flatV = true := List.all_eq_true.mpr fun x hx => by
  obtain ⟨n, _, rfl⟩ := List.mem_map.mp hx
  rfl
theorem bs_two {m : Nat} (h : m < 3) (n : ¬ m = 2) : bsN m = 10 ∨ bsN m = 45 := by
  rcases (by omega : m = 0 ∨ m = 1) with e | e <;> subst e
  · exact .inl rfl
  · exact .inr rfl
theorem kd_GROUP_BITS {K : PySem.W.Frag} {mg : Str → Option Value} {w : World} (T : Top K mg w) {m : Nat} (hm : m < 3) {H : Hp} {k : VK} (hk : ∀ x, Z.VT K x (.t ((wdT.getD m []).map fun n : Nat => .i (n : Nat))) → k x H) : rIxD K w (.ref T.a_GROUP_BITS) (.str (modes.getD m "")) H k := by
  match m, hm with
  | 0, _ => obtain ⟨y, ry, vy⟩ := Z.okT_V T.t_GROUP_BITS_0; exact Z.r_kd T.d_GROUP_BITS T.k_GROUP_BITS_0 ry (hk y vy)
  | 1, _ => obtain ⟨y, ry, vy⟩ := Z.okT_V T.t_GROUP_BITS_1; exact Z.r_kd T.d_GROUP_BITS T.k_GROUP_BITS_1 ry (hk y vy)
  | 2, _ => obtain ⟨y, ry, vy⟩ := Z.okT_V T.t_GROUP_BITS_2; exact Z.r_kd T.d_GROUP_BITS T.k_GROUP_BITS_2 ry (hk y vy)
theorem kd_BASES {K : PySem.W.Frag} {mg : Str → Option Value} {w : World} (T : Top K mg w) {m : Nat} (hm : m < 3) {H : Hp} {k : VK} (hk : ∀ x, Z.VT K x (.i (bsN m : Nat)) → k x H) : rIxD K w (.ref T.a_BASES) (.str (modes.getD m "")) H k := by
  match m, hm with
  | 0, _ => obtain ⟨y, ry, vy⟩ := Z.okT_V T.t_BASES_0; exact Z.r_kd T.d_BASES T.k_BASES_0 ry (hk y vy)
  | 1, _ => obtain ⟨y, ry, vy⟩ := Z.okT_V T.t_BASES_1; exact Z.r_kd T.d_BASES T.k_BASES_1 ry (hk y vy)
  | 2, _ => obtain ⟨y, ry, vy⟩ := Z.okT_V T.t_BASES_2; exact Z.r_kd T.d_BASES T.k_BASES_2 ry (hk y vy)
theorem kd_MODE_NUMBERS {K : PySem.W.Frag} {mg : Str → Option Value} {w : World} (T : Top K mg w) {m : Nat} (hm : m < 3) {H : Hp} {k : VK} (hk : ∀ x, Z.VT K x (.i ((2 ^ m : Nat) : Int)) → k x H) : rIxD K w (.ref T.a_MODE_NUMBERS) (.str (modes.getD m "")) H k := by
  match m, hm with
  | 0, _ => obtain ⟨y, ry, vy⟩ := Z.okT_V T.t_MODE_NUMBERS_0; exact Z.r_kd T.d_MODE_NUMBERS T.k_MODE_NUMBERS_0 ry (hk y vy)
  | 1, _ => obtain ⟨y, ry, vy⟩ := Z.okT_V T.t_MODE_NUMBERS_1; exact Z.r_kd T.d_MODE_NUMBERS T.k_MODE_NUMBERS_1 ry (hk y vy)
  | 2, _ => obtain ⟨y, ry, vy⟩ := Z.okT_V T.t_MODE_NUMBERS_2; exact Z.r_kd T.d_MODE_NUMBERS T.k_MODE_NUMBERS_2 ry (hk y vy)
section
variable {P : Program} {w : World} {K : PySem.W.Frag} {mg : Str → Option Value} {base : Heap}
def sp_group_size (K : PySem.W.Frag) : Sp := fun vs H Q _ => ∃ (m : Nat), vs = [.str (modes.getD m "")] ∧ m < 3 ∧ Q (.int (gsN m : Nat)) H
set_option maxHeartbeats 2000000 in
theorem ok_group_size (T : Top K mg w) : FnOk P w K mg base CX0 1 T.a_group_size T.d_group_size pl_group_size (sp_group_size K) := by
  refine T.F_group_size.ok sc_group_size (fun vs H Q E h => ?_) (fun cdv A outer s H vs Q E hr h => ?_)
  · obtain ⟨m, rfl, _⟩ := h
    rfl
  · obtain ⟨m, rfl, hm, q⟩ := h
    have hu := hu_of hr
    refine ⟨_, (pss_one (ps_ret (pe_op op_sub (pe_callB (show CallR _ _ (Z.cLen K) from Z.call_len) (by rfl) T.n_len (by decide +kernel) (pa_cons (pe_ix (show IxR _ (rIxD K w) from ix_kdict) (pe_glob (v := .ref T.a_GROUP_BITS) (u := .ref T.a_GROUP_BITS) rfl T.m_GROUP_BITS rfl) (pv 0) (fun _ _ => rfl)) pa_nil)) pe_int))), ?_⟩
    show (_ : L2.TS) _ [some _] H
    try simp only [Z.kx]
    wtm_at "r"
    refine kd_GROUP_BITS T hm (fun x vx => ?_)
    obtain ⟨b, rfl, hb⟩ := Z.vt_t vx
    obtain ⟨xs, sx, lx, _⟩ := Z.tr_tup hb
    wtm_at "r"
    refine Z.r_lenT (sx _) ?_
    wtm_at "r"
    rw [lx, List.length_map, wd_len m hm, show ((gsN m + 1 : Nat) : Int) - 1 = ((gsN m : Nat) : Int) by omega]
    exact q
def sp_head_bits (K : PySem.W.Frag) : Sp := fun vs H Q _ => ∃ (m v : Nat), vs = [.str (modes.getD m ""), .int v] ∧ m < 3 ∧ 1 ≤ v ∧ v ≤ 40 ∧ Q (.int ((4 + cbN m v : Nat) : Int)) H
set_option maxHeartbeats 2000000 in
theorem ok_head_bits (T : Top K mg w) : FnOk P w K mg base CX0 2 T.a_head_bits T.d_head_bits pl_head_bits (sp_head_bits K) := by
  refine T.F_head_bits.ok sc_head_bits (fun vs H Q E h => ?_) (fun cdv A outer s H vs Q E hr h => ?_)
  · obtain ⟨m, v, rfl, _⟩ := h
    rfl
  · obtain ⟨m, v, rfl, hm, h1, h40, q⟩ := h
    have hu := hu_of hr
    refine ⟨_, (pss_one (ps_ret (pe_op op_add pe_int (pe_call (ok_count_bits T) (hr.mono (by decide)) (by rfl) T.g_count_bits T.F_count_bits.kp T.b_count_bits .nil pass0 (pa_cons (pv 0) (pa_cons (pv 1) pa_nil)))))), ?_⟩
    show (_ : L2.TS) _ [some _, some _] H
    try simp only [Z.kx]
    wtm_at "r"
    refine ⟨m, v, rfl, hm, h1, h40, ?_⟩
    wtm_at "r"
    rw [show (4 : Int) + (cbN m v : Nat) = ((4 + cbN m v : Nat) : Int) by omega]
    exact q
def sp_fits (K : PySem.W.Frag) : Sp := fun vs H Q _ => ∃ (m : Nat) (a : Addr) (cs : List Nat), vs = [.str (modes.getD m ""), .ref a] ∧ m < 3 ∧ SqL K H a (nv cs) ∧ cs.length ≤ 100 ∧ ∀ H1, Same H H1 → Q (.bl (fitN m cs)) H1
set_option maxHeartbeats 2000000 in
theorem ok_fits (T : Top K mg w) : FnOk P w K mg base CX0 1 T.a_fits T.d_fits pl_fits (sp_fits K) := by
  refine T.F_fits.ok sc_fits (fun vs H Q E h => ?_) (fun cdv A outer s H vs Q E hr h => ?_)
  · obtain ⟨m, a, cs, rfl, _⟩ := h
    rfl
  · obtain ⟨m, a, cs, rfl, hm, hS, hl, q⟩ := h
    have hu := hu_of hr
    refine ⟨_, (pss_cons (ps_if (pt_cmpR op_eq (pv 0) pe_str (nomark _)) (pss_one (ps_ret pe_bl)) pss_nil)
      (C8.pss_cut (ps_set (i := 2) sc_fits.nd rfl (Or.inr rfl) (pe_slice (show SlR _ (rSlA K) from sl_tupA) (pe_glob (v := .ref T.a_ALPHANUMERIC) (u := .ref T.a_ALPHANUMERIC) rfl T.m_ALPHANUMERIC rfl) po_none (po_some (pe_ix (show IxR _ (rIxD K w) from ix_kdict) (pe_glob (v := .ref T.a_BASES) (u := .ref T.a_BASES) rfl T.m_BASES rfl) (pv 0) (fun _ _ => rfl)))))
      (pss_one (ps_ret (pe_callB (show CallR _ _ (rAll K) from cr_all rfl) (by rfl) T.n_all (by decide +kernel) (pa_cons (pe_lc (own := [("byte", 3)]) (tt := tYes) rfl sc_fits.nd (pi_list (pv 1)) (blkOk_by (N := sl_fits) (sc := defScope s_fits) (by decide +kernel)) (fun _ _ _ _ _ => (pg_name (i := 3) sc_fits.nd rfl (Or.inl rfl))) (fun _ _ _ _ _ => pts_nil) (fun _ _ _ _ _ => (pe_cmpR (show OpR _ _ (rIn K false) from op_in_seq) (pv 3) (pv 2) (by with_unfolding_all rfl)))) pa_nil)))))), ?_⟩
    show (_ : L2.TS) _ [some _, some _, none, none] H
    try simp only [Z.kx]
    wtm_at "r"
    rw [md_byte hm]
    with_reducible refine Z.i_2 (fun h => ?_) (fun h => ?_)
    · wtm_at "r"
      have e : fitN m cs = true := by
        unfold fitN alw; rw [h]; simp
      rw [← e]; exact q H (Same.refl _)
    wtm_at "r"
    refine Z.r_cut (fun σ H1 => ∃ pa, σ = [some (.str (modes.getD m "")), some (.ref a), some (.ref pa), none] ∧ Same H H1 ∧ SqT K H1 pa (nv (anL.take (bsN m)))) ?_ ?_
    · wtm_at "w"
      wtm_at "r"
      refine kd_BASES T hm (fun x vx => ?_)
      cases Z.vt_i vx
      wtm_at "r"
      have hh := bs_two hm (by omega)
      refine ⟨_, nv anL, rfl, tr_ints T.t_ALPHANUMERIC H, fun hw => ?_, fun hw p hp => ?_⟩
      · refine ⟨_, rfl, Same.refl _, ?_⟩
        have e : anL.take (bsN m) = anL := by
          refine List.take_of_length_le ?_
          rw [anl_len]
          rcases hh with e | e
          · exfalso
            rw [e, nv_len, anl_len] at hw
            exact absurd hw.2 (by decide)
          · omega
        rw [e]; exact tr_ints T.t_ALPHANUMERIC H
      · refine ⟨_, rfl, Z.s_upd hp, ?_⟩
        rw [Z.cut_to, show (nv anL).take (bsN m) = nv (anL.take (bsN m)) from by unfold nv; rw [List.map_take]]
        exact Z.sq_t L2.upd_same
    rintro σ H1 ⟨pa, rfl, s1, ha⟩
    wtm_at "r"
    refine Z.lcl_pure (xs := nv cs) (fun x => V.bl (inV x (nv (anL.take (bsN m))))) (Z.s_sq s1 hS) (by rw [nv_len]; omega) (fun _ => rfl) ?_ ?_
    · intro i x H2 hi s2 k kk
      obtain ⟨c, _, rfl⟩ := nv_get hi
      wtm_at "w"
      wtm_at "r"
      exact ⟨pa, _, rfl, .inr (Z.s_st s2 ha), rfl, flat_nv _, kk _ (Same.refl _)⟩
    · intro D H2 hD s2 hl2
      refine ⟨D, cs.map fun c => (anL.take (bsN m)).contains c, rfl, Z.sq_l (hl2.trans ?_), ?_⟩
      · rw [show nv cs = cs.map (fun c : Nat => V.int (c : Nat)) from rfl, List.map_map, List.map_map]
        refine congrArg (fun z => some (HO.lst z)) (List.map_congr_left fun c _ => ?_)
        exact congrArg V.bl (inV_nv _ _)
      · have e : ((cs.map fun c => (anL.take (bsN m)).contains c).all id) = fitN m cs := by
          unfold fitN
          rw [List.all_map]
          refine List.all_congr rfl fun c => ?_
          show _ = alw m c
          unfold alw
          rw [show (m == 2) = false from beq_eq_false_iff_ne.mpr (by omega), Bool.false_or]; rfl
        rw [e]
        exact q _ (s1.trans s2)
def sp_segment_bits (K : PySem.W.Frag) : Sp := fun vs H Q _ => ∃ (t l : Addr) (m : Nat) (cs : List Nat) (v : Nat), vs = [.ref t, .int v] ∧ m < 3 ∧ SqT K H t [.str (modes.getD m ""), .ref l] ∧ SqL K H l (nv cs) ∧ 1 ≤ v ∧ v ≤ 40 ∧ cs.length ≤ 100 ∧ Q (.int ((4 + cbN m v + conB m cs.length : Nat) : Int)) H
set_option maxHeartbeats 2000000 in
theorem ok_segment_bits (T : Top K mg w) : FnOk P w K mg base CX0 3 T.a_segment_bits T.d_segment_bits pl_segment_bits (sp_segment_bits K) := by
  refine T.F_segment_bits.ok sc_segment_bits (fun vs H Q E h => ?_) (fun cdv A outer s H vs Q E hr h => ?_)
  · obtain ⟨t, l, m, cs, v, rfl, _⟩ := h
    rfl
  · obtain ⟨t, l, m, cs, v, rfl, hm, ht, hS, h1, h40, hl, q⟩ := h
    have hu := hu_of hr
    refine ⟨_, (pss_cons (ps_asg (pv 0) (pg_tup rfl (pgs_cons (pg_name (i := 2) sc_segment_bits.nd rfl (Or.inl rfl)) (pgs_cons (pg_name (i := 3) sc_segment_bits.nd rfl (Or.inl rfl)) pgs_nil))))
      (pss_cons (ps_set (i := 4) sc_segment_bits.nd rfl (Or.inl rfl) (pe_call (ok_group_size T) (hr.mono (by decide)) (by rfl) T.g_group_size T.F_group_size.kp T.b_group_size .nil pass0 (pa_cons (pv 2) pa_nil)))
      (pss_cons (ps_set (i := 5) sc_segment_bits.nd rfl (Or.inl rfl) (pe_ix (show IxR _ (rIxD K w) from ix_kdict) (pe_glob (v := .ref T.a_GROUP_BITS) (u := .ref T.a_GROUP_BITS) rfl T.m_GROUP_BITS rfl) (pv 2) (fun _ _ => rfl)))
      (pss_one (ps_ret (pe_op op_add (pe_op op_add (pe_call (ok_head_bits T) (hr.mono (by decide)) (by rfl) T.g_head_bits T.F_head_bits.kp T.b_head_bits .nil pass0 (pa_cons (pv 2) (pa_cons (pv 1) pa_nil))) (pe_op op_mul (pe_op op_fdiv (pe_callB (show CallR _ _ (Z.cLen K) from Z.call_len) (by rfl) T.n_len (by decide +kernel) (pa_cons (pv 3) pa_nil)) (pv 4)) (pe_ix (show IxR _ (rIxT K) from ix_tup) (pv 5) (pv 4) (fun _ _ => rfl)))) (pe_ix (show IxR _ (rIxT K) from ix_tup) (pv 5) (pe_op op_mod (pe_callB (show CallR _ _ (Z.cLen K) from Z.call_len) (by rfl) T.n_len (by decide +kernel) (pa_cons (pv 3) pa_nil)) (pv 4)) (fun _ _ => rfl)))))))), ?_⟩
    show (_ : L2.TS) _ [some _, some _, none, none, none, none] H
    try simp only [Z.kx]
    have gp := gs_pos hm
    wtm_at "r"
    refine Z.r_pairT ht (by wtm_at "set") ?_
    wtm_at "r"
    refine ⟨m, rfl, hm, ?_⟩
    wtm_at "r"
    refine kd_GROUP_BITS T hm (fun x vx => ?_)
    obtain ⟨b, rfl, hb⟩ := Z.vt_t vx
    wtm_at "r"
    refine ⟨m, v, rfl, hm, h1, h40, ?_⟩
    have hS' := hS
    have hq : cs.length / gsN m ≤ 100 := Nat.le_trans (Nat.div_le_self _ _) hl
    have hw1 := wd_lt m hm (gsN m) (by omega)
    have hr : cs.length % gsN m < gsN m := Nat.mod_lt _ (by omega)
    wtm_at "r"
    refine Z.r_trI hb (j := gsN m) rfl (wd_tr m _ hm (Nat.le_refl _)) ?_
    rw [nv_len, ← Int.natCast_ediv]
    wtm_at "r"
    rw [nv_len, ← Int.natCast_emod]
    refine Z.r_trI hb (j := cs.length % gsN m) rfl (wd_tr m _ hm (by omega)) ?_
    wtm_at "r"
    have e : ((4 + cbN m v : Nat) : Int) + ((cs.length / gsN m : Nat) : Int) * (wdN m (gsN m) : Nat) + (wdN m (cs.length % gsN m) : Nat) = ((4 + cbN m v + conB m cs.length : Nat) : Int) := by
      unfold conB
      rw [Int.natCast_add (4 + cbN m v), Int.natCast_add (_ * _), Int.natCast_mul]; omega
    rw [e]
    exact q
def sp_number_of (K : PySem.W.Frag) : Sp := fun vs H Q _ => ∃ (m : Nat) (a : Addr) (cs : List Nat), vs = [.str (modes.getD m ""), .ref a] ∧ m < 3 ∧ SqL K H a (nv cs) ∧ cs.length ≤ 3 ∧ fitN m cs = true ∧ (∀ c ∈ cs, c < 256) ∧ Q (.int (numM m cs : Nat)) H
set_option maxHeartbeats 2000000 in
theorem ok_number_of (T : Top K mg w) : FnOk P w K mg base CX0 1 T.a_number_of T.d_number_of pl_number_of (sp_number_of K) := by
  refine T.F_number_of.ok sc_number_of (fun vs H Q E h => ?_) (fun cdv A outer s H vs Q E hr h => ?_)
  · obtain ⟨m, a, cs, rfl, _⟩ := h
    rfl
  · obtain ⟨m, a, cs, rfl, hm, hS, hl, hf, h256, q⟩ := h
    have hu := hu_of hr
    refine ⟨_, (pss_cons (ps_set (i := 2) sc_number_of.nd rfl (Or.inl rfl) pe_int)
      (pss_cons (ps_for PassesOwn.never rfl (pi_list (pv 1)) (pg_name (i := 3) sc_number_of.nd rfl (Or.inl rfl)) (pss_cons (ps_set (i := 4) sc_number_of.nd rfl (Or.inl rfl) (pe_ifExp (pt_cmpR op_eq (pv 0) pe_str (nomark _)) (pv 3) (pe_bm PySem.F.plainAttrs_tuple PySem.F.slot_tuple_index PySem.F.type_tuple_index (show MtR _ _ (Z.rIdxT K) from Z.mt_idxT) (pe_glob (v := .ref T.a_ALPHANUMERIC) (u := .ref T.a_ALPHANUMERIC) rfl T.m_ALPHANUMERIC rfl) (pa_cons (pv 3) pa_nil))))
      (pss_one (ps_set (i := 2) sc_number_of.nd rfl (Or.inl rfl) (pe_op op_add (pe_op op_mul (pe_ix (show IxR _ (rIxD K w) from ix_kdict) (pe_glob (v := .ref T.a_BASES) (u := .ref T.a_BASES) rfl T.m_BASES rfl) (pv 0) (fun _ _ => rfl)) (pv 2)) (pv 4))))))
      (pss_one (ps_ret (pv 2))))), ?_⟩
    show (_ : L2.TS) _ [some _, some _, none, none, none] H
    try simp only [Z.kx]
    have hb := bs_pos m hm
    wtm_at "r"
    refine Z.lst_go hS (fun i σ H2 => ∃ (x y : Option V), σ = [some (.str (modes.getD m "")), some (.ref a), some (.int (numM m (cs.take i) : Nat)), x, y] ∧ H2 = H) ⟨none, none, rfl, rfl⟩ (fun i σ H2 _ ⟨_, _, _, e⟩ => by subst e; exact hS) ?_ ?_
    · rintro i z σ H2 hi ⟨x, y, rfl, rfl⟩
      obtain ⟨c, hci, rfl⟩ := nv_get hi
      have hil : i < cs.length := (List.getElem?_eq_some_iff.mp hci).1
      have hc : c ∈ cs := List.mem_of_getElem? hci
      have hn := numM_lt m hm (cs.take i) (fun c hc => h256 c (List.mem_of_mem_take hc)) (by rw [List.length_take]; omega)
      have fin : ((bsN m : Nat) : Int) * (numM m (cs.take i) : Nat) + (valM m c : Nat) = ((numM m (cs.take (i + 1)) : Nat) : Int) := by
        rw [numM_take hci, Int.natCast_add, Int.natCast_mul]
      wtm_at "r"
      rw [md_byte hm]
      with_reducible refine' Z.i_2 (fun h => ?ct) (fun h => ?cf)
      case ct =>
        wtm_at "r"
        refine kd_BASES T hm (fun x vx => ?_)
        cases Z.vt_i vx
        wtm_at "r"
        have e : valM m c = c := by unfold valM; rw [if_pos h]
        rw [e] at fin
        rw [fin]
        exact ⟨_, _, rfl, rfl⟩
      case cf =>
        wtm_at "r"
        have ha : c ∈ anL := by
          unfold fitN at hf
          have := List.all_eq_true.mp hf c hc
          unfold alw at this
          rw [show (m == 2) = false from beq_eq_false_iff_ne.mpr (by omega), Bool.false_or] at this
          exact List.mem_of_mem_take (List.contains_iff_mem.mp this)
        obtain ⟨i1, i2⟩ := an_idx ha
        obtain ⟨_, _, _, _, ht⟩ := Z.tr_tup T.t_ALPHANUMERIC
        refine ⟨ht _, ?_⟩
        wtm_at "r"
        refine ⟨_, nv anL, .int (c : Nat), _, _, rfl, rfl, tr_ints T.t_ALPHANUMERIC _, rfl, flat_nv _, i1, (by show decide ((c : Int) = (c : Int)) = true; exact decide_eq_true rfl), i2, ?_⟩
        wtm_at "r"
        refine kd_BASES T hm (fun x vx => ?_)
        cases Z.vt_i vx
        wtm_at "r"
        have e : valM m c = anL.findIdx (· == c) := by unfold valM; rw [if_neg (by omega)]
        rw [e] at fin
        rw [fin]
        exact ⟨_, _, rfl, rfl⟩
    · rintro σ H2 ⟨x, y, rfl, rfl⟩
      rw [nv_len, List.take_length]
      wtm_at "r"
      exact q
end
def grpAt (m : Nat) (cs : List Nat) (i : Nat) : List Nat := (cs.drop (gsN m * i)).take (gsN m)
def wrG (m : Nat) (g : List Nat) : List Nat := fbs (wdN m g.length) (numM m g) (wdN m g.length)
def wrC (m : Nat) (cs : List Nat) : Nat → List Nat
  | 0 => []
  | i + 1 => wrC m cs i ++ wrG m (grpAt m cs i)
def ngr (m k : Nat) : Nat := (k + gsN m - 1) / gsN m
theorem wrC_len (m : Nat) (hm : m < 3) (cs : List Nat) : ∀ i, (wrC m cs i).length ≤ 11 * i
  | 0 => Nat.le_refl _
  | i + 1 => by
    have h1 := wrC_len m hm cs i
    have h2 : (wrG m (grpAt m cs i)).length ≤ 11 := by
      unfold wrG
      rw [fbs_len]
      refine wd_lt m hm _ ?_
      unfold grpAt
      rw [List.length_take]
      have := gs_pos hm
      omega
    show (wrC m cs i ++ wrG m (grpAt m cs i)).length ≤ _
    rw [List.length_append]; omega
theorem rgC {n c : Nat} (h : n ≤ 100000) (h1 : 1 ≤ c) (h3 : c ≤ 3) : RgC 0 (n : Int) (c : Int) ((n + c - 1) / c) := by
  have e : Builtin.Range.rangeSize 0 (n : Int) (c : Int) = (((n + c - 1) / c : Nat) : Int) := by
    rw [PyProof.Rows.rangeSize_pos (by omega) (by omega)]
    rcases (by omega : c = 1 ∨ c = 2 ∨ c = 3) with e | e | e <;> subst e <;> omega
  have hd : (n + c - 1) / c ≤ n := by
    rcases (by omega : c = 1 ∨ c = 2 ∨ c = 3) with e | e | e <;> subst e <;> omega
  have hd2 : (n : Int) ≤ ((n + c - 1) / c : Nat) * c := by
    rcases (by omega : c = 1 ∨ c = 2 ∨ c = 3) with e | e | e <;> subst e <;> omega
  have hd3 : (((n + c - 1) / c : Nat) : Int) * c ≤ 100002 := by
    rcases (by omega : c = 1 ∨ c = 2 ∨ c = 3) with e | e | e <;> subst e <;> omega
  refine ⟨by omega, by omega, ?_, e⟩
  unfold Builtin.Range.small
  rw [e]
  clear e
  generalize (n + c - 1) / c = d at *
  have fl : ∀ z : Int, -9223372036854775808 ≤ z → z < 9223372036854775808 → Builtin.Range.rangeFitsLong z = true := fun z a b => by
    have a' : -(2 ^ 63) ≤ z := Int.le_trans (by decide) a
    have b' : z < 2 ^ 63 := Int.lt_of_lt_of_le b (by decide)
    unfold Builtin.Range.rangeFitsLong
    rw [decide_eq_true a', decide_eq_true b']; rfl
  rw [fl 0 (by decide) (by decide), fl n (by omega) (by omega), fl c (by omega) (by omega), fl _ (by omega) (by omega), if_pos (show (c : Int) > 0 by omega), fl _ (by omega) (by omega), Bool.or_true]
  rfl
section
variable {P : Program} {w : World} {K : PySem.W.Frag} {mg : Str → Option Value} {base : Heap}
def sp_write_content {K : PySem.W.Frag} {mg : Str → Option Value} {w : World} (T : Top K mg w) : Sp := fun vs H Q _ => ∃ (p b : Addr) (bs : List Nat) (m : Nat) (a : Addr) (cs : List Nat), vs = [.ref p, .str (modes.getD m ""), .ref a] ∧ WAt T.a_BitWriter H p b bs ∧ m < 3 ∧ H a = some (.lst (nv cs)) ∧ cs.length ≤ 100 ∧ fitN m cs = true ∧ (∀ c ∈ cs, c < 256) ∧ bs.length ≤ 3000 ∧ a ≠ b ∧ ∀ H1, (∀ x o, H x = some o → x ≠ b → H1 x = some o) → H1 b = some (.lst (nv (bs ++ wrC m cs (ngr m cs.length)))) → Q .non H1
set_option maxHeartbeats 2000000 in
theorem ok_write_content (T : Top K mg w) : FnOk P w K mg base CX0 2 T.a_write_content T.d_write_content pl_write_content (sp_write_content T) := by
  refine T.F_write_content.ok sc_write_content (fun vs H Q E h => ?_) (fun cdv A outer s H vs Q E hr h => ?_)
  · obtain ⟨p, b, bs, m, a, cs, rfl, _⟩ := h
    rfl
  · obtain ⟨p, b, bs, m, a, cs, rfl, hw, hm, hS, hl, hf, h256, hb, hab, q⟩ := h
    have hu := hu_of hr
    refine ⟨_, (pss_cons (ps_set (i := 3) sc_write_content.nd rfl (Or.inl rfl) (pe_call (ok_group_size T) (hr.mono (by decide)) (by rfl) T.g_group_size T.F_group_size.kp T.b_group_size .nil pass0 (pa_cons (pv 1) pa_nil)))
      (pss_one (ps_for PassesOwn.never rfl (pi_range3 rfl T.n_range (pa_cons pe_int (pa_cons (pe_callB (show CallR _ _ (Z.cLen K) from Z.call_len) (by rfl) T.n_len (by decide +kernel) (pa_cons (pv 2) pa_nil)) (pa_cons (pv 3) pa_nil)))) (pg_name (i := 4) sc_write_content.nd rfl (Or.inl rfl)) (pss_cons (ps_set (i := 5) sc_write_content.nd rfl (Or.inl rfl) (pe_slice (show SlR _ (rSlL K) from sl_list) (pv 2) (po_some (pv 4)) (po_some (pe_op op_add (pv 4) (pv 3)))))
      (pss_one (ps_expr (pe_meth (pv 0) T.cl_BitWriter T.me_BitWriter_write (ok_BitWriter_write T) (hr.mono (by decide)) T.b_BitWriter_write .nil pass0 (pa_cons (pe_ix (show IxR _ (rIxT K) from ix_tup) (pe_ix (show IxR _ (rIxD K w) from ix_kdict) (pe_glob (v := .ref T.a_GROUP_BITS) (u := .ref T.a_GROUP_BITS) rfl T.m_GROUP_BITS rfl) (pv 1) (fun _ _ => rfl)) (pe_callB (show CallR _ _ (Z.cLen K) from Z.call_len) (by rfl) T.n_len (by decide +kernel) (pa_cons (pv 5) pa_nil)) (fun _ _ => rfl)) (pa_cons (pe_call (ok_number_of T) (hr.mono (by decide)) (by rfl) T.g_number_of T.F_number_of.kp T.b_number_of .nil pass0 (pa_cons (pv 1) (pa_cons (pv 5) pa_nil))) pa_nil))))))))), ?_⟩
    show (_ : L2.TS) _ [some _, some _, some _, none, none, none] H
    try simp only [Z.kx]
    have gp := gs_pos hm
    obtain ⟨⟨dx, hp⟩, hb0⟩ := id hw
    have npb : p ≠ b := ne_of hp hb0 (by intro z; cases z)
    wtm_at "r"
    refine ⟨m, rfl, hm, ?_⟩
    wtm_at "r"
    rw [nv_len]
    have hng : ngr m cs.length ≤ cs.length := by
      unfold ngr
      generalize gsN m = g at gp
      rcases (by omega : g = 1 ∨ g = 2 ∨ g = 3) with e | e | e <;> subst e <;> omega
    refine Z.rng_go3 (ngr m cs.length) (rgC (by omega) gp.1 gp.2) (fun i σ H2 => ∃ (x y : Option V), σ = [some (.ref p), some (.str (modes.getD m "")), some (.ref a), some (.int (gsN m : Nat)), x, y] ∧ (∀ x o, H x = some o → x ≠ b → H2 x = some o) ∧ H2 b = some (.lst (nv (bs ++ wrC m cs i)))) ⟨none, none, rfl, fun x o e _ => e, by show H b = some (.lst (nv (bs ++ []))); rw [List.append_nil]; exact hb0⟩ ?_ ?_
    · rintro i σ H2 hi ⟨x, y, rfl, k2, h2⟩
      have ha2 := k2 _ _ hS hab
      have hln := wrC_len m hm cs i
      have hgl : (grpAt m cs i).length ≤ gsN m := by unfold grpAt; rw [List.length_take]; omega
      have e1 : (0 : Int) + (i : Nat) * (gsN m : Nat) = ((gsN m * i : Nat) : Int) := by rw [Int.natCast_mul, Int.mul_comm]; omega
      wtm_at "r"
      rw [e1]
      refine Z.r_slL (Z.sq_l ha2) (fun c hc => ?_)
      rw [show ((gsN m * i : Nat) : Int) + (gsN m : Nat) = ((gsN m * i + gsN m : Nat) : Int) by omega, nv_cut _ (by omega), show gsN m * i + gsN m - gsN m * i = gsN m by omega]
      rw [show (cs.drop (gsN m * i)).take (gsN m) = grpAt m cs i from rfl]
      have s3 : Same H2 (upd H2 c (.lst (nv (grpAt m cs i)))) := Z.s_upd hc
      have hc3 : (upd H2 c (.lst (nv (grpAt m cs i)))) c = some (.lst (nv (grpAt m cs i))) := L2.upd_same
      generalize upd H2 c (.lst (nv (grpAt m cs i))) = H3 at s3 hc3
      wtm_at "r"
      refine Z.r_objP (s3 _ _ (k2 _ _ hp npb)) ((Z.look_s no_w).trans Z.look_0) ?_
      wtm_at "r"
      refine kd_GROUP_BITS T hm (fun x vx => ?_)
      obtain ⟨g, rfl, hg⟩ := Z.vt_t vx
      wtm_at "r"
      rw [nv_len]
      refine Z.r_trI hg (j := (grpAt m cs i).length) rfl (wd_tr m _ hm hgl) ?_
      wtm_at "r"
      have sub : ∀ c, c ∈ grpAt m cs i → c ∈ cs := fun c hc => List.mem_of_mem_drop (List.mem_of_mem_take hc)
      refine ⟨m, c, grpAt m cs i, rfl, hm, Z.sq_l hc3, by omega, ?_, fun c hc => h256 c (sub c hc), ?_⟩
      · unfold fitN at hf ⊢
        exact List.all_eq_true.mpr fun c hc => List.all_eq_true.mp hf c (sub c hc)
      wtm_at "r"
      refine ⟨p, b, bs ++ wrC m cs i, wdN m (grpAt m cs i).length, numM m (grpAt m cs i), rfl, ⟨⟨dx, s3 _ _ (k2 _ _ hp npb)⟩, s3 _ _ h2⟩, by rw [List.length_append]; omega, by have := wd_lt m hm (grpAt m cs i).length (by omega); omega, fun H4 k4 h4 => ?_⟩
      wtm_at "r"
      refine ⟨_, _, rfl, fun x o e n => k4 x o (s3 _ _ (k2 x o e n)) n, ?_⟩
      rw [h4, List.append_assoc]; rfl
    · rintro σ H2 ⟨x, y, rfl, k2, h2⟩
      wtm_at "r"
      exact q H2 k2 h2
end
def wrS (v : Nat) : List (Nat × List Nat) → List Nat
  | [] => []
  | s :: r => fbs 4 (2 ^ s.1) 4 ++ (fbs (cbN s.1 v) s.2.length (cbN s.1 v) ++ (wrC s.1 s.2 (ngr s.1 s.2.length) ++ wrS v r))
theorem wrS_snoc (v : Nat) (s : Nat × List Nat) : ∀ l, wrS v (l ++ [s]) = wrS v l ++ (fbs 4 (2 ^ s.1) 4 ++ (fbs (cbN s.1 v) s.2.length (cbN s.1 v) ++ wrC s.1 s.2 (ngr s.1 s.2.length)))
  | [] => by show _ ++ (_ ++ (_ ++ [])) = [] ++ _; rw [List.append_nil, List.nil_append]
  | a :: l => by
    show _ ++ (_ ++ (_ ++ wrS v (l ++ [s]))) = (_ ++ (_ ++ (_ ++ wrS v l))) ++ _
    rw [wrS_snoc v s l]; simp only [List.append_assoc]
def SegOk (s : Nat × List Nat) : Prop := s.1 < 3 ∧ s.2.length ≤ 30 ∧ fitN s.1 s.2 = true ∧ ∀ c ∈ s.2, c < 256
def totL (l : List (Nat × List Nat)) : Nat := (l.map fun s => s.2.length).sum
theorem ngr_le {m : Nat} (hm : m < 3) (k : Nat) : ngr m k ≤ k := by
  have gp := gs_pos hm
  unfold ngr
  generalize gsN m = g at gp
  rcases (by omega : g = 1 ∨ g = 2 ∨ g = 3) with e | e | e <;> subst e <;> omega
theorem wrS_len (v : Nat) : ∀ l : List (Nat × List Nat), (∀ s ∈ l, SegOk s) → (wrS v l).length ≤ 20 * l.length + 11 * totL l
  | [], _ => Nat.le_refl _
  | s :: r, h => by
    have h1 := h s (List.mem_cons_self ..)
    have h2 := wrS_len v r fun s hs => h s (List.mem_cons_of_mem _ hs)
    have h3 := wrC_len s.1 h1.1 s.2 (ngr s.1 s.2.length)
    have h4 := ngr_le h1.1 s.2.length
    have h5 := (cbN_lim (v := v) h1.1).1
    have e : totL (s :: r) = s.2.length + totL r := rfl
    show (fbs 4 (2 ^ s.1) 4 ++ (fbs (cbN s.1 v) s.2.length (cbN s.1 v) ++ (wrC s.1 s.2 (ngr s.1 s.2.length) ++ wrS v r))).length ≤ _
    rw [List.length_append, List.length_append, List.length_append, fbs_len, fbs_len, e, List.length_cons]
    omega
theorem totL_take (l : List (Nat × List Nat)) (i : Nat) : totL (l.take i) ≤ totL l := by
  unfold totL
  rw [List.map_take]
  conv => rhs; rw [← List.take_append_drop i (l.map fun s => s.2.length)]
  rw [List.sum_append]; omega
section
variable {P : Program} {w : World} {K : PySem.W.Frag} {mg : Str → Option Value} {base : Heap}
def sp_write_segments {K : PySem.W.Frag} {mg : Str → Option Value} {w : World} (T : Top K mg w) : Sp := fun vs H Q _ => ∃ (p b : Addr) (bs : List Nat) (a : Addr) (segs : List (Nat × List Nat)) (v : Nat) (H0 : Hp), vs = [.ref p, .ref a, .int v] ∧ WAt T.a_BitWriter H p b bs ∧ SegsAt H0 a segs ∧ (∀ x o, H0 x = some o → x ≠ b ∧ H x = some o) ∧ (∀ s ∈ segs, SegOk s) ∧ segs.length ≤ 30 ∧ totL segs ≤ 30 ∧ bs.length ≤ 100 ∧ 1 ≤ v ∧ v ≤ 40 ∧ ∀ H1, (∀ x o, H x = some o → x ≠ b → H1 x = some o) → H1 b = some (.lst (nv (bs ++ wrS v segs))) → Q .non H1
set_option maxHeartbeats 2000000 in
theorem ok_write_segments (T : Top K mg w) : FnOk P w K mg base CX0 3 T.a_write_segments T.d_write_segments pl_write_segments (sp_write_segments T) := by
  refine T.F_write_segments.ok sc_write_segments (fun vs H Q E h => ?_) (fun cdv A outer s H vs Q E hr h => ?_)
  · obtain ⟨p, b, bs, a, segs, v, H0, rfl, _⟩ := h
    rfl
  · obtain ⟨p, b, bs, a, segs, v, H0, rfl, hw, hS0, h0, hok, hn, ht, hb, h1, h40, q⟩ := h
    have hu := hu_of hr
    refine ⟨_, (pss_one (ps_for PassesOwn.never rfl (pi_list (pv 1)) (pg_tup rfl (pgs_cons (pg_name (i := 3) sc_write_segments.nd rfl (Or.inl rfl)) (pgs_cons (pg_name (i := 4) sc_write_segments.nd rfl (Or.inl rfl)) pgs_nil))) (pss_cons (ps_expr (pe_meth (pv 0) T.cl_BitWriter T.me_BitWriter_write (ok_BitWriter_write T) (hr.mono (by decide)) T.b_BitWriter_write .nil pass0 (pa_cons pe_int (pa_cons (pe_ix (show IxR _ (rIxD K w) from ix_kdict) (pe_glob (v := .ref T.a_MODE_NUMBERS) (u := .ref T.a_MODE_NUMBERS) rfl T.m_MODE_NUMBERS rfl) (pv 3) (fun _ _ => rfl)) pa_nil))))
      (pss_cons (ps_expr (pe_meth (pv 0) T.cl_BitWriter T.me_BitWriter_write (ok_BitWriter_write T) (hr.mono (by decide)) T.b_BitWriter_write .nil pass0 (pa_cons (pe_call (ok_count_bits T) (hr.mono (by decide)) (by rfl) T.g_count_bits T.F_count_bits.kp T.b_count_bits .nil pass0 (pa_cons (pv 3) (pa_cons (pv 2) pa_nil))) (pa_cons (pe_callB (show CallR _ _ (Z.cLen K) from Z.call_len) (by rfl) T.n_len (by decide +kernel) (pa_cons (pv 4) pa_nil)) pa_nil))))
      (pss_one (ps_expr (pe_call (ok_write_content T) (hr.mono (by decide)) (by rfl) T.g_write_content T.F_write_content.kp T.b_write_content .nil pass0 (pa_cons (pv 0) (pa_cons (pv 3) (pa_cons (pv 4) pa_nil)))))))))), ?_⟩
    show (_ : L2.TS) _ [some _, some _, some _, none, none] H
    try simp only [Z.kx]
    obtain ⟨⟨dx, hp⟩, hb0⟩ := id hw
    have npb : p ≠ b := ne_of hp hb0 (by intro z; cases z)
    obtain ⟨xs, hxs0, lxs, gxs⟩ := id hS0
    obtain ⟨nab, hxs⟩ := h0 _ _ hxs0
    wtm_at "r"
    refine Z.lst_go (Z.sq_l hxs) (fun i σ H2 => ∃ (x y : Option V), σ = [some (.ref p), some (.ref a), some (.int v), x, y] ∧ (∀ x o, H x = some o → x ≠ b → H2 x = some o) ∧ H2 b = some (.lst (nv (bs ++ wrS v (segs.take i))))) ⟨none, none, rfl, fun x o e _ => e, by show H b = some (.lst (nv (bs ++ []))); rw [List.append_nil]; exact hb0⟩ (fun i σ H2 _ ⟨_, _, _, k2, _⟩ => Z.sq_l (k2 _ _ hxs nab)) ?_ ?_
    · rintro i z σ H2 hi ⟨x, y, rfl, k2, h2⟩
      have hil : i < segs.length := by have := (List.getElem?_eq_some_iff.mp hi).1; omega
      obtain ⟨t, l, e1, ht0, hl0, _⟩ := gxs i segs[i] (List.getElem?_eq_getElem hil)
      obtain ⟨htb, ht'⟩ := h0 _ _ ht0
      obtain ⟨hlb, hl'⟩ := h0 _ _ hl0
      rw [hi] at e1
      cases e1
      have hso := hok segs[i] (List.getElem_mem hil)
      have hsn : segs[i]? = some segs[i] := List.getElem?_eq_getElem hil
      generalize segs[i] = s at *
      obtain ⟨m, cs⟩ := s
      obtain ⟨hm, hc30, hfit, h256⟩ := hso
      dsimp only at *
      have len2 : (wrS v (segs.take i)).length ≤ 20 * 30 + 11 * 30 := by
        have z := wrS_len v (segs.take i) fun s hs => hok s (List.mem_of_mem_take hs)
        have z2 := totL_take segs i
        rw [List.length_take] at z
        omega
      have cl := cbN_lim (v := v) hm
      refine Z.r_pairT (Z.sq_t (k2 _ _ ht' htb)) (by wtm_at "set") ?_
      wtm_at "r"
      refine Z.r_objP (k2 _ _ hp npb) ((Z.look_s no_w).trans Z.look_0) ?_
      wtm_at "r"
      refine kd_MODE_NUMBERS T hm (fun x vx => ?_)
      cases Z.vt_i vx
      wtm_at "r"
      refine ⟨p, b, bs ++ wrS v (segs.take i), 4, 2 ^ m, rfl, ⟨⟨dx, k2 _ _ hp npb⟩, h2⟩, by rw [List.length_append]; omega, by omega, fun H3 k3 h3 => ?_⟩
      have k23 : ∀ x o, H x = some o → x ≠ b → H3 x = some o := fun x o e n => k3 x o (k2 x o e n) n
      wtm_at "r"
      refine Z.r_objP (k23 _ _ hp npb) ((Z.look_s no_w).trans Z.look_0) ?_
      wtm_at "r"
      refine ⟨m, v, rfl, hm, h1, h40, ?_⟩
      have hl3 := k23 _ _ hl' hlb
      wtm_at "r"
      rw [nv_len]
      refine ⟨p, b, _, cbN m v, cs.length, rfl, ⟨⟨dx, k23 _ _ hp npb⟩, h3⟩, by rw [List.length_append, List.length_append, fbs_len]; omega, by omega, fun H4 k4 h4 => ?_⟩
      have k24 : ∀ x o, H x = some o → x ≠ b → H4 x = some o := fun x o e n => k4 x o (k23 x o e n) n
      wtm_at "r"
      refine ⟨p, b, _, m, l, cs, rfl, ⟨⟨dx, k24 _ _ hp npb⟩, h4⟩, hm, k24 _ _ hl' hlb, by omega, hfit, h256, by rw [List.length_append, List.length_append, List.length_append, fbs_len, fbs_len]; omega, hlb, fun H5 k5 h5 => ?_⟩
      wtm_at "r"
      refine ⟨_, _, rfl, fun x o e n => k5 x o (k24 x o e n) n, ?_⟩
      rw [h5, List.take_add_one, hsn]
      show _ = some (HO.lst (nv (bs ++ wrS v (segs.take i ++ [(m, cs)]))))
      rw [wrS_snoc]
      simp only [List.append_assoc]
    · rintro σ H2 ⟨x, y, rfl, k2, h2⟩
      rw [lxs, List.take_length] at h2
      wtm_at "r"
      exact q H2 k2 h2
end
/-- a list of ways: tuples of bits and bytes behind -/
def WaysL (H : Hp) (l : Addr) (ws : List (Int × Nat)) : Prop := ∃ ps : List Addr, H l = some (.lst (ps.map V.ref)) ∧ ps.length = ws.length ∧ ∀ (i : Nat) (w : Int × Nat), ws[i]? = some w → ∃ t, ps[i]? = some t ∧ H t = some (.tup [.int w.1, .int (w.2 : Nat)])
theorem WaysL.same {H H' : Hp} {l : Addr} {ws : List (Int × Nat)} (h : WaysL H l ws) (s : Same H H') : WaysL H' l ws := by
  obtain ⟨ps, a, b, c⟩ := h
  exact ⟨ps, s _ _ a, b, fun i w e => by obtain ⟨t, e1, e2⟩ := c i w e; exact ⟨t, e1, s _ _ e2⟩⟩
def mky (m : Nat) : Key := .inr (modes.getD m "")
/-- a dict of lists of ways -/
def WaysD (H : Hp) (d : Addr) (ms : List Nat) (f : Nat → List (Int × Nat)) : Prop := ∃ ls : Nat → Addr, H d = some (.dK (ms.map fun m => (mky m, V.ref (ls m)))) ∧ ∀ m ∈ ms, m < 3 ∧ WaysL H (ls m) (f m)
def wI (m r : Nat) : Int := (wdN m r : Nat)
/-- the ways with a byte more in front -/
def lngA (m : Nat) (ws : List (Int × Nat)) (r : Nat) : Int × Nat := (wI m (r + 1) - wI m r + (ws.getD ((r + 1) % gsN m) (0, 0)).1, (ws.getD ((r + 1) % gsN m) (0, 0)).2)
def lngW (m : Nat) (ws : List (Int × Nat)) : List (Int × Nat) := (List.range ws.length).map fun r => (wI m (r + 1) - wI m r + (ws.getD ((r + 1) % ws.length) (0, 0)).1, (ws.getD ((r + 1) % ws.length) (0, 0)).2)
section
variable {P : Program} {w : World} {K : PySem.W.Frag} {mg : Str → Option Value} {base : Heap}
def sp_ways_with_byte (K : PySem.W.Frag) : Sp := fun vs H Q _ => ∃ (m : Nat) (a : Addr) (ws : List (Int × Nat)), vs = [.str (modes.getD m ""), .ref a] ∧ m < 3 ∧ WaysL H a ws ∧ ws.length = gsN m ∧ ∀ (p : Addr) (H1 : Hp), Same H H1 → H p = none → WaysL H1 p (lngW m ws) → Q (.ref p) H1
set_option maxHeartbeats 2000000 in
theorem ok_ways_with_byte (T : Top K mg w) : FnOk P w K mg base CX0 1 T.a_ways_with_byte T.d_ways_with_byte pl_ways_with_byte (sp_ways_with_byte K) := by
  refine T.F_ways_with_byte.ok sc_ways_with_byte (fun vs H Q E h => ?_) (fun cdv A outer s H vs Q E hr h => ?_)
  · obtain ⟨m, a, ws, rfl, _⟩ := h
    rfl
  · obtain ⟨m, a, ws, rfl, hm, hw, hz, q⟩ := h
    have hu := hu_of hr
    refine ⟨_, (pss_cons (ps_set (i := 2) sc_ways_with_byte.nd rfl (Or.inl rfl) (pe_ix (show IxR _ (rIxD K w) from ix_kdict) (pe_glob (v := .ref T.a_GROUP_BITS) (u := .ref T.a_GROUP_BITS) rfl T.m_GROUP_BITS rfl) (pv 0) (fun _ _ => rfl)))
      (pss_cons (ps_set (i := 3) sc_ways_with_byte.nd rfl (Or.inl rfl) (pe_lst pa_nil))
      (pss_cons (ps_for PassesOwn.never rfl (pi_range1 rfl T.n_range (pa_cons (pe_callB (show CallR _ _ (Z.cLen K) from Z.call_len) (by rfl) T.n_len (by decide +kernel) (pa_cons (pv 1) pa_nil)) pa_nil)) (pg_name (i := 4) sc_ways_with_byte.nd rfl (Or.inl rfl)) (pss_cons (ps_asg (pe_ix (show IxR _ (rIxL K) from ix_list) (pv 1) (pe_op op_mod (pe_op op_add (pv 4) pe_int) (pe_callB (show CallR _ _ (Z.cLen K) from Z.call_len) (by rfl) T.n_len (by decide +kernel) (pa_cons (pv 1) pa_nil))) (fun _ _ => rfl)) (pg_tup rfl (pgs_cons (pg_name (i := 5) sc_ways_with_byte.nd rfl (Or.inl rfl)) (pgs_cons (pg_name (i := 6) sc_ways_with_byte.nd rfl (Or.inl rfl)) pgs_nil))))
      (pss_one (ps_expr (pe_bm PySem.F.plainAttrs_list PySem.F.slot_list_append PySem.F.type_list_append mt_append (pv 3) (pa_cons (pe_tup (pa_cons (pe_op op_add (pe_op op_sub (pe_ix (show IxR _ (rIxT K) from ix_tup) (pv 2) (pe_op op_add (pv 4) pe_int) (fun _ _ => rfl)) (pe_ix (show IxR _ (rIxT K) from ix_tup) (pv 2) (pv 4) (fun _ _ => rfl))) (pv 5)) (pa_cons (pv 6) pa_nil))) pa_nil))))))
      (pss_one (ps_ret (pv 3)))))), ?_⟩
    show (_ : L2.TS) _ [some _, some _, none, none, none, none, none] H
    try simp only [Z.kx]
    have gp := gs_pos hm
    obtain ⟨ps, ha, hpl, hps⟩ := id hw
    wtm_at "r"
    refine kd_GROUP_BITS T hm (fun x vx => ?_)
    obtain ⟨g, rfl, hg⟩ := Z.vt_t vx
    wtm_at "r"
    refine ⟨by show 0 ≤ sizeLine; decide, fun p hp => ?_⟩
    have s1 : Same H (upd H p (.lst [])) := Z.s_upd hp
    have hp1 : (upd H p (.lst [])) p = some (.lst []) := L2.upd_same
    generalize upd H p (.lst []) = H1 at s1 hp1
    wtm_at "r"
    have hn : (ps.map V.ref).length = gsN m := by rw [List.length_map, hpl, hz]
    rw [hn]
    refine Z.rng_go (gsN m) rfl ⟨by omega, by omega⟩ (fun i σ H2 => ∃ (x y z : Option V) (qs : List Addr), σ = [some (.str (modes.getD m "")), some (.ref a), some (.ref g), some (.ref p), x, y, z] ∧ Same H H2 ∧ H2 p = some (.lst (qs.map V.ref)) ∧ qs.length = i ∧ ∀ k, k < i → ∃ t, qs[k]? = some t ∧ H2 t = some (.tup [.int (lngA m ws k).1, .int ((lngA m ws k).2 : Nat)])) ⟨none, none, none, [], rfl, s1, hp1, rfl, fun k hk => absurd hk (Nat.not_lt_zero k)⟩ ?_ ?_
    · rintro i σ H2 hi ⟨x, y, z, qs, rfl, s2, h2, lq, gq⟩
      have ha2 := s2 _ _ ha
      wtm_at "r"
      rw [hn, show ((i : Nat) : Int) + 1 = ((i + 1 : Nat) : Int) by omega, ← Int.natCast_emod]
      have hm2 : (i + 1) % gsN m < gsN m := Nat.mod_lt _ (by omega)
      obtain ⟨t, e1, e2⟩ := hps ((i + 1) % gsN m) (ws.getD ((i + 1) % gsN m) (0, 0)) (by rw [List.getD_eq_getElem?_getD, List.getElem?_eq_getElem (by omega)]; rfl)
      refine Z.r_ixL (Z.sq_l ha2) (Z.at_ref (j := (i + 1) % gsN m) rfl e1) ?_
      refine Z.r_pairT (Z.sq_t (s2 _ _ e2)) (by wtm_at "set") ?_
      wtm_at "r"
      rw [show ((i : Nat) : Int) + 1 = ((i + 1 : Nat) : Int) by omega]
      refine Z.r_trI hg (j := i + 1) rfl (wd_tr m _ hm (by omega)) ?_
      wtm_at "r"
      refine Z.r_trI hg (j := i) rfl (wd_tr m _ hm (by omega)) ?_
      wtm_at "r"
      refine ⟨by show 2 ≤ sizeLine; decide, fun t' ht' => ?_⟩
      refine Z.r_nil ?_
      refine Z.r_append (Z.s_upd ht' _ _ h2) (Z.szl (by rw [List.length_map]; omega)) ?_
      have s3 : Same H2 (upd H2 t' (.tup [.int ((wdN m (i + 1) : Nat) - (wdN m i : Nat) + (ws.getD ((i + 1) % gsN m) (0, 0)).1), .int ((ws.getD ((i + 1) % gsN m) (0, 0)).2 : Nat)])) := Z.s_upd ht'
      have ht3 : (upd H2 t' (.tup [.int ((wdN m (i + 1) : Nat) - (wdN m i : Nat) + (ws.getD ((i + 1) % gsN m) (0, 0)).1), .int ((ws.getD ((i + 1) % gsN m) (0, 0)).2 : Nat)])) t' = some (.tup [.int (lngA m ws i).1, .int ((lngA m ws i).2 : Nat)]) := L2.upd_same
      have npt : t' ≠ p := fun z => by rw [z, h2] at ht'; cases ht'
      refine ⟨_, _, _, qs ++ [t'], rfl, Z.s_mut (s2.trans s3) hp, by rw [L2.upd_same, List.map_append]; rfl, by rw [List.length_append, lq]; rfl, fun k hk => ?_⟩
      by_cases e : k = i
      · subst e
        exact ⟨t', by rw [List.getElem?_append_right (by omega), lq, Nat.sub_self]; rfl, (L2.upd_ne npt).trans ht3⟩
      · obtain ⟨t'', f1, f2⟩ := gq k (by omega)
        exact ⟨t'', by rw [List.getElem?_append_left (by omega)]; exact f1, (L2.upd_ne (fun z => by rw [z, h2] at f2; cases f2)).trans (s3 _ _ f2)⟩
    · rintro σ H2 ⟨x, y, z, qs, rfl, s2, h2, lq, gq⟩
      wtm_at "r"
      refine q p H2 s2 hp ⟨qs, h2, by rw [lq]; unfold lngW; rw [List.length_map, List.length_range, hz], fun i w e => ?_⟩
      unfold lngW at e
      have hil := (List.getElem?_eq_some_iff.mp e).1
      rw [List.length_map, List.length_range] at hil
      rw [List.getElem?_map, List.getElem?_range hil] at e
      cases e
      obtain ⟨t, e1, e2⟩ := gq i (by omega)
      refine ⟨t, e1, ?_⟩
      rw [e2]; unfold lngA; rw [hz]
end
def min2 (w stop : Int × Nat) : Int × Nat := if HT.lexLt [stop.1, (stop.2 : Int)] [w.1, (w.2 : Int)] = true then stop else w
theorem min2_self (s : Int × Nat) : min2 s s = s := by unfold min2; rw [ite_self]
def onw (m : Nat) (o : Option (List (Int × Nat))) (stop : Int × Nat) : List (Int × Nat) := (o.getD (List.replicate (gsN m) stop)).map fun w => min2 w stop
theorem mky_ne : ∀ a, a < 3 → ∀ b, b < 3 → a ≠ b → ¬ mky a = mky b := by decide +kernel
theorem valV_ms {ls : Nat → Addr} {m : Nat} (hm : m < 3) : ∀ ms : List Nat, (∀ a ∈ ms, a < 3) → valV (ms.map fun m => (mky m, V.ref (ls m))) (mky m) = if m ∈ ms then some (V.ref (ls m)) else none
  | [], _ => by simp [valV]
  | a :: ms, h => by
    rw [List.map_cons]
    by_cases e : a = m
    · subst e
      rw [valV_pos rfl, if_pos (List.mem_cons_self ..)]
    · rw [valV_neg (mky_ne a (h a (List.mem_cons_self ..)) m hm e), valV_ms hm ms fun a ha => h a (List.mem_cons_of_mem _ ha)]
      by_cases i : m ∈ ms
      · rw [if_pos i, if_pos (List.mem_cons_of_mem _ i)]
      · rw [if_neg i, if_neg (fun z => by rcases List.mem_cons.mp z with z | z; exact e z.symm; exact i z)]
theorem ways_rep {H : Hp} {l t : Addr} {k : Nat} {s : Int × Nat} (hl : H l = some (.lst (List.replicate k (V.ref t)))) (ht : H t = some (.tup [.int s.1, .int (s.2 : Nat)])) : WaysL H l (List.replicate k s) := by
  refine ⟨List.replicate k t, by rw [List.map_replicate]; exact hl, by rw [List.length_replicate, List.length_replicate], fun i w e => ?_⟩
  obtain ⟨hi, e2⟩ := List.getElem?_eq_some_iff.mp e
  rw [List.length_replicate] at hi
  rw [List.getElem_replicate] at e2
  subst e2
  exact ⟨t, by rw [List.getElem?_replicate, if_pos hi], ht⟩
def oIn (ms : List Nat) (f : Nat → List (Int × Nat)) (m : Nat) : Option (List (Int × Nat)) := if m ∈ ms then some (f m) else none
section
variable {P : Program} {w : World} {K : PySem.W.Frag} {mg : Str → Option Value} {base : Heap}
def sp_ways_onward (K : PySem.W.Frag) : Sp := fun vs H Q _ => ∃ (d t : Addr) (ms : List Nat) (f : Nat → List (Int × Nat)) (b : Int) (n : Nat), vs = [.ref d, .ref t] ∧ WaysD H d ms f ∧ (∀ m ∈ ms, (f m).length = gsN m) ∧ H t = some (.tup [.int b, .int n]) ∧ ∀ (p : Addr) (H1 : Hp), Same H H1 → H p = none → WaysD H1 p [0, 1, 2] (fun m => onw m (oIn ms f m) (b, n)) → Q (.ref p) H1
set_option maxHeartbeats 2000000 in
theorem ok_ways_onward (T : Top K mg w) : FnOk P w K mg base CX0 2 T.a_ways_onward T.d_ways_onward pl_ways_onward (sp_ways_onward K) := by
  refine T.F_ways_onward.ok sc_ways_onward (fun vs H Q E h => ?_) (fun cdv A outer s H vs Q E hr h => ?_)
  · obtain ⟨d, t, ms, f, b, n, rfl, _⟩ := h
    rfl
  · obtain ⟨d, t, ms, f, b, n, rfl, hd, hf, ht, q⟩ := h
    have hu := hu_of hr
    refine ⟨_, (pss_cons (ps_set (i := 2) sc_ways_onward.nd rfl (Or.inl rfl) pe_dnewK)
      (pss_cons (ps_for PassesOwn.never rfl (pi_tup (pe_glob (v := .ref T.a_MODES) (u := .ref T.a_MODES) rfl T.m_MODES rfl)) (pg_name (i := 3) sc_ways_onward.nd rfl (Or.inl rfl)) (pss_cons (ps_set (i := 4) sc_ways_onward.nd rfl (Or.inl rfl) (pe_op op_rep (pe_lst (pa_cons (pv 1) pa_nil)) (pe_call (ok_group_size T) (hr.mono (by decide)) (by rfl) T.g_group_size T.F_group_size.kp T.b_group_size .nil pass0 (pa_cons (pv 3) pa_nil))))
      (pss_one (ps_dput hu (pv 2) (pv 3) (pe_lc (own := [("way", 5)]) (tt := tYes) rfl sc_ways_onward.nd (pi_list (pe_dget2 hu (pv 0) (pv 3) (pv 4) ⟨by rfl, by rfl, by rfl, by rfl⟩)) (blkOk_by (N := sl_ways_onward) (sc := defScope s_ways_onward) (by decide +kernel)) (fun _ _ _ _ _ => (pg_name (i := 5) sc_ways_onward.nd rfl (Or.inl rfl))) (fun _ _ _ _ _ => pts_nil) (fun _ _ _ _ _ => (pe_callB (show CallR _ _ (Z.rMin2T K) from Z.call_min2T rfl hu) (by rfl) T.n_min (by decide +kernel) (pa_cons (pv 5) (pa_cons (pv 1) pa_nil))))) (by rfl)))))
      (pss_one (ps_ret (pv 2))))), ?_⟩
    show (_ : L2.TS) _ [some _, some _, none, none, none, none] H
    try simp only [Z.kx]
    obtain ⟨ls, hd0, hls⟩ := id hd
    wtm_at "r"
    refine Z.r_dnew (fun p hp => ?_)
    have s1 : Same H (upd H p (.dK [])) := Z.s_upd hp
    have hp1 : (upd H p (.dK [])) p = some (.dK []) := L2.upd_same
    generalize upd H p (.dK []) = H1 at s1 hp1
    wtm_at "r"
    refine Z.tup_go (Z.tr_strs T.t_MODES).1 (fun i σ H2 => ∃ (x y z : Option V) (gs : Nat → Addr), σ = [some (.ref d), some (.ref t), some (.ref p), x, y, z] ∧ Same H H2 ∧ H2 p = some (.dK ((List.range i).map fun m => (mky m, V.ref (gs m)))) ∧ ∀ m, m < i → WaysL H2 (gs m) (onw m (oIn ms f m) (b, n))) ⟨none, none, none, fun _ => p, rfl, s1, hp1, fun m hm => absurd hm (Nat.not_lt_zero m)⟩ ?_ ?_
    · rintro i v σ H2 hi ⟨x, y, z, gs, rfl, s2, h2, g2⟩
      have hil := (List.getElem?_eq_some_iff.mp hi).1
      rw [List.length_map] at hil
      have hi3 : i < 3 := hil
      have gp := gs_pos hi3
      have ev : v = .str (modes.getD i "") := by
        rw [List.getElem?_map, List.getElem?_eq_getElem hil] at hi
        rw [← Option.some.inj hi, List.getD_eq_getElem?_getD, List.getElem?_eq_getElem hil]; rfl
      subst ev
      wtm_at "r"
      refine ⟨by show 1 ≤ sizeLine; decide, fun c hc => ?_⟩
      wtm_at "r"
      refine ⟨i, rfl, hi3, ?_⟩
      have s3 : Same H2 (upd H2 c (.lst [V.ref t])) := Z.s_upd hc
      have hc3 : (upd H2 c (.lst [V.ref t])) c = some (.lst [V.ref t]) := L2.upd_same
      generalize upd H2 c (.lst [V.ref t]) = H3 at s3 hc3
      dsimp only
      refine Z.r_rep hc3 (by omega) (by omega) (fun e he => ?_)
      rw [Int.toNat_natCast]
      have s4 : Same H3 (upd H3 e (.lst (List.replicate (gsN i) (V.ref t)))) := Z.s_upd he
      have he4 : (upd H3 e (.lst (List.replicate (gsN i) (V.ref t)))) e = some (.lst (List.replicate (gsN i) (V.ref t))) := L2.upd_same
      generalize upd H3 e (.lst (List.replicate (gsN i) (V.ref t))) = H4 at s4 he4
      have s24 := s3.trans s4
      have s04 := s2.trans s24
      have ht4 := s04 _ _ ht
      have hd4 := s04 _ _ hd0
      have hw4 := ways_rep (s := (b, n)) he4 ht4
      have h24 := s24 _ _ h2
      obtain ⟨lx, elx, hlx⟩ : ∃ lx, ((valV (ms.map fun m => (mky m, V.ref (ls m))) (mky i)).getD (V.ref e)) = V.ref lx ∧ WaysL H4 lx ((oIn ms f i).getD (List.replicate (gsN i) (b, n))) := by
        rw [valV_ms hi3 ms fun a ha => (hls a ha).1]
        unfold oIn
        by_cases hm : i ∈ ms
        · rw [if_pos hm, if_pos hm]
          exact ⟨_, rfl, (hls i hm).2.same s04⟩
        · rw [if_neg hm, if_neg hm]
          exact ⟨_, rfl, hw4⟩
      have hlen : ((oIn ms f i).getD (List.replicate (gsN i) (b, n))).length = gsN i := by
        unfold oIn
        by_cases hm : i ∈ ms
        · rw [if_pos hm]; exact hf i hm
        · rw [if_neg hm]; exact List.length_replicate
      wtm_at "r"
      refine Z.r_dput ?_
      refine Z.lc_lst ?_
      refine Z.r_dget2 ?_
      wtm_at "r"
      refine ⟨d, rfl, .inl ⟨_, .inl hd4⟩, ?_⟩
      wtm_at "r"
      refine ⟨_, DGet.k (k := mky i) hd4, ?_⟩
      rw [elx]
      have hone : onw i (oIn ms f i) (b, n) = ((oIn ms f i).getD (List.replicate (gsN i) (b, n))).map fun w => min2 w (b, n) := rfl
      generalize (oIn ms f i).getD (List.replicate (gsN i) (b, n)) = ws at hlx hlen hone
      obtain ⟨ps, hl4, lps, gps⟩ := hlx
      have hwi : ∀ j, j < gsN i → ∃ t', ps[j]? = some t' ∧ ws[j]? = some (ws.getD j (0, 0)) ∧ H4 t' = some (.tup [.int (ws.getD j (0, 0)).1, .int ((ws.getD j (0, 0)).2 : Nat)]) := fun j hj => by
        have e : ws[j]? = some (ws.getD j (0, 0)) := by rw [List.getD_eq_getElem?_getD, List.getElem?_eq_getElem (by omega)]; rfl
        obtain ⟨t', a1, a2⟩ := gps j _ e
        exact ⟨t', a1, e, a2⟩
      refine Z.lcl_idx (xs := ps.map V.ref) (fun j => V.ref (if HT.lexLt [b, (n : Int)] [(ws.getD j (0, 0)).1, ((ws.getD j (0, 0)).2 : Int)] = true then t else ps.getD j 0)) (Z.sq_l hl4) (by rw [List.length_map]; omega) (fun _ => rfl) ?_ ?_
      · intro j x H5 hj s5 k kk
        have hjl : j < gsN i := by have := (List.getElem?_eq_some_iff.mp hj).1; rw [List.length_map] at this; omega
        obtain ⟨t', a1, a2, a3⟩ := hwi j hjl
        rw [List.getElem?_map, a1] at hj
        cases hj
        have eg : ps.getD j 0 = t' := by rw [List.getD_eq_getElem?_getD, a1]; rfl
        rw [eg] at kk
        wtm_at "w"
        wtm_at "r"
        refine ⟨t', t, [_, _], [b, n], rfl, Z.sq_t (s5 _ _ a3), Z.sq_t (s5 _ _ ht4), fun z => ?_, fun z => ?_⟩
        · rw [if_pos z] at kk; exact kk _ (Same.refl _)
        · rw [if_neg (by rw [z]; exact Bool.false_ne_true)] at kk; exact kk _ (Same.refl _)
      · intro D H5 hD s5 hl5
        rw [List.length_map, lps, hlen] at hl5
        have hWD : WaysL H5 D (onw i (oIn ms f i) (b, n)) := by
          rw [hone]
          refine ⟨(List.range (gsN i)).map fun j => if HT.lexLt [b, (n : Int)] [(ws.getD j (0, 0)).1, ((ws.getD j (0, 0)).2 : Int)] = true then t else ps.getD j 0, by rw [hl5, List.map_map]; rfl, by rw [List.length_map, List.length_map, List.length_range, hlen], fun j w e => ?_⟩
          rw [List.getElem?_map] at e
          have hjl : j < gsN i := by
            rcases Nat.lt_or_ge j (gsN i) with c | c
            · exact c
            · rw [List.getElem?_eq_none (by omega)] at e; cases e
          obtain ⟨t', a1, a2, a3⟩ := hwi j hjl
          rw [a2] at e
          cases e
          refine ⟨_, by rw [List.getElem?_map, List.getElem?_range hjl]; rfl, ?_⟩
          unfold min2
          dsimp only
          by_cases z : HT.lexLt [b, (n : Int)] [(ws.getD j (0, 0)).1, ((ws.getD j (0, 0)).2 : Int)] = true
          · rw [if_pos z, if_pos z]; exact s5 _ _ ht4
          · rw [if_neg z, if_neg z, List.getD_eq_getElem?_getD, a1]; exact s5 _ _ a3
        have h5 := s5 _ _ h24
        wtm_at "r"
        have hnew : valV ((List.range i).map fun m => (mky m, V.ref (gs m))) (mky i) = none := by
          rw [valV_ms hi3 _ fun a ha => by have := List.mem_range.mp ha; omega, if_neg (fun z => by have := List.mem_range.mp z; omega)]
        refine ⟨p, _, rfl, DPut.k (k := mky i) h5 (Z.szl (by rw [List.length_map, List.length_range]; omega)), ?_⟩
        rw [putK_new _ hnew]
        have npD : D ≠ p := fun z => by rw [z, h24] at hD; cases hD
        refine ⟨_, _, _, fun m => if m = i then D else gs m, rfl, Z.s_mut (s04.trans s5) hp, ?_, fun m hm => ?_⟩
        · rw [L2.upd_same, List.range_succ, List.map_append]
          refine congrArg (fun z => some (HO.dK z)) ?_
          refine congr (congrArg _ (List.map_congr_left fun m hm => ?_)) ?_
          · have := List.mem_range.mp hm
            show (mky m, V.ref (gs m)) = (mky m, V.ref (if m = i then D else gs m))
            rw [if_neg (by omega)]
          · show _ = [(mky i, V.ref (if i = i then D else gs i))]
            rw [if_pos rfl]
        · have up : ∀ l ws', WaysL H5 l ws' → WaysL (upd H5 p (.dK ((List.range i).map (fun m => (mky m, V.ref (gs m))) ++ [(mky i, V.ref D)]))) l ws' := fun l ws' ⟨qs, b1, b2, b3⟩ => by
            refine ⟨qs, (L2.upd_ne (fun z => by rw [z, h5] at b1; cases b1)).trans b1, b2, fun j w e => ?_⟩
            obtain ⟨t', c1, c2⟩ := b3 j w e
            exact ⟨t', c1, (L2.upd_ne (fun z => by rw [z, h5] at c2; cases c2)).trans c2⟩
          by_cases e : m = i
          · subst e
            dsimp only
            rw [if_pos rfl]; exact up _ _ hWD
          · dsimp only
            rw [if_neg e]; exact up _ _ ((g2 m (by omega)).same (s24.trans s5))
    · rintro σ H2 ⟨x, y, z, gs, rfl, s2, h2, g2⟩
      wtm_at "r"
      refine q p H2 s2 hp ⟨gs, h2, fun m hm => ?_⟩
      have : m < 3 := by simp at hm; omega
      exact ⟨this, g2 m this⟩
end
/-- the beginning by the mode m -/
def bgn (v : Nat) (f : Nat → List (Int × Nat)) (m : Nat) : Int × Nat × Nat := (((4 + cbN m v : Nat) : Int) + ((f m).getD 0 (0, 0)).1, ((f m).getD 0 (0, 0)).2, m)
def tri (b : Int × Nat × Nat) : List Int := [b.1, (b.2.1 : Int), (b.2.2 : Int)]
theorem tri_le {a b : Int × Nat × Nat} (h : HT.lexLt (tri a) (tri b) = false) : Sg.le3 b a := by
  obtain ⟨a1, a2, a3⟩ := a
  obtain ⟨b1, b2, b3⟩ := b
  unfold tri at h
  rw [HT.lexLt_cons] at h
  unfold Sg.le3
  simp only at *
  by_cases e1 : a1 = b1
  · rw [if_pos e1, HT.lexLt_cons] at h
    by_cases e2 : (a2 : Int) = (b2 : Int)
    · rw [if_pos e2, HT.lexLt_cons] at h
      by_cases e3 : (a3 : Int) = (b3 : Int)
      · omega
      · rw [if_neg e3] at h
        have := of_decide_eq_false h
        omega
    · rw [if_neg e2] at h
      have := of_decide_eq_false h
      omega
  · rw [if_neg e1] at h
    have := of_decide_eq_false h
    omega
theorem modes_first : ∀ i, i < 3 → modes[i]? = some (modes.getD i "") ∧ ∀ m, m < i → modes[m]? ≠ some (modes.getD i "") := by decide +kernel
section
variable {P : Program} {w : World} {K : PySem.W.Frag} {mg : Str → Option Value} {base : Heap}
def sp_best_beginning (K : PySem.W.Frag) : Sp := fun vs H Q _ => ∃ (d : Addr) (ms : List Nat) (f : Nat → List (Int × Nat)) (v : Nat), vs = [.ref d, .int v] ∧ WaysD H d ms f ∧ (∀ m ∈ ms, (f m).length = gsN m) ∧ 0 < ms.length ∧ ms.length ≤ 3 ∧ 1 ≤ v ∧ v ≤ 40 ∧ ∀ (t : Addr) (H1 : Hp) (b : Int × Nat × Nat), Same H H1 → H1 t = some (.tup ((tri b).map V.int)) → (∃ m ∈ ms, b = bgn v f m) → (∀ m ∈ ms, Sg.le3 b (bgn v f m)) → Q (.ref t) H1
set_option maxHeartbeats 2000000 in
theorem ok_best_beginning (T : Top K mg w) : FnOk P w K mg base CX0 3 T.a_best_beginning T.d_best_beginning pl_best_beginning (sp_best_beginning K) := by
  refine T.F_best_beginning.ok sc_best_beginning (fun vs H Q E h => ?_) (fun cdv A outer s H vs Q E hr h => ?_)
  · obtain ⟨d, ms, f, v, rfl, _⟩ := h
    rfl
  · obtain ⟨d, ms, f, v, rfl, hd, hf, h0, h3, h1, h40, q⟩ := h
    have hu := hu_of hr
    refine ⟨_, (pss_cons (ps_set (i := 2) sc_best_beginning.nd rfl (Or.inl rfl) (pe_lst pa_nil))
      (pss_cons (ps_lock (ps_for PassesOwn.never rfl (pi_keys (pv 0)) (pg_name (i := 3) sc_best_beginning.nd rfl (Or.inl rfl)) (pss_cons (ps_asg (pe_ix (show IxR _ (rIxL K) from ix_list) (pe_dget hu (pv 0) (pv 3) (fun _ _ => rfl)) pe_int (fun _ _ => rfl)) (pg_tup rfl (pgs_cons (pg_name (i := 4) sc_best_beginning.nd rfl (Or.inl rfl)) (pgs_cons (pg_name (i := 5) sc_best_beginning.nd rfl (Or.inl rfl)) pgs_nil))))
      (pss_one (ps_expr (pe_bm PySem.F.plainAttrs_list PySem.F.slot_list_append PySem.F.type_list_append mt_append (pv 2) (pa_cons (pe_tup (pa_cons (pe_op op_add (pe_call (ok_head_bits T) (hr.mono (by decide)) (by rfl) T.g_head_bits T.F_head_bits.kp T.b_head_bits .nil pass0 (pa_cons (pv 3) (pa_cons (pv 1) pa_nil))) (pv 4)) (pa_cons (pv 5) (pa_cons (pe_bm PySem.F.plainAttrs_tuple PySem.F.slot_tuple_index PySem.F.type_tuple_index mt_tup_index (pe_glob (v := .ref T.a_MODES) (u := .ref T.a_MODES) rfl T.m_MODES rfl) (pa_cons (pv 3) pa_nil)) pa_nil)))) pa_nil)))))))
      (pss_one (ps_ret (pe_callB (show CallR _ _ (Z.rMinT K) from Z.call_minT rfl hu) (by rfl) T.n_min (by decide +kernel) (pa_cons (pv 2) pa_nil)))))), ?_⟩
    show (_ : L2.TS) _ [some _, some _, none, none, none, none] H
    try simp only [Z.kx]
    obtain ⟨ls, hd0, hls⟩ := id hd
    wtm_at "r"
    refine ⟨by show 0 ≤ sizeLine; decide, fun p hp => ?_⟩
    have s1 : Same H (upd H p (.lst [])) := Z.s_upd hp
    have hp1 : (upd H p (.lst [])) p = some (.lst []) := L2.upd_same
    have hd1 : (upd H p (.lst [])) d = _ := s1 _ _ hd0
    have npd : p ≠ d := fun z => by rw [z, hd0] at hp; cases hp
    generalize upd H p (.lst []) = H1 at s1 hp1 hd1
    wtm_at "r"
    refine Z.lock_go hd1 (fun H k h => by wtm_at "1"; exact h) (fun od i σ H2 => ∃ (x y z : Option V) (qs : List Addr), σ = [some (.ref d), some (.int v), some (.ref p), x, y, z] ∧ (∀ x o, H x = some o → x ≠ d → H2 x = some o) ∧ H2 d = some (.frz od (.dK (ms.map fun m => (mky m, V.ref (ls m))))) ∧ H2 p = some (.lst (qs.map V.ref)) ∧ qs.length = i ∧ ∀ k m, ms[k]? = some m → k < i → ∃ t, qs[k]? = some t ∧ H2 t = some (.tup ((tri (bgn v f m)).map V.int))) (fun od => ?_) ?_ ?_ ?_
    · refine ⟨none, none, none, [], rfl, fun x o e n => (L2.upd_ne n).trans (s1 _ _ e), L2.upd_same, (L2.upd_ne npd).trans hp1, rfl, fun k m _ h => absurd h (Nat.not_lt_zero k)⟩
    · rintro od i σ H2 ⟨x, y, z, qs, _, _, h, _⟩; exact h
    · rintro D' od i k u σ H2 hi ⟨x, y, z, qs, rfl, k2, hd2, hp2, lq, gq⟩
      rw [List.getElem?_map] at hi
      obtain ⟨m, hm, e⟩ : ∃ m, ms[i]? = some m ∧ (mky m, V.ref (ls m)) = (k, u) := by
        cases h : ms[i]? with
        | none => rw [h] at hi; cases hi
        | some m => rw [h] at hi; exact ⟨m, rfl, Option.some.inj hi⟩
      cases e
      have hmm := List.mem_of_getElem? hm
      have him := (List.getElem?_eq_some_iff.mp hm).1
      obtain ⟨hm3, ps, ha, lps, gps⟩ := hls m hmm
      have gp := gs_pos hm3
      have hfl := hf m hmm
      obtain ⟨t, e1, e2⟩ := gps 0 ((f m).getD 0 (0, 0)) (by rw [List.getD_eq_getElem?_getD, List.getElem?_eq_getElem (by omega)]; rfl)
      have nd : ∀ {x o}, H x = some o → (∀ kvs, o ≠ .dK kvs) → x ≠ d := fun e n z => by rw [z, hd0] at e; cases e; exact n _ rfl
      have ha2 := k2 _ _ ha (nd ha (fun _ z => by cases z))
      have ht2 := k2 _ _ e2 (nd e2 (fun _ z => by cases z))
      rw [show kV (mky m) = V.str (modes.getD m "") from rfl]
      wtm_at "r"
      refine Z.r_dget ?_
      wtm_at "r"
      refine ⟨d, V.ref (ls m), rfl, .inl ⟨_, mky m, .inr ⟨od, hd2⟩, rfl, ?_⟩, ?_⟩
      · rw [valV_ms hm3 ms fun a ha => (hls a ha).1, if_pos hmm]
      wtm_at "r"
      refine Z.r_ixL (Z.sq_l ha2) (Z.at_ref (j := 0) rfl e1) ?_
      refine Z.r_pairT (Z.sq_t ht2) (by wtm_at "set") ?_
      wtm_at "r"
      refine ⟨m, v, rfl, hm3, h1, h40, ?_⟩
      wtm_at "r"
      refine ⟨(Z.tr_strs T.t_MODES).2 _, ?_⟩
      wtm_at "r"
      refine ⟨T.a_MODES, modes, modes.getD m "", m, rfl, rfl, (Z.tr_strs T.t_MODES).1 _, (modes_first m hm3).1, (modes_first m hm3).2, ?_⟩
      wtm_at "r"
      refine ⟨by show 3 ≤ sizeLine; decide, fun t' ht' => ?_⟩
      have s3 : Same H2 (upd H2 t' (.tup ((tri (bgn v f m)).map V.int))) := Z.s_upd ht'
      have ht3 : (upd H2 t' (.tup ((tri (bgn v f m)).map V.int))) t' = some (.tup ((tri (bgn v f m)).map V.int)) := L2.upd_same
      refine Z.r_nil ?_
      refine Z.r_append (s3 _ _ hp2) (Z.szl (by rw [List.length_map]; omega)) ?_
      have npt : t' ≠ p := fun z => by rw [z, hp2] at ht'; cases ht'
      have ndt : t' ≠ d := fun z => by rw [z, hd2] at ht'; cases ht'
      refine ⟨_, _, _, qs ++ [t'], rfl, fun x o e n => (L2.upd_ne (fun z => by rw [z, hp] at e; cases e)).trans (s3 _ _ (k2 x o e n)), (L2.upd_ne (Ne.symm npd)).trans (s3 _ _ hd2), by rw [L2.upd_same, List.map_append]; rfl, by rw [List.length_append, lq]; rfl, fun k m' hk hki => ?_⟩
      by_cases e : k = i
      · subst e
        rw [hm] at hk
        cases hk
        exact ⟨t', by rw [List.getElem?_append_right (by omega), lq, Nat.sub_self]; rfl, (L2.upd_ne npt).trans ht3⟩
      · obtain ⟨t'', f1, f2⟩ := gq k m' hk (by omega)
        exact ⟨t'', by rw [List.getElem?_append_left (by omega)]; exact f1, (L2.upd_ne (fun z => by rw [z, hp2] at f2; cases f2)).trans (s3 _ _ f2)⟩
    · rintro od σ H2 ⟨x, y, z, qs, rfl, k2, hd2, hp2, lq, gq⟩
      rw [List.length_map] at lq
      have s3 : Same H (upd H2 d (.dK (ms.map fun m => (mky m, V.ref (ls m))))) := fun x o e => by
        by_cases h : x = d
        · subst h; rw [hd0] at e; cases e; exact L2.upd_same
        · exact (L2.upd_ne h).trans (k2 x o e h)
      have up : ∀ {x o}, H2 x = some o → x ≠ d → (upd H2 d (.dK (ms.map fun m => (mky m, V.ref (ls m))))) x = some o := fun e n => (L2.upd_ne n).trans e
      have hp3 := up hp2 npd
      wtm_at "r"
      refine ⟨p, qs, fun i => tri (bgn v f (ms.getD i 0)), rfl, Z.sq_l hp3, by omega, fun i t e => ?_, fun i t e hle => ?_⟩
      · have hil := (List.getElem?_eq_some_iff.mp e).1
        obtain ⟨t', f1, f2⟩ := gq i ms[i] (List.getElem?_eq_getElem (by omega)) (by rw [List.length_map]; omega)
        rw [e] at f1; cases f1
        dsimp only
        rw [List.getD_eq_getElem?_getD, List.getElem?_eq_getElem (show i < ms.length by omega)]
        exact Z.sq_t (up f2 (fun z => by rw [z, hd2] at f2; cases f2))
      · have hil := (List.getElem?_eq_some_iff.mp e).1
        obtain ⟨t', f1, f2⟩ := gq i ms[i] (List.getElem?_eq_getElem (by omega)) (by rw [List.length_map]; omega)
        rw [e] at f1; cases f1
        refine q t _ (bgn v f ms[i]) s3 (up f2 (fun z => by rw [z, hd2] at f2; cases f2)) ⟨ms[i], List.getElem_mem _, rfl⟩ fun m hm => ?_
        obtain ⟨j, hj, ej⟩ := List.getElem_of_mem hm
        have := tri_le (hle j (by omega))
        have e1 : ms.getD i 0 = ms[i] := by rw [List.getD_eq_getElem?_getD, List.getElem?_eq_getElem (show i < ms.length by omega)]; rfl
        have e2 : ms.getD j 0 = m := by rw [List.getD_eq_getElem?_getD, List.getElem?_eq_getElem hj]; exact ej
        rw [e1, e2] at this
        exact this
end
/-! ## one step backwards -/
def tx (v : Nat) (text : List Nat) : Sg.Tx where
  W := wI
  g := fun m => if m < 3 then gsN m else 1
  hd := fun m => ((4 + cbN m v : Nat) : Int)
  al := fun m d => alw m (text.getD (text.length - d) 0) = true
  gp := fun m => by
    by_cases h : m < 3
    · rw [if_pos h]; exact (gs_pos h).1
    · rw [if_neg h]; decide
  w0 := fun m => by
    unfold wI wdN
    match m with
    | 0 => rfl
    | 1 => rfl
    | 2 => rfl
    | _ + 3 => rfl
theorem tx_g (v : Nat) (text : List Nat) {m : Nat} (h : m < 3) : (tx v text).g m = gsN m := if_pos h
def WOk (v : Nat) (text : List Nat) (L : Nat → Int) (i : Nat) (g : Nat → List (Int × Nat)) : Prop := ∀ m, m < 3 → (g m).length = gsN m ∧ ∀ r, r < gsN m → Sg.Best2 (Sg.Way (tx v text) L m i r) ((g m).getD r (0, 0))
theorem way_congr {X : Sg.Tx} {L L' : Nat → Int} {m d r : Nat} (h : ∀ i, i ≤ d → L i = L' i) (w : Sg.Wy) : Sg.Way X L m d r w ↔ Sg.Way X L' m d r w := by
  constructor
  · rintro ⟨j, hr, rfl⟩
    exact ⟨j, hr, by rw [h _ (Nat.sub_le _ _)]⟩
  · rintro ⟨j, hr, rfl⟩
    exact ⟨j, hr, by rw [h _ (Nat.sub_le _ _)]⟩
theorem WOk.congr {v : Nat} {text : List Nat} {L L' : Nat → Int} {i : Nat} {g : Nat → List (Int × Nat)} (h : WOk v text L i g) (e : ∀ k, k ≤ i → L k = L' k) : WOk v text L' i g := fun m hm => by
  obtain ⟨a, b⟩ := h m hm
  refine ⟨a, fun r hr => ?_⟩
  obtain ⟨c, d⟩ := b r hr
  exact ⟨(way_congr e _).mp c, fun w hw => d w ((way_congr e w).mpr hw)⟩
theorem getD_map {α β : Type} {f : α → β} {l : List α} {r : Nat} {a : α} {b : β} (h : r < l.length) : (l.map f).getD r b = f (l.getD r a) := by
  rw [List.getD_eq_getElem?_getD, List.getElem?_map, List.getD_eq_getElem?_getD, List.getElem?_eq_getElem h]; rfl
theorem getD_rep {α : Type} {k r : Nat} {a b : α} (h : r < k) : (List.replicate k a).getD r b = a := by
  rw [List.getD_eq_getElem?_getD, List.getElem?_replicate, if_pos h]; rfl
theorem onw_none (m : Nat) (stop : Int × Nat) : onw m none stop = List.replicate (gsN m) stop := by
  unfold onw
  rw [Option.getD_none, List.map_replicate, min2_self]
theorem wok_zero {v : Nat} {text : List Nat} {L : Nat → Int} (h0 : L 0 = 0) : WOk v text L 0 (fun m => onw m none (0, 0)) := fun m hm => by
  dsimp only
  rw [onw_none]
  refine ⟨List.length_replicate, fun r hr => ?_⟩
  rw [getD_rep hr]
  have := Sg.way_end (tx v text) L m r
  rwa [h0] at this
theorem lng_len (m : Nat) (ws : List (Int × Nat)) : (lngW m ws).length = ws.length := by unfold lngW; rw [List.length_map, List.length_range]
theorem wok_go {v : Nat} {text : List Nat} {L : Nat → Int} {i : Nat} {g : Nat → List (Int × Nat)} (h : WOk v text L i g) {m : Nat} (hm : m < 3) (ha : (tx v text).al m (i + 1)) : ∀ r, r < gsN m → Sg.Best2 (Sg.Go (tx v text) L m (i + 1) r) ((lngW m (g m)).getD r (0, 0)) := fun r hr => by
  obtain ⟨a, b⟩ := h m hm
  have gp := gs_pos hm
  have e : (lngW m (g m)).getD r (0, 0) = (wI m (r + 1) - wI m r + ((g m).getD ((r + 1) % gsN m) (0, 0)).1, ((g m).getD ((r + 1) % gsN m) (0, 0)).2) := by
    unfold lngW
    rw [getD_map (a := 0) (by rw [List.length_range, a]; exact hr), List.getD_eq_getElem?_getD, List.getElem?_range (by rw [a]; exact hr), a]; rfl
  rw [e]
  have := b ((r + 1) % gsN m) (Nat.mod_lt _ (by omega))
  exact Sg.go_byte (tx v text) ha (by rw [tx_g v text hm]; exact this)
theorem min2_cases (w stop : Int × Nat) : (min2 w stop = w ∨ min2 w stop = stop) ∧ Sg.le2 (min2 w stop) w ∧ Sg.le2 (min2 w stop) stop := by
  obtain ⟨w1, w2⟩ := w
  obtain ⟨s1, s2⟩ := stop
  have key : HT.lexLt [s1, (s2 : Int)] [w1, (w2 : Int)] = true ↔ s1 < w1 ∨ (s1 = w1 ∧ s2 < w2) := by
    rw [HT.lexLt_cons]
    by_cases e : s1 = w1
    · rw [if_pos e, HT.lexLt_cons]
      by_cases e2 : (s2 : Int) = (w2 : Int)
      · rw [if_pos e2, HT.lexLt_nil_nil]
        exact ⟨(fun z => by cases z), (fun z => by omega)⟩
      · rw [if_neg e2, decide_eq_true_iff]; omega
    · rw [if_neg e, decide_eq_true_iff]; omega
  unfold min2 Sg.le2
  dsimp only
  by_cases h : HT.lexLt [s1, (s2 : Int)] [w1, (w2 : Int)] = true
  · rw [if_pos h]
    have := key.mp h
    exact ⟨.inr rfl, by dsimp only; omega, by dsimp only; omega⟩
  · rw [if_neg h]
    have : ¬ (s1 < w1 ∨ (s1 = w1 ∧ s2 < w2)) := fun z => h (key.mpr z)
    exact ⟨.inl rfl, by dsimp only; omega, by dsimp only; omega⟩
theorem wok_next {v : Nat} {text : List Nat} {L : Nat → Int} {i : Nat} {g : Nat → List (Int × Nat)} (h : WOk v text L i g) {ms : List Nat} (hms : ∀ m, m < 3 → (m ∈ ms ↔ (tx v text).al m (i + 1))) :
    WOk v text L (i + 1) (fun m => onw m (oIn ms (fun m => lngW m (g m)) m) (L (i + 1), i + 1)) := fun m hm => by
  obtain ⟨a, b⟩ := h m hm
  by_cases hi : m ∈ ms
  · have e : oIn ms (fun m => lngW m (g m)) m = some (lngW m (g m)) := if_pos hi
    dsimp only
    rw [e]
    have e2 : onw m (some (lngW m (g m))) (L (i + 1), i + 1) = (lngW m (g m)).map fun w => min2 w (L (i + 1), i + 1) := rfl
    rw [e2]
    refine ⟨by rw [List.length_map, lng_len, a], fun r hr => ?_⟩
    rw [getD_map (a := (0, 0)) (by rw [lng_len, a]; exact hr)]
    obtain ⟨c1, c2, c3⟩ := min2_cases ((lngW m (g m)).getD r (0, 0)) (L (i + 1), i + 1)
    exact Sg.way_min (tx v text) (wok_go h hm ((hms m hm).mp hi) r hr) _ c1 c2 c3
  · have e : oIn ms (fun m => lngW m (g m)) m = none := if_neg hi
    dsimp only
    rw [e, onw_none]
    refine ⟨List.length_replicate, fun r hr => ?_⟩
    rw [getD_rep hr]
    exact Sg.way_stop (tx v text) (fun z => hi ((hms m hm).mpr z)) (Nat.succ_pos i)
theorem wok_start {v : Nat} {text : List Nat} {L : Nat → Int} {i : Nat} {g : Nat → List (Int × Nat)} (h : WOk v text L i g) {ms : List Nat} (h3 : ∀ m ∈ ms, m < 3) (hms : ∀ m, m < 3 → (m ∈ ms ↔ (tx v text).al m (i + 1))) {b : Sg.Ch}
    (h1 : ∃ m ∈ ms, b = bgn v (fun m => lngW m (g m)) m) (h2 : ∀ m ∈ ms, Sg.le3 b (bgn v (fun m => lngW m (g m)) m)) : Sg.Best3 (Sg.Start (tx v text) L (i + 1)) b := by
  refine Sg.start_best (tx v text) (b := fun m => (lngW m (g m)).getD 0 (0, 0)) (fun m hm ha => wok_go h hm ha 0 (gs_pos hm).1) ?_ fun m hm ha => h2 m ((hms m hm).mpr ha)
  obtain ⟨m, hm, e⟩ := h1
  exact ⟨m, h3 m hm, (hms m (h3 m hm)).mp hm, e⟩
/-- the table grows -/
def grow (f : Nat → Sg.Ch) (i : Nat) (b : Sg.Ch) : Nat → Sg.Ch := fun k => if k = i + 1 then b else f k
theorem grow_old {f : Nat → Sg.Ch} {i : Nat} {b : Sg.Ch} {k : Nat} (h : k ≤ i) : grow f i b k = f k := if_neg (by omega)
theorem grow_new {f : Nat → Sg.Ch} {i : Nat} {b : Sg.Ch} : grow f i b (i + 1) = b := if_pos rfl
theorem tab_grow {X : Sg.Tx} {f : Nat → Sg.Ch} {i : Nat} {b : Sg.Ch} (h : Sg.Tab X f i) (hb : Sg.Best3 (Sg.Start X (fun k => (f k).1) (i + 1)) b) : Sg.Tab X (grow f i b) (i + 1) := by
  have tr : ∀ d, d ≤ i + 1 → ∀ w, Sg.Start X (fun k => (f k).1) d w ↔ Sg.Start X (fun k => (grow f i b k).1) d w := fun d hd w => Sg.start_congr X (fun k hk => by rw [grow_old (by omega)]) w
  refine ⟨by rw [grow_old (Nat.zero_le _)]; exact h.1, fun d h1 h2 => ?_⟩
  by_cases e : d = i + 1
  · subst e
    rw [grow_new]
    exact ⟨(tr _ (Nat.le_refl _) _).mp hb.1, fun w hw => hb.2 w ((tr _ (Nat.le_refl _) w).mpr hw)⟩
  · rw [grow_old (by omega)]
    obtain ⟨c1, c2⟩ := h.2 d h1 (by omega)
    exact ⟨(tr _ (by omega) _).mp c1, fun w hw => c2 w ((tr _ (by omega) w).mpr hw)⟩
def ChoA (H : Hp) (ps : List Addr) (n i : Nat) (f : Nat → Sg.Ch) : Prop := ps.length = i ∧ ∀ k, k < i → ∃ t, ps[k]? = some t ∧ H t = some (.tup [.str (modes.getD (f (k + 1)).2.2 ""), .int ((n : Int) - ((f (k + 1)).2.1 : Nat))])
def f0 : Nat → Sg.Ch := fun _ => (0, 0, 0)
theorem tab0 (X : Sg.Tx) : Sg.Tab X f0 0 := ⟨rfl, fun d h1 h2 => absurd h1 (by omega)⟩
section
variable {P : Program} {w : World} {K : PySem.W.Frag} {mg : Str → Option Value} {base : Heap}
def sp_best_choices (K : PySem.W.Frag) : Sp := fun vs H Q _ => ∃ (a : Addr) (cs : List Nat) (v : Nat), vs = [.ref a, .int v] ∧ H a = some (.lst (nv cs)) ∧ cs.length ≤ 30 ∧ 1 ≤ v ∧ v ≤ 40 ∧ ∀ (p : Addr) (H1 : Hp) (f : Nat → Sg.Ch) (ps : List Addr), Same H H1 → Sg.Tab (tx v cs) f cs.length → H1 p = some (.lst (ps.map V.ref).reverse) → ChoA H1 ps cs.length cs.length f → Q (.ref p) H1
set_option maxHeartbeats 2000000 in
theorem ok_best_choices (T : Top K mg w) : FnOk P w K mg base CX0 4 T.a_best_choices T.d_best_choices pl_best_choices (sp_best_choices K) := by
  refine T.F_best_choices.ok sc_best_choices (fun vs H Q E h => ?_) (fun cdv A outer s H vs Q E hr h => ?_)
  · obtain ⟨a, cs, v, rfl, _⟩ := h
    rfl
  · obtain ⟨a, cs, v, rfl, ha, hl, h1, h40, q⟩ := h
    have hu := hu_of hr
    refine ⟨_, (pss_cons (ps_set (i := 2) sc_best_choices.nd rfl (Or.inl rfl) (pe_lst pa_nil))
      (pss_cons (ps_set (i := 3) sc_best_choices.nd rfl (Or.inr rfl) (pe_call (ok_ways_onward T) (hr.mono (by decide)) (by rfl) T.g_ways_onward T.F_ways_onward.kp T.b_ways_onward .nil pass0 (pa_cons pe_dnewK (pa_cons (pe_tup (pa_cons pe_int (pa_cons pe_int pa_nil))) pa_nil))))
      (pss_cons (ps_for PassesOwn.never rfl (pi_range3 rfl T.n_range (pa_cons (pe_op op_sub (pe_callB (show CallR _ _ (Z.cLen K) from Z.call_len) (by rfl) T.n_len (by decide +kernel) (pa_cons (pv 0) pa_nil)) pe_int) (pa_cons (pe_un un_neg pe_int) (pa_cons (pe_un un_neg pe_int) pa_nil)))) (pg_name (i := 4) sc_best_choices.nd rfl (Or.inr rfl)) (pss_cons (ps_setLc (i := 5) (own := [("mode", 10)]) rfl sc_best_choices.nd rfl rfl (sw_true rfl rfl rfl (by decide +kernel)) (pi_tup (pe_glob (v := .ref T.a_MODES) (u := .ref T.a_MODES) rfl T.m_MODES rfl)) (blkOk_by (N := sl_best_choices) (sc := defScope s_best_choices) (by decide +kernel)) (fun _ _ _ _ _ => (pg_name (i := 10) sc_best_choices.nd rfl (Or.inl rfl))) (fun _ _ _ _ _ => (pts_one (pt_val (pe_call (ok_fits T) (hr.mono (by decide)) (by rfl) T.g_fits T.F_fits.kp T.b_fits .nil pass0 (pa_cons (pv 10) (pa_cons (pe_slice (show SlR _ (rSlL K) from sl_list) (pv 0) (po_some (pv 4)) (po_some (pe_op op_add (pv 4) pe_int))) pa_nil)))))) (fun _ _ _ _ _ => (pv 10)))
      (pss_cons (Z.ps_setDc (i := 6) (own := [("mode", 10)]) (tt := tYes) rfl sc_best_choices.nd rfl rfl (Z.sw_trueD rfl rfl rfl (by decide +kernel)) (pi_list (pv 5)) (blkOk_by (N := sl_best_choices) (sc := defScope s_best_choices) (by decide +kernel)) (fun _ _ _ _ _ => (pg_name (i := 10) sc_best_choices.nd rfl (Or.inl rfl))) (fun _ _ _ _ _ => pts_nil) (fun _ _ _ _ _ => (pv 10)) (fun _ _ _ _ _ => (pe_call (ok_ways_with_byte T) (hr.mono (by decide)) (by rfl) T.g_ways_with_byte T.F_ways_with_byte.kp T.b_ways_with_byte .nil pass0 (pa_cons (pv 10) (pa_cons (pe_dget hu (pv 3) (pv 10) (fun _ _ => rfl)) pa_nil)))))
      (pss_cons (ps_asg (pe_call (ok_best_beginning T) (hr.mono (by decide)) (by rfl) T.g_best_beginning T.F_best_beginning.kp T.b_best_beginning .nil pass0 (pa_cons (pv 6) (pa_cons (pv 1) pa_nil))) (pg_tup rfl (pgs_cons (pg_name (i := 7) sc_best_choices.nd rfl (Or.inl rfl)) (pgs_cons (pg_name (i := 8) sc_best_choices.nd rfl (Or.inl rfl)) (pgs_cons (pg_name (i := 9) sc_best_choices.nd rfl (Or.inl rfl)) pgs_nil)))))
      (pss_cons (ps_expr (pe_bm PySem.F.plainAttrs_list PySem.F.slot_list_append PySem.F.type_list_append mt_append (pv 2) (pa_cons (pe_tup (pa_cons (pe_ix (show IxR _ (rIxT K) from ix_tup) (pe_glob (v := .ref T.a_MODES) (u := .ref T.a_MODES) rfl T.m_MODES rfl) (pv 9) (fun _ _ => rfl)) (pa_cons (pe_op op_sub (pe_callB (show CallR _ _ (Z.cLen K) from Z.call_len) (by rfl) T.n_len (by decide +kernel) (pa_cons (pv 0) pa_nil)) (pv 8)) pa_nil))) pa_nil)))
      (pss_one (ps_set (i := 3) sc_best_choices.nd rfl (Or.inr rfl) (pe_call (ok_ways_onward T) (hr.mono (by decide)) (by rfl) T.g_ways_onward T.F_ways_onward.kp T.b_ways_onward .nil pass0 (pa_cons (pv 6) (pa_cons (pe_tup (pa_cons (pv 7) (pa_cons (pe_op op_sub (pe_callB (show CallR _ _ (Z.cLen K) from Z.call_len) (by rfl) T.n_len (by decide +kernel) (pa_cons (pv 0) pa_nil)) (pv 4)) pa_nil))) pa_nil))))))))))
      (pss_one (ps_ret (pe_revL (pv 2))))))), ?_⟩
    show (_ : L2.TS) _ [some _, some _, none, none, none, none, none, none, none, none, none] H
    try simp only [Z.kx]
    wtm_at "r"
    refine ⟨by show 0 ≤ sizeLine; decide, fun p hp => ?_⟩
    have s1 : Same H (upd H p (.lst [])) := Z.s_upd hp
    have hp1 : (upd H p (.lst [])) p = some (.lst []) := L2.upd_same
    generalize upd H p (.lst []) = H1 at s1 hp1
    wtm_at "r"
    refine Z.r_dnew (fun d hd => ?_)
    have s2 : Same H1 (upd H1 d (.dK [])) := Z.s_upd hd
    have hd2 : (upd H1 d (.dK [])) d = some (.dK []) := L2.upd_same
    generalize upd H1 d (.dK []) = H2 at s2 hd2
    wtm_at "r"
    refine ⟨by show 2 ≤ sizeLine; decide, fun t ht => ?_⟩
    have s3 : Same H2 (upd H2 t (.tup [.int 0, .int 0])) := Z.s_upd ht
    have ht3 : (upd H2 t (.tup [.int 0, .int 0])) t = some (.tup [.int 0, .int ((0 : Nat) : Int)]) := L2.upd_same
    generalize upd H2 t (.tup [.int 0, .int 0]) = H3 at s3 ht3
    wtm_at "r"
    refine ⟨d, t, [], fun _ => [], 0, 0, rfl, ⟨fun _ => d, s3 _ _ hd2, (fun m hm => nomatch hm)⟩, (fun m hm => nomatch hm), ht3, fun w H4 s4 hw hw4 => ?_⟩
    have s04 := s1.trans (s2.trans (s3.trans s4))
    have hp4 := s4 _ _ (s3 _ _ (s2 _ _ hp1))
    have g4 : WOk v cs (fun k => (f0 k).1) 0 (fun m => onw m (oIn [] (fun _ => []) m) (0, 0)) := wok_zero rfl
    generalize (fun m => onw m (oIn [] (fun _ => []) m) ((0 : Int), 0)) = g at hw4 g4
    clear s1 hp1 s2 hd2 s3 ht3 s4 hd ht
    wtm_at "r"
    rw [nv_len]
    refine Z.rng_go3 cs.length (by have := RgC.neg (i := (cs.length : Int) - 1) (j := -1) (by omega) (by omega) (by omega) (by omega); rw [show ((cs.length : Int) - 1 - -1).toNat = cs.length by omega] at this; exact this) (fun i σ H5 => ∃ (w : Addr) (g : Nat → List (Int × Nat)) (f : Nat → Sg.Ch) (ps : List Addr) (x5 x6 x7 x8 x9 x10 x11 : Option V), σ = [some (.ref a), some (.int v), some (.ref p), some (.ref w), x5, x6, x7, x8, x9, x10, x11] ∧ Same H H5 ∧ H5 p = some (.lst (ps.map V.ref)) ∧ ChoA H5 ps cs.length i f ∧ Sg.Tab (tx v cs) f i ∧ WaysD H5 w [0, 1, 2] g ∧ WOk v cs (fun k => (f k).1) i g) ?_ ?_ ?_
    · refine ⟨w, g, f0, [], none, none, none, none, none, none, none, ?_, s04, hp4, ⟨rfl, fun k hk => absurd hk (Nat.not_lt_zero k)⟩, tab0 _, hw4, g4⟩
      rfl
    · rintro i σ H5 hi ⟨w, g, f, ps, x5, x6, x7, x8, x9, x10, x11, rfl, s5, hp5, hc5, ht5, hw5, g5⟩
      have es : (cs.length : Int) - 1 + (i : Nat) * (-1 : Int) = ((cs.length - (i + 1) : Nat) : Int) := by omega
      wtm_at "r"
      rw [es]
      obtain ⟨c, hc⟩ : ∃ c, cs[cs.length - (i + 1)]? = some c := ⟨_, List.getElem?_eq_getElem (by omega)⟩
      have hal : ∀ m, (tx v cs).al m (i + 1) ↔ alw m c = true := fun m => by
        show alw m (cs.getD (cs.length - (i + 1)) 0) = true ↔ _
        rw [List.getD_eq_getElem?_getD, hc]; rfl
      refine Z.lc_tupT ?_
      wtm_at "r"
      refine Z.tlc_filt (xs := modes.map V.str) (fun j => alw j c) (fun j => V.str (modes.getD j "")) (Z.tr_strs T.t_MODES).1 (by decide) (fun _ => rfl) ?_ ?_ ?_
      · intro j x H6 hj s6 k kk
        have hjl := (List.getElem?_eq_some_iff.mp hj).1
        rw [List.length_map] at hjl
        have hj3 : j < 3 := hjl
        have ev : x = .str (modes.getD j "") := by
          rw [List.getElem?_map, List.getElem?_eq_getElem hjl] at hj
          rw [← Option.some.inj hj, List.getD_eq_getElem?_getD, List.getElem?_eq_getElem hjl]; rfl
        subst ev
        wtm_at "w"
        wtm_at "r"
        refine Z.r_slL (Z.sq_l (s6 _ _ (s5 _ _ ha))) (fun q' hq' => ?_)
        have ec : cutV (nv cs) (some ((cs.length - (i + 1) : Nat) : Int)) (some (((cs.length - (i + 1) : Nat) : Int) + 1)) = nv [c] := by
          rw [show ((cs.length - (i + 1) : Nat) : Int) + 1 = ((cs.length - (i + 1) + 1 : Nat) : Int) by omega, nv_cut _ (by omega), show cs.length - (i + 1) + 1 - (cs.length - (i + 1)) = 1 by omega]
          have hlt := (List.getElem?_eq_some_iff.mp hc).1
          rw [List.drop_eq_getElem_cons hlt, (List.getElem?_eq_some_iff.mp hc).2]; rfl
        rw [ec]
        have s7 : Same H6 (upd H6 q' (.lst (nv [c]))) := Z.s_upd hq'
        have h7 : (upd H6 q' (.lst (nv [c]))) q' = some (.lst (nv [c])) := L2.upd_same
        generalize upd H6 q' (.lst (nv [c])) = H7 at s7 h7
        wtm_at "r"
        refine ⟨j, q', [c], rfl, hj3, Z.sq_l h7, (show (1 : Nat) ≤ 100 by decide), fun H8 s8 => ⟨_, rfl, ?_⟩⟩
        rw [show fitN j [c] = alw j c from by unfold fitN; rw [List.all_cons, List.all_nil, Bool.and_true]]
        exact kk _ (s7.trans s8)
      · intro j x H6 hj s6 k kk
        have hjl := (List.getElem?_eq_some_iff.mp hj).1
        rw [List.length_map] at hjl
        have ev : x = .str (modes.getD j "") := by
          rw [List.getElem?_map, List.getElem?_eq_getElem hjl] at hj
          rw [← Option.some.inj hj, List.getD_eq_getElem?_getD, List.getElem?_eq_getElem hjl]; rfl
        subst ev
        wtm_at "w"
        wtm_at "r"
        exact kk _ (Same.refl _)
      intro ml H6 hml s6 hl6
      rw [show (modes.map V.str).length = 3 from rfl] at hl6
      obtain ⟨ms, hms⟩ : ∃ ms, (List.range 3).filter (fun j => alw j c) = ms := ⟨_, rfl⟩
      rw [hms] at hl6
      have mm : ∀ m, m ∈ ms ↔ m < 3 ∧ alw m c = true := fun m => by rw [← hms, List.mem_filter, List.mem_range]
      have ms0 : 0 < ms.length := List.length_pos_of_mem ((mm 2).mpr ⟨by decide, rfl⟩)
      have ms3 : ms.length ≤ 3 := by rw [← hms]; exact Nat.le_trans (List.length_filter_le ..) (by rw [List.length_range]; decide)
      have nd : ms.Nodup := by rw [← hms]; exact List.nodup_range.sublist List.filter_sublist
      wtm_at "r"
      obtain ⟨lw, hw0, hlw⟩ := id hw5
      have hw6 := s6 _ _ hw0
      have hl6' : H6 ml = some (.lst (ms.map fun j => V.str (modes.getD j ""))) := hl6
      refine Z.dc_lst ?_ (fun _ _ _ _ m ⟨v, e, h⟩ => ⟨v, e, m _ _ h⟩)
      wtm_at "r"
      refine ⟨ml, _, rfl, Z.sq_l hl6', fun D hD => ⟨fun k H7 => Same H6 H7 ∧ ∃ ls : Nat → Addr, H7 D = some (.dK ((ms.take k).map fun m => (mky m, V.ref (ls m)))) ∧ ∀ m ∈ ms.take k, ls m ≠ p ∧ WaysL H7 (ls m) (lngW m (g m)), ⟨Z.s_upd hD, fun _ => D, by rw [List.take_zero]; exact L2.upd_same, (fun m hm => nomatch hm)⟩, fun k H7 _ ⟨s7, _⟩ => Z.sq_l (s7 _ _ hl6'), ?_, ?_⟩⟩
      · rintro k x H7 hk ⟨s7, ls, h7, w7⟩
        rw [List.getElem?_map] at hk
        obtain ⟨m, hm, e⟩ : ∃ m, ms[k]? = some m ∧ V.str (modes.getD m "") = x := by
          cases h : ms[k]? with
          | none => rw [h] at hk; cases hk
          | some m => rw [h] at hk; exact ⟨m, rfl, Option.some.inj hk⟩
        subst e
        have hmm := List.mem_of_getElem? hm
        have hm3 := ((mm m).mp hmm).1
        have hkl := (List.getElem?_eq_some_iff.mp hm).1
        have hw7 := s7 _ _ hw6
        refine ⟨rfl, Z.yes_t ?_⟩
        rw [if_pos rfl]
        wtm_at "w"
        wtm_at "r"
        refine Z.r_dget ?_
        wtm_at "r"
        refine ⟨w, V.ref (lw m), rfl, .inl ⟨_, mky m, .inl hw7, rfl, ?_⟩, ?_⟩
        · rw [valV_ms hm3 [0, 1, 2] fun a ha => by simp at ha; omega, if_pos (by simp; omega)]
        wtm_at "r"
        refine ⟨m, lw m, g m, rfl, hm3, ((hlw m (by simp; omega)).2.same s6).same s7, (g5 m hm3).1, fun p' H8 s8 hp8 hw8 => ?_⟩
        have h8 := s8 _ _ h7
        have hnot : ¬ m ∈ ms.take k := fun z => by
          obtain ⟨j, hj, ej⟩ := List.getElem_of_mem z
          rw [List.length_take] at hj
          rw [List.getElem_take] at ej
          have e2 := (List.getElem?_eq_some_iff.mp hm).2
          have := (List.getElem_inj (h₀ := by omega) (h₁ := hkl) nd).mp (ej.trans e2.symm)
          omega
        have hsub : ∀ a ∈ ms.take k, a < 3 := fun a ha => ((mm a).mp (List.mem_of_mem_take ha)).1
        have hnew : valV ((ms.take k).map fun m => (mky m, V.ref (ls m))) (mky m) = none := by rw [valV_ms hm3 _ hsub, if_neg hnot]
        refine ⟨_, mky m, rfl, h8, Z.szl (by rw [List.length_map, List.length_take]; omega), ?_⟩
        rw [putK_new _ hnew]
        refine ⟨Z.s_mut (s7.trans s8) hD, fun a => if a = m then p' else ls a, ?_, fun a ha => ?_⟩
        · rw [L2.upd_same, List.take_add_one, hm, List.map_append]
          refine congrArg (fun z => some (HO.dK z)) (congr (congrArg _ (List.map_congr_left fun a ha => ?_)) ?_)
          · show (mky a, V.ref (ls a)) = (mky a, V.ref (if a = m then p' else ls a))
            rw [if_neg (fun z : a = m => hnot (z ▸ ha))]
          · show _ = [(mky m, V.ref (if m = m then p' else ls m))]
            rw [if_pos rfl]
        · have up : ∀ l ws', WaysL H8 l ws' → WaysL (upd H8 D (.dK ((ms.take k).map (fun m => (mky m, V.ref (ls m))) ++ [(mky m, V.ref p')]))) l ws' := fun l ws' ⟨qs, b1, b2, b3⟩ => by
            refine ⟨qs, (L2.upd_ne (fun z => by rw [z, h8] at b1; cases b1)).trans b1, b2, fun j w e => ?_⟩
            obtain ⟨t', c1, c2⟩ := b3 j w e
            exact ⟨t', c1, (L2.upd_ne (fun z => by rw [z, h8] at c2; cases c2)).trans c2⟩
          rw [List.take_add_one, hm] at ha
          dsimp only
          by_cases e : a = m
          · subst e
            rw [if_pos rfl]; exact ⟨fun z => by (rw [z, s7 _ _ (s6 _ _ hp5)] at hp8; cases hp8), up _ _ hw8⟩
          · rw [if_neg e]
            rcases List.mem_append.mp ha with z | z
            · exact ⟨(w7 a z).1, up _ _ ((w7 a z).2.same s8)⟩
            · exact absurd (List.mem_singleton.mp z) e
      rintro H7 ⟨s7, ls, h7, w7⟩
      rw [List.length_map, List.take_length] at h7 w7
      have hwd : WaysD H7 D ms (fun m => lngW m (g m)) := ⟨ls, h7, fun m hm => ⟨((mm m).mp hm).1, (w7 m hm).2⟩⟩
      have hlen : ∀ m ∈ ms, (lngW m (g m)).length = gsN m := fun m hm => by rw [lng_len]; exact (g5 m ((mm m).mp hm).1).1
      have s57 := s6.trans s7
      wtm_at "r"
      refine ⟨D, ms, fun m => lngW m (g m), v, rfl, hwd, hlen, ms0, ms3, h1, h40, fun t H8 b s8 ht8 hb1 hb2 => ?_⟩
      try dsimp only
      have hm3 : b.2.2 < 3 := by obtain ⟨m, hm, e⟩ := hb1; rw [e]; exact ((mm m).mp hm).1
      have s58 := s57.trans s8
      have ha8 := s58 _ _ (s5 _ _ ha)
      have hp8 := s58 _ _ hp5
      have htab := tab_grow ht5 (wok_start g5 (fun m hm => ((mm m).mp hm).1) (fun m hm => by rw [hal, mm]; exact ⟨fun z => z.2, fun z => ⟨hm, z⟩⟩) hb1 hb2)
      have hwk := wok_next (ms := ms) (g5.congr (L' := fun k => (grow f i b k).1) fun k hk => by rw [grow_old hk]) (fun m hm => by rw [hal, mm]; exact ⟨fun z => z.2, fun z => ⟨hm, z⟩⟩)
      try dsimp only at hwk
      rw [grow_new] at hwk
      refine Z.r_threeT (x := .int b.1) (y := .int (b.2.1 : Nat)) (z := .int (b.2.2 : Nat)) (Z.sq_t ht8) (by wtm_at "set") ?_
      wtm_at "r"
      refine Z.r_tr T.t_MODES (j := b.2.2) (c := .s (modes.getD b.2.2 "")) rfl (by rw [List.getElem?_map, (modes_first _ hm3).1]; rfl) (fun x vx => ?_)
      cases Z.vt_s vx
      wtm_at "r"
      rw [nv_len]
      refine ⟨by show 2 ≤ sizeLine; decide, fun t1 ht1 => ?_⟩
      have s9 : Same H8 (upd H8 t1 (.tup [.str (modes.getD b.2.2 ""), .int ((cs.length : Nat) - (b.2.1 : Nat) : Int)])) := Z.s_upd ht1
      have h9 : (upd H8 t1 (.tup [.str (modes.getD b.2.2 ""), .int ((cs.length : Nat) - (b.2.1 : Nat) : Int)])) t1 = some (.tup [.str (modes.getD b.2.2 ""), .int ((cs.length : Int) - (b.2.1 : Nat))]) := L2.upd_same
      refine Z.r_nil ?_
      refine Z.r_append (s9 _ _ hp8) (Z.szl (by rw [List.length_map, hc5.1]; omega)) ?_
      generalize upd H8 t1 (.tup [.str (modes.getD b.2.2 ""), .int ((cs.length : Nat) - (b.2.1 : Nat) : Int)]) = H9 at s9 h9
      have s59 := s58.trans s9
      have hp9 := s9 _ _ hp8
      have sM : Same H (upd H9 p (.lst (ps.map V.ref ++ [V.ref t1]))) := Z.s_mut (s5.trans s59) hp
      have hpM : (upd H9 p (.lst (ps.map V.ref ++ [V.ref t1]))) p = some (.lst ((ps ++ [t1]).map V.ref)) := by rw [L2.upd_same, List.map_append]; rfl
      have kM : ∀ {x o}, H9 x = some o → x ≠ p → (upd H9 p (.lst (ps.map V.ref ++ [V.ref t1]))) x = some o := fun e n => (L2.upd_ne n).trans e
      have s79 := s8.trans s9
      have hwdM : WaysD (upd H9 p (.lst (ps.map V.ref ++ [V.ref t1]))) D ms (fun m => lngW m (g m)) := by
        refine ⟨ls, kM (s79 _ _ h7) (fun z => by rw [z, s57 _ _ hp5] at h7; cases h7), fun m hm => ⟨((mm m).mp hm).1, ?_⟩⟩
        obtain ⟨n1, qs, b1, b2, b3⟩ := w7 m hm
        refine ⟨qs, kM (s79 _ _ b1) n1, b2, fun j w e => ?_⟩
        obtain ⟨t', c1, c2⟩ := b3 j w e
        exact ⟨t', c1, kM (s79 _ _ c2) (fun z => by rw [z, s57 _ _ hp5] at c2; cases c2)⟩
      have hcM : ChoA (upd H9 p (.lst (ps.map V.ref ++ [V.ref t1]))) (ps ++ [t1]) cs.length (i + 1) (grow f i b) := by
        refine ⟨by rw [List.length_append, hc5.1]; rfl, fun k hk => ?_⟩
        by_cases e : k = i
        · subst e
          rw [grow_new]
          exact ⟨t1, by rw [List.getElem?_append_right (by rw [hc5.1]; exact Nat.le_refl _), hc5.1, Nat.sub_self]; rfl, kM h9 (fun z => by rw [z, hp9] at h9; cases h9)⟩
        · rw [grow_old (by omega)]
          obtain ⟨t', c1, c2⟩ := hc5.2 k (by omega)
          exact ⟨t', by rw [List.getElem?_append_left (by rw [hc5.1]; omega)]; exact c1, kM (s59 _ _ c2) (fun z => by rw [z, hp5] at c2; cases c2)⟩
      generalize upd H9 p (.lst (ps.map V.ref ++ [V.ref t1])) = M at sM hpM hwdM hcM
      clear kM
      have haM := sM _ _ ha
      wtm_at "r"
      rw [nv_len, show (cs.length : Int) - ((cs.length - (i + 1) : Nat) : Int) = ((i + 1 : Nat) : Int) by omega]
      refine ⟨by show 2 ≤ sizeLine; decide, fun t2 ht2 => ?_⟩
      have s10 : Same M (upd M t2 (.tup [.int b.1, .int ((i + 1 : Nat) : Int)])) := Z.s_upd ht2
      have h10 : (upd M t2 (.tup [.int b.1, .int ((i + 1 : Nat) : Int)])) t2 = some (.tup [.int b.1, .int ((i + 1 : Nat) : Int)]) := L2.upd_same
      generalize upd M t2 (.tup [.int b.1, .int ((i + 1 : Nat) : Int)]) = M2 at s10 h10
      have hwdM2 : WaysD M2 D ms (fun m => lngW m (g m)) := by
        obtain ⟨l1, l2, l3⟩ := hwdM
        exact ⟨l1, s10 _ _ l2, fun m hm => ⟨(l3 m hm).1, (l3 m hm).2.same s10⟩⟩
      wtm_at "r"
      refine ⟨D, t2, ms, fun m => lngW m (g m), b.1, i + 1, rfl, hwdM2, hlen, h10, fun w' M3 s11 hw' hww => ?_⟩
      have sM3 := s10.trans s11
      wtm_at "r"
      exact ⟨w', _, grow f i b, ps ++ [t1], _, _, _, _, _, _, _, rfl, sM.trans sM3, sM3 _ _ hpM, ⟨hcM.1, fun k hk => by obtain ⟨t', c1, c2⟩ := hcM.2 k hk; exact ⟨t', c1, sM3 _ _ c2⟩⟩, htab, hww, hwk⟩
    · rintro σ H5 ⟨w, g, f, ps, x5, x6, x7, x8, x9, x10, x11, rfl, s5, hp5, hc5, ht5, hw5, g5⟩
      wtm_at "r"
      refine ⟨p, _, rfl, Z.sq_l hp5, fun r hr => ?_⟩
      have s6 : Same H5 (upd H5 r (.lst (ps.map V.ref).reverse)) := Z.s_upd hr
      exact q r _ f ps (s5.trans s6) ht5 L2.upd_same ⟨hc5.1, fun k hk => by obtain ⟨t, e1, e2⟩ := hc5.2 k hk; exact ⟨t, e1, s6 _ _ e2⟩⟩
end
def segC (cs : List Nat) : List (Nat × Nat) → Nat → List (Nat × List Nat)
  | [], _ => []
  | s :: r, d => (s.1, (cs.drop (cs.length - d)).take s.2) :: segC cs r (d - s.2)
section
variable {P : Program} {w : World} {K : PySem.W.Frag} {mg : Str → Option Value} {base : Heap}
def sp_best_segments (K : PySem.W.Frag) : Sp := fun vs H Q _ => ∃ (a : Addr) (cs : List Nat) (v : Nat), vs = [.ref a, .int v] ∧ H a = some (.lst (nv cs)) ∧ cs.length ≤ 30 ∧ 1 ≤ v ∧ v ≤ 40 ∧ ∀ (p : Addr) (H1 : Hp) (f : Nat → Sg.Ch), Same H H1 → Sg.Tab (tx v cs) f cs.length → H p = none → SegsAt H1 p (segC cs (Sg.segs f cs.length cs.length) cs.length) → Q (.ref p) H1
set_option maxHeartbeats 2000000 in
theorem ok_best_segments (T : Top K mg w) : FnOk P w K mg base CX0 5 T.a_best_segments T.d_best_segments pl_best_segments (sp_best_segments K) := by
  refine T.F_best_segments.ok sc_best_segments (fun vs H Q E h => ?_) (fun cdv A outer s H vs Q E hr h => ?_)
  · obtain ⟨a, cs, v, rfl, _⟩ := h
    rfl
  · obtain ⟨a, cs, v, rfl, ha, hl, h1, h40, q⟩ := h
    have hu := hu_of hr
    refine ⟨_, (pss_cons (ps_set (i := 2) sc_best_segments.nd rfl (Or.inl rfl) (pe_call (ok_best_choices T) (hr.mono (by decide)) (by rfl) T.g_best_choices T.F_best_choices.kp T.b_best_choices .nil pass0 (pa_cons (pv 0) (pa_cons (pv 1) pa_nil))))
      (pss_cons (ps_set (i := 3) sc_best_segments.nd rfl (Or.inl rfl) (pe_lst pa_nil))
      (pss_cons (ps_set (i := 4) sc_best_segments.nd rfl (Or.inl rfl) pe_int)
      (pss_cons (ps_while PassesOwn.never (pt_cmpR op_lt (pv 4) (pe_callB (show CallR _ _ (Z.cLen K) from Z.call_len) (by rfl) T.n_len (by decide +kernel) (pa_cons (pv 0) pa_nil)) (nomark _)) (pss_cons (ps_asg (pe_ix (show IxR _ (rIxL K) from ix_list) (pv 2) (pv 4) (fun _ _ => rfl)) (pg_tup rfl (pgs_cons (pg_name (i := 5) sc_best_segments.nd rfl (Or.inl rfl)) (pgs_cons (pg_name (i := 6) sc_best_segments.nd rfl (Or.inl rfl)) pgs_nil))))
      (pss_cons (ps_expr (pe_bm PySem.F.plainAttrs_list PySem.F.slot_list_append PySem.F.type_list_append mt_append (pv 3) (pa_cons (pe_tup (pa_cons (pv 5) (pa_cons (pe_slice (show SlR _ (rSlL K) from sl_list) (pv 0) (po_some (pv 4)) (po_some (pv 6))) pa_nil))) pa_nil)))
      (pss_one (ps_set (i := 4) sc_best_segments.nd rfl (Or.inl rfl) (pv 6))))))
      (pss_one (ps_ret (pv 3))))))), ?_⟩
    show (_ : L2.TS) _ [some _, some _, none, none, none, none, none] H
    try simp only [Z.kx]
    wtm_at "r"
    refine ⟨a, cs, v, rfl, ha, hl, h1, h40, fun r H1 f ps s1 ht hr hc => ?_⟩
    wtm_at "r"
    refine ⟨by show 0 ≤ sizeLine; decide, fun p hp => ?_⟩
    have hpH : H p = none := Z.s_back s1 hp
    have s2 : Same H1 (upd H1 p (.lst [])) := Z.s_upd hp
    have hp2 : (upd H1 p (.lst [])) p = some (.lst []) := L2.upd_same
    have nrp : r ≠ p := fun z => by rw [← z, hr] at hp; cases hp
    have hr2 := s2 _ _ hr
    have hcL := hc.1
    have hc2 : ∀ k, k < cs.length → ∃ t, (ps.map V.ref).reverse[k]? = some (.ref t) ∧ (upd H1 p (.lst [])) t = some (.tup [.str (modes.getD (f (cs.length - k)).2.2 ""), .int ((cs.length : Int) - ((f (cs.length - k)).2.1 : Nat))]) := fun k hk => by
      obtain ⟨t, e1, e2⟩ := hc.2 (cs.length - 1 - k) (by omega)
      refine ⟨t, ?_, ?_⟩
      · rw [List.getElem?_reverse (by rw [List.length_map, hcL]; exact hk), List.length_map, hcL, List.getElem?_map, e1]; rfl
      · rw [show cs.length - 1 - k + 1 = cs.length - k by omega] at e2
        exact s2 _ _ e2
    generalize (ps.map V.ref).reverse = xs at hr hr2 hc2
    have ha2 := s2 _ _ (s1 _ _ ha)
    have s02 := s1.trans s2
    generalize upd H1 p (.lst []) = H2 at s2 hp2 hr2 hc2 ha2 s02
    wtm_at "r"
    refine Z.r_while (fun m σ H3 => ∃ (d : Nat) (acc : List (Nat × List Nat)) (x5 x6 : Option V), σ = [some (.ref a), some (.int v), some (.ref r), some (.ref p), some (.int ((cs.length - d : Nat) : Int)), x5, x6] ∧ d ≤ m ∧ d ≤ cs.length ∧ acc.length + d ≤ cs.length ∧ Same H H3 ∧ (∀ x o, H2 x = some o → x ≠ p → H3 x = some o) ∧ SegsAt H3 p acc ∧ acc ++ segC cs (Sg.segs f m d) d = segC cs (Sg.segs f cs.length cs.length) cs.length) cs.length ⟨cs.length, [], none, none, by rw [Nat.sub_self]; rfl, Nat.le_refl _, Nat.le_refl _, by simp, s02, fun x o e _ => e, SegsAt.nil hp2, rfl⟩ ?_
    rintro m σ H3 ⟨d, acc, x5, x6, rfl, dm, dl, al, s3, k3, g3, eS⟩
    have ha3 := s3 _ _ ha
    wtm_at "r"
    rw [nv_len]
    with_reducible refine Z.i_2 (fun h3 => ?_) (fun h3 => ?_)
    · obtain ⟨m, rfl⟩ : ∃ j, m = j + 1 := ⟨m - 1, by omega⟩
      obtain ⟨d, rfl⟩ : ∃ j, d = j + 1 := ⟨d - 1, by omega⟩
      refine ⟨fun σ' H' => ∃ m', m' < m + 1 ∧ ∃ (d : Nat) (acc : List (Nat × List Nat)) (x5 x6 : Option V), σ' = [some (.ref a), some (.int v), some (.ref r), some (.ref p), some (.int ((cs.length - d : Nat) : Int)), x5, x6] ∧ d ≤ m' ∧ d ≤ cs.length ∧ acc.length + d ≤ cs.length ∧ Same H H' ∧ (∀ x o, H2 x = some o → x ≠ p → H' x = some o) ∧ SegsAt H' p acc ∧ acc ++ segC cs (Sg.segs f m' d) d = segC cs (Sg.segs f cs.length cs.length) cs.length, fun σ' H' z => z, ?_⟩
      obtain ⟨b1, b2, b3, b4⟩ := Sg.tab_behind (tx v cs) ht (Nat.succ_le_succ (Nat.zero_le d)) dl
      obtain ⟨t, e1, e2⟩ := hc2 (cs.length - (d + 1)) (by omega)
      rw [show cs.length - (cs.length - (d + 1)) = d + 1 by omega] at e2
      have ex : segC cs (Sg.segs f (m + 1) (d + 1)) (d + 1) = ((f (d + 1)).2.2, (cs.drop (cs.length - (d + 1))).take (d + 1 - (f (d + 1)).2.1)) :: segC cs (Sg.segs f m (f (d + 1)).2.1) (d + 1 - (d + 1 - (f (d + 1)).2.1)) := rfl
      rw [ex] at eS
      generalize (f (d + 1)).2.2 = mo at *
      generalize (f (d + 1)).2.1 = b at *
      have hr3 := k3 _ _ hr2 nrp
      have e3 := k3 _ _ e2 (fun z => by rw [z, hp2] at e2; cases e2)
      obtain ⟨xs3, hxs3, lx3, _⟩ := id g3
      wtm_at "r"
      refine Z.r_ixL (Z.sq_l hr3) (atI_nat e1) ?_
      refine Z.r_pairT (Z.sq_t e3) (by wtm_at "set") ?_
      wtm_at "r"
      refine Z.r_slL (Z.sq_l ha3) (fun l hl' => ?_)
      rw [show (cs.length : Int) - (b : Nat) = ((cs.length - b : Nat) : Int) by omega, nv_cut _ (by omega), show cs.length - b - (cs.length - (d + 1)) = d + 1 - b by omega]
      have s4 : Same H3 (upd H3 l (.lst (nv ((cs.drop (cs.length - (d + 1))).take (d + 1 - b))))) := Z.s_upd hl'
      have hl4 : (upd H3 l (.lst (nv ((cs.drop (cs.length - (d + 1))).take (d + 1 - b))))) l = some (.lst (nv ((cs.drop (cs.length - (d + 1))).take (d + 1 - b)))) := L2.upd_same
      generalize upd H3 l (.lst (nv ((cs.drop (cs.length - (d + 1))).take (d + 1 - b)))) = H4 at s4 hl4
      wtm_at "r"
      refine ⟨by show 2 ≤ sizeLine; decide, fun t' ht' => ?_⟩
      have s5 : Same H4 (upd H4 t' (.tup [.str (modes.getD mo ""), .ref l])) := Z.s_upd ht'
      have h5 : (upd H4 t' (.tup [.str (modes.getD mo ""), .ref l])) t' = some (.tup [.str (modes.getD mo ""), .ref l]) := L2.upd_same
      generalize upd H4 t' (.tup [.str (modes.getD mo ""), .ref l]) = H5 at s5 h5
      have s35 := s4.trans s5
      have npl : l ≠ p := fun z => by rw [z, hxs3] at hl'; cases hl'
      refine Z.r_nil ?_
      refine Z.r_append (s35 _ _ hxs3) (Z.szl (by omega)) ?_
      wtm_at "r"
      refine ⟨m, Nat.lt_succ_self m, b, _, _, _, rfl, by omega, by omega, ?_, Z.s_mut (s3.trans s35) hpH, fun x o e n => (L2.upd_ne n).trans (s35 _ _ (k3 x o e n)), (g3.same s35).push (s35 _ _ hxs3) h5 (s5 _ _ hl4) npl, ?_⟩
      · rw [List.length_append]; show acc.length + 1 + b ≤ cs.length; omega
      · rw [List.append_assoc, ← eS, show d + 1 - (d + 1 - b) = b by omega]; rfl
    · wtm_at "r"
      have : d = 0 := by omega
      subst this
      refine q p H3 f s3 ht hpH ?_
      rw [← eS]
      cases m with
      | zero => rw [show segC cs (Sg.segs f 0 0) 0 = [] from rfl, List.append_nil]; exact g3
      | succ m => rw [show segC cs (Sg.segs f (m + 1) 0) 0 = [] from rfl, List.append_nil]; exact g3
end
theorem get_nat (l : List Nat) (g : Nat) (h : g < l.length) : (l.map fun c : Nat => (c : Int))[g]? = some ((l.getD g 0 : Nat) : Int) := by
  rw [List.getElem?_map, List.getD_eq_getElem?_getD, List.getElem?_eq_getElem h]; rfl
theorem cb_nat (m : Nat) (hm : m < 3) (g : Nat) (hg : g < 3) : ((cbT.getD m []).map fun c : Nat => (c : Int))[g]? = some (((cbT.getD m []).getD g 0 : Nat) : Int) := get_nat _ g (by have := cb_len m hm; omega)
section
variable {P : Program} {w : World} {K : PySem.W.Frag} {mg : Str → Option Value} {base : Heap}
def sp__law_cell (K : PySem.W.Frag) : Sp := fun vs H Q _ => ∃ (a : Addr) (ns : List Int) (k : Nat), vs = [.ref a, .int k] ∧ SqL K H a (ns.map V.int) ∧ k < 100 ∧ ∀ z : Int, Q (.int z) H
set_option maxHeartbeats 2000000 in
theorem ok__law_cell (T : Top K mg w) : FnOk P w K mg base CX0 1 T.a__law_cell T.d__law_cell pl__law_cell (sp__law_cell K) := by
  refine T.F__law_cell.ok sc__law_cell (fun vs H Q E h => ?_) (fun cdv A outer s H vs Q E hr h => ?_)
  · obtain ⟨a, ns, k, rfl, _⟩ := h
    rfl
  · obtain ⟨a, ns, k, rfl, hS, hk, q⟩ := h
    have hu := hu_of hr
    refine ⟨_, (pss_cons (ps_if (pt_cmpR op_lt (pv 1) (pe_callB (show CallR _ _ (Z.cLen K) from Z.call_len) (by rfl) T.n_len (by decide +kernel) (pa_cons (pv 0) pa_nil)) (nomark _)) (pss_one (ps_ret (pe_callTy Z.call_int (by rfl) T.n_int (by decide +kernel) (pa_cons (pe_ix (show IxR _ (rIxL K) from ix_list) (pv 0) (pv 1) (fun _ _ => rfl)) pa_nil)))) pss_nil)
      (pss_one (ps_ret pe_int))), ?_⟩
    show (_ : L2.TS) _ [some _, some _] H
    try simp only [Z.kx]
    wtm_at "r"
    with_reducible refine Z.i_2 (fun h => ?_) (fun h => ?_)
    · rw [List.length_map] at h
      have h' : k < ns.length := by omega
      wtm_at "r"
      refine Z.r_ixL hS (Z.at_map rfl (List.getElem?_eq_getElem h')) ?_
      wtm_at "r"
      exact q _
    · wtm_at "r"
      exact q _
def sp__law_head (K : PySem.W.Frag) : Sp := fun vs H Q _ => ∃ (m v : Nat), vs = [.int m, .int v] ∧ m < 3 ∧ 1 ≤ v ∧ v ≤ 40 ∧ ∀ H1, Same H H1 → Q (.int ((4 + cbN m v : Nat) : Int)) H1
set_option maxHeartbeats 2000000 in
theorem ok__law_head (T : Top K mg w) : FnOk P w K mg base CX0 1 T.a__law_head T.d__law_head pl__law_head (sp__law_head K) := by
  refine T.F__law_head.ok sc__law_head (fun vs H Q E h => ?_) (fun cdv A outer s H vs Q E hr h => ?_)
  · obtain ⟨m, v, rfl, _⟩ := h
    rfl
  · obtain ⟨m, v, rfl, hm, h1, h40, q⟩ := h
    have hu := hu_of hr
    refine ⟨_, (pss_cons (ps_set (i := 2) sc__law_head.nd rfl (Or.inl rfl) pe_int)
      (C8.pss_cut (ps_if (pt_cmpR op_gt (pv 1) pe_int (nomark _)) (pss_one (ps_set (i := 2) sc__law_head.nd rfl (Or.inl rfl) pe_int)) pss_nil)
      (C8.pss_cut (ps_if (pt_cmpR op_gt (pv 1) pe_int (nomark _)) (pss_one (ps_set (i := 2) sc__law_head.nd rfl (Or.inl rfl) pe_int)) pss_nil)
      (pss_one (ps_ret (pe_op op_add pe_int (pe_ix (show IxR _ (rIxL K) from ix_list) (pe_ix (show IxR _ (rIxL K) from ix_list) (pe_lst (pa_cons (pe_lst (pa_cons pe_int (pa_cons pe_int (pa_cons pe_int pa_nil)))) (pa_cons (pe_lst (pa_cons pe_int (pa_cons pe_int (pa_cons pe_int pa_nil)))) (pa_cons (pe_lst (pa_cons pe_int (pa_cons pe_int (pa_cons pe_int pa_nil)))) pa_nil)))) (pv 0) (fun _ _ => rfl)) (pv 2) (fun _ _ => rfl)))))))), ?_⟩
    show (_ : L2.TS) _ [some _, some _, none] H
    try simp only [Z.kx]
    wtm_at "r"
    refine Z.r_cut (fun σ H1 => ∃ (x : Nat), σ = [some (.int m), some (.int v), some (.int x)] ∧ H = H1 ∧ x = if v < 10 then 0 else 1) ?_ ?_
    · wtm_at "w"
      wtm_at "r"
      with_reducible refine Z.i_2 (fun h => ?_) (fun h => ?_)
      · wtm_at "r"
        exact ⟨1, rfl, rfl, by rw [if_neg (by omega)]⟩
      · wtm_at "r"
        exact ⟨0, rfl, rfl, by rw [if_pos (by omega)]⟩
    rintro σ H1 ⟨x, rfl, rfl, hx⟩
    refine Z.r_cut (fun σ H1 => σ = [some (.int m), some (.int v), some (.int (grp v : Nat))] ∧ H = H1) ?_ ?_
    · wtm_at "r"
      with_reducible refine Z.i_2 (fun h => ?_) (fun h => ?_)
      · wtm_at "r"
        exact ⟨by rw [grp2 (by omega) (by omega)]; rfl, rfl⟩
      · wtm_at "r"
        refine ⟨?_, rfl⟩
        rw [hx]; unfold grp
        by_cases c : v < 10
        · rw [if_pos c, if_pos c]
        · rw [if_neg c, if_neg c, if_pos (show v < 27 by omega)]
    rintro σ H1 ⟨rfl, rfl⟩
    clear hx
    wtm_at "r"
    refine ⟨by show 3 ≤ sizeLine; decide, fun p0 n0 => ?_⟩
    wtm_at "r"
    refine ⟨by show 3 ≤ sizeLine; decide, fun p1 n1 => ?_⟩
    wtm_at "r"
    refine ⟨by show 3 ≤ sizeLine; decide, fun p2 n2 => ?_⟩
    wtm_at "r"
    refine ⟨by show 3 ≤ sizeLine; decide, fun p3 n3 => ?_⟩
    have h0 : (upd H p0 (.lst [V.int 10, V.int 12, V.int 14])) p0 = some (.lst (((cbT.getD 0 []).map fun c : Nat => (c : Int)).map V.int)) := L2.upd_same
    have s0 : Same H (upd H p0 (.lst [V.int 10, V.int 12, V.int 14])) := Z.s_upd n0
    generalize upd H p0 (.lst [V.int 10, V.int 12, V.int 14]) = G0 at *
    have h1 : (upd G0 p1 (.lst [V.int 9, V.int 11, V.int 13])) p1 = some (.lst (((cbT.getD 1 []).map fun c : Nat => (c : Int)).map V.int)) := L2.upd_same
    have s1 : Same G0 (upd G0 p1 (.lst [V.int 9, V.int 11, V.int 13])) := Z.s_upd n1
    generalize upd G0 p1 (.lst [V.int 9, V.int 11, V.int 13]) = G1 at *
    have h2 : (upd G1 p2 (.lst [V.int 8, V.int 16, V.int 16])) p2 = some (.lst (((cbT.getD 2 []).map fun c : Nat => (c : Int)).map V.int)) := L2.upd_same
    have s2 : Same G1 (upd G1 p2 (.lst [V.int 8, V.int 16, V.int 16])) := Z.s_upd n2
    generalize upd G1 p2 (.lst [V.int 8, V.int 16, V.int 16]) = G2 at *
    have h3 : (upd G2 p3 (.lst [V.ref p0, V.ref p1, V.ref p2])) p3 = some (.lst [V.ref p0, V.ref p1, V.ref p2]) := L2.upd_same
    have s3 : Same G2 (upd G2 p3 (.lst [V.ref p0, V.ref p1, V.ref p2])) := Z.s_upd n3
    generalize upd G2 p3 (.lst [V.ref p0, V.ref p1, V.ref p2]) = G3 at *
    have t3 := s0.trans (s1.trans (s2.trans s3))
    obtain ⟨pm, e1, e2⟩ : ∃ pm, atI [V.ref p0, V.ref p1, V.ref p2] (m : Int) = some (V.ref pm) ∧ G3 pm = some (.lst (((cbT.getD m []).map fun c : Nat => (c : Int)).map V.int)) := by
      rcases md_cases hm with e | e | e <;> subst e
      · exact ⟨p0, rfl, s3 _ _ (s2 _ _ (s1 _ _ h0))⟩
      · exact ⟨p1, rfl, s3 _ _ (s2 _ _ h1)⟩
      · exact ⟨p2, rfl, s3 _ _ h2⟩
    wtm_at "r"
    refine Z.r_ixL (Z.sq_l h3) e1 ?_
    wtm_at "r"
    refine Z.r_ixL (Z.sq_l e2) (Z.at_map (j := grp v) rfl (cb_nat m hm _ (grp_lt v))) ?_
    wtm_at "r"
    rw [show (4 : Int) + ((cbT.getD m []).getD (grp v) 0 : Nat) = ((4 + cbN m v : Nat) : Int) by unfold cbN; omega]
    exact q _ t3
end
theorem nv_take (cs : List Nat) (n : Nat) : (nv cs).take n = nv (cs.take n) := by unfold nv; rw [List.map_take]
theorem an_256 : ∀ j, j < 45 → anL.getD j 0 < 256 := by decide +kernel
def sgL : List Nat := [32, 36, 37, 42, 43, 45, 46, 47, 58]
theorem val_dec : ∀ c, c < 256 → (48 ≤ c ∧ c ≤ 57 → anL.findIdx (· == c) = c - 48) ∧ (65 ≤ c ∧ c ≤ 90 → anL.findIdx (· == c) = c - 55) ∧ (¬ (48 ≤ c ∧ c ≤ 57) → ¬ (65 ≤ c ∧ c ≤ 90) → (∀ j, j < 9 → sgL.getD j 0 ≠ c) → anL.findIdx (· == c) = 45) := by decide +kernel
theorem val_sg : ∀ k, k < 9 → anL.findIdx (· == sgL.getD k 0) = 36 + k := by decide +kernel
theorem alw_zero : ∀ c, c < 256 → alw 0 c = decide (48 ≤ c ∧ c ≤ 57) := by decide +kernel
theorem alw_one : ∀ c, c < 256 → alw 1 c = decide (anL.findIdx (· == c) < 45) := by decide +kernel
theorem con_zero (k : Nat) : conB 0 k = k / 3 * 10 + ([0, 4, 7] : List Nat).getD (k % 3) 0 := by
  have : k % 3 = 0 ∨ k % 3 = 1 ∨ k % 3 = 2 := by omega
  show k / 3 * 10 + wdN 0 (k % 3) = _
  rcases this with e | e | e <;> rw [e] <;> rfl
theorem con_one (k : Nat) : conB 1 k = k / 2 * 11 + k % 2 * 6 := by
  have : k % 2 = 0 ∨ k % 2 = 1 := by omega
  show k / 2 * 11 + wdN 1 (k % 2) = _
  rcases this with e | e <;> rw [e] <;> rfl
theorem con_two (k : Nat) : conB 2 k = 8 * k := by
  show k / 1 * 8 + wdN 2 (k % 1) = _
  rw [Nat.div_one, Nat.mod_one]
  show k * 8 + 0 = _
  omega
section
variable {P : Program} {w : World} {K : PySem.W.Frag} {mg : Str → Option Value} {base : Heap}
def sp__law_text (K : PySem.W.Frag) : Sp := fun vs H Q _ => ∃ (a : Addr) (ns : List Int), vs = [.ref a, .int 1, .int 30] ∧ SqL K H a (ns.map V.int) ∧ ns.length ≤ 63 ∧ ∀ (p : Addr) (H1 : Hp) (cs : List Nat), Same H H1 → H p = none → H1 p = some (.lst (nv cs)) → cs.length ≤ 30 → (∀ c ∈ cs, c < 256) → Q (.ref p) H1
set_option maxHeartbeats 2000000 in
theorem ok__law_text (T : Top K mg w) : FnOk P w K mg base CX0 1 T.a__law_text T.d__law_text pl__law_text (sp__law_text K) := by
  refine T.F__law_text.ok sc__law_text (fun vs H Q E h => ?_) (fun cdv A outer s H vs Q E hr h => ?_)
  · obtain ⟨a, ns, rfl, _⟩ := h
    rfl
  · obtain ⟨a, ns, rfl, hS, hn, q⟩ := h
    have hu := hu_of hr
    refine ⟨_, (pss_cons (ps_set (i := 3) sc__law_text.nd rfl (Or.inl rfl) (pe_lst (pa_cons pe_int (pa_cons pe_int (pa_cons pe_int (pa_cons pe_int (pa_cons pe_int (pa_cons pe_int (pa_cons pe_int (pa_cons pe_int (pa_cons pe_int (pa_cons pe_int (pa_cons pe_int (pa_cons pe_int (pa_cons pe_int (pa_cons pe_int (pa_cons pe_int (pa_cons pe_int (pa_cons pe_int (pa_cons pe_int (pa_cons pe_int (pa_cons pe_int (pa_cons pe_int (pa_cons pe_int (pa_cons pe_int (pa_cons pe_int (pa_cons pe_int pa_nil)))))))))))))))))))))))))))
      (pss_cons (ps_set (i := 3) sc__law_text.nd rfl (Or.inl rfl) (pe_op op_cat (pv 3) (pe_lst (pa_cons pe_int (pa_cons pe_int (pa_cons pe_int (pa_cons pe_int (pa_cons pe_int (pa_cons pe_int (pa_cons pe_int (pa_cons pe_int (pa_cons pe_int (pa_cons pe_int (pa_cons pe_int (pa_cons pe_int (pa_cons pe_int (pa_cons pe_int (pa_cons pe_int (pa_cons pe_int (pa_cons pe_int (pa_cons pe_int (pa_cons pe_int (pa_cons pe_int pa_nil)))))))))))))))))))))))
      (pss_cons (ps_set (i := 4) sc__law_text.nd rfl (Or.inl rfl) (pe_lst pa_nil))
      (pss_cons (ps_for PassesOwn.never rfl (pi_range2 rfl T.n_range (pa_cons (pv 1) (pa_cons (pe_callB (show CallR _ _ (Z.cLen K) from Z.call_len) (by rfl) T.n_len (by decide +kernel) (pa_cons (pv 0) pa_nil)) pa_nil))) (pg_name (i := 5) sc__law_text.nd rfl (Or.inl rfl)) (pss_cons (ps_set (i := 6) sc__law_text.nd rfl (Or.inl rfl) (pe_callTy Z.call_int (by rfl) T.n_int (by decide +kernel) (pa_cons (pe_ix (show IxR _ (rIxL K) from ix_list) (pv 0) (pv 5) (fun _ _ => rfl)) pa_nil)))
      (pss_cons (ps_set (i := 7) sc__law_text.nd rfl (Or.inl rfl) (pe_op op_mod (pv 6) pe_int))
      (pss_one (ps_for PassesOwn.never rfl (pi_range1 rfl T.n_range (pa_cons (pe_op op_add pe_int (pe_op op_mod (pe_op op_fdiv (pv 6) pe_int) pe_int)) pa_nil)) (pg_name (i := 8) sc__law_text.nd rfl (Or.inl rfl)) (pss_cons (ps_set (i := 9) sc__law_text.nd rfl (Or.inl rfl) (pe_op op_add (pe_op op_fdiv (pv 6) (pe_op op_mul pe_int (pe_op op_add pe_int (pv 8)))) (pv 8)))
      (pss_one (ps_if (pt_cmpR op_eq (pv 7) pe_int (nomark _)) (pss_one (ps_expr (pe_bm PySem.F.plainAttrs_list PySem.F.slot_list_append PySem.F.type_list_append mt_append (pv 4) (pa_cons (pe_op op_mod (pv 9) pe_int) pa_nil)))) (pss_one (ps_if (pt_cmpR op_eq (pv 7) pe_int (nomark _)) (pss_one (ps_expr (pe_bm PySem.F.plainAttrs_list PySem.F.slot_list_append PySem.F.type_list_append mt_append (pv 4) (pa_cons (pe_ix (show IxR _ (rIxL K) from ix_list) (pv 3) (pe_op op_mod (pv 9) pe_int) (fun _ _ => rfl)) pa_nil)))) (pss_one (ps_expr (pe_bm PySem.F.plainAttrs_list PySem.F.slot_list_append PySem.F.type_list_append mt_append (pv 4) (pa_cons (pe_op op_add pe_int (pe_op op_mod (pv 9) pe_int)) pa_nil))))))))))))))
      (pss_one (ps_ret (pe_slice (show SlR _ (rSlL K) from sl_list) (pv 4) po_none (po_some (pv 2))))))))), ?_⟩
    show (_ : L2.TS) _ [some _, some _, some _, none, none, none, none, none, none, none] H
    try simp only [Z.kx]
    wtm_at "r"
    refine ⟨by show 25 ≤ sizeLine; decide, fun pa na => ?_⟩
    wtm_at "r"
    refine ⟨by show 20 ≤ sizeLine; decide, fun pb nb => ?_⟩
    have nab : pa ≠ pb := fun z => by rw [z, L2.upd_same] at nb; cases nb
    refine Z.r_cat ((L2.upd_ne nab).trans L2.upd_same) L2.upd_same (by show 25 + 20 ≤ 100000; decide) (fun pc nc => ?_)
    have s1 : Same H (upd (upd (upd H pa (.lst [V.int 48, V.int 49, V.int 50, V.int 51, V.int 52, V.int 53, V.int 54, V.int 55, V.int 56, V.int 57, V.int 65, V.int 66, V.int 67, V.int 68, V.int 69, V.int 70, V.int 71, V.int 72, V.int 73, V.int 74, V.int 75, V.int 76, V.int 77, V.int 78, V.int 79])) pb (.lst [V.int 80, V.int 81, V.int 82, V.int 83, V.int 84, V.int 85, V.int 86, V.int 87, V.int 88, V.int 89, V.int 90, V.int 32, V.int 36, V.int 37, V.int 42, V.int 43, V.int 45, V.int 46, V.int 47, V.int 58])) pc (.lst (nv anL))) := ((Z.s_upd na).trans (Z.s_upd nb)).trans (Z.s_upd nc)
    have h1 : (upd (upd (upd H pa (.lst [V.int 48, V.int 49, V.int 50, V.int 51, V.int 52, V.int 53, V.int 54, V.int 55, V.int 56, V.int 57, V.int 65, V.int 66, V.int 67, V.int 68, V.int 69, V.int 70, V.int 71, V.int 72, V.int 73, V.int 74, V.int 75, V.int 76, V.int 77, V.int 78, V.int 79])) pb (.lst [V.int 80, V.int 81, V.int 82, V.int 83, V.int 84, V.int 85, V.int 86, V.int 87, V.int 88, V.int 89, V.int 90, V.int 32, V.int 36, V.int 37, V.int 42, V.int 43, V.int 45, V.int 46, V.int 47, V.int 58])) pc (.lst (nv anL))) pc = some (.lst (nv anL)) := L2.upd_same
    rw [show ([V.int 48, V.int 49, V.int 50, V.int 51, V.int 52, V.int 53, V.int 54, V.int 55, V.int 56, V.int 57, V.int 65, V.int 66, V.int 67, V.int 68, V.int 69, V.int 70, V.int 71, V.int 72, V.int 73, V.int 74, V.int 75, V.int 76, V.int 77, V.int 78, V.int 79] ++ [V.int 80, V.int 81, V.int 82, V.int 83, V.int 84, V.int 85, V.int 86, V.int 87, V.int 88, V.int 89, V.int 90, V.int 32, V.int 36, V.int 37, V.int 42, V.int 43, V.int 45, V.int 46, V.int 47, V.int 58] : List V) = nv anL from rfl]
    generalize (upd (upd (upd H pa _) pb _) pc _) = H1 at s1 h1
    clear na nb nc nab
    wtm_at "r"
    refine ⟨by show 0 ≤ sizeLine; decide, fun p hp => ?_⟩
    have s2 : Same H1 (upd H1 p (.lst [])) := Z.s_upd hp
    have hp2 : (upd H1 p (.lst [])) p = some (.lst []) := L2.upd_same
    have hpH := Z.s_back s1 hp
    generalize upd H1 p (.lst []) = H2 at s2 hp2
    have hS2 := Z.s_sq s2 (Z.s_sq s1 hS)
    wtm_at "r"
    rw [List.length_map]
    refine Z.rng_go2 (ns.length - 1) (by omega) ⟨by decide, by decide, by omega, by omega⟩ (fun i σ H3 => ∃ (x5 x6 x7 x8 x9 : Option V) (ts : List Nat), σ = [some (.ref a), some (.int 1), some (.int 30), some (.ref pc), some (.ref p), x5, x6, x7, x8, x9] ∧ Same H1 H3 ∧ H3 p = some (.lst (nv ts)) ∧ ts.length ≤ 6 * i ∧ ∀ c ∈ ts, c < 256) ⟨none, none, none, none, none, [], rfl, s2, hp2, by decide, fun c hc => by cases hc⟩ ?_ ?_
    · rintro i σ H3 hi ⟨x5, x6, x7, x8, x9, ts, rfl, s3, hp3, lt, h256⟩
      have hS3 := Z.s_sq s3 (Z.s_sq s1 hS)
      wtm_at "r"
      obtain ⟨cell, ec⟩ : ∃ c, ns[1 + i]? = some c := ⟨_, List.getElem?_eq_getElem (by omega)⟩
      refine Z.r_ixL hS3 (Z.at_map (j := 1 + i) (by omega) ec) ?_
      wtm_at "r"
      obtain ⟨m, em, hm6⟩ : ∃ m : Nat, 1 + cell / 4 % 6 = (m : Int) ∧ m ≤ 6 := ⟨(1 + cell / 4 % 6).toNat, by omega, by omega⟩
      rw [em]
      refine Z.rng_go m (by omega) ⟨by omega, by omega⟩ (fun j σ H4 => ∃ (x8 x9 : Option V) (us : List Nat), σ = [some (.ref a), some (.int 1), some (.int 30), some (.ref pc), some (.ref p), some (.int (1 + (i : Nat))), some (.int cell), some (.int (cell % 4)), x8, x9] ∧ Same H1 H4 ∧ H4 p = some (.lst (nv us)) ∧ us.length ≤ 6 * i + j ∧ ∀ c ∈ us, c < 256) ⟨_, _, ts, rfl, s3, hp3, lt, h256⟩ ?_ ?_
      · clear hp3 h256 lt s3 hS3
        rintro j σ H4 hj ⟨x8, x9, us, rfl, s4, hp4, lt, h256⟩
        have hc4 := s4 _ _ h1
        have fin : ∀ (x8 x9 : Option V) (c : Nat), c < 256 → ∃ (x8' x9' : Option V) (us' : List Nat), [some (V.ref a), some (V.int 1), some (V.int 30), some (V.ref pc), some (V.ref p), some (V.int (1 + (i : Nat))), some (V.int cell), some (V.int (cell % 4)), x8, x9] = [some (V.ref a), some (V.int 1), some (V.int 30), some (V.ref pc), some (V.ref p), some (V.int (1 + (i : Nat))), some (V.int cell), some (V.int (cell % 4)), x8', x9'] ∧ Same H1 (upd H4 p (.lst (nv us ++ [V.int (c : Nat)]))) ∧ (upd H4 p (.lst (nv us ++ [V.int (c : Nat)]))) p = some (.lst (nv us')) ∧ us'.length ≤ 6 * i + (j + 1) ∧ ∀ c ∈ us', c < 256 := fun x8 x9 c hc => ⟨x8, x9, us ++ [c], rfl, Z.s_mut s4 hp, by rw [nv_app]; exact L2.upd_same, by rw [List.length_append]; show us.length + 1 ≤ _; omega, fun c' hc' => by
          rcases List.mem_append.mp hc' with h | h
          · exact h256 c' h
          · rw [List.mem_singleton.mp h]; exact hc⟩
        wtm_at "r"
        generalize cell / (24 * (1 + (j : Nat))) + (j : Nat) = rest
        with_reducible refine Z.i_2 (fun h => ?_) (fun h => ?_)
        · wtm_at "r"
          obtain ⟨c, ec, hc⟩ : ∃ c : Nat, rest % 256 = (c : Int) ∧ c < 256 := ⟨(rest % 256).toNat, by omega, by omega⟩
          rw [ec]
          refine Z.r_append hp4 (Z.szl (by rw [nv_len]; omega)) ?_
          exact fin _ _ c hc
        · wtm_at "r"
          with_reducible refine Z.i_2 (fun h2 => ?_) (fun h2 => ?_)
          · wtm_at "r"
            obtain ⟨c, ec, hc⟩ : ∃ c : Nat, rest % 45 = (c : Int) ∧ c < 45 := ⟨(rest % 45).toNat, by omega, by omega⟩
            rw [ec]
            refine Z.r_ixL (Z.sq_l hc4) (nv_at rfl (by rw [anl_len]; exact hc)) ?_
            wtm_at "r"
            refine Z.r_append hp4 (Z.szl (by rw [nv_len]; omega)) ?_
            exact fin _ _ _ (an_256 c hc)
          · wtm_at "r"
            obtain ⟨c, ec, hc⟩ : ∃ c : Nat, 48 + rest % 10 = (c : Int) ∧ c < 256 := ⟨(48 + rest % 10).toNat, by omega, by omega⟩
            rw [ec]
            refine Z.r_append hp4 (Z.szl (by rw [nv_len]; omega)) ?_
            exact fin _ _ c hc
      · rintro σ H4 ⟨x8, x9, us, rfl, s4, hp4, lu, hu⟩
        exact ⟨_, _, _, _, _, us, rfl, s4, hp4, by omega, hu⟩
    · rintro σ H3 ⟨x5, x6, x7, x8, x9, ts, rfl, s3, hp3, lt, h256⟩
      wtm_at "r"
      refine Z.r_slL (Z.sq_l hp3) (fun r hr => ?_)
      rw [show (some (30 : Int)) = some ((30 : Nat) : Int) from rfl, Z.cut_to, nv_take]
      exact q r _ _ ((s1.trans s3).trans (Z.s_upd hr)) (Z.s_back (s1.trans s3) hr) L2.upd_same (by rw [List.length_take]; omega) fun c hc => h256 c (List.mem_of_mem_take hc)
def sp__law_value (K : PySem.W.Frag) : Sp := fun vs H Q _ => ∃ (c : Nat), vs = [.int c] ∧ c < 256 ∧ ∀ H1, Same H H1 → Q (.int (anL.findIdx (· == c) : Nat)) H1
set_option maxHeartbeats 2000000 in
theorem ok__law_value (T : Top K mg w) : FnOk P w K mg base CX0 1 T.a__law_value T.d__law_value pl__law_value (sp__law_value K) := by
  refine T.F__law_value.ok sc__law_value (fun vs H Q E h => ?_) (fun cdv A outer s H vs Q E hr h => ?_)
  · obtain ⟨c, rfl, _⟩ := h
    rfl
  · obtain ⟨c, rfl, hc, q⟩ := h
    have hu := hu_of hr
    refine ⟨_, (C8.pss_cut (ps_if (pt_chain op_le op_le pe_int (pv 0) pe_int) (pss_one (ps_ret (pe_op op_sub (pv 0) pe_int))) pss_nil)
      (C8.pss_cut (ps_if (pt_chain op_le op_le pe_int (pv 0) pe_int) (pss_one (ps_ret (pe_op op_sub (pv 0) pe_int))) pss_nil)
      (pss_cons (ps_set (i := 1) sc__law_value.nd rfl (Or.inl rfl) (pe_lst (pa_cons pe_int (pa_cons pe_int (pa_cons pe_int (pa_cons pe_int (pa_cons pe_int (pa_cons pe_int (pa_cons pe_int (pa_cons pe_int (pa_cons pe_int pa_nil)))))))))))
      (pss_cons (ps_for PassesOwn.never rfl (pi_range1 rfl T.n_range (pa_cons pe_int pa_nil)) (pg_name (i := 2) sc__law_value.nd rfl (Or.inl rfl)) (pss_one (ps_if (pt_cmpR op_eq (pe_ix (show IxR _ (rIxL K) from ix_list) (pv 1) (pv 2) (fun _ _ => rfl)) (pv 0) (nomark _)) (pss_one (ps_ret (pe_op op_add pe_int (pv 2)))) pss_nil)))
      (pss_one (ps_ret pe_int)))))), ?_⟩
    show (_ : L2.TS) _ [some _, none, none] H
    try simp only [Z.kx]
    obtain ⟨d1, d2, d3⟩ := val_dec c hc
    wtm_at "r"
    refine Z.r_cut (fun σ H1 => σ = [some (.int c), none, none] ∧ H = H1 ∧ ¬ (48 ≤ c ∧ c ≤ 57)) ?_ ?_
    · wtm_at "r"
      with_reducible refine Z.i_2 (fun h1 => ?_) (fun h1 => ?_)
      · wtm_at "r"
        with_reducible refine Z.i_2 (fun h2 => ?_) (fun h2 => ?_)
        · wtm_at "r"
          rw [show (c : Int) - 48 = ((anL.findIdx (· == c) : Nat) : Int) by rw [d1 ⟨by omega, by omega⟩]; omega]
          exact q H (Same.refl _)
        · wtm_at "r"
          exact ⟨rfl, rfl, by omega⟩
      · wtm_at "r"
        exact ⟨rfl, rfl, by omega⟩
    rintro σ H1 ⟨rfl, rfl, hd⟩
    refine Z.r_cut (fun σ H1 => σ = [some (.int c), none, none] ∧ H = H1 ∧ ¬ (65 ≤ c ∧ c ≤ 90)) ?_ ?_
    · wtm_at "r"
      with_reducible refine Z.i_2 (fun h1 => ?_) (fun h1 => ?_)
      · wtm_at "r"
        with_reducible refine Z.i_2 (fun h2 => ?_) (fun h2 => ?_)
        · wtm_at "r"
          rw [show (c : Int) - 55 = ((anL.findIdx (· == c) : Nat) : Int) by rw [d2 ⟨by omega, by omega⟩]; omega]
          exact q H (Same.refl _)
        · wtm_at "r"
          exact ⟨rfl, rfl, by omega⟩
      · wtm_at "r"
        exact ⟨rfl, rfl, by omega⟩
    rintro σ H1 ⟨rfl, rfl, hu⟩
    wtm_at "r"
    refine ⟨by show 9 ≤ sizeLine; decide, fun p hp => ?_⟩
    have s2 : Same H (upd H p (.lst [V.int 32, V.int 36, V.int 37, V.int 42, V.int 43, V.int 45, V.int 46, V.int 47, V.int 58])) := Z.s_upd hp
    have hp2 : (upd H p (.lst [V.int 32, V.int 36, V.int 37, V.int 42, V.int 43, V.int 45, V.int 46, V.int 47, V.int 58])) p = some (.lst (nv sgL)) := L2.upd_same
    generalize upd H p (.lst [V.int 32, V.int 36, V.int 37, V.int 42, V.int 43, V.int 45, V.int 46, V.int 47, V.int 58]) = H2 at s2 hp2
    wtm_at "r"
    refine Z.rng_go 9 rfl ⟨by decide, by decide⟩ (fun k σ H3 => ∃ (x : Option V), σ = [some (.int c), some (.ref p), x] ∧ H2 = H3 ∧ ∀ j, j < k → sgL.getD j 0 ≠ c) ⟨none, rfl, rfl, fun j hj => absurd hj (Nat.not_lt_zero j)⟩ ?_ ?_
    · rintro k σ H3 hk ⟨x, rfl, rfl, hj⟩
      wtm_at "r"
      refine Z.r_ixL (Z.sq_l hp2) (nv_at rfl hk) ?_
      wtm_at "r"
      with_reducible refine Z.i_2 (fun h => ?_) (fun h => ?_)
      · wtm_at "r"
        have e : sgL.getD k 0 = c := by omega
        rw [show (36 : Int) + (k : Nat) = ((anL.findIdx (· == c) : Nat) : Int) by rw [← e, val_sg k hk]; omega]
        exact q _ s2
      · wtm_at "r"
        refine ⟨_, rfl, rfl, fun j hj2 => ?_⟩
        by_cases e : j = k
        · subst e; omega
        · exact hj j (by omega)
    · rintro σ H3 ⟨x, rfl, rfl, hj⟩
      wtm_at "r"
      rw [show (45 : Int) = ((anL.findIdx (· == c) : Nat) : Int) by rw [d3 hd hu hj]; rfl]
      exact q _ s2
def sp__law_allows (K : PySem.W.Frag) : Sp := fun vs H Q _ => ∃ (m c : Nat), vs = [.int m, .int c] ∧ m < 3 ∧ c < 256 ∧ ∀ H1, Same H H1 → Q (.bl (alw m c)) H1
set_option maxHeartbeats 2000000 in
theorem ok__law_allows (T : Top K mg w) : FnOk P w K mg base CX0 2 T.a__law_allows T.d__law_allows pl__law_allows (sp__law_allows K) := by
  refine T.F__law_allows.ok sc__law_allows (fun vs H Q E h => ?_) (fun cdv A outer s H vs Q E hr h => ?_)
  · obtain ⟨m, c, rfl, _⟩ := h
    rfl
  · obtain ⟨m, c, rfl, hm, hc, q⟩ := h
    have hu := hu_of hr
    refine ⟨_, (pss_cons (ps_if (pt_cmpR op_eq (pv 0) pe_int (nomark _)) (pss_one (ps_ret (pe_chain op_le op_le pe_int (pv 1) pe_int))) pss_nil)
      (pss_one (ps_ret (pe_or (pe_cmpR op_eq (pv 0) pe_int (nomark _)) (pe_one (pe_cmpR op_lt (pe_call (ok__law_value T) (hr.mono (by decide)) (by rfl) T.g__law_value T.F__law_value.kp T.b__law_value .nil pass0 (pa_cons (pv 1) pa_nil)) pe_int (nomark _))))))), ?_⟩
    show (_ : L2.TS) _ [some _, some _] H
    try simp only [Z.kx]
    wtm_at "r"
    with_reducible refine Z.i_2 (fun h1 => ?_) (fun h1 => ?_)
    · have e : m = 0 := by omega
      subst e
      wtm_at "r"
      have q' := q H (Same.refl _)
      rw [alw_zero c hc] at q'
      with_reducible refine Z.i_2 (fun h2 => ?_) (fun h2 => ?_)
      · wtm_at "r"
        rw [show Z.dB ((c : Int) ≤ 57) = decide (48 ≤ c ∧ c ≤ 57) from by unfold Z.dB; exact decide_eq_decide.mpr ⟨fun h => by omega, fun h => by omega⟩]
        exact q'
      · rw [show (false : Bool) = decide (48 ≤ c ∧ c ≤ 57) from (decide_eq_false (by omega)).symm]
        exact q'
    · wtm_at "r"
      with_reducible refine Z.i_2 (fun h2 => ?_) (fun h2 => ?_)
      · have e : m = 2 := by omega
        subst e
        exact q H (Same.refl _)
      · have e : m = 1 := by omega
        subst e
        wtm_at "r"
        refine ⟨c, rfl, hc, fun H1 s1 => ?_⟩
        wtm_at "r"
        have q' := q H1 s1
        rw [alw_one c hc] at q'
        rw [show Z.dB (((anL.findIdx (· == c) : Nat) : Int) < 45) = decide (anL.findIdx (· == c) < 45) from by unfold Z.dB; exact decide_eq_decide.mpr ⟨fun h => by omega, fun h => by omega⟩]
        exact q'
def sp__law_cost (K : PySem.W.Frag) : Sp := fun vs H Q _ => ∃ (m k v : Nat), vs = [.int m, .int k, .int v] ∧ m < 3 ∧ k ≤ 30 ∧ 1 ≤ v ∧ v ≤ 40 ∧ ∀ H1, Same H H1 → Q (.int ((4 + cbN m v + conB m k : Nat) : Int)) H1
set_option maxHeartbeats 2000000 in
theorem ok__law_cost (T : Top K mg w) : FnOk P w K mg base CX0 2 T.a__law_cost T.d__law_cost pl__law_cost (sp__law_cost K) := by
  refine T.F__law_cost.ok sc__law_cost (fun vs H Q E h => ?_) (fun cdv A outer s H vs Q E hr h => ?_)
  · obtain ⟨m, k, v, rfl, _⟩ := h
    rfl
  · obtain ⟨m, k, v, rfl, hm, hk, h1, h40, q⟩ := h
    have hu := hu_of hr
    refine ⟨_, (pss_cons (ps_if (pt_cmpR op_eq (pv 0) pe_int (nomark _)) (pss_one (ps_ret (pe_op op_add (pe_op op_add (pe_call (ok__law_head T) (hr.mono (by decide)) (by rfl) T.g__law_head T.F__law_head.kp T.b__law_head .nil pass0 (pa_cons (pv 0) (pa_cons (pv 2) pa_nil))) (pe_op op_mul (pe_op op_fdiv (pv 1) pe_int) pe_int)) (pe_ix (show IxR _ (rIxL K) from ix_list) (pe_lst (pa_cons pe_int (pa_cons pe_int (pa_cons pe_int pa_nil)))) (pe_op op_mod (pv 1) pe_int) (fun _ _ => rfl))))) pss_nil)
      (pss_cons (ps_if (pt_cmpR op_eq (pv 0) pe_int (nomark _)) (pss_one (ps_ret (pe_op op_add (pe_op op_add (pe_call (ok__law_head T) (hr.mono (by decide)) (by rfl) T.g__law_head T.F__law_head.kp T.b__law_head .nil pass0 (pa_cons (pv 0) (pa_cons (pv 2) pa_nil))) (pe_op op_mul (pe_op op_fdiv (pv 1) pe_int) pe_int)) (pe_op op_mul (pe_op op_mod (pv 1) pe_int) pe_int)))) pss_nil)
      (pss_one (ps_ret (pe_op op_add (pe_call (ok__law_head T) (hr.mono (by decide)) (by rfl) T.g__law_head T.F__law_head.kp T.b__law_head .nil pass0 (pa_cons (pv 0) (pa_cons (pv 2) pa_nil))) (pe_op op_mul pe_int (pv 1))))))), ?_⟩
    show (_ : L2.TS) _ [some _, some _, some _] H
    try simp only [Z.kx]
    wtm_at "r"
    with_reducible refine Z.i_2 (fun h => ?_) (fun h => ?_)
    · have e : m = 0 := by omega
      subst e
      wtm_at "r"
      refine ⟨0, v, rfl, hm, h1, h40, fun H1 s1 => ?_⟩
      wtm_at "r"
      refine ⟨by show 3 ≤ sizeLine; decide, fun p hp => ?_⟩
      have hp2 : (upd H1 p (.lst [V.int 0, V.int 4, V.int 7])) p = some (.lst (nv [0, 4, 7])) := L2.upd_same
      have s2 : Same H1 (upd H1 p (.lst [V.int 0, V.int 4, V.int 7])) := Z.s_upd hp
      generalize upd H1 p (.lst [V.int 0, V.int 4, V.int 7]) = H2 at s2 hp2
      wtm_at "r"
      refine Z.r_ixL (Z.sq_l hp2) (nv_at (j := k % 3) (by omega) (Nat.mod_lt _ (by decide))) ?_
      wtm_at "r"
      rw [show ((4 + cbN 0 v : Nat) : Int) + (k : Int) / 3 * 10 + (([0, 4, 7] : List Nat).getD (k % 3) 0 : Nat) = ((4 + cbN 0 v + conB 0 k : Nat) : Int) by rw [con_zero]; push_cast; omega]
      exact q _ (s1.trans s2)
    wtm_at "r"
    with_reducible refine Z.i_2 (fun h2 => ?_) (fun h2 => ?_)
    · have e : m = 1 := by omega
      subst e
      wtm_at "r"
      refine ⟨1, v, rfl, hm, h1, h40, fun H1 s1 => ?_⟩
      wtm_at "r"
      rw [show ((4 + cbN 1 v : Nat) : Int) + (k : Int) / 2 * 11 + (k : Int) % 2 * 6 = ((4 + cbN 1 v + conB 1 k : Nat) : Int) by rw [con_one]; push_cast; omega]
      exact q _ s1
    · have e : m = 2 := by omega
      subst e
      wtm_at "r"
      refine ⟨2, v, rfl, hm, h1, h40, fun H1 s1 => ?_⟩
      wtm_at "r"
      rw [show ((4 + cbN 2 v : Nat) : Int) + 8 * (k : Int) = ((4 + cbN 2 v + conB 2 k : Nat) : Int) by rw [con_two]; push_cast; omega]
      exact q _ s1
end
theorem md_at {m : Nat} (h : m < 3) : (modes.map V.str)[m]? = some (.str (modes.getD m "")) := by
  rcases md_cases h with e | e | e <;> subst e <;> rfl
/-! ## the law's table -/
def bv : Option Sg.Ch → V
  | none => .non
  | some v => .int v.1
def fo (n : Nat) : Option Sg.Ch → Int × Int
  | none => (0, 0)
  | some v => ((n : Int) - (v.2.1 : Nat), (v.2.2 : Nat))
def lF (f : Nat → Sg.Ch) (n b i : Nat) : Int := if n - i ≤ b then (f (n - i)).1 else 0
def gF (f : Nat → Sg.Ch) (n b i : Nat) : Int × Int := if n - i ≤ b ∧ i < n then fo n (some (f (n - i))) else (0, 0)
theorem g_con (v : Nat) (cs : List Nat) {m k : Nat} (hm : m < 3) : Sg.G (tx v cs) m k = ((conB m k : Nat) : Int) := by
  unfold Sg.G conB
  rw [tx_g v cs hm]
  show ((k / gsN m : Nat) : Int) * wI m (gsN m) + wI m (k % gsN m) = _
  unfold wI
  rw [Int.natCast_add, Int.natCast_mul]
theorem run_next {v : Nat} {cs : List Nat} {m d k : Nat} (h : Sg.Run (tx v cs) m d k) (hk : k < d) (ha : (tx v cs).al m (d - k)) : Sg.Run (tx v cs) m d (k + 1) := ⟨hk, fun i hi => by
  by_cases e : i = k
  · subst e; exact ha
  · exact h.2 i (by omega)⟩
theorem sofar_le {X : Sg.Tx} {L : Nat → Int} {d m j : Nat} {b : Sg.Ch} (h : Sg.Sofar X L d m j (some b)) : b.2.1 < d := by
  obtain ⟨m', j', a, h1, c, e, f⟩ := h.1
  rw [f]
  have := c.1
  show d - j' < d
  omega
section
variable {P : Program} {w : World} {K : PySem.W.Frag} {mg : Str → Option Value} {base : Heap}
def sp__law_due (K : PySem.W.Frag) : Sp := fun vs H Q _ => ∃ (a : Addr) (cs : List Nat) (v : Nat), vs = [.ref a, .int v] ∧ H a = some (.lst (nv cs)) ∧ cs.length ≤ 30 ∧ (∀ c ∈ cs, c < 256) ∧ 1 ≤ v ∧ v ≤ 40 ∧ ∀ (p ps : Addr) (H1 : Hp) (f : Nat → Sg.Ch), Same H H1 → Sg.Tab (tx v cs) f cs.length → H1 p = some (.tup [.int (f cs.length).1, .ref ps]) → H ps = none → SegsAt H1 ps (segC cs (Sg.segs f cs.length cs.length) cs.length) → Q (.ref p) H1
set_option maxHeartbeats 2000000 in
theorem ok__law_due (T : Top K mg w) : FnOk P w K mg base CX0 3 T.a__law_due T.d__law_due pl__law_due (sp__law_due K) := by
  refine T.F__law_due.ok sc__law_due (fun vs H Q E h => ?_) (fun cdv A outer s H vs Q E hr h => ?_)
  · obtain ⟨a, cs, v, rfl, _⟩ := h
    rfl
  · obtain ⟨a, cs, v, rfl, ha, hl, h256, h1, h40, q⟩ := h
    have hu := hu_of hr
    refine ⟨_, (pss_cons (ps_setLc (i := 2) (own := [("k", 3)]) (tt := tYes) rfl sc__law_due.nd rfl rfl (sw_true rfl rfl rfl (by decide +kernel)) (pi_range1 rfl T.n_range (pa_cons (pe_op op_add (pe_callB (show CallR _ _ (Z.cLen K) from Z.call_len) (by rfl) T.n_len (by decide +kernel) (pa_cons (pv 0) pa_nil)) pe_int) pa_nil)) (blkOk_by (N := sl__law_due) (sc := defScope s__law_due) (by decide +kernel)) (fun _ _ _ _ _ => (pg_name (i := 3) sc__law_due.nd rfl (Or.inl rfl))) (fun _ _ _ _ _ => pts_nil) (fun _ _ _ _ _ => pe_int))
      (pss_cons (ps_setLc (i := 4) (own := [("k", 3)]) (tt := tYes) rfl sc__law_due.nd rfl rfl (sw_true rfl rfl rfl (by decide +kernel)) (pi_range1 rfl T.n_range (pa_cons (pe_op op_add (pe_callB (show CallR _ _ (Z.cLen K) from Z.call_len) (by rfl) T.n_len (by decide +kernel) (pa_cons (pv 0) pa_nil)) pe_int) pa_nil)) (blkOk_by (N := sl__law_due) (sc := defScope s__law_due) (by decide +kernel)) (fun _ _ _ _ _ => (pg_name (i := 3) sc__law_due.nd rfl (Or.inl rfl))) (fun _ _ _ _ _ => pts_nil) (fun _ _ _ _ _ => (pe_tup (pa_cons pe_int (pa_cons pe_int pa_nil)))))
      (pss_cons (ps_for PassesOwn.never rfl (pi_range1 rfl T.n_range (pa_cons (pe_callB (show CallR _ _ (Z.cLen K) from Z.call_len) (by rfl) T.n_len (by decide +kernel) (pa_cons (pv 0) pa_nil)) pa_nil)) (pg_name (i := 5) sc__law_due.nd rfl (Or.inl rfl)) (pss_cons (ps_set (i := 6) sc__law_due.nd rfl (Or.inl rfl) (pe_op op_sub (pe_op op_sub (pe_callB (show CallR _ _ (Z.cLen K) from Z.call_len) (by rfl) T.n_len (by decide +kernel) (pa_cons (pv 0) pa_nil)) pe_int) (pv 5)))
      (pss_cons (ps_set (i := 7) sc__law_due.nd rfl (Or.inl rfl) pe_non)
      (pss_cons (ps_for PassesOwn.never rfl (pi_range1 rfl T.n_range (pa_cons pe_int pa_nil)) (pg_name (i := 8) sc__law_due.nd rfl (Or.inl rfl)) (pss_one (ps_for PassesOwn.never rfl (pi_range2 rfl T.n_range (pa_cons (pe_op op_add (pv 6) pe_int) (pa_cons (pe_op op_add (pe_callB (show CallR _ _ (Z.cLen K) from Z.call_len) (by rfl) T.n_len (by decide +kernel) (pa_cons (pv 0) pa_nil)) pe_int) pa_nil))) (pg_name (i := 9) sc__law_due.nd rfl (Or.inl rfl)) (pss_cons (ps_if (pt_not (pt_val (pe_call (ok__law_allows T) (hr.mono (by decide)) (by rfl) T.g__law_allows T.F__law_allows.kp T.b__law_allows .nil pass0 (pa_cons (pv 8) (pa_cons (pe_ix (show IxR _ (rIxL K) from ix_list) (pv 0) (pe_op op_sub (pv 9) pe_int) (fun _ _ => rfl)) pa_nil))))) (pss_one ps_break) pss_nil)
      (pss_cons (ps_set (i := 10) sc__law_due.nd rfl (Or.inl rfl) (pe_op op_add (pe_call (ok__law_cost T) (hr.mono (by decide)) (by rfl) T.g__law_cost T.F__law_cost.kp T.b__law_cost .nil pass0 (pa_cons (pv 8) (pa_cons (pe_op op_sub (pv 9) (pv 6)) (pa_cons (pv 1) pa_nil)))) (pe_ix (show IxR _ (rIxL K) from ix_list) (pv 2) (pv 9) (fun _ _ => rfl))))
      (pss_one (ps_if (PW.pt (pw_or (pt_cmpR Z.op_isN (pv 7) pe_non (nomark _)) (pw_or (pt_cmpR op_lt (pv 10) (pv 7) (nomark _)) (pw_or1 (PW.pt (pw_and (pt_cmpR op_eq (pv 10) (pv 7) (nomark _)) (pw_and1 (pt_cmpR op_gt (pv 9) (pe_ix (show IxR _ (rIxT K) from ix_tup) (pe_ix (show IxR _ (rIxL K) from ix_list) (pv 4) (pv 6) (fun _ _ => rfl)) pe_int (fun _ _ => rfl)) (nomark _))))))))) (pss_cons (ps_set (i := 7) sc__law_due.nd rfl (Or.inl rfl) (pv 10))
      (pss_one (ps_asg (pe_tup (pa_cons (pv 9) (pa_cons (pv 8) pa_nil))) (pg_sub (pv 4) (pv 6) set_list)))) pss_nil)))))))
      (pss_one (ps_asg (pv 7) (pg_sub (pv 2) (pv 6) set_list)))))))
      (pss_cons (ps_set (i := 11) sc__law_due.nd rfl (Or.inl rfl) (pe_lst pa_nil))
      (pss_cons (ps_set (i := 6) sc__law_due.nd rfl (Or.inl rfl) pe_int)
      (pss_cons (ps_for PassesOwn.never rfl (pi_range1 rfl T.n_range (pa_cons (pe_callB (show CallR _ _ (Z.cLen K) from Z.call_len) (by rfl) T.n_len (by decide +kernel) (pa_cons (pv 0) pa_nil)) pa_nil)) (pg_name (i := 12) sc__law_due.nd rfl (Or.inl rfl)) (pss_one (ps_if (pt_cmpR op_lt (pv 6) (pe_callB (show CallR _ _ (Z.cLen K) from Z.call_len) (by rfl) T.n_len (by decide +kernel) (pa_cons (pv 0) pa_nil)) (nomark _)) (pss_cons (ps_set (i := 9) sc__law_due.nd rfl (Or.inl rfl) (pe_ix (show IxR _ (rIxT K) from ix_tup) (pe_ix (show IxR _ (rIxL K) from ix_list) (pv 4) (pv 6) (fun _ _ => rfl)) pe_int (fun _ _ => rfl)))
      (pss_cons (ps_expr (pe_bm PySem.F.plainAttrs_list PySem.F.slot_list_append PySem.F.type_list_append mt_append (pv 11) (pa_cons (pe_tup (pa_cons (pe_ix (show IxR _ (rIxL K) from ix_list) (pe_lst (pa_cons pe_str (pa_cons pe_str (pa_cons pe_str pa_nil)))) (pe_ix (show IxR _ (rIxT K) from ix_tup) (pe_ix (show IxR _ (rIxL K) from ix_list) (pv 4) (pv 6) (fun _ _ => rfl)) pe_int (fun _ _ => rfl)) (fun _ _ => rfl)) (pa_cons (pe_slice (show SlR _ (rSlL K) from sl_list) (pv 0) (po_some (pv 6)) (po_some (pv 9))) pa_nil))) pa_nil)))
      (pss_one (ps_set (i := 6) sc__law_due.nd rfl (Or.inl rfl) (pv 9))))) pss_nil)))
      (pss_one (ps_ret (pe_tup (pa_cons (pe_ix (show IxR _ (rIxL K) from ix_list) (pv 2) pe_int (fun _ _ => rfl)) (pa_cons (pv 11) pa_nil))))))))))), ?_⟩
    show (_ : L2.TS) _ [some _, some _, none, none, none, none, none, none, none, none, none, none, none] H
    try simp only [Z.kx]
    wtm_at "r"
    rw [nv_len, show ((cs.length : Nat) : Int) + 1 = ((cs.length + 1 : Nat) : Int) by omega]
    refine Z.lcr_pure (cs.length + 1) (fun _ => V.int 0) rfl ⟨by omega, by omega⟩ (by omega) (fun _ => rfl) ?_ ?_
    · intro i H2 hi s2 k kk
      wtm_at "w"
      wtm_at "r"
      exact kk _ (Same.refl _)
    intro pl H2 hpl s2 h2
    wtm_at "r"
    have ha2 := s2 _ _ ha
    wtm_at "r"
    rw [nv_len, show ((cs.length : Nat) : Int) + 1 = ((cs.length + 1 : Nat) : Int) by omega]
    refine Z.lcr_data (cs.length + 1) (fun a => H a = none ∧ a ≠ pl) (fun _ => Z.dI2 (0, 0)) rfl ⟨by omega, by omega⟩ (by omega) (fun _ => rfl) (fun x hx => ⟨Z.s_back s2 hx, fun z => by rw [z, h2] at hx; cases hx⟩) ?_ ?_
    · intro i H3 hi s3 KY ky
      wtm_at "w"
      wtm_at "r"
      refine ⟨by show 2 ≤ sizeLine; decide, fun t ht => ?_⟩
      exact ky _ _ (Z.s_upd ht) (Z.Da.i2 (p := (0, 0)) (.inl ht) L2.upd_same)
    intro pf H3 hpf0 s3 ow0
    have s03 := s2.trans s3
    have hpl3 := s3 _ _ h2
    have hpf : H pf = none := Z.s_back s2 hpf0
    have npf : pf ≠ pl := fun z => by rw [z, h2] at hpf0; cases hpf0
    clear h2 hpf0
    rw [show ((List.range (cs.length + 1)).map fun _ => V.int 0) = Z.rl (cs.length + 1) (fun i => V.int (lF (fun _ => (0, 0, 0)) cs.length 0 i)) from Z.rl_congr fun i hi => by unfold lF; split <;> rfl] at hpl3
    rw [show ((List.range (cs.length + 1)).map fun _ => Z.dI2 (0, 0)) = Z.rl (cs.length + 1) (fun i => Z.dI2 (gF (fun _ => (0, 0, 0)) cs.length 0 i)) from Z.rl_congr fun i hi => by unfold gF; rw [if_neg (by omega)]] at ow0
    have al2 : ∀ c, alw 2 c = true := fun c => by unfold alw; simp
    wtm_at "r"
    rw [nv_len]
    refine Z.rng_go cs.length rfl ⟨by omega, by omega⟩ (fun b σ H4 => ∃ (f : Nat → Sg.Ch) (x5 x6 x7 x8 x9 x10 : Option V), σ = [some (.ref a), some (.int v), some (.ref pl), none, some (.ref pf), x5, x6, x7, x8, x9, x10, none, none] ∧ Same H H4 ∧ H4 pl = some (.lst (Z.rl (cs.length + 1) fun i => V.int (lF f cs.length b i))) ∧ Z.Ow (fun a => H a = none ∧ a ≠ pl) H4 pf (Z.rl (cs.length + 1) fun i => Z.dI2 (gF f cs.length b i)) ∧ Sg.Tab (tx v cs) f b) ⟨_, none, none, none, none, none, none, rfl, s03, hpl3, ow0, ⟨rfl, fun d h1 h2 => absurd h1 (by omega)⟩⟩ ?_ ?_
    · clear s2 s3 s03 hpl3 ow0 ha2
      rintro b σ H4 hb ⟨f, x5, x6, x7, x8, x9, x10, rfl, s4, hl4, ow4, tab⟩
      have ha4 := s4 _ _ ha
      wtm_at "r"
      rw [nv_len, show (cs.length : Int) - 1 - (b : Nat) = ((cs.length - 1 - b : Nat) : Int) by omega]
      have egF : (Z.rl (cs.length + 1) fun i => Z.dI2 (gF f cs.length b i)) = Z.rl (cs.length + 1) fun i => Z.dI2 (if i = cs.length - 1 - b then fo cs.length none else gF f cs.length b i) := Z.rl_congr fun i hi => by
        by_cases e : i = cs.length - 1 - b
        · subst e
          rw [if_pos rfl]; unfold gF
          rw [if_neg (by omega)]; rfl
        · rw [if_neg e]
      rw [egF] at ow4
      clear egF
      refine Z.rng_go 3 rfl ⟨by decide, by decide⟩ (fun m σ H5 => ∃ (o : Option Sg.Ch) (x8 x9 x10 : Option V), σ = [some (.ref a), some (.int v), some (.ref pl), none, some (.ref pf), some (.int b), some (.int (cs.length - 1 - b : Nat)), some (bv o), x8, x9, x10, none, none] ∧ Same H H5 ∧ H5 pl = some (.lst (Z.rl (cs.length + 1) fun i => V.int (lF f cs.length b i))) ∧ Z.Ow (fun a => H a = none ∧ a ≠ pl) H5 pf (Z.rl (cs.length + 1) fun i => Z.dI2 (if i = cs.length - 1 - b then fo cs.length o else gF f cs.length b i)) ∧ Sg.Sofar (tx v cs) (fun i => (f i).1) (b + 1) m 0 o) ⟨none, _, _, _, rfl, s4, hl4, ow4, Sg.sofar_zero _ _ _⟩ ?_ ?_
      · clear s4 hl4 ow4 ha4
        rintro m σ H5 hm ⟨o, x8, x9, x10, rfl, s5, hl5, ow5, sf⟩
        have ha5 := s5 _ _ ha
        wtm_at "r"
        rw [nv_len, show ((cs.length - 1 - b : Nat) : Int) + 1 = ((cs.length - b : Nat) : Int) by omega, show ((cs.length : Nat) : Int) + 1 = ((cs.length + 1 : Nat) : Int) by omega]
        refine Z.rng_go2 (b + 1) (by omega) ⟨by omega, by omega, by omega, by omega⟩ (fun k σ H6 => ∃ (o : Option Sg.Ch) (x9 x10 : Option V), σ = [some (.ref a), some (.int v), some (.ref pl), none, some (.ref pf), some (.int b), some (.int (cs.length - 1 - b : Nat)), some (bv o), some (.int m), x9, x10, none, none] ∧ Same H H6 ∧ H6 pl = some (.lst (Z.rl (cs.length + 1) fun i => V.int (lF f cs.length b i))) ∧ Z.Ow (fun a => H a = none ∧ a ≠ pl) H6 pf (Z.rl (cs.length + 1) fun i => Z.dI2 (if i = cs.length - 1 - b then fo cs.length o else gF f cs.length b i)) ∧ Sg.Run (tx v cs) m (b + 1) k ∧ Sg.Sofar (tx v cs) (fun i => (f i).1) (b + 1) m k o) ⟨o, _, _, rfl, s5, hl5, ow5, ⟨Nat.zero_le _, fun i hi => absurd hi (Nat.not_lt_zero i)⟩, sf⟩ ?_ ?_
        · clear s5 hl5 ow5 sf ha5
          rintro k σ H6 hk ⟨o, x9, x10, rfl, s6, hl6, ow6, run, sf⟩
          have ha6 := s6 _ _ ha
          rw [show ((cs.length - b : Nat) : Int) + (k : Nat) = ((cs.length - b + k : Nat) : Int) by omega]
          have hc := h256 (cs.getD (cs.length - 1 - b + k) 0) (by rw [List.getD_eq_getElem?_getD, List.getElem?_eq_getElem (by omega)]; exact List.getElem_mem _)
          have eal : (tx v cs).al m (b + 1 - k) ↔ alw m (cs.getD (cs.length - 1 - b + k) 0) = true := by
            show alw m (cs.getD (cs.length - (b + 1 - k)) 0) = true ↔ _
            rw [show cs.length - (b + 1 - k) = cs.length - 1 - b + k by omega]
          wtm_at "r"
          refine Z.r_ixL (Z.sq_l ha6) (nv_at (j := cs.length - 1 - b + k) (by omega) (by omega)) ?_
          generalize cs.getD (cs.length - 1 - b + k) 0 = c at hc eal
          wtm_at "r"
          refine ⟨m, c, rfl, hm, hc, fun H7 s7 => ?_⟩
          wtm_at "r"
          cases hal : alw m c with
          | false =>
            refine Z.i_nt ?_
            wtm_at "r"
            exact ⟨o, _, _, _, rfl, s6.trans s7, s7 _ _ hl6, ow6.same s7, Sg.sofar_next _ sf fun z => by rw [eal.mp (by have := z.2 k (by omega); exact this)] at hal; cases hal⟩
          | true =>
            refine Z.i_nf ?_
            have ha1 := eal.mpr hal
            clear eal hal hc
            have run1 := run_next run hk ha1
            have s7' := s6.trans s7
            have hl7 := s7 _ _ hl6
            have ow7 := ow6.same s7
            clear s6 s7 hl6 ow6 ha6
            have ecand : Sg.Cand (tx v cs) (fun i => (f i).1) (b + 1) m (k + 1) = (((4 + cbN m v + conB m (k + 1) : Nat) : Int) + (f (b - k)).1, b - k, m) := by
              unfold Sg.Cand
              rw [g_con v cs hm, show b + 1 - (k + 1) = b - k by omega]
              show (((4 + cbN m v : Nat) : Int) + _ + _, _, _) = _
              rw [← Int.natCast_add]
            wtm_at "r"
            rw [show ((cs.length - b + k : Nat) : Int) - ((cs.length - 1 - b : Nat) : Int) = ((k + 1 : Nat) : Int) by omega]
            refine ⟨m, k + 1, v, rfl, hm, by omega, h1, h40, fun H8 s8 => ?_⟩
            have hl8 := s8 _ _ hl7
            wtm_at "r"
            refine Z.r_ixL (Z.sq_l hl8) (atI_nat (Z.rl_at _ (show cs.length - b + k < cs.length + 1 by omega))) ?_
            have elf : lF f cs.length b (cs.length - b + k) = (f (b - k)).1 := by
              unfold lF
              rw [if_pos (by omega), show cs.length - (cs.length - b + k) = b - k by omega]
            rw [elf]
            wtm_at "r"
            generalize hbits : ((4 + cbN m v + conB m (k + 1) : Nat) : Int) + (f (b - k)).1 = bits at ecand
            have s8' := s7'.trans s8
            have ow8 := ow7.same s8
            clear s7' s8 hl7 ow7 elf
            have take : Sg.better o (bits, b - k, m) → ∀ σ' H', (∃ x9, σ' = [some (.ref a), some (.int v), some (.ref pl), none, some (.ref pf), some (.int b), some (.int (cs.length - 1 - b : Nat)), some (.int bits), some (.int m), some (.int (cs.length - b + k : Nat)), x9, none, none]) → Same H H' → H' pl = some (.lst (Z.rl (cs.length + 1) fun i => V.int (lF f cs.length b i))) → Z.Ow (fun a => H a = none ∧ a ≠ pl) H' pf (Z.rl (cs.length + 1) fun i => Z.dI2 (if i = cs.length - 1 - b then fo cs.length (some (bits, b - k, m)) else gF f cs.length b i)) → ∃ (o : Option Sg.Ch) (x9 x10 : Option V), σ' = [some (.ref a), some (.int v), some (.ref pl), none, some (.ref pf), some (.int b), some (.int (cs.length - 1 - b : Nat)), some (bv o), some (.int m), x9, x10, none, none] ∧ Same H H' ∧ H' pl = some (.lst (Z.rl (cs.length + 1) fun i => V.int (lF f cs.length b i))) ∧ Z.Ow (fun a => H a = none ∧ a ≠ pl) H' pf (Z.rl (cs.length + 1) fun i => Z.dI2 (if i = cs.length - 1 - b then fo cs.length o else gF f cs.length b i)) ∧ Sg.Run (tx v cs) m (b + 1) (k + 1) ∧ Sg.Sofar (tx v cs) (fun i => (f i).1) (b + 1) m (k + 1) o := by
              rintro hbt σ' H' ⟨x9, rfl⟩ s' hl' ow'
              refine ⟨some (bits, b - k, m), _, _, rfl, s', hl', ow', run1, ?_⟩
              have := Sg.sofar_take _ hm sf run1 (by rw [ecand]; exact hbt)
              rwa [ecand] at this
            have keep : ∀ w, o = some w → ¬ Sg.better (some w) (bits, b - k, m) → ∀ (x10 : Option V), ∃ (o' : Option Sg.Ch) (x9 x10' : Option V), [some (.ref a), some (.int v), some (.ref pl), none, some (.ref pf), some (.int b), some (.int (cs.length - 1 - b : Nat)), some (bv o), some (.int m), some (.int (cs.length - b + k : Nat)), x10, none, none] = [some (.ref a), some (.int v), some (.ref pl), none, some (.ref pf), some (.int b), some (.int (cs.length - 1 - b : Nat)), some (bv o'), some (.int m), x9, x10', none, none] ∧ Same H H8 ∧ H8 pl = some (.lst (Z.rl (cs.length + 1) fun i => V.int (lF f cs.length b i))) ∧ Z.Ow (fun a => H a = none ∧ a ≠ pl) H8 pf (Z.rl (cs.length + 1) fun i => Z.dI2 (if i = cs.length - 1 - b then fo cs.length o' else gF f cs.length b i)) ∧ Sg.Run (tx v cs) m (b + 1) (k + 1) ∧ Sg.Sofar (tx v cs) (fun i => (f i).1) (b + 1) m (k + 1) o' := by
              rintro w rfl hn x10
              exact ⟨some w, _, _, rfl, s8', hl8, ow8, run1, Sg.sofar_keep _ hm sf run1 (by rw [ecand]; exact hn)⟩
            have store : Sg.better o (bits, b - k, m) → ∀ t, H8 t = none → ∃ xs, (upd H8 t (.tup [.int (cs.length - b + k : Nat), .int m])) pf = some (.lst xs) ∧ cs.length - 1 - b < xs.length ∧ ∃ (o : Option Sg.Ch) (x9 x10 : Option V), [some (.ref a), some (.int v), some (.ref pl), none, some (.ref pf), some (.int b), some (.int (cs.length - 1 - b : Nat)), some (.int bits), some (.int m), some (.int (cs.length - b + k : Nat)), some (.int bits), none, none] = [some (.ref a), some (.int v), some (.ref pl), none, some (.ref pf), some (.int b), some (.int (cs.length - 1 - b : Nat)), some (bv o), some (.int m), x9, x10, none, none] ∧ Same H (upd (upd H8 t (.tup [.int (cs.length - b + k : Nat), .int m])) pf (.lst (xs.set (cs.length - 1 - b) (.ref t)))) ∧ (upd (upd H8 t (.tup [.int (cs.length - b + k : Nat), .int m])) pf (.lst (xs.set (cs.length - 1 - b) (.ref t)))) pl = some (.lst (Z.rl (cs.length + 1) fun i => V.int (lF f cs.length b i))) ∧ Z.Ow (fun a => H a = none ∧ a ≠ pl) (upd (upd H8 t (.tup [.int (cs.length - b + k : Nat), .int m])) pf (.lst (xs.set (cs.length - 1 - b) (.ref t)))) pf (Z.rl (cs.length + 1) fun i => Z.dI2 (if i = cs.length - 1 - b then fo cs.length o else gF f cs.length b i)) ∧ Sg.Run (tx v cs) m (b + 1) (k + 1) ∧ Sg.Sofar (tx v cs) (fun i => (f i).1) (b + 1) m (k + 1) o := by
              intro hbt t ht
              obtain ⟨rp, xs, hxs, l⟩ := id ow8
              have s9 : Same H8 (upd H8 t (.tup [.int (cs.length - b + k : Nat), .int m])) := Z.s_upd ht
              refine ⟨xs, s9 _ _ hxs, by rw [l.len, Z.rl_len]; omega, ?_⟩
              refine take hbt _ _ ⟨_, rfl⟩ (Z.s_mut (s8'.trans s9) hpf) ((L2.upd_ne npf.symm).trans (s9 _ _ hl8)) ?_
              have h := ow8.put s9 (s9 _ _ hxs) (v := .ref t) (d := Z.dI2 (fo cs.length (some (bits, b - k, m)))) (Z.Da.i2 ⟨⟨Z.s_back s8' ht, fun z => by rw [z, hl8] at ht; cases ht⟩, fun z => by rw [z, hxs] at ht; cases ht⟩ (by rw [L2.upd_same]; show _ = some (HO.tup [V.int ((cs.length : Int) - ((b - k : Nat) : Int)), V.int (m : Nat)]); rw [show (cs.length : Int) - ((b - k : Nat) : Int) = ((cs.length - b + k : Nat) : Int) by omega])) (cs.length - 1 - b)
              rw [Z.rl_set (g := fun i => Z.dI2 (if i = cs.length - 1 - b then fo cs.length (some (bits, b - k, m)) else gF f cs.length b i)) (by rw [if_pos rfl]) (fun i _ ne => by rw [if_neg ne, if_neg ne])] at h
              exact h
            have wr : Sg.better o (bits, b - k, m) → ∀ (Q' : L2.St → Hp → Prop), (∀ σ' H', (∃ (o : Option Sg.Ch) (x9 x10 : Option V), σ' = [some (.ref a), some (.int v), some (.ref pl), none, some (.ref pf), some (.int b), some (.int (cs.length - 1 - b : Nat)), some (bv o), some (.int m), x9, x10, none, none] ∧ Same H H' ∧ H' pl = some (.lst (Z.rl (cs.length + 1) fun i => V.int (lF f cs.length b i))) ∧ Z.Ow (fun a => H a = none ∧ a ≠ pl) H' pf (Z.rl (cs.length + 1) fun i => Z.dI2 (if i = cs.length - 1 - b then fo cs.length o else gF f cs.length b i)) ∧ Sg.Run (tx v cs) m (b + 1) (k + 1) ∧ Sg.Sofar (tx v cs) (fun i => (f i).1) (b + 1) m (k + 1) o) → Q' σ' H') → True := fun _ _ _ => trivial
            clear wr
            cases o with
            | none =>
              wtm_at "r"
              refine Z.r_isN ?_
              wtm_at "r"
              refine Z.i_dt rfl ?_
              wtm_at "r"
              refine ⟨by show 2 ≤ sizeLine; decide, fun t ht => ?_⟩
              obtain ⟨xs, g1, g2, g3⟩ := store trivial t ht
              wtm_at "r"
              exact Z.r_setL g1 rfl g2 g3
            | some w =>
              have hw := sofar_le sf
              have bt : Sg.better (some w) (bits, b - k, m) ↔ bits < w.1 ∨ (bits = w.1 ∧ b - k < w.2.1) := Iff.rfl
              wtm_at "r"
              refine Z.r_isN ?_
              wtm_at "r"
              refine Z.i_df (fun z => by cases z) ?_
              unfold bv
              wtm_at "r"
              with_reducible refine Z.i_2 (fun c1 => ?_) (fun c1 => ?_)
              · wtm_at "r"
                refine ⟨by show 2 ≤ sizeLine; decide, fun t ht => ?_⟩
                obtain ⟨xs, g1, g2, g3⟩ := store (bt.mpr (.inl c1)) t ht
                wtm_at "r"
                exact Z.r_setL g1 rfl g2 g3
              wtm_at "r"
              with_reducible refine Z.i_2 (fun c2 => ?_) (fun c2 => ?_)
              · wtm_at "r"
                refine Z.r_ixD ow8.da (j := cs.length - 1 - b) rfl (Z.rl_at _ (by omega)) (fun x dx => ?_)
                rw [if_pos rfl] at dx
                obtain ⟨t0, rfl, _, ht0⟩ := Z.da_i2 dx
                wtm_at "r"
                refine Z.r_ixT (Z.sq_t ht0) (show atI _ ((0 : Nat) : Int) = some _ from atI_nat rfl) ?_
                wtm_at "r"
                with_reducible refine Z.i_2 (fun c3 => ?_) (fun c3 => ?_)
                · wtm_at "r"
                  refine ⟨by show 2 ≤ sizeLine; decide, fun t ht => ?_⟩
                  have c3' : (cs.length : Int) - (w.2.1 : Nat) < ((cs.length - b + k : Nat) : Int) := c3
                  obtain ⟨xs, g1, g2, g3⟩ := store (bt.mpr (.inr ⟨c2, by omega⟩)) t ht
                  wtm_at "r"
                  exact Z.r_setL g1 rfl g2 g3
                · wtm_at "r"
                  have c3' : ¬ (cs.length : Int) - (w.2.1 : Nat) < ((cs.length - b + k : Nat) : Int) := c3
                  exact keep w rfl (fun z => by have := bt.mp z; omega) _
              · wtm_at "r"
                exact keep w rfl (fun z => by have := bt.mp z; omega) _
        · clear s5 hl5 ow5 sf ha5
          rintro σ H6 ⟨o, x9, x10, rfl, s6, hl6, ow6, run, sf⟩
          exact ⟨o, _, _, _, rfl, s6, hl6, ow6, Sg.sofar_next _ sf fun z => by have := z.1; omega⟩
      · clear s4 hl4 ow4 ha4
        rintro σ H5 ⟨o, x8, x9, x10, rfl, s5, hl5, ow5, sf⟩
        obtain ⟨w, rfl⟩ := Sg.sofar_some _ sf (by omega) (al2 _)
        have best := Sg.sofar_end _ sf
        wtm_at "r"
        refine Z.r_setL hl5 rfl (by rw [Z.rl_len]; omega) ?_
        refine ⟨grow f b w, _, _, _, _, _, _, rfl, Z.s_mut s5 hpl, ?_, ?_, tab_grow tab best⟩
        · rw [L2.upd_same]
          refine congrArg (fun z => some (HO.lst z)) (Z.rl_set ?_ fun i hi ne => ?_)
          · show V.int (lF (grow f b w) _ _ _) = V.int w.1
            unfold lF
            rw [if_pos (by omega), show cs.length - (cs.length - 1 - b) = b + 1 by omega, grow_new]
          · show V.int (lF (grow f b w) _ _ _) = V.int (lF f _ _ _)
            unfold lF
            by_cases c : cs.length - i ≤ b
            · rw [if_pos c, if_pos (by omega), grow_old c]
            · rw [if_neg c, if_neg (by omega)]
        · have h := ow5.mono (r' := fun a => H a = none ∧ a ≠ pl) (H' := upd H5 pl (.lst ((Z.rl (cs.length + 1) fun i => V.int (lF f cs.length b i)).set (cs.length - 1 - b) (bv (some w))))) fun a o ra e => ⟨ra, (L2.upd_ne ra.2).trans e⟩
          rw [show (Z.rl (cs.length + 1) fun i => Z.dI2 (gF (grow f b w) cs.length (b + 1) i)) = Z.rl (cs.length + 1) fun i => Z.dI2 (if i = cs.length - 1 - b then fo cs.length (some w) else gF f cs.length b i) from Z.rl_congr fun i hi => by
            by_cases e : i = cs.length - 1 - b
            · subst e
              rw [if_pos rfl]; unfold gF
              rw [if_pos ⟨by omega, by omega⟩, show cs.length - (cs.length - 1 - b) = b + 1 by omega, grow_new]
            · rw [if_neg e]; unfold gF
              by_cases c : cs.length - i ≤ b ∧ i < cs.length
              · rw [if_pos c, if_pos ⟨by omega, c.2⟩, grow_old c.1]
              · rw [if_neg c, if_neg (by omega)]]
          exact h
    · clear s2 s3 s03 hpl3 ow0 ha2
      rintro σ H4 ⟨f, x5, x6, x7, x8, x9, x10, rfl, s4, hl4, ow4, tab⟩
      wtm_at "r"
      refine ⟨by show 0 ≤ sizeLine; decide, fun p hp => ?_⟩
      have s5 : Same H4 (upd H4 p (.lst [])) := Z.s_upd hp
      have hp5 : (upd H4 p (.lst [])) p = some (.lst []) := L2.upd_same
      have hpH := Z.s_back s4 hp
      have hl5 := s5 _ _ hl4
      have da5 := (ow4.same s5).da
      generalize upd H4 p (.lst []) = H5 at s5 hp5 hl5 da5
      have s05 := s4.trans s5
      have ha5 := s05 _ _ ha
      wtm_at "r"
      rw [nv_len]
      have da6 : ∀ H6 : Hp, (∀ x o, H5 x = some o → x ≠ p → H6 x = some o) → Z.Da (fun a => H a = none ∧ a ≠ pl) H6 (.ref pf) (.list (Z.rl (cs.length + 1) fun i => Z.dI2 (gF f cs.length cs.length i))) := fun H6 k => (ow4.da).mono fun a o ra e => ⟨ra, k _ _ (s5 _ _ e) (fun z => by rw [z, hp] at e; cases e)⟩
      have pln : pl ≠ p := fun z => by rw [z, hp] at hl4; cases hl4
      refine Z.rng_go cs.length rfl ⟨by omega, by omega⟩ (fun t σ H6 => ∃ (d : Nat) (acc : List (Nat × List Nat)) (x9 x12 : Option V), σ = [some (.ref a), some (.int v), some (.ref pl), none, some (.ref pf), x5, some (.int (cs.length - d : Nat)), x7, x8, x9, x10, some (.ref p), x12] ∧ d ≤ cs.length - t ∧ d ≤ cs.length ∧ acc.length + d ≤ cs.length ∧ Same H H6 ∧ (∀ x o, H5 x = some o → x ≠ p → H6 x = some o) ∧ SegsAt H6 p acc ∧ acc ++ segC cs (Sg.segs f (cs.length - t) d) d = segC cs (Sg.segs f cs.length cs.length) cs.length) ⟨cs.length, [], _, _, by rw [Nat.sub_self]; rfl, Nat.le_refl _, Nat.le_refl _, by simp, s05, fun x o e _ => e, SegsAt.nil hp5, rfl⟩ ?_ ?_
      · rintro t σ H6 ht ⟨d, acc, x9, x12, rfl, dm, dl, al, s6, k6, g6, eS⟩
        have ha6 := s6 _ _ ha
        wtm_at "r"
        rw [nv_len]
        with_reducible refine Z.i_2 (fun h3 => ?_) (fun h3 => ?_)
        · obtain ⟨mm, em⟩ : ∃ j, cs.length - t = j + 1 := ⟨cs.length - t - 1, by omega⟩
          have em' : cs.length - (t + 1) = mm := by omega
          rw [em'] ; rw [em] at dm eS
          obtain ⟨d, rfl⟩ : ∃ j, d = j + 1 := ⟨d - 1, by omega⟩
          obtain ⟨b1, b2, b3, b4⟩ := Sg.tab_behind (tx v cs) tab (Nat.succ_le_succ (Nat.zero_le d)) dl
          have eg : gF f cs.length cs.length (cs.length - (d + 1)) = ((cs.length : Int) - ((f (d + 1)).2.1 : Nat), (((f (d + 1)).2.2 : Nat) : Int)) := by
            unfold gF
            rw [if_pos ⟨by omega, by omega⟩, show cs.length - (cs.length - (d + 1)) = d + 1 by omega]; rfl
          have ex : segC cs (Sg.segs f (mm + 1) (d + 1)) (d + 1) = ((f (d + 1)).2.2, (cs.drop (cs.length - (d + 1))).take (d + 1 - (f (d + 1)).2.1)) :: segC cs (Sg.segs f mm (f (d + 1)).2.1) (d + 1 - (d + 1 - (f (d + 1)).2.1)) := rfl
          rw [ex] at eS
          clear ex b3 b4
          generalize (f (d + 1)).2.2 = mo at *
          generalize (f (d + 1)).2.1 = b at *
          obtain ⟨xs6, hxs6, lx6, _⟩ := id g6
          wtm_at "r"
          refine Z.r_ixD (da6 H6 k6) (j := cs.length - (d + 1)) rfl (Z.rl_at _ (by omega)) (fun x dx => ?_)
          rw [eg] at dx
          obtain ⟨t0, rfl, _, ht0⟩ := Z.da_i2 dx
          wtm_at "r"
          refine Z.r_ixT (Z.sq_t ht0) (show atI _ ((0 : Nat) : Int) = some _ from atI_nat rfl) ?_
          wtm_at "r"
          refine ⟨by show 3 ≤ sizeLine; decide, fun pn hn => ?_⟩
          have s7 : Same H6 (upd H6 pn (.lst [V.str "numeric", V.str "alphanumeric", V.str "byte"])) := Z.s_upd hn
          have h7 : (upd H6 pn (.lst [V.str "numeric", V.str "alphanumeric", V.str "byte"])) pn = some (.lst (modes.map V.str)) := L2.upd_same
          have npn : pn ≠ p := fun z => by rw [z, hxs6] at hn; cases hn
          generalize upd H6 pn (.lst [V.str "numeric", V.str "alphanumeric", V.str "byte"]) = H7 at s7 h7
          wtm_at "r"
          refine Z.r_ixD ((da6 H6 k6).same s7) (j := cs.length - (d + 1)) rfl (Z.rl_at _ (by omega)) (fun x dx => ?_)
          rw [eg] at dx
          obtain ⟨t1, rfl, _, ht1⟩ := Z.da_i2 dx
          wtm_at "r"
          refine Z.r_ixT (Z.sq_t ht1) (show atI _ ((1 : Nat) : Int) = some _ from atI_nat rfl) ?_
          refine Z.r_ixL (Z.sq_l h7) (atI_nat (md_at b2)) ?_
          wtm_at "r"
          refine Z.r_slL (Z.sq_l (s7 _ _ ha6)) (fun l hl' => ?_)
          rw [show (cs.length : Int) - (b : Nat) = ((cs.length - b : Nat) : Int) by omega, nv_cut _ (by omega), show cs.length - b - (cs.length - (d + 1)) = d + 1 - b by omega]
          have s8 : Same H7 (upd H7 l (.lst (nv ((cs.drop (cs.length - (d + 1))).take (d + 1 - b))))) := Z.s_upd hl'
          have hl8 : (upd H7 l (.lst (nv ((cs.drop (cs.length - (d + 1))).take (d + 1 - b))))) l = some (.lst (nv ((cs.drop (cs.length - (d + 1))).take (d + 1 - b)))) := L2.upd_same
          have nlp : l ≠ p := fun z => by rw [z, s7 _ _ hxs6] at hl'; cases hl'
          generalize upd H7 l (.lst (nv ((cs.drop (cs.length - (d + 1))).take (d + 1 - b)))) = H8 at s8 hl8
          wtm_at "r"
          refine ⟨by show 2 ≤ sizeLine; decide, fun t' ht' => ?_⟩
          have s9 : Same H8 (upd H8 t' (.tup [.str (modes.getD mo ""), .ref l])) := Z.s_upd ht'
          have h9 : (upd H8 t' (.tup [.str (modes.getD mo ""), .ref l])) t' = some (.tup [.str (modes.getD mo ""), .ref l]) := L2.upd_same
          generalize upd H8 t' (.tup [.str (modes.getD mo ""), .ref l]) = H9 at s9 h9
          have s69 := (s7.trans s8).trans s9
          refine Z.r_nil ?_
          refine Z.r_append (s69 _ _ hxs6) (Z.szl (by omega)) ?_
          wtm_at "r"
          refine ⟨b, acc ++ [(mo, (cs.drop (cs.length - (d + 1))).take (d + 1 - b))], _, _, rfl, by omega, by omega, ?_, Z.s_mut (s6.trans s69) hpH, fun x o e n => (L2.upd_ne n).trans (s69 _ _ (k6 x o e n)), (g6.same s69).push (s69 _ _ hxs6) h9 (s9 _ _ hl8) nlp, ?_⟩
          · rw [List.length_append]; show acc.length + 1 + b ≤ cs.length; omega
          · rw [List.append_assoc, ← eS, show d + 1 - (d + 1 - b) = b by omega]; rfl
        · wtm_at "r"
          have : d = 0 := by omega
          subst this
          refine ⟨0, acc, _, _, rfl, Nat.zero_le _, Nat.zero_le _, al, s6, k6, g6, ?_⟩
          rw [← eS]
          congr 2
          cases h : cs.length - t with
          | zero => omega
          | succ j => cases h' : cs.length - (t + 1) <;> rfl
      · rintro σ H6 ⟨d, acc, x9, x12, rfl, dm, dl, al, s6, k6, g6, eS⟩
        have hd0 : d = 0 := by omega
        subst hd0
        rw [Nat.sub_self] at eS
        have hl6 := k6 _ _ hl5 pln
        wtm_at "r"
        refine Z.r_ixL (Z.sq_l hl6) (show atI _ ((0 : Nat) : Int) = some _ from atI_nat (Z.rl_at _ (by omega))) ?_
        wtm_at "r"
        refine ⟨by show 2 ≤ sizeLine; decide, fun p2 hp2 => ?_⟩
        rw [show segC cs (Sg.segs f 0 0) 0 = [] from rfl, List.append_nil] at eS
        have el : lF f cs.length cs.length 0 = (f cs.length).1 := by unfold lF; rw [if_pos (by omega), Nat.sub_zero]
        rw [el]
        exact q p2 p _ f (s6.trans (Z.s_upd hp2)) tab L2.upd_same hpH ((eS ▸ g6).same (Z.s_upd hp2))
end
theorem pow_shl (w i : Nat) (hi : i < w) : (1 : Int) * 2 ^ ((w : Int) - 1 - (i : Nat)).toNat = ((2 ^ (w - 1 - i) : Nat) : Int) := by
  rw [Int.one_mul, show ((w : Int) - 1 - (i : Nat)).toNat = w - 1 - i by omega]; simp
theorem con_wd : ∀ m, m < 3 → ∀ k, k ≤ gsN m → conB m k = wdN m k := by decide +kernel
theorem segC_len (cs : List Nat) : ∀ (l : List (Nat × Nat)) (d : Nat), (segC cs l d).length = l.length
  | [], _ => rfl
  | s :: r, d => congrArg (· + 1) (segC_len cs r (d - s.2))
theorem seg_facts {v : Nat} {cs : List Nat} {f : Nat → Sg.Ch} (h256 : ∀ c ∈ cs, c < 256) (hl : cs.length ≤ 30) (ht : Sg.Tab (tx v cs) f cs.length) : ∀ k d, d ≤ k → d ≤ cs.length →
    (∀ s ∈ segC cs (Sg.segs f k d) d, SegOk s) ∧ totL (segC cs (Sg.segs f k d) d) = d ∧ (Sg.segs f k d).length ≤ d ∧ (((segC cs (Sg.segs f k d) d).map fun s => ((4 + cbN s.1 v + conB s.1 s.2.length : Nat) : Int)).sum) = (f d).1
  | 0, d, h1, _ => by
    obtain rfl : d = 0 := by omega
    exact ⟨(fun s hs => by cases hs), rfl, Nat.le_refl _, ht.1.symm⟩
  | k + 1, 0, _, _ => ⟨(fun s hs => by cases hs), rfl, Nat.le_refl _, ht.1.symm⟩
  | k + 1, d + 1, h1, h2 => by
    obtain ⟨a, b, c, e⟩ := Sg.tab_behind (tx v cs) ht (by omega : 1 ≤ d + 1) h2
    have ex : segC cs (Sg.segs f (k + 1) (d + 1)) (d + 1) = ((f (d + 1)).2.2, (cs.drop (cs.length - (d + 1))).take (d + 1 - (f (d + 1)).2.1)) :: segC cs (Sg.segs f k (f (d + 1)).2.1) (d + 1 - (d + 1 - (f (d + 1)).2.1)) := rfl
    have ex2 : (Sg.segs f (k + 1) (d + 1)).length = (Sg.segs f k (f (d + 1)).2.1).length + 1 := rfl
    rw [ex, ex2]
    obtain ⟨i1, i2, i3, i4⟩ := seg_facts h256 hl ht k (f (d + 1)).2.1 (by omega) (by omega)
    generalize (f (d + 1)).2.2 = m at *
    generalize (f (d + 1)).2.1 = p at *
    rw [show d + 1 - (d + 1 - p) = p by omega]
    have hlen : ((cs.drop (cs.length - (d + 1))).take (d + 1 - p)).length = d + 1 - p := by rw [List.length_take, List.length_drop]; omega
    refine ⟨fun s hs => ?_, ?_, by omega, ?_⟩
    · rcases List.mem_cons.mp hs with rfl | hs
      · refine ⟨b, by show List.length _ ≤ 30; rw [hlen]; omega, ?_, fun x hx => h256 x (List.mem_of_mem_drop (List.mem_of_mem_take hx))⟩
        refine List.all_eq_true.mpr fun x hx => ?_
        obtain ⟨j, hj, ej⟩ := List.getElem_of_mem hx
        rw [hlen] at hj
        have hal := c (d + 1 - j) (by omega) (by omega)
        have : (tx v cs).al m (d + 1 - j) = (alw m (cs.getD (cs.length - (d + 1 - j)) 0) = true) := rfl
        rw [this, show cs.length - (d + 1 - j) = cs.length - (d + 1) + j by omega] at hal
        rw [List.getElem_take, List.getElem_drop] at ej
        rw [List.getD_eq_getElem?_getD, List.getElem?_eq_getElem (by omega), Option.getD_some, ej] at hal
        exact hal
      · exact i1 s hs
    · show List.length _ + totL _ = _
      rw [hlen, i2]; omega
    · rw [List.map_cons, List.sum_cons, i4]
      dsimp only
      rw [hlen, e, g_con v cs b]
      show _ = ((4 + cbN m v : Nat) : Int) + _ + _
      rw [← Int.natCast_add]
theorem md_ne : ∀ j, j < 3 → ∀ m, m < 3 → j ≠ m → eqV (.str (modes.getD j "")) (.str (modes.getD m "")) = false := by decide +kernel
theorem r_neSegs {K : PySem.W.Frag} {H : Hp} {Q : VK} {a b : Addr} {segs : List (Nat × List Nat)} (ha : SegsAt H a segs) (hb : SegsAt H b segs) (q : Q (.bl false) H) : rNeD K (.ref a) (.ref b) H Q :=
  ⟨_, _, ha.dp, hb.dp, shaped_segs segs, shaped_segs segs, by rw [SeqAt.eqv_refl _ (lay_lst _ (lay_segs segs))]; exact q⟩
section
variable {P : Program} {w : World} {K : PySem.W.Frag} {mg : Str → Option Value} {base : Heap}
def sp__law_bits (K : PySem.W.Frag) : Sp := fun vs H Q _ => ∃ (x w : Nat), vs = [.int x, .int w] ∧ w ≤ 20 ∧ ∀ (p : Addr) (H1 : Hp), Same H H1 → H p = none → H1 p = some (.lst (nv (fbs w x w))) → Q (.ref p) H1
set_option maxHeartbeats 2000000 in
theorem ok__law_bits (T : Top K mg w) : FnOk P w K mg base CX0 1 T.a__law_bits T.d__law_bits pl__law_bits (sp__law_bits K) := by
  refine T.F__law_bits.ok sc__law_bits (fun vs H Q E h => ?_) (fun cdv A outer s H vs Q E hr h => ?_)
  · obtain ⟨x, w, rfl, _⟩ := h
    rfl
  · obtain ⟨x, w, rfl, hw, q⟩ := h
    have hu := hu_of hr
    refine ⟨_, (pss_one (ps_ret (pe_lc (own := [("k", 2)]) (tt := tYes) rfl sc__law_bits.nd (pi_range1 rfl T.n_range (pa_cons (pv 1) pa_nil)) (blkOk_by (N := sl__law_bits) (sc := defScope s__law_bits) (by decide +kernel)) (fun _ _ _ _ _ => (pg_name (i := 2) sc__law_bits.nd rfl (Or.inl rfl))) (fun _ _ _ _ _ => pts_nil) (fun _ _ _ _ _ => (pe_op op_mod (pe_op op_fdiv (pv 0) (pe_op op_shl pe_int (pe_op op_sub (pe_op op_sub (pv 1) pe_int) (pv 2)))) pe_int))))), ?_⟩
    show (_ : L2.TS) _ [some _, some _, none] H
    try simp only [Z.kx]
    wtm_at "r"
    refine Z.lcr_pure w (fun i => V.int (((x >>> (w - 1 - i)) % 2 : Nat) : Int)) rfl ⟨by omega, by omega⟩ (by omega) (fun _ => rfl) ?_ ?_
    · intro i H5 hi s5 k kk
      wtm_at "w"
      wtm_at "r"
      rw [pow_shl w i hi]
      have hp : 0 < 2 ^ (w - 1 - i) := Nat.two_pow_pos _
      have hq : 2 ^ (w - 1 - i) ≤ 2 ^ 20 := Nat.pow_le_pow_right (by decide) (by omega)
      refine Z.r_I (Z.c_div (by omega) (by omega)) ?_
      wtm_at "r"
      rw [show (x : Int) / ((2 ^ (w - 1 - i) : Nat) : Int) % 2 = (((x >>> (w - 1 - i)) % 2 : Nat) : Int) by rw [Nat.shiftRight_eq_div_pow, Int.natCast_emod, Int.natCast_ediv]; rfl]
      exact kk _ (Same.refl _)
    · intro D H5 hD s5 hl5
      refine q D H5 s5 hD (hl5.trans ?_)
      unfold fbs nv
      rw [List.map_map]; rfl
def sp__law_written (K : PySem.W.Frag) : Sp := fun vs H Q _ => ∃ (a : Addr) (segs : List (Nat × List Nat)) (v : Nat), vs = [.ref a, .int v] ∧ SegsAt H a segs ∧ (∀ s ∈ segs, SegOk s) ∧ segs.length ≤ 30 ∧ totL segs ≤ 30 ∧ 1 ≤ v ∧ v ≤ 40 ∧ ∀ (p : Addr) (H1 : Hp), Same H H1 → H p = none → H1 p = some (.lst (nv (wrS v segs))) → Q (.ref p) H1
set_option maxHeartbeats 2000000 in
theorem ok__law_written (T : Top K mg w) : FnOk P w K mg base CX0 3 T.a__law_written T.d__law_written pl__law_written (sp__law_written K) := by
  refine T.F__law_written.ok sc__law_written (fun vs H Q E h => ?_) (fun cdv A outer s H vs Q E hr h => ?_)
  · obtain ⟨a, segs, v, rfl, _⟩ := h
    rfl
  · obtain ⟨a, segs, v, rfl, hS, hok, hn, ht, h1, h40, q⟩ := h
    have hu := hu_of hr
    refine ⟨_, (pss_cons (ps_set (i := 2) sc__law_written.nd rfl (Or.inl rfl) (pe_lst pa_nil))
      (pss_cons (ps_for PassesOwn.never rfl (pi_list (pv 0)) (pg_name (i := 3) sc__law_written.nd rfl (Or.inl rfl)) (pss_cons (ps_set (i := 4) sc__law_written.nd rfl (Or.inl rfl) (pe_bm PySem.F.plainAttrs_list PySem.F.slot_list_index PySem.F.type_list_index mt_index (pe_lst (pa_cons pe_str (pa_cons pe_str (pa_cons pe_str pa_nil)))) (pa_cons (pe_ix (show IxR _ (rIxT K) from ix_tup) (pv 3) pe_int (fun _ _ => rfl)) pa_nil)))
      (pss_cons (ps_set (i := 5) sc__law_written.nd rfl (Or.inl rfl) (pe_ix (show IxR _ (rIxT K) from ix_tup) (pv 3) pe_int (fun _ _ => rfl)))
      (pss_cons (ps_set (i := 2) sc__law_written.nd rfl (Or.inl rfl) (pe_op op_cat (pe_op op_cat (pv 2) (pe_call (ok__law_bits T) (hr.mono (by decide)) (by rfl) T.g__law_bits T.F__law_bits.kp T.b__law_bits .nil pass0 (pa_cons (pe_op op_shl pe_int (pv 4)) (pa_cons pe_int pa_nil)))) (pe_call (ok__law_bits T) (hr.mono (by decide)) (by rfl) T.g__law_bits T.F__law_bits.kp T.b__law_bits .nil pass0 (pa_cons (pe_callB (show CallR _ _ (Z.cLen K) from Z.call_len) (by rfl) T.n_len (by decide +kernel) (pa_cons (pv 5) pa_nil)) (pa_cons (pe_op op_sub (pe_call (ok__law_head T) (hr.mono (by decide)) (by rfl) T.g__law_head T.F__law_head.kp T.b__law_head .nil pass0 (pa_cons (pv 4) (pa_cons (pv 1) pa_nil))) pe_int) pa_nil)))))
      (pss_cons (ps_set (i := 6) sc__law_written.nd rfl (Or.inl rfl) (pe_op op_sub pe_int (pv 4)))
      (pss_one (ps_for PassesOwn.never rfl (pi_range3 rfl T.n_range (pa_cons pe_int (pa_cons (pe_callB (show CallR _ _ (Z.cLen K) from Z.call_len) (by rfl) T.n_len (by decide +kernel) (pa_cons (pv 5) pa_nil)) (pa_cons (pv 6) pa_nil)))) (pg_name (i := 7) sc__law_written.nd rfl (Or.inl rfl)) (pss_cons (ps_set (i := 8) sc__law_written.nd rfl (Or.inl rfl) pe_int)
      (pss_cons (ps_set (i := 9) sc__law_written.nd rfl (Or.inl rfl) (pe_slice (show SlR _ (rSlL K) from sl_list) (pv 5) (po_some (pv 7)) (po_some (pe_op op_add (pv 7) (pv 6)))))
      (pss_cons (ps_for PassesOwn.never rfl (pi_list (pv 9)) (pg_name (i := 10) sc__law_written.nd rfl (Or.inl rfl)) (pss_one (ps_if (pt_cmpR op_eq (pv 4) pe_int (nomark _)) (pss_one (ps_set (i := 8) sc__law_written.nd rfl (Or.inl rfl) (pv 10))) (pss_one (ps_set (i := 8) sc__law_written.nd rfl (Or.inl rfl) (pe_op op_add (pe_op op_mul (pv 8) (pe_ix (show IxR _ (rIxL K) from ix_list) (pe_lst (pa_cons pe_int (pa_cons pe_int pa_nil))) (pv 4) (fun _ _ => rfl))) (pe_call (ok__law_value T) (hr.mono (by decide)) (by rfl) T.g__law_value T.F__law_value.kp T.b__law_value .nil pass0 (pa_cons (pv 10) pa_nil))))))))
      (pss_one (ps_set (i := 2) sc__law_written.nd rfl (Or.inl rfl) (pe_op op_cat (pv 2) (pe_call (ok__law_bits T) (hr.mono (by decide)) (by rfl) T.g__law_bits T.F__law_bits.kp T.b__law_bits .nil pass0 (pa_cons (pv 8) (pa_cons (pe_op op_sub (pe_call (ok__law_cost T) (hr.mono (by decide)) (by rfl) T.g__law_cost T.F__law_cost.kp T.b__law_cost .nil pass0 (pa_cons (pv 4) (pa_cons (pe_callB (show CallR _ _ (Z.cLen K) from Z.call_len) (by rfl) T.n_len (by decide +kernel) (pa_cons (pv 9) pa_nil)) (pa_cons (pv 1) pa_nil)))) (pe_call (ok__law_head T) (hr.mono (by decide)) (by rfl) T.g__law_head T.F__law_head.kp T.b__law_head .nil pass0 (pa_cons (pv 4) (pa_cons (pv 1) pa_nil)))) pa_nil))))))))))))))))
      (pss_one (ps_ret (pv 2))))), ?_⟩
    show (_ : L2.TS) _ [some _, some _, none, none, none, none, none, none, none, none, none] H
    try simp only [Z.kx]
    obtain ⟨xs, hxs, lxs, gxs⟩ := id hS
    wtm_at "r"
    refine ⟨by show 0 ≤ sizeLine; decide, fun p0 hp0 => ?_⟩
    have s0 : Same H (upd H p0 (.lst [])) := Z.s_upd hp0
    have h0 : (upd H p0 (.lst [])) p0 = some (.lst (nv (wrS v (segs.take 0)))) := L2.upd_same
    generalize upd H p0 (.lst []) = H0 at s0 h0
    wtm_at "r"
    refine Z.lst_go (Z.sq_l (s0 _ _ hxs)) (fun i σ H2 => ∃ (pb : Addr) (x3 x4 x5 x6 x7 x8 x9 x10 : Option V), σ = [some (.ref a), some (.int v), some (.ref pb), x3, x4, x5, x6, x7, x8, x9, x10] ∧ Same H H2 ∧ H pb = none ∧ H2 pb = some (.lst (nv (wrS v (segs.take i))))) ⟨p0, none, none, none, none, none, none, none, none, rfl, s0, hp0, h0⟩ (fun i σ H2 _ ⟨_, _, _, _, _, _, _, _, _, _, s2, _, _⟩ => Z.sq_l (s2 _ _ hxs)) ?_ ?_
    · clear s0 h0 hp0
      rintro i z σ H2 hi ⟨pb, x3, x4, x5, x6, x7, x8, x9, x10, rfl, s2, hpb, h2⟩
      have hil : i < segs.length := by have := (List.getElem?_eq_some_iff.mp hi).1; omega
      obtain ⟨t, l, e1, ht0, hl0, _⟩ := gxs i segs[i] (List.getElem?_eq_getElem hil)
      rw [hi] at e1
      cases e1
      have hso := hok segs[i] (List.getElem_mem hil)
      have hsn : segs[i]? = some segs[i] := List.getElem?_eq_getElem hil
      generalize segs[i] = s at *
      obtain ⟨m, cs⟩ := s
      obtain ⟨hm, hc30, hfit, h256⟩ := hso
      dsimp only at *
      have gp := gs_pos hm
      have cl := cbN_lim (v := v) hm
      have len2 : (wrS v (segs.take i)).length ≤ 20 * 30 + 11 * 30 := by
        have z := wrS_len v (segs.take i) fun s hs => hok s (List.mem_of_mem_take hs)
        have z2 := totL_take segs i
        rw [List.length_take] at z
        omega
      wtm_at "r"
      refine ⟨by show 3 ≤ sizeLine; decide, fun pn hn => ?_⟩
      have s3 : Same H2 (upd H2 pn (.lst [V.str "numeric", V.str "alphanumeric", V.str "byte"])) := Z.s_upd hn
      have h3 : (upd H2 pn (.lst [V.str "numeric", V.str "alphanumeric", V.str "byte"])) pn = some (.lst (modes.map V.str)) := L2.upd_same
      generalize upd H2 pn (.lst [V.str "numeric", V.str "alphanumeric", V.str "byte"]) = H3 at s3 h3
      have s03 := s2.trans s3
      have h23 := s3 _ _ h2
      refine Z.ty_lst (Z.sq_l h3) ?_
      wtm_at "r"
      refine Z.r_ixT (Z.sq_t (s03 _ _ ht0)) (show atI _ ((0 : Nat) : Int) = some _ from atI_nat rfl) ?_
      wtm_at "r"
      refine ⟨_, modes.map V.str, .str (modes.getD m ""), m, .str (modes.getD m ""), rfl, rfl, Z.sq_l h3, rfl, by decide, md_at hm, (by show decide (_ = _) = true; exact decide_eq_true rfl), (fun j z' hj hz => ?_), ?_⟩
      · have hj3 : j < 3 := by omega
        rw [md_at hj3] at hz
        cases hz
        exact md_ne j hj3 m hm (by omega)
      clear s2 s3 h2 h3 hn
      wtm_at "r"
      refine Z.r_ixT (Z.sq_t (s03 _ _ ht0)) (show atI _ ((1 : Nat) : Int) = some _ from atI_nat rfl) ?_
      wtm_at "r"
      rw [show (1 : Int) * 2 ^ ((m : Nat) : Int).toNat = ((2 ^ m : Nat) : Int) by rw [Int.toNat_natCast, Int.one_mul]; simp]
      refine ⟨2 ^ m, 4, rfl, by decide, fun pA HA sA hA hA1 => ?_⟩
      refine Z.r_cat (sA _ _ h23) hA1 (by rw [nv_len, nv_len, fbs_len]; omega) (fun pC hC => ?_)
      rw [← nv_app]
      have s04 := (s03.trans sA).trans (Z.s_upd (o := .lst (nv (wrS v (segs.take i) ++ fbs 4 (2 ^ m) 4))) hC)
      have h4 : (upd HA pC (.lst (nv (wrS v (segs.take i) ++ fbs 4 (2 ^ m) 4)))) pC = some (.lst (nv (wrS v (segs.take i) ++ fbs 4 (2 ^ m) 4))) := L2.upd_same
      generalize upd HA pC (.lst (nv (wrS v (segs.take i) ++ fbs 4 (2 ^ m) 4))) = H4 at s04 h4
      clear sA hA hA1 hC
      have hl4 := s04 _ _ hl0
      wtm_at "r"
      refine ⟨m, v, rfl, hm, h1, h40, fun H5 s5 => ?_⟩
      wtm_at "r"
      rw [nv_len, show ((4 + cbN m v : Nat) : Int) - 4 = ((cbN m v : Nat) : Int) by omega]
      refine ⟨cs.length, cbN m v, rfl, by omega, fun pA HA sA hA hA1 => ?_⟩
      refine Z.r_cat (sA _ _ (s5 _ _ h4)) hA1 (by rw [nv_len, nv_len, fbs_len, List.length_append, fbs_len]; omega) (fun pC hC => ?_)
      rw [← nv_app]
      have s06 := ((s04.trans s5).trans sA).trans (Z.s_upd (o := .lst (nv (wrS v (segs.take i) ++ fbs 4 (2 ^ m) 4 ++ fbs (cbN m v) cs.length (cbN m v)))) hC)
      have h6 : (upd HA pC (.lst (nv (wrS v (segs.take i) ++ fbs 4 (2 ^ m) 4 ++ fbs (cbN m v) cs.length (cbN m v))))) pC = some (.lst (nv (wrS v (segs.take i) ++ fbs 4 (2 ^ m) 4 ++ fbs (cbN m v) cs.length (cbN m v)))) := L2.upd_same
      have hpC := Z.s_back ((s04.trans s5).trans sA) hC
      have hlB : (wrS v (segs.take i) ++ fbs 4 (2 ^ m) 4 ++ fbs (cbN m v) cs.length (cbN m v)).length ≤ 1000 := by rw [List.length_append, List.length_append, fbs_len, fbs_len]; omega
      generalize hB : wrS v (segs.take i) ++ fbs 4 (2 ^ m) 4 ++ fbs (cbN m v) cs.length (cbN m v) = B at *
      generalize upd HA pC (.lst (nv B)) = H6 at s06 h6
      clear sA hA hA1 hC s5 hl4
      have hl6 := s06 _ _ hl0
      wtm_at "r"
      rw [nv_len, show (3 : Int) - (m : Nat) = ((gsN m : Nat) : Int) by unfold gsN; omega]
      refine Z.rng_go3 (ngr m cs.length) (rgC (by omega) gp.1 gp.2) (fun k σ H7 => ∃ (pb : Addr) (x7 x8 x9 x10 : Option V), σ = [some (.ref a), some (.int v), some (.ref pb), some (.ref t), some (.int m), some (.ref l), some (.int (gsN m : Nat)), x7, x8, x9, x10] ∧ Same H H7 ∧ H pb = none ∧ H7 pb = some (.lst (nv (B ++ wrC m cs k)))) ⟨pC, _, _, _, _, rfl, s06, hpC, by rw [h6]; show _ = some (HO.lst (nv (B ++ []))); rw [List.append_nil]⟩ ?_ ?_
      · clear s06 h6 hl6 hpC
        rintro k σ H7 hk ⟨pb, x7, x8, x9, x10, rfl, s7, hpb7, h7⟩
        have hl7 := s7 _ _ hl0
        have hng := ngr_le hm cs.length
        have hln := wrC_len m hm cs k
        have hgl : (grpAt m cs k).length ≤ gsN m := by unfold grpAt; rw [List.length_take]; omega
        have e1 : (0 : Int) + (k : Nat) * (gsN m : Nat) = ((gsN m * k : Nat) : Int) := by rw [Int.natCast_mul, Int.mul_comm]; omega
        have hg256 : ∀ c ∈ grpAt m cs k, c < 256 := fun c hc => h256 c (List.mem_of_mem_drop (List.mem_of_mem_take hc))
        wtm_at "r"
        rw [e1]
        refine Z.r_slL (Z.sq_l hl7) (fun c hc => ?_)
        rw [show ((gsN m * k : Nat) : Int) + (gsN m : Nat) = ((gsN m * k + gsN m : Nat) : Int) by omega, nv_cut _ (by omega), show gsN m * k + gsN m - gsN m * k = gsN m by omega]
        rw [show (cs.drop (gsN m * k)).take (gsN m) = grpAt m cs k from rfl]
        have ew : wrC m cs (k + 1) = wrC m cs k ++ wrG m (grpAt m cs k) := rfl
        rw [ew]
        have eG : wrG m (grpAt m cs k) = fbs (wdN m (grpAt m cs k).length) (numM m (grpAt m cs k)) (wdN m (grpAt m cs k).length) := rfl
        rw [eG]
        generalize grpAt m cs k = g at *
        have s8 := s7.trans (Z.s_upd (o := .lst (nv g)) hc)
        have h8 : (upd H7 c (.lst (nv g))) c = some (.lst (nv g)) := L2.upd_same
        have h78 := Z.s_upd (o := .lst (nv g)) hc _ _ h7
        generalize upd H7 c (.lst (nv g)) = H8 at s8 h8 h78
        clear s7 h7 hc hl7 ew eG
        wtm_at "r"
        refine Z.lst_go (Z.sq_l h8) (fun j σ H9 => ∃ (x10 : Option V), σ = [some (.ref a), some (.int v), some (.ref pb), some (.ref t), some (.int m), some (.ref l), some (.int (gsN m : Nat)), some (.int (gsN m * k : Nat)), some (.int (numM m (g.take j) : Nat)), some (.ref c), x10] ∧ Same H8 H9) ⟨_, rfl, Same.refl _⟩ (fun j σ H9 _ ⟨_, _, s9⟩ => Z.sq_l (s9 _ _ h8)) ?_ ?_
        · rintro j z σ H9 hj ⟨x10', rfl, s9⟩
          obtain ⟨b, hb, rfl⟩ := nv_get hj
          have hjl : j < g.length := (List.getElem?_eq_some_iff.mp hb).1
          have hb256 := hg256 b (List.mem_of_getElem? hb)
          have hn := numM_lt m hm (g.take j) (fun c hc => hg256 c (List.mem_of_mem_take hc)) (by rw [List.length_take]; omega)
          wtm_at "r"
          with_reducible refine' Z.i_2 (fun hm2 => ?ct) (fun hm2 => ?cf)
          case ct =>
            have e2 : m = 2 := by omega
            subst e2
            wtm_at "r"
            have j0 : j = 0 := by unfold gsN at hgl; omega
            subst j0
            have e3 : numM 2 (g.take (0 + 1)) = b := by
              rw [numM_take hb]
              show 256 * 0 + b = b
              omega
            rw [e3]
            exact ⟨_, rfl, s9⟩
          case cf =>
            wtm_at "r"
            refine ⟨by show 2 ≤ sizeLine; decide, fun pq hq => ?_⟩
            have sA : Same H9 (upd H9 pq (.lst [V.int 10, V.int 45])) := Z.s_upd hq
            have hA : (upd H9 pq (.lst [V.int 10, V.int 45])) pq = some (.lst (nv [10, 45])) := L2.upd_same
            generalize upd H9 pq (.lst [V.int 10, V.int 45]) = HA at sA hA
            wtm_at "r"
            refine Z.r_ixL (Z.sq_l hA) (nv_at rfl (by show m < 2; omega)) ?_
            have eb : ([10, 45] : List Nat).getD m 0 = bsN m := by rcases (by omega : m = 0 ∨ m = 1) with e | e <;> subst e <;> rfl
            rw [eb]
            have hbs := bs_pos m hm
            wtm_at "r"
            refine ⟨b, rfl, hb256, fun HB sB => ?_⟩
            wtm_at "r"
            refine ⟨some (.int b), ?_, s9.trans (sA.trans sB)⟩
            rw [show ((numM m (g.take j) : Nat) : Int) * (bsN m : Nat) + (anL.findIdx (· == b) : Nat) = ((numM m (g.take (j + 1)) : Nat) : Int) by
              rw [numM_take hb, Int.natCast_add, Int.natCast_mul, Int.mul_comm, show valM m b = anL.findIdx (· == b) by unfold valM; rw [if_neg (by omega)]]]
        · rintro σ H9 ⟨x10', rfl, s9⟩
          rw [nv_len, List.take_length]
          have s89 := s8.trans s9
          have h79 := s9 _ _ h78
          have hg9 := s9 _ _ h8
          have wlt := wd_lt m hm g.length (by omega)
          wtm_at "r"
          rw [nv_len]
          refine ⟨m, g.length, v, rfl, hm, by omega, h1, h40, fun HA sA => ?_⟩
          wtm_at "r"
          refine ⟨m, v, rfl, hm, h1, h40, fun HB sB => ?_⟩
          wtm_at "r"
          rw [con_wd m hm g.length hgl, show ((4 + cbN m v + wdN m g.length : Nat) : Int) - ((4 + cbN m v : Nat) : Int) = ((wdN m g.length : Nat) : Int) by omega]
          refine ⟨numM m g, wdN m g.length, rfl, by omega, fun pA HC sC hC hC1 => ?_⟩
          have s9C := (s89.trans sA).trans (sB.trans sC)
          refine Z.r_cat (sC _ _ (sB _ _ (sA _ _ h79))) hC1 (by rw [nv_len, nv_len, fbs_len, List.length_append]; omega) (fun pD hD => ?_)
          rw [← nv_app]
          refine ⟨pD, _, _, _, _, rfl, s9C.trans (Z.s_upd hD), Z.s_back s9C hD, ?_⟩
          rw [L2.upd_same, List.append_assoc]
      · rintro σ H7 ⟨pb, x7, x8, x9, x10, rfl, s7, hpb7, h7⟩
        refine ⟨pb, _, _, _, _, _, _, _, _, rfl, s7, hpb7, ?_⟩
        rw [h7, List.take_add_one, hsn, ← hB]
        show _ = some (HO.lst (nv (wrS v (segs.take i ++ [(m, cs)]))))
        rw [wrS_snoc]
        simp only [List.append_assoc]
    · clear s0 h0 hp0
      rintro σ H2 ⟨pb, x3, x4, x5, x6, x7, x8, x9, x10, rfl, s2, hpb, h2⟩
      rw [lxs, List.take_length] at h2
      wtm_at "r"
      exact q pb H2 s2 hpb h2
def sp_law (K : PySem.W.Frag) : Sp := fun vs H Q _ => ∃ (a : Addr) (ns : List Int), vs = [.ref a] ∧ SqL K H a (ns.map V.int) ∧ ns.length ≤ 63 ∧ ∀ H1, Q (.bl true) H1
set_option maxHeartbeats 2000000 in
theorem ok_law (T : Top K mg w) : FnOk P w K mg base CX0 6 T.a_law T.d_law pl_law (sp_law K) := by
  refine T.F_law.ok sc_law (fun vs H Q E h => ?_) (fun cdv A outer s H vs Q E hr h => ?_)
  · obtain ⟨a, ns, rfl, _⟩ := h
    rfl
  · obtain ⟨a, ns, rfl, hS, hn, q⟩ := h
    have hu := hu_of hr
    refine ⟨_, (pss_cons (ps_set (i := 1) sc_law.nd rfl (Or.inr rfl) (pe_op op_add pe_int (pe_op op_mod (pe_call (ok__law_cell T) (hr.mono (by decide)) (by rfl) T.g__law_cell T.F__law_cell.kp T.b__law_cell .nil pass0 (pa_cons (pv 0) (pa_cons pe_int pa_nil))) pe_int)))
      (pss_cons (ps_set (i := 2) sc_law.nd rfl (Or.inl rfl) (pe_call (ok__law_text T) (hr.mono (by decide)) (by rfl) T.g__law_text T.F__law_text.kp T.b__law_text .nil pass0 (pa_cons (pv 0) (pa_cons pe_int (pa_cons pe_int pa_nil)))))
      (pss_cons (ps_set (i := 3) sc_law.nd rfl (Or.inl rfl) (pe_callTy (show CallR _ _ (Z.cList K) from Z.call_list) (by rfl) T.n_list (by decide +kernel) (pa_cons (pv 2) pa_nil)))
      (pss_cons (ps_set (i := 4) sc_law.nd rfl (Or.inl rfl) (pe_call (ok_best_segments T) (hr.mono (by decide)) (by rfl) T.g_best_segments T.F_best_segments.kp T.b_best_segments .nil pass0 (pa_cons (pv 3) (pa_cons (pv 1) pa_nil))))
      (pss_cons (ps_asg (pe_call (ok__law_due T) (hr.mono (by decide)) (by rfl) T.g__law_due T.F__law_due.kp T.b__law_due .nil pass0 (pa_cons (pv 2) (pa_cons (pv 1) pa_nil))) (pg_tup rfl (pgs_cons (pg_name (i := 5) sc_law.nd rfl (Or.inl rfl)) (pgs_cons (pg_name (i := 6) sc_law.nd rfl (Or.inl rfl)) pgs_nil))))
      (pss_cons (ps_if (PW.pt (pw_or (pt_cmpR (op_neD (hr.units)) (pv 3) (pv 2) (nomark _)) (pw_or1 (pt_cmpR (op_neD (hr.units)) (pv 4) (pv 6) (nomark _))))) (pss_one (ps_ret pe_bl)) pss_nil)
      (pss_cons (ps_for PassesOwn.never rfl (pi_list (pv 4)) (pg_name (i := 7) sc_law.nd rfl (Or.inl rfl)) (pss_one (ps_if (PW.pt (pw_or (pt_not (pt_val (pe_callB (show CallR _ _ (rIsi K) from call_isi) (by rfl) T.n_isinstance (by decide +kernel) (pa_cons (pv 7) (pa_cons (pe_bltn (v := .ty "tuple") (u := .type "tuple") (by rfl) T.n_tuple (by decide +kernel) rfl) pa_nil))))) (pw_or1 (pt_not (pt_val (pe_call (ok_fits T) (hr.mono (by decide)) (by rfl) T.g_fits T.F_fits.kp T.b_fits .nil pass0 (pa_cons (pe_ix (show IxR _ (rIxT K) from ix_tup) (pv 7) pe_int (fun _ _ => rfl)) (pa_cons (pe_callTy (show CallR _ _ (Z.cList K) from Z.call_list) (by rfl) T.n_list (by decide +kernel) (pa_cons (pe_ix (show IxR _ (rIxT K) from ix_tup) (pv 7) pe_int (fun _ _ => rfl)) pa_nil)) pa_nil)))))))) (pss_one (ps_ret pe_bl)) pss_nil)))
      (pss_cons (ps_for PassesOwn.never rfl (pi_list (pe_slice (show SlR _ (rSlL K) from sl_list) (pv 2) po_none (po_some pe_int))) (pg_name (i := 8) sc_law.nd rfl (Or.inl rfl)) (pss_cons (ps_set (i := 9) sc_law.nd rfl (Or.inl rfl) (pe_lst (pa_cons (pe_call (ok_fits T) (hr.mono (by decide)) (by rfl) T.g_fits T.F_fits.kp T.b_fits .nil pass0 (pa_cons pe_str (pa_cons (pe_lst (pa_cons (pv 8) pa_nil)) pa_nil))) (pa_cons (pe_call (ok_fits T) (hr.mono (by decide)) (by rfl) T.g_fits T.F_fits.kp T.b_fits .nil pass0 (pa_cons pe_str (pa_cons (pe_lst (pa_cons (pv 8) pa_nil)) pa_nil))) (pa_cons (pe_call (ok_fits T) (hr.mono (by decide)) (by rfl) T.g_fits T.F_fits.kp T.b_fits .nil pass0 (pa_cons pe_str (pa_cons (pe_lst (pa_cons (pv 8) pa_nil)) pa_nil))) pa_nil)))))
      (pss_one (ps_if (pt_cmpR (op_neD (hr.units)) (pv 9) (pe_lst (pa_cons (pe_call (ok__law_allows T) (hr.mono (by decide)) (by rfl) T.g__law_allows T.F__law_allows.kp T.b__law_allows .nil pass0 (pa_cons pe_int (pa_cons (pv 8) pa_nil))) (pa_cons (pe_call (ok__law_allows T) (hr.mono (by decide)) (by rfl) T.g__law_allows T.F__law_allows.kp T.b__law_allows .nil pass0 (pa_cons pe_int (pa_cons (pv 8) pa_nil))) (pa_cons pe_bl pa_nil)))) (nomark _)) (pss_one (ps_ret pe_bl)) pss_nil))))
      (pss_cons (ps_if (pt_cmpR op_ne (pe_callB (show CallR _ _ (rSum K) from cr_sum rfl) (by rfl) T.n_sum (by decide +kernel) (pa_cons (pe_lc (own := [("segment", 7)]) (tt := tYes) rfl sc_law.nd (pi_list (pv 4)) (blkOk_by (N := sl_law) (sc := defScope s_law) (by decide +kernel)) (fun _ _ _ _ _ => (pg_name (i := 7) sc_law.nd rfl (Or.inl rfl))) (fun _ _ _ _ _ => pts_nil) (fun _ _ _ _ _ => (pe_call (ok_segment_bits T) (hr.mono (by decide)) (by rfl) T.g_segment_bits T.F_segment_bits.kp T.b_segment_bits .nil pass0 (pa_cons (pv 7) (pa_cons (pv 1) pa_nil))))) pa_nil)) (pv 5) (nomark _)) (pss_one (ps_ret pe_bl)) pss_nil)
      (pss_cons (ps_set (i := 10) sc_law.nd rfl (Or.inl rfl) (pe_make0 T.M_BitWriter (ok_BitWriter___init__ T) (hr.mono (by decide)) rfl T.g_BitWriter T.b_BitWriter___init__ .nil pass0))
      (pss_cons (ps_expr (pe_meth (pv 10) T.cl_BitWriter T.me_BitWriter_write (ok_BitWriter_write T) (hr.mono (by decide)) T.b_BitWriter_write .nil pass0 (pa_cons pe_int (pa_cons pe_int pa_nil))))
      (pss_cons (ps_expr (pe_call (ok_write_segments T) (hr.mono (by decide)) (by rfl) T.g_write_segments T.F_write_segments.kp T.b_write_segments .nil pass0 (pa_cons (pv 10) (pa_cons (pv 4) (pa_cons (pv 1) pa_nil)))))
      (pss_one (ps_ret (pe_and (pe_cmpR (op_eqD (hr.units)) (pe_meth0 (pv 10) T.cl_BitWriter T.me_BitWriter_bit_list (ok_BitWriter_bit_list T) (hr.mono (by decide)) T.b_BitWriter_bit_list .nil pass0) (pe_op op_cat (pe_lst (pa_cons pe_int (pa_cons pe_int (pa_cons pe_int pa_nil)))) (pe_call (ok__law_written T) (hr.mono (by decide)) (by rfl) T.g__law_written T.F__law_written.kp T.b__law_written .nil pass0 (pa_cons (pv 6) (pa_cons (pv 1) pa_nil)))) (nomark _)) (pe_one (pe_cmpR (op_eqD (hr.units)) (pv 4) (pv 6) (nomark _)))))))))))))))))), ?_⟩
    show (_ : L2.TS) _ [some _, none, none, none, none, none, none, none, none, none, none] H
    try simp only [Z.kx]
    wtm_at "r"
    refine ⟨a, ns, 0, rfl, hS, by decide, fun z0 => ?_⟩
    wtm_at "r"
    obtain ⟨v, ev, v1, v40⟩ : ∃ v : Nat, 1 + z0 % 40 = (v : Int) ∧ 1 ≤ v ∧ v ≤ 40 := ⟨(1 + z0 % 40).toNat, by omega, by omega, by omega⟩
    rw [ev]
    refine ⟨a, ns, rfl, hS, hn, fun pt H1 cs s1 npt hpt hl h256 => ?_⟩
    wtm_at "r"
    refine Z.r_list (Z.sq_l hpt) (fun pg ng => ?_)
    have s2 : Same H1 (upd H1 pg (.lst (nv cs))) := Z.s_upd ng
    have hg2 : (upd H1 pg (.lst (nv cs))) pg = some (.lst (nv cs)) := L2.upd_same
    have ht2 := s2 _ _ hpt
    generalize upd H1 pg (.lst (nv cs)) = H2 at s2 hg2 ht2
    wtm_at "r"
    refine ⟨pg, cs, v, rfl, hg2, hl, v1, v40, fun pf H3 f s3 tab npf gf => ?_⟩
    wtm_at "r"
    refine ⟨pt, cs, v, rfl, s3 _ _ ht2, hl, h256, v1, v40, fun pd pe H4 f' s4 tab' hd ne ge => ?_⟩
    have eff := Sg.tab_one (tx v cs) tab tab'
    have esg := Sg.segs_congr eff (fun d h1 h2 => (Sg.tab_behind (tx v cs) tab h1 h2).1) cs.length cs.length (Nat.le_refl _)
    have ebits : (f' cs.length).1 = (f cs.length).1 := by
      by_cases h0 : 1 ≤ cs.length
      · rw [eff _ h0 (Nat.le_refl _)]
      · have : cs.length = 0 := by omega
        rw [this]; exact tab'.1.trans tab.1.symm
    rw [ebits] at hd
    rw [← esg] at ge
    obtain ⟨k1, k2, k3, k4⟩ := seg_facts h256 hl tab cs.length cs.length (Nat.le_refl _) (Nat.le_refl _)
    have k5 : (segC cs (Sg.segs f cs.length cs.length) cs.length).length ≤ 30 := by rw [segC_len]; omega
    clear eff esg ebits tab tab'
    generalize segC cs (Sg.segs f cs.length cs.length) cs.length = segs at *
    generalize (f cs.length).1 = bits at *
    have gf4 := gf.same s4
    have ht4 := s4 _ _ (s3 _ _ ht2)
    have hg4 := s4 _ _ (s3 _ _ hg2)
    refine Z.r_pairT (Z.sq_t hd) (by wtm_at "set") ?_
    wtm_at "r"
    refine Z.r_neL (ns := cs.map (fun c : Nat => (c : Int))) (by rw [← nv_int]; exact Z.sq_l hg4) (by rw [← nv_int]; exact Z.sq_l ht4) ?_
    wtm_at "r"
    refine r_neSegs gf4 ge ?_
    wtm_at "r"
    clear s1 s2 s3 s4 hd npf ne npt ng hpt hg2 ht2 gf hg4
    obtain ⟨xs, hxs, lxs, gxs⟩ := id gf4
    refine Z.lst_go (Z.sq_l hxs) (fun i σ H5 => ∃ (x7 : Option V), σ = [some (.ref a), some (.int v), some (.ref pt), some (.ref pg), some (.ref pf), some (.int bits), some (.ref pe), x7, none, none, none] ∧ Same H4 H5) ⟨none, rfl, Same.refl _⟩ (fun i σ H5 _ ⟨_, _, s5⟩ => Z.sq_l (s5 _ _ hxs)) ?_ ?_
    · rintro i z σ H5 hi ⟨x7, rfl, s5⟩
      have hil : i < segs.length := by have := (List.getElem?_eq_some_iff.mp hi).1; omega
      obtain ⟨t, l, e1, ht0, hl0, _⟩ := gxs i segs[i] (List.getElem?_eq_getElem hil)
      rw [hi] at e1
      cases e1
      obtain ⟨hm, hc30, hfit, hc256⟩ := k1 segs[i] (List.getElem_mem hil)
      generalize segs[i] = s at *
      wtm_at "r"
      refine Z.r_isi (b := true) (.ty "tuple") (.base (.tup (s5 _ _ ht0))) (kit_ty (by decide +kernel)) ?_
      wtm_at "r"
      refine Z.r_ixT (Z.sq_t (s5 _ _ ht0)) (show atI _ ((0 : Nat) : Int) = some _ from atI_nat rfl) ?_
      wtm_at "r"
      refine Z.r_ixT (Z.sq_t (s5 _ _ ht0)) (show atI _ ((1 : Nat) : Int) = some _ from atI_nat rfl) ?_
      wtm_at "r"
      refine Z.r_list (Z.sq_l (s5 _ _ hl0)) (fun pc nc => ?_)
      have s6 := s5.trans (Z.s_upd (o := .lst (nv s.2)) nc)
      have h6 : (upd H5 pc (.lst (nv s.2))) pc = some (.lst (nv s.2)) := L2.upd_same
      generalize upd H5 pc (.lst (nv s.2)) = H6 at s6 h6
      wtm_at "r"
      refine ⟨s.1, pc, s.2, rfl, hm, Z.sq_l h6, by omega, fun H7 s7 => ?_⟩
      rw [hfit]
      wtm_at "r"
      exact ⟨_, rfl, s6.trans s7⟩
    rintro σ H5 ⟨x7, rfl, s5⟩
    wtm_at "r"
    refine Z.r_slL (Z.sq_l (s5 _ _ ht4)) (fun p9 n9 => ?_)
    rw [show (some (9 : Int)) = some ((9 : Nat) : Int) from rfl, Z.cut_to, nv_take]
    have s6 := s5.trans (Z.s_upd (o := .lst (nv (cs.take 9))) n9)
    have h6 : (upd H5 p9 (.lst (nv (cs.take 9)))) p9 = some (.lst (nv (cs.take 9))) := L2.upd_same
    generalize upd H5 p9 (.lst (nv (cs.take 9))) = H6 at s6 h6
    clear s5 n9
    wtm_at "r"
    refine Z.lst_go (Z.sq_l h6) (fun i σ H7 => ∃ (x8 x9 : Option V), σ = [some (.ref a), some (.int v), some (.ref pt), some (.ref pg), some (.ref pf), some (.int bits), some (.ref pe), x7, x8, x9, none] ∧ Same H6 H7) ⟨_, _, rfl, Same.refl _⟩ (fun i σ H7 _ ⟨_, _, _, s7⟩ => Z.sq_l (s7 _ _ h6)) ?_ ?_
    · rintro i z σ H7 hi ⟨x8, x9, rfl, s7⟩
      obtain ⟨c, hc, rfl⟩ := nv_get hi
      have hc256 := h256 c (List.mem_of_mem_take (List.mem_of_getElem? hc))
      have fit1 : ∀ m, fitN m [c] = alw m c := fun m => by unfold fitN; simp
      wtm_at "r"
      refine ⟨by show 1 ≤ sizeLine; decide, fun p0 n0 => ?_⟩
      wtm_at "r"
      refine ⟨0, p0, [c], rfl, by decide, Z.sq_l L2.upd_same, by show 1 ≤ 100; decide, fun H8 s8 => ?_⟩
      have s78 := (Z.s_upd n0).trans s8
      clear s8 n0
      wtm_at "r"
      refine ⟨by show 1 ≤ sizeLine; decide, fun p1 n1 => ?_⟩
      wtm_at "r"
      refine ⟨1, p1, [c], rfl, by decide, Z.sq_l L2.upd_same, by show 1 ≤ 100; decide, fun H9 s9 => ?_⟩
      have s79 := (s78.trans (Z.s_upd n1)).trans s9
      clear s78 s9 n1
      wtm_at "r"
      refine ⟨by show 1 ≤ sizeLine; decide, fun p2 n2 => ?_⟩
      wtm_at "r"
      refine ⟨2, p2, [c], rfl, by decide, Z.sq_l L2.upd_same, by show 1 ≤ 100; decide, fun HA sA => ?_⟩
      have s7A := (s79.trans (Z.s_upd n2)).trans sA
      clear s79 sA n2
      wtm_at "r"
      refine ⟨by show 3 ≤ sizeLine; decide, fun p3 n3 => ?_⟩
      rw [fit1, fit1, fit1]
      have s7B := s7A.trans (Z.s_upd (o := .lst [V.bl (alw 0 c), V.bl (alw 1 c), V.bl (alw 2 c)]) n3)
      have hB : (upd HA p3 (.lst [V.bl (alw 0 c), V.bl (alw 1 c), V.bl (alw 2 c)])) p3 = some (.lst [V.bl (alw 0 c), V.bl (alw 1 c), V.bl (alw 2 c)]) := L2.upd_same
      generalize upd HA p3 (.lst [V.bl (alw 0 c), V.bl (alw 1 c), V.bl (alw 2 c)]) = HB at s7B hB
      clear s7A n3
      wtm_at "r"
      refine ⟨0, c, rfl, by decide, hc256, fun HC sC => ?_⟩
      wtm_at "r"
      refine ⟨1, c, rfl, by decide, hc256, fun HD sD => ?_⟩
      wtm_at "r"
      refine ⟨by show 3 ≤ sizeLine; decide, fun p4 n4 => ?_⟩
      have s7E := ((s7B.trans sC).trans sD).trans (Z.s_upd (o := .lst [V.bl (alw 0 c), V.bl (alw 1 c), V.bl true]) n4)
      have hE := Z.s_upd (o := .lst [V.bl (alw 0 c), V.bl (alw 1 c), V.bl true]) n4 _ _ (sD _ _ (sC _ _ hB))
      have hF : (upd HD p4 (.lst [V.bl (alw 0 c), V.bl (alw 1 c), V.bl true])) p4 = some (.lst [V.bl (alw 0 c), V.bl (alw 1 c), V.bl true]) := L2.upd_same
      generalize upd HD p4 (.lst [V.bl (alw 0 c), V.bl (alw 1 c), V.bl true]) = HE at s7E hE hF
      have a2 : alw 2 c = true := by unfold alw; simp
      rw [a2] at hE
      refine Z.r_neDa (r := fun _ => True) (r' := fun _ => True) (d := .list [.bool (alw 0 c), .bool (alw 1 c), .bool true]) (.lst trivial hE (Z.DaL.bools [alw 0 c, alw 1 c, true])) (.lst trivial hF (Z.DaL.bools [alw 0 c, alw 1 c, true])) (n := 1) (Z.Lay.list fun d hd => ?_) (by decide) ?_
      · rcases List.mem_cons.mp hd with e | hd
        · rw [e]; exact .bl _
        rcases List.mem_cons.mp hd with e | hd
        · rw [e]; exact .bl _
        · rw [List.mem_singleton.mp hd]; exact .bl _
      wtm_at "r"
      exact ⟨_, _, rfl, s7.trans s7E⟩
    rintro σ H7 ⟨x8, x9, rfl, s7⟩
    have s47 := s6.trans s7
    clear s6 s7 h6
    have gf7 := gf4.same s47
    have ge7 := ge.same s47
    clear s47 hxs gxs lxs xs gf4 ge ht4
    obtain ⟨xs, hxs, lxs, gxs⟩ := id gf7
    wtm_at "r"
    refine Z.lcl_idx (xs := xs) (fun i => V.int ((4 + cbN (segs.getD i (0, [])).1 v + conB (segs.getD i (0, [])).1 (segs.getD i (0, [])).2.length : Nat) : Int)) (Z.sq_l hxs) (by omega) (fun _ => rfl) ?_ ?_
    · intro i x H8 hi s8 k kk
      have hil : i < segs.length := by have := (List.getElem?_eq_some_iff.mp hi).1; omega
      obtain ⟨t, l, e1, ht0, hl0, _⟩ := gxs i segs[i] (List.getElem?_eq_getElem hil)
      rw [hi] at e1
      cases e1
      obtain ⟨hm, hc30, hfit, hc256⟩ := k1 segs[i] (List.getElem_mem hil)
      have eg : segs.getD i (0, []) = segs[i] := by rw [List.getD_eq_getElem?_getD, List.getElem?_eq_getElem hil]; rfl
      rw [eg] at kk
      generalize segs[i] = s at *
      wtm_at "w"
      wtm_at "r"
      exact ⟨t, l, s.1, s.2, v, rfl, hm, Z.sq_t (s8 _ _ ht0), Z.sq_l (s8 _ _ hl0), v1, v40, by omega, kk _ (Same.refl _)⟩
    intro D H8 hD s8 hl8
    have esum : ((List.range xs.length).map fun i => V.int ((4 + cbN (segs.getD i (0, [])).1 v + conB (segs.getD i (0, [])).1 (segs.getD i (0, [])).2.length : Nat) : Int)) = (segs.map fun s => ((4 + cbN s.1 v + conB s.1 s.2.length : Nat) : Int)).map V.int := by
      rw [List.map_map, lxs]
      refine List.ext_getElem (by rw [List.length_map, List.length_map, List.length_range]) fun i h1 h2 => ?_
      rw [List.length_map, List.length_range] at h1
      rw [List.getElem_map, List.getElem_map, List.getElem_range, List.getD_eq_getElem?_getD, List.getElem?_eq_getElem h1]; rfl
    rw [esum] at hl8
    wtm_at "r"
    refine Z.r_sum (Z.sq_l hl8) ?_
    wtm_at "r"
    rw [k4]
    refine Z.i_df (fun z => z rfl) ?_
    clear esum hl8 hD
    have gf8 := gf7.same s8
    have ge8 := ge7.same s8
    clear s8 gf7 ge7 hxs gxs lxs xs
    wtm_at "r"
    refine fun w dx hw hdx hne => ?_
    refine ⟨w, dx, rfl, L2.upd_same, fun b H9 nb k9 hw9 hb9 => ⟨rfl, ?_⟩⟩
    have hwH : H8 w = none := hw
    have s9 : Same H8 H9 := fun x o e => k9 x o ((L2.upd_ne (fun z => by rw [z, hw] at e; cases e)).trans ((L2.upd_ne (fun z => by rw [z, hdx] at e; cases e)).trans e)) (fun z => by rw [z, hw] at e; cases e)
    have nb8 : H8 b = none := by
      cases h : H8 b with
      | none => rfl
      | some o =>
        rw [(L2.upd_ne (fun z => by rw [z, hw] at h; cases h)).trans ((L2.upd_ne (fun z => by rw [z, hdx] at h; cases h)).trans h)] at nb
        cases nb
    have wat : WAt T.a_BitWriter H9 w b [] := ⟨⟨dx, hw9⟩, hb9⟩
    clear k9 nb hw9 hb9 hw hdx hne
    wtm_at "r"
    refine Z.r_objP wat.1.choose_spec ((Z.look_s no_w).trans Z.look_0) ?_
    wtm_at "r"
    refine ⟨w, b, [], 3, 5, rfl, wat, by decide, by decide, fun HA kA hA => ?_⟩
    have npw : w ≠ b := ne_of wat.1.choose_spec wat.2 (by intro z; cases z)
    have watA : WAt T.a_BitWriter HA w b (fbs 3 5 3) := ⟨⟨_, kA _ _ wat.1.choose_spec npw⟩, hA⟩
    have s8A : Same H8 HA := fun x o e => kA x o (s9 _ _ e) (fun z => by rw [z, nb8] at e; cases e)
    wtm_at "r"
    refine ⟨w, b, fbs 3 5 3, pf, segs, v, H8, rfl, watA, gf8, (fun x o e => ⟨(fun z => by rw [z, nb8] at e; cases e), s8A _ _ e⟩), k1, k5, by omega, by decide, v1, v40, fun HB kB hB => ?_⟩
    have watB : WAt T.a_BitWriter HB w b (fbs 3 5 3 ++ wrS v segs) := ⟨⟨_, kB _ _ watA.1.choose_spec npw⟩, hB⟩
    have s8B : Same H8 HB := fun x o e => kB x o (s8A _ _ e) (fun z => by rw [z, nb8] at e; cases e)
    have hlen : (fbs 3 5 3 ++ wrS v segs).length ≤ 5000 := by
      rw [List.length_append, fbs_len]
      have := wrS_len v segs k1
      omega
    wtm_at "r"
    refine Z.r_objP watB.1.choose_spec ((Z.look_s no_bl).trans Z.look_0) ?_
    refine ⟨w, b, _, rfl, watB, hlen, fun pl HC sC npl hpl => ?_⟩
    wtm_at "r"
    refine ⟨by show 3 ≤ sizeLine; decide, fun p1 n1 => ?_⟩
    have sD : Same HC (upd HC p1 (.lst [V.int 1, V.int 0, V.int 1])) := Z.s_upd n1
    have hD : (upd HC p1 (.lst [V.int 1, V.int 0, V.int 1])) p1 = some (.lst (nv (fbs 3 5 3))) := L2.upd_same
    generalize upd HC p1 (.lst [V.int 1, V.int 0, V.int 1]) = HD at sD hD
    have s8D := (s8B.trans sC).trans sD
    wtm_at "r"
    refine ⟨pe, segs, v, rfl, ge8.same s8D, k1, k5, by omega, v1, v40, fun p2 HE sE np2 hp2 => ?_⟩
    refine Z.r_cat (sE _ _ hD) hp2 (by rw [nv_len, nv_len]; rw [List.length_append] at hlen; omega) (fun p3 n3 => ?_)
    rw [← nv_app]
    have s8F := (s8D.trans sE).trans (Z.s_upd (o := .lst (nv (fbs 3 5 3 ++ wrS v segs))) n3)
    have hF : (upd HE p3 (.lst (nv (fbs 3 5 3 ++ wrS v segs)))) p3 = some (.lst (nv (fbs 3 5 3 ++ wrS v segs))) := L2.upd_same
    have hlF := Z.s_upd (o := .lst (nv (fbs 3 5 3 ++ wrS v segs))) n3 _ _ (sE _ _ (sD _ _ hpl))
    generalize upd HE p3 (.lst (nv (fbs 3 5 3 ++ wrS v segs))) = HF at s8F hF hlF
    refine Z.r_eqL (ns := (fbs 3 5 3 ++ wrS v segs).map (fun c : Nat => (c : Int))) (by rw [← nv_int]; exact Z.sq_l hlF) (by rw [← nv_int]; exact Z.sq_l hF) ?_
    refine ⟨_, rfl, ?_⟩
    wtm_at "r"
    exact r_eqSegs (gf8.same s8F) (ge8.same s8F) (q _)
end
theorem all_mk {l : PySem.W.OpenLaw} {w : World} {K : PySem.W.Frag} {h : Heap} {mg : Str → Option Value} {fa : Addr} (X : K.In h) (G : h.Ns mainGlobals mg) (hfa : mg "law" = some (.ref fa))
    {f0 : Addr} {od0 an0 : Option Addr} {sl0 : Array (Option Value)} {oc0 kV0 dc0 pm0 cd0 ct0 : Value}
    {f1 : Addr} {od1 an1 : Option Addr} {sl1 : Array (Option Value)} {oc1 kV1 dc1 pm1 cd1 ct1 : Value}
    {f2 : Addr} {od2 an2 : Option Addr} {sl2 : Array (Option Value)} {oc2 kV2 dc2 pm2 cd2 ct2 : Value}
    {f3 : Addr} {od3 an3 : Option Addr} {sl3 : Array (Option Value)} {oc3 kV3 dc3 pm3 cd3 ct3 : Value}
    {f4 : Addr} {od4 an4 : Option Addr} {sl4 : Array (Option Value)} {oc4 kV4 dc4 pm4 cd4 ct4 : Value}
    {f5 : Addr} {od5 an5 : Option Addr} {sl5 : Array (Option Value)} {oc5 kV5 dc5 pm5 cd5 ct5 : Value}
    {f6 : Addr} {od6 an6 : Option Addr} {sl6 : Array (Option Value)} {oc6 kV6 dc6 pm6 cd6 ct6 : Value}
    {f7 : Addr} {od7 an7 : Option Addr} {sl7 : Array (Option Value)} {oc7 kV7 dc7 pm7 cd7 ct7 : Value}
    {f8 : Addr} {od8 an8 : Option Addr} {sl8 : Array (Option Value)} {oc8 kV8 dc8 pm8 cd8 ct8 : Value}
    {f9 : Addr} {od9 an9 : Option Addr} {sl9 : Array (Option Value)} {oc9 kV9 dc9 pm9 cd9 ct9 : Value}
    {f10 : Addr} {od10 an10 : Option Addr} {sl10 : Array (Option Value)} {oc10 kV10 dc10 pm10 cd10 ct10 : Value}
    {f11 : Addr} {od11 an11 : Option Addr} {sl11 : Array (Option Value)} {oc11 kV11 dc11 pm11 cd11 ct11 : Value}
    {f12 : Addr} {od12 an12 : Option Addr} {sl12 : Array (Option Value)} {oc12 kV12 dc12 pm12 cd12 ct12 : Value}
    {f13 : Addr} {od13 an13 : Option Addr} {sl13 : Array (Option Value)} {oc13 kV13 dc13 pm13 cd13 ct13 : Value}
    {f14 : Addr} {od14 an14 : Option Addr} {sl14 : Array (Option Value)} {oc14 kV14 dc14 pm14 cd14 ct14 : Value}
    {f15 : Addr} {od15 an15 : Option Addr} {sl15 : Array (Option Value)} {oc15 kV15 dc15 pm15 cd15 ct15 : Value}
    {f16 : Addr} {od16 an16 : Option Addr} {sl16 : Array (Option Value)} {oc16 kV16 dc16 pm16 cd16 ct16 : Value}
    {f17 : Addr} {od17 an17 : Option Addr} {sl17 : Array (Option Value)} {oc17 kV17 dc17 pm17 cd17 ct17 : Value}
    {f18 : Addr} {od18 an18 : Option Addr} {sl18 : Array (Option Value)} {oc18 kV18 dc18 pm18 cd18 ct18 : Value}
    {f19 : Addr} {od19 an19 : Option Addr} {sl19 : Array (Option Value)} {oc19 kV19 dc19 pm19 cd19 ct19 : Value}
    {f20 : Addr} {od20 an20 : Option Addr} {sl20 : Array (Option Value)} {oc20 kV20 dc20 pm20 cd20 ct20 : Value}
    {f21 : Addr} {od21 an21 : Option Addr} {sl21 : Array (Option Value)} {oc21 kV21 dc21 pm21 cd21 ct21 : Value}
    {f22 : Addr} {od22 an22 : Option Addr} {sl22 : Array (Option Value)} {oc22 kV22 dc22 pm22 cd22 ct22 : Value}
    {f23 : Addr} {od23 an23 : Option Addr} {sl23 : Array (Option Value)} {oc23 kV23 dc23 pm23 cd23 ct23 : Value}
    {f24 : Addr} {od24 an24 : Option Addr} {sl24 : Array (Option Value)} {oc24 kV24 dc24 pm24 cd24 ct24 : Value}
    {f25 : Addr} {od25 an25 : Option Addr} {sl25 : Array (Option Value)} {oc25 kV25 dc25 pm25 cd25 ct25 : Value}
    {C_BitWriter : Addr}
    {A_MODES : Addr}
    {A_MODE_NUMBERS : Addr} {es_MODE_NUMBERS : Array DictEntry} {en_MODE_NUMBERS : Nat}
    {u_MODE_NUMBERS_0 : Value}
    {u_MODE_NUMBERS_1 : Value}
    {u_MODE_NUMBERS_2 : Value}
    {A_GROUP_BITS : Addr} {es_GROUP_BITS : Array DictEntry} {en_GROUP_BITS : Nat}
    {u_GROUP_BITS_0 : Value}
    {u_GROUP_BITS_1 : Value}
    {u_GROUP_BITS_2 : Value}
    {A_BASES : Addr} {es_BASES : Array DictEntry} {en_BASES : Nat}
    {u_BASES_0 : Value}
    {u_BASES_1 : Value}
    {u_BASES_2 : Value}
    {A_ALPHANUMERIC : Addr}
    {A_COUNT_BITS : Addr} {es_COUNT_BITS : Array DictEntry} {en_COUNT_BITS : Nat}
    {u_COUNT_BITS_0 : Value}
    {u_COUNT_BITS_1 : Value}
    {u_COUNT_BITS_2 : Value}
    (aC_BitWriter : PySem.W.nsIn K mainGlobals "BitWriter" = some (some (.ref C_BitWriter)))
    (a0 : PySem.W.findIn K (.ref C_BitWriter) "__init__" = some (some (.ref f0)))
    (i0 : PySem.W.isFn K (.ref f0) = true)
    (l0 : K.lookup f0 = some ⟨oc0, od0, .func (PySem.W.fnOf "__init__" "BitWriter.__init__" (defArgs s_BitWriter___init__) (defBody s_BitWriter___init__) (defScope s_BitWriter___init__) .none kV0 dc0 pm0 an0 cd0 ct0), sl0⟩)
    (c0 : PySem.W.codeIn K cd0 "BitWriter.__init__" = true) (k0 : PySem.W.keepIn K (.ref f0) = true)
    (a1 : PySem.W.findIn K (.ref C_BitWriter) "write" = some (some (.ref f1)))
    (i1 : PySem.W.isFn K (.ref f1) = true)
    (l1 : K.lookup f1 = some ⟨oc1, od1, .func (PySem.W.fnOf "write" "BitWriter.write" (defArgs s_BitWriter_write) (defBody s_BitWriter_write) (defScope s_BitWriter_write) .none kV1 dc1 pm1 an1 cd1 ct1), sl1⟩)
    (c1 : PySem.W.codeIn K cd1 "BitWriter.write" = true) (k1 : PySem.W.keepIn K (.ref f1) = true)
    (a2 : PySem.W.findIn K (.ref C_BitWriter) "bit_list" = some (some (.ref f2)))
    (i2 : PySem.W.isFn K (.ref f2) = true)
    (l2 : K.lookup f2 = some ⟨oc2, od2, .func (PySem.W.fnOf "bit_list" "BitWriter.bit_list" (defArgs s_BitWriter_bit_list) (defBody s_BitWriter_bit_list) (defScope s_BitWriter_bit_list) .none kV2 dc2 pm2 an2 cd2 ct2), sl2⟩)
    (c2 : PySem.W.codeIn K cd2 "BitWriter.bit_list" = true) (k2 : PySem.W.keepIn K (.ref f2) = true)
    (a3 : PySem.W.nsIn K mainGlobals "count_bits" = some (some (.ref f3)))
    (l3 : K.lookup f3 = some ⟨oc3, od3, .func (PySem.W.fnOf "count_bits" "count_bits" (defArgs s_count_bits) (defBody s_count_bits) (defScope s_count_bits) .none kV3 dc3 pm3 an3 cd3 ct3), sl3⟩)
    (c3 : PySem.W.codeIn K cd3 "count_bits" = true) (k3 : PySem.W.keepIn K (.ref f3) = true)
    (a4 : PySem.W.nsIn K mainGlobals "group_size" = some (some (.ref f4)))
    (l4 : K.lookup f4 = some ⟨oc4, od4, .func (PySem.W.fnOf "group_size" "group_size" (defArgs s_group_size) (defBody s_group_size) (defScope s_group_size) .none kV4 dc4 pm4 an4 cd4 ct4), sl4⟩)
    (c4 : PySem.W.codeIn K cd4 "group_size" = true) (k4 : PySem.W.keepIn K (.ref f4) = true)
    (a5 : PySem.W.nsIn K mainGlobals "head_bits" = some (some (.ref f5)))
    (l5 : K.lookup f5 = some ⟨oc5, od5, .func (PySem.W.fnOf "head_bits" "head_bits" (defArgs s_head_bits) (defBody s_head_bits) (defScope s_head_bits) .none kV5 dc5 pm5 an5 cd5 ct5), sl5⟩)
    (c5 : PySem.W.codeIn K cd5 "head_bits" = true) (k5 : PySem.W.keepIn K (.ref f5) = true)
    (a6 : PySem.W.nsIn K mainGlobals "fits" = some (some (.ref f6)))
    (l6 : K.lookup f6 = some ⟨oc6, od6, .func (PySem.W.fnOf "fits" "fits" (defArgs s_fits) (defBody s_fits) (defScope s_fits) .none kV6 dc6 pm6 an6 cd6 ct6), sl6⟩)
    (c6 : PySem.W.codeIn K cd6 "fits" = true) (k6 : PySem.W.keepIn K (.ref f6) = true)
    (a7 : PySem.W.nsIn K mainGlobals "segment_bits" = some (some (.ref f7)))
    (l7 : K.lookup f7 = some ⟨oc7, od7, .func (PySem.W.fnOf "segment_bits" "segment_bits" (defArgs s_segment_bits) (defBody s_segment_bits) (defScope s_segment_bits) .none kV7 dc7 pm7 an7 cd7 ct7), sl7⟩)
    (c7 : PySem.W.codeIn K cd7 "segment_bits" = true) (k7 : PySem.W.keepIn K (.ref f7) = true)
    (a8 : PySem.W.nsIn K mainGlobals "number_of" = some (some (.ref f8)))
    (l8 : K.lookup f8 = some ⟨oc8, od8, .func (PySem.W.fnOf "number_of" "number_of" (defArgs s_number_of) (defBody s_number_of) (defScope s_number_of) .none kV8 dc8 pm8 an8 cd8 ct8), sl8⟩)
    (c8 : PySem.W.codeIn K cd8 "number_of" = true) (k8 : PySem.W.keepIn K (.ref f8) = true)
    (a9 : PySem.W.nsIn K mainGlobals "write_content" = some (some (.ref f9)))
    (l9 : K.lookup f9 = some ⟨oc9, od9, .func (PySem.W.fnOf "write_content" "write_content" (defArgs s_write_content) (defBody s_write_content) (defScope s_write_content) .none kV9 dc9 pm9 an9 cd9 ct9), sl9⟩)
    (c9 : PySem.W.codeIn K cd9 "write_content" = true) (k9 : PySem.W.keepIn K (.ref f9) = true)
    (a10 : PySem.W.nsIn K mainGlobals "write_segments" = some (some (.ref f10)))
    (l10 : K.lookup f10 = some ⟨oc10, od10, .func (PySem.W.fnOf "write_segments" "write_segments" (defArgs s_write_segments) (defBody s_write_segments) (defScope s_write_segments) .none kV10 dc10 pm10 an10 cd10 ct10), sl10⟩)
    (c10 : PySem.W.codeIn K cd10 "write_segments" = true) (k10 : PySem.W.keepIn K (.ref f10) = true)
    (a11 : PySem.W.nsIn K mainGlobals "ways_with_byte" = some (some (.ref f11)))
    (l11 : K.lookup f11 = some ⟨oc11, od11, .func (PySem.W.fnOf "ways_with_byte" "ways_with_byte" (defArgs s_ways_with_byte) (defBody s_ways_with_byte) (defScope s_ways_with_byte) .none kV11 dc11 pm11 an11 cd11 ct11), sl11⟩)
    (c11 : PySem.W.codeIn K cd11 "ways_with_byte" = true) (k11 : PySem.W.keepIn K (.ref f11) = true)
    (a12 : PySem.W.nsIn K mainGlobals "ways_onward" = some (some (.ref f12)))
    (l12 : K.lookup f12 = some ⟨oc12, od12, .func (PySem.W.fnOf "ways_onward" "ways_onward" (defArgs s_ways_onward) (defBody s_ways_onward) (defScope s_ways_onward) .none kV12 dc12 pm12 an12 cd12 ct12), sl12⟩)
    (c12 : PySem.W.codeIn K cd12 "ways_onward" = true) (k12 : PySem.W.keepIn K (.ref f12) = true)
    (a13 : PySem.W.nsIn K mainGlobals "best_beginning" = some (some (.ref f13)))
    (l13 : K.lookup f13 = some ⟨oc13, od13, .func (PySem.W.fnOf "best_beginning" "best_beginning" (defArgs s_best_beginning) (defBody s_best_beginning) (defScope s_best_beginning) .none kV13 dc13 pm13 an13 cd13 ct13), sl13⟩)
    (c13 : PySem.W.codeIn K cd13 "best_beginning" = true) (k13 : PySem.W.keepIn K (.ref f13) = true)
    (a14 : PySem.W.nsIn K mainGlobals "best_choices" = some (some (.ref f14)))
    (l14 : K.lookup f14 = some ⟨oc14, od14, .func (PySem.W.fnOf "best_choices" "best_choices" (defArgs s_best_choices) (defBody s_best_choices) (defScope s_best_choices) .none kV14 dc14 pm14 an14 cd14 ct14), sl14⟩)
    (c14 : PySem.W.codeIn K cd14 "best_choices" = true) (k14 : PySem.W.keepIn K (.ref f14) = true)
    (a15 : PySem.W.nsIn K mainGlobals "best_segments" = some (some (.ref f15)))
    (l15 : K.lookup f15 = some ⟨oc15, od15, .func (PySem.W.fnOf "best_segments" "best_segments" (defArgs s_best_segments) (defBody s_best_segments) (defScope s_best_segments) .none kV15 dc15 pm15 an15 cd15 ct15), sl15⟩)
    (c15 : PySem.W.codeIn K cd15 "best_segments" = true) (k15 : PySem.W.keepIn K (.ref f15) = true)
    (a16 : PySem.W.nsIn K mainGlobals "_law_cell" = some (some (.ref f16)))
    (l16 : K.lookup f16 = some ⟨oc16, od16, .func (PySem.W.fnOf "_law_cell" "_law_cell" (defArgs s__law_cell) (defBody s__law_cell) (defScope s__law_cell) .none kV16 dc16 pm16 an16 cd16 ct16), sl16⟩)
    (c16 : PySem.W.codeIn K cd16 "_law_cell" = true) (k16 : PySem.W.keepIn K (.ref f16) = true)
    (a17 : PySem.W.nsIn K mainGlobals "_law_head" = some (some (.ref f17)))
    (l17 : K.lookup f17 = some ⟨oc17, od17, .func (PySem.W.fnOf "_law_head" "_law_head" (defArgs s__law_head) (defBody s__law_head) (defScope s__law_head) .none kV17 dc17 pm17 an17 cd17 ct17), sl17⟩)
    (c17 : PySem.W.codeIn K cd17 "_law_head" = true) (k17 : PySem.W.keepIn K (.ref f17) = true)
    (a18 : PySem.W.nsIn K mainGlobals "_law_text" = some (some (.ref f18)))
    (l18 : K.lookup f18 = some ⟨oc18, od18, .func (PySem.W.fnOf "_law_text" "_law_text" (defArgs s__law_text) (defBody s__law_text) (defScope s__law_text) .none kV18 dc18 pm18 an18 cd18 ct18), sl18⟩)
    (c18 : PySem.W.codeIn K cd18 "_law_text" = true) (k18 : PySem.W.keepIn K (.ref f18) = true)
    (a19 : PySem.W.nsIn K mainGlobals "_law_value" = some (some (.ref f19)))
    (l19 : K.lookup f19 = some ⟨oc19, od19, .func (PySem.W.fnOf "_law_value" "_law_value" (defArgs s__law_value) (defBody s__law_value) (defScope s__law_value) .none kV19 dc19 pm19 an19 cd19 ct19), sl19⟩)
    (c19 : PySem.W.codeIn K cd19 "_law_value" = true) (k19 : PySem.W.keepIn K (.ref f19) = true)
    (a20 : PySem.W.nsIn K mainGlobals "_law_allows" = some (some (.ref f20)))
    (l20 : K.lookup f20 = some ⟨oc20, od20, .func (PySem.W.fnOf "_law_allows" "_law_allows" (defArgs s__law_allows) (defBody s__law_allows) (defScope s__law_allows) .none kV20 dc20 pm20 an20 cd20 ct20), sl20⟩)
    (c20 : PySem.W.codeIn K cd20 "_law_allows" = true) (k20 : PySem.W.keepIn K (.ref f20) = true)
    (a21 : PySem.W.nsIn K mainGlobals "_law_cost" = some (some (.ref f21)))
    (l21 : K.lookup f21 = some ⟨oc21, od21, .func (PySem.W.fnOf "_law_cost" "_law_cost" (defArgs s__law_cost) (defBody s__law_cost) (defScope s__law_cost) .none kV21 dc21 pm21 an21 cd21 ct21), sl21⟩)
    (c21 : PySem.W.codeIn K cd21 "_law_cost" = true) (k21 : PySem.W.keepIn K (.ref f21) = true)
    (a22 : PySem.W.nsIn K mainGlobals "_law_due" = some (some (.ref f22)))
    (l22 : K.lookup f22 = some ⟨oc22, od22, .func (PySem.W.fnOf "_law_due" "_law_due" (defArgs s__law_due) (defBody s__law_due) (defScope s__law_due) .none kV22 dc22 pm22 an22 cd22 ct22), sl22⟩)
    (c22 : PySem.W.codeIn K cd22 "_law_due" = true) (k22 : PySem.W.keepIn K (.ref f22) = true)
    (a23 : PySem.W.nsIn K mainGlobals "_law_bits" = some (some (.ref f23)))
    (l23 : K.lookup f23 = some ⟨oc23, od23, .func (PySem.W.fnOf "_law_bits" "_law_bits" (defArgs s__law_bits) (defBody s__law_bits) (defScope s__law_bits) .none kV23 dc23 pm23 an23 cd23 ct23), sl23⟩)
    (c23 : PySem.W.codeIn K cd23 "_law_bits" = true) (k23 : PySem.W.keepIn K (.ref f23) = true)
    (a24 : PySem.W.nsIn K mainGlobals "_law_written" = some (some (.ref f24)))
    (l24 : K.lookup f24 = some ⟨oc24, od24, .func (PySem.W.fnOf "_law_written" "_law_written" (defArgs s__law_written) (defBody s__law_written) (defScope s__law_written) .none kV24 dc24 pm24 an24 cd24 ct24), sl24⟩)
    (c24 : PySem.W.codeIn K cd24 "_law_written" = true) (k24 : PySem.W.keepIn K (.ref f24) = true)
    (a25 : PySem.W.nsIn K mainGlobals "law" = some (some (.ref f25)))
    (l25 : K.lookup f25 = some ⟨oc25, od25, .func (PySem.W.fnOf "law" "law" (defArgs s_law) (defBody s_law) (defScope s_law) .none kV25 dc25 pm25 an25 cd25 ct25), sl25⟩)
    (c25 : PySem.W.codeIn K cd25 "law" = true) (k25 : PySem.W.keepIn K (.ref f25) = true)
    (pg_BitWriter : PySem.W.plainGet K C_BitWriter Str.empty = true) (hd_BitWriter : PySem.W.hasDictIn K C_BitWriter = true) (po_BitWriter : PySem.W.plainOver K C_BitWriter = true) (sa_BitWriter : PySem.W.findIn K (.ref C_BitWriter) "__setattr__" = some (some (.builtin "object.__setattr__"))) (mk_BitWriter : PySem.W.makesIn K C_BitWriter = true) (kc_BitWriter : PySem.W.keepIn K (.ref C_BitWriter) = true)
    (no_BitWriter__bits : PySem.W.findIn K (.ref C_BitWriter) "_bits" = some none)
    (m_MODES : PySem.W.nsIn K mainGlobals "MODES" = some (some (.ref A_MODES))) (tr_MODES : Z.okT K (.ref A_MODES) (.t (modes.map .s)) = true)
    (m_MODE_NUMBERS : PySem.W.nsIn K mainGlobals "MODE_NUMBERS" = some (some (.ref A_MODE_NUMBERS))) (ld_MODE_NUMBERS : K.lookup A_MODE_NUMBERS = some ⟨.type "dict", none, .dict es_MODE_NUMBERS en_MODE_NUMBERS, #[]⟩) (kl_MODE_NUMBERS : PySem.W.KeysLit w.params es_MODE_NUMBERS.toList)
    (k_MODE_NUMBERS_0 : PySem.W.nsIn K A_MODE_NUMBERS "numeric" = some (some u_MODE_NUMBERS_0)) (tr_MODE_NUMBERS_0 : Z.okT K u_MODE_NUMBERS_0 (.i ((2 ^ 0 : Nat) : Int)) = true)
    (k_MODE_NUMBERS_1 : PySem.W.nsIn K A_MODE_NUMBERS "alphanumeric" = some (some u_MODE_NUMBERS_1)) (tr_MODE_NUMBERS_1 : Z.okT K u_MODE_NUMBERS_1 (.i ((2 ^ 1 : Nat) : Int)) = true)
    (k_MODE_NUMBERS_2 : PySem.W.nsIn K A_MODE_NUMBERS "byte" = some (some u_MODE_NUMBERS_2)) (tr_MODE_NUMBERS_2 : Z.okT K u_MODE_NUMBERS_2 (.i ((2 ^ 2 : Nat) : Int)) = true)
    (m_GROUP_BITS : PySem.W.nsIn K mainGlobals "GROUP_BITS" = some (some (.ref A_GROUP_BITS))) (ld_GROUP_BITS : K.lookup A_GROUP_BITS = some ⟨.type "dict", none, .dict es_GROUP_BITS en_GROUP_BITS, #[]⟩) (kl_GROUP_BITS : PySem.W.KeysLit w.params es_GROUP_BITS.toList)
    (k_GROUP_BITS_0 : PySem.W.nsIn K A_GROUP_BITS "numeric" = some (some u_GROUP_BITS_0)) (tr_GROUP_BITS_0 : Z.okT K u_GROUP_BITS_0 (.t ((wdT.getD 0 []).map fun n : Nat => .i (n : Nat))) = true)
    (k_GROUP_BITS_1 : PySem.W.nsIn K A_GROUP_BITS "alphanumeric" = some (some u_GROUP_BITS_1)) (tr_GROUP_BITS_1 : Z.okT K u_GROUP_BITS_1 (.t ((wdT.getD 1 []).map fun n : Nat => .i (n : Nat))) = true)
    (k_GROUP_BITS_2 : PySem.W.nsIn K A_GROUP_BITS "byte" = some (some u_GROUP_BITS_2)) (tr_GROUP_BITS_2 : Z.okT K u_GROUP_BITS_2 (.t ((wdT.getD 2 []).map fun n : Nat => .i (n : Nat))) = true)
    (m_BASES : PySem.W.nsIn K mainGlobals "BASES" = some (some (.ref A_BASES))) (ld_BASES : K.lookup A_BASES = some ⟨.type "dict", none, .dict es_BASES en_BASES, #[]⟩) (kl_BASES : PySem.W.KeysLit w.params es_BASES.toList)
    (k_BASES_0 : PySem.W.nsIn K A_BASES "numeric" = some (some u_BASES_0)) (tr_BASES_0 : Z.okT K u_BASES_0 (.i (bsN 0 : Nat)) = true)
    (k_BASES_1 : PySem.W.nsIn K A_BASES "alphanumeric" = some (some u_BASES_1)) (tr_BASES_1 : Z.okT K u_BASES_1 (.i (bsN 1 : Nat)) = true)
    (k_BASES_2 : PySem.W.nsIn K A_BASES "byte" = some (some u_BASES_2)) (tr_BASES_2 : Z.okT K u_BASES_2 (.i (bsN 2 : Nat)) = true)
    (m_ALPHANUMERIC : PySem.W.nsIn K mainGlobals "ALPHANUMERIC" = some (some (.ref A_ALPHANUMERIC))) (tr_ALPHANUMERIC : Z.okT K (.ref A_ALPHANUMERIC) (.t (anL.map fun n : Nat => Z.Tr.i (n : Nat))) = true)
    (m_COUNT_BITS : PySem.W.nsIn K mainGlobals "COUNT_BITS" = some (some (.ref A_COUNT_BITS))) (ld_COUNT_BITS : K.lookup A_COUNT_BITS = some ⟨.type "dict", none, .dict es_COUNT_BITS en_COUNT_BITS, #[]⟩) (kl_COUNT_BITS : PySem.W.KeysLit w.params es_COUNT_BITS.toList)
    (k_COUNT_BITS_0 : PySem.W.nsIn K A_COUNT_BITS "numeric" = some (some u_COUNT_BITS_0)) (tr_COUNT_BITS_0 : Z.okT K u_COUNT_BITS_0 (.t ((cbT.getD 0 []).map fun n : Nat => .i (n : Nat))) = true)
    (k_COUNT_BITS_1 : PySem.W.nsIn K A_COUNT_BITS "alphanumeric" = some (some u_COUNT_BITS_1)) (tr_COUNT_BITS_1 : Z.okT K u_COUNT_BITS_1 (.t ((cbT.getD 1 []).map fun n : Nat => .i (n : Nat))) = true)
    (k_COUNT_BITS_2 : PySem.W.nsIn K A_COUNT_BITS "byte" = some (some u_COUNT_BITS_2)) (tr_COUNT_BITS_2 : Z.okT K u_COUNT_BITS_2 (.t ((cbT.getD 2 []).map fun n : Nat => .i (n : Nat))) = true)
    (z_range : PySem.W.nsIn K mainGlobals "range" = some none)
    (z_list : PySem.W.nsIn K mainGlobals "list" = some none)
    (z_len : PySem.W.nsIn K mainGlobals "len" = some none)
    (z_all : PySem.W.nsIn K mainGlobals "all" = some none)
    (z_min : PySem.W.nsIn K mainGlobals "min" = some none)
    (z_int : PySem.W.nsIn K mainGlobals "int" = some none)
    (z_isinstance : PySem.W.nsIn K mainGlobals "isinstance" = some none)
    (z_tuple : PySem.W.nsIn K mainGlobals "tuple" = some none)
    (z_sum : PySem.W.nsIn K mainGlobals "sum" = some none) :
    ∃ fd : FuncData, (∀ (s : Shared) (v : Value), BindsTo s fd ⟨[v], []⟩ [("script", v)]) ∧ ∀ base : Heap, K.In base → base.Ns mainGlobals mg → FnOk l.prog w K mg base CX0 6 fa fd pl_law (sp_law K) := by
  have e := hfa.symm.trans (PySem.W.mg_of X G a25)
  cases e
  let T : Top K mg w := {
    a_BitWriter___init__ := f0,
    d_BitWriter___init__ := _,
    F_BitWriter___init__ := fun_mk (st := s_BitWriter___init__) l0 c0 k0,
    b_BitWriter___init__ := (fun_mk (st := s_BitWriter___init__) l0 c0 k0).binds (ps := pl_BitWriter___init__) fun _ _ _ _ _ _ us hl => match us, hl with | [_], _ => rfl,
    a_BitWriter_write := f1,
    d_BitWriter_write := _,
    F_BitWriter_write := fun_mk (st := s_BitWriter_write) l1 c1 k1,
    b_BitWriter_write := (fun_mk (st := s_BitWriter_write) l1 c1 k1).binds (ps := pl_BitWriter_write) fun _ _ _ _ _ _ us hl => match us, hl with | [_, _, _], _ => rfl,
    a_BitWriter_bit_list := f2,
    d_BitWriter_bit_list := _,
    F_BitWriter_bit_list := fun_mk (st := s_BitWriter_bit_list) l2 c2 k2,
    b_BitWriter_bit_list := (fun_mk (st := s_BitWriter_bit_list) l2 c2 k2).binds (ps := pl_BitWriter_bit_list) fun _ _ _ _ _ _ us hl => match us, hl with | [_], _ => rfl,
    a_count_bits := f3,
    d_count_bits := _,
    F_count_bits := fun_mk (st := s_count_bits) l3 c3 k3,
    b_count_bits := (fun_mk (st := s_count_bits) l3 c3 k3).binds (ps := pl_count_bits) fun _ _ _ _ _ _ us hl => match us, hl with | [_, _], _ => rfl,
    g_count_bits := PySem.W.mg_of X G a3,
    a_group_size := f4,
    d_group_size := _,
    F_group_size := fun_mk (st := s_group_size) l4 c4 k4,
    b_group_size := (fun_mk (st := s_group_size) l4 c4 k4).binds (ps := pl_group_size) fun _ _ _ _ _ _ us hl => match us, hl with | [_], _ => rfl,
    g_group_size := PySem.W.mg_of X G a4,
    a_head_bits := f5,
    d_head_bits := _,
    F_head_bits := fun_mk (st := s_head_bits) l5 c5 k5,
    b_head_bits := (fun_mk (st := s_head_bits) l5 c5 k5).binds (ps := pl_head_bits) fun _ _ _ _ _ _ us hl => match us, hl with | [_, _], _ => rfl,
    g_head_bits := PySem.W.mg_of X G a5,
    a_fits := f6,
    d_fits := _,
    F_fits := fun_mk (st := s_fits) l6 c6 k6,
    b_fits := (fun_mk (st := s_fits) l6 c6 k6).binds (ps := pl_fits) fun _ _ _ _ _ _ us hl => match us, hl with | [_, _], _ => rfl,
    g_fits := PySem.W.mg_of X G a6,
    a_segment_bits := f7,
    d_segment_bits := _,
    F_segment_bits := fun_mk (st := s_segment_bits) l7 c7 k7,
    b_segment_bits := (fun_mk (st := s_segment_bits) l7 c7 k7).binds (ps := pl_segment_bits) fun _ _ _ _ _ _ us hl => match us, hl with | [_, _], _ => rfl,
    g_segment_bits := PySem.W.mg_of X G a7,
    a_number_of := f8,
    d_number_of := _,
    F_number_of := fun_mk (st := s_number_of) l8 c8 k8,
    b_number_of := (fun_mk (st := s_number_of) l8 c8 k8).binds (ps := pl_number_of) fun _ _ _ _ _ _ us hl => match us, hl with | [_, _], _ => rfl,
    g_number_of := PySem.W.mg_of X G a8,
    a_write_content := f9,
    d_write_content := _,
    F_write_content := fun_mk (st := s_write_content) l9 c9 k9,
    b_write_content := (fun_mk (st := s_write_content) l9 c9 k9).binds (ps := pl_write_content) fun _ _ _ _ _ _ us hl => match us, hl with | [_, _, _], _ => rfl,
    g_write_content := PySem.W.mg_of X G a9,
    a_write_segments := f10,
    d_write_segments := _,
    F_write_segments := fun_mk (st := s_write_segments) l10 c10 k10,
    b_write_segments := (fun_mk (st := s_write_segments) l10 c10 k10).binds (ps := pl_write_segments) fun _ _ _ _ _ _ us hl => match us, hl with | [_, _, _], _ => rfl,
    g_write_segments := PySem.W.mg_of X G a10,
    a_ways_with_byte := f11,
    d_ways_with_byte := _,
    F_ways_with_byte := fun_mk (st := s_ways_with_byte) l11 c11 k11,
    b_ways_with_byte := (fun_mk (st := s_ways_with_byte) l11 c11 k11).binds (ps := pl_ways_with_byte) fun _ _ _ _ _ _ us hl => match us, hl with | [_, _], _ => rfl,
    g_ways_with_byte := PySem.W.mg_of X G a11,
    a_ways_onward := f12,
    d_ways_onward := _,
    F_ways_onward := fun_mk (st := s_ways_onward) l12 c12 k12,
    b_ways_onward := (fun_mk (st := s_ways_onward) l12 c12 k12).binds (ps := pl_ways_onward) fun _ _ _ _ _ _ us hl => match us, hl with | [_, _], _ => rfl,
    g_ways_onward := PySem.W.mg_of X G a12,
    a_best_beginning := f13,
    d_best_beginning := _,
    F_best_beginning := fun_mk (st := s_best_beginning) l13 c13 k13,
    b_best_beginning := (fun_mk (st := s_best_beginning) l13 c13 k13).binds (ps := pl_best_beginning) fun _ _ _ _ _ _ us hl => match us, hl with | [_, _], _ => rfl,
    g_best_beginning := PySem.W.mg_of X G a13,
    a_best_choices := f14,
    d_best_choices := _,
    F_best_choices := fun_mk (st := s_best_choices) l14 c14 k14,
    b_best_choices := (fun_mk (st := s_best_choices) l14 c14 k14).binds (ps := pl_best_choices) fun _ _ _ _ _ _ us hl => match us, hl with | [_, _], _ => rfl,
    g_best_choices := PySem.W.mg_of X G a14,
    a_best_segments := f15,
    d_best_segments := _,
    F_best_segments := fun_mk (st := s_best_segments) l15 c15 k15,
    b_best_segments := (fun_mk (st := s_best_segments) l15 c15 k15).binds (ps := pl_best_segments) fun _ _ _ _ _ _ us hl => match us, hl with | [_, _], _ => rfl,
    g_best_segments := PySem.W.mg_of X G a15,
    a__law_cell := f16,
    d__law_cell := _,
    F__law_cell := fun_mk (st := s__law_cell) l16 c16 k16,
    b__law_cell := (fun_mk (st := s__law_cell) l16 c16 k16).binds (ps := pl__law_cell) fun _ _ _ _ _ _ us hl => match us, hl with | [_, _], _ => rfl,
    g__law_cell := PySem.W.mg_of X G a16,
    a__law_head := f17,
    d__law_head := _,
    F__law_head := fun_mk (st := s__law_head) l17 c17 k17,
    b__law_head := (fun_mk (st := s__law_head) l17 c17 k17).binds (ps := pl__law_head) fun _ _ _ _ _ _ us hl => match us, hl with | [_, _], _ => rfl,
    g__law_head := PySem.W.mg_of X G a17,
    a__law_text := f18,
    d__law_text := _,
    F__law_text := fun_mk (st := s__law_text) l18 c18 k18,
    b__law_text := (fun_mk (st := s__law_text) l18 c18 k18).binds (ps := pl__law_text) fun _ _ _ _ _ _ us hl => match us, hl with | [_, _, _], _ => rfl,
    g__law_text := PySem.W.mg_of X G a18,
    a__law_value := f19,
    d__law_value := _,
    F__law_value := fun_mk (st := s__law_value) l19 c19 k19,
    b__law_value := (fun_mk (st := s__law_value) l19 c19 k19).binds (ps := pl__law_value) fun _ _ _ _ _ _ us hl => match us, hl with | [_], _ => rfl,
    g__law_value := PySem.W.mg_of X G a19,
    a__law_allows := f20,
    d__law_allows := _,
    F__law_allows := fun_mk (st := s__law_allows) l20 c20 k20,
    b__law_allows := (fun_mk (st := s__law_allows) l20 c20 k20).binds (ps := pl__law_allows) fun _ _ _ _ _ _ us hl => match us, hl with | [_, _], _ => rfl,
    g__law_allows := PySem.W.mg_of X G a20,
    a__law_cost := f21,
    d__law_cost := _,
    F__law_cost := fun_mk (st := s__law_cost) l21 c21 k21,
    b__law_cost := (fun_mk (st := s__law_cost) l21 c21 k21).binds (ps := pl__law_cost) fun _ _ _ _ _ _ us hl => match us, hl with | [_, _, _], _ => rfl,
    g__law_cost := PySem.W.mg_of X G a21,
    a__law_due := f22,
    d__law_due := _,
    F__law_due := fun_mk (st := s__law_due) l22 c22 k22,
    b__law_due := (fun_mk (st := s__law_due) l22 c22 k22).binds (ps := pl__law_due) fun _ _ _ _ _ _ us hl => match us, hl with | [_, _], _ => rfl,
    g__law_due := PySem.W.mg_of X G a22,
    a__law_bits := f23,
    d__law_bits := _,
    F__law_bits := fun_mk (st := s__law_bits) l23 c23 k23,
    b__law_bits := (fun_mk (st := s__law_bits) l23 c23 k23).binds (ps := pl__law_bits) fun _ _ _ _ _ _ us hl => match us, hl with | [_, _], _ => rfl,
    g__law_bits := PySem.W.mg_of X G a23,
    a__law_written := f24,
    d__law_written := _,
    F__law_written := fun_mk (st := s__law_written) l24 c24 k24,
    b__law_written := (fun_mk (st := s__law_written) l24 c24 k24).binds (ps := pl__law_written) fun _ _ _ _ _ _ us hl => match us, hl with | [_, _], _ => rfl,
    g__law_written := PySem.W.mg_of X G a24,
    a_law := fa,
    d_law := _,
    F_law := fun_mk (st := s_law) l25 c25 k25,
    b_law := (fun_mk (st := s_law) l25 c25 k25).binds (ps := pl_law) fun _ _ _ _ _ _ us hl => match us, hl with | [_], _ => rfl,
    g_law := PySem.W.mg_of X G a25,
    a_BitWriter := C_BitWriter,
    cl_BitWriter := ⟨pg_BitWriter, hd_BitWriter, po_BitWriter, sa_BitWriter⟩,
    g_BitWriter := PySem.W.mg_of X G aC_BitWriter,
    M_BitWriter := ⟨mk_BitWriter, a0, i0, kc_BitWriter⟩,
    me_BitWriter_write := ⟨a1, i1, k1⟩,
    me_BitWriter_bit_list := ⟨a2, i2, k2⟩,
    no_BitWriter__bits := no_BitWriter__bits,
    a_MODES := A_MODES,
    m_MODES := PySem.W.mg_of X G m_MODES,
    t_MODES := tr_MODES,
    a_MODE_NUMBERS := A_MODE_NUMBERS,
    m_MODE_NUMBERS := PySem.W.mg_of X G m_MODE_NUMBERS,
    d_MODE_NUMBERS := Z.kd_mk ld_MODE_NUMBERS kl_MODE_NUMBERS,
    u_MODE_NUMBERS_0 := u_MODE_NUMBERS_0,
    k_MODE_NUMBERS_0 := k_MODE_NUMBERS_0,
    t_MODE_NUMBERS_0 := tr_MODE_NUMBERS_0,
    u_MODE_NUMBERS_1 := u_MODE_NUMBERS_1,
    k_MODE_NUMBERS_1 := k_MODE_NUMBERS_1,
    t_MODE_NUMBERS_1 := tr_MODE_NUMBERS_1,
    u_MODE_NUMBERS_2 := u_MODE_NUMBERS_2,
    k_MODE_NUMBERS_2 := k_MODE_NUMBERS_2,
    t_MODE_NUMBERS_2 := tr_MODE_NUMBERS_2,
    a_GROUP_BITS := A_GROUP_BITS,
    m_GROUP_BITS := PySem.W.mg_of X G m_GROUP_BITS,
    d_GROUP_BITS := Z.kd_mk ld_GROUP_BITS kl_GROUP_BITS,
    u_GROUP_BITS_0 := u_GROUP_BITS_0,
    k_GROUP_BITS_0 := k_GROUP_BITS_0,
    t_GROUP_BITS_0 := tr_GROUP_BITS_0,
    u_GROUP_BITS_1 := u_GROUP_BITS_1,
    k_GROUP_BITS_1 := k_GROUP_BITS_1,
    t_GROUP_BITS_1 := tr_GROUP_BITS_1,
    u_GROUP_BITS_2 := u_GROUP_BITS_2,
    k_GROUP_BITS_2 := k_GROUP_BITS_2,
    t_GROUP_BITS_2 := tr_GROUP_BITS_2,
    a_BASES := A_BASES,
    m_BASES := PySem.W.mg_of X G m_BASES,
    d_BASES := Z.kd_mk ld_BASES kl_BASES,
    u_BASES_0 := u_BASES_0,
    k_BASES_0 := k_BASES_0,
    t_BASES_0 := tr_BASES_0,
    u_BASES_1 := u_BASES_1,
    k_BASES_1 := k_BASES_1,
    t_BASES_1 := tr_BASES_1,
    u_BASES_2 := u_BASES_2,
    k_BASES_2 := k_BASES_2,
    t_BASES_2 := tr_BASES_2,
    a_ALPHANUMERIC := A_ALPHANUMERIC,
    m_ALPHANUMERIC := PySem.W.mg_of X G m_ALPHANUMERIC,
    t_ALPHANUMERIC := tr_ALPHANUMERIC,
    a_COUNT_BITS := A_COUNT_BITS,
    m_COUNT_BITS := PySem.W.mg_of X G m_COUNT_BITS,
    d_COUNT_BITS := Z.kd_mk ld_COUNT_BITS kl_COUNT_BITS,
    u_COUNT_BITS_0 := u_COUNT_BITS_0,
    k_COUNT_BITS_0 := k_COUNT_BITS_0,
    t_COUNT_BITS_0 := tr_COUNT_BITS_0,
    u_COUNT_BITS_1 := u_COUNT_BITS_1,
    k_COUNT_BITS_1 := k_COUNT_BITS_1,
    t_COUNT_BITS_1 := tr_COUNT_BITS_1,
    u_COUNT_BITS_2 := u_COUNT_BITS_2,
    k_COUNT_BITS_2 := k_COUNT_BITS_2,
    t_COUNT_BITS_2 := tr_COUNT_BITS_2,
    n_range := PySem.W.mg_none_of X G z_range,
    n_list := PySem.W.mg_none_of X G z_list,
    n_len := PySem.W.mg_none_of X G z_len,
    n_all := PySem.W.mg_none_of X G z_all,
    n_min := PySem.W.mg_none_of X G z_min,
    n_int := PySem.W.mg_none_of X G z_int,
    n_isinstance := PySem.W.mg_none_of X G z_isinstance,
    n_tuple := PySem.W.mg_none_of X G z_tuple,
    n_sum := PySem.W.mg_none_of X G z_sum }
  exact ⟨T.d_law, fun s v => .of_eq rfl, fun base _ _ => ok_law T⟩
end M_k34
open PySem PySem.W PyProof.Rows
set_option maxRecDepth 100000 in
set_option maxHeartbeats 0 in
theorem PySem.Challenge.cw_dotfield_k34_best_segments_holds : PySem.Challenge.rw_dotfield_k34_best_segments.Holds := by
  w_on; o_law; k_head; (case hw => w_witness2)
  k_fill
  refine L2.walk_of (l := PySem.Challenge.rw_dotfield_k34_best_segments) (n := 63) (k := 6) (x := "script") (CX := fun _ => L2.CX0) (sp := fun w => M_k34.sp_law _) rfl (by decide) rfl ⟨rfl, by decide, by decide⟩ (fun w h Y => PySem.W.kIn_of Y) ?F (fun _ _ a ns hl _ hS => ⟨a, ns, rfl, hS, hl, fun _ => rfl⟩) (fun _ _ _ _ _ h => h)
  case F =>
    intro w mg fa h KX G hmg
    refine' M_k34.all_mk KX G hmg ?aC_BitWriter ?a0 ?i0 ?l0 ?c0 ?k0 ?a1 ?i1 ?l1 ?c1 ?k1 ?a2 ?i2 ?l2 ?c2 ?k2 ?a3 ?l3 ?c3 ?k3 ?a4 ?l4 ?c4 ?k4 ?a5 ?l5 ?c5 ?k5 ?a6 ?l6 ?c6 ?k6 ?a7 ?l7 ?c7 ?k7 ?a8 ?l8 ?c8 ?k8 ?a9 ?l9 ?c9 ?k9 ?a10 ?l10 ?c10 ?k10 ?a11 ?l11 ?c11 ?k11 ?a12 ?l12 ?c12 ?k12 ?a13 ?l13 ?c13 ?k13 ?a14 ?l14 ?c14 ?k14 ?a15 ?l15 ?c15 ?k15 ?a16 ?l16 ?c16 ?k16 ?a17 ?l17 ?c17 ?k17 ?a18 ?l18 ?c18 ?k18 ?a19 ?l19 ?c19 ?k19 ?a20 ?l20 ?c20 ?k20 ?a21 ?l21 ?c21 ?k21 ?a22 ?l22 ?c22 ?k22 ?a23 ?l23 ?c23 ?k23 ?a24 ?l24 ?c24 ?k24 ?a25 ?l25 ?c25 ?k25 ?pg_BitWriter ?hd_BitWriter ?po_BitWriter ?sa_BitWriter ?mk_BitWriter ?kc_BitWriter ?no_BitWriter__bits ?m_MODES ?tr_MODES ?m_MODE_NUMBERS ?ld_MODE_NUMBERS ?kl_MODE_NUMBERS ?k_MODE_NUMBERS_0 ?tr_MODE_NUMBERS_0 ?k_MODE_NUMBERS_1 ?tr_MODE_NUMBERS_1 ?k_MODE_NUMBERS_2 ?tr_MODE_NUMBERS_2 ?m_GROUP_BITS ?ld_GROUP_BITS ?kl_GROUP_BITS ?k_GROUP_BITS_0 ?tr_GROUP_BITS_0 ?k_GROUP_BITS_1 ?tr_GROUP_BITS_1 ?k_GROUP_BITS_2 ?tr_GROUP_BITS_2 ?m_BASES ?ld_BASES ?kl_BASES ?k_BASES_0 ?tr_BASES_0 ?k_BASES_1 ?tr_BASES_1 ?k_BASES_2 ?tr_BASES_2 ?m_ALPHANUMERIC ?tr_ALPHANUMERIC ?m_COUNT_BITS ?ld_COUNT_BITS ?kl_COUNT_BITS ?k_COUNT_BITS_0 ?tr_COUNT_BITS_0 ?k_COUNT_BITS_1 ?tr_COUNT_BITS_1 ?k_COUNT_BITS_2 ?tr_COUNT_BITS_2 ?z_range ?z_list ?z_len ?z_all ?z_min ?z_int ?z_isinstance ?z_tuple ?z_sum
    (case aC_BitWriter => k_is)
    (case a0 => k_is)
    (case i0 => k_is)
    (case l0 => k_is)
    (case c0 => k_is)
    (case k0 => k_is)
    (case a1 => k_is)
    (case i1 => k_is)
    (case l1 => k_is)
    (case c1 => k_is)
    (case k1 => k_is)
    (case a2 => k_is)
    (case i2 => k_is)
    (case l2 => k_is)
    (case c2 => k_is)
    (case k2 => k_is)
    (case a3 => k_is)
    (case l3 => k_is)
    (case c3 => k_is)
    (case k3 => k_is)
    (case a4 => k_is)
    (case l4 => k_is)
    (case c4 => k_is)
    (case k4 => k_is)
    (case a5 => k_is)
    (case l5 => k_is)
    (case c5 => k_is)
    (case k5 => k_is)
    (case a6 => k_is)
    (case l6 => k_is)
    (case c6 => k_is)
    (case k6 => k_is)
    (case a7 => k_is)
    (case l7 => k_is)
    (case c7 => k_is)
    (case k7 => k_is)
    (case a8 => k_is)
    (case l8 => k_is)
    (case c8 => k_is)
    (case k8 => k_is)
    (case a9 => k_is)
    (case l9 => k_is)
    (case c9 => k_is)
    (case k9 => k_is)
    (case a10 => k_is)
    (case l10 => k_is)
    (case c10 => k_is)
    (case k10 => k_is)
    (case a11 => k_is)
    (case l11 => k_is)
    (case c11 => k_is)
    (case k11 => k_is)
    (case a12 => k_is)
    (case l12 => k_is)
    (case c12 => k_is)
    (case k12 => k_is)
    (case a13 => k_is)
    (case l13 => k_is)
    (case c13 => k_is)
    (case k13 => k_is)
    (case a14 => k_is)
    (case l14 => k_is)
    (case c14 => k_is)
    (case k14 => k_is)
    (case a15 => k_is)
    (case l15 => k_is)
    (case c15 => k_is)
    (case k15 => k_is)
    (case a16 => k_is)
    (case l16 => k_is)
    (case c16 => k_is)
    (case k16 => k_is)
    (case a17 => k_is)
    (case l17 => k_is)
    (case c17 => k_is)
    (case k17 => k_is)
    (case a18 => k_is)
    (case l18 => k_is)
    (case c18 => k_is)
    (case k18 => k_is)
    (case a19 => k_is)
    (case l19 => k_is)
    (case c19 => k_is)
    (case k19 => k_is)
    (case a20 => k_is)
    (case l20 => k_is)
    (case c20 => k_is)
    (case k20 => k_is)
    (case a21 => k_is)
    (case l21 => k_is)
    (case c21 => k_is)
    (case k21 => k_is)
    (case a22 => k_is)
    (case l22 => k_is)
    (case c22 => k_is)
    (case k22 => k_is)
    (case a23 => k_is)
    (case l23 => k_is)
    (case c23 => k_is)
    (case k23 => k_is)
    (case a24 => k_is)
    (case l24 => k_is)
    (case c24 => k_is)
    (case k24 => k_is)
    (case a25 => k_is)
    (case l25 => k_is)
    (case c25 => k_is)
    (case k25 => k_is)
    (case pg_BitWriter => k_is)
    (case hd_BitWriter => k_is)
    (case po_BitWriter => k_is)
    (case sa_BitWriter => k_is)
    (case mk_BitWriter => k_is)
    (case kc_BitWriter => k_is)
    (case no_BitWriter__bits => k_is)
    (case m_MODES => k_is)
    (case tr_MODES => kernel_rfl)
    (case m_MODE_NUMBERS => k_is)
    (case ld_MODE_NUMBERS => k_is)
    (case kl_MODE_NUMBERS => repeat (first | exact trivial | refine ⟨⟨_, _, rfl, rfl⟩, ?_⟩))
    (case k_MODE_NUMBERS_0 => k_is)
    (case tr_MODE_NUMBERS_0 => kernel_rfl)
    (case k_MODE_NUMBERS_1 => k_is)
    (case tr_MODE_NUMBERS_1 => kernel_rfl)
    (case k_MODE_NUMBERS_2 => k_is)
    (case tr_MODE_NUMBERS_2 => kernel_rfl)
    (case m_GROUP_BITS => k_is)
    (case ld_GROUP_BITS => k_is)
    (case kl_GROUP_BITS => repeat (first | exact trivial | refine ⟨⟨_, _, rfl, rfl⟩, ?_⟩))
    (case k_GROUP_BITS_0 => k_is)
    (case tr_GROUP_BITS_0 => kernel_rfl)
    (case k_GROUP_BITS_1 => k_is)
    (case tr_GROUP_BITS_1 => kernel_rfl)
    (case k_GROUP_BITS_2 => k_is)
    (case tr_GROUP_BITS_2 => kernel_rfl)
    (case m_BASES => k_is)
    (case ld_BASES => k_is)
    (case kl_BASES => repeat (first | exact trivial | refine ⟨⟨_, _, rfl, rfl⟩, ?_⟩))
    (case k_BASES_0 => k_is)
    (case tr_BASES_0 => kernel_rfl)
    (case k_BASES_1 => k_is)
    (case tr_BASES_1 => kernel_rfl)
    (case k_BASES_2 => k_is)
    (case tr_BASES_2 => kernel_rfl)
    (case m_ALPHANUMERIC => k_is)
    (case tr_ALPHANUMERIC => kernel_rfl)
    (case m_COUNT_BITS => k_is)
    (case ld_COUNT_BITS => k_is)
    (case kl_COUNT_BITS => repeat (first | exact trivial | refine ⟨⟨_, _, rfl, rfl⟩, ?_⟩))
    (case k_COUNT_BITS_0 => k_is)
    (case tr_COUNT_BITS_0 => kernel_rfl)
    (case k_COUNT_BITS_1 => k_is)
    (case tr_COUNT_BITS_1 => kernel_rfl)
    (case k_COUNT_BITS_2 => k_is)
    (case tr_COUNT_BITS_2 => kernel_rfl)
    (case z_range => k_is)
    (case z_list => k_is)
    (case z_len => k_is)
    (case z_all => k_is)
    (case z_min => k_is)
    (case z_int => k_is)
    (case z_isinstance => k_is)
    (case z_tuple => k_is)
    (case z_sum => k_is)

import PyProof.Rows.All
import Wide.All
import OpenK.AllK
import Wide.FinOn
import HandS.ForMost
import HandS.ForExc
import HandS.IsInst
import HandS.Conv
import HandS.IterNext
import HandS.IterVal
import HandS.OwnIter
import HandS.ExcIs
import HandS.ExcField
import HandS.MakeKw
import HandS.OwnEq
import HandS.ExcInit
import KE.KExcIs
import HandS.MakeKwOnly
import HandS.Walk
import HandS.Evl
import PySem.Challenge.RW_surerails_k13_cut_signs
set_option Elab.async false
set_option linter.all false
set_option maxRecDepth 100000
set_option maxHeartbeats 4000000
/-! My own words over HandS: one introduction lemma a construct's reading, for a walk by head symbols. -/
namespace VX
open PySem PySem.Spec PyProof.Rows L2
/-- what was tracked stays -/
abbrev Ex (H H' : Hp) : Prop := Same H H'
theorem same_at {H H' : Hp} {a : Addr} {o : HO} (e : Same H H') (h : H a = some o) : H' a = some o := e a o h
theorem same_new {H : Hp} {p : Addr} {o : HO} (h : H p = none) : Same H (upd H p o) := fun b x e => by
  rw [upd_ne (ne_of_none e h)]
  exact e
section
variable {D : Ends} {σ σ' : L2.St} {H H' : Hp} {Q : VK} {te ta tb tc : TE} {t u : TS} {g : TG} {i : Nat} {v x y : V} {r r' : R2} {K : PySem.W.Frag} {f : Str}
theorem i_seq (q : t { D with nx := u D } σ H) : tSeq t u D σ H := q
theorem i_next (q : D.nx σ H) : tNext D σ H := q
theorem i_asg (q : te σ H fun x H1 => g x σ H1 D.nx) : tAsg te g D σ H := q
theorem i_ret (q : te σ H D.rt) : tRet te D σ H := q
theorem i_retN (q : D.rt .non H) : tRetN D σ H := q
theorem i_drop (q : te σ H fun _ H1 => D.nx σ H1) : tDrop te D σ H := q
theorem i_ifS {c : TT} (q : c σ H fun b H1 => if b = true then t D σ H1 else u D σ H1) : tIfS c t u D σ H := q
theorem i_gname {Q : L2.St → Hp → Prop} (e : σ.set i (some v) = σ') (q : Q σ' H) : gName i v σ H Q := by
  subst e
  exact q
theorem i_gnil {Q : L2.St → Hp → Prop} (q : Q σ H) : gNil [] σ H Q := ⟨rfl, q⟩
theorem i_gcons {g : TG} {gs : TGs} {vs : List V} {Q : L2.St → Hp → Prop} (q : g v σ H fun σ' H' => gs vs σ' H' Q) : gCons g gs (v :: vs) σ H Q := ⟨v, vs, rfl, q⟩
theorem i_gtup {n : Nat} {gs : TGs} {a : Addr} {xs : List V} {Q : L2.St → Hp → Prop} (h : SqT K H a xs) (hl : xs.length = n) (q : gs xs σ H Q) : gTup K n gs (.ref a) σ H Q := ⟨a, xs, rfl, h, hl, q⟩
theorem i_gsub {t : TSet} {Q : L2.St → Hp → Prop} (q : ta σ H fun o H1 => tb σ H1 fun i H2 => t o i v H2 fun H3 => Q σ H3) : gSub ta tb t v σ H Q := q
theorem i_setL {p : Addr} {xs : List V} {k : Int} {j : Nat} {ys : List V} {Q : Hp → Prop} (h : H p = some (.lst xs)) (hk : ixN xs.length k = some j) (e : xs.set j v = ys) (q : Q (upd H p (.lst ys))) : rSetL (.ref p) (.int k) v H Q := by
  subst e
  exact ⟨p, xs, k, j, rfl, rfl, h, hk, q⟩
theorem i_setLU {p : Addr} {xs : List V} {k : Int} {j : Nat} {ys : List V} {Q : Hp → Prop} (hk : ixN xs.length k = some j) (e : xs.set j v = ys) (q : Q (upd H p (.lst ys))) : rSetL (.ref p) (.int k) v (upd H p (.lst xs)) Q := by
  subst e
  refine ⟨p, xs, k, j, rfl, rfl, upd_same, hk, ?_⟩
  rw [upd_upd]
  exact q
/-- a remainder, its value forgotten -/
theorem i_modA {i m : Int} (hm : 0 < m) (q : ∀ r : Int, 0 ≤ r → r < m → Q (.int r) H) : rI (fun _ j => j ≠ 0) (fun i j => .int (i.fmod j)) (.int i) (.int m) H Q :=
  ⟨i, m, rfl, rfl, by omega, q _ (Int.fmod_nonneg_of_pos _ hm) (Int.fmod_lt_of_pos _ hm)⟩
theorem i_divA {i m : Int} (hm : 0 < m) (hb : m < 1073741824) (q : ∀ r : Int, (0 ≤ i → 0 ≤ r) → (0 ≤ i → r ≤ i) → Q (.int r) H) : rI CDiv (fun i j => .int (i / j)) (.int i) (.int m) H Q :=
  ⟨i, m, rfl, rfl, ⟨hm, hb⟩, q _ (fun h => Int.ediv_nonneg h (by omega)) (fun h => Int.ediv_le_self _ h)⟩
theorem i_var (h : σ[i]? = some (some v)) (q : Q v H) : tVar i σ H Q := ⟨v, h, q⟩
theorem i_c (q : Q v H) : tC v σ H Q := q
theorem i_op (q : ta σ H fun x H1 => tb σ H1 fun y H2 => r x y H2 Q) : tOp r ta tb σ H Q := q
theorem i_un {r : V → Hp → VK → Prop} (q : ta σ H fun x H1 => r x H1 Q) : tUn r ta σ H Q := q
theorem i_rI {C : Int → Int → Prop} {g : Int → Int → V} {i j : Int} (c : C i j) (q : Q (g i j) H) : rI C g (.int i) (.int j) H Q := ⟨i, j, rfl, rfl, c, q⟩
theorem i_rI0 {g : Int → Int → V} {i j : Int} (q : Q (g i j) H) : rI0 g (.int i) (.int j) H Q := ⟨i, j, rfl, rfl, q⟩
theorem i_rU {g : Int → V} {i : Int} (q : Q (g i) H) : rU g (.int i) H Q := ⟨i, rfl, q⟩
theorem i_rEqI {i j : Int} (q : Q (.bl (decide (i = j))) H) : rEq (.int i) (.int j) H Q := by
  refine ⟨rfl, ?_⟩
  have e : decide (V.int i = V.int j) = decide (i = j) := by
    by_cases h : i = j
    · rw [decide_eq_true h, decide_eq_true (congrArg V.int h)]
    · rw [decide_eq_false h, decide_eq_false fun z => h (V.int.inj z)]
  rw [e]
  exact q
theorem i_rNeI {i j : Int} (q : Q (.bl (!decide (i = j))) H) : rNe (.int i) (.int j) H Q := by
  refine ⟨rfl, ?_⟩
  have e : decide (V.int i = V.int j) = decide (i = j) := by
    by_cases h : i = j
    · rw [decide_eq_true h, decide_eq_true (congrArg V.int h)]
    · rw [decide_eq_false h, decide_eq_false fun z => h (V.int.inj z)]
  rw [e]
  exact q
theorem i_rEqS (h : scal x x = true) (q : Q (.bl true) H) : rEq x x H Q := by
  refine ⟨h, ?_⟩
  rw [decide_eq_true rfl]
  exact q
theorem i_rNeS (h : scal x x = true) (q : Q (.bl false) H) : rNe x x H Q := by
  refine ⟨h, ?_⟩
  rw [decide_eq_true rfl]
  exact q
theorem i_ixL {p : Addr} {xs : List V} {i : Int} (h : SqL K H p xs) (hi : atI xs i = some v) (q : Q v H) : rIxL K (.ref p) (.int i) H Q := ⟨p, xs, i, v, rfl, rfl, h, hi, q⟩
theorem i_ixT {p : Addr} {xs : List V} {i : Int} (h : SqT K H p xs) (hi : atI xs i = some v) (q : Q v H) : rIxT K (.ref p) (.int i) H Q := ⟨p, xs, i, v, rfl, rfl, h, hi, q⟩
theorem i_test {Q : Bool → Hp → Prop} (q : te σ H fun x H' => ∃ k, x = .bl k ∧ Q k H') : tTest te σ H Q := q
theorem i_tB {Q : Bool → Hp → Prop} (q : te σ H fun x H' => ∃ k, x = .bl k ∧ Q k H') : tB te σ H Q := q
/-- the answer of a test -/
theorem i_bl {b : Bool} {Q : Bool → Prop} (q : Q b) : ∃ k, V.bl b = .bl k ∧ Q k := ⟨b, rfl, q⟩
theorem i_and {t u : TT} {Q : Bool → Hp → Prop} (q : t σ H fun c H1 => if c = true then u σ H1 Q else Q false H1) : tAnd t u σ H Q := q
theorem i_or {t u : TT} {Q : Bool → Hp → Prop} (q : t σ H fun c H1 => if c = true then Q true H1 else u σ H1 Q) : tOr t u σ H Q := q
theorem i_not {t : TT} {Q : Bool → Hp → Prop} (q : t σ H fun c H1 => Q (!c) H1) : tNot t σ H Q := q
theorem i_andV (q : ta σ H fun x H1 => ∃ c, x = .bl c ∧ if c = true then tb σ H1 Q else Q (.bl false) H1) : tAndV ta tb σ H Q := q
theorem i_orV (q : ta σ H fun x H1 => ∃ c, x = .bl c ∧ if c = true then Q (.bl true) H1 else tb σ H1 Q) : tOrV ta tb σ H Q := q
theorem i_notV (q : ta σ H fun x H1 => ∃ c, x = .bl c ∧ Q (.bl (!c)) H1) : tNotV ta σ H Q := q
theorem i_ifE {c : TT} (q : c σ H fun b H1 => if b = true then ta σ H1 Q else tb σ H1 Q) : tIf c ta tb σ H Q := q
theorem i_chain (q : ta σ H fun x H1 => tb σ H1 fun y H2 => r x y H2 fun z H3 => ∃ k, z = .bl k ∧ (if k = true then tc σ H3 fun w' H4 => r' y w' H4 Q else Q (.bl false) H3)) : tChain r r' ta tb tc σ H Q := q
theorem i_nil {Q : List V → Hp → Prop} (q : Q [] H) : tNil σ H Q := q
theorem i_cons {tr : TA} {Q : List V → Hp → Prop} (q : ta σ H fun x H1 => tr σ H1 fun xs H2 => Q (x :: xs) H2) : tCons ta tr σ H Q := q
theorem i_tup {t : TA} (q : t σ H fun xs H1 => xs.length ≤ sizeLine ∧ ∀ p, H1 p = none → Q (.ref p) (upd H1 p (.tup xs))) : tTup t σ H Q := q
theorem i_lst {t : TA} (q : t σ H fun xs H1 => xs.length ≤ sizeLine ∧ ∀ p, H1 p = none → Q (.ref p) (upd H1 p (.lst xs))) : tLst t σ H Q := q
theorem i_call {sp : Sp} {E : XK} {t : TA} (q : t σ H fun vs H1 => sp vs H1 Q E) : tCall sp [] E t σ H Q := by
  show t σ H fun vs H1 => sp (vs ++ []) H1 Q E
  have e : (fun (vs : List V) (H1 : Hp) => sp (vs ++ []) H1 Q E) = fun vs H1 => sp vs H1 Q E := by
    funext vs H1
    rw [List.append_nil]
  rw [e]
  exact q
theorem i_make {C : Addr} {sp : Sp} {E : XK} {t : TA} (q : t σ H fun vs H1 => ∀ x dx, H1 x = none → H1 dx = none → dx ≠ x → sp (.ref x :: vs) (upd (upd H1 dx (.own x)) x (.ins C dx [])) (fun v H2 => v = .non ∧ Q (.ref x) H2) E) : tMake C sp [] E t σ H Q := by
  show t σ H fun vs H1 => ∀ x dx, H1 x = none → H1 dx = none → dx ≠ x → sp (.ref x :: (vs ++ [])) (upd (upd H1 dx (.own x)) x (.ins C dx [])) (fun v H2 => v = .non ∧ Q (.ref x) H2) E
  simp only [List.append_nil]
  exact q
theorem i_meth {C : Addr} {m : Str} {sp : Sp} {E : XK} {t : TA} (q : ta σ H fun x H1 => ∃ a dx fs, x = V.ref a ∧ H1 a = some (.ins C dx fs) ∧ fs.lookup m = none ∧ t σ H1 fun vs H2 => sp (x :: vs) H2 Q E) : tMeth C m sp [] E ta t σ H Q := by
  show ta σ H fun x H1 => ∃ a dx fs, x = V.ref a ∧ H1 a = some (.ins C dx fs) ∧ fs.lookup m = none ∧ t σ H1 fun vs H2 => sp (x :: (vs ++ [])) H2 Q E
  simp only [List.append_nil]
  exact q
theorem i_CB {r : List V → Hp → VK → Prop} {t : TA} (q : t σ H fun vs H1 => r vs H1 Q) : tCB r t σ H Q := q
theorem i_fld (q : ta σ H fun x H1 => ∃ a C dx fs v, x = .ref a ∧ H1 a = some (.ins C dx fs) ∧ Cls K C ∧ NoAttr K C f ∧ fs.lookup f = some v ∧ Q v H1) : tFld K ta f σ H Q := q
theorem i_fldv {a C dx : Addr} {fs : List (Str × V)} (hv : σ[i]? = some (some (.ref a))) (ho : H a = some (.ins C dx fs)) (hc : Cls K C) (hn : NoAttr K C f) (hl : fs.lookup f = some v) (q : Q v H) : tFld K (tVar i) f σ H Q :=
  ⟨.ref a, hv, a, C, dx, fs, v, rfl, ho, hc, hn, hl, q⟩
theorem i_fld1 {a C dx : Addr} {fs : List (Str × V)} (ho : H a = some (.ins C dx fs)) (hc : Cls K C) (hn : NoAttr K C f) (hl : fs.lookup f = some v) (q : Q v H) :
    ∃ a' C dx fs v, V.ref a = .ref a' ∧ H a' = some (.ins C dx fs) ∧ Cls K C ∧ NoAttr K C f ∧ fs.lookup f = some v ∧ Q v H := ⟨a, C, dx, fs, v, rfl, ho, hc, hn, hl, q⟩
theorem i_sFld {tv : TE} (q : tv σ H fun y H1 => ta σ H1 fun x H2 => ∃ a C dx fs, x = V.ref a ∧ H2 a = some (.ins C dx fs) ∧ Cls K C ∧ NoAttr K C f ∧ fs.length < 1000 ∧ D.nx σ (upd H2 a (.ins C dx (putF f y fs)))) : sFld K ta tv f D σ H := q
theorem i_sFld1 {a C dx : Addr} {fs gs : List (Str × V)} {R : Hp → Prop} (ho : H a = some (.ins C dx fs)) (hc : Cls K C) (hn : NoAttr K C f) (hl : fs.length < 1000) (e : putF f y fs = gs) (q : R (upd H a (.ins C dx gs))) :
    ∃ a' C dx fs, V.ref a = .ref a' ∧ H a' = some (.ins C dx fs) ∧ Cls K C ∧ NoAttr K C f ∧ fs.length < 1000 ∧ R (upd H a' (.ins C dx (putF f y fs))) := by
  subst e
  exact ⟨a, C, dx, fs, rfl, ho, hc, hn, hl, q⟩
theorem i_iteT {A B : Prop} (h : A) : if true = true then A else B := by
  rw [if_pos rfl]
  exact h
theorem i_iteF {A B : Prop} (h : B) : if false = true then A else B := by
  rw [if_neg Bool.false_ne_true]
  exact h
theorem i_iteNT {A B : Prop} (h : B) : if (!true) = true then A else B := i_iteF h
theorem i_iteNF {A B : Prop} (h : A) : if (!false) = true then A else B := i_iteT h
theorem i_iteDF {p A B : Prop} {d : Decidable p} (h : ¬ p) (q : B) : if @decide p d = true then A else B := by
  rw [decide_eq_false h, if_neg Bool.false_ne_true]
  exact q
theorem i_iteDT {p A B : Prop} {d : Decidable p} (h : p) (q : A) : if @decide p d = true then A else B := by
  rw [decide_eq_true h, if_pos rfl]
  exact q
theorem i_iteBT {b : Bool} {A B : Prop} (h : b = true) (q : A) : if b = true then A else B := by
  rw [if_pos h]
  exact q
theorem i_iteBF {b : Bool} {A B : Prop} (h : b = false) (q : B) : if b = true then A else B := by
  subst h
  exact i_iteF q
theorem i_iteNDS {α : Type} {a : α} {A B : Prop} {d : Decidable (a = a)} (q : B) : if (!@decide (a = a) d) = true then A else B := by
  rw [decide_eq_true rfl]
  exact i_iteF q
theorem i_bm {T : String} {r : V → List V → Hp → VK → Prop} {t : TA} (q : ta σ H fun x H1 => tyV K T x H1 ∧ t σ H1 fun xs H2 => r x xs H2 Q) : tBM K T r ta t σ H Q := q
theorem i_tyL {l : Addr} {xs : List V} {R : Prop} (h : SqL K H l xs) (q : R) : tyV K "list" (.ref l) H ∧ R := ⟨.inl ⟨rfl, _, h⟩, q⟩
theorem i_append {l : Addr} {xs : List V} {y : V} (h : H l = some (.lst xs)) (hz : xs.length ≤ 100000) (q : Q .non (upd H l (.lst (xs ++ [y])))) : rAppend (.ref l) [y] H Q := ⟨l, xs, y, rfl, rfl, h, Nat.lt_of_le_of_lt hz (by decide), q⟩
theorem i_andN {R : Prop} (q : R) : V.non = V.non ∧ R := ⟨rfl, q⟩
theorem i_iteD {p A B : Prop} {d : Decidable p} (h1 : p → A) (h2 : ¬ p → B) : if @decide p d = true then A else B := by
  by_cases h : p
  · rw [decide_eq_true h, if_pos rfl]
    exact h1 h
  · rw [decide_eq_false h, if_neg Bool.false_ne_true]
    exact h2 h
theorem i_iteN {p A B : Prop} {d : Decidable p} (h1 : ¬ p → A) (h2 : p → B) : if (!@decide p d) = true then A else B := by
  by_cases h : p
  · rw [decide_eq_true h]
    exact i_iteF (h2 h)
  · rw [decide_eq_false h]
    exact i_iteT (h1 h)
theorem i_iteB {b : Bool} {A B : Prop} (h1 : b = true → A) (h2 : b = false → B) : if b = true then A else B := by
  cases b
  · exact i_iteF (h2 rfl)
  · exact i_iteT (h1 rfl)
end
/-! named readings of built-ins -/
section
variable {X : Cx} {H : Hp} {Q : VK} {K : PySem.W.Frag}
def rLenS (K : PySem.W.Frag) : List V → Hp → VK → Prop := fun xs H Q => ∃ p ys, xs = [.ref p] ∧ (SqL K H p ys ∨ SqT K H p ys) ∧ Q (.int ys.length) H
theorem call_lenS : CallR X (.builtin "len") (rLenS X.K) := call_len_seq
theorem i_lenL {p : Addr} {ys : List V} (h : SqL K H p ys) (q : Q (.int ys.length) H) : rLenS K [.ref p] H Q := ⟨p, ys, rfl, .inl h, q⟩
theorem i_lenT {p : Addr} {ys : List V} (h : SqT K H p ys) (q : Q (.int ys.length) H) : rLenS K [.ref p] H Q := ⟨p, ys, rfl, .inr h, q⟩
def rInt : List V → Hp → VK → Prop := fun xs H Q => (∃ i, xs = [.int i] ∧ Q (.int i) H) ∨ ∃ k, xs = [.bl k] ∧ Q (.int (if k then 1 else 0)) H
theorem call_int : CallR X (.type "int") rInt := call_int1
theorem i_int {i : Int} (q : Q (.int i) H) : rInt [.int i] H Q := .inl ⟨i, rfl, q⟩
def rMax2 : List V → Hp → VK → Prop := fun xs H Q => ∃ i j, xs = [.int i, .int j] ∧ Q (.int (if j > i then j else i)) H
def rMin2 : List V → Hp → VK → Prop := fun xs H Q => ∃ i j, xs = [.int i, .int j] ∧ Q (.int (if j < i then j else i)) H
theorem call_mx2 (hc : X.calm = true) : CallR X (.builtin "max") rMax2 := call_max2 hc
theorem call_mn2 (hc : X.calm = true) : CallR X (.builtin "min") rMin2 := call_min2 hc
theorem i_max2 {i j : Int} (q : Q (.int (max i j)) H) : rMax2 [.int i, .int j] H Q := by
  refine ⟨i, j, rfl, ?_⟩
  have e : (if j > i then j else i) = max i j := by
    rw [Int.max_def]
    split <;> split <;> omega
  rw [e]
  exact q
theorem i_min2 {i j : Int} (q : Q (.int (min i j)) H) : rMin2 [.int i, .int j] H Q := by
  refine ⟨i, j, rfl, ?_⟩
  have e : (if j < i then j else i) = min i j := by
    rw [Int.min_def]
    split <;> split <;> omega
  rw [e]
  exact q
def rListOf (K : PySem.W.Frag) : List V → Hp → VK → Prop := fun xs H Q => ∃ p ys, xs = [.ref p] ∧ (SqL K H p ys ∨ SqT K H p ys) ∧ ∀ l, H l = none → Q (.ref l) (upd H l (.lst ys))
theorem call_listOf : CallR X (.type "list") (rListOf X.K) := call_list_of
theorem i_listL {p : Addr} {ys : List V} (h : SqL K H p ys) (q : ∀ l, H l = none → Q (.ref l) (upd H l (.lst ys))) : rListOf K [.ref p] H Q := ⟨p, ys, rfl, .inl h, q⟩
theorem i_rAll {p : Addr} {bs : List Bool} (h : SqL K H p (bs.map V.bl)) (q : Q (.bl (bs.all id)) H) : rAll K [.ref p] H Q := ⟨p, bs, rfl, h, q⟩
end
theorem i_start {N : List Str} {vs : List V} {D : Ends} {σ' : L2.St} {H : Hp} {t : TS} (e : L2.start N vs = σ') (q : t D σ' H) : t D (L2.start N vs) H := by
  rw [e]
  exact q
theorem lenB {xs : List V} (h : Nat.ble xs.length 1000 = true) : xs.length ≤ sizeLine := Nat.le_of_lt (small1000 (Nat.le_of_ble_eq_true h))
theorem lenL {n : Nat} (h : n ≤ 1000) : n ≤ sizeLine := Nat.le_of_lt (small1000 h)
theorem len_le {n : Nat} (h : n ≤ 1000) : n ≤ sizeLine := Nat.le_of_lt (small1000 h)
end VX
set_option maxRecDepth 100000
set_option maxHeartbeats 4000000
/-! Own operators of an own class: in, |, &, ==, iteration; a method called by keywords; a promise that knows the heap's size at the call. -/
namespace VX
open PySem PySem.Spec PyProof.Rows L2
/-! ### a promise that knows how large the heap was at the call -/
structure FnN (P : Program) (w : World) (K : PySem.W.Frag) (mg : Str → Option Value) (base : Heap) (CX : CXT) (k : Nat) (f : Addr) (fd : FuncData) (ps : List Str) (sp : Nat → Sp) : Prop where
  len : ∀ n vs H Q E, sp n vs H Q E → vs.length = ps.length
  run : ∀ (A : Around) (outer : List Env) (s : Shared) (H : Hp) (args : Args) (us : List Value) (vs : List V) (Q : VK) (E : XK), Room k A → Env0 P w K mg base A outer s H → BindsTo s fd args (ps.zip us) → Vals vs us → sp s.heap.objs.size vs H Q E →
    codeAny (model P w) A (.call (.ref f) args) (CR CX outer P w H s Q E) s
theorem fn_ofN {CX : CXT} {P : Program} {w : World} {K : PySem.W.Frag} {mg : Str → Option Value} {base : Heap} {k : Nat} {f : Addr} {name qual : Str} {params : Arguments} {body : List Stmt} {scope : Scope} {dV kV doc pm cdv ct oc : Value} {an od : Option Addr}
    {osl : Array (Option Value)} {N ps : List Str} {sp : Nat → Sp} (lk : K.lookup f = some ⟨oc, od, .func (PySem.W.fnOf name qual params body scope dV kV doc pm an cdv ct), osl⟩) (hcd : PySem.W.codeIn K cdv qual = true) (S : FnScope N ps scope)
    (len : ∀ n vs H Q E, sp n vs H Q E → vs.length = ps.length)
    (hbody : ∀ (A : Around) (outer : List Env) (s : Shared) (H : Hp) (vs : List V) (Q : VK) (E : XK), Room k (A.deeper (envOfC qual scope s.heap.objs.size f cdv)) → sp s.heap.objs.size vs H Q E →
      ∃ t, PSs (cxOf CX P w K mg base N qual scope f cdv A outer s H E) body t ∧ t { nx := fun _ H' => Q .non H', rt := Q } (L2.start N vs) H) :
    FnN P w K mg base CX (k + 1) f (PySem.W.fnOf name qual params body scope dV kV doc pm an cdv ct) ps sp := by
  refine ⟨len, fun A outer s H args us vs Q E hr e0 hb r hsp => ?_⟩
  have hl := len _ _ _ _ _ hsp
  have KX : K.In s.heap := e0.mod.kin.keeps fun b o e => (e0.bs b o e).1
  have lim : s.heap.NoLimit := e0.mod.nolimit.keeps fun b o e => (e0.bs b o e).1
  have hkind : ∀ y ∈ ps.zip us, scope.names.lookup y.1 = some .local ∨ (scope.names.lookup y.1 = some .cell ∧ ((cellsFrom (s.heap.objs.size + 1) scope.names []).lookup y.1).isSome = true) := fun ⟨n, v⟩ hy => by
    rcases S.par n (List.of_mem_zip hy).1 with q | q
    · exact .inl q
    · exact .inr ⟨q, PySem.W.cellsFrom_some _ _ _ (.inl q)⟩
  refine codeAny_call_function hr.depth (KX _ _ lk) rfl S.co S.gen rfl (PySem.W.codeRec_of KX hcd) (hb _ _ _ _ ?_)
  refine wpAny_newFunctionEnv_cells S.kind hkind fun env he s1 x => ?_
  subst he
  refine ⟨lim.keeps x.toInCall.keep, codeAny_func ?_⟩
  obtain ⟨t, ht, hq⟩ := hbody A outer s H vs Q E (hr.deeper _) hsp
  have I : Inv (cxOf CX P w K mg base N qual scope f cdv A outer s H E) [] (L2.start N vs) H s1 := inv_start S hr.hd e0 hl r x
  refine wpAny_mono (ht.run [] s1 (L2.start N vs) H _ I hq) (fun fl s' hs => ?_) fun e s' hs => hs
  have fin : ∀ {σ' : L2.St} {H' : Hp} {v : V} {u : Value}, Inv (cxOf CX P w K mg base N qual scope f cdv A outer s H E) [] σ' H' s' → RelV v u → Q v H' → CE outer P w H s Q u s' :=
    fun {σ' H' v u} J rv q => ⟨v, H', J.os, J.bare, J.base, J.hok, rv, q⟩
  cases fl with
  | ret u =>
    obtain ⟨v, σ', H', J, rv, q⟩ := hs
    exact fin J rv q
  | next =>
    obtain ⟨σ', H', J, q⟩ := hs
    exact fin (v := V.non) (u := Value.none) J rfl q
  | brk =>
    obtain ⟨_, _, _, q⟩ := hs
    exact False.elim q
  | cont =>
    obtain ⟨_, _, _, q⟩ := hs
    exact False.elim q
theorem okN {P : Program} {w : World} {K : PySem.W.Frag} {mg : Str → Option Value} {base : Heap} {x qual : Str} {st : Stmt} {f : Addr} {fd : FuncData} {N ps : List Str} {k : Nat} {sp : Nat → Sp} (F : Fun K x qual st f fd) (S : FnScope N ps (defScope st)) (len : ∀ n vs H Q E, sp n vs H Q E → vs.length = ps.length)
    (hbody : ∀ (cdv : Value) (A : Around) (outer : List Env) (s : Shared) (H : Hp) (vs : List V) (Q : VK) (E : XK), Room k (A.deeper (envOfC qual (defScope st) s.heap.objs.size f cdv)) → sp s.heap.objs.size vs H Q E →
      ∃ t, PSs (cxOf CX0 P w K mg base N qual (defScope st) f cdv A outer s H E).nox (defBody st) t ∧ t { nx := fun _ H' => Q .non H', rt := Q } (L2.start N vs) H) : FnN P w K mg base CX0 (k + 1) f fd ps sp := by
  obtain ⟨oc, od, kV, doc, pm, an, cdv, ct, osl, rfl, lk, hcd⟩ := F.ex
  refine fn_ofN lk hcd S len fun A outer s H vs Q E hr hsp => ?_
  obtain ⟨t, h, q⟩ := hbody cdv A outer s H vs Q E hr hsp
  exact ⟨t, h.nox, q⟩

section
variable {X : Cx} {pins : List (Addr × Obj)} {σ : L2.St} {H : Hp} {s : Shared} {CX : CXT} {k : Nat} {f C : Addr} {fd : FuncData} {ps : List Str} {E : XK} {nm : Str}
/-! ### iteration: __iter__ gives iter(xs), xs a list -/
def spIter (K : PySem.W.Frag) (C : Addr) (nm : Str) (n : Nat) : Sp := fun vs H Q _ => ∃ a dx fs l zs, vs = [.ref a] ∧ H a = some (.ins C dx fs) ∧ fs.lookup nm = some (V.ref l) ∧ SqL K H l zs ∧
  ∀ it, H it = none → n ≤ it → Q (.ref it) (upd H it (ItO l it 0))
/-- what the walk over such an instance must have -/
structure OwnI (K : PySem.W.Frag) (C f : Addr) : Prop where
  it : PySem.W.findIn K (.ref C) "__iter__" = some (some (.ref f))
  itF : PySem.W.isFn K (.ref f) = true
/-- pyIter of an own instance: a new list iterator, forgotten -/
theorem own_iter {A1 : Around} {Q : Value → Shared → Prop} {a dx l : Addr} {fs : List (Str × V)} {zs : List V} (sb : Sub X k A1) (T : OwnI X.K C f) (F : FnN X.prog X.w X.K X.mg X.base CX0 k f fd ps (spIter X.K C nm)) (hb : Binds X.K fd ps [])
    (I : Inv X pins σ H s) (ha : H a = some (.ins C dx fs)) (hl : fs.lookup nm = some (V.ref l)) (hz : SqL X.K H l zs)
    (h : ∀ it s', Inv X pins σ H s' → s'.heap.IsListIter it l 0 → FpOk X pins H it → Q (.ref it) s') :
    wpAny (model X.prog X.w) A1 (pyIter (.ref a)) Q X.xe s := by
  obtain ⟨mA, J, _⟩ := ins_get I.hok ha
  obtain ⟨od, J, _⟩ := J.look
  obtain ⟨m, hF⟩ := I.fr
  refine PySem.W.owit_iter hF I.ok.mod.kin J T.it T.itF ?_
  have e0 : Env0 X.prog X.w X.K X.mg X.base A1 X.stack s H := by
    have e := I.env0
    exact ⟨by rw [sb.fr]; exact e.frames, e.mod, e.bs, e.bsz, e.funs, e.frf, e.hok, e.bare⟩
  have hsp : spIter X.K C nm s.heap.objs.size [.ref a] H (fun v H' => ∃ it, v = .ref it ∧ H it = none ∧ s.heap.objs.size ≤ it ∧ H' = upd H it (ItO l it 0)) E0 :=
    ⟨a, dx, fs, l, zs, rfl, ha, hl, hz, fun it hn hs => ⟨it, rfl, hn, hs, rfl⟩⟩
  have hlen := F.len _ _ _ _ _ hsp
  have r2 : Vals [V.ref a] [Value.ref a] := .cons rfl .nil
  refine wpAny_call (codeAny_mono (F.run A1 X.stack s H ⟨[.ref a], []⟩ [.ref a] [.ref a] _ E0 sb.room e0 (by
    have := hb s [.ref a] I.kIn (by simpa using hlen)
    simpa using this) r2 hsp) fun r s' hq => ?_)
  cases r with
  | error e => exact hq.elim
  | ok fl =>
    cases fl with
    | next => exact False.elim hq
    | brk => exact False.elim hq
    | cont => exact False.elim hq
    | ret u =>
      obtain ⟨v, H', I', rv, it, rfl, hn, hs, rfl⟩ := I.after hq
      cases rv
      have eo := itO_get I' upd_same
      have st : s'.heap.IsListIter it l 0 := ⟨_, eo, rfl, rfl⟩
      have e1 : upd H it (ItO l it 0) it = some (ItO l it 0) := upd_same
      have fp := ItX.inv_fp I' e1 (Nat.le_trans I.sz hs)
      have I2 := ItX.inv_drop I' (by unfold ItO at e1; exact e1)
      rw [ItX.dropH_upd hn] at fp I2
      unfold PySem.W.OwitIt
      exact wpAny_specialOf (name := Str.ofString "__next__") st.typeIs slot_listiter_next.lookup (h it s' I2 st fp)

/-- for x in o, [.. for x in o]: o such an instance -/
def iOwn (K : PySem.W.Frag) (C : Addr) (nm : Str) (te : TE) : TI := fun σ H R => te σ H fun x H1 => ∃ a dx fs l zs, x = V.ref a ∧ H1 a = some (.ins C dx fs) ∧ fs.lookup nm = some (V.ref l) ∧ SqL K H1 l zs ∧ R (Itl K l) H1
theorem pi_own {tg e : Expr} {te : TE} (hr : Room k X.A) (T : OwnI X.K C f) (F : FnN X.prog X.w X.K X.mg X.base CX0 k f fd ps (spIter X.K C nm)) (hb : Binds X.K fd ps []) (he : PE X e te) : PI X tg e (iOwn X.K C nm te) := by
  refine ⟨fun pins s σ H R I h => ?_⟩
  refine thn (he.run pins s σ H _ I h) fun u s1 ⟨x, H1, I1, r1, a, dx, fs, l, zs, ex, ha, hl, hz, q⟩ => ?_
  subst ex
  cases r1
  refine own_iter ⟨hr, rfl⟩ T F hb I1 ha hl hz fun it s' I' st fp => ?_
  refine ⟨it, [it], _, _, H1, rfl, I', turn_list l it, st, fun b hb => ?_, q⟩
  have e : b = it := by simpa using hb
  rw [e]
  exact fp
theorem hint_own {M : Model} {A : Around} {E : Value → Shared → Prop} {Q : Bool → Shared → Prop} {K : PySem.W.Frag} {ox : Obj} {od : Option Obj} {a : Addr} (n1 : PySem.W.findIn K (.ref C) "__len__" = some none) (n2 : PySem.W.findIn K (.ref C) "__length_hint__" = some none) (hK : K.In s.heap) (J : PySem.W.InstAt s.heap a ox C od) (h : Q true s) :
    wpAny M A (Builtin.List.listLengthHint (.ref a)) Q E s := by
  unfold Builtin.List.listLengthHint
  refine wpAny_bind (wpAny_bind (J.type.here ((PySem.W.looks_findIn hK n1).here ?_)))
  refine PySem.W.KFB.if_not rfl ?_
  refine PySem.W.KFB.if_not rfl ?_
  refine wpAny_bind (wpAny_bind (J.type.here ((PySem.W.looks_findIn hK n2).here ?_)))
  exact wpAny_pure h
theorem fp_upd {q it : Addr} {o : HO} (fp : FpOk X pins H it) (h : it ≠ q) : FpOk X pins (upd H q o) it :=
  ⟨by rw [upd_ne h]; exact fp.1, fp.2.1, fp.2.2.1, fp.2.2.2.1, fp.2.2.2.2.1, fp.2.2.2.2.2⟩
theorem li_loop {Rs : Result → Shared → Prop} {A1 : Around} {q it l : Addr} {zs : List V} (hh : A1.in1.handled = none) (hq : H q = none) (hl : SqL X.K H l zs) (hne : it ≠ q)
    (hdone : ∀ s, Inv X pins σ (upd H q (.lst zs)) s → Rs (.ok (.ret .none)) s) : ∀ (m i : Nat) (s : Shared), m = zs.length - i → i ≤ zs.length → Inv X pins σ (upd H q (.lst (zs.take i))) s → FpOk X pins H it → s.heap.IsListIter it l i →
      codeAny (model X.prog X.w) A1 (.builtin "list.extend.loop" ⟨[.ref q, .ref it, .none], []⟩) Rs s := by
  intro m
  induction m with
  | zero =>
    intro i s hm hi I fp st
    have e : i = zs.length := by omega
    subst e
    rw [List.take_length] at I
    refine codeAny_builtin PySem.F.entry_extend_loop ?_
    rw [Around.under_plainId PySem.F.plain_extend_loop _]
    show wpAny _ A1.in1 (pyNext (.ref it) >>= _) _ _ s
    have sq : SqL X.K (upd H q (.lst zs)) l zs := (same_new hq).seq hl
    obtain ⟨its, rv, pl, hz⟩ := I.list sq
    have hlen := rv.length
    have fp' := fp_upd (o := .lst zs) fp hne
    refine wpAny_bind (wpAny_pyNext_list_end hh st pl.isList (by simp; omega) fun h' eb => ?_)
    exact wpAny_pure (hdone _ (I.turned (t' := s.toks) (fun b o hb e => eb b o hb e) fp'.1 fp'.2.1 fp'.2.2.2.1 fp'.2.2.2.2.1 fp'.2.2.2.2.2))
  | succ m ih =>
    intro i s hm hi I fp st
    have hlt : i < zs.length := by omega
    refine codeAny_builtin PySem.F.entry_extend_loop ?_
    rw [Around.under_plainId PySem.F.plain_extend_loop _]
    show wpAny _ A1.in1 (pyNext (.ref it) >>= _) _ _ s
    have sq : SqL X.K (upd H q (.lst (zs.take i))) l zs := (same_new hq).seq hl
    obtain ⟨its, rv, pl, hz⟩ := I.list sq
    obtain ⟨u, hu, ru⟩ := rv.get (List.getElem?_eq_getElem hlt)
    have fp' := fp_upd (o := .lst (zs.take i)) fp hne
    refine wpAny_bind (wpAny_pyNext_list_item st pl.isList (x := u) (by simpa using hu) fun h' st' sb => ?_)
    have I1 : Inv X pins σ (upd H q (.lst (zs.take i))) { s with heap := h' } := I.turned (t' := s.toks) (fun b o hb e => (sb.2 b hb).trans e) fp'.1 fp'.2.1 fp'.2.2.2.1 fp'.2.2.2.2.1 fp'.2.2.2.2.2
    show wpAny _ A1.in1 (updateSeq q (·.push u) >>= _) _ _ _
    obtain ⟨z, its2, k2, r2, hl2, e2⟩ := I1.lstM upd_same
    have hsz : (zs.take i).length < sizeLine := by
      rw [List.length_take]
      omega
    refine wpAny_bind (wpAny_updateSeq e2 rfl (wpAny_pure ⟨plainId_quiet PySem.F.plain_extend_loop _, ?_⟩) (by rw [List.size_toArray]; omega) (by show (its2.toArray.push u).size ≤ sizeLine + 1; rw [Array.size_push, List.size_toArray]; omega))
    have I2 := I1.lset (f := (·.push u)) (its' := its2 ++ [u]) (t' := s.toks) upd_same e2 (by simp) (r2.append (.cons ru .nil)) (by rw [List.length_append, List.length_singleton]; omega)
    rw [upd_upd] at I2
    have et : zs.take i ++ [zs[i]] = zs.take (i + 1) := by
      rw [List.take_add_one, List.getElem?_eq_getElem hlt]
      rfl
    rw [et] at I2
    refine ih (i + 1) _ (by omega) (by omega) I2 fp ?_
    obtain ⟨o, ho, hc, hd⟩ := st'
    refine ⟨o, ?_, hc, hd⟩
    show (h'.update q _).get? it = some o
    rw [Heap.get?_update_ne _ _ _ _ hne]
    exact ho

/-- list(o) -/
def rListOwn (K : PySem.W.Frag) (C : Addr) (nm : Str) : List V → Hp → VK → Prop := fun xs H Q => ∃ a dx fs l zs, xs = [V.ref a] ∧ H a = some (.ins C dx fs) ∧ fs.lookup nm = some (V.ref l) ∧ SqL K H l zs ∧ ∀ q, H q = none → Q (.ref q) (upd H q (.lst zs))
theorem call_listOwn2 (hc : X.calm = true) (hr : Room (k + 2) X.A) (T : OwnI X.K C f) (n1 : PySem.W.findIn X.K (.ref C) "__len__" = some none) (n2 : PySem.W.findIn X.K (.ref C) "__length_hint__" = some none)
    (F : FnN X.prog X.w X.K X.mg X.base CX0 k f fd ps (spIter X.K C nm)) (hb : Binds X.K fd ps []) : CallR X (.type "list") (rListOwn X.K C nm) := by
  intro pins s σ H xs us Q I rv h
  obtain ⟨a, dx, fs, l, zs, rfl, ha, hl, hz, q⟩ := h
  obtain ⟨u, rfl, ru⟩ := rv.one
  cases ru
  have sb : Sub X k X.A.in1.in1 := (Sub.in1 (Sub.in1 (⟨hr, rfl⟩ : Sub X (k + 2) X.A)))
  refine callType_codes (Q₁ := fun obj s₁ => obj = .ref s.heap.objs.size ∧ s₁ = { s with heap := s.heap.push { cls := .type "list", data := .seq #[] } }) PySem.F.called_list (PySem.F.typeCall_list_1 _) PySem.F.entry_list_init
    (code_list_new _ ⟨rfl, rfl⟩) fun obj s₁ h₁ => ?_
  obtain ⟨rfl, rfl⟩ := h₁
  have hS : (s.heap.push { cls := .type "list", data := .seq #[] }).get? s.heap.objs.size = some { cls := .type "list", data := .seq #[] } := Heap.get?_push_size _ rfl
  refine ⟨⟨_, hS, rfl⟩, PySem.F.args_list_init_2 _ _, ?_⟩
  have fr : H s.heap.objs.size = none := I.hok.fresh (Nat.le_refl _)
  have I1 : Inv X pins σ (upd H s.heap.objs.size (.lst [])) { s with heap := s.heap.push { cls := .type "list", data := .seq #[] } } := I.lnew (its := []) (t' := s.toks) .nil (Nat.zero_le _)
  show wpAny _ _ (do let old ← Builtin.List.listItems (.ref s.heap.objs.size); Builtin.List.listUpdate (.ref s.heap.objs.size) (fun _ => #[]); letGo old.toList.reverse; Builtin.List.listExtendWith (.ref s.heap.objs.size) (.ref a) .none) _ _ _
  refine wpAny_bind ?_
  unfold Builtin.List.listItems
  refine wpAny_bind (wpAny_seqItems hS rfl (wpAny_pure ?_))
  show wpAny _ _ (updateSeq s.heap.objs.size (fun _ => #[]) >>= fun _ => letGo (#[] : Array Value).toList.reverse >>= fun _ => Builtin.List.listExtendWith (.ref s.heap.objs.size) (.ref a) .none) _ _ _
  refine wpAny_bind (wpAny_updateSeq hS rfl ?_)
  have I2 := I1.lset (f := fun _ => #[]) (its := []) (its' := []) (ys := []) (t' := s.toks) upd_same hS rfl .nil (Nat.zero_le _)
  rw [upd_upd] at I2
  refine wpAny_bind (wpAny_letGo ?_)
  generalize hp : s.heap.objs.size = p at fr I2 ⊢
  have ha2 : upd H p (.lst []) a = some (.ins C dx fs) := (same_new fr) _ _ ha
  have hz2 : SqL X.K (upd H p (.lst [])) l zs := (same_new fr).seq hz
  have hne : p ≠ a := fun e => by rw [e, ha] at fr; cases fr
  obtain ⟨mA, J, _⟩ := ins_get I2.hok ha2
  obtain ⟨od, J, _⟩ := J.look
  unfold Builtin.List.listExtendWith
  refine wpAny_bind (J.type.here ?_)
  have h1 : Builtin.List.listSameRef (.ref p) (.ref a) = false := by simp [Builtin.List.listSameRef, hne]
  have h2 : (Value.ref C == Value.type "list") = false := rfl
  have h3 : (Value.ref C == Value.type "tuple") = false := rfl
  simp only [h1, h2, h3, Bool.or_false, Bool.false_eq_true, if_false]
  refine wpAny_bind (own_iter sb T F hb I2 ha2 hl hz2 fun it s' I' st fp => ?_)
  have hitp : it ≠ p := fun e => by rw [e] at fp; have z := fp.1; rw [upd_same] at z; cases z
  obtain ⟨mA', J', _⟩ := ins_get I'.hok ha2
  obtain ⟨od', J', _⟩ := J'.look
  have fpH : FpOk X pins H it := ⟨by have z := fp.1; rw [upd_ne hitp] at z; exact z, fp.2.1, fp.2.2.1, fp.2.2.2.1, fp.2.2.2.2.1, fp.2.2.2.2.2⟩
  have loop : ∀ s2 : Shared, Inv X pins σ (upd H p (.lst [])) s2 → s2.heap.IsListIter it l 0 → codeAny (model X.prog X.w) X.A.in1 (.builtin "list.extend.loop" ⟨[.ref p, .ref it, .none], []⟩) (wants (fun r s₂ => r = .none ∧ EP X pins σ Q (.ref p) s₂) X.xe) s2 :=
    fun s2 J2 st2 => li_loop (A1 := X.A.in1) (zs := zs) (by exact I.ok.hd hc) fr hz hitp (fun s3 I3 => ⟨rfl, .ref p, _, I3, rfl, q p fr⟩) zs.length 0 s2 rfl (Nat.zero_le _) J2 fpH st2
  refine wpAny_bind (wpAny_holding (hint_own n1 n2 I'.kIn J' ?_))
  obtain ⟨z, its, k2, r3, hl3, e3⟩ := I'.lstM upd_same
  cases r3
  refine wpAny_ite_split (fun _ => ?_) (fun _ => wpAny_pure ⟨plainId_quiet PySem.F.plain_extend_loop _, loop _ I' st⟩)
  refine wpAny_bind (wpAny_rule ?_)
  refine wpAny_bind ?_
  show wpAny _ _ (updateSeq p (·.push .none) >>= fun _ => updateSeq p (·.pop)) _ _ _
  refine wpAny_bind (wpAny_updateSeq e3 rfl ?_)
  have I4 := I'.lset (f := (·.push Value.none)) (its' := [Value.none]) (ys := [.non]) (t' := s'.toks) upd_same e3 (by simp) (.cons rfl .nil) (by rw [List.length_singleton, sizeLine_eq]; decide)
  obtain ⟨z4, its4, k4, r4, hl4, e4⟩ := I4.lstM upd_same
  obtain ⟨u4, rfl, ru4⟩ := r4.one
  refine wpAny_updateSeq e4 rfl ?_ (by show 1 ≤ sizeLine; rw [sizeLine_eq]; decide) (by show 0 ≤ sizeLine + 1; exact Nat.zero_le _)
  refine wpAny_pure ⟨plainId_quiet PySem.F.plain_extend_loop _, loop _ ?_ ?_⟩
  · have I5 := I4.lset (f := (·.pop)) (its := [u4]) (its' := []) (ys := []) (t' := s'.toks) upd_same e4 (by rfl) .nil (Nat.zero_le _)
    rw [upd_upd, upd_upd] at I5
    exact I5
  · obtain ⟨o, ho, hc', hd⟩ := st
    refine ⟨o, ?_, hc', hd⟩
    show ((s'.heap.update p _).update p _).get? it = some o
    rw [Heap.get?_update_ne _ _ _ _ hitp, Heap.get?_update_ne _ _ _ _ hitp]
    exact ho

/-! ### in, |, &, == by the class's own methods -/
def rInOwn (C : Addr) (sp : Sp) (E : XK) : R2 := fun x y H Q => ∃ a dx fs, y = V.ref a ∧ H a = some (.ins C dx fs) ∧ sp [.ref a, x] H (fun v H' => ∃ b, v = .bl b ∧ Q (.bl b) H') E
theorem op_inOwn {sp : Sp} (hs : PySem.W.findIn X.K (.ref C) "__contains__" = some (some (.ref f))) (hf : PySem.W.isFn X.K (.ref f) = true) (F : FnOk X.prog X.w X.K X.mg X.base CX k f fd ps sp) (hr : Room k X.A) (hb : Binds X.K fd ps []) (hx : Passes CX X E) :
    OpR X (compareOp .In) (rInOwn C sp E) := by
  intro pins s σ H x y v u Q I rx ry h
  obtain ⟨a, dx, fs, rfl, ha, hsp⟩ := h
  cases ry
  obtain ⟨mA, J, _⟩ := ins_get I.hok ha
  obtain ⟨od, J, _⟩ := J.look
  obtain ⟨m, hF⟩ := I.fr
  refine PySem.W.in_K hF I.ok.mod.kin J hs hf ?_
  refine thn (run_fn (us := [.ref a, v]) (vs := [.ref a, x]) (dvs := []) (ds := []) F hr hb .nil hx I (.cons rfl (.cons rx .nil)) hsp) fun r s' hq => ?_
  obtain ⟨z, H', I', rz, b, rfl, q⟩ := hq
  cases rz
  exact wpAny_truthy_bool ⟨.bl b, H', I', rfl, q⟩
def rBinOwn (C : Addr) (sp : Sp) (E : XK) : R2 := fun x y H Q => ∃ a b dx dy fs gs, x = V.ref a ∧ y = V.ref b ∧ H a = some (.ins C dx fs) ∧ H b = some (.ins C dy gs) ∧ sp [.ref a, .ref b] H Q E
theorem op_binOwn {op : Operator} {sp : Sp} (hc : PySem.W.selfFirst X.K C = true) (hs : PySem.W.findIn X.K (.ref C) (PySem.dunder op.info.2) = some (some (.ref f))) (hf : PySem.W.isFn X.K (.ref f) = true) (F : FnOk X.prog X.w X.K X.mg X.base CX k f fd ps sp) (hr : Room k X.A) (hb : Binds X.K fd ps []) (hx : Passes CX X E) :
    OpR X (binaryOp op) (rBinOwn C sp E) := by
  intro pins s σ H x y v u Q I rx ry h
  obtain ⟨a, b, dx, dy, fs, gs, rfl, rfl, ha, hb', hsp⟩ := h
  cases rx
  cases ry
  obtain ⟨mA, J, _⟩ := ins_get I.hok ha
  obtain ⟨od, J, _⟩ := J.look
  obtain ⟨mB, J', _⟩ := ins_get I.hok hb'
  obtain ⟨od', J', _⟩ := J'.look
  obtain ⟨m, hF⟩ := I.fr
  refine PySem.W.binop_K hF I.ok.mod.kin J J'.type hc hs hf ?_
  refine thn (run_fn (us := [.ref a, .ref b]) (vs := [.ref a, .ref b]) (dvs := []) (ds := []) F hr hb .nil hx I (.cons rfl (.cons rfl .nil)) hsp) fun r s' hq => ?_
  obtain ⟨z, H', I', rz, q⟩ := id hq
  cases z <;> first
    | (cases rz; exact hq)
    | (obtain ⟨t, rfl⟩ := rz; exact hq)
/-- o == v, v anything whose type is told -/
def rEqOwn (K : PySem.W.Frag) (C : Addr) (sp : Sp) (E : XK) : R2 := fun x y H Q => ∃ a dx fs t, x = V.ref a ∧ H a = some (.ins C dx fs) ∧ TyX K H y t ∧ PySem.W.notFirst K C t = true ∧ sp [.ref a, y] H Q E
theorem op_eqOwn {sp : Sp} (hs : PySem.W.findIn X.K (.ref C) "__eq__" = some (some (.ref f))) (hf : PySem.W.isFn X.K (.ref f) = true) (F : FnOk X.prog X.w X.K X.mg X.base CX k f fd ps sp) (hr : Room k X.A) (hb : Binds X.K fd ps []) (hx : Passes CX X E)
    (hty : ∀ {pins σ H s y u t}, Inv X pins σ H s → RelV y u → TyX X.K H y t → PySem.W.Looks (model X.prog X.w) s.heap (typeOf u) t) : OpR X (compareOp .Eq) (rEqOwn X.K C sp E) := by
  intro pins s σ H x y v u Q I rx ry h
  obtain ⟨a, dx, fs, t, rfl, ha, ty, hn, hsp⟩ := h
  cases rx
  obtain ⟨mA, J, _⟩ := ins_get I.hok ha
  obtain ⟨od, J, _⟩ := J.look
  obtain ⟨m, hF⟩ := I.fr
  show wpAny (model X.prog X.w) X.A (richCompare .Eq (.ref a) u) (EP X pins σ Q) X.xe s
  refine PySem.W.cmp_K (op := .Eq) (tb := t) hr.units0 hF I.ok.mod.kin J (hty I ry ty) hn hs hf ?_
  refine thn (run_fn (us := [.ref a, u]) (vs := [.ref a, y]) (dvs := []) (ds := []) F hr hb .nil hx I (.cons rfl (.cons ry .nil)) hsp) fun r s' hq => ?_
  obtain ⟨z, H', I', rz, q⟩ := id hq
  cases z <;> first
    | (cases rz; exact hq)
    | (obtain ⟨t, rfl⟩ := rz; exact hq)
end
end VX
set_option maxRecDepth 100000
set_option maxHeartbeats 4000000
/-! Errors with fields: made, raised, caught, asked; methods that may raise, called by place and by keyword. -/
namespace VX
open PySem PySem.Spec PyProof.Rows L2
/-! ### isinstance of a caught error that has fields -/
structure ExcD (K : PySem.W.Frag) (D : Addr) : Prop where
  c : ExcC K D
  cls : (PySem.W.clsIn K D).isSome = true
def rIsD (K : PySem.W.Frag) (D a : Addr) (cls : Value) (d : Option Addr) : List V → Hp → VK → Prop := fun xs H Q => ∃ (c : V) (cv : Value) (b : Bool) (dd : Addr) (fs : List (Str × V)), xs = [.ref a, c] ∧ cls = .ref D ∧ d = some dd ∧ H dd = some (.xd fs) ∧ (∀ u, RelV c u → u = cv) ∧ PySem.W.kitOne K (.ref D) cv = some b ∧ Q (.bl b) H
theorem call_isD {X : Cx} {a D : Addr} {oe : Obj} {cls : Value} {d : Option Addr} {pn : List (Addr × Obj)} (C : ExcD X.K D) (hz : Zc cls d oe) (hf : ∃ vs, oe.data = .fields vs) :
    CallR (X.suite a ((a, oe) :: pn)) (.builtin "isinstance") (rIsD X.K D a cls d) := by
  intro pins s σ H xs us Q I r h
  obtain ⟨c, cv, b, dd, fs, rfl, rfl, ed, hdd, hcv, e, q⟩ := h
  obtain ⟨u1, u2, rfl, rx, rt⟩ := vals2 r
  cases rx
  have ec := hcv _ rt
  subst ec
  obtain ⟨hget, _⟩ := I.pin (a, oe) (List.mem_append.mpr (.inl List.mem_cons_self))
  obtain ⟨vs, hv⟩ := hf
  have ho : ObjOk X.prog X.w H s.heap dd (.xd fs) := I.hok dd _ hdd
  obtain ⟨mA, hns, _⟩ := ho
  obtain ⟨od, ho, hl⟩ := lookIn_ns hns
  have J : PySem.W.InstAt s.heap a oe D (some od) := ⟨hget, hz.1, by unfold PySem.W.notCls; rw [hv] <;> rfl, by rw [hz.2, ed]; exact ho⟩
  exact PySem.W.kia_one (PySem.W.kitx_exc C.cls C.c.hg C.c.hk C.c.hs C.c.ha C.c.hn C.c.ht C.c.hm) I.kIn J e (fun z => nomatch z) fun tk => ⟨.bl b, H, I.kept (t' := tk) fun _ _ z => z, rfl, q⟩
theorem i_isD {K : PySem.W.Frag} {D a dd : Addr} {fs : List (Str × V)} {H : Hp} {Q : VK} {c : V} {cv : Value} {b : Bool} (hd : H dd = some (.xd fs)) (hc : ∀ u, RelV c u → u = cv) (e : PySem.W.kitOne K (.ref D) cv = some b) (q : Q (.bl b) H) :
    rIsD K D a (.ref D) (some dd) [.ref a, c] H Q := ⟨c, cv, b, dd, fs, rfl, rfl, rfl, hd, hc, e, q⟩
theorem i_xf {a C dd : Addr} {n : Str} {fs : List (Str × V)} {v : V} {σ : L2.St} {H : Hp} {Q : VK} {i : Nat} (hv : σ[i]? = some (some (.ref a))) (hd : H dd = some (.xd fs)) (hl : fs.lookup n = some v) (q : Q v H) :
    tXf a (.ref C) (some dd) C n (tVar i) σ H Q := ⟨.ref a, hv, rfl, rfl, dd, fs, v, rfl, hd, hl, q⟩
theorem kbn_of {K : PySem.W.Frag} {x qual : Str} {st : Stmt} {f : Addr} {fd : FuncData} {ps ks : List Str} {n : Nat} (F : Fun K x qual st f fd)
    (h : ∀ (kV doc pm : Value) (an : Option Addr) (cdv ct : Value) (us ws : List Value), us.length = n → ws.length = ks.length → bindArgs (PySem.W.fnOf x qual (defArgs st) (defBody st) (defScope st) .none kV doc pm an cdv ct) ⟨us, ks.zip ws⟩ = pure (ps.zip (us ++ ws))) :
    KBn K fd ps n ks (fun us ws => us ++ ws) (fun us ws => us ++ ws) := by
  obtain ⟨oc, od, kV, doc, pm, an, cdv, ct, osl, rfl, lk, hcd⟩ := F.ex
  exact ⟨fun s us ws _ l1 l2 => .of_eq (h kV doc pm an cdv ct us ws l1 l2), fun r rz => r.append rz⟩
/-! ### an error's making -/
section
variable {P : Program} {w : World} {K : PySem.W.Frag} {mg : Str → Option Value} {base : Heap}
/-- def __init__(self, x): self.x = x -/
def spX1 (K : PySem.W.Frag) (n : Str) : Sp := fun vs H Q _ => ∃ a C v, vs = [.ref a, v] ∧ OexC K C ∧ PySem.W.findIn K (.ref C) n = some none ∧ H a = some (exo a C none) ∧
  ∀ dx, H dx = none → dx ≠ a → Q .non (upd (upd H dx (exd dx [(n, v)])) a (exo a C (some dx)))
end
section
variable {X : Cx} {CX : CXT} {k : Nat} {f C : Addr} {fd : FuncData} {ps : List Str} {e : Expr} {es : List Expr} {ta : TA} {x n : Str} {p pos : Pos}
/-- a reading of arguments, closed under weaker ends -/
def tUp (ta : TA) : TA := fun σ H R => ∃ S : List V → Hp → Prop, ta σ H S ∧ ∀ vs H1, S vs H1 → R vs H1
theorem pa_up (ha : PA X es ta) : PA X es (tUp ta) := by
  refine ⟨fun pos pins s σ H R I h => ?_⟩
  obtain ⟨S, h1, h2⟩ := h
  exact thn (ha.run pos pins s σ H S I h1) fun us s1 ⟨vs, H1, I1, r, q⟩ => ⟨vs, H1, I1, r, h2 _ _ q⟩
/-- C(v), one field -/
def tMk1 (C : Addr) (n : Str) (ta : TA) : L2.St → Hp → XK → Prop := fun σ H Q => ta σ H fun vs H1 => ∃ v, vs = [v] ∧ ∀ d H', H1 d = none → Same H1 H' → H' d = some (.xd [(n, v)]) → Q (.ref C) (some d) H'
theorem pmk1 (T : OexC X.K C) (iC : PySem.W.findIn X.K (.ref C) "__init__" = some (some (.ref f))) (tI : PySem.W.typeIn X.K (.ref f) = some (.type "function")) (hn : PySem.W.findIn X.K (.ref C) n = some none)
    (F : FnOk X.prog X.w X.K X.mg X.base CX0 k f fd ps (spX1 X.K n)) (hr : Room (k + 1) X.A) (hb : Binds X.K fd ps []) (hg : Gl X x) (hm : X.mg x = some (.ref C)) (ha : PA X (e :: es) ta)
    (hdb : (x == ("__debug__" : Str)) = false := by decide) (he : starEach (e :: es) X.env = (false, eval e X.env) :: starEach es X.env := by rfl) (hpl : (backTo pos (starEach es X.env)).any (·.1) = false := by rfl) :
    PMk X (.Call (.Name x p) (e :: es) [] pos) (tMk1 C n ta) := by
  intro pins s σ H Q I h
  refine pmk_oex T iC tI F hr hb .nil pass0 hg hm (pa_up ha) hdb he hpl pins s σ H Q I ⟨_, h, ?_⟩
  rintro vs H1 ⟨v, rfl, q⟩
  refine ⟨by show 1 ≤ 1000; decide, fun a na => ⟨a, C, v, rfl, T, hn, upd_same, fun dx nd ne => ⟨rfl, dx, [(n, v)], upd_same, ?_, ?_, ?_⟩⟩⟩
  · rw [upd_ne ne, upd_same]
  · rw [upd_ne ne] at nd
    exact nd
  · rw [upd_ne ne] at nd
    refine q dx _ nd (fun b o hb => ?_) upd_same
    have b1 : b ≠ dx := ne_of_none hb nd
    have b2 : b ≠ a := ne_of_none hb na
    rw [upd_ne b1, del_ne b2, upd_ne b2, upd_ne b1, upd_ne b2]
    exact hb
theorem i_mk1 {σ : L2.St} {H : Hp} {Q : XK} (q : ta σ H fun vs H1 => ∃ v, vs = [v] ∧ ∀ d H', H1 d = none → Same H1 H' → H' d = some (.xd [(n, v)]) → Q (.ref C) (some d) H') : tMk1 C n ta σ H Q := q
theorem i_mk1v {v : V} {R : V → Prop} (q : R v) : ∃ u, [v] = [u] ∧ R u := ⟨v, rfl, q⟩
/-! ### methods that may raise, and by keyword -/
variable {sp : Sp} {E : L2.St → XK} {m : Str} {apos : Pos} {o : Expr} {to : TE} {tk : TA} {kws : List Keyword} {ks : List Str} {g : List Value → List Value → List Value} {gV : List V → List V → List V} {pl : Sem Bool}
/-- o.m(e, ..), what is raised is wished for at the slots -/
def tMthS (C : Addr) (m : Str) (sp : Sp) (E : L2.St → XK) (to : TE) (t : TA) : TE := fun σ H Q => to σ H fun x H1 => ∃ a dx fs, x = V.ref a ∧ H1 a = some (.ins C dx fs) ∧ fs.lookup m = none ∧ t σ H1 fun vs H2 => sp (.ref a :: vs) H2 Q (E σ)
theorem pe_mthS (he : PE X o to) (c : Cls X.K C) (hm : Meth X.K C m f) (F : FnOk X.prog X.w X.K X.mg X.base CX k f fd ps sp) (hr : Room k X.A) (hb : Binds X.K fd ps []) (hx : ∀ σ, PassesAt CX X σ (E σ)) (ha : PA X (e :: es) ta)
    (hst : starEach (e :: es) X.env = (false, eval e X.env) :: starEach es X.env := by rfl) (hpl : (backTo pos (starEach es X.env)).any (·.1) = false := by rfl)
    (ht : eval (.Call (.Attribute o m apos) (e :: es) [] pos) X.env = (do
      let ov ← eval o X.env
      standAt apos.atName
      let (f, first) ← holding [ov] (getMethod ov m pl)
      callWith pos f first (backTo pos (starEach (e :: es) X.env)) (backToKw pos (keywordEach [] X.env))) := by rfl) :
    PE X (.Call (.Attribute o m apos) (e :: es) [] pos) (tMthS C m sp E to ta) := by
  refine ⟨fun pins s σ H Q I h => ?_⟩
  refine PySem.W.methodCall_KW (pl := pl) (thn (he.run pins s σ H _ I h) fun u s1 hu => ?_) ht
  obtain ⟨x, H1, I1, rx, a, dx, fs, rfl, ea, l, q⟩ := hu
  cases rx
  refine getmeth_ok I1 ea c hm l ?_
  refine PySem.W.callWith_K (first := [.ref a]) (h₀ := X.base) I.ok.mod.kin hm.kp (thn (ha.run pos pins s1 σ H1 _ I1 q) fun us s2 hu2 => ?_) hst hpl
  obtain ⟨vs, H2, I2, r, q2⟩ := hu2
  exact ⟨I2.kIn, run_fnS (us := .ref a :: us) (vs := .ref a :: vs) F hr hb (hx σ) I2 (.cons rfl r) q2⟩
/-- o.m(k = v, ..) -/
def tMthK (C : Addr) (m : Str) (n : Nat) (sp : Sp) (gV : List V → List V → List V) (E : L2.St → XK) (to : TE) (tk : TA) : TE := fun σ H Q => to σ H fun x H1 => ∃ a dx fs, x = V.ref a ∧ H1 a = some (.ins C dx fs) ∧ fs.lookup m = none ∧
  tk σ H1 fun zs H2 => zs.length = n ∧ sp (gV [.ref a] zs) H2 Q (E σ)
theorem pe_mthK (he : PE X o to) (c : Cls X.K C) (hm : Meth X.K C m f) (F : FnOk X.prog X.w X.K X.mg X.base CX k f fd ps sp) (hr : Room k X.A) (hb : KBn X.K fd ps 1 ks g gV) (hx : ∀ σ, PassesAt CX X σ (E σ)) (hkw : PK X kws tk)
    (hall : (backToKw pos (keywordEach kws X.env)).all (·.1.isSome) = true := by rfl) (hks : (backToKw pos (keywordEach kws X.env)).filterMap (·.1) = ks := by rfl)
    (hpl : ((backTo pos (starEach [] X.env)).any (·.1) || (backToKw pos (keywordEach kws X.env)).any (·.1.isNone)) = false := by rfl)
    (ht : eval (.Call (.Attribute o m apos) [] kws pos) X.env = (do
      let ov ← eval o X.env
      standAt apos.atName
      let (f, first) ← holding [ov] (getMethod ov m pl)
      callWith pos f first (backTo pos (starEach [] X.env)) (backToKw pos (keywordEach kws X.env))) := by rfl) :
    PE X (.Call (.Attribute o m apos) [] kws pos) (tMthK C m ks.length sp gV E to tk) := by
  refine ⟨fun pins s σ H Q I h => ?_⟩
  refine PySem.W.methodCall_KW (pl := pl) (thn (he.run pins s σ H _ I h) fun u s1 hu => ?_) ht
  obtain ⟨x, H1, I1, rx, a, dx, fs, rfl, ea, l, q⟩ := hu
  cases rx
  refine getmeth_ok I1 ea c hm l ?_
  refine PySem.W.callWith_KW0 (first := [.ref a]) (h₀ := X.base) I.ok.mod.kin hm.kp hall (thn (hkw.run pos pins s1 σ H1 _ I1 q) fun ws s2 hu2 => ?_) hpl
  obtain ⟨zs, H2, I2, rz, l2, q2⟩ := hu2
  refine ⟨I2.kIn, ?_⟩
  rw [hks]
  have r2 := hb.rel (.cons rfl .nil : Vals [V.ref a] [Value.ref a]) rz
  refine wpAny_call (codeAny_mono (F.run X.A X.stack s2 H2 ⟨[.ref a] ++ [], ks.zip ws⟩ (g [.ref a] ws) (gV [.ref a] zs) Q (E σ) hr I2.env0 (hb.to s2 [.ref a] ws I2.kIn rfl (rz.length.symm.trans l2)) r2 q2) fun r s' hq => ?_)
  cases r with
  | error e => exact hx σ pins H2 s2 e s' I2 hq
  | ok fl =>
    cases fl with
    | ret u => exact I2.after hq
    | next => exact False.elim hq
    | brk => exact False.elim hq
    | cont => exact False.elim hq
end
section
variable {C : Addr} {m n : Nat} {sp : Sp} {gV : List V → List V → List V} {E : XK} {tk ta : TA} {σ : L2.St} {H : Hp} {Q : VK} {to : TE} {f : Str}
theorem i_makeK0 (q : tk σ H fun zs H2 => zs.length = m ∧ ∀ x dx, H2 x = none → H2 dx = none → dx ≠ x → sp (gV [.ref x] zs) (upd (upd H2 dx (.own x)) x (.ins C dx [])) (fun v H3 => v = .non ∧ Q (.ref x) H3) E) : tMakeK C 0 m sp gV E tNil tk σ H Q := by
  show tk σ H fun zs H2 => ([] : List V).length = 0 ∧ zs.length = m ∧ ∀ x dx, H2 x = none → H2 dx = none → dx ≠ x → sp (gV [.ref x] zs) (upd (upd H2 dx (.own x)) x (.ins C dx [])) (fun v H3 => v = .non ∧ Q (.ref x) H3) E
  simp only [List.length_nil, true_and]
  exact q
theorem i_len1 {v : V} {R : Prop} (q : R) : [v].length = (1 : Nat) ∧ R := ⟨rfl, q⟩
theorem i_mthK {E : L2.St → XK} (q : to σ H fun x H1 => ∃ a dx fs, x = V.ref a ∧ H1 a = some (.ins C dx fs) ∧ fs.lookup f = none ∧ tk σ H1 fun zs H2 => zs.length = n ∧ sp (gV [.ref a] zs) H2 Q (E σ)) : tMthK C f n sp gV E to tk σ H Q := q
theorem i_mthS {E : L2.St → XK} (q : to σ H fun x H1 => ∃ a dx fs, x = V.ref a ∧ H1 a = some (.ins C dx fs) ∧ fs.lookup f = none ∧ ta σ H1 fun vs H2 => sp (.ref a :: vs) H2 Q (E σ)) : tMthS C f sp E to ta σ H Q := q
end
end VX
set_option maxRecDepth 100000
set_option maxHeartbeats 4000000
/-! Data on the heap: what stays, of which type it is, how deep and wide. -/
namespace VX
open PySem PySem.Spec PyProof.Rows L2
theorem same_sqT {K : PySem.W.Frag} {H H' : Hp} {a : Addr} {xs : List V} (e : Same H H') (h : SqT K H a xs) : SqT K H' a xs := by
  rcases h with (h | ⟨o, h⟩) | h
  · exact .inl (.inl (e _ _ h))
  · exact .inl (.inr ⟨o, e _ _ h⟩)
  · exact .inr h
mutual
theorem dp_mono {K : PySem.W.Frag} {H H' : Hp} (e : Same H H') : ∀ (d : PyData) (v : V), Dp K H v d → Dp K H' v d
  | .none, _, h => by cases h; exact .non
  | .bool b, _, h => by cases h; exact .bl b
  | .int i, _, h => by cases h; exact .int i
  | .str x, _, h => by cases h; exact .str x
  | .list ds, _, h => by
    cases h with
    | lst hs ha => exact .lst (e.seq hs) (dpa_mono e ds _ ha)
  | .tuple ds, _, h => by
    cases h with
    | tup hs ha => exact .tup (same_sqT e hs) (dpa_mono e ds _ ha)
  | .dict _, _, h => by cases h
theorem dpa_mono {K : PySem.W.Frag} {H H' : Hp} (e : Same H H') : ∀ (ds : List PyData) (vs : List V), DpAll K H vs ds → DpAll K H' vs ds
  | [], _, h => by cases h; exact .nil
  | d :: ds, _, h => by
    cases h with
    | cons h1 h2 => exact .cons (dp_mono e d _ h1) (dpa_mono e ds _ h2)
end
theorem Dp.mono' {K : PySem.W.Frag} {H H' : Hp} {v : V} {d : PyData} (h : Dp K H v d) (e : Same H H') : Dp K H' v d := dp_mono e d v h
theorem dpa_len {K : PySem.W.Frag} {H : Hp} : ∀ {vs : List V} {ds : List PyData}, DpAll K H vs ds → vs.length = ds.length
  | _, _, .nil => rfl
  | _, _, .cons _ t => by rw [List.length_cons, List.length_cons, dpa_len t]
theorem dpa_get {K : PySem.W.Frag} {H : Hp} : ∀ {vs : List V} {ds : List PyData} {i : Nat} {d : PyData}, DpAll K H vs ds → ds[i]? = some d → ∃ v, vs[i]? = some v ∧ Dp K H v d
  | _, _, _, _, .nil, e => by simp at e
  | _, _, 0, _, .cons h _, e => by
    simp at e
    subst e
    exact ⟨_, rfl, h⟩
  | _, _, i + 1, d, .cons _ t, e => by
    obtain ⟨v, h1, h2⟩ := dpa_get (i := i) (d := d) t (by simpa using e)
    exact ⟨v, by simpa using h1, h2⟩
theorem dpa_ints {K : PySem.W.Frag} {H : Hp} : ∀ ns : List Int, DpAll K H (ns.map V.int) (ns.map PyData.int)
  | [] => .nil
  | n :: ns => .cons (.int n) (dpa_ints ns)
theorem dp_ints {K : PySem.W.Frag} {H : Hp} {a : Addr} {ns : List Int} (h : SqL K H a (ns.map V.int)) : Dp K H (.ref a) (.list (ns.map PyData.int)) := .lst h (dpa_ints ns)
/-- a datum's type -/
def tn : PyData → String
  | .none => "NoneType"
  | .bool _ => "bool"
  | .int _ => "int"
  | .str _ => "str"
  | .list _ => "list"
  | .tuple _ => "tuple"
  | .dict _ => "dict"
theorem dp_ty {K : PySem.W.Frag} {H : Hp} {v : V} {d : PyData} (h : Dp K H v d) : TyX K H v (.type (tn d)) := by
  cases h with
  | non => exact .base .non
  | bl b => exact .base (.bl b)
  | int i => exact .base (.int i)
  | str x => exact .base (.str x)
  | lst hs _ =>
    rcases hs with (h | ⟨o, h⟩) | ⟨o, its, n, hk, hc, _⟩
    · exact .base (.lst h)
    · exact .base (.frz h)
    · exact .kList hk hc
  | tup hs _ =>
    rcases hs with (h | ⟨o, h⟩) | hk
    · exact .base (.tup h)
    · exact .fTuple h
    · obtain ⟨o, its, n, hk, hc, _⟩ := hk
      exact .kTuple hk hc
/-- isinstance of a datum and a built-in class -/
def isS (c a : String) : Bool := decide (a = c) || (decide (c = "int") && decide (a = "bool"))
def isB (c : String) (d : PyData) : Bool := isS c (tn d)
theorem kit_all : ∀ a ∈ (["NoneType", "bool", "int", "str", "list", "tuple"] : List String), ∀ c ∈ (["bool", "int", "str", "list", "tuple"] : List String), kitB a c = some (isS c a) := by decide +kernel
theorem tn_mem (d : PyData) (hd : ∀ k, d ≠ .dict k) : tn d ∈ (["NoneType", "bool", "int", "str", "list", "tuple"] : List String) := by
  cases d <;> first | (exfalso; exact hd _ rfl) | (simp only [tn, List.mem_cons, true_or, or_true])
theorem kit_dp {K : PySem.W.Frag} (c : String) (hc : c ∈ (["bool", "int", "str", "list", "tuple"] : List String)) (d : PyData) (hd : ∀ k, d ≠ .dict k) : PySem.W.kitOne K (.type (tn d)) (.type c) = some (isB c d) :=
  kit_ty (kit_all _ (tn_mem d hd) c hc)
theorem dp_nodict {K : PySem.W.Frag} {H : Hp} {v : V} {d : PyData} (h : Dp K H v d) : ∀ k, d ≠ .dict k := fun k e => by
  subst e
  cases h
theorem ty_looks {X : Cx} {pins : List (Addr × Obj)} {σ : L2.St} {H : Hp} {s : Shared} {y : V} {u t : Value} (I : Inv X pins σ H s) (r : RelV y u) (ty : TyX X.K H y t) : PySem.W.Looks (model X.prog X.w) s.heap (typeOf u) t := by
  obtain ⟨P, Z, p, _⟩ := kit_of I r ty
  exact Z.ty _ _ I.kIn p
/-! isinstance, read -/
section
variable {H : Hp} {Q : VK} {K : PySem.W.Frag}
theorem i_isi {x : V} {t : Value} {c : String} {b : Bool} (ty : TyX K H x t) (e : PySem.W.kitOne K t (.type c) = some b) (q : Q (.bl b) H) : rIsi K [x, .ty c] H Q := ⟨x, .ty c, t, .type c, b, rfl, .ty c, ty, e, q⟩
theorem i_isiD {x : V} {d : PyData} {c : String} (h : Dp K H x d) (hc : c ∈ (["bool", "int", "str", "list", "tuple"] : List String)) (q : Q (.bl (isB c d)) H) : rIsi K [x, .ty c] H Q := i_isi (dp_ty h) (kit_dp c hc d (dp_nodict h)) q
theorem kitAny_dp (d : PyData) (hd : ∀ k, d ≠ .dict k) : ∀ cs : List String, (∀ c ∈ cs, c ∈ (["bool", "int", "str", "list", "tuple"] : List String)) → PySem.W.kitAny K (.type (tn d)) (cs.map Value.type) = some (cs.any fun c => isB c d)
  | [], _ => rfl
  | c :: cs, h => by
    have h1 := kit_dp (K := K) c (h c List.mem_cons_self) d hd
    have h2 := kitAny_dp d hd cs fun x hx => h x (List.mem_cons_of_mem _ hx)
    refine kitAny_cons (b := isB c d) h1 (fun e => ?_) fun e => ?_
    · rw [List.any_cons, e, Bool.false_or]
      exact h2
    · rw [List.any_cons, e, Bool.true_or]
theorem clsv_all : ∀ cs : List String, Paired ClsV (cs.map V.ty) (cs.map Value.type)
  | [] => .nil
  | c :: cs => .cons (.ty c) (clsv_all cs)
theorem i_isiTD {x : V} {d : PyData} {tp : Addr} (cs : List String) (h : Dp K H x d) (ht : H tp = some (.tup (cs.map V.ty))) (hc : ∀ c ∈ cs, c ∈ (["bool", "int", "str", "list", "tuple"] : List String)) (q : Q (.bl (cs.any fun c => isB c d)) H) : rIsiT K [x, .ref tp] H Q :=
  ⟨x, tp, cs.map V.ty, .type (tn d), cs.map Value.type, _, rfl, ht, clsv_all cs, dp_ty h, kitAny_dp d (dp_nodict h) cs hc, q⟩
end
/-! depth and width of data -/
mutual
def dep : PyData → Nat
  | .list ds => depAll ds + 1
  | .tuple ds => depAll ds + 1
  | _ => 0
def depAll : List PyData → Nat
  | [] => 0
  | d :: ds => max (dep d) (depAll ds)
end
theorem dep_get : ∀ {ds : List PyData} {i : Nat} {d : PyData}, ds[i]? = some d → dep d ≤ depAll ds
  | [], _, _, e => by simp at e
  | x :: xs, 0, d, e => by
    simp at e
    subst e
    rw [depAll]
    exact Nat.le_max_left _ _
  | x :: xs, i + 1, d, e => by
    have h := dep_get (ds := xs) (i := i) (d := d) (by simpa using e)
    rw [depAll]
    exact Nat.le_trans h (Nat.le_max_right _ _)
/-! every list and tuple in it has at most n items -/
mutual
def nar (n : Nat) : PyData → Bool
  | .list ds => decide (ds.length ≤ n) && narAll n ds
  | .tuple ds => decide (ds.length ≤ n) && narAll n ds
  | _ => true
def narAll (n : Nat) : List PyData → Bool
  | [] => true
  | d :: ds => nar n d && narAll n ds
end
theorem nar_get {n : Nat} : ∀ {ds : List PyData} {i : Nat} {d : PyData}, narAll n ds = true → ds[i]? = some d → nar n d = true
  | [], _, _, _, e => by simp at e
  | x :: xs, 0, d, h, e => by
    simp at e
    subst e
    rw [narAll] at h
    exact (Bool.and_eq_true_iff.mp h).1
  | x :: xs, i + 1, d, h, e => by
    rw [narAll] at h
    exact nar_get (ds := xs) (i := i) (Bool.and_eq_true_iff.mp h).2 (by simpa using e)
theorem nar_ints {n : Nat} : ∀ ns : List Int, narAll n (ns.map PyData.int) = true
  | [] => rfl
  | k :: ns => by
    show (nar n (.int k) && narAll n (ns.map PyData.int)) = true
    rw [nar_ints ns]
    rfl
theorem dep_ints : ∀ ns : List Int, depAll (ns.map PyData.int) = 0
  | [] => rfl
  | k :: ns => by
    show max (dep (.int k)) (depAll (ns.map PyData.int)) = 0
    rw [dep_ints ns]
    rfl
theorem lay_ints : ∀ ns : List Int, PyData.canLayAll0 (ns.map PyData.int) = true
  | [] => rfl
  | k :: ns => by
    show (PyData.canLay0 (.int k) && PyData.canLayAll0 (ns.map PyData.int)) = true
    rw [lay_ints ns]
    rfl
theorem depth_ints : ∀ ns : List Int, PyData.depthAll (ns.map PyData.int) = 0
  | [] => rfl
  | k :: ns => by
    show max (PyData.depth (.int k)) (PyData.depthAll (ns.map PyData.int)) = 0
    rw [depth_ints ns]
    rfl
theorem shaped_ints (ns : List Int) : SeqAt.shaped (.list (ns.map PyData.int)) = true := by
  have h1 : PyData.canLay0 (.list (ns.map PyData.int)) = true := lay_ints ns
  have h2 : PyData.depth (.list (ns.map PyData.int)) ≤ 64 := by
    show PyData.depthAll (ns.map PyData.int) + 1 ≤ 64
    rw [depth_ints ns]
    decide
  exact Bool.and_eq_true_iff.mpr ⟨h1, decide_eq_true h2⟩
theorem eqvAll_ints : ∀ ns ms : List Int, PyData.eqvAll (ns.map PyData.int) (ms.map PyData.int) = decide (ns = ms)
  | [], [] => rfl
  | [], m :: ms => rfl
  | n :: ns, [] => rfl
  | n :: ns, m :: ms => by
    show (PyData.eqv (.int n) (.int m) && PyData.eqvAll (ns.map PyData.int) (ms.map PyData.int)) = _
    rw [eqvAll_ints ns ms]
    show ((n == m) && decide (ns = ms)) = decide (n :: ns = m :: ms)
    by_cases h : n = m
    · subst h
      by_cases h2 : ns = ms
      · subst h2
        simp
      · simp [h2]
    · simp [h]
theorem eqv_ints (ns ms : List Int) : PyData.eqv (.list (ns.map PyData.int)) (.list (ms.map PyData.int)) = decide (ns = ms) := eqvAll_ints ns ms
theorem i_eqInts {H : Hp} {Q : VK} {K : PySem.W.Frag} {a b : Addr} {ns ms : List Int} (ha : SqL K H a (ns.map V.int)) (hb : SqL K H b (ms.map V.int)) (q : Q (.bl (decide (ns = ms))) H) : rEqD K (.ref a) (.ref b) H Q :=
  ⟨_, _, dp_ints ha, dp_ints hb, shaped_ints ns, shaped_ints ms, by rw [eqv_ints]; exact q⟩
theorem i_neInts {H : Hp} {Q : VK} {K : PySem.W.Frag} {a b : Addr} {ns ms : List Int} (ha : SqL K H a (ns.map V.int)) (hb : SqL K H b (ms.map V.int)) (q : Q (.bl (!decide (ns = ms))) H) : rNeD K (.ref a) (.ref b) H Q :=
  ⟨_, _, dp_ints ha, dp_ints hb, shaped_ints ns, shaped_ints ms, by rw [eqv_ints]; exact q⟩
/-- a part of the heap with one thing left out -/
theorem same_del {H : Hp} {p : Addr} : Same (del H p) H := fun b o e => by
  by_cases hb : b = p
  · rw [hb, del_same] at e
    cases e
  · rw [del_ne hb] at e
    exact e
theorem del_of {H : Hp} {p a : Addr} {o : HO} (h : H a = some o) (n : a ≠ p) : del H p a = some o := by
  rw [del_ne n]
  exact h
/-- F is what stays; p turns -/
structure Ctx (F : Hp) (p : Addr) (o : HO) (H : Hp) : Prop where
  e : Same F H
  n : F p = none
  h : H p = some o
theorem Ctx.turn {F H : Hp} {p : Addr} {o o' : HO} (c : Ctx F p o H) : Ctx F p o' (upd H p o') := ⟨fun b u hb => by
  rw [upd_ne (ne_of_none hb c.n)]
  exact c.e b u hb, c.n, upd_same⟩
theorem Ctx.start {H : Hp} {p : Addr} {o : HO} (h : H p = some o) : Ctx (del H p) p o H := ⟨same_del, del_same, h⟩
theorem Ctx.new {F H : Hp} {p q : Addr} {o u : HO} (c : Ctx F p o H) (hq : H q = none) : Ctx (upd F q u) p o (upd H q u) := by
  have hqp : q ≠ p := fun z => by
    rw [z, c.h] at hq
    cases hq
  refine ⟨fun b x hb => ?_, by rw [upd_ne hqp.symm]; exact c.n, by rw [upd_ne hqp.symm]; exact c.h⟩
  by_cases z : b = q
  · subst z
    rw [upd_same] at hb ⊢
    exact hb
  · rw [upd_ne z] at hb ⊢
    exact c.e b x hb
theorem Ctx.grow {F H H' : Hp} {p : Addr} {o : HO} (c : Ctx F p o H) (e : Same H H') : Ctx F p o H' := ⟨c.e.trans e, c.n, e _ _ c.h⟩
theorem Ctx.newF {F H : Hp} {p q : Addr} {o : HO} (c : Ctx F p o H) (hq : H q = none) : F q = none := c.e.free hq
theorem Ctx.drop {F H : Hp} {p q : Addr} {o u : HO} (c : Ctx (upd F q u) p o H) (n : F q = none) : Ctx F p o H := by
  refine ⟨(same_new n).trans c.e, ?_, c.h⟩
  have z := c.n
  by_cases e : p = q
  · rw [e]
    exact n
  · rw [upd_ne e] at z
    exact z
theorem Ctx.put {F H : Hp} {p l : Addr} {o u : HO} (c : Ctx F p o H) (n : F l = none) (ne : l ≠ p) : Ctx F p o (upd H l u) := ⟨fun b x hb => by
  rw [upd_ne (ne_of_none hb n)]
  exact c.e b x hb, c.n, by rw [upd_ne ne.symm]; exact c.h⟩
theorem Ctx.ne {F H : Hp} {p q : Addr} {o : HO} (c : Ctx F p o H) (hq : H q = none) : q ≠ p := fun z => by
  rw [z, c.h] at hq
  cases hq
theorem Ctx.fresh {F H : Hp} {p q : Addr} {o u : HO} (c : Ctx F p o H) (hq : H q = none) : Ctx F p o (upd H q u) := (c.new hq).drop (c.newF hq)
/-- all but p, as it stands, may be kept -/
theorem Ctx.all {F H : Hp} {p : Addr} {o : HO} (c : Ctx F p o H) : Same F (del H p) := fun b u hb => del_of (c.e b u hb) (ne_of_none hb c.n)
theorem Ctx.to {F H H' : Hp} {p : Addr} {o o' : HO} (c : Ctx F p o H) (e : Same (del H p) H') (h : H' p = some o') : Ctx F p o' H' := ⟨c.all.trans e, c.n, h⟩
end VX
set_option maxRecDepth 100000
set_option maxHeartbeats 4000000
/-! Comprehensions and loops, read. -/
namespace VX
open PySem PySem.Spec PyProof.Rows L2
section
variable {σ σ' : L2.St} {H : Hp} {Q : VK} {K : PySem.W.Frag} {wi : TI} {g : TG} {tt : TT} {te : TE} {vs : List Nat}
theorem i_lc (q : wi σ H fun J H1 => ∀ D, H1 D = none → ∃ W : Nat → Nat → Hp → Prop, (∃ m, W 0 m (upd H1 D (.lst []))) ∧ ∀ i m H, W i m H →
  (J.stop i H ∧ Q (.ref D) H) ∨ (J.go i H ∧ ∃ Nx : Hp → Prop, (∀ H', Nx H' → ∃ m', m' < m ∧ W (i + 1) m' H') ∧ ∀ x H', J.yld i H x H' → g x (wipe σ vs) H' fun σ2 H2 => wipe σ2 vs = wipe σ vs ∧ tt σ2 H2 fun b H3 =>
    if b = true then te σ2 H3 fun y H4 => ∃ acc, H4 D = some (.lst acc) ∧ acc.length < sizeLine ∧ Nx (upd H4 D (.lst (acc ++ [y]))) else Nx H3)) : tLc wi g tt te vs σ H Q := q
theorem i_rixL {p : Addr} {xs : List V} {i : Int} {v : V} (h : SqL K H p xs) (hi : atI xs i = some v) (q : Q v H) : rIx K (.ref p) (.int i) H Q := .inl ⟨p, xs, i, v, rfl, rfl, h, hi, q⟩
theorem i_rixT {p : Addr} {xs : List V} {i : Int} {v : V} (h : SqT K H p xs) (hi : atI xs i = some v) (q : Q v H) : rIx K (.ref p) (.int i) H Q := .inr (.inl ⟨p, xs, i, v, rfl, rfl, h, hi, q⟩)
theorem i_cut {D : Ends} {t u : TS} {M : L2.St → Hp → Prop} (h : t { D with nx := M } σ H) (k : ∀ σ' H', M σ' H' → u D σ' H') : Evl.tCut t u D σ H := ⟨M, h, k⟩
theorem i_for {D : Ends} {wi : TI} {g : TG} {tb : TS} (q : wi σ H fun J H1 => ∃ W : Nat → Nat → L2.St → Hp → Prop, (∃ m, W 0 m σ H1) ∧ ∀ i m σ H, W i m σ H →
  (J.stop i H ∧ D.nx σ H) ∨ (J.go i H ∧ ∃ N : L2.St → Hp → Prop, (∀ σ' H', N σ' H' → ∃ m', m' < m ∧ W (i + 1) m' σ' H') ∧ ∀ x H', J.yld i H x H' → g x σ H' fun σ2 H2 => tb { D with nx := N, ct := N, bk := D.nx } σ2 H2)) : tFor wi g tb D σ H := q
theorem i_lstRg {te : L2.St → Hp → (Int → Int → Hp → Prop) → Prop} (q : te σ H fun a b H1 => RgOk a b ∧ ∀ q, H1 q = none → Q (.ref q) (upd H1 q (.lst (rgV a b)))) : tLstRg te σ H Q := q
theorem i_rg2 {ta tb : TE} {R : Int → Int → Hp → Prop} (q : ta σ H fun x H1 => tb σ H1 fun y H2 => ∃ i j, x = .int i ∧ y = .int j ∧ R i j H2) : tRg2 ta tb σ H R := q
theorem i_rg2v {i j : Int} {R : Int → Int → Prop} (q : R i j) : ∃ i' j', V.int i = .int i' ∧ V.int j = .int j' ∧ R i' j' := ⟨i, j, rfl, rfl, q⟩
theorem i_yes {Q : Bool → Hp → Prop} (q : Q true H) : tYes σ H Q := q
theorem i_wipe {R : Prop} (e : wipe σ' vs = wipe σ vs) (q : R) : wipe σ' vs = wipe σ vs ∧ R := ⟨e, q⟩
theorem i_iList {tl : TE} {R : It → Hp → Prop} (q : tl σ H fun x H1 => ∃ a, x = .ref a ∧ (∃ xs, SqL K H1 a xs) ∧ R (Itl K a) H1) : iList K tl σ H R := q
theorem i_iRng1 {ta : TA} {R : It → Hp → Prop} (q : ta σ H fun vs H1 => ∃ j : Int, vs = [.int j] ∧ -(2 ^ 62) ≤ j ∧ j < 2 ^ 62 ∧ R (Itr 0 j.toNat) H1) : iRng1 ta σ H R := q
theorem i_iRng2 {ta : TA} {R : It → Hp → Prop} (q : ta σ H fun vs H1 => ∃ i j : Int, vs = [.int i, .int j] ∧ (-(2 ^ 62) ≤ i ∧ i < 2 ^ 62 ∧ -(2 ^ 62) ≤ j ∧ j < 2 ^ 62) ∧ R (Itr i (j - i).toNat) H1) : iRng2 ta σ H R := q
theorem i_iEnum {ta : TA} {R : It → Hp → Prop} (q : ta σ H fun vs H1 => ∃ a xs, vs = [.ref a] ∧ SqL K H1 a xs ∧ R (Ite K a) H1) : iEnum K ta σ H R := q
theorem i_iZip {ta : TA} {R : It → Hp → Prop} (q : ta σ H fun vs H1 => ∃ a b xs ys, vs = [.ref a, .ref b] ∧ SqL K H1 a xs ∧ SqL K H1 b ys ∧ R (Itz K a b) H1) : iZip K ta σ H R := q
theorem i_iOwn {C : Addr} {nm : Str} {R : It → Hp → Prop} (q : te σ H fun x H1 => ∃ a dx fs l zs, x = V.ref a ∧ H1 a = some (.ins C dx fs) ∧ fs.lookup nm = some (V.ref l) ∧ SqL K H1 l zs ∧ R (Itl K l) H1) : iOwn K C nm te σ H R := q
/-- a comprehension without a test whose items are plain values and which changes nothing -/
theorem lc_map {J : It} {n : Nat} {G : Hp → Prop} {Y : Nat → Hp → V → Hp → Prop} (w : Walk J n G Y) {H1 F : Hp} {D : Addr} {Qd : Hp → Prop} (eF : Same F H1) (nD : H1 D = none) (hn : n ≤ 10000) (f : Nat → V) (hG : ∀ H, Same F H → G H)
    (hs : ∀ i x H H', i < n → Same F H → Y i H x H' → Same H H' ∧ ∀ R : VK, (∀ H4, Same H' H4 → R (f i) H4) → g x (wipe σ vs) H' fun σ2 H2 => wipe σ2 vs = wipe σ vs ∧ te σ2 H2 R)
    (hd : ∀ H, Same F H → H D = some (.lst ((List.range n).map f)) → Qd H) :
    ∃ W : Nat → Nat → Hp → Prop, (∃ m, W 0 m (upd H1 D (.lst []))) ∧ ∀ i m H, W i m H →
      (J.stop i H ∧ Qd H) ∨ (J.go i H ∧ ∃ Nx : Hp → Prop, (∀ H', Nx H' → ∃ m', m' < m ∧ W (i + 1) m' H') ∧ ∀ x H', J.yld i H x H' → g x (wipe σ vs) H' fun σ2 H2 => wipe σ2 vs = wipe σ vs ∧ tYes σ2 H2 fun b H3 =>
        if b = true then te σ2 H3 fun y H4 => ∃ acc, H4 D = some (.lst acc) ∧ acc.length < sizeLine ∧ Nx (upd H4 D (.lst (acc ++ [y]))) else Nx H3) := by
  have fD : F D = none := eF.free nD
  refine lc_it w (Qd := Qd) (tt := tYes) (fun i H => Same F H ∧ H D = some (.lst ((List.range i).map f))) ⟨fun b o hb => ?_, upd_same⟩ (fun i H _ p => hG H p.1) (fun i x H H' hi p y => ?_) fun H p => hd H p.1 p.2
  · rw [upd_ne (ne_of_none hb fD)]
    exact eF b o hb
  · obtain ⟨e, q⟩ := hs i x H H' hi p.1 y
    refine q (fun y H4 => ∃ acc, H4 D = some (.lst acc) ∧ acc.length < sizeLine ∧ (Same F (upd H4 D (.lst (acc ++ [y]))) ∧ upd H4 D (.lst (acc ++ [y])) D = some (.lst ((List.range (i + 1)).map f)))) fun H4 e4 => ?_
    have h4 : H4 D = some (.lst ((List.range i).map f)) := e4 _ _ (e _ _ p.2)
    refine ⟨_, h4, ?_, fun b o hb => ?_, ?_⟩
    · rw [List.length_map, List.length_range]
      exact Nat.lt_of_lt_of_le hi (Nat.le_trans hn (by decide))
    · rw [upd_ne (ne_of_none hb fD)]
      exact e4 _ _ (e _ _ (p.1 b o hb))
    · rw [upd_same, List.range_succ, List.map_append]
      rfl
end
theorem range_map_at {α : Type} {f : Nat → α} {xs : List α} (h : ∀ i x, xs[i]? = some x → f i = x) : (List.range xs.length).map f = xs := by
  apply List.ext_getElem?
  intro i
  by_cases hi : i < xs.length
  · rw [List.getElem?_map, List.getElem?_range hi, List.getElem?_eq_getElem hi]
    exact congrArg some (h i _ (List.getElem?_eq_getElem hi))
  · rw [List.getElem?_eq_none (by rw [List.length_map, List.length_range]; omega), List.getElem?_eq_none (by omega)]
end VX
set_option maxRecDepth 100000
set_option maxHeartbeats 1000000
namespace K13
open PySem PySem.Spec PyProof.Rows L2 VX
/-! ### the text -/
def topS (i : Nat) : Stmt := PySem.Challenge.pw_surerails_k13_cut_signs.main.body.getD i (.Pass ⟨0, 0, 0, 0⟩)
-- NoBox.__init__
abbrev s_NoBox_init : Stmt := inClass (topS 2) 0
abbrev N_NoBox_init : List Str := ["self", "box"]
theorem sc_NoBox_init : FnScope ["self", "box"] ["self", "box"] (defScope s_NoBox_init) := ⟨rfl, rfl, rfl, by decide +kernel, rfl, by decide +kernel, by decide +kernel⟩
-- BadCut.__init__
abbrev s_BadCut_init : Stmt := inClass (topS 3) 0
abbrev N_BadCut_init : List Str := ["self", "box"]
theorem sc_BadCut_init : FnScope ["self", "box"] ["self", "box"] (defScope s_BadCut_init) := ⟨rfl, rfl, rfl, by decide +kernel, rfl, by decide +kernel, by decide +kernel⟩
-- Cut.__init__
abbrev s_Cut_init : Stmt := inClass (topS 5) 0
abbrev N_Cut_init : List Str := ["self", "heights"]
theorem sc_Cut_init : FnScope ["self", "heights"] ["self", "heights"] (defScope s_Cut_init) := ⟨rfl, rfl, rfl, by decide +kernel, rfl, by decide +kernel, by decide +kernel⟩
-- Cut.height
abbrev s_Cut_height : Stmt := inClass (topS 5) 1
abbrev N_Cut_height : List Str := ["self", "box"]
theorem sc_Cut_height : FnScope ["self", "box"] ["self", "box"] (defScope s_Cut_height) := ⟨rfl, rfl, rfl, by decide +kernel, rfl, by decide +kernel, by decide +kernel⟩
-- Cut.within
abbrev s_Cut_within : Stmt := inClass (topS 5) 2
abbrev N_Cut_within : List Str := ["self", "other", "box", "height"]
theorem sc_Cut_within : FnScope ["self", "other", "box", "height"] ["self", "other"] (defScope s_Cut_within) := ⟨rfl, rfl, rfl, by decide +kernel, rfl, by decide +kernel, by decide +kernel⟩
-- Cut.__iter__
abbrev s_Cut_iter : Stmt := inClass (topS 5) 3
abbrev N_Cut_iter : List Str := ["self"]
theorem sc_Cut_iter : FnScope ["self"] ["self"] (defScope s_Cut_iter) := ⟨rfl, rfl, rfl, by decide +kernel, rfl, by decide +kernel, by decide +kernel⟩
-- Cut.__contains__
abbrev s_Cut_contains : Stmt := inClass (topS 5) 4
abbrev N_Cut_contains : List Str := ["self", "moment", "box", "reading"]
theorem sc_Cut_contains : FnScope ["self", "moment", "box", "reading"] ["self", "moment"] (defScope s_Cut_contains) := ⟨rfl, rfl, rfl, by decide +kernel, rfl, by decide +kernel, by decide +kernel⟩
-- Cut.__or__
abbrev s_Cut_or : Stmt := inClass (topS 5) 5
abbrev N_Cut_or : List Str := ["self", "other", "mine", "yours"]
theorem sc_Cut_or : FnScope ["self", "other", "mine", "yours"] ["self", "other"] (defScope s_Cut_or) := ⟨rfl, rfl, rfl, by decide +kernel, rfl, by decide +kernel, by decide +kernel⟩
-- Cut.__and__
abbrev s_Cut_and : Stmt := inClass (topS 5) 6
abbrev N_Cut_and : List Str := ["self", "other", "mine", "yours"]
theorem sc_Cut_and : FnScope ["self", "other", "mine", "yours"] ["self", "other"] (defScope s_Cut_and) := ⟨rfl, rfl, rfl, by decide +kernel, rfl, by decide +kernel, by decide +kernel⟩
-- Cut.__eq__
abbrev s_Cut_eq : Stmt := inClass (topS 5) 7
abbrev N_Cut_eq : List Str := ["self", "other"]
theorem sc_Cut_eq : FnScope ["self", "other"] ["self", "other"] (defScope s_Cut_eq) := ⟨rfl, rfl, rfl, by decide +kernel, rfl, by decide +kernel, by decide +kernel⟩
-- _law_cell
abbrev s_cell : Stmt := topS 7
abbrev N_cell : List Str := ["_law_script", "_law_k"]
theorem sc_cell : FnScope ["_law_script", "_law_k"] ["_law_script", "_law_k"] (defScope s_cell) := ⟨rfl, rfl, rfl, by decide +kernel, rfl, by decide +kernel, by decide +kernel⟩
-- _law_pen
abbrev s_pen : Stmt := topS 8
abbrev N_pen : List Str := ["_law_script", "_law_k", "_law_cell_here"]
theorem sc_pen : FnScope ["_law_script", "_law_k", "_law_cell_here"] ["_law_script", "_law_k"] (defScope s_pen) := ⟨rfl, rfl, rfl, by decide +kernel, rfl, by decide +kernel, by decide +kernel⟩
-- _law_take
abbrev s_take : Stmt := topS 9
abbrev N_take : List Str := ["_law_pen_here", "_law_size", "_law_digit", "_law_mixed"]
theorem sc_take : FnScope ["_law_pen_here", "_law_size", "_law_digit", "_law_mixed"] ["_law_pen_here", "_law_size"] (defScope s_take) := ⟨rfl, rfl, rfl, by decide +kernel, rfl, by decide +kernel, by decide +kernel⟩
-- _law_same
abbrev s_same : Stmt := topS 10
abbrev N_same : List Str := ["_law_actual", "_law_due", "_law_at"]
theorem sc_same : FnScope ["_law_actual", "_law_due", "_law_at"] ["_law_actual", "_law_due"] (defScope s_same) := ⟨rfl, rfl, rfl, by decide +kernel, rfl, by decide +kernel, by decide +kernel⟩
-- _law_row
abbrev s_row : Stmt := topS 11
abbrev N_row : List Str := ["_law_pen_here", "_law_many", "_law_wide", "_law_box"]
theorem sc_row : FnScope ["_law_pen_here", "_law_many", "_law_wide", "_law_box"] ["_law_pen_here", "_law_many", "_law_wide"] (defScope s_row) := ⟨rfl, rfl, rfl, by decide +kernel, rfl, by decide +kernel, by decide +kernel⟩
-- _law_second
abbrev s_second : Stmt := topS 12
abbrev N_second : List Str := ["_law_pen_here", "_law_row_here", "_law_wide", "_law_kind", "_law_other", "_law_at"]
theorem sc_second : FnScope ["_law_pen_here", "_law_row_here", "_law_wide", "_law_kind", "_law_other", "_law_at"] ["_law_pen_here", "_law_row_here", "_law_wide"] (defScope s_second) := ⟨rfl, rfl, rfl, by decide +kernel, rfl, by decide +kernel, by decide +kernel⟩
-- _law_cut
abbrev s_cut : Stmt := topS 13
abbrev N_cut : List Str := ["_law_row_here", "_law_given", "_law_cut_here"]
theorem sc_cut : FnScope ["_law_row_here", "_law_given", "_law_cut_here"] ["_law_row_here"] (defScope s_cut) := ⟨rfl, rfl, rfl, by decide +kernel, rfl, by decide +kernel, by decide +kernel⟩
-- _law_height
abbrev s_height : Stmt := topS 14
abbrev N_height : List Str := ["_law_cut_here", "_law_box", "e", "_law_kin"]
theorem sc_height : FnScope ["_law_cut_here", "_law_box", "e", "_law_kin"] ["_law_cut_here", "_law_box"] (defScope s_height) := ⟨rfl, rfl, rfl, by decide +kernel, rfl, by decide +kernel, by decide +kernel⟩
-- _law_caught
abbrev s_caught : Stmt := topS 15
abbrev N_caught : List Str := ["_law_cut_here", "_law_box"]
theorem sc_caught : FnScope ["_law_cut_here", "_law_box"] ["_law_cut_here", "_law_box"] (defScope s_caught) := ⟨rfl, rfl, rfl, by decide +kernel, rfl, by decide +kernel, by decide +kernel⟩
-- _law_tells
abbrev s_tells : Stmt := topS 16
abbrev N_tells : List Str := ["_law_pen_here", "_law_cut_here", "_law_row_here", "_law_height_here", "_law_box", "_law_inside", "_law_due", "_law_top", "_law_reading"]
theorem sc_tells : FnScope ["_law_pen_here", "_law_cut_here", "_law_row_here", "_law_height_here", "_law_box", "_law_inside", "_law_due", "_law_top", "_law_reading"] ["_law_pen_here", "_law_cut_here", "_law_row_here"] (defScope s_tells) := ⟨rfl, rfl, rfl, by decide +kernel, rfl, by decide +kernel, by decide +kernel⟩
-- _law_pair_tells
abbrev s_pair_tells : Stmt := topS 17
abbrev N_pair_tells : List Str := ["_law_pen_here", "_law_first", "_law_second_here", "_law_row_here", "_law_other", "_law_most", "_law_at", "_law_least", "_law_upper", "_law_lower", "_law_fits"]
theorem sc_pair_tells : FnScope ["_law_pen_here", "_law_first", "_law_second_here", "_law_row_here", "_law_other", "_law_most", "_law_at", "_law_least", "_law_upper", "_law_lower", "_law_fits"] ["_law_pen_here", "_law_first", "_law_second_here", "_law_row_here", "_law_other"] (defScope s_pair_tells) := ⟨rfl, rfl, rfl, by decide +kernel, rfl, by decide +kernel, by decide +kernel⟩
-- _law_unlike
abbrev s_unlike : Stmt := topS 18
abbrev N_unlike : List Str := ["_law_cut_here", "_law_row_here", "_law_others", "_law_other", "_law_thing"]
theorem sc_unlike : FnScope ["_law_cut_here", "_law_row_here", "_law_others", "_law_other", "_law_thing"] ["_law_cut_here", "_law_row_here"] (defScope s_unlike) := ⟨rfl, rfl, rfl, by decide +kernel, rfl, by decide +kernel, by decide +kernel⟩
-- law
abbrev s_law : Stmt := topS 19
abbrev N_law : List Str := ["_law_script", "_law_pen_here", "_law_many", "_law_wide", "_law_rows", "_law_cuts", "_law_row_here", "_law_at", "_law_other", "_law_joined"]
theorem sc_law : FnScope ["_law_script", "_law_pen_here", "_law_many", "_law_wide", "_law_rows", "_law_cuts", "_law_row_here", "_law_at", "_law_other", "_law_joined"] ["_law_script"] (defScope s_law) := ⟨rfl, rfl, rfl, by decide +kernel, rfl, by decide +kernel, by decide +kernel⟩

/-! ### where things stand -/
structure Adr where
  (C N R B : Addr)
  (fN fI fH fW fIt fC fO fA fE : Addr)
  (dN dI dH dW dIt dC dO dA dE : FuncData)
  (cell pen take same row second cut height caught tells pair unlike law : Addr)
  (dcell dpen dtake dsame drow dsecond dcut dheight dcaught dtells dpair dunlike dlaw : FuncData)
structure Txt (K : PySem.W.Frag) (mg : Str → Option Value) (A : Adr) : Prop where
  F_NoBox_init : Fun K "__init__" "NoBox.__init__" s_NoBox_init A.fN A.dN
  F_Cut_init : Fun K "__init__" "Cut.__init__" s_Cut_init A.fI A.dI
  F_Cut_height : Fun K "height" "Cut.height" s_Cut_height A.fH A.dH
  F_Cut_within : Fun K "within" "Cut.within" s_Cut_within A.fW A.dW
  F_Cut_iter : Fun K "__iter__" "Cut.__iter__" s_Cut_iter A.fIt A.dIt
  F_Cut_contains : Fun K "__contains__" "Cut.__contains__" s_Cut_contains A.fC A.dC
  F_Cut_or : Fun K "__or__" "Cut.__or__" s_Cut_or A.fO A.dO
  F_Cut_and : Fun K "__and__" "Cut.__and__" s_Cut_and A.fA A.dA
  F_Cut_eq : Fun K "__eq__" "Cut.__eq__" s_Cut_eq A.fE A.dE
  F_cell : Fun K "_law_cell" "_law_cell" s_cell A.cell A.dcell
  F_pen : Fun K "_law_pen" "_law_pen" s_pen A.pen A.dpen
  F_take : Fun K "_law_take" "_law_take" s_take A.take A.dtake
  F_same : Fun K "_law_same" "_law_same" s_same A.same A.dsame
  F_row : Fun K "_law_row" "_law_row" s_row A.row A.drow
  F_second : Fun K "_law_second" "_law_second" s_second A.second A.dsecond
  F_cut : Fun K "_law_cut" "_law_cut" s_cut A.cut A.dcut
  F_height : Fun K "_law_height" "_law_height" s_height A.height A.dheight
  F_caught : Fun K "_law_caught" "_law_caught" s_caught A.caught A.dcaught
  F_tells : Fun K "_law_tells" "_law_tells" s_tells A.tells A.dtells
  F_pair_tells : Fun K "_law_pair_tells" "_law_pair_tells" s_pair_tells A.pair A.dpair
  F_unlike : Fun K "_law_unlike" "_law_unlike" s_unlike A.unlike A.dunlike
  F_law : Fun K "law" "law" s_law A.law A.dlaw
  g_cell : mg "_law_cell" = some (.ref A.cell)
  g_pen : mg "_law_pen" = some (.ref A.pen)
  g_take : mg "_law_take" = some (.ref A.take)
  g_same : mg "_law_same" = some (.ref A.same)
  g_row : mg "_law_row" = some (.ref A.row)
  g_second : mg "_law_second" = some (.ref A.second)
  g_cut : mg "_law_cut" = some (.ref A.cut)
  g_height : mg "_law_height" = some (.ref A.height)
  g_caught : mg "_law_caught" = some (.ref A.caught)
  g_tells : mg "_law_tells" = some (.ref A.tells)
  g_pair_tells : mg "_law_pair_tells" = some (.ref A.pair)
  g_unlike : mg "_law_unlike" = some (.ref A.unlike)
  g_Cut : mg "Cut" = some (.ref A.C)
  g_NoBox : mg "NoBox" = some (.ref A.N)
  g_RailsError : mg "RailsError" = some (.ref A.R)
  g_BadCut : mg "BadCut" = some (.ref A.B)
  n_int : mg "int" = none
  n_len : mg "len" = none
  n_list : mg "list" = none
  n_tuple : mg "tuple" = none
  n_bool : mg "bool" = none
  n_str : mg "str" = none
  n_isinstance : mg "isinstance" = none
  n_all : mg "all" = none
  n_range : mg "range" = none
  n_max : mg "max" = none
  n_min : mg "min" = none
  n_enumerate : mg "enumerate" = none
  n_zip : mg "zip" = none
  n_iter : mg "iter" = none
  n_ValueError : mg "ValueError" = none
  cl : Cls K A.C
  M_Cut : Mk K A.C A.fI
  m_height : Meth K A.C "height" A.fH
  m_within : Meth K A.C "within" A.fW
  oi : OwnI K A.C A.fIt
  nl : PySem.W.findIn K (.ref A.C) "__len__" = some none
  nh : PySem.W.findIn K (.ref A.C) "__length_hint__" = some none
  nA : NoAttr K A.C "_heights"
  s_contains : PySem.W.findIn K (.ref A.C) "__contains__" = some (some (.ref A.fC))
  i_contains : PySem.W.isFn K (.ref A.fC) = true
  s_or : PySem.W.findIn K (.ref A.C) "__or__" = some (some (.ref A.fO))
  i_or : PySem.W.isFn K (.ref A.fO) = true
  s_and : PySem.W.findIn K (.ref A.C) "__and__" = some (some (.ref A.fA))
  i_and : PySem.W.isFn K (.ref A.fA) = true
  s_eq : PySem.W.findIn K (.ref A.C) "__eq__" = some (some (.ref A.fE))
  i_eq : PySem.W.isFn K (.ref A.fE) = true
  sf : PySem.W.selfFirst K A.C = true
  ca : PySem.W.findIn K (.ref A.C) "__class__" = some (some (.builtin "object.__class__"))
  cm : PySem.W.mroIn K A.C (.type "object") = some true
  oex : OexC K A.N
  ini : PySem.W.findIn K (.ref A.N) "__init__" = some (some (.ref A.fN))
  tI : PySem.W.typeIn K (.ref A.fN) = some (.type "function")
  nb : PySem.W.findIn K (.ref A.N) "box" = some none
  xd : ExcD K A.N
  xf : XfC K A.N
  kNN : PySem.W.exmOne K (.ref A.N) (.ref A.N) = some true
  kNR : PySem.W.exmOne K (.ref A.N) (.ref A.R) = some true
  iR : PySem.W.kitOne K (.ref A.N) (.ref A.R) = some true
  iV : PySem.W.kitOne K (.ref A.N) (.type "ValueError") = some true
  iB : PySem.W.kitOne K (.ref A.N) (.ref A.B) = some false
  iCC : PySem.W.kitOne K (.ref A.C) (.ref A.C) = some true
  iCt : ∀ t, t ∈ (["list", "tuple", "NoneType", "int", "bool", "str"] : List String) → PySem.W.kitOne K (.type t) (.ref A.C) = some false
  nf : ∀ t, t ∈ (["list", "tuple", "NoneType", "int", "bool", "str"] : List String) → PySem.W.notFirst K A.C (.type t) = true
  kC : PySem.W.keepIn K (.ref A.C) = true
section
variable {P : Program} {w : World} {K : PySem.W.Frag} {mg : Str → Option Value} {base : Heap} {A : Adr}
theorem b_NoBox_init (T : Txt K mg A) : Binds K A.dN ["self", "box"] [] := T.F_NoBox_init.binds fun _ _ _ _ _ _ us hl => match us, hl with | [_, _], _ => rfl
theorem b_Cut_init (T : Txt K mg A) : Binds K A.dI ["self", "heights"] [] := T.F_Cut_init.binds fun _ _ _ _ _ _ us hl => match us, hl with | [_, _], _ => rfl
theorem b_Cut_height (T : Txt K mg A) : Binds K A.dH ["self", "box"] [] := T.F_Cut_height.binds fun _ _ _ _ _ _ us hl => match us, hl with | [_, _], _ => rfl
theorem b_Cut_within (T : Txt K mg A) : Binds K A.dW ["self", "other"] [] := T.F_Cut_within.binds fun _ _ _ _ _ _ us hl => match us, hl with | [_, _], _ => rfl
theorem b_Cut_iter (T : Txt K mg A) : Binds K A.dIt ["self"] [] := T.F_Cut_iter.binds fun _ _ _ _ _ _ us hl => match us, hl with | [_], _ => rfl
theorem b_Cut_contains (T : Txt K mg A) : Binds K A.dC ["self", "moment"] [] := T.F_Cut_contains.binds fun _ _ _ _ _ _ us hl => match us, hl with | [_, _], _ => rfl
theorem b_Cut_or (T : Txt K mg A) : Binds K A.dO ["self", "other"] [] := T.F_Cut_or.binds fun _ _ _ _ _ _ us hl => match us, hl with | [_, _], _ => rfl
theorem b_Cut_and (T : Txt K mg A) : Binds K A.dA ["self", "other"] [] := T.F_Cut_and.binds fun _ _ _ _ _ _ us hl => match us, hl with | [_, _], _ => rfl
theorem b_Cut_eq (T : Txt K mg A) : Binds K A.dE ["self", "other"] [] := T.F_Cut_eq.binds fun _ _ _ _ _ _ us hl => match us, hl with | [_, _], _ => rfl
theorem b_cell (T : Txt K mg A) : Binds K A.dcell ["_law_script", "_law_k"] [] := T.F_cell.binds fun _ _ _ _ _ _ us hl => match us, hl with | [_, _], _ => rfl
theorem b_pen (T : Txt K mg A) : Binds K A.dpen ["_law_script", "_law_k"] [] := T.F_pen.binds fun _ _ _ _ _ _ us hl => match us, hl with | [_, _], _ => rfl
theorem b_take (T : Txt K mg A) : Binds K A.dtake ["_law_pen_here", "_law_size"] [] := T.F_take.binds fun _ _ _ _ _ _ us hl => match us, hl with | [_, _], _ => rfl
theorem b_same (T : Txt K mg A) : Binds K A.dsame ["_law_actual", "_law_due"] [] := T.F_same.binds fun _ _ _ _ _ _ us hl => match us, hl with | [_, _], _ => rfl
theorem b_row (T : Txt K mg A) : Binds K A.drow ["_law_pen_here", "_law_many", "_law_wide"] [] := T.F_row.binds fun _ _ _ _ _ _ us hl => match us, hl with | [_, _, _], _ => rfl
theorem b_second (T : Txt K mg A) : Binds K A.dsecond ["_law_pen_here", "_law_row_here", "_law_wide"] [] := T.F_second.binds fun _ _ _ _ _ _ us hl => match us, hl with | [_, _, _], _ => rfl
theorem b_cut (T : Txt K mg A) : Binds K A.dcut ["_law_row_here"] [] := T.F_cut.binds fun _ _ _ _ _ _ us hl => match us, hl with | [_], _ => rfl
theorem b_height (T : Txt K mg A) : Binds K A.dheight ["_law_cut_here", "_law_box"] [] := T.F_height.binds fun _ _ _ _ _ _ us hl => match us, hl with | [_, _], _ => rfl
theorem b_caught (T : Txt K mg A) : Binds K A.dcaught ["_law_cut_here", "_law_box"] [] := T.F_caught.binds fun _ _ _ _ _ _ us hl => match us, hl with | [_, _], _ => rfl
theorem b_tells (T : Txt K mg A) : Binds K A.dtells ["_law_pen_here", "_law_cut_here", "_law_row_here"] [] := T.F_tells.binds fun _ _ _ _ _ _ us hl => match us, hl with | [_, _, _], _ => rfl
theorem b_pair_tells (T : Txt K mg A) : Binds K A.dpair ["_law_pen_here", "_law_first", "_law_second_here", "_law_row_here", "_law_other"] [] := T.F_pair_tells.binds fun _ _ _ _ _ _ us hl => match us, hl with | [_, _, _, _, _], _ => rfl
theorem b_unlike (T : Txt K mg A) : Binds K A.dunlike ["_law_cut_here", "_law_row_here"] [] := T.F_unlike.binds fun _ _ _ _ _ _ us hl => match us, hl with | [_, _], _ => rfl
end
end K13
set_option maxRecDepth 100000
set_option maxHeartbeats 1000000
namespace K13
open PySem PySem.Spec PyProof.Rows L2 VX
local macro_rules | `(tactic| walk_at "ne") => `(tactic| first
  | assumption
  | exact Ne.symm (by assumption)
  | exact ne_of_none (by assumption) (by assumption)
  | exact Ne.symm (ne_of_none (by assumption) (by assumption))
  | ((with_reducible refine' ne_of_none ?n1 ?n2); (case n2 => assumption); (case n1 => walk_at "lk"))
  | ((with_reducible refine' Ne.symm (ne_of_none ?n1 ?n2)); (case n2 => assumption); (case n1 => walk_at "lk")))
local macro_rules | `(tactic| walk_at "lk") => `(tactic| first
  | assumption
  | (with_reducible exact upd_same)
  | ((with_reducible refine' (upd_ne ?nn).trans ?ll); (case nn => walk_at "ne"); (case ll => walk_at "lk"))
  | ((with_reducible refine' VX.same_at ?nn ?ll); (case nn => assumption); (case ll => walk_at "lk")))
local macro_rules | `(tactic| walk_at "dp") => `(tactic| first
  | assumption
  | (with_reducible exact Dp.non)
  | (with_reducible exact Dp.bl _)
  | (with_reducible exact Dp.int _)
  | (with_reducible exact Dp.str _)
  | ((with_reducible refine' VX.Dp.mono' ?dd (same_new ?nn)); (case nn => assumption); (case dd => walk_at "dp"))
  | ((with_reducible refine' VX.Dp.mono' ?dd ?nn); (case nn => assumption); (case dd => walk_at "dp")))
local macro_rules | `(tactic| walk_at "sq") => `(tactic| first
  | assumption
  | (with_reducible exact SqL.of (by assumption))
  | (with_reducible exact SqT.of (by assumption))
  | ((with_reducible refine' Same.seq (same_new ?nn) ?qq); (case nn => assumption); (case qq => walk_at "sq"))
  | ((with_reducible refine' same_sqT (same_new ?nn) ?qq); (case nn => assumption); (case qq => walk_at "sq"))
  | ((with_reducible refine' Same.seq ?nn ?qq); (case nn => assumption); (case qq => walk_at "sq"))
  | ((with_reducible refine' same_sqT ?nn ?qq); (case nn => assumption); (case qq => walk_at "sq"))
  | ((with_reducible refine' SqL.of ?qq); (case qq => walk_at "lk"))
  | ((with_reducible refine' SqT.of ?qq); (case qq => walk_at "lk")))
local macro_rules | `(tactic| walk_at "cc") => `(tactic| first
  | exact ⟨by decide, by decide, by decide⟩
  | (show _ ≠ _; omega)
  | exact ⟨by omega, by omega⟩
  | exact Or.inl ⟨by omega, by omega⟩
  | exact Or.inr ⟨by omega, by omega⟩)
local macro_rules | `(tactic| walk_at "vcA") => `(tactic| repeat (first
  | ((with_reducible refine' VX.i_modA ?v1 ?_); (case v1 => omega); intro r hr0 hr1)
  | ((with_reducible refine' VX.i_divA ?v1 ?v2 ?_); (case v1 => omega); (case v2 => omega); intro r hr0 hr1)
  | walk_at "vc1"))
local macro_rules | `(tactic| walk_at "vc1") => `(tactic| first
  | ((with_reducible refine' VX.i_var ?v1 ?_); (case v1 => rfl))
  | (with_reducible refine' VX.i_c ?_)
  | (with_reducible refine' VX.i_op ?_)
  | (with_reducible refine' VX.i_cons ?_)
  | (with_reducible refine' VX.i_nil ?_)
  | (with_reducible refine' VX.i_seq ?_)
  | (with_reducible refine' VX.i_asg ?_)
  | ((with_reducible refine' VX.i_gname ?v2 ?_); (case v2 => (first | (simp only [List.set_cons_zero, List.set_cons_succ]; done) | (simp only [List.set_cons_zero, List.set_cons_succ]; exact rfl) | exact rfl)))
  | (with_reducible refine' VX.i_ifS ?_)
  | (with_reducible refine' VX.i_test ?_)
  | (with_reducible refine' VX.i_tB ?_)
  | (with_reducible refine' VX.i_bl ?_)
  | (with_reducible refine' VX.i_iteT ?_)
  | (with_reducible refine' VX.i_iteF ?_)
  | (with_reducible refine' VX.i_iteNT ?_)
  | (with_reducible refine' VX.i_iteNF ?_)
  | (with_reducible refine' VX.i_and ?_)
  | (with_reducible refine' VX.i_or ?_)
  | (with_reducible refine' VX.i_not ?_)
  | (with_reducible refine' VX.i_call ?_)
  | (with_reducible refine' VX.i_CB ?_)
  | (with_reducible refine' VX.i_make ?_)
  | (with_reducible refine' VX.i_makeK0 ?_)
  | (with_reducible refine' VX.i_mthK ?_)
  | (with_reducible refine' VX.i_mthS ?_)
  | (with_reducible refine' VX.i_meth ?_)
  | ((with_reducible refine' VX.i_ixL ?v1 ?v2 ?_); (case v1 => walk_at "sq"); (case v2 => first | rfl | assumption))
  | ((with_reducible refine' VX.i_ixT ?v1 ?v2 ?_); (case v1 => walk_at "sq"); (case v2 => first | rfl | assumption))
  | ((with_reducible refine' VX.i_setLU ?v2 ?v3 ?_); (case v2 => rfl); (case v3 => rfl))
  | ((with_reducible refine' VX.i_setL ?v1 ?v2 ?v3 ?_); (case v1 => walk_at "lk"); (case v2 => rfl); (case v3 => rfl))
  | (with_reducible refine' VX.i_rI0 ?_)
  | ((with_reducible refine' VX.i_rI ?v1 ?_); (case v1 => walk_at "cc"))
  | (with_reducible refine' VX.i_int ?_)
  | ((with_reducible refine' VX.i_rEqS ?v1 ?_); (case v1 => rfl))
  | ((with_reducible refine' VX.i_rNeS ?v1 ?_); (case v1 => rfl))
  | (with_reducible refine' VX.i_rEqI ?_)
  | (with_reducible refine' VX.i_rNeI ?_)
  | (with_reducible refine' VX.i_max2 ?_)
  | (with_reducible refine' VX.i_min2 ?_)
  | ((with_reducible refine' VX.i_lenL ?v1 ?_); (case v1 => walk_at "sq"))
  | ((with_reducible refine' VX.i_lenT ?v1 ?_); (case v1 => walk_at "sq"))
  | (with_reducible refine' VX.i_chain ?_)
  | (with_reducible refine' VX.i_gsub ?_)
  | (with_reducible refine' VX.i_ret ?_)
  | (with_reducible refine' VX.i_drop ?_)
  | (with_reducible refine' VX.i_next ?_)
  | (with_reducible refine' VX.i_retN ?_)
  | (with_reducible refine' VX.i_andV ?_)
  | (with_reducible refine' VX.i_orV ?_)
  | (with_reducible refine' VX.i_notV ?_)
  | (with_reducible refine' VX.i_ifE ?_)
  | (with_reducible refine' VX.i_un ?_)
  | (with_reducible refine' VX.i_rU ?_)
  | (with_reducible refine' VX.i_tup ?_)
  | (with_reducible refine' VX.i_lst ?_)
  | ((with_reducible refine' VX.i_fldv ?v1 ?v2 ?v3 ?v4 ?v5 ?_); (case v1 => rfl); (case v2 => walk_at "lk"); (case v3 => walk_at "cl"); (case v4 => walk_at "na"); (case v5 => first | rfl | assumption))
  | (with_reducible refine' VX.i_fld ?_)
  | (with_reducible refine' VX.i_sFld ?_)
  | (with_reducible refine' VX.i_mk1 ?_)
  | (with_reducible refine' VX.i_mk1v ?_)
  | (with_reducible refine' VX.i_gnil ?_)
  | (with_reducible refine' VX.i_lc ?_)
  | (with_reducible refine' VX.i_for ?_)
  | (with_reducible refine' VX.i_lstRg ?_)
  | (with_reducible refine' VX.i_rg2 ?_)
  | (with_reducible refine' VX.i_rg2v ?_)
  | (with_reducible refine' VX.i_yes ?_)
  | (with_reducible refine' VX.i_iList ?_)
  | (with_reducible refine' VX.i_iRng1 ?_)
  | (with_reducible refine' VX.i_iRng2 ?_)
  | (with_reducible refine' VX.i_iEnum ?_)
  | (with_reducible refine' VX.i_iZip ?_)
  | (with_reducible refine' VX.i_iOwn ?_)
  | ((with_reducible refine' VX.i_wipe ?v1 ?_); (case v1 => rfl))
  | (with_reducible refine' VX.i_andN ?_)
  | (with_reducible refine' VX.i_iteNDS ?_)
  | (with_reducible refine' VX.i_bm ?_)
  | ((with_reducible refine' VX.i_tyL ?v1 ?_); (case v1 => walk_at "sq"))
  | ((with_reducible refine' VX.i_append ?v1 ?v2 ?_); (case v1 => walk_at "lk"); (case v2 => (simp only [List.length_map, List.length_cons, List.length_nil, List.length_append]; omega)))
  | ((with_reducible refine' VX.i_iteDT ?v1 ?_); (case v1 => rfl))
  | ((with_reducible refine' VX.i_iteDF ?v1 ?_); (case v1 => intro h; cases h))
  | ((with_reducible refine' VX.i_isiD ?v1 ?v2 ?_); (case v1 => walk_at "dp"); (case v2 => decide))
  | ((with_reducible refine' VX.i_iteBT ?v1 ?_); (case v1 => rfl))
  | ((with_reducible refine' VX.i_iteBF ?v1 ?_); (case v1 => rfl))
  | (with_reducible refine' VX.i_gcons ?_)
  | ((with_reducible refine' VX.i_gtup ?v1 ?v2 ?_); (case v1 => walk_at "sq"); (case v2 => rfl)))
local macro_rules | `(tactic| walk_at "vc") => `(tactic| repeat walk_at "vc1")

local macro_rules | `(tactic| walk_at "cl") => `(tactic| exact Txt.cl (by assumption))
local macro_rules | `(tactic| walk_at "na") => `(tactic| exact Txt.nA (by assumption))
def IsCut (C : Addr) (H : Hp) (a : Addr) (ns : List Int) : Prop := ∃ dx l, H a = some (.ins C dx [("_heights", .ref l)]) ∧ H l = some (.lst (ns.map V.int))
theorem IsCut.mono {C : Addr} {H H' : Hp} {a : Addr} {ns : List Int} (c : IsCut C H a ns) (e : Same H H') : IsCut C H' a ns :=
  let ⟨dx, l, h1, h2⟩ := c
  ⟨dx, l, e _ _ h1, e _ _ h2⟩
/-- a cut that was made since H -/
def NewCut (C : Addr) (H H' : Hp) (c : Addr) (ns : List Int) : Prop := ∃ dx l, H c = none ∧ H l = none ∧ H' c = some (.ins C dx [("_heights", .ref l)]) ∧ H' l = some (.lst (ns.map V.int))
theorem NewCut.is {C : Addr} {H H' : Hp} {c : Addr} {ns : List Int} (n : NewCut C H H' c ns) : IsCut C H' c ns :=
  let ⟨dx, l, _, _, h1, h2⟩ := n
  ⟨dx, l, h1, h2⟩
theorem NewCut.keep {C : Addr} {H H' : Hp} {c p : Addr} {o : HO} {ns : List Int} (n : NewCut C H H' c ns) (h : H p = some o) : IsCut C (del H' p) c ns := by
  obtain ⟨dx, l, n1, n2, h1, h2⟩ := n
  have e1 : c ≠ p := fun z => by
    rw [z, h] at n1
    cases n1
  have e2 : l ≠ p := fun z => by
    rw [z, h] at n2
    cases n2
  exact ⟨dx, l, del_of h1 e1, del_of h2 e2⟩
theorem ints_at {ns : List Int} {i : Nat} {z : Int} (h : ns[i]? = some z) : atI (ns.map V.int) (i : Int) = some (.int z) := atI_nat (by rw [List.getElem?_map, h]; rfl)
section
variable {P : Program} {w : World} {K : PySem.W.Frag} {mg : Str → Option Value} {base : Heap} {A : Adr}
/-! ### the error, the cut -/
theorem ok_NoBox_init (T : Txt K mg A) : FnOk P w K mg base CX0 1 A.fN A.dN ["self", "box"] (spX1 K "box") := by
  refine T.F_NoBox_init.ok sc_NoBox_init (fun vs H Q E h => ?_) (fun cdv A' outer s H vs Q E hr h => ?_)
  · obtain ⟨a, C, v, rfl, _⟩ := h
    rfl
  · obtain ⟨a, C, v, rfl, ho, hn, ha, q⟩ := h
    refine ⟨_, pss_one (ps_ost (pv 0) (pv 1)), ?_⟩
    refine ⟨v, rfl, .ref a, rfl, a, C, rfl, ho, hn, .inl ⟨ha, fun dx n1 n2 => ?_⟩⟩
    exact q dx n1 n2
def spInit (C : Addr) (K : PySem.W.Frag) : Sp := fun vs H Q _ => ∃ a r dx xs, vs = [.ref a, .ref r] ∧ H a = some (.ins C dx []) ∧ SqL K H r xs ∧ ∀ l, H l = none → Q .non (upd (upd H l (.lst xs)) a (.ins C dx [("_heights", .ref l)]))
theorem ok_Cut_init (T : Txt K mg A) : FnOk P w K mg base CX0 1 A.fI A.dI ["self", "heights"] (spInit A.C K) := by
  refine T.F_Cut_init.ok sc_Cut_init (fun vs H Q E h => ?_) (fun cdv A' outer s H vs Q E hr h => ?_)
  · obtain ⟨a, r, dx, xs, rfl, _⟩ := h
    rfl
  · obtain ⟨a, r, dx, xs, rfl, ha, hs, q⟩ := h
    refine ⟨_, (pss_one (ps_fld (pv 0) (pe_callTy call_listOf (by rfl) T.n_list (by decide +kernel) (pa_cons (pv 1) pa_nil)) rfl)), ?_⟩
    refine i_start (σ' := [some (V.ref a), some (.ref r)]) rfl ?_
    walk_at "vc"
    refine i_listL hs fun l nl => ?_
    walk_at "vc"
    refine i_sFld1 (by walk_at "lk") T.cl T.nA (by show 0 < 1000; decide) rfl ?_
    exact q l nl
def spHeight (A : Adr) : Sp := fun vs H Q E => ∃ a b ns, vs = [.ref a, .int b] ∧ IsCut A.C H a ns ∧ (∀ z, 0 ≤ b → ns[b.toNat]? = some z → Q (.int z) H) ∧
  ((b < 0 ∨ (ns.length : Int) ≤ b) → ∀ d H', H d = none → Same H H' → H' d = some (.xd [("box", .int b)]) → E (.ref A.N) (some d) H')
theorem ok_Cut_height (T : Txt K mg A) : FnOk P w K mg base (L2.CX P w) 3 A.fH A.dH ["self", "box"] (spHeight A) := by
  refine T.F_Cut_height.okX sc_Cut_height (fun vs H Q E h => ?_) (fun cdv A' outer s H vs Q E hr h => ?_)
  · obtain ⟨a, b, ns, rfl, _⟩ := h
    rfl
  · obtain ⟨a, b, ns, rfl, ⟨dx, l, ha, hl⟩, q1, q2⟩ := h
    refine ⟨_, pss_cons (ps_if (pt_not (pt_chain op_le op_lt pe_int (pv 1) (pe_callB call_lenS (by rfl) T.n_len PySem.boot_len (pa_cons (pe_fld (pv 0) rfl) pa_nil))))
        (pss_one (ps_raise rfl (takes_of rfl rfl rfl rfl) (pmk1 T.oex T.ini T.tI T.nb (ok_NoBox_init T) (hr.mono (by decide)) (b_NoBox_init T) (by rfl) T.g_NoBox (pa_cons (pv 1) pa_nil)))) pss_nil)
      (pss_one (ps_ret (pe_ix ix_list (pe_fld (pv 0) rfl) (pv 1) (fun _ _ => rfl)))), ?_⟩
    refine i_start (σ' := [some (V.ref a), some (.int b)]) rfl ?_
    walk_at "vc"
    refine i_iteD (fun h0 => ?_) (fun h0 => ?_)
    · walk_at "vc"
      rw [List.length_map]
      by_cases h1 : b < (ns.length : Int)
      · rw [decide_eq_true h1]
        walk_at "vc"
        have hb : b.toNat < ns.length := by omega
        have e : ((b.toNat : Nat) : Int) = b := by omega
        refine i_ixL (SqL.of hl) (at_of e.symm (j := b.toNat) (v := .int ns[b.toNat]) (by rw [List.getElem?_map, List.getElem?_eq_getElem hb]; rfl)) ?_
        exact q1 _ h0 (List.getElem?_eq_getElem hb)
      · rw [decide_eq_false h1]
        walk_at "vc"
        exact q2 (by omega)
    · walk_at "vc"
      exact q2 (by omega)
def inside (ns : List Int) (b r : Int) : Bool := decide (0 ≤ b) && (decide (b < (ns.length : Int)) && decide (r ≤ ns.getD b.toNat 0))
def spIn (C : Addr) (K : PySem.W.Frag) : Sp := fun vs H Q _ => ∃ a t b r ns, vs = [.ref a, .ref t] ∧ IsCut C H a ns ∧ SqT K H t [.int b, .int r] ∧ Q (.bl (inside ns b r)) H
theorem ok_Cut_contains (T : Txt K mg A) : FnOk P w K mg base CX0 1 A.fC A.dC ["self", "moment"] (spIn A.C K) := by
  refine T.F_Cut_contains.ok sc_Cut_contains (fun vs H Q E h => ?_) (fun cdv A' outer s H vs Q E hr h => ?_)
  · obtain ⟨a, t, b, r, ns, rfl, _⟩ := h
    rfl
  · obtain ⟨a, t, b, r, ns, rfl, ⟨dx, l, ha, hl⟩, ht, q⟩ := h
    refine ⟨_, (pss_cons (ps_asg (pv 1) (pg_tup rfl (pgs_cons (pg_name (i := 2) sc_Cut_contains.nd rfl (Or.inl rfl)) (pgs_cons (pg_name (i := 3) sc_Cut_contains.nd rfl (Or.inl rfl)) pgs_nil))))
      (pss_one (ps_ret (pe_and (pe_chain op_le op_lt pe_int (pv 2) (pe_callB (r := rLenS K) call_lenS (by rfl) T.n_len PySem.boot_len (pa_cons (pe_fld (pv 0) rfl) pa_nil))) (pe_one (pe_cmpR op_le (pv 3) (pe_ix (r := rIxL K) ix_list (pe_fld (pv 0) rfl) (pv 2) (fun _ _ => rfl)) (nomark _))))))), ?_⟩
    refine i_start (σ' := [some (V.ref a), some (.ref t), none, none]) rfl ?_
    walk_at "vc"
    unfold inside at q
    refine i_iteD (fun h0 => ?_) (fun h0 => ?_)
    · rw [decide_eq_true h0, Bool.true_and] at q
      walk_at "vc"
      rw [List.length_map]
      refine i_iteD (fun h1 => ?_) (fun h1 => ?_)
      · rw [decide_eq_true h1, Bool.true_and] at q
        walk_at "vc"
        have hb : b.toNat < ns.length := by omega
        have e : ((b.toNat : Nat) : Int) = b := by omega
        refine i_ixL (SqL.of hl) (at_of e.symm (j := b.toNat) (v := .int ns[b.toNat]) (by rw [List.getElem?_map, List.getElem?_eq_getElem hb]; rfl)) ?_
        walk_at "vc"
        rw [List.getD_eq_getElem?_getD, List.getElem?_eq_getElem hb] at q
        exact q
      · rw [decide_eq_false h1, Bool.false_and] at q
        exact q
    · rw [decide_eq_false h0, Bool.false_and] at q
      walk_at "vc"
      exact q
theorem ok_Cut_iter (T : Txt K mg A) : FnN P w K mg base CX0 1 A.fIt A.dIt ["self"] (spIter K A.C "_heights") := by
  refine okN T.F_Cut_iter sc_Cut_iter (fun n vs H Q E h => ?_) (fun cdv A' outer s H vs Q E hr h => ?_)
  · obtain ⟨a, dx, fs, l, zs, rfl, _⟩ := h
    rfl
  · obtain ⟨a, dx, fs, l, zs, rfl, ha, hf, hl, q⟩ := h
    refine ⟨_, pss_one (ps_ret (pe_callB ItX.call_iterN (by rfl) T.n_iter (by decide +kernel) (pa_cons (pe_fld (pv 0) rfl) pa_nil))), ?_⟩
    refine i_start (σ' := [some (V.ref a)]) rfl ?_
    walk_at "vc"
    exact ⟨l, zs, rfl, hl, q⟩
/-! ### the law's helpers: cell, pen, take -/
def spCell (K : PySem.W.Frag) : Sp := fun vs H Q _ => ∃ (s : Addr) (k : Int) (ns : List Int), vs = [.ref s, .int k] ∧ SqL K H s (ns.map V.int) ∧ 0 ≤ k ∧ k ≤ 1000 ∧ ∀ z : Int, Q (.int z) H
theorem ok_cell (T : Txt K mg A) : FnOk P w K mg base CX0 1 A.cell A.dcell ["_law_script", "_law_k"] (spCell K) := by
  refine T.F_cell.ok sc_cell (fun vs H Q E h => ?_) (fun cdv A' outer s H vs Q E hr h => ?_)
  · obtain ⟨a, b, ns, rfl, _⟩ := h
    rfl
  · obtain ⟨a, k, ns, rfl, hs, h0, h1, q⟩ := h
    refine ⟨_, (pss_cons (ps_if (pt_cmpR op_lt (pv 1) (pe_callB (r := rLenS K) call_lenS (by rfl) T.n_len PySem.boot_len (pa_cons (pv 0) pa_nil)) (nomark _)) (pss_one (ps_ret (pe_ix (r := rIxL K) ix_list (pv 0) (pv 1) (fun _ _ => rfl)))) pss_nil)
      (pss_one (ps_ret (pe_op op_add (pe_op op_mul pe_int (pv 1)) pe_int)))), ?_⟩
    refine i_start (σ' := [some (V.ref a), some (.int k)]) rfl ?_
    walk_at "vc"
    rw [List.length_map]
    refine i_iteD (fun h2 => ?_) (fun h2 => ?_)
    · walk_at "vc"
      have hb : k.toNat < ns.length := by omega
      have e : ((k.toNat : Nat) : Int) = k := by omega
      refine i_ixL hs (at_of e.symm (j := k.toNat) (v := .int ns[k.toNat]) (by rw [List.getElem?_map, List.getElem?_eq_getElem hb]; rfl)) ?_
      exact q _
    · walk_at "vc"
      exact q _
def spPen (K : PySem.W.Frag) : Sp := fun vs H Q _ => ∃ (s : Addr) (k : Int) (ns : List Int), vs = [.ref s, .int k] ∧ SqL K H s (ns.map V.int) ∧ 0 ≤ k ∧ k ≤ 1000 ∧ ∀ (z : Int) p, H p = none → Q (.ref p) (upd H p (.lst [.int z, .int 0, .int z]))
theorem ok_pen (T : Txt K mg A) : FnOk P w K mg base CX0 2 A.pen A.dpen ["_law_script", "_law_k"] (spPen K) := by
  refine T.F_pen.ok sc_pen (fun vs H Q E h => ?_) (fun cdv A' outer s H vs Q E hr h => ?_)
  · obtain ⟨a, b, ns, rfl, _⟩ := h
    rfl
  · obtain ⟨a, k, ns, rfl, hs, h0, h1, q⟩ := h
    refine ⟨_, (pss_cons (ps_set (i := 2) sc_pen.nd rfl (Or.inl rfl) (pe_call (ok_cell T) (hr.mono (by decide)) (by rfl) T.g_cell T.F_cell.kp (b_cell T) .nil pass0 (pa_cons (pv 0) (pa_cons (pv 1) pa_nil))))
      (pss_one (ps_ret (pe_lst (pa_cons (pv 2) (pa_cons pe_int (pa_cons (pv 2) pa_nil))))))), ?_⟩
    refine i_start (σ' := [some (V.ref a), some (.int k), none]) rfl ?_
    walk_at "vc"
    refine ⟨a, k, ns, rfl, hs, h0, h1, fun z => ?_⟩
    walk_at "vc"
    exact ⟨by show 3 ≤ sizeLine; decide, fun p np => q z p np⟩
def spTake : Sp := fun vs H Q _ => ∃ (p : Addr) (c n r size : Int), vs = [.ref p, .int size] ∧ H p = some (.lst [.int c, .int n, .int r]) ∧ 0 < size ∧ size < 1073741824 ∧ ∀ d n' r', 0 ≤ d → d < size → Q (.int d) (upd H p (.lst [.int c, .int n', .int r']))
theorem ok_take (T : Txt K mg A) : FnOk P w K mg base CX0 1 A.take A.dtake ["_law_pen_here", "_law_size"] spTake := by
  refine T.F_take.ok sc_take (fun vs H Q E h => ?_) (fun cdv A' outer s H vs Q E hr h => ?_)
  · obtain ⟨p, c, n, r, size, rfl, _⟩ := h
    rfl
  · obtain ⟨p, c, n, r, size, rfl, hp, h0, h1, q⟩ := h
    refine ⟨_, (pss_cons (ps_asg (pe_op op_add (pe_ix (r := rIxL K) ix_list (pv 0) pe_int (fun _ _ => rfl)) pe_int) (pg_sub (pv 0) pe_int set_list))
      (pss_cons (ps_if (PW.pt (pw_and (pt_cmpR op_ge (pe_ix (r := rIxL K) ix_list (pv 0) pe_int (fun _ _ => rfl)) (pe_op op_pow pe_int pe_int) (nomark _)) (pw_and1 (pt_cmpR op_gt (pe_ix (r := rIxL K) ix_list (pv 0) pe_int (fun _ _ => rfl)) pe_int (nomark _))))) (pss_cons (ps_set (i := 2) sc_take.nd rfl (Or.inl rfl) (pe_op op_modN (pe_callTy call_int (by rfl) T.n_int (by decide +kernel) (pa_cons (pe_ix (r := rIxL K) ix_list (pv 0) pe_int (fun _ _ => rfl)) pa_nil)) (pv 1)))
      (pss_cons (ps_asg (pe_op op_fdiv (pe_callTy call_int (by rfl) T.n_int (by decide +kernel) (pa_cons (pe_ix (r := rIxL K) ix_list (pv 0) pe_int (fun _ _ => rfl)) pa_nil)) (pv 1)) (pg_sub (pv 0) pe_int set_list))
      (pss_one (ps_ret (pv 2))))) pss_nil)
      (pss_cons (ps_set (i := 3) sc_take.nd rfl (Or.inl rfl) (pe_op op_modN (pe_callTy call_int (by rfl) T.n_int (by decide +kernel) (pa_cons (pe_op op_add (pe_op op_add (pe_ix (r := rIxL K) ix_list (pv 0) pe_int (fun _ _ => rfl)) (pe_op op_mul pe_int (pe_ix (r := rIxL K) ix_list (pv 0) pe_int (fun _ _ => rfl)))) pe_int) pa_nil)) pe_int))
      (pss_cons (ps_set (i := 3) sc_take.nd rfl (Or.inl rfl) (pe_op op_modN (pe_callTy call_int (by rfl) T.n_int (by decide +kernel) (pa_cons (pe_op op_mul (pv 3) (pe_op op_add (pv 3) pe_int)) pa_nil)) pe_int))
      (pss_cons (ps_set (i := 3) sc_take.nd rfl (Or.inl rfl) (pe_op op_modN (pe_callTy call_int (by rfl) T.n_int (by decide +kernel) (pa_cons (pe_op op_add (pe_op op_mul (pv 3) (pe_op op_add (pv 3) pe_int)) (pe_op op_mul pe_int (pe_ix (r := rIxL K) ix_list (pv 0) pe_int (fun _ _ => rfl)))) pa_nil)) pe_int))
      (pss_one (ps_ret (pe_op op_modN (pe_callTy call_int (by rfl) T.n_int (by decide +kernel) (pa_cons (pe_op op_fdiv (pv 3) pe_int) pa_nil)) (pv 1))))))))), ?_⟩
    refine i_start (σ' := [some (V.ref p), some (V.int size), none, none]) rfl ?_
    walk_at "vcA"
    refine i_iteD (fun _ => ?_) (fun _ => ?_)
    · walk_at "vcA"
      refine i_iteD (fun _ => ?_) (fun _ => ?_)
      · walk_at "vcA"
        exact q _ _ _ (by assumption) (by assumption)
      · walk_at "vcA"
        exact q _ _ _ (by assumption) (by assumption)
    · walk_at "vcA"
      exact q _ _ _ (by assumption) (by assumption)
/-- a draw, read -/
theorem i_take {H : Hp} {Q : VK} {E : XK} {p : Addr} {c n r size : Int} (hp : H p = some (.lst [.int c, .int n, .int r])) (h0 : 0 < size) (h1 : size < 1073741824)
    (q : ∀ d n' r', 0 ≤ d → d < size → Q (.int d) (upd H p (.lst [.int c, .int n', .int r']))) : spTake [.ref p, .int size] H Q E := ⟨p, c, n, r, size, rfl, hp, h0, h1, q⟩
end
end K13
set_option maxRecDepth 100000
set_option maxHeartbeats 1000000
namespace K13
open PySem PySem.Spec PyProof.Rows L2 VX
local macro_rules | `(tactic| walk_at "ne") => `(tactic| first
  | assumption
  | exact Ne.symm (by assumption)
  | exact ne_of_none (by assumption) (by assumption)
  | exact Ne.symm (ne_of_none (by assumption) (by assumption))
  | ((with_reducible refine' ne_of_none ?n1 ?n2); (case n2 => assumption); (case n1 => walk_at "lk"))
  | ((with_reducible refine' Ne.symm (ne_of_none ?n1 ?n2)); (case n2 => assumption); (case n1 => walk_at "lk")))
local macro_rules | `(tactic| walk_at "lk") => `(tactic| first
  | assumption
  | (with_reducible exact upd_same)
  | ((with_reducible refine' (upd_ne ?nn).trans ?ll); (case nn => walk_at "ne"); (case ll => walk_at "lk"))
  | ((with_reducible refine' VX.same_at ?nn ?ll); (case nn => assumption); (case ll => walk_at "lk")))
local macro_rules | `(tactic| walk_at "dp") => `(tactic| first
  | assumption
  | (with_reducible exact Dp.non)
  | (with_reducible exact Dp.bl _)
  | (with_reducible exact Dp.int _)
  | (with_reducible exact Dp.str _)
  | ((with_reducible refine' VX.Dp.mono' ?dd (same_new ?nn)); (case nn => assumption); (case dd => walk_at "dp"))
  | ((with_reducible refine' VX.Dp.mono' ?dd ?nn); (case nn => assumption); (case dd => walk_at "dp")))
local macro_rules | `(tactic| walk_at "sq") => `(tactic| first
  | assumption
  | (with_reducible exact SqL.of (by assumption))
  | (with_reducible exact SqT.of (by assumption))
  | ((with_reducible refine' Same.seq (same_new ?nn) ?qq); (case nn => assumption); (case qq => walk_at "sq"))
  | ((with_reducible refine' same_sqT (same_new ?nn) ?qq); (case nn => assumption); (case qq => walk_at "sq"))
  | ((with_reducible refine' Same.seq ?nn ?qq); (case nn => assumption); (case qq => walk_at "sq"))
  | ((with_reducible refine' same_sqT ?nn ?qq); (case nn => assumption); (case qq => walk_at "sq"))
  | ((with_reducible refine' SqL.of ?qq); (case qq => walk_at "lk"))
  | ((with_reducible refine' SqT.of ?qq); (case qq => walk_at "lk")))
local macro_rules | `(tactic| walk_at "cc") => `(tactic| first
  | exact ⟨by decide, by decide, by decide⟩
  | (show _ ≠ _; omega)
  | exact ⟨by omega, by omega⟩
  | exact Or.inl ⟨by omega, by omega⟩
  | exact Or.inr ⟨by omega, by omega⟩)
local macro_rules | `(tactic| walk_at "vcA") => `(tactic| repeat (first
  | ((with_reducible refine' VX.i_modA ?v1 ?_); (case v1 => omega); intro r hr0 hr1)
  | ((with_reducible refine' VX.i_divA ?v1 ?v2 ?_); (case v1 => omega); (case v2 => omega); intro r hr0 hr1)
  | walk_at "vc1"))
local macro_rules | `(tactic| walk_at "vc1") => `(tactic| first
  | ((with_reducible refine' VX.i_var ?v1 ?_); (case v1 => rfl))
  | (with_reducible refine' VX.i_c ?_)
  | (with_reducible refine' VX.i_op ?_)
  | (with_reducible refine' VX.i_cons ?_)
  | (with_reducible refine' VX.i_nil ?_)
  | (with_reducible refine' VX.i_seq ?_)
  | (with_reducible refine' VX.i_asg ?_)
  | ((with_reducible refine' VX.i_gname ?v2 ?_); (case v2 => (first | (simp only [List.set_cons_zero, List.set_cons_succ]; done) | (simp only [List.set_cons_zero, List.set_cons_succ]; exact rfl) | exact rfl)))
  | (with_reducible refine' VX.i_ifS ?_)
  | (with_reducible refine' VX.i_test ?_)
  | (with_reducible refine' VX.i_tB ?_)
  | (with_reducible refine' VX.i_bl ?_)
  | (with_reducible refine' VX.i_iteT ?_)
  | (with_reducible refine' VX.i_iteF ?_)
  | (with_reducible refine' VX.i_iteNT ?_)
  | (with_reducible refine' VX.i_iteNF ?_)
  | (with_reducible refine' VX.i_and ?_)
  | (with_reducible refine' VX.i_or ?_)
  | (with_reducible refine' VX.i_not ?_)
  | (with_reducible refine' VX.i_call ?_)
  | (with_reducible refine' VX.i_CB ?_)
  | (with_reducible refine' VX.i_make ?_)
  | (with_reducible refine' VX.i_makeK0 ?_)
  | (with_reducible refine' VX.i_mthK ?_)
  | (with_reducible refine' VX.i_mthS ?_)
  | (with_reducible refine' VX.i_meth ?_)
  | ((with_reducible refine' VX.i_ixL ?v1 ?v2 ?_); (case v1 => walk_at "sq"); (case v2 => first | rfl | assumption))
  | ((with_reducible refine' VX.i_ixT ?v1 ?v2 ?_); (case v1 => walk_at "sq"); (case v2 => first | rfl | assumption))
  | ((with_reducible refine' VX.i_setLU ?v2 ?v3 ?_); (case v2 => rfl); (case v3 => rfl))
  | ((with_reducible refine' VX.i_setL ?v1 ?v2 ?v3 ?_); (case v1 => walk_at "lk"); (case v2 => rfl); (case v3 => rfl))
  | (with_reducible refine' VX.i_rI0 ?_)
  | ((with_reducible refine' VX.i_rI ?v1 ?_); (case v1 => walk_at "cc"))
  | (with_reducible refine' VX.i_int ?_)
  | ((with_reducible refine' VX.i_rEqS ?v1 ?_); (case v1 => rfl))
  | ((with_reducible refine' VX.i_rNeS ?v1 ?_); (case v1 => rfl))
  | (with_reducible refine' VX.i_rEqI ?_)
  | (with_reducible refine' VX.i_rNeI ?_)
  | (with_reducible refine' VX.i_max2 ?_)
  | (with_reducible refine' VX.i_min2 ?_)
  | ((with_reducible refine' VX.i_lenL ?v1 ?_); (case v1 => walk_at "sq"))
  | ((with_reducible refine' VX.i_lenT ?v1 ?_); (case v1 => walk_at "sq"))
  | (with_reducible refine' VX.i_chain ?_)
  | (with_reducible refine' VX.i_gsub ?_)
  | (with_reducible refine' VX.i_ret ?_)
  | (with_reducible refine' VX.i_drop ?_)
  | (with_reducible refine' VX.i_next ?_)
  | (with_reducible refine' VX.i_retN ?_)
  | (with_reducible refine' VX.i_andV ?_)
  | (with_reducible refine' VX.i_orV ?_)
  | (with_reducible refine' VX.i_notV ?_)
  | (with_reducible refine' VX.i_ifE ?_)
  | (with_reducible refine' VX.i_un ?_)
  | (with_reducible refine' VX.i_rU ?_)
  | (with_reducible refine' VX.i_tup ?_)
  | (with_reducible refine' VX.i_lst ?_)
  | ((with_reducible refine' VX.i_fldv ?v1 ?v2 ?v3 ?v4 ?v5 ?_); (case v1 => rfl); (case v2 => walk_at "lk"); (case v3 => walk_at "cl"); (case v4 => walk_at "na"); (case v5 => first | rfl | assumption))
  | (with_reducible refine' VX.i_fld ?_)
  | (with_reducible refine' VX.i_sFld ?_)
  | (with_reducible refine' VX.i_mk1 ?_)
  | (with_reducible refine' VX.i_mk1v ?_)
  | (with_reducible refine' VX.i_gnil ?_)
  | (with_reducible refine' VX.i_lc ?_)
  | (with_reducible refine' VX.i_for ?_)
  | (with_reducible refine' VX.i_lstRg ?_)
  | (with_reducible refine' VX.i_rg2 ?_)
  | (with_reducible refine' VX.i_rg2v ?_)
  | (with_reducible refine' VX.i_yes ?_)
  | (with_reducible refine' VX.i_iList ?_)
  | (with_reducible refine' VX.i_iRng1 ?_)
  | (with_reducible refine' VX.i_iRng2 ?_)
  | (with_reducible refine' VX.i_iEnum ?_)
  | (with_reducible refine' VX.i_iZip ?_)
  | (with_reducible refine' VX.i_iOwn ?_)
  | ((with_reducible refine' VX.i_wipe ?v1 ?_); (case v1 => rfl))
  | (with_reducible refine' VX.i_andN ?_)
  | (with_reducible refine' VX.i_iteNDS ?_)
  | (with_reducible refine' VX.i_bm ?_)
  | ((with_reducible refine' VX.i_tyL ?v1 ?_); (case v1 => walk_at "sq"))
  | ((with_reducible refine' VX.i_append ?v1 ?v2 ?_); (case v1 => walk_at "lk"); (case v2 => (simp only [List.length_map, List.length_cons, List.length_nil, List.length_append]; omega)))
  | ((with_reducible refine' VX.i_iteDT ?v1 ?_); (case v1 => rfl))
  | ((with_reducible refine' VX.i_iteDF ?v1 ?_); (case v1 => intro h; cases h))
  | ((with_reducible refine' VX.i_isiD ?v1 ?v2 ?_); (case v1 => walk_at "dp"); (case v2 => decide))
  | ((with_reducible refine' VX.i_iteBT ?v1 ?_); (case v1 => rfl))
  | ((with_reducible refine' VX.i_iteBF ?v1 ?_); (case v1 => rfl))
  | (with_reducible refine' VX.i_gcons ?_)
  | ((with_reducible refine' VX.i_gtup ?v1 ?v2 ?_); (case v1 => walk_at "sq"); (case v2 => rfl)))
local macro_rules | `(tactic| walk_at "vc") => `(tactic| repeat walk_at "vc1")

local macro_rules | `(tactic| walk_at "cl") => `(tactic| exact Txt.cl (by assumption))
local macro_rules | `(tactic| walk_at "na") => `(tactic| exact Txt.nA (by assumption))
def mx2 (ns ms : List Int) : List Int := List.zipWith max ns ms
def mn2 (ns ms : List Int) : List Int := List.zipWith min ns ms
def wth (ns ms : List Int) : Bool := ((List.range ns.length).map fun (i : Nat) => inside ms ((i : Nat) : Int) (ns.getD i 0)).all id
section
variable {P : Program} {w : World} {K : PySem.W.Frag} {mg : Str → Option Value} {base : Heap} {A : Adr}
def spWithin (C : Addr) : Sp := fun vs H Q _ => ∃ a b ns ms, vs = [.ref a, .ref b] ∧ IsCut C H a ns ∧ IsCut C H b ms ∧ ns.length ≤ 1000 ∧ ∀ H', Same H H' → Q (.bl (wth ns ms)) H'
theorem ok_Cut_within (T : Txt K mg A) : FnOk P w K mg base CX0 2 A.fW A.dW ["self", "other"] (spWithin A.C) := by
  refine T.F_Cut_within.ok sc_Cut_within (fun vs H Q E h => ?_) (fun cdv A' outer s H vs Q E hr h => ?_)
  · obtain ⟨a, b, ns, ms, rfl, _⟩ := h
    rfl
  · obtain ⟨a, b, ns, ms, rfl, ⟨dx, l, ha, hl⟩, hb, hn, q⟩ := h
    refine ⟨_, (pss_one (ps_ret (pe_callB (cr_all rfl) (by rfl) T.n_all (by decide +kernel) (pa_cons (pe_lc (own := [("box", 2), ("height", 3)]) (g := gTup _ 2 (gCons (gName 2) (gCons (gName 3) gNil))) (tt := tYes) (by rfl) sc_Cut_within.nd (pi_enum (by rfl) T.n_enumerate (pa_cons (pe_fld (pv 0) rfl) pa_nil)) (blkOk_by (N := N_Cut_within) (sc := defScope s_Cut_within) (by decide +kernel)) (fun _ _ _ _ _ => (pg_tup rfl (pgs_cons (pg_name (i := 2) sc_Cut_within.nd rfl (Or.inl rfl)) (pgs_cons (pg_name (i := 3) sc_Cut_within.nd rfl (Or.inl rfl)) pgs_nil)))) (fun _ _ _ _ _ => pts_nil) (fun _ _ _ _ _ => (pe_cmpR (op_inOwn T.s_contains T.i_contains (ok_Cut_contains T) (hr.mono (by decide)) (b_Cut_contains T) pass0) (pe_tup (pa_cons (pv 2) (pa_cons (pv 3) pa_nil))) (pv 1) (by rfl)))) pa_nil)))), ?_⟩
    refine i_start (σ' := [some (V.ref a), some (.ref b), none, none]) rfl ?_
    walk_at "vc"
    refine ⟨l, _, rfl, SqL.of hl, fun D nD => ?_⟩
    refine lc_map (walk_enum (xs := ns.map V.int)) (Same.refl H) nD (by rw [List.length_map]; omega) (fun (i : Nat) => .bl (inside ms ((i : Nat) : Int) (ns.getD i 0))) (fun H1 e => SqL.of (e _ _ hl)) (fun i x H1 H2 hi e y => ?_) fun H1 e hD => ?_
    · obtain ⟨Tp, x1, x2, rfl, nT, rfl, e1, e2⟩ := y
      refine ⟨same_new nT, fun R hR => ?_⟩
      rw [List.length_map] at hi
      cases e1
      have e2 : (ns.map V.int)[i]? = some x2 := e2
      rw [List.getElem?_map, List.getElem?_eq_getElem hi] at e2
      cases e2
      refine i_gtup (SqT.of upd_same) rfl ?_
      walk_at "vc"
      refine ⟨by show 2 ≤ sizeLine; decide, fun q nq => ?_⟩
      walk_at "vc"
      refine ⟨b, _, _, rfl, ((same_new nq) _ _ ((same_new nT) _ _ (e _ _ hb.choose_spec.choose_spec.1))), b, q, _, _, ms, rfl, ((hb.mono e).mono (same_new nT)).mono (same_new nq), SqT.of upd_same, _, rfl, ?_⟩
      rw [List.getD_eq_getElem?_getD, List.getElem?_eq_getElem hi] at hR
      exact hR _ (same_new nq)
    · walk_at "vc"
      refine i_rAll (bs := (List.range ns.length).map fun (i : Nat) => inside ms ((i : Nat) : Int) (ns.getD i 0)) (SqL.of ?_) (q _ e)
      rw [hD, List.length_map, List.map_map]
      rfl
/-! ### | and & -/
def spBin (C : Addr) (f : List Int → List Int → List Int) : Sp := fun vs H Q _ => ∃ a b ns ms, vs = [.ref a, .ref b] ∧ IsCut C H a ns ∧ IsCut C H b ms ∧ ns.length ≤ 1000 ∧ ns.length = ms.length ∧
  ∀ c H', Same H H' → NewCut C H H' c (f ns ms) → Q (.ref c) H'
theorem map_ints (ns : List Int) (n : Nat) (f : Nat → Int) (gs : List Int) (hl : gs.length = n) (h : ∀ i z, gs[i]? = some z → f i = z) : (List.range n).map (fun i => V.int (f i)) = gs.map V.int := by
  subst hl
  have e := range_map_at (xs := gs) (f := f) h
  rw [← e, List.map_map, List.length_map, List.length_range]
  rfl
theorem ok_Cut_or (T : Txt K mg A) : FnOk P w K mg base CX0 3 A.fO A.dO ["self", "other"] (spBin A.C mx2) := by
  refine T.F_Cut_or.ok sc_Cut_or (fun vs H Q E h => ?_) (fun cdv A' outer s H vs Q E hr h => ?_)
  · obtain ⟨a, b, ns, ms, rfl, _⟩ := h
    rfl
  · obtain ⟨a, b, ns, ms, rfl, ⟨dx, l, ha, hl⟩, ⟨dy, k, hb, hk⟩, hn, hm, q⟩ := h
    refine ⟨_, (pss_one (ps_ret (pe_make T.M_Cut (ok_Cut_init T) (hr.mono (by decide)) (by rfl) T.g_Cut (b_Cut_init T) .nil pass0 (pa_cons (pe_lc (own := [("mine", 2), ("yours", 3)]) (g := gTup _ 2 (gCons (gName 2) (gCons (gName 3) gNil))) (tt := tYes) (by rfl) sc_Cut_or.nd (pi_zip (by rfl) T.n_zip (pa_cons (pe_fld (pv 0) rfl) (pa_cons (pe_fld (pv 1) rfl) pa_nil))) (blkOk_by (N := N_Cut_or) (sc := defScope s_Cut_or) (by decide +kernel)) (fun _ _ _ _ _ => (pg_tup rfl (pgs_cons (pg_name (i := 2) sc_Cut_or.nd rfl (Or.inl rfl)) (pgs_cons (pg_name (i := 3) sc_Cut_or.nd rfl (Or.inl rfl)) pgs_nil)))) (fun _ _ _ _ _ => pts_nil) (fun _ _ _ _ _ => (pe_callB (call_mx2 rfl) (by rfl) T.n_max (by decide +kernel) (pa_cons (pv 2) (pa_cons (pv 3) pa_nil))))) pa_nil)))), ?_⟩
    refine i_start (σ' := [some (V.ref a), some (.ref b), none, none]) rfl ?_
    walk_at "vc"
    refine ⟨l, k, _, _, rfl, SqL.of hl, SqL.of hk, fun D nD => ?_⟩
    refine lc_map (walk_zip (xs := ns.map V.int) (ys := ms.map V.int) (n := ns.length) (by rw [List.length_map, List.length_map, ← hm, Nat.min_self])) (Same.refl H) nD (by omega) (fun i => .int (max (ns.getD i 0) (ms.getD i 0)))
      (fun H1 e => ⟨SqL.of (e _ _ hl), SqL.of (e _ _ hk)⟩) (fun i x H1 H2 hi e y => ?_) fun H1 e hD => ?_
    · obtain ⟨Tp, x1, x2, rfl, nT, rfl, e1, e2⟩ := y
      refine ⟨same_new nT, fun R hR => ?_⟩
      have hi2 : i < ms.length := hm ▸ hi
      have e1 : (ns.map V.int)[i]? = some x1 := e1
      have e2 : (ms.map V.int)[i]? = some x2 := e2
      rw [List.getElem?_map, List.getElem?_eq_getElem hi] at e1
      rw [List.getElem?_map, List.getElem?_eq_getElem hi2] at e2
      cases e1
      cases e2
      refine i_gtup (SqT.of upd_same) rfl ?_
      walk_at "vc"
      rw [List.getD_eq_getElem?_getD, List.getElem?_eq_getElem hi, List.getD_eq_getElem?_getD, List.getElem?_eq_getElem hi2] at hR
      exact hR _ (Same.refl _)
    · walk_at "vc"
      intro x dx' nx ndx ne
      have hD' : H1 D = some (.lst ((mx2 ns ms).map V.int)) := by
        rw [hD, map_ints (ns := ns) (gs := mx2 ns ms) (n := ns.length) (f := fun i => max (ns.getD i 0) (ms.getD i 0))]
        · unfold mx2
          rw [List.length_zipWith, ← hm, Nat.min_self]
        · intro i z hz
          unfold mx2 at hz
          rw [List.getElem?_zipWith] at hz
          split at hz
          · rename_i u v hu hv
            cases hz
            rw [List.getD_eq_getElem?_getD, hu, List.getD_eq_getElem?_getD, hv]
            rfl
          · cases hz
      have s1 : Same H1 (upd (upd H1 dx' (.own x)) x (.ins A.C dx' [])) := (same_new ndx).trans (same_new (by rw [upd_ne ne.symm]; exact nx))
      refine ⟨x, D, dx', _, rfl, upd_same, SqL.of (s1 _ _ hD'), fun l2 nl2 => ⟨rfl, ?_⟩⟩
      have nxl : x ≠ l2 := fun z => by
        rw [← z, upd_same] at nl2
        cases nl2
      have n1 : H1 l2 = none := s1.free nl2
      refine q x _ (e.trans fun b o hb => ?_) ⟨dx', l2, e.free nx, e.free n1, upd_same, by rw [upd_ne nxl.symm, upd_same]⟩
      have b1 : b ≠ x := ne_of_none hb nx
      have b2 : b ≠ l2 := ne_of_none hb n1
      have b3 : b ≠ dx' := ne_of_none hb ndx
      rw [upd_ne b1, upd_ne b2, upd_ne b1, upd_ne b3]
      exact hb
theorem ok_Cut_and (T : Txt K mg A) : FnOk P w K mg base CX0 3 A.fA A.dA ["self", "other"] (spBin A.C mn2) := by
  refine T.F_Cut_and.ok sc_Cut_and (fun vs H Q E h => ?_) (fun cdv A' outer s H vs Q E hr h => ?_)
  · obtain ⟨a, b, ns, ms, rfl, _⟩ := h
    rfl
  · obtain ⟨a, b, ns, ms, rfl, ⟨dx, l, ha, hl⟩, ⟨dy, k, hb, hk⟩, hn, hm, q⟩ := h
    refine ⟨_, (pss_one (ps_ret (pe_make T.M_Cut (ok_Cut_init T) (hr.mono (by decide)) (by rfl) T.g_Cut (b_Cut_init T) .nil pass0 (pa_cons (pe_lc (own := [("mine", 2), ("yours", 3)]) (g := gTup _ 2 (gCons (gName 2) (gCons (gName 3) gNil))) (tt := tYes) (by rfl) sc_Cut_and.nd (pi_zip (by rfl) T.n_zip (pa_cons (pe_fld (pv 0) rfl) (pa_cons (pe_fld (pv 1) rfl) pa_nil))) (blkOk_by (N := N_Cut_and) (sc := defScope s_Cut_and) (by decide +kernel)) (fun _ _ _ _ _ => (pg_tup rfl (pgs_cons (pg_name (i := 2) sc_Cut_and.nd rfl (Or.inl rfl)) (pgs_cons (pg_name (i := 3) sc_Cut_and.nd rfl (Or.inl rfl)) pgs_nil)))) (fun _ _ _ _ _ => pts_nil) (fun _ _ _ _ _ => (pe_callB (call_mn2 rfl) (by rfl) T.n_min (by decide +kernel) (pa_cons (pv 2) (pa_cons (pv 3) pa_nil))))) pa_nil)))), ?_⟩
    refine i_start (σ' := [some (V.ref a), some (.ref b), none, none]) rfl ?_
    walk_at "vc"
    refine ⟨l, k, _, _, rfl, SqL.of hl, SqL.of hk, fun D nD => ?_⟩
    refine lc_map (walk_zip (xs := ns.map V.int) (ys := ms.map V.int) (n := ns.length) (by rw [List.length_map, List.length_map, ← hm, Nat.min_self])) (Same.refl H) nD (by omega) (fun i => .int (min (ns.getD i 0) (ms.getD i 0)))
      (fun H1 e => ⟨SqL.of (e _ _ hl), SqL.of (e _ _ hk)⟩) (fun i x H1 H2 hi e y => ?_) fun H1 e hD => ?_
    · obtain ⟨Tp, x1, x2, rfl, nT, rfl, e1, e2⟩ := y
      refine ⟨same_new nT, fun R hR => ?_⟩
      have hi2 : i < ms.length := hm ▸ hi
      have e1 : (ns.map V.int)[i]? = some x1 := e1
      have e2 : (ms.map V.int)[i]? = some x2 := e2
      rw [List.getElem?_map, List.getElem?_eq_getElem hi] at e1
      rw [List.getElem?_map, List.getElem?_eq_getElem hi2] at e2
      cases e1
      cases e2
      refine i_gtup (SqT.of upd_same) rfl ?_
      walk_at "vc"
      rw [List.getD_eq_getElem?_getD, List.getElem?_eq_getElem hi, List.getD_eq_getElem?_getD, List.getElem?_eq_getElem hi2] at hR
      exact hR _ (Same.refl _)
    · walk_at "vc"
      intro x dx' nx ndx ne
      have hD' : H1 D = some (.lst ((mn2 ns ms).map V.int)) := by
        rw [hD, map_ints (ns := ns) (gs := mn2 ns ms) (n := ns.length) (f := fun i => min (ns.getD i 0) (ms.getD i 0))]
        · unfold mn2
          rw [List.length_zipWith, ← hm, Nat.min_self]
        · intro i z hz
          unfold mn2 at hz
          rw [List.getElem?_zipWith] at hz
          split at hz
          · rename_i u v hu hv
            cases hz
            rw [List.getD_eq_getElem?_getD, hu, List.getD_eq_getElem?_getD, hv]
            rfl
          · cases hz
      have s1 : Same H1 (upd (upd H1 dx' (.own x)) x (.ins A.C dx' [])) := (same_new ndx).trans (same_new (by rw [upd_ne ne.symm]; exact nx))
      refine ⟨x, D, dx', _, rfl, upd_same, SqL.of (s1 _ _ hD'), fun l2 nl2 => ⟨rfl, ?_⟩⟩
      have nxl : x ≠ l2 := fun z => by
        rw [← z, upd_same] at nl2
        cases nl2
      have n1 : H1 l2 = none := s1.free nl2
      refine q x _ (e.trans fun b o hb => ?_) ⟨dx', l2, e.free nx, e.free n1, upd_same, by rw [upd_ne nxl.symm, upd_same]⟩
      have b1 : b ≠ x := ne_of_none hb nx
      have b2 : b ≠ l2 := ne_of_none hb n1
      have b3 : b ≠ dx' := ne_of_none hb ndx
      rw [upd_ne b1, upd_ne b2, upd_ne b1, upd_ne b3]
      exact hb
/-! ### == -/
def spEqC (C : Addr) (K : PySem.W.Frag) : Sp := fun vs H Q _ => ∃ a y ns, vs = [.ref a, y] ∧ IsCut C H a ns ∧
  ((∃ b ms, y = V.ref b ∧ IsCut C H b ms ∧ Q (.bl (decide (ns = ms))) H) ∨ (∃ t, TyX K H y (.type t) ∧ t ∈ (["list", "tuple", "NoneType", "int", "bool", "str"] : List String) ∧ Q (.bl false) H))
theorem cut_ty (T : Txt K mg A) {H : Hp} {a : Addr} {ns : List Int} (c : IsCut A.C H a ns) : TyX K H (.ref a) (.ref A.C) :=
  let ⟨dx, l, h1, h2⟩ := c
  .base (.ins h1 T.cl T.ca T.xd.c.hn T.xd.c.ht T.cm)
theorem ok_Cut_eq (T : Txt K mg A) : FnOk P w K mg base CX0 1 A.fE A.dE ["self", "other"] (spEqC A.C K) := by
  refine T.F_Cut_eq.ok sc_Cut_eq (fun vs H Q E h => ?_) (fun cdv A' outer s H vs Q E hr h => ?_)
  · obtain ⟨a, y, ns, rfl, _⟩ := h
    rfl
  · obtain ⟨a, y, ns, rfl, hc, q⟩ := h
    refine ⟨_, (pss_one (ps_ret (pe_and (pe_callB call_isi (by rfl) T.n_isinstance (by decide +kernel) (pa_cons (pv 1) (pa_cons (pe_glob (v := .ref A.C) (by rfl) T.g_Cut rfl) pa_nil))) (pe_one (pe_cmpR (op_eqD hr.units) (pe_fld (pv 0) rfl) (pe_fld (pv 1) rfl) (nomark _)))))), ?_⟩
    refine i_start (σ' := [some (V.ref a), some y]) rfl ?_
    walk_at "vc"
    rcases q with ⟨b, ms, rfl, hb, q⟩ | ⟨t, ht, hm, q⟩
    · refine ⟨_, _, _, _, true, rfl, .own A.C, cut_ty T hb, T.iCC, ?_⟩
      obtain ⟨dx, l, ha, hl⟩ := hc
      obtain ⟨dy, k, hb, hk⟩ := hb
      walk_at "vc"
      exact i_eqInts (SqL.of hl) (SqL.of hk) q
    · refine ⟨_, _, _, _, false, rfl, .own A.C, ht, T.iCt t hm, ?_⟩
      walk_at "vc"
      exact q
end
end K13
set_option maxRecDepth 100000
set_option maxHeartbeats 1000000
namespace K13
open PySem PySem.Spec PyProof.Rows L2 VX
local macro_rules | `(tactic| walk_at "ne") => `(tactic| first
  | assumption
  | exact Ne.symm (by assumption)
  | exact ne_of_none (by assumption) (by assumption)
  | exact Ne.symm (ne_of_none (by assumption) (by assumption))
  | ((with_reducible refine' ne_of_none ?n1 ?n2); (case n2 => assumption); (case n1 => walk_at "lk"))
  | ((with_reducible refine' Ne.symm (ne_of_none ?n1 ?n2)); (case n2 => assumption); (case n1 => walk_at "lk")))
local macro_rules | `(tactic| walk_at "lk") => `(tactic| first
  | assumption
  | (with_reducible exact upd_same)
  | ((with_reducible refine' (upd_ne ?nn).trans ?ll); (case nn => walk_at "ne"); (case ll => walk_at "lk"))
  | ((with_reducible refine' VX.same_at ?nn ?ll); (case nn => assumption); (case ll => walk_at "lk")))
local macro_rules | `(tactic| walk_at "dp") => `(tactic| first
  | assumption
  | (with_reducible exact Dp.non)
  | (with_reducible exact Dp.bl _)
  | (with_reducible exact Dp.int _)
  | (with_reducible exact Dp.str _)
  | ((with_reducible refine' VX.Dp.mono' ?dd (same_new ?nn)); (case nn => assumption); (case dd => walk_at "dp"))
  | ((with_reducible refine' VX.Dp.mono' ?dd ?nn); (case nn => assumption); (case dd => walk_at "dp")))
local macro_rules | `(tactic| walk_at "sq") => `(tactic| first
  | assumption
  | (with_reducible exact SqL.of (by assumption))
  | (with_reducible exact SqT.of (by assumption))
  | ((with_reducible refine' Same.seq (same_new ?nn) ?qq); (case nn => assumption); (case qq => walk_at "sq"))
  | ((with_reducible refine' same_sqT (same_new ?nn) ?qq); (case nn => assumption); (case qq => walk_at "sq"))
  | ((with_reducible refine' Same.seq ?nn ?qq); (case nn => assumption); (case qq => walk_at "sq"))
  | ((with_reducible refine' same_sqT ?nn ?qq); (case nn => assumption); (case qq => walk_at "sq"))
  | ((with_reducible refine' SqL.of ?qq); (case qq => walk_at "lk"))
  | ((with_reducible refine' SqT.of ?qq); (case qq => walk_at "lk")))
local macro_rules | `(tactic| walk_at "cc") => `(tactic| first
  | exact ⟨by decide, by decide, by decide⟩
  | (show _ ≠ _; omega)
  | exact ⟨by omega, by omega⟩
  | exact Or.inl ⟨by omega, by omega⟩
  | exact Or.inr ⟨by omega, by omega⟩)
local macro_rules | `(tactic| walk_at "vcA") => `(tactic| repeat (first
  | ((with_reducible refine' VX.i_modA ?v1 ?_); (case v1 => omega); intro r hr0 hr1)
  | ((with_reducible refine' VX.i_divA ?v1 ?v2 ?_); (case v1 => omega); (case v2 => omega); intro r hr0 hr1)
  | walk_at "vc1"))
local macro_rules | `(tactic| walk_at "vc1") => `(tactic| first
  | ((with_reducible refine' VX.i_var ?v1 ?_); (case v1 => rfl))
  | (with_reducible refine' VX.i_c ?_)
  | (with_reducible refine' VX.i_op ?_)
  | (with_reducible refine' VX.i_cons ?_)
  | (with_reducible refine' VX.i_nil ?_)
  | (with_reducible refine' VX.i_seq ?_)
  | (with_reducible refine' VX.i_asg ?_)
  | ((with_reducible refine' VX.i_gname ?v2 ?_); (case v2 => (first | (simp only [List.set_cons_zero, List.set_cons_succ]; done) | (simp only [List.set_cons_zero, List.set_cons_succ]; exact rfl) | exact rfl)))
  | (with_reducible refine' VX.i_ifS ?_)
  | (with_reducible refine' VX.i_test ?_)
  | (with_reducible refine' VX.i_tB ?_)
  | (with_reducible refine' VX.i_bl ?_)
  | (with_reducible refine' VX.i_iteT ?_)
  | (with_reducible refine' VX.i_iteF ?_)
  | (with_reducible refine' VX.i_iteNT ?_)
  | (with_reducible refine' VX.i_iteNF ?_)
  | (with_reducible refine' VX.i_and ?_)
  | (with_reducible refine' VX.i_or ?_)
  | (with_reducible refine' VX.i_not ?_)
  | (with_reducible refine' VX.i_call ?_)
  | (with_reducible refine' VX.i_CB ?_)
  | (with_reducible refine' VX.i_make ?_)
  | (with_reducible refine' VX.i_makeK0 ?_)
  | (with_reducible refine' VX.i_mthK ?_)
  | (with_reducible refine' VX.i_mthS ?_)
  | (with_reducible refine' VX.i_meth ?_)
  | ((with_reducible refine' VX.i_ixL ?v1 ?v2 ?_); (case v1 => walk_at "sq"); (case v2 => first | rfl | assumption))
  | ((with_reducible refine' VX.i_ixT ?v1 ?v2 ?_); (case v1 => walk_at "sq"); (case v2 => first | rfl | assumption))
  | ((with_reducible refine' VX.i_setLU ?v2 ?v3 ?_); (case v2 => rfl); (case v3 => rfl))
  | ((with_reducible refine' VX.i_setL ?v1 ?v2 ?v3 ?_); (case v1 => walk_at "lk"); (case v2 => rfl); (case v3 => rfl))
  | (with_reducible refine' VX.i_rI0 ?_)
  | ((with_reducible refine' VX.i_rI ?v1 ?_); (case v1 => walk_at "cc"))
  | (with_reducible refine' VX.i_int ?_)
  | ((with_reducible refine' VX.i_rEqS ?v1 ?_); (case v1 => rfl))
  | ((with_reducible refine' VX.i_rNeS ?v1 ?_); (case v1 => rfl))
  | (with_reducible refine' VX.i_rEqI ?_)
  | (with_reducible refine' VX.i_rNeI ?_)
  | (with_reducible refine' VX.i_max2 ?_)
  | (with_reducible refine' VX.i_min2 ?_)
  | ((with_reducible refine' VX.i_lenL ?v1 ?_); (case v1 => walk_at "sq"))
  | ((with_reducible refine' VX.i_lenT ?v1 ?_); (case v1 => walk_at "sq"))
  | (with_reducible refine' VX.i_chain ?_)
  | (with_reducible refine' VX.i_gsub ?_)
  | (with_reducible refine' VX.i_ret ?_)
  | (with_reducible refine' VX.i_drop ?_)
  | (with_reducible refine' VX.i_next ?_)
  | (with_reducible refine' VX.i_retN ?_)
  | (with_reducible refine' VX.i_andV ?_)
  | (with_reducible refine' VX.i_orV ?_)
  | (with_reducible refine' VX.i_notV ?_)
  | (with_reducible refine' VX.i_ifE ?_)
  | (with_reducible refine' VX.i_un ?_)
  | (with_reducible refine' VX.i_rU ?_)
  | (with_reducible refine' VX.i_tup ?_)
  | (with_reducible refine' VX.i_lst ?_)
  | ((with_reducible refine' VX.i_fldv ?v1 ?v2 ?v3 ?v4 ?v5 ?_); (case v1 => rfl); (case v2 => walk_at "lk"); (case v3 => walk_at "cl"); (case v4 => walk_at "na"); (case v5 => first | rfl | assumption))
  | (with_reducible refine' VX.i_fld ?_)
  | (with_reducible refine' VX.i_sFld ?_)
  | (with_reducible refine' VX.i_mk1 ?_)
  | (with_reducible refine' VX.i_mk1v ?_)
  | (with_reducible refine' VX.i_gnil ?_)
  | (with_reducible refine' VX.i_lc ?_)
  | (with_reducible refine' VX.i_for ?_)
  | (with_reducible refine' VX.i_lstRg ?_)
  | (with_reducible refine' VX.i_rg2 ?_)
  | (with_reducible refine' VX.i_rg2v ?_)
  | (with_reducible refine' VX.i_yes ?_)
  | (with_reducible refine' VX.i_iList ?_)
  | (with_reducible refine' VX.i_iRng1 ?_)
  | (with_reducible refine' VX.i_iRng2 ?_)
  | (with_reducible refine' VX.i_iEnum ?_)
  | (with_reducible refine' VX.i_iZip ?_)
  | (with_reducible refine' VX.i_iOwn ?_)
  | ((with_reducible refine' VX.i_wipe ?v1 ?_); (case v1 => rfl))
  | (with_reducible refine' VX.i_andN ?_)
  | (with_reducible refine' VX.i_iteNDS ?_)
  | (with_reducible refine' VX.i_bm ?_)
  | ((with_reducible refine' VX.i_tyL ?v1 ?_); (case v1 => walk_at "sq"))
  | ((with_reducible refine' VX.i_append ?v1 ?v2 ?_); (case v1 => walk_at "lk"); (case v2 => (simp only [List.length_map, List.length_cons, List.length_nil, List.length_append]; omega)))
  | ((with_reducible refine' VX.i_iteDT ?v1 ?_); (case v1 => rfl))
  | ((with_reducible refine' VX.i_iteDF ?v1 ?_); (case v1 => intro h; cases h))
  | ((with_reducible refine' VX.i_isiD ?v1 ?v2 ?_); (case v1 => walk_at "dp"); (case v2 => decide))
  | ((with_reducible refine' VX.i_iteBT ?v1 ?_); (case v1 => rfl))
  | ((with_reducible refine' VX.i_iteBF ?v1 ?_); (case v1 => rfl))
  | (with_reducible refine' VX.i_gcons ?_)
  | ((with_reducible refine' VX.i_gtup ?v1 ?v2 ?_); (case v1 => walk_at "sq"); (case v2 => rfl)))
local macro_rules | `(tactic| walk_at "vc") => `(tactic| repeat walk_at "vc1")

local macro_rules | `(tactic| walk_at "cl") => `(tactic| exact Txt.cl (by assumption))
local macro_rules | `(tactic| walk_at "na") => `(tactic| exact Txt.nA (by assumption))
section
variable {P : Program} {w : World} {K : PySem.W.Frag} {mg : Str → Option Value} {base : Heap} {A : Adr}
/-! ### same: of two that say the same -/
def spS (K : PySem.W.Frag) (n : Nat) : Sp := fun vs H Q _ => ∃ x y d, vs = [x, y] ∧ Dp K H x d ∧ Dp K H y d ∧ dep d < n ∧ nar 1000 d = true ∧ ∀ H', Same H H' → Q (.bl true) H'
theorem all_true (n : Nat) : ((List.range n).map fun _ => true).all id = true := by
  rw [List.all_eq_true]
  intro x hx
  obtain ⟨_, _, rfl⟩ := List.mem_map.mp hx
  rfl
theorem same_step (T : Txt K mg A) {n : Nat} (IH : FnOk P w K mg base CX0 n A.same A.dsame ["_law_actual", "_law_due"] (spS K n)) : FnOk P w K mg base CX0 (n + 1) A.same A.dsame ["_law_actual", "_law_due"] (spS K (n + 1)) := by
  refine T.F_same.ok sc_same (fun vs H Q E h => ?_) (fun cdv A' outer s H vs Q E hr h => ?_)
  · obtain ⟨x, y, d, rfl, _⟩ := h
    rfl
  · obtain ⟨x, y, d, rfl, hx, hy, hd, hn, q⟩ := h
    refine ⟨_, (pss_cons (ps_if (pt_cmpR op_isN (pv 1) pe_non (nomark _)) (pss_one (ps_ret (pe_cmpR op_isN (pv 0) pe_non (nomark _)))) pss_nil)
      (pss_cons (ps_if (PW.pt (pw_or (pt_cmpR op_ne (pe_callB call_isi (by rfl) T.n_isinstance (by decide +kernel) (pa_cons (pv 0) (pa_cons (pe_bltn (v := .ty "bool") (by rfl) T.n_bool (by decide +kernel) rfl) pa_nil))) (pe_callB call_isi (by rfl) T.n_isinstance (by decide +kernel) (pa_cons (pv 1) (pa_cons (pe_bltn (v := .ty "bool") (by rfl) T.n_bool (by decide +kernel) rfl) pa_nil))) (nomark _)) (pw_or1 (pt_cmpR op_ne (pe_callB call_isi (by rfl) T.n_isinstance (by decide +kernel) (pa_cons (pv 0) (pa_cons (pe_bltn (v := .ty "str") (by rfl) T.n_str (by decide +kernel) rfl) pa_nil))) (pe_callB call_isi (by rfl) T.n_isinstance (by decide +kernel) (pa_cons (pv 1) (pa_cons (pe_bltn (v := .ty "str") (by rfl) T.n_str (by decide +kernel) rfl) pa_nil))) (nomark _))))) (pss_one (ps_ret pe_bl)) pss_nil)
      (pss_cons (ps_if (PW.pt (pw_or (pt_cmpR op_ne (pe_callB call_isi (by rfl) T.n_isinstance (by decide +kernel) (pa_cons (pv 0) (pa_cons (pe_bltn (v := .ty "list") (by rfl) T.n_list (by decide +kernel) rfl) pa_nil))) (pe_callB call_isi (by rfl) T.n_isinstance (by decide +kernel) (pa_cons (pv 1) (pa_cons (pe_bltn (v := .ty "list") (by rfl) T.n_list (by decide +kernel) rfl) pa_nil))) (nomark _)) (pw_or1 (pt_cmpR op_ne (pe_callB call_isi (by rfl) T.n_isinstance (by decide +kernel) (pa_cons (pv 0) (pa_cons (pe_bltn (v := .ty "tuple") (by rfl) T.n_tuple (by decide +kernel) rfl) pa_nil))) (pe_callB call_isi (by rfl) T.n_isinstance (by decide +kernel) (pa_cons (pv 1) (pa_cons (pe_bltn (v := .ty "tuple") (by rfl) T.n_tuple (by decide +kernel) rfl) pa_nil))) (nomark _))))) (pss_one (ps_ret pe_bl)) pss_nil)
      (pss_cons (ps_if (pt_val (pe_callB call_isiT (by rfl) T.n_isinstance (by decide +kernel) (pa_cons (pv 1) (pa_cons (pe_tup (pa_cons (pe_bltn (v := .ty "bool") (by rfl) T.n_bool (by decide +kernel) rfl) (pa_cons (pe_bltn (v := .ty "int") (by rfl) T.n_int (by decide +kernel) rfl) (pa_cons (pe_bltn (v := .ty "str") (by rfl) T.n_str (by decide +kernel) rfl) pa_nil)))) pa_nil)))) (pss_one (ps_ret (pe_and (pe_callB call_isiT (by rfl) T.n_isinstance (by decide +kernel) (pa_cons (pv 0) (pa_cons (pe_tup (pa_cons (pe_bltn (v := .ty "bool") (by rfl) T.n_bool (by decide +kernel) rfl) (pa_cons (pe_bltn (v := .ty "int") (by rfl) T.n_int (by decide +kernel) rfl) (pa_cons (pe_bltn (v := .ty "str") (by rfl) T.n_str (by decide +kernel) rfl) pa_nil)))) pa_nil))) (pe_one (pe_cmpR op_eq (pv 0) (pv 1) (nomark _)))))) pss_nil)
      (pss_one (ps_ret (pe_and (pe_cmpR op_eq (pe_callB (r := rLenS K) call_lenS (by rfl) T.n_len PySem.boot_len (pa_cons (pv 0) pa_nil)) (pe_callB (r := rLenS K) call_lenS (by rfl) T.n_len PySem.boot_len (pa_cons (pv 1) pa_nil)) (nomark _)) (pe_one (pe_callB (cr_all rfl) (by rfl) T.n_all (by decide +kernel) (pa_cons (pe_lc (own := [("_law_at", 2)]) (g := gName 2) (tt := tYes) (by rfl) sc_same.nd (pi_range1 (by rfl) T.n_range (pa_cons (pe_callB (r := rLenS K) call_lenS (by rfl) T.n_len PySem.boot_len (pa_cons (pv 1) pa_nil)) pa_nil)) (blkOk_by (N := N_same) (sc := defScope s_same) (by decide +kernel)) (fun _ _ _ _ _ => (pg_name (i := 2) sc_same.nd rfl (Or.inl rfl))) (fun _ _ _ _ _ => pts_nil) (fun _ _ _ _ _ => (pe_call IH hr (by rfl) T.g_same T.F_same.kp (b_same T) .nil pass0 (pa_cons (pe_ix (r := rIx K) ix_seq (pv 0) (pv 2) (fun _ _ => rfl)) (pa_cons (pe_ix (r := rIx K) ix_seq (pv 1) (pv 2) (fun _ _ => rfl)) pa_nil))))) pa_nil)))))))))), ?_⟩
    refine i_start (σ' := [some x, some y, none]) rfl ?_
    cases d with
    | none =>
      cases hx
      cases hy
      walk_at "vc"
      exact q _ (Same.refl _)
    | bool b =>
      cases hx
      cases hy
      walk_at "vc"
      refine ⟨lenB rfl, fun p np => ?_⟩
      walk_at "vc"
      refine i_isiTD ["bool", "int", "str"] (by walk_at "dp") upd_same (by decide) ?_
      walk_at "vc"
      refine ⟨lenB rfl, fun p2 np2 => ?_⟩
      walk_at "vc"
      refine i_isiTD ["bool", "int", "str"] (by walk_at "dp") upd_same (by decide) ?_
      walk_at "vc"
      exact q _ ((same_new np).trans (same_new np2))
    | int b =>
      cases hx
      cases hy
      walk_at "vc"
      refine ⟨lenB rfl, fun p np => ?_⟩
      walk_at "vc"
      refine i_isiTD ["bool", "int", "str"] (by walk_at "dp") upd_same (by decide) ?_
      walk_at "vc"
      refine ⟨lenB rfl, fun p2 np2 => ?_⟩
      walk_at "vc"
      refine i_isiTD ["bool", "int", "str"] (by walk_at "dp") upd_same (by decide) ?_
      walk_at "vc"
      exact q _ ((same_new np).trans (same_new np2))
    | str b =>
      cases hx
      cases hy
      walk_at "vc"
      refine ⟨lenB rfl, fun p np => ?_⟩
      walk_at "vc"
      refine i_isiTD ["bool", "int", "str"] (by walk_at "dp") upd_same (by decide) ?_
      walk_at "vc"
      refine ⟨lenB rfl, fun p2 np2 => ?_⟩
      walk_at "vc"
      refine i_isiTD ["bool", "int", "str"] (by walk_at "dp") upd_same (by decide) ?_
      walk_at "vc"
      exact q _ ((same_new np).trans (same_new np2))
    | list ds =>
      cases hx with
      | lst hs ha =>
      cases hy with
      | lst ht hb =>
      rename_i a xs b ys
      have n1 : ds.length ≤ 1000 ∧ narAll 1000 ds = true := by
        have hn : (decide (ds.length ≤ 1000) && narAll 1000 ds) = true := hn
        exact ⟨of_decide_eq_true (Bool.and_eq_true_iff.mp hn).1, (Bool.and_eq_true_iff.mp hn).2⟩
      have px : Dp K H (.ref a) (.list ds) := .lst hs ha
      have py : Dp K H (.ref b) (.list ds) := .lst ht hb
      have l1 := dpa_len ha
      have l2 := dpa_len hb
      walk_at "vc"
      refine ⟨lenB rfl, fun p np => ?_⟩
      walk_at "vc"
      refine i_isiTD ["bool", "int", "str"] (by exact Dp.mono' (.lst ht hb) (same_new np)) upd_same (by decide) ?_
      walk_at "vc"
      rw [l1, l2]
      walk_at "vc"
      refine ⟨(ds.length : Int), by rw [l2], by omega, by omega, fun D nD => ?_⟩
      refine lc_map (walk_range (lo := 0) (n := ds.length)) (same_new np) nD (by omega) (fun _ => .bl true) (fun _ _ => trivial) (fun i x H1 H2 hi e y => ?_) fun H1 e hD => ?_
      · obtain ⟨rfl, rfl⟩ := y
        refine ⟨Same.refl _, fun R hR => ?_⟩
        obtain ⟨d, hdi⟩ : ∃ d, ds[i]? = some d := ⟨_, List.getElem?_eq_getElem hi⟩
        obtain ⟨v1, g1, p1⟩ := dpa_get ha hdi
        obtain ⟨v2, g2, p2⟩ := dpa_get hb hdi
        have eH : Same H H2 := e
        walk_at "vc"
        refine i_rixL (Same.seq eH hs) (at_of (Int.zero_add _) g1) ?_
        walk_at "vc"
        refine i_rixL (Same.seq eH ht) (at_of (Int.zero_add _) g2) ?_
        walk_at "vc"
        refine ⟨v1, v2, d, rfl, Dp.mono' p1 eH, Dp.mono' p2 eH, ?_, nar_get n1.2 hdi, fun H' e' => hR H' e'⟩
        have hd : depAll ds + 1 < n + 1 := hd
        exact Nat.lt_of_le_of_lt (dep_get hdi) (by omega)
      · walk_at "vc"
        refine i_rAll (bs := (List.range ds.length).map fun _ => true) (SqL.of ?_) ?_
        · rw [hD, List.map_map]
          rfl
        · rw [all_true]
          exact q _ e
    | tuple ds =>
      cases hx with
      | tup hs ha =>
      cases hy with
      | tup ht hb =>
      rename_i a xs b ys
      have n1 : ds.length ≤ 1000 ∧ narAll 1000 ds = true := by
        have hn : (decide (ds.length ≤ 1000) && narAll 1000 ds) = true := hn
        exact ⟨of_decide_eq_true (Bool.and_eq_true_iff.mp hn).1, (Bool.and_eq_true_iff.mp hn).2⟩
      have px : Dp K H (.ref a) (.tuple ds) := .tup hs ha
      have py : Dp K H (.ref b) (.tuple ds) := .tup ht hb
      have l1 := dpa_len ha
      have l2 := dpa_len hb
      walk_at "vc"
      refine ⟨lenB rfl, fun p np => ?_⟩
      walk_at "vc"
      refine i_isiTD ["bool", "int", "str"] (by exact Dp.mono' (.tup ht hb) (same_new np)) upd_same (by decide) ?_
      walk_at "vc"
      rw [l1, l2]
      walk_at "vc"
      refine ⟨(ds.length : Int), by rw [l2], by omega, by omega, fun D nD => ?_⟩
      refine lc_map (walk_range (lo := 0) (n := ds.length)) (same_new np) nD (by omega) (fun _ => .bl true) (fun _ _ => trivial) (fun i x H1 H2 hi e y => ?_) fun H1 e hD => ?_
      · obtain ⟨rfl, rfl⟩ := y
        refine ⟨Same.refl _, fun R hR => ?_⟩
        obtain ⟨d, hdi⟩ : ∃ d, ds[i]? = some d := ⟨_, List.getElem?_eq_getElem hi⟩
        obtain ⟨v1, g1, p1⟩ := dpa_get ha hdi
        obtain ⟨v2, g2, p2⟩ := dpa_get hb hdi
        have eH : Same H H2 := e
        walk_at "vc"
        refine i_rixT (same_sqT eH hs) (at_of (Int.zero_add _) g1) ?_
        walk_at "vc"
        refine i_rixT (same_sqT eH ht) (at_of (Int.zero_add _) g2) ?_
        walk_at "vc"
        refine ⟨v1, v2, d, rfl, Dp.mono' p1 eH, Dp.mono' p2 eH, ?_, nar_get n1.2 hdi, fun H' e' => hR H' e'⟩
        have hd : depAll ds + 1 < n + 1 := hd
        exact Nat.lt_of_le_of_lt (dep_get hdi) (by omega)
      · walk_at "vc"
        refine i_rAll (bs := (List.range ds.length).map fun _ => true) (SqL.of ?_) ?_
        · rw [hD, List.map_map]
          rfl
        · rw [all_true]
          exact q _ e
    | dict _ => cases hx
theorem ok_sameN (T : Txt K mg A) : ∀ n : Nat, FnOk P w K mg base CX0 n A.same A.dsame ["_law_actual", "_law_due"] (spS K n)
  | 0 => ⟨fun _ _ _ _ h => (let ⟨_, _, _, _, _, _, h, _⟩ := h; absurd h (Nat.not_lt_zero _)), fun _ _ _ _ _ _ _ _ _ _ _ _ _ h => (let ⟨_, _, _, _, _, _, h, _⟩ := h; absurd h (Nat.not_lt_zero _))⟩
  | n + 1 => same_step T (ok_sameN T n)
theorem ok_same (T : Txt K mg A) : FnOk P w K mg base CX0 4 A.same A.dsame ["_law_actual", "_law_due"] (spS K 4) := ok_sameN T 4
end
end K13
set_option maxRecDepth 100000
set_option maxHeartbeats 1000000
namespace K13
open PySem PySem.Spec PyProof.Rows L2 VX
local macro_rules | `(tactic| walk_at "ne") => `(tactic| first
  | assumption
  | exact Ne.symm (by assumption)
  | exact ne_of_none (by assumption) (by assumption)
  | exact Ne.symm (ne_of_none (by assumption) (by assumption))
  | ((with_reducible refine' ne_of_none ?n1 ?n2); (case n2 => assumption); (case n1 => walk_at "lk"))
  | ((with_reducible refine' Ne.symm (ne_of_none ?n1 ?n2)); (case n2 => assumption); (case n1 => walk_at "lk")))
local macro_rules | `(tactic| walk_at "lk") => `(tactic| first
  | assumption
  | (with_reducible exact upd_same)
  | ((with_reducible refine' (upd_ne ?nn).trans ?ll); (case nn => walk_at "ne"); (case ll => walk_at "lk"))
  | ((with_reducible refine' VX.same_at ?nn ?ll); (case nn => assumption); (case ll => walk_at "lk")))
local macro_rules | `(tactic| walk_at "dp") => `(tactic| first
  | assumption
  | (with_reducible exact Dp.non)
  | (with_reducible exact Dp.bl _)
  | (with_reducible exact Dp.int _)
  | (with_reducible exact Dp.str _)
  | ((with_reducible refine' VX.Dp.mono' ?dd (same_new ?nn)); (case nn => assumption); (case dd => walk_at "dp"))
  | ((with_reducible refine' VX.Dp.mono' ?dd ?nn); (case nn => assumption); (case dd => walk_at "dp")))
local macro_rules | `(tactic| walk_at "sq") => `(tactic| first
  | assumption
  | (with_reducible exact SqL.of (by assumption))
  | (with_reducible exact SqT.of (by assumption))
  | ((with_reducible refine' Same.seq (same_new ?nn) ?qq); (case nn => assumption); (case qq => walk_at "sq"))
  | ((with_reducible refine' same_sqT (same_new ?nn) ?qq); (case nn => assumption); (case qq => walk_at "sq"))
  | ((with_reducible refine' Same.seq ?nn ?qq); (case nn => assumption); (case qq => walk_at "sq"))
  | ((with_reducible refine' same_sqT ?nn ?qq); (case nn => assumption); (case qq => walk_at "sq"))
  | ((with_reducible refine' SqL.of ?qq); (case qq => walk_at "lk"))
  | ((with_reducible refine' SqT.of ?qq); (case qq => walk_at "lk")))
local macro_rules | `(tactic| walk_at "cc") => `(tactic| first
  | exact ⟨by decide, by decide, by decide⟩
  | (show _ ≠ _; omega)
  | exact ⟨by omega, by omega⟩
  | exact Or.inl ⟨by omega, by omega⟩
  | exact Or.inr ⟨by omega, by omega⟩)
local macro_rules | `(tactic| walk_at "vcA") => `(tactic| repeat (first
  | ((with_reducible refine' VX.i_modA ?v1 ?_); (case v1 => omega); intro r hr0 hr1)
  | ((with_reducible refine' VX.i_divA ?v1 ?v2 ?_); (case v1 => omega); (case v2 => omega); intro r hr0 hr1)
  | walk_at "vc1"))
local macro_rules | `(tactic| walk_at "vc1") => `(tactic| first
  | ((with_reducible refine' VX.i_var ?v1 ?_); (case v1 => rfl))
  | (with_reducible refine' VX.i_c ?_)
  | (with_reducible refine' VX.i_op ?_)
  | (with_reducible refine' VX.i_cons ?_)
  | (with_reducible refine' VX.i_nil ?_)
  | (with_reducible refine' VX.i_seq ?_)
  | (with_reducible refine' VX.i_asg ?_)
  | ((with_reducible refine' VX.i_gname ?v2 ?_); (case v2 => (first | (simp only [List.set_cons_zero, List.set_cons_succ]; done) | (simp only [List.set_cons_zero, List.set_cons_succ]; exact rfl) | exact rfl)))
  | (with_reducible refine' VX.i_ifS ?_)
  | (with_reducible refine' VX.i_test ?_)
  | (with_reducible refine' VX.i_tB ?_)
  | (with_reducible refine' VX.i_bl ?_)
  | (with_reducible refine' VX.i_iteT ?_)
  | (with_reducible refine' VX.i_iteF ?_)
  | (with_reducible refine' VX.i_iteNT ?_)
  | (with_reducible refine' VX.i_iteNF ?_)
  | (with_reducible refine' VX.i_and ?_)
  | (with_reducible refine' VX.i_or ?_)
  | (with_reducible refine' VX.i_not ?_)
  | (with_reducible refine' VX.i_call ?_)
  | (with_reducible refine' VX.i_CB ?_)
  | (with_reducible refine' VX.i_make ?_)
  | (with_reducible refine' VX.i_makeK0 ?_)
  | (with_reducible refine' VX.i_mthK ?_)
  | (with_reducible refine' VX.i_mthS ?_)
  | (with_reducible refine' VX.i_meth ?_)
  | ((with_reducible refine' VX.i_ixL ?v1 ?v2 ?_); (case v1 => walk_at "sq"); (case v2 => first | rfl | assumption))
  | ((with_reducible refine' VX.i_ixT ?v1 ?v2 ?_); (case v1 => walk_at "sq"); (case v2 => first | rfl | assumption))
  | ((with_reducible refine' VX.i_setLU ?v2 ?v3 ?_); (case v2 => rfl); (case v3 => rfl))
  | ((with_reducible refine' VX.i_setL ?v1 ?v2 ?v3 ?_); (case v1 => walk_at "lk"); (case v2 => rfl); (case v3 => rfl))
  | (with_reducible refine' VX.i_rI0 ?_)
  | ((with_reducible refine' VX.i_rI ?v1 ?_); (case v1 => walk_at "cc"))
  | (with_reducible refine' VX.i_int ?_)
  | ((with_reducible refine' VX.i_rEqS ?v1 ?_); (case v1 => rfl))
  | ((with_reducible refine' VX.i_rNeS ?v1 ?_); (case v1 => rfl))
  | (with_reducible refine' VX.i_rEqI ?_)
  | (with_reducible refine' VX.i_rNeI ?_)
  | (with_reducible refine' VX.i_max2 ?_)
  | (with_reducible refine' VX.i_min2 ?_)
  | ((with_reducible refine' VX.i_lenL ?v1 ?_); (case v1 => walk_at "sq"))
  | ((with_reducible refine' VX.i_lenT ?v1 ?_); (case v1 => walk_at "sq"))
  | (with_reducible refine' VX.i_chain ?_)
  | (with_reducible refine' VX.i_gsub ?_)
  | (with_reducible refine' VX.i_ret ?_)
  | (with_reducible refine' VX.i_drop ?_)
  | (with_reducible refine' VX.i_next ?_)
  | (with_reducible refine' VX.i_retN ?_)
  | (with_reducible refine' VX.i_andV ?_)
  | (with_reducible refine' VX.i_orV ?_)
  | (with_reducible refine' VX.i_notV ?_)
  | (with_reducible refine' VX.i_ifE ?_)
  | (with_reducible refine' VX.i_un ?_)
  | (with_reducible refine' VX.i_rU ?_)
  | (with_reducible refine' VX.i_tup ?_)
  | (with_reducible refine' VX.i_lst ?_)
  | ((with_reducible refine' VX.i_fldv ?v1 ?v2 ?v3 ?v4 ?v5 ?_); (case v1 => rfl); (case v2 => walk_at "lk"); (case v3 => walk_at "cl"); (case v4 => walk_at "na"); (case v5 => first | rfl | assumption))
  | (with_reducible refine' VX.i_fld ?_)
  | (with_reducible refine' VX.i_sFld ?_)
  | (with_reducible refine' VX.i_mk1 ?_)
  | (with_reducible refine' VX.i_mk1v ?_)
  | (with_reducible refine' VX.i_gnil ?_)
  | (with_reducible refine' VX.i_lc ?_)
  | (with_reducible refine' VX.i_for ?_)
  | (with_reducible refine' VX.i_lstRg ?_)
  | (with_reducible refine' VX.i_rg2 ?_)
  | (with_reducible refine' VX.i_rg2v ?_)
  | (with_reducible refine' VX.i_yes ?_)
  | (with_reducible refine' VX.i_iList ?_)
  | (with_reducible refine' VX.i_iRng1 ?_)
  | (with_reducible refine' VX.i_iRng2 ?_)
  | (with_reducible refine' VX.i_iEnum ?_)
  | (with_reducible refine' VX.i_iZip ?_)
  | (with_reducible refine' VX.i_iOwn ?_)
  | ((with_reducible refine' VX.i_wipe ?v1 ?_); (case v1 => rfl))
  | (with_reducible refine' VX.i_andN ?_)
  | (with_reducible refine' VX.i_iteNDS ?_)
  | (with_reducible refine' VX.i_bm ?_)
  | ((with_reducible refine' VX.i_tyL ?v1 ?_); (case v1 => walk_at "sq"))
  | ((with_reducible refine' VX.i_append ?v1 ?v2 ?_); (case v1 => walk_at "lk"); (case v2 => (simp only [List.length_map, List.length_cons, List.length_nil, List.length_append]; omega)))
  | ((with_reducible refine' VX.i_iteDT ?v1 ?_); (case v1 => rfl))
  | ((with_reducible refine' VX.i_iteDF ?v1 ?_); (case v1 => intro h; cases h))
  | ((with_reducible refine' VX.i_isiD ?v1 ?v2 ?_); (case v1 => walk_at "dp"); (case v2 => decide))
  | ((with_reducible refine' VX.i_iteBT ?v1 ?_); (case v1 => rfl))
  | ((with_reducible refine' VX.i_iteBF ?v1 ?_); (case v1 => rfl))
  | (with_reducible refine' VX.i_gcons ?_)
  | ((with_reducible refine' VX.i_gtup ?v1 ?v2 ?_); (case v1 => walk_at "sq"); (case v2 => rfl)))
local macro_rules | `(tactic| walk_at "vc") => `(tactic| repeat walk_at "vc1")

local macro_rules | `(tactic| walk_at "cl") => `(tactic| exact Txt.cl (by assumption))
local macro_rules | `(tactic| walk_at "na") => `(tactic| exact Txt.nA (by assumption))
abbrev pen (c n r : Int) : HO := .lst [.int c, .int n, .int r]
section
variable {P : Program} {w : World} {K : PySem.W.Frag} {mg : Str → Option Value} {base : Heap} {A : Adr}
theorem i_takeC {F H : Hp} {Q : VK} {E : XK} {p : Addr} {c n r size : Int} (x : Ctx F p (pen c n r) H) (h0 : 0 < size) (h1 : size < 1073741824)
    (q : ∀ d n' r' H', 0 ≤ d → d < size → Ctx F p (pen c n' r') H' → Q (.int d) H') : spTake [.ref p, .int size] H Q E := i_take x.h h0 h1 fun d n' r' d0 d1 => q d n' r' _ d0 d1 x.turn
def spRow : Sp := fun vs H Q _ => ∃ (p : Addr) (c n r many wide : Int), vs = [.ref p, .int many, .int wide] ∧ H p = some (pen c n r) ∧ 0 ≤ many ∧ many ≤ 1000 ∧ 0 < wide + 2 ∧ wide + 2 < 1073741824 ∧
  ∀ D H' n' r' (ns : List Int), H D = none → Same (del H p) H' → H' p = some (pen c n' r') → H' D = some (.lst (ns.map V.int)) → ns.length = many.toNat → Q (.ref D) H'
theorem ok_row (T : Txt K mg A) : FnOk P w K mg base CX0 2 A.row A.drow ["_law_pen_here", "_law_many", "_law_wide"] spRow := by
  refine T.F_row.ok sc_row (fun vs H Q E h => ?_) (fun cdv A' outer s H vs Q E hr h => ?_)
  · obtain ⟨p, c, n, r, many, wide, rfl, _⟩ := h
    rfl
  · obtain ⟨p, c, n, r, many, wide, rfl, hp, m0, m1, w0, w1, q⟩ := h
    refine ⟨_, (pss_one (ps_ret (pe_lc (own := [("_law_box", 3)]) (g := gName 3) (tt := tYes) (by rfl) sc_row.nd (pi_range1 (by rfl) T.n_range (pa_cons (pv 1) pa_nil)) (blkOk_by (N := N_row) (sc := defScope s_row) (by decide +kernel)) (fun _ _ _ _ _ => (pg_name (i := 3) sc_row.nd rfl (Or.inl rfl))) (fun _ _ _ _ _ => pts_nil) (fun _ _ _ _ _ => (pe_op op_sub (pe_call (ok_take T) (hr.mono (by decide)) (by rfl) T.g_take T.F_take.kp (b_take T) .nil pass0 (pa_cons (pv 0) (pa_cons (pe_op op_add (pv 2) pe_int) pa_nil))) pe_int))))), ?_⟩
    refine i_start (σ' := [some (V.ref p), some (.int many), some (.int wide), none]) rfl ?_
    walk_at "vc"
    refine ⟨many, rfl, by omega, by omega, fun D nD => ?_⟩
    have c0 : Ctx (del H p) p (pen c n r) H := .start hp
    have hDp : D ≠ p := fun z => by
      rw [z, hp] at nD
      cases nD
    refine lc_it (walk_range (lo := 0) (n := many.toNat)) (fun i H1 => ∃ n' r' ns, Ctx (del H p) p (pen c n' r') H1 ∧ H1 D = some (.lst (ns.map V.int)) ∧ ns.length = i) ⟨n, r, [], ⟨fun b o hb => ?_, c0.n, by rw [upd_ne hDp.symm]; exact hp⟩, upd_same, rfl⟩ (fun _ _ _ _ => trivial) (fun i x H1 H2 hi p1 y => ?_) fun H1 p1 => ?_
    · rw [upd_ne (ne_of_none hb (c0.newF nD))]
      exact c0.e _ _ hb
    · obtain ⟨rfl, rfl⟩ := y
      obtain ⟨n1, r1, ns, c1, hD, hl⟩ := p1
      walk_at "vc"
      refine i_take c1.h w0 w1 fun d n2 r2 d0 d1 => ?_
      walk_at "vc"
      have c2 := c1.turn (o' := pen c n2 r2)
      refine ⟨ns.map V.int, by rw [upd_ne hDp]; exact hD, by rw [List.length_map]; exact small1000 (by omega), n2, r2, ns ++ [d - 1], ⟨fun b o hb => ?_, c2.n, by rw [upd_ne hDp.symm]; exact c2.h⟩, ?_, by rw [List.length_append, hl]; rfl⟩
      · rw [upd_ne (ne_of_none hb (c0.newF nD))]
        exact c2.e _ _ hb
      · rw [upd_same, List.map_append]
        rfl
    · obtain ⟨n1, r1, ns, c1, hD, hl⟩ := p1
      walk_at "vc"
      exact q D H1 n1 r1 ns nD c1.e c1.h hD hl
def spSecond (K : PySem.W.Frag) : Sp := fun vs H Q _ => ∃ (p a : Addr) (c n r wide : Int) (ns : List Int), vs = [.ref p, .ref a, .int wide] ∧ H p = some (pen c n r) ∧ SqL K (del H p) a (ns.map V.int) ∧ ns.length ≤ 1000 ∧ 0 < wide + 2 ∧ wide + 2 < 1073741824 ∧
  ∀ D H' n' r' (ms : List Int), H D = none → Same (del H p) H' → H' p = some (pen c n' r') → H' D = some (.lst (ms.map V.int)) → ms.length = ns.length → Q (.ref D) H'
theorem ok_second (T : Txt K mg A) : FnOk P w K mg base CX0 3 A.second A.dsecond ["_law_pen_here", "_law_row_here", "_law_wide"] (spSecond K) := by
  refine T.F_second.ok sc_second (fun vs H Q E h => ?_) (fun cdv A' outer s H vs Q E hr h => ?_)
  · obtain ⟨p, a, c, n, r, wide, ns, rfl, _⟩ := h
    rfl
  · obtain ⟨p, a, c, n, r, wide, ns, rfl, hp, ha, hl, w0, w1, q⟩ := h
    refine ⟨_, (pss_cons (ps_set (i := 3) sc_second.nd rfl (Or.inl rfl) (pe_call (ok_take T) (hr.mono (by decide)) (by rfl) T.g_take T.F_take.kp (b_take T) .nil pass0 (pa_cons (pv 0) (pa_cons pe_int pa_nil))))
      (pss_cons (ps_set (i := 4) sc_second.nd rfl (Or.inl rfl) (pe_callTy call_listOf (by rfl) T.n_list (by decide +kernel) (pa_cons (pv 1) pa_nil)))
      (pss_cons (ps_if (PW.pt (pw_and (pt_cmpR op_eq (pv 3) pe_int (nomark _)) (pw_and1 (pt_cmpR op_gt (pe_callB (r := rLenS K) call_lenS (by rfl) T.n_len PySem.boot_len (pa_cons (pv 1) pa_nil)) pe_int (nomark _))))) (pss_cons (ps_set (i := 5) sc_second.nd rfl (Or.inl rfl) (pe_call (ok_take T) (hr.mono (by decide)) (by rfl) T.g_take T.F_take.kp (b_take T) .nil pass0 (pa_cons (pv 0) (pa_cons (pe_callB (r := rLenS K) call_lenS (by rfl) T.n_len PySem.boot_len (pa_cons (pv 1) pa_nil)) pa_nil))))
      (pss_one (ps_asg (pe_callB (call_mx2 rfl) (by rfl) T.n_max (by decide +kernel) (pa_cons (pe_un un_neg pe_int) (pa_cons (pe_op op_add (pe_ix (r := rIxL K) ix_list (pv 4) (pv 5) (fun _ _ => rfl)) (pe_ix (r := rIxL K) ix_list (pe_lst (pa_cons pe_int (pa_cons (pe_un un_neg pe_int) pa_nil))) (pe_call (ok_take T) (hr.mono (by decide)) (by rfl) T.g_take T.F_take.kp (b_take T) .nil pass0 (pa_cons (pv 0) (pa_cons pe_int pa_nil))) (fun _ _ => rfl))) pa_nil))) (pg_sub (pv 4) (pv 5) set_list)))) pss_nil)
      (pss_cons (ps_if (pt_cmpR op_gt (pv 3) pe_int (nomark _)) (pss_one (ps_set (i := 4) sc_second.nd rfl (Or.inl rfl) (pe_call (ok_row T) (hr.mono (by decide)) (by rfl) T.g_row T.F_row.kp (b_row T) .nil pass0 (pa_cons (pv 0) (pa_cons (pe_callB (r := rLenS K) call_lenS (by rfl) T.n_len PySem.boot_len (pa_cons (pv 1) pa_nil)) (pa_cons (pv 2) pa_nil)))))) pss_nil)
      (pss_one (ps_ret (pv 4))))))), ?_⟩
    refine i_start (σ' := [some (V.ref p), some (.ref a), some (.int wide), none, none, none]) rfl ?_
    have c0 : Ctx (del H p) p (pen c n r) H := .start hp
    walk_at "vc"
    refine i_takeC c0 (by decide) (by decide) fun kd n1 r1 H1 k0 k1 c1 => ?_
    walk_at "vc"
    refine i_listL (c1.e.seq ha) fun l nl => ?_
    have hlp := c1.ne nl
    have nlF := c1.newF nl
    have nlH : H l = none := by
      cases hz : H l with
      | none => rfl
      | some o =>
        have z := c1.e _ _ (del_of hz hlp)
        rw [nl] at z
        cases z
    have c2 := c1.new (u := .lst (ns.map V.int)) nl
    have haF : SqL K (upd (del H p) l (.lst (ns.map V.int))) a (ns.map V.int) := (same_new nlF).seq ha
    walk_at "vc"
    refine i_iteD (fun hk => ?_) (fun hk => ?_)
    · subst hk
      walk_at "vc"
      refine i_lenL (c2.e.seq haF) ?_
      walk_at "vc"
      rw [List.length_map]
      refine i_iteD (fun h0 => ?_) (fun h0 => ?_)
      · walk_at "vc"
        refine i_lenL (c2.e.seq haF) ?_
        walk_at "vc"
        rw [List.length_map]
        refine i_takeC c2 h0 (by omega) fun at1 n2 r2 H2 a0 a1 c3 => ?_
        obtain ⟨j, rfl⟩ : ∃ j : Nat, at1 = (j : Int) := ⟨at1.toNat, by omega⟩
        have hj : j < ns.length := by omega
        walk_at "vc"
        refine i_ixL (SqL.of (c3.e _ _ upd_same)) (ints_at (List.getElem?_eq_getElem hj)) ?_
        walk_at "vc"
        refine ⟨lenB rfl, fun t nt => ?_⟩
        walk_at "vc"
        refine i_takeC (c3.new nt) (by decide) (by decide) fun d n3 r3 H3 d0 d1 c4 => ?_
        have hd : ∃ z : Int, atI [V.int 1, V.int (-1)] d = some (.int z) := by
          have e : d = 0 ∨ d = 1 := by omega
          rcases e with rfl | rfl
          · exact ⟨1, rfl⟩
          · exact ⟨-1, rfl⟩
        obtain ⟨z, hz⟩ := hd
        refine i_ixL (SqL.of (c4.e _ _ upd_same)) hz ?_
        walk_at "vc"
        have c5 := c4.drop (c3.newF nt)
        have h5 : H3 l = some (.lst (ns.map V.int)) := c5.e _ _ upd_same
        refine i_setL h5 (j := j) (ys := (ns.set j (max (-1) (ns[j] + z))).map V.int) ?_ ?_ ?_
        · rw [List.length_map]
          unfold ixN
          rw [if_pos (by omega), if_pos (by omega)]
          rfl
        · rw [List.map_set]
        · walk_at "vc"
          have c6 := (c5.drop nlF).put (u := .lst ((ns.set j (max (-1) (ns[j] + z))).map V.int)) nlF hlp
          exact q l _ _ _ _ nlH c6.e c6.h upd_same (by rw [List.length_set])
      · walk_at "vc"
        exact q l _ _ _ _ nlH (c2.drop nlF).e c2.h upd_same rfl
    · walk_at "vc"
      refine i_iteD (fun hk2 => ?_) (fun hk2 => ?_)
      · walk_at "vc"
        refine i_lenL (c2.e.seq haF) ?_
        walk_at "vc"
        refine ⟨p, c, n1, r1, _, wide, rfl, c2.h, by omega, by rw [List.length_map]; omega, w0, w1, fun D H' n' r' ms hD e' hp' hm hlen => ?_⟩
        walk_at "vc"
        have c3 := c2.to e' hp'
        have nD : H D = none := by
          cases hz : H D with
          | none => rfl
          | some o =>
            have z := (c2.drop nlF).e _ _ (del_of hz (c2.ne hD))
            rw [hD] at z
            cases z
        exact q D _ _ _ _ nD (c3.drop nlF).e c3.h hm (by rw [hlen, List.length_map]; omega)
      · walk_at "vc"
        exact q l _ _ _ _ nlH (c2.drop nlF).e c2.h upd_same rfl
end
end K13
set_option maxRecDepth 100000
set_option maxHeartbeats 1000000
namespace K13
open PySem PySem.Spec PyProof.Rows L2 VX
local macro_rules | `(tactic| walk_at "ne") => `(tactic| first
  | assumption
  | exact Ne.symm (by assumption)
  | exact ne_of_none (by assumption) (by assumption)
  | exact Ne.symm (ne_of_none (by assumption) (by assumption))
  | ((with_reducible refine' ne_of_none ?n1 ?n2); (case n2 => assumption); (case n1 => walk_at "lk"))
  | ((with_reducible refine' Ne.symm (ne_of_none ?n1 ?n2)); (case n2 => assumption); (case n1 => walk_at "lk")))
local macro_rules | `(tactic| walk_at "lk") => `(tactic| first
  | assumption
  | (with_reducible exact upd_same)
  | ((with_reducible refine' (upd_ne ?nn).trans ?ll); (case nn => walk_at "ne"); (case ll => walk_at "lk"))
  | ((with_reducible refine' VX.same_at ?nn ?ll); (case nn => assumption); (case ll => walk_at "lk")))
local macro_rules | `(tactic| walk_at "dp") => `(tactic| first
  | assumption
  | (with_reducible exact Dp.non)
  | (with_reducible exact Dp.bl _)
  | (with_reducible exact Dp.int _)
  | (with_reducible exact Dp.str _)
  | ((with_reducible refine' VX.Dp.mono' ?dd (same_new ?nn)); (case nn => assumption); (case dd => walk_at "dp"))
  | ((with_reducible refine' VX.Dp.mono' ?dd ?nn); (case nn => assumption); (case dd => walk_at "dp")))
local macro_rules | `(tactic| walk_at "sq") => `(tactic| first
  | assumption
  | (with_reducible exact SqL.of (by assumption))
  | (with_reducible exact SqT.of (by assumption))
  | ((with_reducible refine' Same.seq (same_new ?nn) ?qq); (case nn => assumption); (case qq => walk_at "sq"))
  | ((with_reducible refine' same_sqT (same_new ?nn) ?qq); (case nn => assumption); (case qq => walk_at "sq"))
  | ((with_reducible refine' Same.seq ?nn ?qq); (case nn => assumption); (case qq => walk_at "sq"))
  | ((with_reducible refine' same_sqT ?nn ?qq); (case nn => assumption); (case qq => walk_at "sq"))
  | ((with_reducible refine' SqL.of ?qq); (case qq => walk_at "lk"))
  | ((with_reducible refine' SqT.of ?qq); (case qq => walk_at "lk")))
local macro_rules | `(tactic| walk_at "cc") => `(tactic| first
  | exact ⟨by decide, by decide, by decide⟩
  | (show _ ≠ _; omega)
  | exact ⟨by omega, by omega⟩
  | exact Or.inl ⟨by omega, by omega⟩
  | exact Or.inr ⟨by omega, by omega⟩)
local macro_rules | `(tactic| walk_at "vcA") => `(tactic| repeat (first
  | ((with_reducible refine' VX.i_modA ?v1 ?_); (case v1 => omega); intro r hr0 hr1)
  | ((with_reducible refine' VX.i_divA ?v1 ?v2 ?_); (case v1 => omega); (case v2 => omega); intro r hr0 hr1)
  | walk_at "vc1"))
local macro_rules | `(tactic| walk_at "vc1") => `(tactic| first
  | ((with_reducible refine' VX.i_var ?v1 ?_); (case v1 => rfl))
  | (with_reducible refine' VX.i_c ?_)
  | (with_reducible refine' VX.i_op ?_)
  | (with_reducible refine' VX.i_cons ?_)
  | (with_reducible refine' VX.i_nil ?_)
  | (with_reducible refine' VX.i_seq ?_)
  | (with_reducible refine' VX.i_asg ?_)
  | ((with_reducible refine' VX.i_gname ?v2 ?_); (case v2 => (first | (simp only [List.set_cons_zero, List.set_cons_succ]; done) | (simp only [List.set_cons_zero, List.set_cons_succ]; exact rfl) | exact rfl)))
  | (with_reducible refine' VX.i_ifS ?_)
  | (with_reducible refine' VX.i_test ?_)
  | (with_reducible refine' VX.i_tB ?_)
  | (with_reducible refine' VX.i_bl ?_)
  | (with_reducible refine' VX.i_iteT ?_)
  | (with_reducible refine' VX.i_iteF ?_)
  | (with_reducible refine' VX.i_iteNT ?_)
  | (with_reducible refine' VX.i_iteNF ?_)
  | (with_reducible refine' VX.i_and ?_)
  | (with_reducible refine' VX.i_or ?_)
  | (with_reducible refine' VX.i_not ?_)
  | (with_reducible refine' VX.i_call ?_)
  | (with_reducible refine' VX.i_CB ?_)
  | (with_reducible refine' VX.i_make ?_)
  | (with_reducible refine' VX.i_makeK0 ?_)
  | (with_reducible refine' VX.i_mthK ?_)
  | (with_reducible refine' VX.i_mthS ?_)
  | (with_reducible refine' VX.i_meth ?_)
  | ((with_reducible refine' VX.i_ixL ?v1 ?v2 ?_); (case v1 => walk_at "sq"); (case v2 => first | rfl | assumption))
  | ((with_reducible refine' VX.i_ixT ?v1 ?v2 ?_); (case v1 => walk_at "sq"); (case v2 => first | rfl | assumption))
  | ((with_reducible refine' VX.i_setLU ?v2 ?v3 ?_); (case v2 => rfl); (case v3 => rfl))
  | ((with_reducible refine' VX.i_setL ?v1 ?v2 ?v3 ?_); (case v1 => walk_at "lk"); (case v2 => rfl); (case v3 => rfl))
  | (with_reducible refine' VX.i_rI0 ?_)
  | ((with_reducible refine' VX.i_rI ?v1 ?_); (case v1 => walk_at "cc"))
  | (with_reducible refine' VX.i_int ?_)
  | ((with_reducible refine' VX.i_rEqS ?v1 ?_); (case v1 => rfl))
  | ((with_reducible refine' VX.i_rNeS ?v1 ?_); (case v1 => rfl))
  | (with_reducible refine' VX.i_rEqI ?_)
  | (with_reducible refine' VX.i_rNeI ?_)
  | (with_reducible refine' VX.i_max2 ?_)
  | (with_reducible refine' VX.i_min2 ?_)
  | ((with_reducible refine' VX.i_lenL ?v1 ?_); (case v1 => walk_at "sq"))
  | ((with_reducible refine' VX.i_lenT ?v1 ?_); (case v1 => walk_at "sq"))
  | (with_reducible refine' VX.i_chain ?_)
  | (with_reducible refine' VX.i_gsub ?_)
  | (with_reducible refine' VX.i_ret ?_)
  | (with_reducible refine' VX.i_drop ?_)
  | (with_reducible refine' VX.i_next ?_)
  | (with_reducible refine' VX.i_retN ?_)
  | (with_reducible refine' VX.i_andV ?_)
  | (with_reducible refine' VX.i_orV ?_)
  | (with_reducible refine' VX.i_notV ?_)
  | (with_reducible refine' VX.i_ifE ?_)
  | (with_reducible refine' VX.i_un ?_)
  | (with_reducible refine' VX.i_rU ?_)
  | (with_reducible refine' VX.i_tup ?_)
  | (with_reducible refine' VX.i_lst ?_)
  | ((with_reducible refine' VX.i_fldv ?v1 ?v2 ?v3 ?v4 ?v5 ?_); (case v1 => rfl); (case v2 => walk_at "lk"); (case v3 => walk_at "cl"); (case v4 => walk_at "na"); (case v5 => first | rfl | assumption))
  | (with_reducible refine' VX.i_fld ?_)
  | (with_reducible refine' VX.i_sFld ?_)
  | (with_reducible refine' VX.i_mk1 ?_)
  | (with_reducible refine' VX.i_mk1v ?_)
  | (with_reducible refine' VX.i_gnil ?_)
  | (with_reducible refine' VX.i_lc ?_)
  | (with_reducible refine' VX.i_for ?_)
  | (with_reducible refine' VX.i_lstRg ?_)
  | (with_reducible refine' VX.i_rg2 ?_)
  | (with_reducible refine' VX.i_rg2v ?_)
  | (with_reducible refine' VX.i_yes ?_)
  | (with_reducible refine' VX.i_iList ?_)
  | (with_reducible refine' VX.i_iRng1 ?_)
  | (with_reducible refine' VX.i_iRng2 ?_)
  | (with_reducible refine' VX.i_iEnum ?_)
  | (with_reducible refine' VX.i_iZip ?_)
  | (with_reducible refine' VX.i_iOwn ?_)
  | ((with_reducible refine' VX.i_wipe ?v1 ?_); (case v1 => rfl))
  | (with_reducible refine' VX.i_andN ?_)
  | (with_reducible refine' VX.i_iteNDS ?_)
  | (with_reducible refine' VX.i_bm ?_)
  | ((with_reducible refine' VX.i_tyL ?v1 ?_); (case v1 => walk_at "sq"))
  | ((with_reducible refine' VX.i_append ?v1 ?v2 ?_); (case v1 => walk_at "lk"); (case v2 => (simp only [List.length_map, List.length_cons, List.length_nil, List.length_append]; omega)))
  | ((with_reducible refine' VX.i_iteDT ?v1 ?_); (case v1 => rfl))
  | ((with_reducible refine' VX.i_iteDF ?v1 ?_); (case v1 => intro h; cases h))
  | ((with_reducible refine' VX.i_isiD ?v1 ?v2 ?_); (case v1 => walk_at "dp"); (case v2 => decide))
  | ((with_reducible refine' VX.i_iteBT ?v1 ?_); (case v1 => rfl))
  | ((with_reducible refine' VX.i_iteBF ?v1 ?_); (case v1 => rfl))
  | (with_reducible refine' VX.i_gcons ?_)
  | ((with_reducible refine' VX.i_gtup ?v1 ?v2 ?_); (case v1 => walk_at "sq"); (case v2 => rfl)))
local macro_rules | `(tactic| walk_at "vc") => `(tactic| repeat walk_at "vc1")

local macro_rules | `(tactic| walk_at "cl") => `(tactic| exact Txt.cl (by assumption))
local macro_rules | `(tactic| walk_at "na") => `(tactic| exact Txt.nA (by assumption))
section
variable {P : Program} {w : World} {K : PySem.W.Frag} {mg : Str → Option Value} {base : Heap} {A : Adr}
theorem kb_init (T : Txt K mg A) : KBn K A.dI ["self", "heights"] 1 ["heights"] (fun us ws => us ++ ws) (fun us ws => us ++ ws) := kbn_of T.F_Cut_init fun _ _ _ _ _ _ us ws h1 h2 => match us, ws, h1, h2 with | [_], [_], _, _ => rfl
theorem kb_height (T : Txt K mg A) : KBn K A.dH ["self", "box"] 1 ["box"] (fun us ws => us ++ ws) (fun us ws => us ++ ws) := kbn_of T.F_Cut_height fun _ _ _ _ _ _ us ws h1 h2 => match us, ws, h1, h2 with | [_], [_], _, _ => rfl
def spCut (C : Addr) (K : PySem.W.Frag) : Sp := fun vs H Q _ => ∃ (a : Addr) (ns : List Int), vs = [.ref a] ∧ SqL K H a (ns.map V.int) ∧ ns.length ≤ 1000 ∧ ∀ c H', Same H H' → NewCut C H H' c ns → Q (.ref c) H'
theorem ok_cut (T : Txt K mg A) : FnOk P w K mg base CX0 4 A.cut A.dcut ["_law_row_here"] (spCut A.C K) := by
  refine T.F_cut.ok sc_cut (fun vs H Q E h => ?_) (fun cdv A' outer s H vs Q E hr h => ?_)
  · obtain ⟨a, ns, rfl, _⟩ := h
    rfl
  · obtain ⟨a, ns, rfl, ha, hl, q⟩ := h
    refine ⟨_, pss_cons (ps_set (i := 1) sc_cut.nd rfl (Or.inl rfl) (pe_callTy call_listOf (by rfl) T.n_list (by decide +kernel) (pa_cons (pv 0) pa_nil)))
      (pss_cons (ps_set (i := 2) sc_cut.nd rfl (Or.inl rfl) (pe_makeK0 T.M_Cut (ok_Cut_init T) (hr.mono (by decide)) (by rfl) T.g_Cut (kb_init T) pass0 (pk_cons (pv 1) pk_nil)))
      (pss_cons (ps_if (pt_cmpR (op_neD hr.units) (pv 1) (pv 0) (nomark _)) (pss_one (ps_ret pe_non)) pss_nil)
      (pss_cons (ps_expr (pe_bm PySem.F.plainAttrs_list PySem.F.slot_list_append PySem.F.type_list_append mt_append (pv 1) (pa_cons pe_int pa_nil)))
      (pss_cons (ps_asg (pe_op op_add (pe_ix (r := rIxL K) ix_list (pv 1) pe_int (fun _ _ => rfl)) pe_int) (pg_sub (pv 1) pe_int set_list))
      (pss_one (ps_ret (pv 2))))))), ?_⟩
    refine i_start (σ' := [some (V.ref a), none, none]) rfl ?_
    walk_at "vc"
    refine i_listL ha fun l nl => ?_
    walk_at "vc"
    refine ⟨rfl, fun x dx nx ndx ne => ?_⟩
    have hlx : l ≠ x := fun z => by rw [← z, upd_same] at nx; cases nx
    have hldx : l ≠ dx := fun z => by rw [← z, upd_same] at ndx; cases ndx
    rw [upd_ne hlx.symm] at nx
    rw [upd_ne hldx.symm] at ndx
    refine ⟨x, l, dx, ns.map V.int, rfl, upd_same, SqL.of (by rw [upd_ne hlx, upd_ne hldx, upd_same]), fun m nm => ⟨rfl, ?_⟩⟩
    have hmx : m ≠ x := fun z => by rw [z, upd_same] at nm; cases nm
    have hmdx : m ≠ dx := fun z => by rw [z, upd_ne ne, upd_same] at nm; cases nm
    have hml : m ≠ l := fun z => by rw [z, upd_ne hlx, upd_ne hldx, upd_same] at nm; cases nm
    have nmH : H m = none := by rw [upd_ne hmx, upd_ne hmdx, upd_ne hml] at nm; exact nm
    generalize hH1 : upd (upd (upd (upd (upd H l (.lst (ns.map V.int))) dx (.own x)) x (.ins A.C dx [])) m (.lst (ns.map V.int))) x (.ins A.C dx [("_heights", .ref m)]) = H1
    have s1 : Same H H1 := fun b o hb => by
      rw [← hH1, upd_ne (ne_of_none hb nx), upd_ne (ne_of_none hb nmH), upd_ne (ne_of_none hb nx), upd_ne (ne_of_none hb ndx), upd_ne (ne_of_none hb nl)]
      exact hb
    have h1l : H1 l = some (.lst (ns.map V.int)) := by rw [← hH1, upd_ne hlx, upd_ne hml.symm, upd_ne hlx, upd_ne hldx, upd_same]
    have h1x : H1 x = some (.ins A.C dx [("_heights", .ref m)]) := by rw [← hH1, upd_same]
    have h1m : H1 m = some (.lst (ns.map V.int)) := by rw [← hH1, upd_ne hmx, upd_same]
    walk_at "vc"
    refine i_neInts (SqL.of h1l) (s1.seq ha) ?_
    walk_at "vc"
    have h2l : upd H1 l (.lst (ns.map V.int ++ [.int 4])) l = some (.lst (ns.map V.int ++ [.int 4])) := upd_same
    have hat : ∃ z : Int, atI (ns.map V.int ++ [V.int 4]) 0 = some (.int z) := by
      cases ns with
      | nil => exact ⟨4, at_of (j := 0) rfl rfl⟩
      | cons z r => exact ⟨z, at_of (j := 0) rfl rfl⟩
    obtain ⟨z, hz⟩ := hat
    refine i_ixL (SqL.of upd_same) hz ?_
    walk_at "vc"
    refine i_setLU (j := 0) ?_ rfl ?_
    · unfold ixN
      rw [if_pos (by decide), if_pos (by rw [List.length_append]; simp)]
      rfl
    walk_at "vc"
    refine q x _ (fun b o hb => ?_) ⟨dx, m, nx, nmH, ?_, ?_⟩
    · rw [upd_ne (ne_of_none hb nl)]
      exact s1 _ _ hb
    · rw [upd_ne hlx.symm]
      exact h1x
    · rw [upd_ne hml]
      exact h1m
/-! ### height, asked by the law: the number, or what the error tells -/
def told (ns : List Int) (b : Int) : PyData := if 0 ≤ b ∧ b < (ns.length : Int) then .int (ns.getD b.toNat 0) else .tuple [.str "NoBox", .tuple [.int b], .list [.bool true, .bool true, .bool false]]
def spHt (C : Addr) (K : PySem.W.Frag) : Sp := fun vs H Q _ => ∃ (a : Addr) (b : Int) (ns : List Int), vs = [.ref a, .int b] ∧ IsCut C H a ns ∧ ∀ v H', Same H H' → Dp K H' v (told ns b) → Q v H'
def ts_ht (K : PySem.W.Frag) (A : Adr) : Addr → Value → Option Addr → TS := fun a cls d => tSeq (tAsg (tLst (tCons (tCB (rIsD K A.N a cls d) (tCons (tVar 2) (tCons (tC (.ref A.R)) tNil))) (tCons (tCB (rIsD K A.N a cls d) (tCons (tVar 2) (tCons (tC (.ty "ValueError")) tNil)))
  (tCons (tCB (rIsD K A.N a cls d) (tCons (tVar 2) (tCons (tC (.ref A.B)) tNil))) tNil)))) (gName 3)) (tRet (tTup (tCons (tC (.str "NoBox")) (tCons (tTup (tCons (tXf a cls d A.N "box" (tVar 2)) tNil)) (tCons (tVar 3) tNil)))))
theorem ok_height (T : Txt K mg A) : FnOk P w K mg base CX0 4 A.height A.dheight ["_law_cut_here", "_law_box"] (spHt A.C K) := by
  refine T.F_height.ok sc_height (fun vs H Q E h => ?_) (fun cdv A' outer s H vs Q E hr h => ?_)
  · obtain ⟨a, b, ns, rfl, _⟩ := h
    rfl
  · obtain ⟨a, b, ns, rfl, hc, q⟩ := h
    refine ⟨_, pss_one (ps_try_as (i := 2) (tb := fun W => tRet (tMthK A.C "height" 1 (spHeight A) (fun us ws => us ++ ws) (WE W) (tVar 0) (tCons (tVar 1) tNil))) (ts := ts_ht K A) (Wout := fun _ _ _ _ => False) rfl rfl sc_height.nd rfl rfl ⟨rfl, by decide, Or.inl T.g_NoBox⟩ takes0
      (fun W pn xe tk _ => pss_one (ps_ret (pe_mthK (pv 0) T.cl T.m_height (ok_Cut_height T) (hr.mono (by decide)) (kb_height T) (fun σ => passAt tk σ) (pk_cons (pv 1) pk_nil))))
      (fun a oe cls d pn hz hf => pss_cons (ps_set (i := 3) sc_height.nd rfl (Or.inl rfl) (pe_lst (pa_cons (pe_callB (call_isD T.xd hz hf) (by rfl) T.n_isinstance (by decide +kernel) (pa_cons (pv 2) (pa_cons (pe_glob (v := .ref A.R) (by rfl) T.g_RailsError rfl) pa_nil)))
        (pa_cons (pe_callB (call_isD T.xd hz hf) (by rfl) T.n_isinstance (by decide +kernel) (pa_cons (pv 2) (pa_cons (pe_bltn (v := .ty "ValueError") (by rfl) T.n_ValueError (by decide +kernel) rfl) pa_nil)))
        (pa_cons (pe_callB (call_isD T.xd hz hf) (by rfl) T.n_isinstance (by decide +kernel) (pa_cons (pv 2) (pa_cons (pe_glob (v := .ref A.B) (by rfl) T.g_BadCut rfl) pa_nil))) pa_nil)))))
        (pss_one (ps_ret (pe_tup (pa_cons pe_str (pa_cons (pe_tup (pa_cons (pe_xf T.xf T.nb hz hf (pv 2)) pa_nil)) (pa_cons (pv 3) pa_nil)))))))), ?_⟩
    refine i_start (σ' := [some (V.ref a), some (.int b), none, none]) rfl ?_
    walk_at "vc"
    obtain ⟨dx, l, h1, h2⟩ := id hc
    refine ⟨a, dx, _, rfl, h1, rfl, ?_⟩
    walk_at "vc"
    refine ⟨rfl, a, b, ns, rfl, hc, fun z z0 hz => ?_, fun hb d H' nd e hd => ?_⟩
    · refine q _ _ (Same.refl _) ?_
      unfold told
      have hlt : b.toNat < ns.length := (List.getElem?_eq_some_iff.mp hz).1
      rw [if_pos ⟨z0, by omega⟩, List.getD_eq_getElem?_getD, hz]
      exact .int z
    · refine ⟨true, T.kNN, fun _ x hx => ?_, fun z => Bool.noConfusion z⟩
      unfold ts_ht
      walk_at "vc"
      refine i_isD hd (fun _ r => r) T.iR ?_
      walk_at "vc"
      refine i_isD hd (fun _ r => r) T.iV ?_
      walk_at "vc"
      refine i_isD hd (fun _ r => r) T.iB ?_
      walk_at "vc"
      refine ⟨lenB rfl, fun k nk => ?_⟩
      walk_at "vc"
      refine i_xf (fs := [("box", .int b)]) rfl (same_new nk _ _ hd) rfl ?_
      walk_at "vc"
      refine ⟨lenB rfl, fun t nt => ?_⟩
      walk_at "vc"
      refine ⟨lenB rfl, fun u nu => ?_⟩
      have s1 := same_new (o := .lst [.bl true, .bl true, .bl false]) nk
      have s2 := same_new (o := .tup [.int b]) nt
      have s3 := same_new (o := .tup [.str "NoBox", .ref t, .ref k]) nu
      refine q _ _ (((e.trans s1).trans s2).trans s3) ?_
      unfold told
      rw [if_neg (by omega)]
      refine .tup (SqT.of upd_same) (.cons (.str _) (.cons ?_ (.cons ?_ .nil)))
      · exact Dp.mono' (.tup (SqT.of upd_same) (.cons (.int b) .nil)) s3
      · exact Dp.mono' (.lst (SqL.of upd_same) (.cons (.bl _) (.cons (.bl _) (.cons (.bl _) .nil)))) (s2.trans s3)
/-! ### caught -/
def spCaught (C : Addr) : Sp := fun vs H Q _ => ∃ (a : Addr) (b : Int) (ns : List Int), vs = [.ref a, .int b] ∧ IsCut C H a ns ∧ (ns.length : Int) ≤ b ∧ ∀ H', Same H H' → Q (.bl true) H'
theorem ok_caught (T : Txt K mg A) : FnOk P w K mg base CX0 4 A.caught A.dcaught ["_law_cut_here", "_law_box"] (spCaught A.C) := by
  refine T.F_caught.ok sc_caught (fun vs H Q E h => ?_) (fun cdv A' outer s H vs Q E hr h => ?_)
  · obtain ⟨a, b, ns, rfl, _⟩ := h
    rfl
  · obtain ⟨a, b, ns, rfl, hc, hb, q⟩ := h
    refine ⟨_, pss_cons (ps_try_only (tb := fun W => tDrop (tMthS A.C "height" (spHeight A) (WE W) (tVar 0) (tCons (tVar 1) tNil))) (ts := fun _ _ _ => tRet (tC (.bl true))) (Wout := fun _ _ _ _ => False) rfl rfl ⟨rfl, by decide, Or.inl T.g_RailsError⟩ takes0
      (fun W pn xe tk _ => pss_one (ps_expr (pe_mthS (pv 0) T.cl T.m_height (ok_Cut_height T) (hr.mono (by decide)) (b_Cut_height T) (fun σ => passAt tk σ) (pa_cons (pv 1) pa_nil))))
      (fun a oe cls d pn hz hf => pss_one (ps_ret pe_bl))) (pss_one (ps_ret pe_bl)), ?_⟩
    refine i_start (σ' := [some (V.ref a), some (.int b)]) rfl ?_
    walk_at "vc"
    obtain ⟨dx, l, h1, h2⟩ := id hc
    refine ⟨a, dx, _, rfl, h1, rfl, ?_⟩
    walk_at "vc"
    refine ⟨a, b, ns, rfl, hc, fun z z0 hz => ?_, fun _ d H' nd e hd => ?_⟩
    · have hlt : b.toNat < ns.length := (List.getElem?_eq_some_iff.mp hz).1
      exact absurd hlt (by omega)
    · refine ⟨true, T.kNR, fun _ x hx => ?_, fun z => Bool.noConfusion z⟩
      exact q _ e
end
end K13
set_option maxRecDepth 100000
set_option maxHeartbeats 1000000
namespace K13
open PySem PySem.Spec PyProof.Rows L2 VX
local macro_rules | `(tactic| walk_at "ne") => `(tactic| first
  | assumption
  | exact Ne.symm (by assumption)
  | exact ne_of_none (by assumption) (by assumption)
  | exact Ne.symm (ne_of_none (by assumption) (by assumption))
  | ((with_reducible refine' ne_of_none ?n1 ?n2); (case n2 => assumption); (case n1 => walk_at "lk"))
  | ((with_reducible refine' Ne.symm (ne_of_none ?n1 ?n2)); (case n2 => assumption); (case n1 => walk_at "lk")))
local macro_rules | `(tactic| walk_at "lk") => `(tactic| first
  | assumption
  | (with_reducible exact upd_same)
  | ((with_reducible refine' (upd_ne ?nn).trans ?ll); (case nn => walk_at "ne"); (case ll => walk_at "lk"))
  | ((with_reducible refine' VX.same_at ?nn ?ll); (case nn => assumption); (case ll => walk_at "lk")))
local macro_rules | `(tactic| walk_at "dp") => `(tactic| first
  | assumption
  | (with_reducible exact Dp.non)
  | (with_reducible exact Dp.bl _)
  | (with_reducible exact Dp.int _)
  | (with_reducible exact Dp.str _)
  | ((with_reducible refine' VX.Dp.mono' ?dd (same_new ?nn)); (case nn => assumption); (case dd => walk_at "dp"))
  | ((with_reducible refine' VX.Dp.mono' ?dd ?nn); (case nn => assumption); (case dd => walk_at "dp")))
local macro_rules | `(tactic| walk_at "sq") => `(tactic| first
  | assumption
  | (with_reducible exact SqL.of (by assumption))
  | (with_reducible exact SqT.of (by assumption))
  | ((with_reducible refine' Same.seq (same_new ?nn) ?qq); (case nn => assumption); (case qq => walk_at "sq"))
  | ((with_reducible refine' same_sqT (same_new ?nn) ?qq); (case nn => assumption); (case qq => walk_at "sq"))
  | ((with_reducible refine' Same.seq ?nn ?qq); (case nn => assumption); (case qq => walk_at "sq"))
  | ((with_reducible refine' same_sqT ?nn ?qq); (case nn => assumption); (case qq => walk_at "sq"))
  | ((with_reducible refine' SqL.of ?qq); (case qq => walk_at "lk"))
  | ((with_reducible refine' SqT.of ?qq); (case qq => walk_at "lk")))
local macro_rules | `(tactic| walk_at "cc") => `(tactic| first
  | exact ⟨by decide, by decide, by decide⟩
  | (show _ ≠ _; omega)
  | exact ⟨by omega, by omega⟩
  | exact Or.inl ⟨by omega, by omega⟩
  | exact Or.inr ⟨by omega, by omega⟩)
local macro_rules | `(tactic| walk_at "vcA") => `(tactic| repeat (first
  | ((with_reducible refine' VX.i_modA ?v1 ?_); (case v1 => omega); intro r hr0 hr1)
  | ((with_reducible refine' VX.i_divA ?v1 ?v2 ?_); (case v1 => omega); (case v2 => omega); intro r hr0 hr1)
  | walk_at "vc1"))
local macro_rules | `(tactic| walk_at "vc1") => `(tactic| first
  | ((with_reducible refine' VX.i_var ?v1 ?_); (case v1 => rfl))
  | (with_reducible refine' VX.i_c ?_)
  | (with_reducible refine' VX.i_op ?_)
  | (with_reducible refine' VX.i_cons ?_)
  | (with_reducible refine' VX.i_nil ?_)
  | (with_reducible refine' VX.i_seq ?_)
  | (with_reducible refine' VX.i_asg ?_)
  | ((with_reducible refine' VX.i_gname ?v2 ?_); (case v2 => (first | (simp only [List.set_cons_zero, List.set_cons_succ]; done) | (simp only [List.set_cons_zero, List.set_cons_succ]; exact rfl) | exact rfl)))
  | (with_reducible refine' VX.i_ifS ?_)
  | (with_reducible refine' VX.i_test ?_)
  | (with_reducible refine' VX.i_tB ?_)
  | (with_reducible refine' VX.i_bl ?_)
  | (with_reducible refine' VX.i_iteT ?_)
  | (with_reducible refine' VX.i_iteF ?_)
  | (with_reducible refine' VX.i_iteNT ?_)
  | (with_reducible refine' VX.i_iteNF ?_)
  | (with_reducible refine' VX.i_and ?_)
  | (with_reducible refine' VX.i_or ?_)
  | (with_reducible refine' VX.i_not ?_)
  | (with_reducible refine' VX.i_call ?_)
  | (with_reducible refine' VX.i_CB ?_)
  | (with_reducible refine' VX.i_make ?_)
  | (with_reducible refine' VX.i_makeK0 ?_)
  | (with_reducible refine' VX.i_mthK ?_)
  | (with_reducible refine' VX.i_mthS ?_)
  | (with_reducible refine' VX.i_meth ?_)
  | ((with_reducible refine' VX.i_ixL ?v1 ?v2 ?_); (case v1 => walk_at "sq"); (case v2 => first | rfl | assumption))
  | ((with_reducible refine' VX.i_ixT ?v1 ?v2 ?_); (case v1 => walk_at "sq"); (case v2 => first | rfl | assumption))
  | ((with_reducible refine' VX.i_setLU ?v2 ?v3 ?_); (case v2 => rfl); (case v3 => rfl))
  | ((with_reducible refine' VX.i_setL ?v1 ?v2 ?v3 ?_); (case v1 => walk_at "lk"); (case v2 => rfl); (case v3 => rfl))
  | (with_reducible refine' VX.i_rI0 ?_)
  | ((with_reducible refine' VX.i_rI ?v1 ?_); (case v1 => walk_at "cc"))
  | (with_reducible refine' VX.i_int ?_)
  | ((with_reducible refine' VX.i_rEqS ?v1 ?_); (case v1 => rfl))
  | ((with_reducible refine' VX.i_rNeS ?v1 ?_); (case v1 => rfl))
  | (with_reducible refine' VX.i_rEqI ?_)
  | (with_reducible refine' VX.i_rNeI ?_)
  | (with_reducible refine' VX.i_max2 ?_)
  | (with_reducible refine' VX.i_min2 ?_)
  | ((with_reducible refine' VX.i_lenL ?v1 ?_); (case v1 => walk_at "sq"))
  | ((with_reducible refine' VX.i_lenT ?v1 ?_); (case v1 => walk_at "sq"))
  | (with_reducible refine' VX.i_chain ?_)
  | (with_reducible refine' VX.i_gsub ?_)
  | (with_reducible refine' VX.i_ret ?_)
  | (with_reducible refine' VX.i_drop ?_)
  | (with_reducible refine' VX.i_next ?_)
  | (with_reducible refine' VX.i_retN ?_)
  | (with_reducible refine' VX.i_andV ?_)
  | (with_reducible refine' VX.i_orV ?_)
  | (with_reducible refine' VX.i_notV ?_)
  | (with_reducible refine' VX.i_ifE ?_)
  | (with_reducible refine' VX.i_un ?_)
  | (with_reducible refine' VX.i_rU ?_)
  | (with_reducible refine' VX.i_tup ?_)
  | (with_reducible refine' VX.i_lst ?_)
  | ((with_reducible refine' VX.i_fldv ?v1 ?v2 ?v3 ?v4 ?v5 ?_); (case v1 => rfl); (case v2 => walk_at "lk"); (case v3 => walk_at "cl"); (case v4 => walk_at "na"); (case v5 => first | rfl | assumption))
  | (with_reducible refine' VX.i_fld ?_)
  | (with_reducible refine' VX.i_sFld ?_)
  | (with_reducible refine' VX.i_mk1 ?_)
  | (with_reducible refine' VX.i_mk1v ?_)
  | (with_reducible refine' VX.i_gnil ?_)
  | (with_reducible refine' VX.i_lc ?_)
  | (with_reducible refine' VX.i_for ?_)
  | (with_reducible refine' VX.i_lstRg ?_)
  | (with_reducible refine' VX.i_rg2 ?_)
  | (with_reducible refine' VX.i_rg2v ?_)
  | (with_reducible refine' VX.i_yes ?_)
  | (with_reducible refine' VX.i_iList ?_)
  | (with_reducible refine' VX.i_iRng1 ?_)
  | (with_reducible refine' VX.i_iRng2 ?_)
  | (with_reducible refine' VX.i_iEnum ?_)
  | (with_reducible refine' VX.i_iZip ?_)
  | (with_reducible refine' VX.i_iOwn ?_)
  | ((with_reducible refine' VX.i_wipe ?v1 ?_); (case v1 => rfl))
  | (with_reducible refine' VX.i_andN ?_)
  | (with_reducible refine' VX.i_iteNDS ?_)
  | (with_reducible refine' VX.i_bm ?_)
  | ((with_reducible refine' VX.i_tyL ?v1 ?_); (case v1 => walk_at "sq"))
  | ((with_reducible refine' VX.i_append ?v1 ?v2 ?_); (case v1 => walk_at "lk"); (case v2 => (simp only [List.length_map, List.length_cons, List.length_nil, List.length_append]; omega)))
  | ((with_reducible refine' VX.i_iteDT ?v1 ?_); (case v1 => rfl))
  | ((with_reducible refine' VX.i_iteDF ?v1 ?_); (case v1 => intro h; cases h))
  | ((with_reducible refine' VX.i_isiD ?v1 ?v2 ?_); (case v1 => walk_at "dp"); (case v2 => decide))
  | ((with_reducible refine' VX.i_iteBT ?v1 ?_); (case v1 => rfl))
  | ((with_reducible refine' VX.i_iteBF ?v1 ?_); (case v1 => rfl))
  | (with_reducible refine' VX.i_gcons ?_)
  | ((with_reducible refine' VX.i_gtup ?v1 ?v2 ?_); (case v1 => walk_at "sq"); (case v2 => rfl)))
local macro_rules | `(tactic| walk_at "vc") => `(tactic| repeat walk_at "vc1")

local macro_rules | `(tactic| walk_at "cl") => `(tactic| exact Txt.cl (by assumption))
local macro_rules | `(tactic| walk_at "na") => `(tactic| exact Txt.nA (by assumption))
section
variable {P : Program} {w : World} {K : PySem.W.Frag} {mg : Str → Option Value} {base : Heap} {A : Adr}
theorem told_small (ns : List Int) (b : Int) : dep (told ns b) < 4 ∧ nar 1000 (told ns b) = true := by
  unfold told
  split
  · exact ⟨by show 0 < 4; decide, rfl⟩
  · exact ⟨by show 2 < 4; decide, rfl⟩
/-- same, read: two that say the same -/
theorem i_same {H : Hp} {Q : VK} {E : XK} {x y : V} (d : PyData) (hx : Dp K H x d) (hy : Dp K H y d) (h1 : dep d < 4) (h2 : nar 1000 d = true) (q : ∀ H', Same H H' → Q (.bl true) H') : spS K 4 [x, y] H Q E := ⟨x, y, d, rfl, hx, hy, h1, h2, q⟩
theorem ints_small (ns : List Int) (h : ns.length ≤ 1000) : dep (.list (ns.map PyData.int)) < 4 ∧ nar 1000 (.list (ns.map PyData.int)) = true := by
  constructor
  · show depAll (ns.map PyData.int) + 1 < 4
    rw [dep_ints]
    decide
  · show (decide ((ns.map PyData.int).length ≤ 1000) && narAll 1000 (ns.map PyData.int)) = true
    rw [nar_ints, List.length_map, decide_eq_true h]
    rfl
def spTells (C : Addr) (K : PySem.W.Frag) : Sp := fun vs H Q _ => ∃ (p a r : Addr) (c n k : Int) (ns : List Int), vs = [.ref p, .ref a, .ref r] ∧ H p = some (pen c n k) ∧ IsCut C (del H p) a ns ∧ SqL K (del H p) r (ns.map V.int) ∧ ns.length ≤ 900 ∧
  ∀ H' n' k', Same (del H p) H' → H' p = some (pen c n' k') → Q (.bl true) H'
theorem ok_tells (T : Txt K mg A) : FnOk P w K mg base CX0 5 A.tells A.dtells ["_law_pen_here", "_law_cut_here", "_law_row_here"] (spTells A.C K) := by
  refine T.F_tells.ok sc_tells (fun vs H Q E h => ?_) (fun cdv A' outer s H vs Q E hr h => ?_)
  · obtain ⟨p, a, r, c, n, k, ns, rfl, _⟩ := h
    rfl
  · obtain ⟨p, a, r, c, n, k, ns, rfl, hp, hc, hrow, hl, q⟩ := h
    refine ⟨_, (pss_cons (ps_if (PW.pt (pw_or (pt_not (pt_val (pe_callB call_isi (by rfl) T.n_isinstance (by decide +kernel) (pa_cons (pv 1) (pa_cons (pe_glob (v := .ref A.C) (by rfl) T.g_Cut rfl) pa_nil))))) (pw_or1 (pt_not (pt_val (pe_call (ok_same T) (hr.mono (by decide)) (by rfl) T.g_same T.F_same.kp (b_same T) .nil pass0 (pa_cons (pe_callTy (call_listOwn2 rfl (hr.mono (by decide)) T.oi T.nl T.nh (ok_Cut_iter T) (b_Cut_iter T)) (by rfl) T.n_list (by decide +kernel) (pa_cons (pv 1) pa_nil)) (pa_cons (pv 2) pa_nil)))))))) (pss_one (ps_ret pe_bl)) pss_nil)
      (pss_cons (ps_if (PW.pt (pw_or (pt_not (pt_val (pe_call (ok_same T) (hr.mono (by decide)) (by rfl) T.g_same T.F_same.kp (b_same T) .nil pass0 (pa_cons (pe_lc (own := [("_law_height_here", 3)]) (g := gName 3) (tt := tYes) (by rfl) sc_tells.nd (pi_own (hr.mono (by decide)) T.oi (ok_Cut_iter T) (b_Cut_iter T) (pv 1)) (blkOk_by (N := N_tells) (sc := defScope s_tells) (by decide +kernel)) (fun _ _ _ _ _ => (pg_name (i := 3) sc_tells.nd rfl (Or.inl rfl))) (fun _ _ _ _ _ => pts_nil) (fun _ _ _ _ _ => (pv 3))) (pa_cons (pv 2) pa_nil))))) (pw_or1 (pt_not (pt_val (pe_call (ok_caught T) (hr.mono (by decide)) (by rfl) T.g_caught T.F_caught.kp (b_caught T) .nil pass0 (pa_cons (pv 1) (pa_cons (pe_callB (r := rLenS K) call_lenS (by rfl) T.n_len PySem.boot_len (pa_cons (pv 2) pa_nil)) pa_nil)))))))) (pss_one (ps_ret pe_bl)) pss_nil)
      (pss_cons (ps_for PassesOwn.never rfl (pi_list (pe_op op_cat (pe_listRg rfl (by rfl) T.n_list (prg_2 (by rfl) T.n_range (pe_un un_neg pe_int) (pe_op op_add (pe_callB (r := rLenS K) call_lenS (by rfl) T.n_len PySem.boot_len (pa_cons (pv 2) pa_nil)) pe_int))) (pe_lst (pa_cons (pe_op op_add (pe_op op_add (pe_callB (r := rLenS K) call_lenS (by rfl) T.n_len PySem.boot_len (pa_cons (pv 2) pa_nil)) pe_int) (pe_call (ok_take T) (hr.mono (by decide)) (by rfl) T.g_take T.F_take.kp (b_take T) .nil pass0 (pa_cons (pv 0) (pa_cons pe_int pa_nil)))) pa_nil)))) (pg_name (i := 4) sc_tells.nd rfl (Or.inl rfl))
      (Evl.pss_cut (ps_set (i := 5) sc_tells.nd rfl (Or.inl rfl) (pe_chain op_le op_lt pe_int (pv 4) (pe_callB (r := rLenS K) call_lenS (by rfl) T.n_len PySem.boot_len (pa_cons (pv 2) pa_nil))))
      (pss_cons (ps_set (i := 6) sc_tells.nd rfl (Or.inl rfl) (pe_tup (pa_cons pe_str (pa_cons (pe_tup (pa_cons (pv 4) pa_nil)) (pa_cons (pe_lst (pa_cons pe_bl (pa_cons pe_bl (pa_cons pe_bl pa_nil)))) pa_nil)))))
      (pss_cons (ps_set (i := 7) sc_tells.nd rfl (Or.inl rfl) (pe_un un_neg pe_int))
      (Evl.pss_cut (ps_if (pt_val (pv 5)) (pss_cons (ps_set (i := 6) sc_tells.nd rfl (Or.inl rfl) (pe_ix (r := rIxL K) ix_list (pv 2) (pv 4) (fun _ _ => rfl)))
      (pss_one (ps_set (i := 7) sc_tells.nd rfl (Or.inl rfl) (pe_ix (r := rIxL K) ix_list (pv 2) (pv 4) (fun _ _ => rfl))))) pss_nil)
      (pss_cons (ps_if (pt_not (pt_val (pe_call (ok_same T) (hr.mono (by decide)) (by rfl) T.g_same T.F_same.kp (b_same T) .nil pass0 (pa_cons (pe_call (ok_height T) (hr.mono (by decide)) (by rfl) T.g_height T.F_height.kp (b_height T) .nil pass0 (pa_cons (pv 1) (pa_cons (pv 4) pa_nil))) (pa_cons (pv 6) pa_nil))))) (pss_one (ps_ret pe_bl)) pss_nil)
      (pss_one (ps_for PassesOwn.never rfl (pi_list (pe_lst (pa_cons pe_int (pa_cons (pe_callB (call_mx2 rfl) (by rfl) T.n_max (by decide +kernel) (pa_cons pe_int (pa_cons (pv 7) pa_nil))) (pa_cons (pe_op op_add (pv 7) pe_int) (pa_cons (pe_call (ok_take T) (hr.mono (by decide)) (by rfl) T.g_take T.F_take.kp (b_take T) .nil pass0 (pa_cons (pv 0) (pa_cons pe_int pa_nil))) pa_nil)))))) (pg_name (i := 8) sc_tells.nd rfl (Or.inl rfl))
      (pss_one (ps_if (pt_not (pt_val (pe_call (ok_same T) (hr.mono (by decide)) (by rfl) T.g_same T.F_same.kp (b_same T) .nil pass0 (pa_cons (pe_cmpR (op_inOwn T.s_contains T.i_contains (ok_Cut_contains T) (hr.mono (by decide)) (b_Cut_contains T) pass0) (pe_tup (pa_cons (pv 4) (pa_cons (pv 8) pa_nil))) (pv 1) (by rfl)) (pa_cons (pe_and (pv 5) (pe_one (pe_cmpR op_le (pv 8) (pv 7) (nomark _)))) pa_nil))))) (pss_one (ps_ret pe_bl)) pss_nil))))))))))
      (pss_one (ps_ret pe_bl))))), ?_⟩
    refine i_start (σ' := [some (V.ref p), some (.ref a), some (.ref r), none, none, none, none, none, none]) rfl ?_
    have c0 : Ctx (del H p) p (pen c n k) H := .start hp
    generalize del H p = F at hc hrow q c0
    obtain ⟨dx, l, h1, h2⟩ := id hc
    have sm := ints_small ns (by omega)
    walk_at "vc"
    refine ⟨_, _, _, _, true, rfl, .own A.C, cut_ty T (hc.mono c0.e), T.iCC, ?_⟩
    walk_at "vc"
    refine ⟨a, dx, _, l, _, rfl, c0.e _ _ h1, rfl, SqL.of (c0.e _ _ h2), fun q1 nq1 => ?_⟩
    walk_at "vc"
    have c1 := c0.fresh (u := .lst (ns.map V.int)) nq1
    refine i_same _ (dp_ints (SqL.of upd_same)) (dp_ints (c1.e.seq hrow)) sm.1 sm.2 fun H2 e2 => ?_
    have c2 := c1.grow e2
    walk_at "vc"
    refine ⟨a, dx, _, l, _, rfl, c2.e _ _ h1, rfl, SqL.of (c2.e _ _ h2), fun D nD => ?_⟩
    refine lc_map (walk_list (xs := ns.map V.int)) (Same.refl H2) nD (by rw [List.length_map]; omega) (fun i => .int (ns.getD i 0)) (fun H3 e => SqL.of (e _ _ (c2.e _ _ h2))) (fun i x H3 H4 hi e y => ?_) fun H3 e3 hD => ?_
    · obtain ⟨rfl, y⟩ := y
      refine ⟨Same.refl _, fun R hR => ?_⟩
      walk_at "vc"
      rw [List.length_map] at hi
      rw [List.getElem?_map, List.getElem?_eq_getElem hi] at y
      cases y
      rw [List.getD_eq_getElem?_getD, List.getElem?_eq_getElem hi] at hR
      exact hR _ (Same.refl _)
    · have c3 := c2.grow e3
      walk_at "vc"
      have hD' : H3 D = some (.lst (ns.map V.int)) := by
        rw [hD, List.length_map, map_ints (ns := ns) (gs := ns) (n := ns.length) (f := fun i => ns.getD i 0) rfl fun i z hz => by rw [List.getD_eq_getElem?_getD, hz]; rfl]
      refine i_same _ (dp_ints (SqL.of hD')) (dp_ints (c3.e.seq hrow)) sm.1 sm.2 fun H4 e4 => ?_
      have c4 := c3.grow e4
      walk_at "vc"
      refine i_lenL (c4.e.seq hrow) ?_
      walk_at "vc"
      rw [List.length_map]
      refine ⟨a, _, ns, rfl, hc.mono c4.e, Int.le_refl _, fun H5 e5 => ?_⟩
      have c5 := c4.grow e5
      walk_at "vc"
      refine i_lenL (c5.e.seq hrow) ?_
      walk_at "vc"
      rw [List.length_map]
      refine ⟨⟨by decide, by decide, by omega, by omega, by omega⟩, fun q2 nq2 => ?_⟩
      walk_at "vc"
      have c6 := c5.new (u := .lst (rgV (-2) ((ns.length : Int) + 2))) nq2
      have hrow6 := (same_new (o := .lst (rgV (-2) ((ns.length : Int) + 2))) (c5.newF nq2)).seq hrow
      refine i_lenL (c6.e.seq hrow6) ?_
      walk_at "vc"
      rw [List.length_map]
      refine i_takeC c6 (by decide) (by decide) fun d n7 k7 H7 d0 d1 c7 => ?_
      walk_at "vc"
      refine ⟨lenB rfl, fun q3 nq3 => ?_⟩
      have c8 := c7.new (u := .lst [.int ((ns.length : Int) + 2 + d)]) nq3
      have hq2 : (upd (upd F q2 (.lst (rgV (-2) ((ns.length : Int) + 2)))) q3 (.lst [.int ((ns.length : Int) + 2 + d)])) q2 = some (.lst (rgV (-2) ((ns.length : Int) + 2))) := same_new (c7.newF nq3) _ _ upd_same
      refine ⟨q2, q3, _, _, rfl, rfl, c8.e _ _ hq2, upd_same, by simp [rgV, sizeLine_eq]; omega, fun z nz => ?_⟩
      have c9 := c8.new (u := .lst (rgV (-2) ((ns.length : Int) + 2) ++ [.int ((ns.length : Int) + 2 + d)])) nz
      have hint : ∀ x ∈ rgV (-2) ((ns.length : Int) + 2) ++ [V.int ((ns.length : Int) + 2 + d)], ∃ b, x = V.int b := fun x hx => by
        rcases List.mem_append.mp hx with hx | hx
        · obtain ⟨i, _, rfl⟩ := List.mem_map.mp hx
          exact ⟨_, rfl⟩
        · exact ⟨_, List.mem_singleton.mp hx⟩
      have eF := ((same_new (o := .lst (rgV (-2) ((ns.length : Int) + 2))) (c5.newF nq2)).trans (same_new (o := .lst [.int ((ns.length : Int) + 2 + d)]) (c7.newF nq3))).trans (same_new (o := .lst (rgV (-2) ((ns.length : Int) + 2) ++ [.int ((ns.length : Int) + 2 + d)])) (c8.newF nz))
      have hzF := (upd_same : upd (upd (upd F q2 (.lst (rgV (-2) ((ns.length : Int) + 2)))) q3 (.lst [.int ((ns.length : Int) + 2 + d)])) z (.lst (rgV (-2) ((ns.length : Int) + 2) ++ [.int ((ns.length : Int) + 2 + d)])) z = _)
      refine ⟨z, rfl, ⟨_, SqL.of upd_same⟩, ?_⟩
      generalize upd (upd (upd F q2 (.lst (rgV (-2) ((ns.length : Int) + 2)))) q3 (.lst [.int ((ns.length : Int) + 2 + d)])) z (.lst (rgV (-2) ((ns.length : Int) + 2) ++ [.int ((ns.length : Int) + 2 + d)])) = F9 at c9 eF hzF
      generalize upd (upd H7 q3 (.lst [.int ((ns.length : Int) + 2 + d)])) z (.lst (rgV (-2) ((ns.length : Int) + 2) ++ [.int ((ns.length : Int) + 2 + d)])) = H9 at c9 ⊢
      generalize rgV (-2) ((ns.length : Int) + 2) ++ [V.int ((ns.length : Int) + 2 + d)] = xs at hint hzF ⊢
      clear c8 c7 c6 hq2 hrow6
      refine for_it (walk_list (K := K) (a := z) (xs := xs)) (fun _ σ' H' => ∃ n' k' y3 y4 y5 y6 y7 y8, σ' = [some (V.ref p), some (.ref a), some (.ref r), y3, y4, y5, y6, y7, y8] ∧ Ctx F9 p (pen c n' k') H') ⟨_, _, _, _, _, _, _, _, rfl, c9⟩
        (fun _ _ _ _ pv => ?_) (fun i x σ' H' H'' hi pv y => ?_) fun σ' H' pv => ?_
      · obtain ⟨n', k', y3, y4, y5, y6, y7, y8, _, cx⟩ := pv
        exact SqL.of (cx.e _ _ hzF)
      · obtain ⟨n', k', y3, y4, y5, y6, y7, y8, rfl, cx⟩ := pv
        obtain ⟨rfl, hx⟩ := y
        obtain ⟨b, rfl⟩ := hint x (List.mem_of_getElem? hx)
        walk_at "vc"
        refine i_cut (M := fun σ' H' => σ' = [some (V.ref p), some (.ref a), some (.ref r), y3, some (.int b), some (.bl (decide (0 ≤ b ∧ b < (ns.length : Int)))), y6, y7, y8] ∧ Ctx F9 p (pen c n' k') H') ?_ ?_
        · walk_at "vc"
          refine i_iteD (fun b0 => ?_) (fun b0 => ?_)
          · walk_at "vc"
            refine i_lenL (cx.e.seq (eF.seq hrow)) ?_
            walk_at "vc"
            rw [List.length_map]
            refine ⟨?_, cx⟩
            rw [show decide (0 ≤ b ∧ b < (ns.length : Int)) = decide (b < (ns.length : Int)) by simp [b0]]
          · refine ⟨?_, cx⟩
            rw [show decide (0 ≤ b ∧ b < (ns.length : Int)) = false by simp [b0]]
            rfl
        · rintro σ' H' ⟨rfl, cx⟩
          walk_at "vc"
          refine ⟨lenB rfl, fun t1 nt1 => ?_⟩
          walk_at "vc"
          refine ⟨lenB rfl, fun t2 nt2 => ?_⟩
          walk_at "vc"
          refine ⟨lenB rfl, fun t3 nt3 => ?_⟩
          have d1 := cx.new (u := .tup [.int b]) nt1
          have d2 := d1.new (u := .lst [.bl true, .bl true, .bl false]) nt2
          have d3 := d2.new (u := .tup [.str "NoBox", .ref t1, .ref t2]) nt3
          have n1 := cx.newF nt1
          have n2 := d1.newF nt2
          have n3 := d2.newF nt3
          have s1 := same_new (o := .tup [.int b]) n1
          have s2 := same_new (o := .lst [.bl true, .bl true, .bl false]) n2
          have s3 := same_new (o := .tup [.str "NoBox", .ref t1, .ref t2]) n3
          have hdue : Dp K (upd (upd (upd F9 t1 (.tup [.int b])) t2 (.lst [.bl true, .bl true, .bl false])) t3 (.tup [.str "NoBox", .ref t1, .ref t2])) (.ref t3) (.tuple [.str "NoBox", .tuple [.int b], .list [.bool true, .bool true, .bool false]]) := by
            refine .tup (SqT.of upd_same) (.cons (.str _) (.cons ?_ (.cons ?_ .nil)))
            · exact Dp.mono' (.tup (SqT.of upd_same) (.cons (.int b) .nil)) (s2.trans s3)
            · exact Dp.mono' (.lst (SqL.of upd_same) (.cons (.bl _) (.cons (.bl _) (.cons (.bl _) .nil)))) s3
          have eF2 := (s1.trans s2).trans s3
          generalize upd (upd (upd F9 t1 (.tup [.int b])) t2 (.lst [.bl true, .bl true, .bl false])) t3 (.tup [.str "NoBox", .ref t1, .ref t2]) = F10 at d3 hdue eF2
          clear s1 s2 s3 d1 d2
          walk_at "vc"
          refine i_cut (M := fun σ' H' => ∃ u6 t, σ' = [some (V.ref p), some (.ref a), some (.ref r), y3, some (.int b), some (.bl (decide (0 ≤ b ∧ b < (ns.length : Int)))), some u6, some (.int t), y8] ∧ Ctx F10 p (pen c n' k') H' ∧ Dp K F10 u6 (told ns b) ∧
            ∀ x, inside ns b x = (decide (0 ≤ b ∧ b < (ns.length : Int)) && decide (x ≤ t))) ?_ ?_
          · walk_at "vc"
            refine i_iteD (fun hb => ?_) (fun hb => ?_)
            · have hj : b.toNat < ns.length := by omega
              have hat : atI (ns.map V.int) b = some (.int ns[b.toNat]) := at_of (j := b.toNat) (by omega) (by rw [List.getElem?_map, List.getElem?_eq_getElem hj]; rfl)
              walk_at "vc"
              refine i_ixL (d3.e.seq (eF2.seq (eF.seq hrow))) hat ?_
              walk_at "vc"
              refine i_ixL (d3.e.seq (eF2.seq (eF.seq hrow))) hat ?_
              walk_at "vc"
              refine ⟨_, _, rfl, d3, ?_, fun x => ?_⟩
              · unfold told
                rw [if_pos hb, List.getD_eq_getElem?_getD, List.getElem?_eq_getElem hj]
                exact .int _
              · unfold inside
                rw [decide_eq_true hb, decide_eq_true hb.1, decide_eq_true hb.2, List.getD_eq_getElem?_getD, List.getElem?_eq_getElem hj]
                rfl
            · walk_at "vc"
              refine ⟨_, _, rfl, d3, ?_, fun x => ?_⟩
              · unfold told
                rw [if_neg hb]
                exact hdue
              · unfold inside
                rw [decide_eq_false hb, Bool.false_and]
                by_cases h0 : 0 ≤ b
                · rw [decide_eq_true h0, decide_eq_false (by omega : ¬ b < (ns.length : Int))]
                  rfl
                · rw [decide_eq_false h0]
                  rfl
          · rintro σ' H' ⟨u6, t, rfl, d4, hu6, hin⟩
            walk_at "vc"
            have hcF : IsCut A.C F10 a ns := (hc.mono eF).mono eF2
            refine ⟨a, b, ns, rfl, hcF.mono d4.e, fun v1 H5 e5 dv => ?_⟩
            have d5 := d4.grow e5
            walk_at "vc"
            refine i_same _ dv (Dp.mono' hu6 d5.e) (told_small ns b).1 (told_small ns b).2 fun H6 e6 => ?_
            have d6 := d5.grow e6
            walk_at "vc"
            refine i_takeC d6 (by decide) (by decide) fun dr n6 k6 H7' dr0 dr1 d7 => ?_
            walk_at "vc"
            refine ⟨lenB rfl, fun z2 nz2 => ?_⟩
            have d8 := d7.new (u := .lst [.int 0, .int (max 0 t), .int (t + 1), .int dr]) nz2
            have eF3 := same_new (o := .lst [.int 0, .int (max 0 t), .int (t + 1), .int dr]) (d7.newF nz2)
            have hz2 : upd F10 z2 (.lst [.int 0, .int (max 0 t), .int (t + 1), .int dr]) z2 = some (.lst [.int 0, .int (max 0 t), .int (t + 1), .int dr]) := upd_same
            have hint2 : ∀ x ∈ [V.int 0, V.int (max 0 t), V.int (t + 1), V.int dr], ∃ b, x = V.int b := by
              simp
            refine ⟨z2, rfl, ⟨_, SqL.of upd_same⟩, ?_⟩
            generalize upd F10 z2 (.lst [.int 0, .int (max 0 t), .int (t + 1), .int dr]) = F11 at d8 eF3 hz2
            generalize upd H7' z2 (.lst [.int 0, .int (max 0 t), .int (t + 1), .int dr]) = H8 at d8 ⊢
            generalize [V.int 0, V.int (max 0 t), V.int (t + 1), V.int dr] = xs2 at hint2 hz2 ⊢
            have hcF11 := hcF.mono eF3
            refine for_it (walk_list (K := K) (a := z2) (xs := xs2)) (fun _ σ' H' => ∃ n' k' y8, σ' = [some (V.ref p), some (.ref a), some (.ref r), y3, some (.int b), some (.bl (decide (0 ≤ b ∧ b < (ns.length : Int)))), some u6, some (.int t), y8] ∧ Ctx F11 p (pen c n' k') H') ⟨_, _, _, rfl, d8⟩
              (fun _ _ _ _ pv => ?_) (fun i2 x σ' H' H'' hi pv y => ?_) fun σ' H' pv => ?_
            · obtain ⟨n', k', y8, _, cx⟩ := pv
              exact SqL.of (cx.e _ _ hz2)
            · obtain ⟨n', k', y8, rfl, cx⟩ := pv
              obtain ⟨rfl, hx⟩ := y
              obtain ⟨rd, rfl⟩ := hint2 x (List.mem_of_getElem? hx)
              walk_at "vc"
              refine ⟨lenB rfl, fun t4 nt4 => ?_⟩
              walk_at "vc"
              have d9 := cx.fresh (u := .tup [.int b, .int rd]) nt4
              obtain ⟨dx', l', g1, g2⟩ := id hcF11
              refine ⟨a, dx', _, rfl, d9.e _ _ g1, a, t4, b, rd, ns, rfl, hcF11.mono d9.e, SqT.of upd_same, _, rfl, ?_⟩
              walk_at "vc"
              rw [hin rd]
              refine i_iteD (fun hb => ?_) (fun hb => ?_)
              · walk_at "vc"
                rw [decide_eq_true hb, Bool.true_and]
                refine i_same _ (.bl _) (.bl _) (by show 0 < 4; decide) rfl fun H9 e9 => ?_
                walk_at "vc"
                exact ⟨_, _, _, rfl, d9.grow e9⟩
              · rw [decide_eq_false hb, Bool.false_and]
                walk_at "vc"
                refine i_same _ (.bl _) (.bl _) (by show 0 < 4; decide) rfl fun H9 e9 => ?_
                walk_at "vc"
                exact ⟨_, _, _, rfl, d9.grow e9⟩
            · obtain ⟨n', k', y8, rfl, cx⟩ := pv
              exact ⟨_, _, _, _, _, _, _, _, rfl, ⟨(eF2.trans eF3).trans cx.e, c9.n, cx.h⟩⟩
      · obtain ⟨n', k', y3, y4, y5, y6, y7, y8, rfl, cx⟩ := pv
        walk_at "vc"
        exact q _ _ _ (eF.trans cx.e) cx.h
end
end K13
set_option maxRecDepth 100000
set_option maxHeartbeats 1000000
namespace K13
open PySem PySem.Spec PyProof.Rows L2 VX
local macro_rules | `(tactic| walk_at "ne") => `(tactic| first
  | assumption
  | exact Ne.symm (by assumption)
  | exact ne_of_none (by assumption) (by assumption)
  | exact Ne.symm (ne_of_none (by assumption) (by assumption))
  | ((with_reducible refine' ne_of_none ?n1 ?n2); (case n2 => assumption); (case n1 => walk_at "lk"))
  | ((with_reducible refine' Ne.symm (ne_of_none ?n1 ?n2)); (case n2 => assumption); (case n1 => walk_at "lk")))
local macro_rules | `(tactic| walk_at "lk") => `(tactic| first
  | assumption
  | (with_reducible exact upd_same)
  | ((with_reducible refine' (upd_ne ?nn).trans ?ll); (case nn => walk_at "ne"); (case ll => walk_at "lk"))
  | ((with_reducible refine' VX.same_at ?nn ?ll); (case nn => assumption); (case ll => walk_at "lk")))
local macro_rules | `(tactic| walk_at "dp") => `(tactic| first
  | assumption
  | (with_reducible exact Dp.non)
  | (with_reducible exact Dp.bl _)
  | (with_reducible exact Dp.int _)
  | (with_reducible exact Dp.str _)
  | ((with_reducible refine' VX.Dp.mono' ?dd (same_new ?nn)); (case nn => assumption); (case dd => walk_at "dp"))
  | ((with_reducible refine' VX.Dp.mono' ?dd ?nn); (case nn => assumption); (case dd => walk_at "dp")))
local macro_rules | `(tactic| walk_at "sq") => `(tactic| first
  | assumption
  | (with_reducible exact SqL.of (by assumption))
  | (with_reducible exact SqT.of (by assumption))
  | ((with_reducible refine' Same.seq (same_new ?nn) ?qq); (case nn => assumption); (case qq => walk_at "sq"))
  | ((with_reducible refine' same_sqT (same_new ?nn) ?qq); (case nn => assumption); (case qq => walk_at "sq"))
  | ((with_reducible refine' Same.seq ?nn ?qq); (case nn => assumption); (case qq => walk_at "sq"))
  | ((with_reducible refine' same_sqT ?nn ?qq); (case nn => assumption); (case qq => walk_at "sq"))
  | ((with_reducible refine' SqL.of ?qq); (case qq => walk_at "lk"))
  | ((with_reducible refine' SqT.of ?qq); (case qq => walk_at "lk")))
local macro_rules | `(tactic| walk_at "cc") => `(tactic| first
  | exact ⟨by decide, by decide, by decide⟩
  | (show _ ≠ _; omega)
  | exact ⟨by omega, by omega⟩
  | exact Or.inl ⟨by omega, by omega⟩
  | exact Or.inr ⟨by omega, by omega⟩)
local macro_rules | `(tactic| walk_at "vcA") => `(tactic| repeat (first
  | ((with_reducible refine' VX.i_modA ?v1 ?_); (case v1 => omega); intro r hr0 hr1)
  | ((with_reducible refine' VX.i_divA ?v1 ?v2 ?_); (case v1 => omega); (case v2 => omega); intro r hr0 hr1)
  | walk_at "vc1"))
local macro_rules | `(tactic| walk_at "vc1") => `(tactic| first
  | ((with_reducible refine' VX.i_var ?v1 ?_); (case v1 => rfl))
  | (with_reducible refine' VX.i_c ?_)
  | (with_reducible refine' VX.i_op ?_)
  | (with_reducible refine' VX.i_cons ?_)
  | (with_reducible refine' VX.i_nil ?_)
  | (with_reducible refine' VX.i_seq ?_)
  | (with_reducible refine' VX.i_asg ?_)
  | ((with_reducible refine' VX.i_gname ?v2 ?_); (case v2 => (first | (simp only [List.set_cons_zero, List.set_cons_succ]; done) | (simp only [List.set_cons_zero, List.set_cons_succ]; exact rfl) | exact rfl)))
  | (with_reducible refine' VX.i_ifS ?_)
  | (with_reducible refine' VX.i_test ?_)
  | (with_reducible refine' VX.i_tB ?_)
  | (with_reducible refine' VX.i_bl ?_)
  | (with_reducible refine' VX.i_iteT ?_)
  | (with_reducible refine' VX.i_iteF ?_)
  | (with_reducible refine' VX.i_iteNT ?_)
  | (with_reducible refine' VX.i_iteNF ?_)
  | (with_reducible refine' VX.i_and ?_)
  | (with_reducible refine' VX.i_or ?_)
  | (with_reducible refine' VX.i_not ?_)
  | (with_reducible refine' VX.i_call ?_)
  | (with_reducible refine' VX.i_CB ?_)
  | (with_reducible refine' VX.i_make ?_)
  | (with_reducible refine' VX.i_makeK0 ?_)
  | (with_reducible refine' VX.i_mthK ?_)
  | (with_reducible refine' VX.i_mthS ?_)
  | (with_reducible refine' VX.i_meth ?_)
  | ((with_reducible refine' VX.i_ixL ?v1 ?v2 ?_); (case v1 => walk_at "sq"); (case v2 => first | rfl | assumption))
  | ((with_reducible refine' VX.i_ixT ?v1 ?v2 ?_); (case v1 => walk_at "sq"); (case v2 => first | rfl | assumption))
  | ((with_reducible refine' VX.i_setLU ?v2 ?v3 ?_); (case v2 => rfl); (case v3 => rfl))
  | ((with_reducible refine' VX.i_setL ?v1 ?v2 ?v3 ?_); (case v1 => walk_at "lk"); (case v2 => rfl); (case v3 => rfl))
  | (with_reducible refine' VX.i_rI0 ?_)
  | ((with_reducible refine' VX.i_rI ?v1 ?_); (case v1 => walk_at "cc"))
  | (with_reducible refine' VX.i_int ?_)
  | ((with_reducible refine' VX.i_rEqS ?v1 ?_); (case v1 => rfl))
  | ((with_reducible refine' VX.i_rNeS ?v1 ?_); (case v1 => rfl))
  | (with_reducible refine' VX.i_rEqI ?_)
  | (with_reducible refine' VX.i_rNeI ?_)
  | (with_reducible refine' VX.i_max2 ?_)
  | (with_reducible refine' VX.i_min2 ?_)
  | ((with_reducible refine' VX.i_lenL ?v1 ?_); (case v1 => walk_at "sq"))
  | ((with_reducible refine' VX.i_lenT ?v1 ?_); (case v1 => walk_at "sq"))
  | (with_reducible refine' VX.i_chain ?_)
  | (with_reducible refine' VX.i_gsub ?_)
  | (with_reducible refine' VX.i_ret ?_)
  | (with_reducible refine' VX.i_drop ?_)
  | (with_reducible refine' VX.i_next ?_)
  | (with_reducible refine' VX.i_retN ?_)
  | (with_reducible refine' VX.i_andV ?_)
  | (with_reducible refine' VX.i_orV ?_)
  | (with_reducible refine' VX.i_notV ?_)
  | (with_reducible refine' VX.i_ifE ?_)
  | (with_reducible refine' VX.i_un ?_)
  | (with_reducible refine' VX.i_rU ?_)
  | (with_reducible refine' VX.i_tup ?_)
  | (with_reducible refine' VX.i_lst ?_)
  | ((with_reducible refine' VX.i_fldv ?v1 ?v2 ?v3 ?v4 ?v5 ?_); (case v1 => rfl); (case v2 => walk_at "lk"); (case v3 => walk_at "cl"); (case v4 => walk_at "na"); (case v5 => first | rfl | assumption))
  | (with_reducible refine' VX.i_fld ?_)
  | (with_reducible refine' VX.i_sFld ?_)
  | (with_reducible refine' VX.i_mk1 ?_)
  | (with_reducible refine' VX.i_mk1v ?_)
  | (with_reducible refine' VX.i_gnil ?_)
  | (with_reducible refine' VX.i_lc ?_)
  | (with_reducible refine' VX.i_for ?_)
  | (with_reducible refine' VX.i_lstRg ?_)
  | (with_reducible refine' VX.i_rg2 ?_)
  | (with_reducible refine' VX.i_rg2v ?_)
  | (with_reducible refine' VX.i_yes ?_)
  | (with_reducible refine' VX.i_iList ?_)
  | (with_reducible refine' VX.i_iRng1 ?_)
  | (with_reducible refine' VX.i_iRng2 ?_)
  | (with_reducible refine' VX.i_iEnum ?_)
  | (with_reducible refine' VX.i_iZip ?_)
  | (with_reducible refine' VX.i_iOwn ?_)
  | ((with_reducible refine' VX.i_wipe ?v1 ?_); (case v1 => rfl))
  | (with_reducible refine' VX.i_andN ?_)
  | (with_reducible refine' VX.i_iteNDS ?_)
  | (with_reducible refine' VX.i_bm ?_)
  | ((with_reducible refine' VX.i_tyL ?v1 ?_); (case v1 => walk_at "sq"))
  | ((with_reducible refine' VX.i_append ?v1 ?v2 ?_); (case v1 => walk_at "lk"); (case v2 => (simp only [List.length_map, List.length_cons, List.length_nil, List.length_append]; omega)))
  | ((with_reducible refine' VX.i_iteDT ?v1 ?_); (case v1 => rfl))
  | ((with_reducible refine' VX.i_iteDF ?v1 ?_); (case v1 => intro h; cases h))
  | ((with_reducible refine' VX.i_isiD ?v1 ?v2 ?_); (case v1 => walk_at "dp"); (case v2 => decide))
  | ((with_reducible refine' VX.i_iteBT ?v1 ?_); (case v1 => rfl))
  | ((with_reducible refine' VX.i_iteBF ?v1 ?_); (case v1 => rfl))
  | (with_reducible refine' VX.i_gcons ?_)
  | ((with_reducible refine' VX.i_gtup ?v1 ?v2 ?_); (case v1 => walk_at "sq"); (case v2 => rfl)))
local macro_rules | `(tactic| walk_at "vc") => `(tactic| repeat walk_at "vc1")

local macro_rules | `(tactic| walk_at "cl") => `(tactic| exact Txt.cl (by assumption))
local macro_rules | `(tactic| walk_at "na") => `(tactic| exact Txt.nA (by assumption))
/-! ### heights, compared -/
theorem ext0 {xs ys : List Int} (hl : xs.length = ys.length) (h : ∀ i, i < xs.length → xs.getD i 0 = ys.getD i 0) : xs = ys := by
  apply List.ext_getElem hl
  intro i h1 h2
  have q := h i h1
  rw [List.getD_eq_getElem?_getD, List.getD_eq_getElem?_getD, List.getElem?_eq_getElem h1, List.getElem?_eq_getElem h2] at q
  exact q
theorem zip_at (f : Int → Int → Int) {xs ys : List Int} {i : Nat} (h1 : i < xs.length) (h2 : i < ys.length) : (List.zipWith f xs ys).getD i 0 = f (xs.getD i 0) (ys.getD i 0) := by
  simp only [List.getD_eq_getElem?_getD]
  rw [List.getElem?_zipWith, List.getElem?_eq_getElem h1, List.getElem?_eq_getElem h2]
  rfl
theorem mx_len {xs ys : List Int} (hl : xs.length = ys.length) : (mx2 xs ys).length = xs.length := by
  unfold mx2
  rw [List.length_zipWith]
  omega
theorem mn_len {xs ys : List Int} (hl : xs.length = ys.length) : (mn2 xs ys).length = xs.length := by
  unfold mn2
  rw [List.length_zipWith]
  omega
theorem wth_iff {xs ys : List Int} (hl : xs.length = ys.length) : wth xs ys = true ↔ ∀ i, i < xs.length → xs.getD i 0 ≤ ys.getD i 0 := by
  unfold wth
  rw [List.all_eq_true]
  constructor
  · intro h i hi
    have q := h _ (List.mem_map.mpr ⟨i, List.mem_range.mpr hi, rfl⟩)
    unfold inside at q
    rw [show ((i : Nat) : Int).toNat = i from rfl] at q
    have q : (decide (0 ≤ (i : Int)) && (decide ((i : Int) < (ys.length : Int)) && decide (xs.getD i 0 ≤ ys.getD i 0))) = true := q
    exact of_decide_eq_true (Bool.and_eq_true_iff.mp (Bool.and_eq_true_iff.mp q).2).2
  · intro h b hb
    obtain ⟨i, hi, rfl⟩ := List.mem_map.mp hb
    have hi := List.mem_range.mp hi
    show inside ys (i : Int) (xs.getD i 0) = true
    unfold inside
    rw [decide_eq_true (by omega : (0 : Int) ≤ (i : Int)), decide_eq_true (by omega : (i : Int) < (ys.length : Int))]
    exact decide_eq_true (h i hi)
theorem wth_mx {xs ys : List Int} (hl : xs.length = ys.length) : wth xs ys = decide (mx2 xs ys = ys) := by
  rw [Bool.eq_iff_iff, wth_iff hl, decide_eq_true_iff]
  constructor
  · intro h
    refine ext0 (by rw [mx_len hl, hl]) fun i hi => ?_
    rw [mx_len hl] at hi
    unfold mx2
    rw [zip_at max hi (by omega)]
    have q := h i hi
    omega
  · intro h i hi
    have q := zip_at max hi (by omega : i < ys.length)
    have e : List.zipWith max xs ys = ys := h
    rw [e] at q
    omega
theorem mn_mx {xs ys : List Int} (hl : xs.length = ys.length) : decide (mn2 xs ys = xs) = decide (mx2 xs ys = ys) := by
  rw [← wth_mx hl, Bool.eq_iff_iff, wth_iff hl, decide_eq_true_iff]
  constructor
  · intro h i hi
    have q := zip_at min hi (by omega : i < ys.length)
    have e : List.zipWith min xs ys = xs := h
    rw [e] at q
    omega
  · intro h
    refine ext0 (mn_len hl) fun i hi => ?_
    rw [mn_len hl] at hi
    unfold mn2
    rw [zip_at min hi (by omega)]
    have q := h i hi
    omega
theorem wth_up {xs ys : List Int} (hl : xs.length = ys.length) : wth xs (mx2 xs ys) = true := by
  rw [wth_iff (mx_len hl).symm]
  intro i hi
  unfold mx2
  rw [zip_at max hi (by omega)]
  omega
theorem wth_low {xs ys : List Int} (hl : xs.length = ys.length) : wth (mn2 xs ys) ys = true := by
  rw [wth_iff (by rw [mn_len hl, hl])]
  intro i hi
  rw [mn_len hl] at hi
  unfold mn2
  rw [zip_at min hi (by omega)]
  omega
theorem mn_joined {a b c : List Int} (h1 : a.length = b.length) (h2 : a.length = c.length) : mn2 (mx2 a b) c = mx2 (mn2 a c) (mn2 b c) := by
  have l1 := mx_len h1
  have l2 := mn_len h2
  have l3 := mn_len (h1.symm.trans h2)
  have l4 : (mx2 (mn2 a c) (mn2 b c)).length = (mn2 a c).length := mx_len (by omega)
  have l5 : (mn2 (mx2 a b) c).length = (mx2 a b).length := mn_len (by omega)
  refine ext0 (by omega) fun i hi => ?_
  show (List.zipWith min (mx2 a b) c).getD i 0 = (List.zipWith max (mn2 a c) (mn2 b c)).getD i 0
  rw [zip_at min (by omega : i < (mx2 a b).length) (by omega), zip_at max (by omega : i < (mn2 a c).length) (by omega)]
  unfold mx2 mn2
  rw [zip_at max (by omega) (by omega), zip_at min (by omega) (by omega), zip_at min (by omega) (by omega)]
  omega
theorem mx_rng {ns ms : List Int} (hl : ns.length = ms.length) : (List.range ns.length).map (fun i => V.int (max (ns.getD i 0) (ms.getD i 0))) = (mx2 ns ms).map V.int := by
  refine map_ints ns ns.length _ _ (mx_len hl) fun i z hz => ?_
  have hi : i < (mx2 ns ms).length := (List.getElem?_eq_some_iff.mp hz).1
  rw [mx_len hl] at hi
  have q := zip_at max hi (by omega : i < ms.length)
  rw [List.getD_eq_getElem?_getD, show (List.zipWith max ns ms)[i]? = some z from hz] at q
  exact q.symm
theorem mn_rng {ns ms : List Int} (hl : ns.length = ms.length) : (List.range ns.length).map (fun i => V.int (min (ns.getD i 0) (ms.getD i 0))) = (mn2 ns ms).map V.int := by
  refine map_ints ns ns.length _ _ (mn_len hl) fun i z hz => ?_
  have hi : i < (mn2 ns ms).length := (List.getElem?_eq_some_iff.mp hz).1
  rw [mn_len hl] at hi
  have q := zip_at min hi (by omega : i < ms.length)
  rw [List.getD_eq_getElem?_getD, show (List.zipWith min ns ms)[i]? = some z from hz] at q
  exact q.symm
section
variable {P : Program} {w : World} {K : PySem.W.Frag} {mg : Str → Option Value} {base : Heap} {A : Adr}
theorem kb_within (T : Txt K mg A) : KBn K A.dW ["self", "other"] 1 ["other"] (fun us ws => us ++ ws) (fun us ws => us ++ ws) := kbn_of T.F_Cut_within fun _ _ _ _ _ _ us ws h1 h2 => match us, ws, h1, h2 with | [_], [_], _, _ => rfl
def spPair (C : Addr) (K : PySem.W.Frag) : Sp := fun vs H Q _ => ∃ (p a b r o : Addr) (c n k : Int) (ns ms : List Int), vs = [.ref p, .ref a, .ref b, .ref r, .ref o] ∧ H p = some (pen c n k) ∧ IsCut C (del H p) a ns ∧ IsCut C (del H p) b ms ∧
  SqL K (del H p) r (ns.map V.int) ∧ SqL K (del H p) o (ms.map V.int) ∧ ns.length ≤ 900 ∧ ns.length = ms.length ∧ ∀ H' n' k', Same (del H p) H' → H' p = some (pen c n' k') → Q (.bl true) H'
theorem i_tellsC {F H : Hp} {Q : VK} {E : XK} {p a r : Addr} {c n k : Int} {ns : List Int} (x : Ctx F p (pen c n k) H) (hc : IsCut A.C F a ns) (hr : SqL K F r (ns.map V.int)) (hl : ns.length ≤ 900)
    (q : ∀ n' k' H', Ctx F p (pen c n' k') H' → Q (.bl true) H') : spTells A.C K [.ref p, .ref a, .ref r] H Q E := ⟨p, a, r, c, n, k, ns, rfl, x.h, hc.mono x.all, x.all.seq hr, hl, fun H' n' k' e h => q n' k' H' (x.to e h)⟩
theorem i_eqC {H : Hp} {Q : VK} {E : XK} (T : Txt K mg A) {a b : Addr} {ns ms : List Int} (ha : IsCut A.C H a ns) (hb : IsCut A.C H b ms) (q : Q (.bl (decide (ns = ms))) H) : rEqOwn K A.C (spEqC A.C K) E (.ref a) (.ref b) H Q := by
  obtain ⟨dx, l, h1, h2⟩ := id ha
  exact ⟨a, dx, _, _, rfl, h1, cut_ty T hb, by unfold PySem.W.notFirst; rw [beq_self_eq_true]; rfl, a, _, ns, rfl, ha, .inl ⟨b, ms, rfl, hb, q⟩⟩
theorem i_neC {H : Hp} {Q : VK} {E : XK} (T : Txt K mg A) {a : Addr} {y : V} {t : String} {ns : List Int} (ha : IsCut A.C H a ns) (hy : TyX K H y (.type t)) (ht : t ∈ (["list", "tuple", "NoneType", "int", "bool", "str"] : List String)) (q : Q (.bl false) H) : rEqOwn K A.C (spEqC A.C K) E (.ref a) y H Q := by
  obtain ⟨dx, l, h1, h2⟩ := id ha
  exact ⟨a, dx, _, _, rfl, h1, hy, T.nf t ht, a, _, ns, rfl, ha, .inr ⟨t, hy, ht, q⟩⟩
theorem i_binC {H : Hp} {Q : VK} {E : XK} {f : List Int → List Int → List Int} {a b : Addr} {ns ms : List Int} (ha : IsCut A.C H a ns) (hb : IsCut A.C H b ms) (hl : ns.length ≤ 1000) (hm : ns.length = ms.length)
    (q : ∀ c H', Same H H' → NewCut A.C H H' c (f ns ms) → Q (.ref c) H') : rBinOwn A.C (spBin A.C f) E (.ref a) (.ref b) H Q := by
  obtain ⟨dx, l, h1, h2⟩ := id ha
  obtain ⟨dy, k, h3, h4⟩ := id hb
  exact ⟨a, b, dx, dy, _, _, rfl, rfl, h1, h3, a, b, ns, ms, rfl, ha, hb, hl, hm, q⟩
theorem i_listC {H : Hp} {Q : VK} {a : Addr} {ns : List Int} (ha : IsCut A.C H a ns) (q : ∀ z, H z = none → Q (.ref z) (upd H z (.lst (ns.map V.int)))) : rListOwn K A.C "_heights" [.ref a] H Q := by
  obtain ⟨dx, l, h1, h2⟩ := id ha
  exact ⟨a, dx, _, l, _, rfl, h1, rfl, SqL.of h2, q⟩
theorem Ctx.hold {F H : Hp} {p q : Addr} {o u : HO} (c : Ctx F p o H) (h : H q = some u) (ne : q ≠ p) : ∃ F', Same F F' ∧ F' q = some u ∧ Ctx F' p o H := ⟨del H p, c.all, del_of h ne, .start c.h⟩
theorem Ctx.cut {F H H' : Hp} {p a : Addr} {o : HO} {C : Addr} {ns : List Int} (c : Ctx F p o H) (e : Same H H') (n : NewCut C H H' a ns) : ∃ F', Same F F' ∧ IsCut C F' a ns ∧ Ctx F' p o H' := ⟨del H' p, (c.grow e).all, n.keep c.h, .start (e _ _ c.h)⟩
theorem ok_pair_tells (T : Txt K mg A) : FnOk P w K mg base CX0 6 A.pair A.dpair ["_law_pen_here", "_law_first", "_law_second_here", "_law_row_here", "_law_other"] (spPair A.C K) := by
  refine T.F_pair_tells.ok sc_pair_tells (fun vs H Q E h => ?_) (fun cdv A' outer s H vs Q E hr h => ?_)
  · obtain ⟨p, a, b, r, o, c, n, k, ns, ms, rfl, _⟩ := h
    rfl
  · obtain ⟨p, a, b, r, o, c, n, k, ns, ms, rfl, hp, ha, hb, hrow, hoth, hl, hlm, q⟩ := h
    refine ⟨_, (pss_cons (ps_setLc (i := 5) (own := [("_law_at", 6)]) (g := gName 6) (tt := tYes) (by rfl) sc_pair_tells.nd rfl rfl (sw_true rfl rfl rfl (by decide +kernel)) (pi_range1 (by rfl) T.n_range (pa_cons (pe_callB (r := rLenS K) call_lenS (by rfl) T.n_len PySem.boot_len (pa_cons (pv 3) pa_nil)) pa_nil)) (blkOk_by (N := N_pair_tells) (sc := defScope s_pair_tells) (by decide +kernel)) (fun _ _ _ _ _ => (pg_name (i := 6) sc_pair_tells.nd rfl (Or.inl rfl))) (fun _ _ _ _ _ => pts_nil) (fun _ _ _ _ _ => (pe_callB (call_mx2 rfl) (by rfl) T.n_max (by decide +kernel) (pa_cons (pe_ix (r := rIxL K) ix_list (pv 3) (pv 6) (fun _ _ => rfl)) (pa_cons (pe_ix (r := rIxL K) ix_list (pv 4) (pv 6) (fun _ _ => rfl)) pa_nil)))))
      (pss_cons (ps_setLc (i := 7) (own := [("_law_at", 6)]) (g := gName 6) (tt := tYes) (by rfl) sc_pair_tells.nd rfl rfl (sw_true rfl rfl rfl (by decide +kernel)) (pi_range1 (by rfl) T.n_range (pa_cons (pe_callB (r := rLenS K) call_lenS (by rfl) T.n_len PySem.boot_len (pa_cons (pv 3) pa_nil)) pa_nil)) (blkOk_by (N := N_pair_tells) (sc := defScope s_pair_tells) (by decide +kernel)) (fun _ _ _ _ _ => (pg_name (i := 6) sc_pair_tells.nd rfl (Or.inl rfl))) (fun _ _ _ _ _ => pts_nil) (fun _ _ _ _ _ => (pe_callB (call_mn2 rfl) (by rfl) T.n_min (by decide +kernel) (pa_cons (pe_ix (r := rIxL K) ix_list (pv 3) (pv 6) (fun _ _ => rfl)) (pa_cons (pe_ix (r := rIxL K) ix_list (pv 4) (pv 6) (fun _ _ => rfl)) pa_nil)))))
      (pss_cons (ps_set (i := 8) sc_pair_tells.nd rfl (Or.inl rfl) (pe_op (op_binOwn (op := .BitOr) T.sf T.s_or T.i_or (ok_Cut_or T) (hr.mono (by decide)) (b_Cut_or T) pass0) (pv 1) (pv 2)))
      (pss_cons (ps_set (i := 9) sc_pair_tells.nd rfl (Or.inl rfl) (pe_op (op_binOwn (op := .BitAnd) T.sf T.s_and T.i_and (ok_Cut_and T) (hr.mono (by decide)) (b_Cut_and T) pass0) (pv 1) (pv 2)))
      (pss_cons (ps_if (PW.pt (pw_or (pt_not (pt_val (pe_call (ok_tells T) (hr.mono (by decide)) (by rfl) T.g_tells T.F_tells.kp (b_tells T) .nil pass0 (pa_cons (pv 0) (pa_cons (pv 8) (pa_cons (pv 5) pa_nil)))))) (pw_or1 (pt_not (pt_val (pe_call (ok_tells T) (hr.mono (by decide)) (by rfl) T.g_tells T.F_tells.kp (b_tells T) .nil pass0 (pa_cons (pv 0) (pa_cons (pv 9) (pa_cons (pv 7) pa_nil))))))))) (pss_one (ps_ret pe_bl)) pss_nil)
      (pss_cons (ps_set (i := 10) sc_pair_tells.nd rfl (Or.inl rfl) (pe_cmpR (op_eqD hr.units) (pv 5) (pv 4) (nomark _)))
      (pss_cons (ps_if (PW.pt (pw_or (pt_not (pt_val (pe_call (ok_same T) (hr.mono (by decide)) (by rfl) T.g_same T.F_same.kp (b_same T) .nil pass0 (pa_cons (pe_cmpR (op_eqOwn T.s_eq T.i_eq (ok_Cut_eq T) (hr.mono (by decide)) (b_Cut_eq T) pass0 ty_looks) (pv 1) (pv 2) (nomark _)) (pa_cons (pe_cmpR (op_eqD hr.units) (pv 3) (pv 4) (nomark _)) pa_nil))))) (pw_or1 (pt_not (pt_val (pe_call (ok_same T) (hr.mono (by decide)) (by rfl) T.g_same T.F_same.kp (b_same T) .nil pass0 (pa_cons (pe_meth (pv 1) T.cl T.m_within (ok_Cut_within T) (hr.mono (by decide)) (b_Cut_within T) .nil pass0 (pa_cons (pv 2) pa_nil)) (pa_cons (pv 10) pa_nil)))))))) (pss_one (ps_ret pe_bl)) pss_nil)
      (pss_cons (ps_if (PW.pt (pw_or (pt_not (pt_val (pe_call (ok_same T) (hr.mono (by decide)) (by rfl) T.g_same T.F_same.kp (b_same T) .nil pass0 (pa_cons (pe_cmpR (op_eqOwn T.s_eq T.i_eq (ok_Cut_eq T) (hr.mono (by decide)) (b_Cut_eq T) pass0 ty_looks) (pv 8) (pv 2) (nomark _)) (pa_cons (pv 10) pa_nil))))) (pw_or1 (pt_not (pt_val (pe_call (ok_same T) (hr.mono (by decide)) (by rfl) T.g_same T.F_same.kp (b_same T) .nil pass0 (pa_cons (pe_cmpR (op_eqOwn T.s_eq T.i_eq (ok_Cut_eq T) (hr.mono (by decide)) (b_Cut_eq T) pass0 ty_looks) (pv 9) (pv 1) (nomark _)) (pa_cons (pv 10) pa_nil)))))))) (pss_one (ps_ret pe_bl)) pss_nil)
      (pss_cons (ps_if (PW.pt (pw_or (pt_not (pt_val (pe_call (ok_same T) (hr.mono (by decide)) (by rfl) T.g_same T.F_same.kp (b_same T) .nil pass0 (pa_cons (pe_meth (pv 1) T.cl T.m_within (ok_Cut_within T) (hr.mono (by decide)) (b_Cut_within T) .nil pass0 (pa_cons (pv 8) pa_nil)) (pa_cons pe_bl pa_nil))))) (pw_or1 (pt_not (pt_val (pe_call (ok_same T) (hr.mono (by decide)) (by rfl) T.g_same T.F_same.kp (b_same T) .nil pass0 (pa_cons (pe_mthK (pv 9) T.cl T.m_within (ok_Cut_within T) (hr.mono (by decide)) (kb_within T) (E := fun _ => E0) (fun _ _ _ _ _ _ _ h => h.elim) (pk_cons (pv 2) pk_nil)) (pa_cons pe_bl pa_nil)))))))) (pss_one (ps_ret pe_bl)) pss_nil)
      (pss_one (ps_ret (pe_and (pe_call (ok_same T) (hr.mono (by decide)) (by rfl) T.g_same T.F_same.kp (b_same T) .nil pass0 (pa_cons (pe_callTy (call_listOwn2 rfl (hr.mono (by decide)) T.oi T.nl T.nh (ok_Cut_iter T) (b_Cut_iter T)) (by rfl) T.n_list (by decide +kernel) (pa_cons (pv 1) pa_nil)) (pa_cons (pv 3) pa_nil))) (pe_one (pe_call (ok_same T) (hr.mono (by decide)) (by rfl) T.g_same T.F_same.kp (b_same T) .nil pass0 (pa_cons (pe_callTy (call_listOwn2 rfl (hr.mono (by decide)) T.oi T.nl T.nh (ok_Cut_iter T) (b_Cut_iter T)) (by rfl) T.n_list (by decide +kernel) (pa_cons (pv 2) pa_nil)) (pa_cons (pv 4) pa_nil)))))))))))))))), ?_⟩
    refine i_start (σ' := [some (V.ref p), some (.ref a), some (.ref b), some (.ref r), some (.ref o), none, none, none, none, none, none]) rfl ?_
    have c0 : Ctx (del H p) p (pen c n k) H := .start hp
    generalize del H p = F at ha hb hrow hoth q c0
    have q : ∀ F' H' n' k', Same F F' → Ctx F' p (pen c n' k') H' → Q (.bl true) H' := fun F' H' n' k' e x => q H' n' k' (e.trans x.e) x.h
    have la := mx_len hlm
    have lb := mn_len hlm
    walk_at "vc"
    refine i_lenL (c0.e.seq hrow) ?_
    walk_at "vc"
    rw [List.length_map]
    refine ⟨(ns.length : Int), rfl, by omega, by omega, fun D nD => ?_⟩
    refine lc_map (walk_range (lo := 0) (n := ns.length)) (Same.refl H) nD (by omega) (fun i => .int (max (ns.getD i 0) (ms.getD i 0))) (fun _ _ => trivial) (fun i x H1 H2 hi e y => ?_) fun H1 e1 hD => ?_
    · obtain ⟨rfl, rfl⟩ := y
      refine ⟨Same.refl _, fun R hR => ?_⟩
      walk_at "vc"
      have c1 := c0.grow e
      refine i_ixL (c1.e.seq hrow) (v := .int (ns.getD i 0)) ?_ ?_
      · rw [Int.zero_add, List.getD_eq_getElem?_getD, List.getElem?_eq_getElem hi]
        exact ints_at (List.getElem?_eq_getElem hi)
      walk_at "vc"
      refine i_ixL (c1.e.seq hoth) (v := .int (ms.getD i 0)) ?_ ?_
      · have hi : i < ms.length := by omega
        rw [Int.zero_add, List.getD_eq_getElem?_getD, List.getElem?_eq_getElem hi]
        exact ints_at (List.getElem?_eq_getElem hi)
      walk_at "vc"
      exact hR _ (Same.refl _)
    rw [mx_rng hlm] at hD
    obtain ⟨F1, eF1, hD, c1⟩ := Ctx.hold (c0.grow e1) hD (c0.ne nD)
    walk_at "vc"
    refine i_lenL (c1.e.seq (eF1.seq hrow)) ?_
    walk_at "vc"
    rw [List.length_map]
    refine ⟨(ns.length : Int), rfl, by omega, by omega, fun D2 nD2 => ?_⟩
    refine lc_map (walk_range (lo := 0) (n := ns.length)) (Same.refl H1) nD2 (by omega) (fun i => .int (min (ns.getD i 0) (ms.getD i 0))) (fun _ _ => trivial) (fun i x H1 H2 hi e y => ?_) fun H2 e2 hD2 => ?_
    · obtain ⟨rfl, rfl⟩ := y
      refine ⟨Same.refl _, fun R hR => ?_⟩
      walk_at "vc"
      have c2 := c1.grow e
      refine i_ixL (c2.e.seq (eF1.seq hrow)) (v := .int (ns.getD i 0)) ?_ ?_
      · rw [Int.zero_add, List.getD_eq_getElem?_getD, List.getElem?_eq_getElem hi]
        exact ints_at (List.getElem?_eq_getElem hi)
      walk_at "vc"
      refine i_ixL (c2.e.seq (eF1.seq hoth)) (v := .int (ms.getD i 0)) ?_ ?_
      · have hi : i < ms.length := by omega
        rw [Int.zero_add, List.getD_eq_getElem?_getD, List.getElem?_eq_getElem hi]
        exact ints_at (List.getElem?_eq_getElem hi)
      walk_at "vc"
      exact hR _ (Same.refl _)
    rw [mn_rng hlm] at hD2
    obtain ⟨F2, eF2, hD2, c2⟩ := Ctx.hold (c1.grow e2) hD2 (c1.ne nD2)
    replace eF1 := eF1.trans eF2
    replace hD := eF2 _ _ hD
    clear c1 c0 nD nD2 e1 e2 hp
    walk_at "vc"
    refine i_binC ((ha.mono eF1).mono c2.e) ((hb.mono eF1).mono c2.e) (by omega) hlm fun u H3 e3 nu => ?_
    obtain ⟨F3, eF3, hu, c3⟩ := Ctx.cut c2 e3 nu
    replace eF1 := eF1.trans eF3
    replace hD := eF3 _ _ hD
    replace hD2 := eF3 _ _ hD2
    clear c2 e3 nu eF2 eF3
    walk_at "vc"
    refine i_binC ((ha.mono eF1).mono c3.e) ((hb.mono eF1).mono c3.e) (by omega) hlm fun v H4 e4 nv => ?_
    obtain ⟨F4, eF4, hv, c4⟩ := Ctx.cut c3 e4 nv
    replace eF1 := eF1.trans eF4
    replace hD := eF4 _ _ hD
    replace hD2 := eF4 _ _ hD2
    replace hu := hu.mono eF4
    clear c3 e4 nv eF4
    have q := fun H' n' k' x => q F4 H' n' k' eF1 x
    replace ha := ha.mono eF1
    replace hb := hb.mono eF1
    replace hrow := eF1.seq hrow
    replace hoth := eF1.seq hoth
    clear eF1
    walk_at "vc"
    refine i_tellsC c4 hu (SqL.of hD) (by omega) fun n5 k5 H5 c5 => ?_
    walk_at "vc"
    refine i_tellsC c5 hv (SqL.of hD2) (by omega) fun n6 k6 H6 c6 => ?_
    walk_at "vc"
    refine i_eqInts (SqL.of (c6.e _ _ hD)) (c6.e.seq hoth) ?_
    walk_at "vc"
    refine i_eqC T (ha.mono c6.e) (hb.mono c6.e) ?_
    walk_at "vc"
    refine i_eqInts (c6.e.seq hrow) (c6.e.seq hoth) ?_
    walk_at "vc"
    refine i_same _ (.bl _) (.bl _) (by show 0 < 4; decide) rfl fun H7 e7 => ?_
    have c7 := c6.grow e7
    walk_at "vc"
    obtain ⟨dx, l, h1, h2⟩ := id (ha.mono c7.e)
    refine ⟨a, dx, _, rfl, h1, rfl, ?_⟩
    walk_at "vc"
    refine ⟨a, b, ns, ms, rfl, ha.mono c7.e, hb.mono c7.e, by omega, fun H8 e8 => ?_⟩
    have c8 := c7.grow e8
    walk_at "vc"
    rw [wth_mx hlm]
    refine i_same _ (.bl _) (.bl _) (by show 0 < 4; decide) rfl fun H9 e9 => ?_
    have c9 := c8.grow e9
    walk_at "vc"
    refine i_eqC T (hu.mono c9.e) (hb.mono c9.e) ?_
    walk_at "vc"
    refine i_same _ (.bl _) (.bl _) (by show 0 < 4; decide) rfl fun H10 e10 => ?_
    have c10 := c9.grow e10
    walk_at "vc"
    refine i_eqC T (hv.mono c10.e) (ha.mono c10.e) ?_
    walk_at "vc"
    rw [mn_mx hlm]
    refine i_same _ (.bl _) (.bl _) (by show 0 < 4; decide) rfl fun H11 e11 => ?_
    have c11 := c10.grow e11
    clear h1 h2
    walk_at "vc"
    obtain ⟨dx, l, h1, h2⟩ := id (ha.mono c11.e)
    refine ⟨a, dx, _, rfl, h1, rfl, ?_⟩
    walk_at "vc"
    refine ⟨a, u, ns, mx2 ns ms, rfl, ha.mono c11.e, hu.mono c11.e, by omega, fun H12 e12 => ?_⟩
    have c12 := c11.grow e12
    walk_at "vc"
    rw [wth_up hlm]
    refine i_same _ (.bl _) (.bl _) (by show 0 < 4; decide) rfl fun H13 e13 => ?_
    have c13 := c12.grow e13
    clear h1 h2
    walk_at "vc"
    obtain ⟨dx, l, h1, h2⟩ := id (hv.mono c13.e)
    refine ⟨v, dx, _, rfl, h1, rfl, ?_⟩
    walk_at "vc"
    refine ⟨rfl, v, b, mn2 ns ms, ms, rfl, hv.mono c13.e, hb.mono c13.e, by omega, fun H14 e14 => ?_⟩
    have c14 := c13.grow e14
    walk_at "vc"
    rw [wth_low hlm]
    refine i_same _ (.bl _) (.bl _) (by show 0 < 4; decide) rfl fun H15 e15 => ?_
    have c15 := c14.grow e15
    clear h1 h2
    walk_at "vc"
    refine i_listC (ha.mono c15.e) fun z1 nz1 => ?_
    have c16 := c15.fresh (u := .lst (ns.map V.int)) nz1
    have sa := ints_small ns (by omega)
    have sb := ints_small ms (by omega)
    walk_at "vc"
    refine i_same _ (dp_ints (SqL.of upd_same)) (dp_ints (c16.e.seq hrow)) sa.1 sa.2 fun H16 e16 => ?_
    have c17 := c16.grow e16
    walk_at "vc"
    refine i_listC (hb.mono c17.e) fun z2 nz2 => ?_
    have c18 := c17.fresh (u := .lst (ms.map V.int)) nz2
    walk_at "vc"
    refine i_same _ (dp_ints (SqL.of upd_same)) (dp_ints (c18.e.seq hoth)) sb.1 sb.2 fun H17 e17 => ?_
    walk_at "vc"
    exact q _ _ _ (c18.grow e17)
end
end K13
set_option maxRecDepth 100000
set_option maxHeartbeats 1000000
namespace K13
open PySem PySem.Spec PyProof.Rows L2 VX
local macro_rules | `(tactic| walk_at "ne") => `(tactic| first
  | assumption
  | exact Ne.symm (by assumption)
  | exact ne_of_none (by assumption) (by assumption)
  | exact Ne.symm (ne_of_none (by assumption) (by assumption))
  | ((with_reducible refine' ne_of_none ?n1 ?n2); (case n2 => assumption); (case n1 => walk_at "lk"))
  | ((with_reducible refine' Ne.symm (ne_of_none ?n1 ?n2)); (case n2 => assumption); (case n1 => walk_at "lk")))
local macro_rules | `(tactic| walk_at "lk") => `(tactic| first
  | assumption
  | (with_reducible exact upd_same)
  | ((with_reducible refine' (upd_ne ?nn).trans ?ll); (case nn => walk_at "ne"); (case ll => walk_at "lk"))
  | ((with_reducible refine' VX.same_at ?nn ?ll); (case nn => assumption); (case ll => walk_at "lk")))
local macro_rules | `(tactic| walk_at "dp") => `(tactic| first
  | assumption
  | (with_reducible exact Dp.non)
  | (with_reducible exact Dp.bl _)
  | (with_reducible exact Dp.int _)
  | (with_reducible exact Dp.str _)
  | ((with_reducible refine' VX.Dp.mono' ?dd (same_new ?nn)); (case nn => assumption); (case dd => walk_at "dp"))
  | ((with_reducible refine' VX.Dp.mono' ?dd ?nn); (case nn => assumption); (case dd => walk_at "dp")))
local macro_rules | `(tactic| walk_at "sq") => `(tactic| first
  | assumption
  | (with_reducible exact SqL.of (by assumption))
  | (with_reducible exact SqT.of (by assumption))
  | ((with_reducible refine' Same.seq (same_new ?nn) ?qq); (case nn => assumption); (case qq => walk_at "sq"))
  | ((with_reducible refine' same_sqT (same_new ?nn) ?qq); (case nn => assumption); (case qq => walk_at "sq"))
  | ((with_reducible refine' Same.seq ?nn ?qq); (case nn => assumption); (case qq => walk_at "sq"))
  | ((with_reducible refine' same_sqT ?nn ?qq); (case nn => assumption); (case qq => walk_at "sq"))
  | ((with_reducible refine' SqL.of ?qq); (case qq => walk_at "lk"))
  | ((with_reducible refine' SqT.of ?qq); (case qq => walk_at "lk")))
local macro_rules | `(tactic| walk_at "cc") => `(tactic| first
  | exact ⟨by decide, by decide, by decide⟩
  | (show _ ≠ _; omega)
  | exact ⟨by omega, by omega⟩
  | exact Or.inl ⟨by omega, by omega⟩
  | exact Or.inr ⟨by omega, by omega⟩)
local macro_rules | `(tactic| walk_at "vcA") => `(tactic| repeat (first
  | ((with_reducible refine' VX.i_modA ?v1 ?_); (case v1 => omega); intro r hr0 hr1)
  | ((with_reducible refine' VX.i_divA ?v1 ?v2 ?_); (case v1 => omega); (case v2 => omega); intro r hr0 hr1)
  | walk_at "vc1"))
local macro_rules | `(tactic| walk_at "vc1") => `(tactic| first
  | ((with_reducible refine' VX.i_var ?v1 ?_); (case v1 => rfl))
  | (with_reducible refine' VX.i_c ?_)
  | (with_reducible refine' VX.i_op ?_)
  | (with_reducible refine' VX.i_cons ?_)
  | (with_reducible refine' VX.i_nil ?_)
  | (with_reducible refine' VX.i_seq ?_)
  | (with_reducible refine' VX.i_asg ?_)
  | ((with_reducible refine' VX.i_gname ?v2 ?_); (case v2 => (first | (simp only [List.set_cons_zero, List.set_cons_succ]; done) | (simp only [List.set_cons_zero, List.set_cons_succ]; exact rfl) | exact rfl)))
  | (with_reducible refine' VX.i_ifS ?_)
  | (with_reducible refine' VX.i_test ?_)
  | (with_reducible refine' VX.i_tB ?_)
  | (with_reducible refine' VX.i_bl ?_)
  | (with_reducible refine' VX.i_iteT ?_)
  | (with_reducible refine' VX.i_iteF ?_)
  | (with_reducible refine' VX.i_iteNT ?_)
  | (with_reducible refine' VX.i_iteNF ?_)
  | (with_reducible refine' VX.i_and ?_)
  | (with_reducible refine' VX.i_or ?_)
  | (with_reducible refine' VX.i_not ?_)
  | (with_reducible refine' VX.i_call ?_)
  | (with_reducible refine' VX.i_CB ?_)
  | (with_reducible refine' VX.i_make ?_)
  | (with_reducible refine' VX.i_makeK0 ?_)
  | (with_reducible refine' VX.i_mthK ?_)
  | (with_reducible refine' VX.i_mthS ?_)
  | (with_reducible refine' VX.i_meth ?_)
  | ((with_reducible refine' VX.i_ixL ?v1 ?v2 ?_); (case v1 => walk_at "sq"); (case v2 => first | rfl | assumption))
  | ((with_reducible refine' VX.i_ixT ?v1 ?v2 ?_); (case v1 => walk_at "sq"); (case v2 => first | rfl | assumption))
  | ((with_reducible refine' VX.i_setLU ?v2 ?v3 ?_); (case v2 => rfl); (case v3 => rfl))
  | ((with_reducible refine' VX.i_setL ?v1 ?v2 ?v3 ?_); (case v1 => walk_at "lk"); (case v2 => rfl); (case v3 => rfl))
  | (with_reducible refine' VX.i_rI0 ?_)
  | ((with_reducible refine' VX.i_rI ?v1 ?_); (case v1 => walk_at "cc"))
  | (with_reducible refine' VX.i_int ?_)
  | ((with_reducible refine' VX.i_rEqS ?v1 ?_); (case v1 => rfl))
  | ((with_reducible refine' VX.i_rNeS ?v1 ?_); (case v1 => rfl))
  | (with_reducible refine' VX.i_rEqI ?_)
  | (with_reducible refine' VX.i_rNeI ?_)
  | (with_reducible refine' VX.i_max2 ?_)
  | (with_reducible refine' VX.i_min2 ?_)
  | ((with_reducible refine' VX.i_lenL ?v1 ?_); (case v1 => walk_at "sq"))
  | ((with_reducible refine' VX.i_lenT ?v1 ?_); (case v1 => walk_at "sq"))
  | (with_reducible refine' VX.i_chain ?_)
  | (with_reducible refine' VX.i_gsub ?_)
  | (with_reducible refine' VX.i_ret ?_)
  | (with_reducible refine' VX.i_drop ?_)
  | (with_reducible refine' VX.i_next ?_)
  | (with_reducible refine' VX.i_retN ?_)
  | (with_reducible refine' VX.i_andV ?_)
  | (with_reducible refine' VX.i_orV ?_)
  | (with_reducible refine' VX.i_notV ?_)
  | (with_reducible refine' VX.i_ifE ?_)
  | (with_reducible refine' VX.i_un ?_)
  | (with_reducible refine' VX.i_rU ?_)
  | (with_reducible refine' VX.i_tup ?_)
  | (with_reducible refine' VX.i_lst ?_)
  | ((with_reducible refine' VX.i_fldv ?v1 ?v2 ?v3 ?v4 ?v5 ?_); (case v1 => rfl); (case v2 => walk_at "lk"); (case v3 => walk_at "cl"); (case v4 => walk_at "na"); (case v5 => first | rfl | assumption))
  | (with_reducible refine' VX.i_fld ?_)
  | (with_reducible refine' VX.i_sFld ?_)
  | (with_reducible refine' VX.i_mk1 ?_)
  | (with_reducible refine' VX.i_mk1v ?_)
  | (with_reducible refine' VX.i_gnil ?_)
  | (with_reducible refine' VX.i_lc ?_)
  | (with_reducible refine' VX.i_for ?_)
  | (with_reducible refine' VX.i_lstRg ?_)
  | (with_reducible refine' VX.i_rg2 ?_)
  | (with_reducible refine' VX.i_rg2v ?_)
  | (with_reducible refine' VX.i_yes ?_)
  | (with_reducible refine' VX.i_iList ?_)
  | (with_reducible refine' VX.i_iRng1 ?_)
  | (with_reducible refine' VX.i_iRng2 ?_)
  | (with_reducible refine' VX.i_iEnum ?_)
  | (with_reducible refine' VX.i_iZip ?_)
  | (with_reducible refine' VX.i_iOwn ?_)
  | ((with_reducible refine' VX.i_wipe ?v1 ?_); (case v1 => rfl))
  | (with_reducible refine' VX.i_andN ?_)
  | (with_reducible refine' VX.i_iteNDS ?_)
  | (with_reducible refine' VX.i_bm ?_)
  | ((with_reducible refine' VX.i_tyL ?v1 ?_); (case v1 => walk_at "sq"))
  | ((with_reducible refine' VX.i_append ?v1 ?v2 ?_); (case v1 => walk_at "lk"); (case v2 => (simp only [List.length_map, List.length_cons, List.length_nil, List.length_append]; omega)))
  | ((with_reducible refine' VX.i_iteDT ?v1 ?_); (case v1 => rfl))
  | ((with_reducible refine' VX.i_iteDF ?v1 ?_); (case v1 => intro h; cases h))
  | ((with_reducible refine' VX.i_isiD ?v1 ?v2 ?_); (case v1 => walk_at "dp"); (case v2 => decide))
  | ((with_reducible refine' VX.i_iteBT ?v1 ?_); (case v1 => rfl))
  | ((with_reducible refine' VX.i_iteBF ?v1 ?_); (case v1 => rfl))
  | (with_reducible refine' VX.i_gcons ?_)
  | ((with_reducible refine' VX.i_gtup ?v1 ?v2 ?_); (case v1 => walk_at "sq"); (case v2 => rfl)))
local macro_rules | `(tactic| walk_at "vc") => `(tactic| repeat walk_at "vc1")

local macro_rules | `(tactic| walk_at "cl") => `(tactic| exact Txt.cl (by assumption))
local macro_rules | `(tactic| walk_at "na") => `(tactic| exact Txt.nA (by assumption))
theorem dp_intsT {K : PySem.W.Frag} {H : Hp} {a : Addr} {ns : List Int} (h : SqT K H a (ns.map V.int)) : Dp K H (.ref a) (.tuple (ns.map PyData.int)) := .tup h (go ns)
where
  go : ∀ ns : List Int, DpAll K H (ns.map V.int) (ns.map PyData.int)
    | [] => .nil
    | n :: ns => .cons (.int n) (go ns)
theorem cut_last {ns : List Int} (h : 0 < ns.length) : cutV (ns.map V.int) none (some (-1)) = ns.dropLast.map V.int := by
  unfold cutV
  rw [HT.sIx_none, List.drop_zero, List.length_map, List.dropLast_eq_take, List.map_take]
  congr 1
  unfold HT.sIx
  show (if ((-1 : Int)) < 0 then ((-1 : Int) + (ns.length : Int)).toNat else min ((-1 : Int)).toNat ns.length) - 0 = ns.length - 1
  rw [if_pos (by decide)]
  omega
theorem tn_mem2 (d : PyData) (hd : ∀ k, d ≠ .dict k) : tn d ∈ (["list", "tuple", "NoneType", "int", "bool", "str"] : List String) := by
  cases d <;> first | (exfalso; exact hd _ rfl) | (simp only [tn, List.mem_cons, true_or, or_true])
section
variable {P : Program} {w : World} {K : PySem.W.Frag} {mg : Str → Option Value} {base : Heap} {A : Adr}
theorem i_slN {σ : L2.St} {H : Hp} {Q : VK} {r : V → Option Int → Option Int → Hp → VK → Prop} {te th : TE} (q : te σ H fun x H1 => th σ H1 fun u H2 => ∃ i, u = .int i ∧ r x none (some i) H2 Q) : tSl r te tNoPart (tPart th) σ H Q := q
theorem i_makeC {H : Hp} {R : Addr → VK} {E : XK} {l : Addr} {ns : List Int} (hl : SqL K H l (ns.map V.int)) (q : ∀ x H', Same H H' → NewCut A.C H H' x ns → R x .non H') :
    ∀ x dx, H x = none → H dx = none → dx ≠ x → spInit A.C K [.ref x, .ref l] (upd (upd H dx (.own x)) x (.ins A.C dx [])) (R x) E := by
  intro x dx nx ndx ne
  have s1 : Same H (upd (upd H dx (.own x)) x (.ins A.C dx [])) := (same_new ndx).trans (same_new (by rw [upd_ne ne.symm]; exact nx))
  refine ⟨x, l, dx, ns.map V.int, rfl, upd_same, s1.seq hl, fun m nm => ?_⟩
  have nxm : x ≠ m := fun z => by
    rw [← z, upd_same] at nm
    cases nm
  have n1 : H m = none := s1.free nm
  refine q x _ (fun b o hb => ?_) ⟨dx, m, nx, n1, upd_same, by rw [upd_ne nxm.symm, upd_same]⟩
  have b1 : b ≠ x := ne_of_none hb nx
  have b2 : b ≠ m := ne_of_none hb n1
  have b3 : b ≠ dx := ne_of_none hb ndx
  rw [upd_ne b1, upd_ne b2, upd_ne b1, upd_ne b3]
  exact hb
def spUnlike (C : Addr) (K : PySem.W.Frag) : Sp := fun vs H Q _ => ∃ (a r : Addr) (ns : List Int), vs = [.ref a, .ref r] ∧ IsCut C H a ns ∧ H r = some (.lst (ns.map V.int)) ∧ ns.length ≤ 900 ∧ ∀ H', Same H H' → Q (.bl true) H'
theorem ok_unlike (T : Txt K mg A) : FnOk P w K mg base CX0 5 A.unlike A.dunlike ["_law_cut_here", "_law_row_here"] (spUnlike A.C K) := by
  refine T.F_unlike.ok sc_unlike (fun vs H Q E h => ?_) (fun cdv A' outer s H vs Q E hr h => ?_)
  · obtain ⟨a, r, ns, rfl, _⟩ := h
    rfl
  · obtain ⟨a, r, ns, rfl, ha, hrow, hl, q⟩ := h
    refine ⟨_, (pss_cons (ps_set (i := 2) sc_unlike.nd rfl (Or.inl rfl) (pe_lst (pa_cons (pe_make T.M_Cut (ok_Cut_init T) (hr.mono (by decide)) (by rfl) T.g_Cut (b_Cut_init T) .nil pass0 (pa_cons (pe_op op_cat (pv 1) (pe_lst (pa_cons pe_int pa_nil))) pa_nil)) (pa_cons (pe_make T.M_Cut (ok_Cut_init T) (hr.mono (by decide)) (by rfl) T.g_Cut (b_Cut_init T) .nil pass0 (pa_cons (pe_op op_cat (pv 1) (pe_lst (pa_cons (pe_un un_neg pe_int) pa_nil))) pa_nil)) pa_nil))))
      (Evl.pss_cut (ps_if (pt_cmpR op_gt (pe_callB (r := rLenS K) call_lenS (by rfl) T.n_len PySem.boot_len (pa_cons (pv 1) pa_nil)) pe_int (nomark _)) (pss_one (ps_expr (pe_bm PySem.F.plainAttrs_list PySem.F.slot_list_append PySem.F.type_list_append mt_append (pv 2) (pa_cons (pe_make T.M_Cut (ok_Cut_init T) (hr.mono (by decide)) (by rfl) T.g_Cut (b_Cut_init T) .nil pass0 (pa_cons (pe_slice sl_list (pv 1) po_none (po_some (pe_un un_neg pe_int))) pa_nil)) pa_nil)))) pss_nil)
      (pss_cons (ps_for PassesOwn.never rfl (pi_list (pv 2)) (pg_name (i := 3) sc_unlike.nd rfl (Or.inl rfl))
      (pss_one (ps_if (PW.pt (pw_or (pt_not (pt_val (pe_call (ok_same T) (hr.mono (by decide)) (by rfl) T.g_same T.F_same.kp (b_same T) .nil pass0 (pa_cons (pe_cmpR (op_eqOwn T.s_eq T.i_eq (ok_Cut_eq T) (hr.mono (by decide)) (b_Cut_eq T) pass0 ty_looks) (pv 0) (pv 3) (nomark _)) (pa_cons pe_bl pa_nil))))) (pw_or1 (pt_not (pt_val (pe_call (ok_same T) (hr.mono (by decide)) (by rfl) T.g_same T.F_same.kp (b_same T) .nil pass0 (pa_cons (pe_cmpR (op_eqOwn T.s_eq T.i_eq (ok_Cut_eq T) (hr.mono (by decide)) (b_Cut_eq T) pass0 ty_looks) (pv 3) (pv 0) (nomark _)) (pa_cons pe_bl pa_nil)))))))) (pss_one (ps_ret pe_bl)) pss_nil)))
      (pss_cons (ps_for PassesOwn.never rfl (pi_list (pe_lst (pa_cons (pe_callTy call_listOf (by rfl) T.n_list (by decide +kernel) (pa_cons (pv 1) pa_nil)) (pa_cons (pe_callTy call_tuple_of (by rfl) T.n_tuple (by decide +kernel) (pa_cons (pv 1) pa_nil)) (pa_cons pe_non (pa_cons pe_int (pa_cons (pe_callB (r := rLenS K) call_lenS (by rfl) T.n_len PySem.boot_len (pa_cons (pv 1) pa_nil)) (pa_cons pe_bl (pa_cons pe_bl (pa_cons pe_str (pa_cons pe_str (pa_cons (pe_lst (pa_cons (pe_callTy call_listOf (by rfl) T.n_list (by decide +kernel) (pa_cons (pv 1) pa_nil)) pa_nil)) pa_nil)))))))))))) (pg_name (i := 4) sc_unlike.nd rfl (Or.inl rfl))
      (pss_one (ps_if (pt_not (pt_val (pe_call (ok_same T) (hr.mono (by decide)) (by rfl) T.g_same T.F_same.kp (b_same T) .nil pass0 (pa_cons (pe_cmpR (op_eqOwn T.s_eq T.i_eq (ok_Cut_eq T) (hr.mono (by decide)) (b_Cut_eq T) pass0 ty_looks) (pv 0) (pv 4) (nomark _)) (pa_cons pe_bl pa_nil))))) (pss_one (ps_ret pe_bl)) pss_nil)))
      (pss_one (ps_ret pe_bl)))))), ?_⟩
    refine i_start (σ' := [some (V.ref a), some (.ref r), none, none, none]) rfl ?_
    have big : ns.length + 1 ≤ sizeLine := by rw [sizeLine_eq]; omega
    walk_at "vc"
    refine ⟨lenB rfl, fun q1 n1 => ?_⟩
    walk_at "vc"
    have s1 := same_new (o := .lst [V.int 0]) n1
    refine ⟨r, q1, _, _, rfl, rfl, s1 _ _ hrow, upd_same, by rw [List.length_map]; exact big, fun z nz => ?_⟩
    have s2 := s1.trans (same_new (o := .lst (ns.map V.int ++ [V.int 0])) nz)
    walk_at "vc"
    have gz : upd (upd H q1 (.lst [V.int 0])) z (.lst (ns.map V.int ++ [V.int 0])) z = some (.lst ((ns ++ [0]).map V.int)) := by
      rw [List.map_append]
      exact upd_same
    refine i_makeC (A := A) (K := K) (SqL.of gz) fun u1 H1 e1 w1 => ⟨rfl, ?_⟩
    have i1 := w1.is
    replace s2 := s2.trans e1
    clear e1 w1 s1 n1 nz gz
    walk_at "vc"
    refine ⟨lenB rfl, fun q2 n2 => ?_⟩
    walk_at "vc"
    have s3 := s2.trans (same_new (o := .lst [V.int (-1)]) n2)
    refine ⟨r, q2, _, _, rfl, rfl, s3 _ _ hrow, upd_same, by rw [List.length_map]; exact big, fun z nz => ?_⟩
    have s4 := s3.trans (same_new (o := .lst (ns.map V.int ++ [V.int (-1)])) nz)
    replace i1 := (i1.mono (same_new (o := .lst [V.int (-1)]) n2)).mono (same_new (o := .lst (ns.map V.int ++ [V.int (-1)])) nz)
    walk_at "vc"
    have gz : upd (upd H1 q2 (.lst [V.int (-1)])) z (.lst (ns.map V.int ++ [V.int (-1)])) z = some (.lst ((ns ++ [-1]).map V.int)) := by
      rw [List.map_append]
      exact upd_same
    refine i_makeC (A := A) (K := K) (SqL.of gz) fun u2 H2 e2 w2 => ⟨rfl, ?_⟩
    have i2 := w2.is
    replace s4 := s4.trans e2
    replace i1 := i1.mono e2
    clear e2 w2 s3 s2 n2 nz gz
    walk_at "vc"
    refine ⟨lenB rfl, fun o no => ?_⟩
    have c0 : Ctx H2 o (.lst [.ref u1, .ref u2]) (upd H2 o (.lst [.ref u1, .ref u2])) := ⟨same_new no, no, upd_same⟩
    generalize upd H2 o (.lst [.ref u1, .ref u2]) = H3 at c0 ⊢
    walk_at "vc"
    refine i_cut (M := fun σ' H' => ∃ cs F, σ' = [some (V.ref a), some (.ref r), some (.ref o), none, none] ∧ Same H F ∧ Ctx F o (.lst cs) H' ∧ cs.length ≤ 3 ∧ ∀ x ∈ cs, ∃ b ms, x = V.ref b ∧ IsCut A.C F b ms ∧ ms ≠ ns) ?_ ?_
    · walk_at "vc"
      refine i_lenL (SqL.of (c0.e _ _ (s4 _ _ hrow))) ?_
      walk_at "vc"
      rw [List.length_map]
      have base : ∀ x ∈ [V.ref u1, V.ref u2], ∃ b ms, x = V.ref b ∧ IsCut A.C H2 b ms ∧ ms ≠ ns := fun x hx => by
        rcases List.mem_cons.mp hx with rfl | hx
        · exact ⟨u1, _, rfl, i1, fun z => by have := congrArg List.length z; simp at this⟩
        · cases List.mem_singleton.mp hx
          exact ⟨u2, _, rfl, i2, fun z => by have := congrArg List.length z; simp at this⟩
      refine i_iteD (fun h0 => ?_) (fun h0 => ?_)
      · walk_at "vc"
        refine i_tyL (SqL.of c0.h) ?_
        walk_at "vc"
        refine i_slN ?_
        walk_at "vc"
        refine ⟨-1, rfl, r, _, rfl, SqL.of (c0.e _ _ (s4 _ _ hrow)), fun z nz => ?_⟩
        have hpos : 0 < ns.length := by omega
        rw [cut_last hpos]
        have c1 := c0.new (u := .lst (ns.dropLast.map V.int)) nz
        walk_at "vc"
        refine i_makeC (A := A) (K := K) (ns := ns.dropLast) (SqL.of upd_same) fun u3 H4 e4 w4 => ⟨rfl, ?_⟩
        have i3 := w4.keep c1.h
        have c2 := c1.grow e4
        have s5 := (s4.trans (same_new (o := .lst (ns.dropLast.map V.int)) (c0.newF nz))).trans c2.all
        have s6 := (same_new (o := .lst (ns.dropLast.map V.int)) (c0.newF nz)).trans c2.all
        walk_at "vc"
        refine i_append c2.h (by show 2 ≤ 100000; omega) ?_
        walk_at "vc"
        refine ⟨_, del H4 o, rfl, s5, (Ctx.start c2.h).turn, by show 3 ≤ 3; omega, fun x hx => ?_⟩
        rcases List.mem_append.mp hx with hx | hx
        · obtain ⟨b, ms, rfl, hb, hne⟩ := base x hx
          exact ⟨b, ms, rfl, hb.mono s6, hne⟩
        · cases List.mem_singleton.mp hx
          exact ⟨u3, _, rfl, i3, fun z => by have := congrArg List.length z; rw [List.length_dropLast] at this; omega⟩
      · exact ⟨_, H2, rfl, s4, c0, by show 2 ≤ 3; omega, base⟩
    · rintro σ' H' ⟨cs, F, rfl, eF, c1, hlen, hcs⟩
      clear c0 i1 i2 s4 no
      have haF := ha.mono eF
      walk_at "vc"
      refine ⟨o, rfl, ⟨_, SqL.of c1.h⟩, ?_⟩
      refine for_it (walk_list (K := K) (a := o) (xs := cs)) (fun _ σ' H' => ∃ y3, σ' = [some (V.ref a), some (.ref r), some (.ref o), y3, none] ∧ Ctx F o (.lst cs) H') ⟨_, rfl, c1⟩
        (fun _ _ _ _ pv => ?_) (fun i x σ' H' H'' hi pv y => ?_) fun σ' H' pv => ?_
      · obtain ⟨y3, _, cx⟩ := pv
        exact SqL.of cx.h
      · obtain ⟨y3, rfl, cx⟩ := pv
        obtain ⟨rfl, hx⟩ := y
        obtain ⟨b, ms, rfl, hb, hne⟩ := hcs x (List.mem_of_getElem? hx)
        walk_at "vc"
        refine i_eqC T (haF.mono cx.e) (hb.mono cx.e) ?_
        rw [decide_eq_false (Ne.symm hne)]
        walk_at "vc"
        refine i_same _ (.bl _) (.bl _) (by show 0 < 4; decide) rfl fun H7 e7 => ?_
        have cy := cx.grow e7
        walk_at "vc"
        refine i_eqC T (hb.mono cy.e) (haF.mono cy.e) ?_
        rw [decide_eq_false hne]
        walk_at "vc"
        refine i_same _ (.bl _) (.bl _) (by show 0 < 4; decide) rfl fun H8 e8 => ?_
        walk_at "vc"
        exact ⟨_, rfl, cy.grow e8⟩
      · obtain ⟨y3, rfl, cx⟩ := pv
        have s5 := eF.trans cx.e
        clear cx c1 haF hcs eF
        walk_at "vc"
        refine i_listL (SqL.of (s5 _ _ hrow)) fun l1 m1 => ?_
        have t1 := s5.trans (same_new (o := .lst (ns.map V.int)) m1)
        have g1 : upd H' l1 (.lst (ns.map V.int)) l1 = some (.lst (ns.map V.int)) := upd_same
        generalize upd H' l1 (.lst (ns.map V.int)) = G1 at t1 g1 ⊢
        walk_at "vc"
        refine ⟨r, _, rfl, .inl ⟨SqL.of (t1 _ _ hrow), fun l2 m2 => ?_⟩⟩
        have v2 := same_new (o := .tup (ns.map V.int)) m2
        have t2 := t1.trans v2
        have g2 : upd G1 l2 (.tup (ns.map V.int)) l2 = some (.tup (ns.map V.int)) := upd_same
        replace g1 := v2 _ _ g1
        generalize upd G1 l2 (.tup (ns.map V.int)) = G2 at t2 g1 g2 v2 ⊢
        walk_at "vc"
        refine i_listL (SqL.of (t2 _ _ hrow)) fun l3 m3 => ?_
        have v3 := same_new (o := .lst (ns.map V.int)) m3
        have t3 := t2.trans v3
        have g3 : upd G2 l3 (.lst (ns.map V.int)) l3 = some (.lst (ns.map V.int)) := upd_same
        replace g1 := v3 _ _ g1
        replace g2 := v3 _ _ g2
        generalize upd G2 l3 (.lst (ns.map V.int)) = G3 at t3 g1 g2 g3 v3 ⊢
        walk_at "vc"
        refine ⟨lenB rfl, fun l4 m4 => ?_⟩
        have v4 := same_new (o := .lst [V.ref l3]) m4
        have t4 := t3.trans v4
        have g4 : upd G3 l4 (.lst [V.ref l3]) l4 = some (.lst [V.ref l3]) := upd_same
        replace g1 := v4 _ _ g1
        replace g2 := v4 _ _ g2
        replace g3 := v4 _ _ g3
        generalize upd G3 l4 (.lst [V.ref l3]) = G4 at t4 g1 g2 g3 g4 v4 ⊢
        walk_at "vc"
        refine ⟨lenB rfl, fun o2 m5 => ?_⟩
        have hxs : ∀ x ∈ [V.ref l1, V.ref l2, V.non, V.int 0, V.int ((ns.map V.int).length : Int), V.bl true, V.bl false, V.str (Str.ofString ""), V.str (Str.ofString "cut"), V.ref l4], ∃ d, Dp K G4 x d := fun x hx => by
          have d3 : Dp K G4 (.ref l3) (.list (ns.map PyData.int)) := dp_ints (SqL.of g3)
          simp only [List.mem_cons, List.not_mem_nil, or_false] at hx
          rcases hx with rfl | rfl | rfl | rfl | rfl | rfl | rfl | rfl | rfl | rfl
          · exact ⟨_, dp_ints (SqL.of g1)⟩
          · exact ⟨_, dp_intsT (SqT.of g2)⟩
          · exact ⟨_, .non⟩
          · exact ⟨_, .int _⟩
          · exact ⟨_, .int _⟩
          · exact ⟨_, .bl _⟩
          · exact ⟨_, .bl _⟩
          · exact ⟨_, .str _⟩
          · exact ⟨_, .str _⟩
          · exact ⟨_, .lst (SqL.of g4) (.cons d3 .nil)⟩
        have v5 := same_new (o := .lst [V.ref l1, V.ref l2, V.non, V.int 0, V.int ((ns.map V.int).length : Int), V.bl true, V.bl false, V.str (Str.ofString ""), V.str (Str.ofString "cut"), V.ref l4]) m5
        have t5 := t4.trans v5
        have g5 : upd G4 o2 (.lst [V.ref l1, V.ref l2, V.non, V.int 0, V.int ((ns.map V.int).length : Int), V.bl true, V.bl false, V.str (Str.ofString ""), V.str (Str.ofString "cut"), V.ref l4]) o2 = some _ := upd_same
        refine ⟨o2, rfl, ⟨_, SqL.of upd_same⟩, ?_⟩
        generalize upd G4 o2 (.lst [V.ref l1, V.ref l2, V.non, V.int 0, V.int ((ns.map V.int).length : Int), V.bl true, V.bl false, V.str (Str.ofString ""), V.str (Str.ofString "cut"), V.ref l4]) = G5 at t5 g5 v5 ⊢
        generalize [V.ref l1, V.ref l2, V.non, V.int 0, V.int ((ns.map V.int).length : Int), V.bl true, V.bl false, V.str (Str.ofString ""), V.str (Str.ofString "cut"), V.ref l4] = xs at hxs g5 ⊢
        refine for_it (walk_list (K := K) (a := o2) (xs := xs)) (fun _ σ' H' => ∃ y4, σ' = [some (V.ref a), some (.ref r), some (.ref o), y3, y4] ∧ Same G5 H') ⟨_, rfl, Same.refl _⟩
          (fun _ _ _ _ pv => ?_) (fun i x σ' H' H'' hi pv y => ?_) fun σ' H' pv => ?_
        · obtain ⟨y4, _, e⟩ := pv
          exact SqL.of (e _ _ g5)
        · obtain ⟨y4, rfl, e⟩ := pv
          obtain ⟨rfl, hx⟩ := y
          obtain ⟨d, hd⟩ := hxs x (List.mem_of_getElem? hx)
          have hd2 := Dp.mono' hd (v5.trans e)
          walk_at "vc"
          refine i_neC T (ha.mono (t5.trans e)) (dp_ty hd2) (tn_mem2 d (dp_nodict hd2)) ?_
          walk_at "vc"
          refine i_same _ (.bl _) (.bl _) (by show 0 < 4; decide) rfl fun H8 e8 => ?_
          walk_at "vc"
          exact ⟨_, rfl, e.trans e8⟩
        · obtain ⟨y4, rfl, e⟩ := pv
          walk_at "vc"
          exact q _ (t5.trans e)
end
end K13
set_option maxRecDepth 100000
set_option maxHeartbeats 1000000
namespace K13
open PySem PySem.Spec PyProof.Rows L2 VX
local macro_rules | `(tactic| walk_at "ne") => `(tactic| first
  | assumption
  | exact Ne.symm (by assumption)
  | exact ne_of_none (by assumption) (by assumption)
  | exact Ne.symm (ne_of_none (by assumption) (by assumption))
  | ((with_reducible refine' ne_of_none ?n1 ?n2); (case n2 => assumption); (case n1 => walk_at "lk"))
  | ((with_reducible refine' Ne.symm (ne_of_none ?n1 ?n2)); (case n2 => assumption); (case n1 => walk_at "lk")))
local macro_rules | `(tactic| walk_at "lk") => `(tactic| first
  | assumption
  | (with_reducible exact upd_same)
  | ((with_reducible refine' (upd_ne ?nn).trans ?ll); (case nn => walk_at "ne"); (case ll => walk_at "lk"))
  | ((with_reducible refine' VX.same_at ?nn ?ll); (case nn => assumption); (case ll => walk_at "lk")))
local macro_rules | `(tactic| walk_at "dp") => `(tactic| first
  | assumption
  | (with_reducible exact Dp.non)
  | (with_reducible exact Dp.bl _)
  | (with_reducible exact Dp.int _)
  | (with_reducible exact Dp.str _)
  | ((with_reducible refine' VX.Dp.mono' ?dd (same_new ?nn)); (case nn => assumption); (case dd => walk_at "dp"))
  | ((with_reducible refine' VX.Dp.mono' ?dd ?nn); (case nn => assumption); (case dd => walk_at "dp")))
local macro_rules | `(tactic| walk_at "sq") => `(tactic| first
  | assumption
  | (with_reducible exact SqL.of (by assumption))
  | (with_reducible exact SqT.of (by assumption))
  | ((with_reducible refine' Same.seq (same_new ?nn) ?qq); (case nn => assumption); (case qq => walk_at "sq"))
  | ((with_reducible refine' same_sqT (same_new ?nn) ?qq); (case nn => assumption); (case qq => walk_at "sq"))
  | ((with_reducible refine' Same.seq ?nn ?qq); (case nn => assumption); (case qq => walk_at "sq"))
  | ((with_reducible refine' same_sqT ?nn ?qq); (case nn => assumption); (case qq => walk_at "sq"))
  | ((with_reducible refine' SqL.of ?qq); (case qq => walk_at "lk"))
  | ((with_reducible refine' SqT.of ?qq); (case qq => walk_at "lk")))
local macro_rules | `(tactic| walk_at "cc") => `(tactic| first
  | exact ⟨by decide, by decide, by decide⟩
  | (show _ ≠ _; omega)
  | exact ⟨by omega, by omega⟩
  | exact Or.inl ⟨by omega, by omega⟩
  | exact Or.inr ⟨by omega, by omega⟩)
local macro_rules | `(tactic| walk_at "vcA") => `(tactic| repeat (first
  | ((with_reducible refine' VX.i_modA ?v1 ?_); (case v1 => omega); intro r hr0 hr1)
  | ((with_reducible refine' VX.i_divA ?v1 ?v2 ?_); (case v1 => omega); (case v2 => omega); intro r hr0 hr1)
  | walk_at "vc1"))
local macro_rules | `(tactic| walk_at "vc1") => `(tactic| first
  | ((with_reducible refine' VX.i_var ?v1 ?_); (case v1 => rfl))
  | (with_reducible refine' VX.i_c ?_)
  | (with_reducible refine' VX.i_op ?_)
  | (with_reducible refine' VX.i_cons ?_)
  | (with_reducible refine' VX.i_nil ?_)
  | (with_reducible refine' VX.i_seq ?_)
  | (with_reducible refine' VX.i_asg ?_)
  | ((with_reducible refine' VX.i_gname ?v2 ?_); (case v2 => (first | (simp only [List.set_cons_zero, List.set_cons_succ]; done) | (simp only [List.set_cons_zero, List.set_cons_succ]; exact rfl) | exact rfl)))
  | (with_reducible refine' VX.i_ifS ?_)
  | (with_reducible refine' VX.i_test ?_)
  | (with_reducible refine' VX.i_tB ?_)
  | (with_reducible refine' VX.i_bl ?_)
  | (with_reducible refine' VX.i_iteT ?_)
  | (with_reducible refine' VX.i_iteF ?_)
  | (with_reducible refine' VX.i_iteNT ?_)
  | (with_reducible refine' VX.i_iteNF ?_)
  | (with_reducible refine' VX.i_and ?_)
  | (with_reducible refine' VX.i_or ?_)
  | (with_reducible refine' VX.i_not ?_)
  | (with_reducible refine' VX.i_call ?_)
  | (with_reducible refine' VX.i_CB ?_)
  | (with_reducible refine' VX.i_make ?_)
  | (with_reducible refine' VX.i_makeK0 ?_)
  | (with_reducible refine' VX.i_mthK ?_)
  | (with_reducible refine' VX.i_mthS ?_)
  | (with_reducible refine' VX.i_meth ?_)
  | ((with_reducible refine' VX.i_ixL ?v1 ?v2 ?_); (case v1 => walk_at "sq"); (case v2 => first | rfl | assumption))
  | ((with_reducible refine' VX.i_ixT ?v1 ?v2 ?_); (case v1 => walk_at "sq"); (case v2 => first | rfl | assumption))
  | ((with_reducible refine' VX.i_setLU ?v2 ?v3 ?_); (case v2 => rfl); (case v3 => rfl))
  | ((with_reducible refine' VX.i_setL ?v1 ?v2 ?v3 ?_); (case v1 => walk_at "lk"); (case v2 => rfl); (case v3 => rfl))
  | (with_reducible refine' VX.i_rI0 ?_)
  | ((with_reducible refine' VX.i_rI ?v1 ?_); (case v1 => walk_at "cc"))
  | (with_reducible refine' VX.i_int ?_)
  | ((with_reducible refine' VX.i_rEqS ?v1 ?_); (case v1 => rfl))
  | ((with_reducible refine' VX.i_rNeS ?v1 ?_); (case v1 => rfl))
  | (with_reducible refine' VX.i_rEqI ?_)
  | (with_reducible refine' VX.i_rNeI ?_)
  | (with_reducible refine' VX.i_max2 ?_)
  | (with_reducible refine' VX.i_min2 ?_)
  | ((with_reducible refine' VX.i_lenL ?v1 ?_); (case v1 => walk_at "sq"))
  | ((with_reducible refine' VX.i_lenT ?v1 ?_); (case v1 => walk_at "sq"))
  | (with_reducible refine' VX.i_chain ?_)
  | (with_reducible refine' VX.i_gsub ?_)
  | (with_reducible refine' VX.i_ret ?_)
  | (with_reducible refine' VX.i_drop ?_)
  | (with_reducible refine' VX.i_next ?_)
  | (with_reducible refine' VX.i_retN ?_)
  | (with_reducible refine' VX.i_andV ?_)
  | (with_reducible refine' VX.i_orV ?_)
  | (with_reducible refine' VX.i_notV ?_)
  | (with_reducible refine' VX.i_ifE ?_)
  | (with_reducible refine' VX.i_un ?_)
  | (with_reducible refine' VX.i_rU ?_)
  | (with_reducible refine' VX.i_tup ?_)
  | (with_reducible refine' VX.i_lst ?_)
  | ((with_reducible refine' VX.i_fldv ?v1 ?v2 ?v3 ?v4 ?v5 ?_); (case v1 => rfl); (case v2 => walk_at "lk"); (case v3 => walk_at "cl"); (case v4 => walk_at "na"); (case v5 => first | rfl | assumption))
  | (with_reducible refine' VX.i_fld ?_)
  | (with_reducible refine' VX.i_sFld ?_)
  | (with_reducible refine' VX.i_mk1 ?_)
  | (with_reducible refine' VX.i_mk1v ?_)
  | (with_reducible refine' VX.i_gnil ?_)
  | (with_reducible refine' VX.i_lc ?_)
  | (with_reducible refine' VX.i_for ?_)
  | (with_reducible refine' VX.i_lstRg ?_)
  | (with_reducible refine' VX.i_rg2 ?_)
  | (with_reducible refine' VX.i_rg2v ?_)
  | (with_reducible refine' VX.i_yes ?_)
  | (with_reducible refine' VX.i_iList ?_)
  | (with_reducible refine' VX.i_iRng1 ?_)
  | (with_reducible refine' VX.i_iRng2 ?_)
  | (with_reducible refine' VX.i_iEnum ?_)
  | (with_reducible refine' VX.i_iZip ?_)
  | (with_reducible refine' VX.i_iOwn ?_)
  | ((with_reducible refine' VX.i_wipe ?v1 ?_); (case v1 => rfl))
  | (with_reducible refine' VX.i_andN ?_)
  | (with_reducible refine' VX.i_iteNDS ?_)
  | (with_reducible refine' VX.i_bm ?_)
  | ((with_reducible refine' VX.i_tyL ?v1 ?_); (case v1 => walk_at "sq"))
  | ((with_reducible refine' VX.i_append ?v1 ?v2 ?_); (case v1 => walk_at "lk"); (case v2 => (simp only [List.length_map, List.length_cons, List.length_nil, List.length_append]; omega)))
  | ((with_reducible refine' VX.i_iteDT ?v1 ?_); (case v1 => rfl))
  | ((with_reducible refine' VX.i_iteDF ?v1 ?_); (case v1 => intro h; cases h))
  | ((with_reducible refine' VX.i_isiD ?v1 ?v2 ?_); (case v1 => walk_at "dp"); (case v2 => decide))
  | ((with_reducible refine' VX.i_iteBT ?v1 ?_); (case v1 => rfl))
  | ((with_reducible refine' VX.i_iteBF ?v1 ?_); (case v1 => rfl))
  | (with_reducible refine' VX.i_gcons ?_)
  | ((with_reducible refine' VX.i_gtup ?v1 ?v2 ?_); (case v1 => walk_at "sq"); (case v2 => rfl)))
local macro_rules | `(tactic| walk_at "vc") => `(tactic| repeat walk_at "vc1")

local macro_rules | `(tactic| walk_at "cl") => `(tactic| exact Txt.cl (by assumption))
local macro_rules | `(tactic| walk_at "na") => `(tactic| exact Txt.nA (by assumption))
theorem same_pen {H H' : Hp} {p : Addr} {o : HO} (n : H p = none) (e : Same (del (upd H p o) p) H') : Same H H' := fun b u hb => e b u (del_of (by rw [upd_ne (ne_of_none hb n)]; exact hb) (ne_of_none hb n))
theorem dom_pen {H : Hp} {p D : Addr} {o : HO} (h : upd H p o D = none) : H D = none := by
  by_cases e : D = p
  · rw [e, upd_same] at h
    cases h
  · rw [upd_ne e] at h
    exact h
theorem none_ne (j : Nat) (u : Addr) : ¬ (([] : List Addr)[j]? = some u) := by simp
section
variable {P : Program} {w : World} {K : PySem.W.Frag} {mg : Str → Option Value} {base : Heap} {A : Adr}
theorem i_penC {H : Hp} {Q : VK} {E : XK} {s : Addr} {k : Int} {ks : List Int} (hs : SqL K H s (ks.map V.int)) (h0 : 0 ≤ k) (h1 : k ≤ 1000) (q : ∀ (z : Int) p, H p = none → Q (.ref p) (upd H p (pen z 0 z))) : spPen K [.ref s, .int k] H Q E := ⟨s, k, ks, rfl, hs, h0, h1, q⟩
theorem i_rowC {H : Hp} {Q : VK} {E : XK} {p : Addr} {z many wide : Int} (np : H p = none) (m0 : 0 ≤ many) (m1 : many ≤ 1000) (w0 : 0 < wide + 2) (w1 : wide + 2 < 1073741824)
    (q : ∀ D H' (ns : List Int), H D = none → Same H H' → H' D = some (.lst (ns.map V.int)) → ns.length = many.toNat → Q (.ref D) H') : spRow [.ref p, .int many, .int wide] (upd H p (pen z 0 z)) Q E :=
  ⟨p, z, 0, z, many, wide, rfl, upd_same, m0, m1, w0, w1, fun D H' _ _ ns nD e _ hD hl => q D H' ns (dom_pen nD) (same_pen np e) hD hl⟩
theorem i_secondC {H : Hp} {Q : VK} {E : XK} {p a : Addr} {z wide : Int} {ns : List Int} (np : H p = none) (ha : H a = some (.lst (ns.map V.int))) (hl : ns.length ≤ 1000) (w0 : 0 < wide + 2) (w1 : wide + 2 < 1073741824)
    (q : ∀ D H' (ms : List Int), H D = none → Same H H' → H' D = some (.lst (ms.map V.int)) → ms.length = ns.length → Q (.ref D) H') : spSecond K [.ref p, .ref a, .int wide] (upd H p (pen z 0 z)) Q E :=
  ⟨p, a, z, 0, z, wide, ns, rfl, upd_same, SqL.of (del_of (by rw [upd_ne (ne_of_none ha np)]; exact ha) (ne_of_none ha np)), hl, w0, w1, fun D H' _ _ ms nD e _ hD hl => q D H' ms (dom_pen nD) (same_pen np e) hD hl⟩
theorem i_pairC {F H : Hp} {Q : VK} {E : XK} {p a b r o : Addr} {c n k : Int} {ns ms : List Int} (x : Ctx F p (pen c n k) H) (ha : IsCut A.C F a ns) (hb : IsCut A.C F b ms) (hr : SqL K F r (ns.map V.int)) (ho : SqL K F o (ms.map V.int)) (hl : ns.length ≤ 900) (hm : ns.length = ms.length)
    (q : ∀ n' k' H', Ctx F p (pen c n' k') H' → Q (.bl true) H') : spPair A.C K [.ref p, .ref a, .ref b, .ref r, .ref o] H Q E :=
  ⟨p, a, b, r, o, c, n, k, ns, ms, rfl, x.h, ha.mono x.all, hb.mono x.all, x.all.seq hr, x.all.seq ho, hl, hm, fun H' n' k' e h => q n' k' H' (x.to e h)⟩
def spLaw (K : PySem.W.Frag) : Sp := fun vs H Q _ => ∃ (s : Addr) (ks : List Int), vs = [.ref s] ∧ SqL K H s (ks.map V.int) ∧ ∀ H', Q (.bl true) H'
theorem ok_law (T : Txt K mg A) : FnOk P w K mg base CX0 7 A.law A.dlaw ["_law_script"] (spLaw K) := by
  refine T.F_law.ok sc_law (fun vs H Q E h => ?_) (fun cdv A' outer s H vs Q E hr h => ?_)
  · obtain ⟨a, ks, rfl, _⟩ := h
    rfl
  · obtain ⟨a, ks, rfl, ha, q⟩ := h
    refine ⟨_, (pss_cons (ps_set (i := 1) sc_law.nd rfl (Or.inl rfl) (pe_call (ok_pen T) (hr.mono (by decide)) (by rfl) T.g_pen T.F_pen.kp (b_pen T) .nil pass0 (pa_cons (pv 0) (pa_cons pe_int pa_nil))))
      (pss_cons (ps_set (i := 2) sc_law.nd rfl (Or.inl rfl) (pe_call (ok_take T) (hr.mono (by decide)) (by rfl) T.g_take T.F_take.kp (b_take T) .nil pass0 (pa_cons (pv 1) (pa_cons pe_int pa_nil))))
      (pss_cons (ps_set (i := 3) sc_law.nd rfl (Or.inl rfl) (pe_ix (r := rIxL K) ix_list (pe_lst (pa_cons pe_int (pa_cons pe_int (pa_cons pe_int (pa_cons (pe_op op_sub (pe_op op_pow pe_int pe_int) pe_int) pa_nil))))) (pe_call (ok_take T) (hr.mono (by decide)) (by rfl) T.g_take T.F_take.kp (b_take T) .nil pass0 (pa_cons (pv 1) (pa_cons pe_int pa_nil))) (fun _ _ => rfl)))
      (pss_cons (ps_set (i := 4) sc_law.nd rfl (Or.inl rfl) (pe_lst (pa_cons (pe_call (ok_row T) (hr.mono (by decide)) (by rfl) T.g_row T.F_row.kp (b_row T) .nil pass0 (pa_cons (pe_call (ok_pen T) (hr.mono (by decide)) (by rfl) T.g_pen T.F_pen.kp (b_pen T) .nil pass0 (pa_cons (pv 0) (pa_cons pe_int pa_nil))) (pa_cons (pv 2) (pa_cons (pv 3) pa_nil)))) pa_nil)))
      (pss_cons (ps_expr (pe_bm PySem.F.plainAttrs_list PySem.F.slot_list_append PySem.F.type_list_append mt_append (pv 4) (pa_cons (pe_call (ok_second T) (hr.mono (by decide)) (by rfl) T.g_second T.F_second.kp (b_second T) .nil pass0 (pa_cons (pe_call (ok_pen T) (hr.mono (by decide)) (by rfl) T.g_pen T.F_pen.kp (b_pen T) .nil pass0 (pa_cons (pv 0) (pa_cons pe_int pa_nil))) (pa_cons (pe_ix (r := rIxL K) ix_list (pv 4) pe_int (fun _ _ => rfl)) (pa_cons (pv 3) pa_nil)))) pa_nil)))
      (pss_cons (ps_expr (pe_bm PySem.F.plainAttrs_list PySem.F.slot_list_append PySem.F.type_list_append mt_append (pv 4) (pa_cons (pe_call (ok_row T) (hr.mono (by decide)) (by rfl) T.g_row T.F_row.kp (b_row T) .nil pass0 (pa_cons (pe_call (ok_pen T) (hr.mono (by decide)) (by rfl) T.g_pen T.F_pen.kp (b_pen T) .nil pass0 (pa_cons (pv 0) (pa_cons pe_int pa_nil))) (pa_cons (pv 2) (pa_cons (pv 3) pa_nil)))) pa_nil)))
      (pss_cons (ps_setLc (i := 5) (own := [("_law_row_here", 6)]) (g := gName 6) (tt := tYes) (by rfl) sc_law.nd rfl rfl (sw_true rfl rfl rfl (by decide +kernel)) (pi_list (pv 4)) (blkOk_by (N := N_law) (sc := defScope s_law) (by decide +kernel)) (fun _ _ _ _ _ => (pg_name (i := 6) sc_law.nd rfl (Or.inl rfl))) (fun _ _ _ _ _ => pts_nil) (fun _ _ _ _ _ => (pe_call (ok_cut T) (hr.mono (by decide)) (by rfl) T.g_cut T.F_cut.kp (b_cut T) .nil pass0 (pa_cons (pv 6) pa_nil))))
      (pss_cons (ps_set (i := 1) sc_law.nd rfl (Or.inl rfl) (pe_call (ok_pen T) (hr.mono (by decide)) (by rfl) T.g_pen T.F_pen.kp (b_pen T) .nil pass0 (pa_cons (pv 0) (pa_cons pe_int pa_nil))))
      (pss_cons (ps_for PassesOwn.never rfl (pi_list (pe_lst (pa_cons pe_int (pa_cons pe_int (pa_cons pe_int (pa_cons pe_int pa_nil)))))) (pg_name (i := 7) sc_law.nd rfl (Or.inl rfl))
      (pss_cons (ps_if (PW.pt (pw_or (pt_not (pt_val (pe_call (ok_tells T) (hr.mono (by decide)) (by rfl) T.g_tells T.F_tells.kp (b_tells T) .nil pass0 (pa_cons (pv 1) (pa_cons (pe_ix (r := rIxL K) ix_list (pv 5) (pv 7) (fun _ _ => rfl)) (pa_cons (pe_ix (r := rIxL K) ix_list (pv 4) (pv 7) (fun _ _ => rfl)) pa_nil)))))) (pw_or1 (pt_not (pt_val (pe_call (ok_unlike T) (hr.mono (by decide)) (by rfl) T.g_unlike T.F_unlike.kp (b_unlike T) .nil pass0 (pa_cons (pe_ix (r := rIxL K) ix_list (pv 5) (pv 7) (fun _ _ => rfl)) (pa_cons (pe_ix (r := rIxL K) ix_list (pv 4) (pv 7) (fun _ _ => rfl)) pa_nil)))))))) (pss_one (ps_ret pe_bl)) pss_nil)
      (pss_one (ps_for PassesOwn.never rfl (pi_range1 (by rfl) T.n_range (pa_cons pe_int pa_nil)) (pg_name (i := 8) sc_law.nd rfl (Or.inl rfl))
      (pss_one (ps_if (pt_not (pt_val (pe_call (ok_pair_tells T) (hr.mono (by decide)) (by rfl) T.g_pair_tells T.F_pair_tells.kp (b_pair_tells T) .nil pass0 (pa_cons (pv 1) (pa_cons (pe_ix (r := rIxL K) ix_list (pv 5) (pv 7) (fun _ _ => rfl)) (pa_cons (pe_ix (r := rIxL K) ix_list (pv 5) (pv 8) (fun _ _ => rfl)) (pa_cons (pe_ix (r := rIxL K) ix_list (pv 4) (pv 7) (fun _ _ => rfl)) (pa_cons (pe_ix (r := rIxL K) ix_list (pv 4) (pv 8) (fun _ _ => rfl)) pa_nil)))))))) (pss_one (ps_ret pe_bl)) pss_nil))))))
      (pss_cons (ps_set (i := 9) sc_law.nd rfl (Or.inl rfl) (pe_op (op_binOwn (op := .BitAnd) T.sf T.s_and T.i_and (ok_Cut_and T) (hr.mono (by decide)) (b_Cut_and T) pass0) (pe_op (op_binOwn (op := .BitOr) T.sf T.s_or T.i_or (ok_Cut_or T) (hr.mono (by decide)) (b_Cut_or T) pass0) (pe_ix (r := rIxL K) ix_list (pv 5) pe_int (fun _ _ => rfl)) (pe_ix (r := rIxL K) ix_list (pv 5) pe_int (fun _ _ => rfl))) (pe_ix (r := rIxL K) ix_list (pv 5) pe_int (fun _ _ => rfl))))
      (pss_one (ps_ret (pe_call (ok_same T) (hr.mono (by decide)) (by rfl) T.g_same T.F_same.kp (b_same T) .nil pass0 (pa_cons (pe_cmpR (op_eqOwn T.s_eq T.i_eq (ok_Cut_eq T) (hr.mono (by decide)) (b_Cut_eq T) pass0 ty_looks) (pv 9) (pe_op (op_binOwn (op := .BitOr) T.sf T.s_or T.i_or (ok_Cut_or T) (hr.mono (by decide)) (b_Cut_or T) pass0) (pe_op (op_binOwn (op := .BitAnd) T.sf T.s_and T.i_and (ok_Cut_and T) (hr.mono (by decide)) (b_Cut_and T) pass0) (pe_ix (r := rIxL K) ix_list (pv 5) pe_int (fun _ _ => rfl)) (pe_ix (r := rIxL K) ix_list (pv 5) pe_int (fun _ _ => rfl))) (pe_op (op_binOwn (op := .BitAnd) T.sf T.s_and T.i_and (ok_Cut_and T) (hr.mono (by decide)) (b_Cut_and T) pass0) (pe_ix (r := rIxL K) ix_list (pv 5) pe_int (fun _ _ => rfl)) (pe_ix (r := rIxL K) ix_list (pv 5) pe_int (fun _ _ => rfl)))) (nomark _)) (pa_cons pe_bl pa_nil))))))))))))))), ?_⟩
    refine i_start (σ' := [some (V.ref a), none, none, none, none, none, none, none, none, none]) rfl ?_
    walk_at "vc"
    refine i_penC ha (by decide) (by decide) fun z p np => ?_
    have c0 : Ctx H p (pen z 0 z) (upd H p (pen z 0 z)) := ⟨same_new np, np, upd_same⟩
    generalize upd H p (pen z 0 z) = H1 at c0 ⊢
    walk_at "vc"
    refine i_takeC c0 (by decide) (by decide) fun many n1 k1 H1 m0 m1 c1 => ?_
    clear c0
    walk_at "vc"
    refine ⟨lenB rfl, fun q1 m1' => ?_⟩
    have c2 := c1.new (u := .lst [.int 3, .int 9, .int 40, .int (10 ^ Int.toNat 9 - 2)]) m1'
    have hq1 : upd H q1 (.lst [V.int 3, V.int 9, V.int 40, V.int (10 ^ Int.toNat 9 - 2)]) q1 = some (.lst [V.int 3, V.int 9, V.int 40, V.int (10 ^ Int.toNat 9 - 2)]) := upd_same
    have e2 := same_new (o := .lst [V.int 3, V.int 9, V.int 40, V.int (10 ^ Int.toNat 9 - 2)]) (c1.newF m1')
    walk_at "vc"
    refine i_takeC c2 (by decide) (by decide) fun kd n2 k2 H2 d0 d1 c3 => ?_
    have hw : ∃ wide : Int, atI [V.int 3, V.int 9, V.int 40, V.int (10 ^ Int.toNat 9 - 2)] kd = some (.int wide) ∧ 0 < wide + 2 ∧ wide + 2 < 1073741824 := by
      have e : kd = 0 ∨ kd = 1 ∨ kd = 2 ∨ kd = 3 := by omega
      rcases e with rfl | rfl | rfl | rfl
      · exact ⟨3, rfl, by decide, by decide⟩
      · exact ⟨9, rfl, by decide, by decide⟩
      · exact ⟨40, rfl, by decide, by decide⟩
      · exact ⟨999999998, rfl, by decide, by decide⟩
    obtain ⟨wide, hw, w0, w1⟩ := hw
    refine i_ixL (SqL.of (c3.e _ _ hq1)) hw ?_
    replace e2 := e2.trans c3.e
    clear c3 c2 c1 hq1 hw m1'
    have ha2 := e2.seq ha
    walk_at "vc"
    refine i_penC ha2 (by decide) (by decide) fun z1 p1 np1 => ?_
    walk_at "vc"
    refine i_rowC np1 m0 (by omega) w0 w1 fun D0 H3 ns0 nD0 e3 hD0 l0 => ?_
    replace ha2 := e3.seq ha2
    clear e3 nD0 e2
    walk_at "vc"
    refine ⟨lenB rfl, fun o no => ?_⟩
    have c0 : Ctx H3 o (.lst [.ref D0]) (upd H3 o (.lst [.ref D0])) := ⟨same_new no, no, upd_same⟩
    generalize upd H3 o (.lst [.ref D0]) = H4 at c0 ⊢
    walk_at "vc"
    refine i_tyL (SqL.of c0.h) ?_
    walk_at "vc"
    refine i_penC (c0.e.seq ha2) (by decide) (by decide) fun z2 p2 np2 => ?_
    walk_at "vc"
    refine i_ixL (SqL.of (same_new np2 _ _ c0.h)) (v := .ref D0) rfl ?_
    walk_at "vc"
    refine i_secondC np2 (c0.e _ _ hD0) (by omega) w0 w1 fun D1 H5 ns1 nD1 e5 hD1 l1 => ?_
    obtain ⟨F1, f1, hD1, c1⟩ := Ctx.hold (c0.grow e5) hD1 (c0.ne nD1)
    replace ha2 := f1.seq ha2
    replace hD0 := f1 _ _ hD0
    clear f1 c0 e5 nD1 np2
    walk_at "vc"
    refine i_append c1.h (by show 1 ≤ 100000; omega) ?_
    replace c1 := c1.turn (o' := .lst ([.ref D0] ++ [.ref D1]))
    generalize upd H5 o (.lst ([.ref D0] ++ [.ref D1])) = H6 at c1 ⊢
    walk_at "vc"
    refine i_tyL (SqL.of c1.h) ?_
    walk_at "vc"
    refine i_penC (c1.e.seq ha2) (by decide) (by decide) fun z3 p3 np3 => ?_
    walk_at "vc"
    refine i_rowC np3 m0 (by omega) w0 w1 fun D2 H7 ns2 nD2 e7 hD2 l2 => ?_
    obtain ⟨F2, f2, hD2, c2⟩ := Ctx.hold (c1.grow e7) hD2 (c1.ne nD2)
    replace ha2 := f2.seq ha2
    replace hD0 := f2 _ _ hD0
    replace hD1 := f2 _ _ hD1
    clear f2 c1 e7 nD2 np3
    walk_at "vc"
    refine i_append c2.h (by show 2 ≤ 100000; omega) ?_
    replace c2 := c2.turn (o' := .lst ([.ref D0] ++ [.ref D1] ++ [.ref D2]))
    generalize upd H7 o (.lst ([.ref D0] ++ [.ref D1] ++ [.ref D2])) = H8 at c2 ⊢
    have ho := c2.h
    replace ha2 := c2.e.seq ha2
    replace hD0 := c2.e _ _ hD0
    replace hD1 := c2.e _ _ hD1
    replace hD2 := c2.e _ _ hD2
    clear c2 no
    walk_at "vc"
    refine ⟨o, rfl, ⟨_, SqL.of ho⟩, fun D nD => ?_⟩
    have hrows : ∀ j, j < 3 → ∃ r ns, ([V.ref D0] ++ [V.ref D1] ++ [V.ref D2])[j]? = some (.ref r) ∧ [ns0, ns1, ns2][j]? = some ns ∧ H8 r = some (.lst (ns.map V.int)) ∧ ns.length = many.toNat := fun j hj => by
      have e : j = 0 ∨ j = 1 ∨ j = 2 := by omega
      rcases e with rfl | rfl | rfl
      · exact ⟨D0, ns0, rfl, rfl, hD0, l0⟩
      · exact ⟨D1, ns1, rfl, rfl, hD1, by omega⟩
      · exact ⟨D2, ns2, rfl, rfl, hD2, l2⟩
    have hrl : ([V.ref D0] ++ [V.ref D1] ++ [V.ref D2]).length = 3 := rfl
    generalize [V.ref D0] ++ [V.ref D1] ++ [V.ref D2] = rs at ho hrows hrl ⊢
    generalize [ns0, ns1, ns2] = rws at hrows ⊢
    clear hD0 hD1 hD2 l0 l1 l2
    refine lc_it (walk_list (K := K) (a := o) (xs := rs)) (fun i H1 => ∃ F us, Same H8 F ∧ Ctx F D (.lst (us.map V.ref)) H1 ∧ us.length = i ∧ ∀ j u ns, us[j]? = some u → rws[j]? = some ns → IsCut A.C F u ns)
      ⟨H8, [], Same.refl _, ⟨same_new nD, nD, upd_same⟩, rfl, fun j u _ z _ => absurd z (none_ne j u)⟩ (fun i H1 hi p1 => ?_) (fun i x H1 H2 hi p1 y => ?_) fun H1 p1 => ?_
    · obtain ⟨F, us, e, c, _⟩ := p1
      exact SqL.of (c.e _ _ (e _ _ ho))
    · obtain ⟨F, us, e, c, hl, hu⟩ := p1
      obtain ⟨rfl, hx⟩ := y
      rw [hrl] at hi
      obtain ⟨r, ns, h1, h2, h3, h4⟩ := hrows i hi
      rw [h1] at hx
      cases hx
      walk_at "vc"
      refine ⟨r, ns, rfl, SqL.of (c.e _ _ (e _ _ h3)), by omega, fun u H3 e3 w3 => ?_⟩
      walk_at "vc"
      have ch := c.grow e3
      refine ⟨us.map V.ref, ch.h, by rw [List.length_map]; exact small1000 (by omega), del H3 D, us ++ [u], e.trans ch.all, ?_, by rw [List.length_append, hl]; rfl, fun j v ms g1 g2 => ?_⟩
      · rw [List.map_append]
        exact (Ctx.start ch.h).turn
      · by_cases hj : j < us.length
        · rw [List.getElem?_append_left hj] at g1
          exact (hu j v ms g1 g2).mono ch.all
        · have hj2 : j < us.length + 1 := by
            have := (List.getElem?_eq_some_iff.mp g1).1
            rw [List.length_append] at this
            exact this
          have hj3 : j = us.length := by omega
          subst hj3
          rw [List.getElem?_append_right (Nat.le_refl _), Nat.sub_self] at g1
          cases g1
          rw [hl, h2] at g2
          cases g2
          exact w3.keep c.h
    · obtain ⟨F, us, e, c, hul, hu⟩ := p1
      rw [hrl] at hul
      have hall : ∀ j : Nat, j < 3 → ∃ u r ns, atI (us.map V.ref) (j : Int) = some (.ref u) ∧ atI rs (j : Int) = some (.ref r) ∧ IsCut A.C H1 u ns ∧ H1 r = some (.lst (ns.map V.int)) ∧ ns.length = many.toNat := fun j hj => by
        obtain ⟨r, ns, h1, h2, h3, h4⟩ := hrows j hj
        have hj2 : j < us.length := by omega
        exact ⟨us[j], r, ns, atI_nat (by rw [List.getElem?_map, List.getElem?_eq_getElem hj2]; rfl), atI_nat h1, (hu j _ ns (List.getElem?_eq_getElem hj2) h2).mono c.e, c.e _ _ (e _ _ h3), h4⟩
      have hD := c.h
      replace ho := c.e _ _ (e _ _ ho)
      replace ha2 := c.e.seq (e.seq ha2)
      generalize us.map V.ref = cs at hall hD ⊢
      clear hrows hu c e nD
      walk_at "vc"
      refine i_penC ha2 (by decide) (by decide) fun z4 p4 np4 => ?_
      have c0 : Ctx H1 p4 (pen z4 0 z4) (upd H1 p4 (pen z4 0 z4)) := ⟨same_new np4, np4, upd_same⟩
      generalize upd H1 p4 (pen z4 0 z4) = H9 at c0 ⊢
      walk_at "vc"
      refine ⟨lenB rfl, fun q2 nq2 => ?_⟩
      have c1 := c0.new (u := .lst [.int 0, .int 1, .int 2, .int 0]) nq2
      have e1 := same_new (o := .lst [V.int 0, V.int 1, V.int 2, V.int 0]) (c0.newF nq2)
      have hq2 : upd H1 q2 (.lst [V.int 0, V.int 1, V.int 2, V.int 0]) q2 = some (.lst [V.int 0, V.int 1, V.int 2, V.int 0]) := upd_same
      refine ⟨q2, rfl, ⟨_, SqL.of upd_same⟩, ?_⟩
      generalize upd H1 q2 (.lst [V.int 0, V.int 1, V.int 2, V.int 0]) = F at c1 e1 hq2
      generalize upd H9 q2 (.lst [V.int 0, V.int 1, V.int 2, V.int 0]) = H10 at c1 ⊢
      have hxs : ∀ x ∈ [V.int 0, V.int 1, V.int 2, V.int 0], ∃ j : Nat, j < 3 ∧ x = .int (j : Int) := fun x hx => by
        simp only [List.mem_cons, List.not_mem_nil, or_false] at hx
        rcases hx with rfl | rfl | rfl | rfl
        · exact ⟨0, by decide, rfl⟩
        · exact ⟨1, by decide, rfl⟩
        · exact ⟨2, by decide, rfl⟩
        · exact ⟨0, by decide, rfl⟩
      generalize [V.int 0, V.int 1, V.int 2, V.int 0] = xs at hxs hq2 ⊢
      replace hall : ∀ j : Nat, j < 3 → ∃ u r ns, atI cs (j : Int) = some (.ref u) ∧ atI rs (j : Int) = some (.ref r) ∧ IsCut A.C F u ns ∧ F r = some (.lst (ns.map V.int)) ∧ ns.length = many.toNat := fun j hj => by
        obtain ⟨u, r, ns, h1, h2, h3, h4, h5⟩ := hall j hj
        exact ⟨u, r, ns, h1, h2, h3.mono e1, e1 _ _ h4, h5⟩
      replace hD := e1 _ _ hD
      replace ho := e1 _ _ ho
      clear c0 e1 nq2 np4
      refine for_it (walk_list (K := K) (a := q2) (xs := xs)) (fun _ σ' H' => ∃ n' k' y7 y8, σ' = [some (V.ref a), some (.ref p4), some (.int many), some (.int wide), some (.ref o), some (.ref D), none, y7, y8, none] ∧ Ctx F p4 (pen z4 n' k') H') ⟨_, _, _, _, rfl, c1⟩
        (fun _ _ _ _ pv => ?_) (fun i x σ' H' H'' hi pv y => ?_) fun σ' H' pv => ?_
      · obtain ⟨n', k', y7, y8, _, cx⟩ := pv
        exact SqL.of (cx.e _ _ hq2)
      · obtain ⟨n', k', y7, y8, rfl, cx⟩ := pv
        obtain ⟨rfl, hx⟩ := y
        obtain ⟨j, hj, rfl⟩ := hxs x (List.mem_of_getElem? hx)
        obtain ⟨u, r, ns, h1, h2, h3, h4, h5⟩ := hall j hj
        walk_at "vc"
        refine i_ixL (SqL.of (cx.e _ _ hD)) h1 ?_
        walk_at "vc"
        refine i_ixL (SqL.of (cx.e _ _ ho)) h2 ?_
        walk_at "vc"
        refine i_tellsC cx h3 (SqL.of h4) (by omega) fun n2 k2 H2' c2 => ?_
        walk_at "vc"
        refine i_ixL (SqL.of (c2.e _ _ hD)) h1 ?_
        walk_at "vc"
        refine i_ixL (SqL.of (c2.e _ _ ho)) h2 ?_
        walk_at "vc"
        refine ⟨u, r, ns, rfl, h3.mono c2.e, c2.e _ _ h4, by omega, fun H3' e3 => ?_⟩
        have c3 := c2.grow e3
        walk_at "vc"
        refine ⟨3, rfl, by decide, by decide, ?_⟩
        refine for_it (walk_range (lo := 0) (n := 3)) (fun _ σ' H' => ∃ n' k' y8, σ' = [some (V.ref a), some (.ref p4), some (.int many), some (.int wide), some (.ref o), some (.ref D), none, some (.int (j : Int)), y8, none] ∧ Ctx F p4 (pen z4 n' k') H') ⟨_, _, _, rfl, c3⟩
          (fun _ _ _ _ _ => trivial) (fun i2 x σ' H' H'' hi2 pv y => ?_) fun σ' H' pv => ?_
        · obtain ⟨n', k', y8, rfl, cx⟩ := pv
          obtain ⟨rfl, rfl⟩ := y
          obtain ⟨u', r', ns', g1, g2, g3, g4, g5⟩ := hall i2 hi2
          rw [← Int.zero_add (i2 : Int)] at g1 g2
          walk_at "vc"
          refine i_ixL (SqL.of (cx.e _ _ hD)) h1 ?_
          walk_at "vc"
          refine i_ixL (SqL.of (cx.e _ _ hD)) g1 ?_
          walk_at "vc"
          refine i_ixL (SqL.of (cx.e _ _ ho)) h2 ?_
          walk_at "vc"
          refine i_ixL (SqL.of (cx.e _ _ ho)) g2 ?_
          walk_at "vc"
          refine i_pairC cx h3 g3 (SqL.of h4) (SqL.of g4) (by omega) (by omega) fun n4 k4 H4' c4 => ?_
          walk_at "vc"
          exact ⟨_, _, _, rfl, c4⟩
        · obtain ⟨n', k', y8, rfl, cx⟩ := pv
          exact ⟨_, _, _, _, rfl, cx⟩
      · obtain ⟨n', k', y7, y8, rfl, cx⟩ := pv
        obtain ⟨u0, r0, ns0, a1, a2, a3, a4, a5⟩ := hall 0 (by decide)
        obtain ⟨u1, r1, ns1, b1, b2, b3, b4, b5⟩ := hall 1 (by decide)
        obtain ⟨u2, r2, ns2, d1, d2, d3, d4, d5⟩ := hall 2 (by decide)
        have hG := cx.e
        walk_at "vc"
        refine i_binC (a3.mono hG) (b3.mono hG) (by omega) (by omega) fun v1 G1 e1 w1 => ?_
        have i1 := w1.is
        replace hG := hG.trans e1
        walk_at "vc"
        refine i_binC i1 (d3.mono hG) (by rw [mx_len (by omega)]; omega) (by rw [mx_len (by omega)]; omega) fun v2 G2 e2 w2 => ?_
        have i2 := w2.is
        replace hG := hG.trans e2
        walk_at "vc"
        refine i_binC (a3.mono hG) (d3.mono hG) (by omega) (by omega) fun v3 G3 e3 w3 => ?_
        have i3 := w3.is
        replace hG := hG.trans e3
        replace i2 := i2.mono e3
        walk_at "vc"
        refine i_binC (b3.mono hG) (d3.mono hG) (by omega) (by omega) fun v4 G4 e4 w4 => ?_
        have i4 := w4.is
        replace hG := hG.trans e4
        replace i2 := i2.mono e4
        replace i3 := i3.mono e4
        walk_at "vc"
        refine i_binC i3 i4 (by rw [mn_len (by omega)]; omega) (by rw [mn_len (by omega), mn_len (by omega)]; omega) fun v5 G5 e5 w5 => ?_
        have i5 := w5.is
        replace i2 := i2.mono e5
        walk_at "vc"
        refine i_eqC T i2 i5 ?_
        rw [decide_eq_true (mn_joined (by omega) (by omega))]
        walk_at "vc"
        refine i_same _ (.bl _) (.bl _) (by show 0 < 4; decide) rfl fun G6 e6 => ?_
        walk_at "vc"
        exact q _
end
end K13
set_option maxRecDepth 100000
namespace K13
open PySem PySem.Spec PyProof.Rows L2 VX
theorem cls_ref {K : PySem.W.Frag} {t : Value} {c : Addr} {b : Bool} (i : PySem.W.isClsIn K c = true) (ty : PySem.W.typeIn K (.ref c) = some (.type "type")) (s : PySem.W.subIn K t (.ref c) = some b) : PySem.W.kitCls K t (.ref c) = some b := by
  unfold PySem.W.kitCls
  have i : (PySem.W.clsIn K c).isSome = true := i
  show (if ((PySem.W.clsIn K c).isSome && PySem.W.typeIn K (.ref c) == some (.type "type")) = true then PySem.W.subIn K t (.ref c) else none) = some b
  rw [i, ty, beq_self_eq_true]
  exact s
theorem exm_ref {K : PySem.W.Frag} {t : Value} {c : Addr} {b : Bool} (e : PySem.W.subIn K (.ref c) (.type "BaseException") = some true) (i : PySem.W.isClsIn K c = true) (ty : PySem.W.typeIn K (.ref c) = some (.type "type")) (s : PySem.W.subIn K t (.ref c) = some b) : PySem.W.exmOne K t (.ref c) = some b := by
  unfold PySem.W.exmOne
  rw [e, beq_self_eq_true]
  exact cls_ref i ty s
theorem kit_refT {K : PySem.W.Frag} {t : Value} {c : Addr} (i : PySem.W.isClsIn K c = true) (ty : PySem.W.typeIn K (.ref c) = some (.type "type")) (s : PySem.W.subIn K t (.ref c) = some true) : PySem.W.kitOne K t (.ref c) = some true := by
  unfold PySem.W.kitOne
  split
  · rfl
  · exact cls_ref i ty s
theorem kit_refF {K : PySem.W.Frag} {n c : Addr} (i : PySem.W.isClsIn K c = true) (ty : PySem.W.typeIn K (.ref c) = some (.type "type")) (s0 : PySem.W.subIn K (.ref n) (.ref n) = some true) (s : PySem.W.subIn K (.ref n) (.ref c) = some false) : PySem.W.kitOne K (.ref n) (.ref c) = some false := by
  unfold PySem.W.kitOne
  split
  · rename_i h
    have e : (Value.ref n) = .ref c := eq_of_beq h
    cases e
    rw [s0] at s
    cases s
  · exact cls_ref i ty s
theorem kit_self {K : PySem.W.Frag} {c : Addr} : PySem.W.kitOne K (.ref c) (.ref c) = some true := by
  unfold PySem.W.kitOne
  rw [beq_self_eq_true]
  rfl
theorem kit_typeT {K : PySem.W.Frag} {n : Addr} {T : String} (m : PySem.W.kitMeta T = true) (s : PySem.W.subIn K (.ref n) (.type T) = some true) : PySem.W.kitOne K (.ref n) (.type T) = some true := by
  unfold PySem.W.kitOne
  split
  · rfl
  · show (if PySem.W.kitMeta T = true then PySem.W.subIn K (.ref n) (.type T) else none) = some true
    rw [if_pos m]
    exact s
theorem kit_tyF {K : PySem.W.Frag} {c : Addr} {T : String} (i : PySem.W.isClsIn K c = true) (ty : PySem.W.typeIn K (.ref c) = some (.type "type")) (s : PySem.W.notFirst K c (.type T) = true) : PySem.W.kitOne K (.type T) (.ref c) = some false := by
  have z : (Value.type T == Value.ref c) = false := rfl
  unfold PySem.W.notFirst at s
  rw [z, Bool.false_or] at s
  unfold PySem.W.kitOne
  rw [z]
  exact cls_ref i ty (eq_of_beq s)
theorem six {p : String → Prop} (h0 : p "list") (h1 : p "tuple") (h2 : p "NoneType") (h3 : p "int") (h4 : p "bool") (h5 : p "str") : ∀ t, t ∈ (["list", "tuple", "NoneType", "int", "bool", "str"] : List String) → p t := fun t ht => by
  simp only [List.mem_cons, List.not_mem_nil, or_false] at ht
  rcases ht with rfl | rfl | rfl | rfl | rfl | rfl <;> assumption
theorem all_mk {P : Program} {w : World} {K : PySem.W.Frag} {h : Heap} {mg : Str → Option Value} {fa C N R B fN fI fH fW fIt fC fO fA fE cell pen take same row second cut height caught tells pair unlike law : Addr} {dN dI dH dW dIt dC dO dA dE dcell dpen dtake dsame drow dsecond dcut dheight dcaught dtells dpair dunlike dlaw : FuncData}
    {nm q : Str} {Nn : Addr} {bs bm : List Value} {sn : List Str} {sub : List Value} {ab : Bool} {col : Option Bool} {dd : Option Addr} {m0 m1 m2 m3 m5 : Option Value}
    (X : K.In h) (G : h.Ns mainGlobals mg) (hfa : mg "law" = some (.ref fa))
    (gC : PySem.W.nsIn K mainGlobals "Cut" = some (some (.ref C)))
    (gN : PySem.W.nsIn K mainGlobals "NoBox" = some (some (.ref N)))
    (gR : PySem.W.nsIn K mainGlobals "RailsError" = some (some (.ref R)))
    (gB : PySem.W.nsIn K mainGlobals "BadCut" = some (some (.ref B)))
    (a_NoBox_init : PySem.W.findIn K (.ref N) "__init__" = some (some (.ref fN)))
    (F_NoBox_init : Fun K "__init__" "NoBox.__init__" s_NoBox_init fN dN)
    (a_Cut_init : PySem.W.findIn K (.ref C) "__init__" = some (some (.ref fI)))
    (F_Cut_init : Fun K "__init__" "Cut.__init__" s_Cut_init fI dI)
    (a_Cut_height : PySem.W.findIn K (.ref C) "height" = some (some (.ref fH)))
    (F_Cut_height : Fun K "height" "Cut.height" s_Cut_height fH dH)
    (a_Cut_within : PySem.W.findIn K (.ref C) "within" = some (some (.ref fW)))
    (F_Cut_within : Fun K "within" "Cut.within" s_Cut_within fW dW)
    (a_Cut_iter : PySem.W.findIn K (.ref C) "__iter__" = some (some (.ref fIt)))
    (F_Cut_iter : Fun K "__iter__" "Cut.__iter__" s_Cut_iter fIt dIt)
    (a_Cut_contains : PySem.W.findIn K (.ref C) "__contains__" = some (some (.ref fC)))
    (F_Cut_contains : Fun K "__contains__" "Cut.__contains__" s_Cut_contains fC dC)
    (a_Cut_or : PySem.W.findIn K (.ref C) "__or__" = some (some (.ref fO)))
    (F_Cut_or : Fun K "__or__" "Cut.__or__" s_Cut_or fO dO)
    (a_Cut_and : PySem.W.findIn K (.ref C) "__and__" = some (some (.ref fA)))
    (F_Cut_and : Fun K "__and__" "Cut.__and__" s_Cut_and fA dA)
    (a_Cut_eq : PySem.W.findIn K (.ref C) "__eq__" = some (some (.ref fE)))
    (F_Cut_eq : Fun K "__eq__" "Cut.__eq__" s_Cut_eq fE dE)
    (a_cell : PySem.W.nsIn K mainGlobals "_law_cell" = some (some (.ref cell)))
    (F_cell : Fun K "_law_cell" "_law_cell" s_cell cell dcell)
    (a_pen : PySem.W.nsIn K mainGlobals "_law_pen" = some (some (.ref pen)))
    (F_pen : Fun K "_law_pen" "_law_pen" s_pen pen dpen)
    (a_take : PySem.W.nsIn K mainGlobals "_law_take" = some (some (.ref take)))
    (F_take : Fun K "_law_take" "_law_take" s_take take dtake)
    (a_same : PySem.W.nsIn K mainGlobals "_law_same" = some (some (.ref same)))
    (F_same : Fun K "_law_same" "_law_same" s_same same dsame)
    (a_row : PySem.W.nsIn K mainGlobals "_law_row" = some (some (.ref row)))
    (F_row : Fun K "_law_row" "_law_row" s_row row drow)
    (a_second : PySem.W.nsIn K mainGlobals "_law_second" = some (some (.ref second)))
    (F_second : Fun K "_law_second" "_law_second" s_second second dsecond)
    (a_cut : PySem.W.nsIn K mainGlobals "_law_cut" = some (some (.ref cut)))
    (F_cut : Fun K "_law_cut" "_law_cut" s_cut cut dcut)
    (a_height : PySem.W.nsIn K mainGlobals "_law_height" = some (some (.ref height)))
    (F_height : Fun K "_law_height" "_law_height" s_height height dheight)
    (a_caught : PySem.W.nsIn K mainGlobals "_law_caught" = some (some (.ref caught)))
    (F_caught : Fun K "_law_caught" "_law_caught" s_caught caught dcaught)
    (a_tells : PySem.W.nsIn K mainGlobals "_law_tells" = some (some (.ref tells)))
    (F_tells : Fun K "_law_tells" "_law_tells" s_tells tells dtells)
    (a_pair_tells : PySem.W.nsIn K mainGlobals "_law_pair_tells" = some (some (.ref pair)))
    (F_pair_tells : Fun K "_law_pair_tells" "_law_pair_tells" s_pair_tells pair dpair)
    (a_unlike : PySem.W.nsIn K mainGlobals "_law_unlike" = some (some (.ref unlike)))
    (F_unlike : Fun K "_law_unlike" "_law_unlike" s_unlike unlike dunlike)
    (a_law : PySem.W.nsIn K mainGlobals "law" = some (some (.ref law)))
    (F_law : Fun K "law" "law" s_law law dlaw)
    (z_int : PySem.W.nsIn K mainGlobals "int" = some none)
    (z_len : PySem.W.nsIn K mainGlobals "len" = some none)
    (z_list : PySem.W.nsIn K mainGlobals "list" = some none)
    (z_tuple : PySem.W.nsIn K mainGlobals "tuple" = some none)
    (z_bool : PySem.W.nsIn K mainGlobals "bool" = some none)
    (z_str : PySem.W.nsIn K mainGlobals "str" = some none)
    (z_isinstance : PySem.W.nsIn K mainGlobals "isinstance" = some none)
    (z_all : PySem.W.nsIn K mainGlobals "all" = some none)
    (z_range : PySem.W.nsIn K mainGlobals "range" = some none)
    (z_max : PySem.W.nsIn K mainGlobals "max" = some none)
    (z_min : PySem.W.nsIn K mainGlobals "min" = some none)
    (z_enumerate : PySem.W.nsIn K mainGlobals "enumerate" = some none)
    (z_zip : PySem.W.nsIn K mainGlobals "zip" = some none)
    (z_iter : PySem.W.nsIn K mainGlobals "iter" = some none)
    (z_ValueError : PySem.W.nsIn K mainGlobals "ValueError" = some none)
    (pg : PySem.W.plainGet K C Str.empty = true)
    (hd : PySem.W.hasDictIn K C = true)
    (po : PySem.W.plainOver K C = true)
    (sa : PySem.W.findIn K (.ref C) "__setattr__" = some (some (.builtin "object.__setattr__")))
    (mk : PySem.W.makesIn K C = true)
    (kC : PySem.W.keepIn K (.ref C) = true)
    (iI : PySem.W.isFn K (.ref fI) = true)
    (iH : PySem.W.isFn K (.ref fH) = true)
    (iW : PySem.W.isFn K (.ref fW) = true)
    (iIt : PySem.W.isFn K (.ref fIt) = true)
    (iCo : PySem.W.isFn K (.ref fC) = true)
    (iO : PySem.W.isFn K (.ref fO) = true)
    (iA : PySem.W.isFn K (.ref fA) = true)
    (iE : PySem.W.isFn K (.ref fE) = true)
    (nl : PySem.W.findIn K (.ref C) "__len__" = some none)
    (nh : PySem.W.findIn K (.ref C) "__length_hint__" = some none)
    (nA : PySem.W.findIn K (.ref C) "_heights" = some none)
    (sf : PySem.W.selfFirst K C = true)
    (ca : PySem.W.findIn K (.ref C) "__class__" = some (some (.builtin "object.__class__")))
    (cm : PySem.W.mroIn K C (.type "object") = some true)
    (xL : K.lookup N = some (excClassObj nm q N Nn bs bm true sn sub ab col dd m0 m1 m2 m3 m5 "ValueError.__new__"))
    (xB : PySem.HandSPX.refsVE bm = true)
    (xsa : PySem.W.findIn K (.ref N) "__setattr__" = some (some (.builtin "object.__setattr__")))
    (xex : PySem.W.subIn K (.ref N) (.type "BaseException") = some true)
    (xty : PySem.W.typeIn K (.ref N) = some (.type "type"))
    (xk : PySem.W.keepIn K (.ref N) = true)
    (tI : PySem.W.typeIn K (.ref fN) = some (.type "function"))
    (nb : PySem.W.findIn K (.ref N) "box" = some none)
    (xga : PySem.W.findIn K (.ref N) "__getattribute__" = some (some (.builtin "BaseException.__getattribute__")))
    (xgg : PySem.W.findIn K (.ref N) "__getattr__" = some none)
    (xhd : PySem.W.hasDictIn K N = true)
    (xca : PySem.W.findIn K (.ref N) "__class__" = some (some (.builtin "object.__class__")))
    (xhn : PySem.W.specialIn K (.builtin "object.__class__") "__get__" = some (some (.builtin "getset_descriptor.__get__")))
    (xht : PySem.W.takesIn K (.builtin "object.__class__") = some true)
    (xhm : PySem.W.mroIn K N (.type "object") = some true)
    (xcl : PySem.W.isClsIn K N = true)
    (sNN : PySem.W.subIn K (.ref N) (.ref N) = some true)
    (sNR : PySem.W.subIn K (.ref N) (.ref R) = some true)
    (sNB : PySem.W.subIn K (.ref N) (.ref B) = some false)
    (sNV : PySem.W.subIn K (.ref N) (.type "ValueError") = some true)
    (eR : PySem.W.subIn K (.ref R) (.type "BaseException") = some true)
    (cR : PySem.W.isClsIn K R = true)
    (tR : PySem.W.typeIn K (.ref R) = some (.type "type"))
    (cB : PySem.W.isClsIn K B = true)
    (tB : PySem.W.typeIn K (.ref B) = some (.type "type"))
    (cC : PySem.W.isClsIn K C = true)
    (tC : PySem.W.typeIn K (.ref C) = some (.type "type"))
    (nf_list : PySem.W.notFirst K C (.type "list") = true)
    (nf_tuple : PySem.W.notFirst K C (.type "tuple") = true)
    (nf_NoneType : PySem.W.notFirst K C (.type "NoneType") = true)
    (nf_int : PySem.W.notFirst K C (.type "int") = true)
    (nf_bool : PySem.W.notFirst K C (.type "bool") = true)
    (nf_str : PySem.W.notFirst K C (.type "str") = true)
    : ∃ fd : FuncData, (∀ (s : Shared) (v : Value), BindsTo s fd ⟨[v], []⟩ [("_law_script", v)]) ∧ ∀ base : Heap, K.In base → base.Ns mainGlobals mg → FnOk P w K mg base CX0 7 fa fd ["_law_script"] (spLaw K) := by
  have e := hfa.symm.trans (PySem.W.mg_of X G a_law)
  cases e
  have T : Txt K mg ⟨C, N, R, B, fN, fI, fH, fW, fIt, fC, fO, fA, fE, dN, dI, dH, dW, dIt, dC, dO, dA, dE, cell, pen, take, same, row, second, cut, height, caught, tells, pair, unlike, fa, dcell, dpen, dtake, dsame, drow, dsecond, dcut, dheight, dcaught, dtells, dpair, dunlike, dlaw⟩ :=
    { F_NoBox_init := F_NoBox_init,
      F_Cut_init := F_Cut_init,
      F_Cut_height := F_Cut_height,
      F_Cut_within := F_Cut_within,
      F_Cut_iter := F_Cut_iter,
      F_Cut_contains := F_Cut_contains,
      F_Cut_or := F_Cut_or,
      F_Cut_and := F_Cut_and,
      F_Cut_eq := F_Cut_eq,
      F_cell := F_cell,
      F_pen := F_pen,
      F_take := F_take,
      F_same := F_same,
      F_row := F_row,
      F_second := F_second,
      F_cut := F_cut,
      F_height := F_height,
      F_caught := F_caught,
      F_tells := F_tells,
      F_pair_tells := F_pair_tells,
      F_unlike := F_unlike,
      F_law := F_law,
      g_cell := PySem.W.mg_of X G a_cell,
      g_pen := PySem.W.mg_of X G a_pen,
      g_take := PySem.W.mg_of X G a_take,
      g_same := PySem.W.mg_of X G a_same,
      g_row := PySem.W.mg_of X G a_row,
      g_second := PySem.W.mg_of X G a_second,
      g_cut := PySem.W.mg_of X G a_cut,
      g_height := PySem.W.mg_of X G a_height,
      g_caught := PySem.W.mg_of X G a_caught,
      g_tells := PySem.W.mg_of X G a_tells,
      g_pair_tells := PySem.W.mg_of X G a_pair_tells,
      g_unlike := PySem.W.mg_of X G a_unlike,
      g_Cut := PySem.W.mg_of X G gC,
      g_NoBox := PySem.W.mg_of X G gN,
      g_RailsError := PySem.W.mg_of X G gR,
      g_BadCut := PySem.W.mg_of X G gB,
      n_int := PySem.W.mg_none_of X G z_int,
      n_len := PySem.W.mg_none_of X G z_len,
      n_list := PySem.W.mg_none_of X G z_list,
      n_tuple := PySem.W.mg_none_of X G z_tuple,
      n_bool := PySem.W.mg_none_of X G z_bool,
      n_str := PySem.W.mg_none_of X G z_str,
      n_isinstance := PySem.W.mg_none_of X G z_isinstance,
      n_all := PySem.W.mg_none_of X G z_all,
      n_range := PySem.W.mg_none_of X G z_range,
      n_max := PySem.W.mg_none_of X G z_max,
      n_min := PySem.W.mg_none_of X G z_min,
      n_enumerate := PySem.W.mg_none_of X G z_enumerate,
      n_zip := PySem.W.mg_none_of X G z_zip,
      n_iter := PySem.W.mg_none_of X G z_iter,
      n_ValueError := PySem.W.mg_none_of X G z_ValueError,
      cl := ⟨pg, hd, po, sa⟩,
      M_Cut := ⟨mk, a_Cut_init, iI, kC⟩,
      m_height := ⟨a_Cut_height, iH, F_Cut_height.kp⟩,
      m_within := ⟨a_Cut_within, iW, F_Cut_within.kp⟩,
      oi := ⟨a_Cut_iter, iIt⟩,
      nl := nl,
      nh := nh,
      nA := nA,
      s_contains := a_Cut_contains,
      i_contains := iCo,
      s_or := a_Cut_or,
      i_or := iO,
      s_and := a_Cut_and,
      i_and := iA,
      s_eq := a_Cut_eq,
      i_eq := iE,
      sf := sf,
      ca := ca,
      cm := cm,
      oex := ⟨⟨_, _, _, _, _, _, _, _, _, _, _, _, _, _, _, xL, xB⟩, xsa, xex, xty, xk⟩,
      ini := a_NoBox_init,
      tI := tI,
      nb := nb,
      xd := ⟨⟨xga, xgg, xex, xhd, xca, xhn, xht, xhm⟩, xcl⟩,
      xf := ⟨xga, xgg, xex, xhd⟩,
      kNN := exm_ref xex xcl xty sNN,
      kNR := exm_ref eR cR tR sNR,
      iR := kit_refT cR tR sNR,
      iV := kit_typeT (by decide +kernel) sNV,
      iB := kit_refF cB tB sNN sNB,
      iCC := kit_self,
      iCt := six (kit_tyF cC tC nf_list) (kit_tyF cC tC nf_tuple) (kit_tyF cC tC nf_NoneType) (kit_tyF cC tC nf_int) (kit_tyF cC tC nf_bool) (kit_tyF cC tC nf_str),
      nf := six nf_list nf_tuple nf_NoneType nf_int nf_bool nf_str,
      kC := kC }
  obtain ⟨oc, od, kV, dc, pm, an, cd, ct, sl, hfd, lk, hc⟩ := id F_law.ex
  refine ⟨dlaw, fun s v => ?_, fun base _ _ => ok_law T⟩
  subst hfd
  exact .of_eq rfl
end K13
open PySem PySem.W PyProof.Rows in
set_option maxRecDepth 100000 in
set_option maxHeartbeats 0 in
theorem PySem.Challenge.cw_surerails_k13_cut_signs_holds : PySem.Challenge.rw_surerails_k13_cut_signs.Holds := by
  w_on; o_law; k_head; (case hw => w_witness2)
  k_fill
  refine L2.walk_of (l := PySem.Challenge.rw_surerails_k13_cut_signs) (n := 63) (k := 7) (x := "_law_script") (CX := fun _ => L2.CX0) (sp := fun w => K13.spLaw (PySem.Challenge.cw_surerails_k13_cut_signs_holds.heap_39 w.params)) rfl (by decide) rfl ⟨rfl, by decide, by decide⟩ (fun w h Y => PySem.W.kIn_of Y) ?F ?S fun _ _ _ _ _ z => z
  case S =>
    intro w H a ns hl _ hS
    exact ⟨a, ns, rfl, hS, fun _ => rfl⟩
  case F =>
    intro w mg fa h KX G hmg
    refine' K13.all_mk KX G hmg ?gC ?gN ?gR ?gB ?a_NoBox_init ?F_NoBox_init ?a_Cut_init ?F_Cut_init ?a_Cut_height ?F_Cut_height ?a_Cut_within ?F_Cut_within ?a_Cut_iter ?F_Cut_iter ?a_Cut_contains ?F_Cut_contains ?a_Cut_or ?F_Cut_or ?a_Cut_and ?F_Cut_and ?a_Cut_eq ?F_Cut_eq ?a_cell ?F_cell ?a_pen ?F_pen ?a_take ?F_take ?a_same ?F_same ?a_row ?F_row ?a_second ?F_second ?a_cut ?F_cut ?a_height ?F_height ?a_caught ?F_caught ?a_tells ?F_tells ?a_pair_tells ?F_pair_tells ?a_unlike ?F_unlike ?a_law ?F_law ?z_int ?z_len ?z_list ?z_tuple ?z_bool ?z_str ?z_isinstance ?z_all ?z_range ?z_max ?z_min ?z_enumerate ?z_zip ?z_iter ?z_ValueError ?pg ?hd ?po ?sa ?mk ?kC ?iI ?iH ?iW ?iIt ?iCo ?iO ?iA ?iE ?nl ?nh ?nA ?sf ?ca ?cm ?xL ?xB ?xsa ?xex ?xty ?xk ?tI ?nb ?xga ?xgg ?xhd ?xca ?xhn ?xht ?xhm ?xcl ?sNN ?sNR ?sNB ?sNV ?eR ?cR ?tR ?cB ?tB ?cC ?tC ?nf_list ?nf_tuple ?nf_NoneType ?nf_int ?nf_bool ?nf_str
    (case gC => k_is)
    (case gN => k_is)
    (case gR => k_is)
    (case gB => k_is)
    (case a_NoBox_init => k_is)
    (case F_NoBox_init => refine' L2.fun_mk ?l ?c ?k; (case l => k_is); (case c => k_is); (case k => k_is))
    (case a_Cut_init => k_is)
    (case F_Cut_init => refine' L2.fun_mk ?l ?c ?k; (case l => k_is); (case c => k_is); (case k => k_is))
    (case a_Cut_height => k_is)
    (case F_Cut_height => refine' L2.fun_mk ?l ?c ?k; (case l => k_is); (case c => k_is); (case k => k_is))
    (case a_Cut_within => k_is)
    (case F_Cut_within => refine' L2.fun_mk ?l ?c ?k; (case l => k_is); (case c => k_is); (case k => k_is))
    (case a_Cut_iter => k_is)
    (case F_Cut_iter => refine' L2.fun_mk ?l ?c ?k; (case l => k_is); (case c => k_is); (case k => k_is))
    (case a_Cut_contains => k_is)
    (case F_Cut_contains => refine' L2.fun_mk ?l ?c ?k; (case l => k_is); (case c => k_is); (case k => k_is))
    (case a_Cut_or => k_is)
    (case F_Cut_or => refine' L2.fun_mk ?l ?c ?k; (case l => k_is); (case c => k_is); (case k => k_is))
    (case a_Cut_and => k_is)
    (case F_Cut_and => refine' L2.fun_mk ?l ?c ?k; (case l => k_is); (case c => k_is); (case k => k_is))
    (case a_Cut_eq => k_is)
    (case F_Cut_eq => refine' L2.fun_mk ?l ?c ?k; (case l => k_is); (case c => k_is); (case k => k_is))
    (case a_cell => k_is)
    (case F_cell => refine' L2.fun_mk ?l ?c ?k; (case l => k_is); (case c => k_is); (case k => k_is))
    (case a_pen => k_is)
    (case F_pen => refine' L2.fun_mk ?l ?c ?k; (case l => k_is); (case c => k_is); (case k => k_is))
    (case a_take => k_is)
    (case F_take => refine' L2.fun_mk ?l ?c ?k; (case l => k_is); (case c => k_is); (case k => k_is))
    (case a_same => k_is)
    (case F_same => refine' L2.fun_mk ?l ?c ?k; (case l => k_is); (case c => k_is); (case k => k_is))
    (case a_row => k_is)
    (case F_row => refine' L2.fun_mk ?l ?c ?k; (case l => k_is); (case c => k_is); (case k => k_is))
    (case a_second => k_is)
    (case F_second => refine' L2.fun_mk ?l ?c ?k; (case l => k_is); (case c => k_is); (case k => k_is))
    (case a_cut => k_is)
    (case F_cut => refine' L2.fun_mk ?l ?c ?k; (case l => k_is); (case c => k_is); (case k => k_is))
    (case a_height => k_is)
    (case F_height => refine' L2.fun_mk ?l ?c ?k; (case l => k_is); (case c => k_is); (case k => k_is))
    (case a_caught => k_is)
    (case F_caught => refine' L2.fun_mk ?l ?c ?k; (case l => k_is); (case c => k_is); (case k => k_is))
    (case a_tells => k_is)
    (case F_tells => refine' L2.fun_mk ?l ?c ?k; (case l => k_is); (case c => k_is); (case k => k_is))
    (case a_pair_tells => k_is)
    (case F_pair_tells => refine' L2.fun_mk ?l ?c ?k; (case l => k_is); (case c => k_is); (case k => k_is))
    (case a_unlike => k_is)
    (case F_unlike => refine' L2.fun_mk ?l ?c ?k; (case l => k_is); (case c => k_is); (case k => k_is))
    (case a_law => k_is)
    (case F_law => refine' L2.fun_mk ?l ?c ?k; (case l => k_is); (case c => k_is); (case k => k_is))
    (case z_int => k_is)
    (case z_len => k_is)
    (case z_list => k_is)
    (case z_tuple => k_is)
    (case z_bool => k_is)
    (case z_str => k_is)
    (case z_isinstance => k_is)
    (case z_all => k_is)
    (case z_range => k_is)
    (case z_max => k_is)
    (case z_min => k_is)
    (case z_enumerate => k_is)
    (case z_zip => k_is)
    (case z_iter => k_is)
    (case z_ValueError => k_is)
    (case pg => k_is)
    (case hd => k_is)
    (case po => k_is)
    (case sa => k_is)
    (case mk => k_is)
    (case kC => k_is)
    (case iI => k_is)
    (case iH => k_is)
    (case iW => k_is)
    (case iIt => k_is)
    (case iCo => k_is)
    (case iO => k_is)
    (case iA => k_is)
    (case iE => k_is)
    (case nl => k_is)
    (case nh => k_is)
    (case nA => k_is)
    (case sf => k_is)
    (case ca => k_is)
    (case cm => k_is)
    (case xL => k_is)
    (case xB => decide +kernel)
    (case xsa => k_is)
    (case xex => k_is)
    (case xty => k_is)
    (case xk => k_is)
    (case tI => k_is)
    (case nb => k_is)
    (case xga => k_is)
    (case xgg => k_is)
    (case xhd => k_is)
    (case xca => k_is)
    (case xhn => k_is)
    (case xht => k_is)
    (case xhm => k_is)
    (case xcl => k_is)
    (case sNN => first | rfl | k_is)
    (case sNR => k_is)
    (case sNB => k_is)
    (case sNV => k_is)
    (case eR => k_is)
    (case cR => k_is)
    (case tR => k_is)
    (case cB => k_is)
    (case tB => k_is)
    (case cC => k_is)
    (case tC => k_is)
    (case nf_list => k_is)
    (case nf_tuple => k_is)
    (case nf_NoneType => k_is)
    (case nf_int => k_is)
    (case nf_bool => k_is)
    (case nf_str => k_is)

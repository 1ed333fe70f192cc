import PyProof.Rows.All
import Wide.All
import OpenK.AllK
import Wide.FinOn
import HandS.ForMost
import HandS.ForExc
import HandS.IsInst
import HandS.Conv
import HandS.IterNext
import HandS.IterVal
import HandS.OwnIter
import HandS.ExcIs
import HandS.ExcField
import HandS.MakeKw
import HandS.OwnEq
import HandS.ExcInit
import KE.KExcIs
import HandS.MakeKwOnly
import HandS.Walk
import HandS.Evl
import HandS.Iter
import HandS.DictTup
import HandS.TupSets
import HandS.SortOrd
import HandS.SortRule
import HandS.More
import HandS.DictComp
import HandS.Dict
import HandS.Exc
import HandS.TryMany
import PyProof.ReprRoads
import HandS.Ends
import HandS.Deep
import HandS.SortInts
import HandS.Small
import HandS.Defaults
import PyProof.ReprLen
import HandS.List
import KE.DataMinMax
import PyProof.Rows.SeqMore
import HandS.CallSlots
import PySem.Challenge.RW_surerails_k03_least_lags
set_option Elab.async false
set_option linter.all false
set_option maxRecDepth 100000
set_option maxHeartbeats 4000000
/-! My own words over HandS: one introduction lemma a construct's reading, for a walk by head symbols. -/
namespace VX
open PySem PySem.Spec PyProof.Rows L2
/-- what was tracked stays -/
abbrev Ex (H H' : Hp) : Prop := Same H H'
theorem same_at {H H' : Hp} {a : Addr} {o : HO} (e : Same H H') (h : H a = some o) : H' a = some o := e a o h
theorem same_new {H : Hp} {p : Addr} {o : HO} (h : H p = none) : Same H (upd H p o) := fun b x e => by
  rw [upd_ne (ne_of_none e h)]
  exact e
section
variable {D : Ends} {σ σ' : L2.St} {H H' : Hp} {Q : VK} {te ta tb tc : TE} {t u : TS} {g : TG} {i : Nat} {v x y : V} {r r' : R2} {K : PySem.W.Frag} {f : Str}
theorem i_seq (q : t { D with nx := u D } σ H) : tSeq t u D σ H := q
theorem i_next (q : D.nx σ H) : tNext D σ H := q
theorem i_asg (q : te σ H fun x H1 => g x σ H1 D.nx) : tAsg te g D σ H := q
theorem i_ret (q : te σ H D.rt) : tRet te D σ H := q
theorem i_retN (q : D.rt .non H) : tRetN D σ H := q
theorem i_drop (q : te σ H fun _ H1 => D.nx σ H1) : tDrop te D σ H := q
theorem i_ifS {c : TT} (q : c σ H fun b H1 => if b = true then t D σ H1 else u D σ H1) : tIfS c t u D σ H := q
theorem i_gname {Q : L2.St → Hp → Prop} (e : σ.set i (some v) = σ') (q : Q σ' H) : gName i v σ H Q := by
  subst e
  exact q
theorem i_gnil {Q : L2.St → Hp → Prop} (q : Q σ H) : gNil [] σ H Q := ⟨rfl, q⟩
theorem i_gcons {g : TG} {gs : TGs} {vs : List V} {Q : L2.St → Hp → Prop} (q : g v σ H fun σ' H' => gs vs σ' H' Q) : gCons g gs (v :: vs) σ H Q := ⟨v, vs, rfl, q⟩
theorem i_gtup {n : Nat} {gs : TGs} {a : Addr} {xs : List V} {Q : L2.St → Hp → Prop} (h : SqT K H a xs) (hl : xs.length = n) (q : gs xs σ H Q) : gTup K n gs (.ref a) σ H Q := ⟨a, xs, rfl, h, hl, q⟩
theorem i_gsub {t : TSet} {Q : L2.St → Hp → Prop} (q : ta σ H fun o H1 => tb σ H1 fun i H2 => t o i v H2 fun H3 => Q σ H3) : gSub ta tb t v σ H Q := q
theorem i_setL {p : Addr} {xs : List V} {k : Int} {j : Nat} {ys : List V} {Q : Hp → Prop} (h : H p = some (.lst xs)) (hk : ixN xs.length k = some j) (e : xs.set j v = ys) (q : Q (upd H p (.lst ys))) : rSetL (.ref p) (.int k) v H Q := by
  subst e
  exact ⟨p, xs, k, j, rfl, rfl, h, hk, q⟩
theorem i_setLU {p : Addr} {xs : List V} {k : Int} {j : Nat} {ys : List V} {Q : Hp → Prop} (hk : ixN xs.length k = some j) (e : xs.set j v = ys) (q : Q (upd H p (.lst ys))) : rSetL (.ref p) (.int k) v (upd H p (.lst xs)) Q := by
  subst e
  refine ⟨p, xs, k, j, rfl, rfl, upd_same, hk, ?_⟩
  rw [upd_upd]
  exact q
/-- a remainder, its value forgotten -/
theorem i_modA {i m : Int} (hm : 0 < m) (q : ∀ r : Int, 0 ≤ r → r < m → Q (.int r) H) : rI (fun _ j => j ≠ 0) (fun i j => .int (i.fmod j)) (.int i) (.int m) H Q :=
  ⟨i, m, rfl, rfl, by omega, q _ (Int.fmod_nonneg_of_pos _ hm) (Int.fmod_lt_of_pos _ hm)⟩
theorem i_divA {i m : Int} (hm : 0 < m) (hb : m < 1073741824) (q : ∀ r : Int, (0 ≤ i → 0 ≤ r) → (0 ≤ i → r ≤ i) → Q (.int r) H) : rI CDiv (fun i j => .int (i / j)) (.int i) (.int m) H Q :=
  ⟨i, m, rfl, rfl, ⟨hm, hb⟩, q _ (fun h => Int.ediv_nonneg h (by omega)) (fun h => Int.ediv_le_self _ h)⟩
theorem i_var (h : σ[i]? = some (some v)) (q : Q v H) : tVar i σ H Q := ⟨v, h, q⟩
theorem i_c (q : Q v H) : tC v σ H Q := q
theorem i_op (q : ta σ H fun x H1 => tb σ H1 fun y H2 => r x y H2 Q) : tOp r ta tb σ H Q := q
theorem i_un {r : V → Hp → VK → Prop} (q : ta σ H fun x H1 => r x H1 Q) : tUn r ta σ H Q := q
theorem i_rI {C : Int → Int → Prop} {g : Int → Int → V} {i j : Int} (c : C i j) (q : Q (g i j) H) : rI C g (.int i) (.int j) H Q := ⟨i, j, rfl, rfl, c, q⟩
theorem i_rI0 {g : Int → Int → V} {i j : Int} (q : Q (g i j) H) : rI0 g (.int i) (.int j) H Q := ⟨i, j, rfl, rfl, q⟩
theorem i_rU {g : Int → V} {i : Int} (q : Q (g i) H) : rU g (.int i) H Q := ⟨i, rfl, q⟩
theorem i_rEqI {i j : Int} (q : Q (.bl (decide (i = j))) H) : rEq (.int i) (.int j) H Q := by
  refine ⟨rfl, ?_⟩
  have e : decide (V.int i = V.int j) = decide (i = j) := by
    by_cases h : i = j
    · rw [decide_eq_true h, decide_eq_true (congrArg V.int h)]
    · rw [decide_eq_false h, decide_eq_false fun z => h (V.int.inj z)]
  rw [e]
  exact q
theorem i_rNeI {i j : Int} (q : Q (.bl (!decide (i = j))) H) : rNe (.int i) (.int j) H Q := by
  refine ⟨rfl, ?_⟩
  have e : decide (V.int i = V.int j) = decide (i = j) := by
    by_cases h : i = j
    · rw [decide_eq_true h, decide_eq_true (congrArg V.int h)]
    · rw [decide_eq_false h, decide_eq_false fun z => h (V.int.inj z)]
  rw [e]
  exact q
theorem i_rEqS (h : scal x x = true) (q : Q (.bl true) H) : rEq x x H Q := by
  refine ⟨h, ?_⟩
  rw [decide_eq_true rfl]
  exact q
theorem i_rNeS (h : scal x x = true) (q : Q (.bl false) H) : rNe x x H Q := by
  refine ⟨h, ?_⟩
  rw [decide_eq_true rfl]
  exact q
theorem i_ixL {p : Addr} {xs : List V} {i : Int} (h : SqL K H p xs) (hi : atI xs i = some v) (q : Q v H) : rIxL K (.ref p) (.int i) H Q := ⟨p, xs, i, v, rfl, rfl, h, hi, q⟩
theorem i_ixT {p : Addr} {xs : List V} {i : Int} (h : SqT K H p xs) (hi : atI xs i = some v) (q : Q v H) : rIxT K (.ref p) (.int i) H Q := ⟨p, xs, i, v, rfl, rfl, h, hi, q⟩
theorem i_test {Q : Bool → Hp → Prop} (q : te σ H fun x H' => ∃ k, x = .bl k ∧ Q k H') : tTest te σ H Q := q
theorem i_tB {Q : Bool → Hp → Prop} (q : te σ H fun x H' => ∃ k, x = .bl k ∧ Q k H') : tB te σ H Q := q
/-- the answer of a test -/
theorem i_bl {b : Bool} {Q : Bool → Prop} (q : Q b) : ∃ k, V.bl b = .bl k ∧ Q k := ⟨b, rfl, q⟩
theorem i_and {t u : TT} {Q : Bool → Hp → Prop} (q : t σ H fun c H1 => if c = true then u σ H1 Q else Q false H1) : tAnd t u σ H Q := q
theorem i_or {t u : TT} {Q : Bool → Hp → Prop} (q : t σ H fun c H1 => if c = true then Q true H1 else u σ H1 Q) : tOr t u σ H Q := q
theorem i_not {t : TT} {Q : Bool → Hp → Prop} (q : t σ H fun c H1 => Q (!c) H1) : tNot t σ H Q := q
theorem i_andV (q : ta σ H fun x H1 => ∃ c, x = .bl c ∧ if c = true then tb σ H1 Q else Q (.bl false) H1) : tAndV ta tb σ H Q := q
theorem i_orV (q : ta σ H fun x H1 => ∃ c, x = .bl c ∧ if c = true then Q (.bl true) H1 else tb σ H1 Q) : tOrV ta tb σ H Q := q
theorem i_notV (q : ta σ H fun x H1 => ∃ c, x = .bl c ∧ Q (.bl (!c)) H1) : tNotV ta σ H Q := q
theorem i_ifE {c : TT} (q : c σ H fun b H1 => if b = true then ta σ H1 Q else tb σ H1 Q) : tIf c ta tb σ H Q := q
theorem i_chain (q : ta σ H fun x H1 => tb σ H1 fun y H2 => r x y H2 fun z H3 => ∃ k, z = .bl k ∧ (if k = true then tc σ H3 fun w' H4 => r' y w' H4 Q else Q (.bl false) H3)) : tChain r r' ta tb tc σ H Q := q
theorem i_nil {Q : List V → Hp → Prop} (q : Q [] H) : tNil σ H Q := q
theorem i_cons {tr : TA} {Q : List V → Hp → Prop} (q : ta σ H fun x H1 => tr σ H1 fun xs H2 => Q (x :: xs) H2) : tCons ta tr σ H Q := q
theorem i_tup {t : TA} (q : t σ H fun xs H1 => xs.length ≤ sizeLine ∧ ∀ p, H1 p = none → Q (.ref p) (upd H1 p (.tup xs))) : tTup t σ H Q := q
theorem i_lst {t : TA} (q : t σ H fun xs H1 => xs.length ≤ sizeLine ∧ ∀ p, H1 p = none → Q (.ref p) (upd H1 p (.lst xs))) : tLst t σ H Q := q
theorem i_call {sp : Sp} {E : XK} {t : TA} (q : t σ H fun vs H1 => sp vs H1 Q E) : tCall sp [] E t σ H Q := by
  show t σ H fun vs H1 => sp (vs ++ []) H1 Q E
  have e : (fun (vs : List V) (H1 : Hp) => sp (vs ++ []) H1 Q E) = fun vs H1 => sp vs H1 Q E := by
    funext vs H1
    rw [List.append_nil]
  rw [e]
  exact q
theorem i_make {C : Addr} {sp : Sp} {E : XK} {t : TA} (q : t σ H fun vs H1 => ∀ x dx, H1 x = none → H1 dx = none → dx ≠ x → sp (.ref x :: vs) (upd (upd H1 dx (.own x)) x (.ins C dx [])) (fun v H2 => v = .non ∧ Q (.ref x) H2) E) : tMake C sp [] E t σ H Q := by
  show t σ H fun vs H1 => ∀ x dx, H1 x = none → H1 dx = none → dx ≠ x → sp (.ref x :: (vs ++ [])) (upd (upd H1 dx (.own x)) x (.ins C dx [])) (fun v H2 => v = .non ∧ Q (.ref x) H2) E
  simp only [List.append_nil]
  exact q
theorem i_meth {C : Addr} {m : Str} {sp : Sp} {E : XK} {t : TA} (q : ta σ H fun x H1 => ∃ a dx fs, x = V.ref a ∧ H1 a = some (.ins C dx fs) ∧ fs.lookup m = none ∧ t σ H1 fun vs H2 => sp (x :: vs) H2 Q E) : tMeth C m sp [] E ta t σ H Q := by
  show ta σ H fun x H1 => ∃ a dx fs, x = V.ref a ∧ H1 a = some (.ins C dx fs) ∧ fs.lookup m = none ∧ t σ H1 fun vs H2 => sp (x :: (vs ++ [])) H2 Q E
  simp only [List.append_nil]
  exact q
theorem i_CB {r : List V → Hp → VK → Prop} {t : TA} (q : t σ H fun vs H1 => r vs H1 Q) : tCB r t σ H Q := q
theorem i_fld (q : ta σ H fun x H1 => ∃ a C dx fs v, x = .ref a ∧ H1 a = some (.ins C dx fs) ∧ Cls K C ∧ NoAttr K C f ∧ fs.lookup f = some v ∧ Q v H1) : tFld K ta f σ H Q := q
theorem i_fldv {a C dx : Addr} {fs : List (Str × V)} (hv : σ[i]? = some (some (.ref a))) (ho : H a = some (.ins C dx fs)) (hc : Cls K C) (hn : NoAttr K C f) (hl : fs.lookup f = some v) (q : Q v H) : tFld K (tVar i) f σ H Q :=
  ⟨.ref a, hv, a, C, dx, fs, v, rfl, ho, hc, hn, hl, q⟩
theorem i_fld1 {a C dx : Addr} {fs : List (Str × V)} (ho : H a = some (.ins C dx fs)) (hc : Cls K C) (hn : NoAttr K C f) (hl : fs.lookup f = some v) (q : Q v H) :
    ∃ a' C dx fs v, V.ref a = .ref a' ∧ H a' = some (.ins C dx fs) ∧ Cls K C ∧ NoAttr K C f ∧ fs.lookup f = some v ∧ Q v H := ⟨a, C, dx, fs, v, rfl, ho, hc, hn, hl, q⟩
theorem i_sFld {tv : TE} (q : tv σ H fun y H1 => ta σ H1 fun x H2 => ∃ a C dx fs, x = V.ref a ∧ H2 a = some (.ins C dx fs) ∧ Cls K C ∧ NoAttr K C f ∧ fs.length < 1000 ∧ D.nx σ (upd H2 a (.ins C dx (putF f y fs)))) : sFld K ta tv f D σ H := q
theorem i_sFld1 {a C dx : Addr} {fs gs : List (Str × V)} {R : Hp → Prop} (ho : H a = some (.ins C dx fs)) (hc : Cls K C) (hn : NoAttr K C f) (hl : fs.length < 1000) (e : putF f y fs = gs) (q : R (upd H a (.ins C dx gs))) :
    ∃ a' C dx fs, V.ref a = .ref a' ∧ H a' = some (.ins C dx fs) ∧ Cls K C ∧ NoAttr K C f ∧ fs.length < 1000 ∧ R (upd H a' (.ins C dx (putF f y fs))) := by
  subst e
  exact ⟨a, C, dx, fs, rfl, ho, hc, hn, hl, q⟩
theorem i_iteT {A B : Prop} (h : A) : if true = true then A else B := by
  rw [if_pos rfl]
  exact h
theorem i_iteF {A B : Prop} (h : B) : if false = true then A else B := by
  rw [if_neg Bool.false_ne_true]
  exact h
theorem i_iteNT {A B : Prop} (h : B) : if (!true) = true then A else B := i_iteF h
theorem i_iteNF {A B : Prop} (h : A) : if (!false) = true then A else B := i_iteT h
theorem i_iteDF {p A B : Prop} {d : Decidable p} (h : ¬ p) (q : B) : if @decide p d = true then A else B := by
  rw [decide_eq_false h, if_neg Bool.false_ne_true]
  exact q
theorem i_iteDT {p A B : Prop} {d : Decidable p} (h : p) (q : A) : if @decide p d = true then A else B := by
  rw [decide_eq_true h, if_pos rfl]
  exact q
theorem i_iteBT {b : Bool} {A B : Prop} (h : b = true) (q : A) : if b = true then A else B := by
  rw [if_pos h]
  exact q
theorem i_iteBF {b : Bool} {A B : Prop} (h : b = false) (q : B) : if b = true then A else B := by
  subst h
  exact i_iteF q
theorem i_iteNDS {α : Type} {a : α} {A B : Prop} {d : Decidable (a = a)} (q : B) : if (!@decide (a = a) d) = true then A else B := by
  rw [decide_eq_true rfl]
  exact i_iteF q
theorem i_bm {T : String} {r : V → List V → Hp → VK → Prop} {t : TA} (q : ta σ H fun x H1 => tyV K T x H1 ∧ t σ H1 fun xs H2 => r x xs H2 Q) : tBM K T r ta t σ H Q := q
theorem i_tyL {l : Addr} {xs : List V} {R : Prop} (h : SqL K H l xs) (q : R) : tyV K "list" (.ref l) H ∧ R := ⟨.inl ⟨rfl, _, h⟩, q⟩
theorem i_append {l : Addr} {xs : List V} {y : V} (h : H l = some (.lst xs)) (hz : xs.length ≤ 100000) (q : Q .non (upd H l (.lst (xs ++ [y])))) : rAppend (.ref l) [y] H Q := ⟨l, xs, y, rfl, rfl, h, Nat.lt_of_le_of_lt hz (by decide), q⟩
theorem i_andN {R : Prop} (q : R) : V.non = V.non ∧ R := ⟨rfl, q⟩
theorem i_iteD {p A B : Prop} {d : Decidable p} (h1 : p → A) (h2 : ¬ p → B) : if @decide p d = true then A else B := by
  by_cases h : p
  · rw [decide_eq_true h, if_pos rfl]
    exact h1 h
  · rw [decide_eq_false h, if_neg Bool.false_ne_true]
    exact h2 h
theorem i_iteN {p A B : Prop} {d : Decidable p} (h1 : ¬ p → A) (h2 : p → B) : if (!@decide p d) = true then A else B := by
  by_cases h : p
  · rw [decide_eq_true h]
    exact i_iteF (h2 h)
  · rw [decide_eq_false h]
    exact i_iteT (h1 h)
theorem i_iteB {b : Bool} {A B : Prop} (h1 : b = true → A) (h2 : b = false → B) : if b = true then A else B := by
  cases b
  · exact i_iteF (h2 rfl)
  · exact i_iteT (h1 rfl)
end
/-! named readings of built-ins -/
section
variable {X : Cx} {H : Hp} {Q : VK} {K : PySem.W.Frag}
def rLenS (K : PySem.W.Frag) : List V → Hp → VK → Prop := fun xs H Q => ∃ p ys, xs = [.ref p] ∧ (SqL K H p ys ∨ SqT K H p ys) ∧ Q (.int ys.length) H
theorem call_lenS : CallR X (.builtin "len") (rLenS X.K) := call_len_seq
theorem i_lenL {p : Addr} {ys : List V} (h : SqL K H p ys) (q : Q (.int ys.length) H) : rLenS K [.ref p] H Q := ⟨p, ys, rfl, .inl h, q⟩
theorem i_lenT {p : Addr} {ys : List V} (h : SqT K H p ys) (q : Q (.int ys.length) H) : rLenS K [.ref p] H Q := ⟨p, ys, rfl, .inr h, q⟩
def rInt : List V → Hp → VK → Prop := fun xs H Q => (∃ i, xs = [.int i] ∧ Q (.int i) H) ∨ ∃ k, xs = [.bl k] ∧ Q (.int (if k then 1 else 0)) H
theorem call_int : CallR X (.type "int") rInt := call_int1
theorem i_int {i : Int} (q : Q (.int i) H) : rInt [.int i] H Q := .inl ⟨i, rfl, q⟩
def rMax2 : List V → Hp → VK → Prop := fun xs H Q => ∃ i j, xs = [.int i, .int j] ∧ Q (.int (if j > i then j else i)) H
def rMin2 : List V → Hp → VK → Prop := fun xs H Q => ∃ i j, xs = [.int i, .int j] ∧ Q (.int (if j < i then j else i)) H
theorem call_mx2 (hc : X.calm = true) : CallR X (.builtin "max") rMax2 := call_max2 hc
theorem call_mn2 (hc : X.calm = true) : CallR X (.builtin "min") rMin2 := call_min2 hc
theorem i_max2 {i j : Int} (q : Q (.int (max i j)) H) : rMax2 [.int i, .int j] H Q := by
  refine ⟨i, j, rfl, ?_⟩
  have e : (if j > i then j else i) = max i j := by
    rw [Int.max_def]
    split <;> split <;> omega
  rw [e]
  exact q
theorem i_min2 {i j : Int} (q : Q (.int (min i j)) H) : rMin2 [.int i, .int j] H Q := by
  refine ⟨i, j, rfl, ?_⟩
  have e : (if j < i then j else i) = min i j := by
    rw [Int.min_def]
    split <;> split <;> omega
  rw [e]
  exact q
def rListOf (K : PySem.W.Frag) : List V → Hp → VK → Prop := fun xs H Q => ∃ p ys, xs = [.ref p] ∧ (SqL K H p ys ∨ SqT K H p ys) ∧ ∀ l, H l = none → Q (.ref l) (upd H l (.lst ys))
theorem call_listOf : CallR X (.type "list") (rListOf X.K) := call_list_of
theorem i_listL {p : Addr} {ys : List V} (h : SqL K H p ys) (q : ∀ l, H l = none → Q (.ref l) (upd H l (.lst ys))) : rListOf K [.ref p] H Q := ⟨p, ys, rfl, .inl h, q⟩
theorem i_rAll {p : Addr} {bs : List Bool} (h : SqL K H p (bs.map V.bl)) (q : Q (.bl (bs.all id)) H) : rAll K [.ref p] H Q := ⟨p, bs, rfl, h, q⟩
end
theorem i_start {N : List Str} {vs : List V} {D : Ends} {σ' : L2.St} {H : Hp} {t : TS} (e : L2.start N vs = σ') (q : t D σ' H) : t D (L2.start N vs) H := by
  rw [e]
  exact q
theorem lenB {xs : List V} (h : Nat.ble xs.length 1000 = true) : xs.length ≤ sizeLine := Nat.le_of_lt (small1000 (Nat.le_of_ble_eq_true h))
theorem lenL {n : Nat} (h : n ≤ 1000) : n ≤ sizeLine := Nat.le_of_lt (small1000 h)
theorem len_le {n : Nat} (h : n ≤ 1000) : n ≤ sizeLine := Nat.le_of_lt (small1000 h)
end VX
set_option maxRecDepth 100000
set_option maxHeartbeats 4000000
/-! Own operators of an own class: in, |, &, ==, iteration; a method called by keywords; a promise that knows the heap's size at the call. -/
namespace VX
open PySem PySem.Spec PyProof.Rows L2
/-! ### a promise that knows how large the heap was at the call -/
structure FnN (P : Program) (w : World) (K : PySem.W.Frag) (mg : Str → Option Value) (base : Heap) (CX : CXT) (k : Nat) (f : Addr) (fd : FuncData) (ps : List Str) (sp : Nat → Sp) : Prop where
  len : ∀ n vs H Q E, sp n vs H Q E → vs.length = ps.length
  run : ∀ (A : Around) (outer : List Env) (s : Shared) (H : Hp) (args : Args) (us : List Value) (vs : List V) (Q : VK) (E : XK), Room k A → Env0 P w K mg base A outer s H → BindsTo s fd args (ps.zip us) → Vals vs us → sp s.heap.objs.size vs H Q E →
    codeAny (model P w) A (.call (.ref f) args) (CR CX outer P w H s Q E) s
theorem fn_ofN {CX : CXT} {P : Program} {w : World} {K : PySem.W.Frag} {mg : Str → Option Value} {base : Heap} {k : Nat} {f : Addr} {name qual : Str} {params : Arguments} {body : List Stmt} {scope : Scope} {dV kV doc pm cdv ct oc : Value} {an od : Option Addr}
    {osl : Array (Option Value)} {N ps : List Str} {sp : Nat → Sp} (lk : K.lookup f = some ⟨oc, od, .func (PySem.W.fnOf name qual params body scope dV kV doc pm an cdv ct), osl⟩) (hcd : PySem.W.codeIn K cdv qual = true) (S : FnScope N ps scope)
    (len : ∀ n vs H Q E, sp n vs H Q E → vs.length = ps.length)
    (hbody : ∀ (A : Around) (outer : List Env) (s : Shared) (H : Hp) (vs : List V) (Q : VK) (E : XK), Room k (A.deeper (envOfC qual scope s.heap.objs.size f cdv)) → sp s.heap.objs.size vs H Q E →
      ∃ t, PSs (cxOf CX P w K mg base N qual scope f cdv A outer s H E) body t ∧ t { nx := fun _ H' => Q .non H', rt := Q } (L2.start N vs) H) :
    FnN P w K mg base CX (k + 1) f (PySem.W.fnOf name qual params body scope dV kV doc pm an cdv ct) ps sp := by
  refine ⟨len, fun A outer s H args us vs Q E hr e0 hb r hsp => ?_⟩
  have hl := len _ _ _ _ _ hsp
  have KX : K.In s.heap := e0.mod.kin.keeps fun b o e => (e0.bs b o e).1
  have lim : s.heap.NoLimit := e0.mod.nolimit.keeps fun b o e => (e0.bs b o e).1
  have hkind : ∀ y ∈ ps.zip us, scope.names.lookup y.1 = some .local ∨ (scope.names.lookup y.1 = some .cell ∧ ((cellsFrom (s.heap.objs.size + 1) scope.names []).lookup y.1).isSome = true) := fun ⟨n, v⟩ hy => by
    rcases S.par n (List.of_mem_zip hy).1 with q | q
    · exact .inl q
    · exact .inr ⟨q, PySem.W.cellsFrom_some _ _ _ (.inl q)⟩
  refine codeAny_call_function hr.depth (KX _ _ lk) rfl S.co S.gen rfl (PySem.W.codeRec_of KX hcd) (hb _ _ _ _ ?_)
  refine wpAny_newFunctionEnv_cells S.kind hkind fun env he s1 x => ?_
  subst he
  refine ⟨lim.keeps x.toInCall.keep, codeAny_func ?_⟩
  obtain ⟨t, ht, hq⟩ := hbody A outer s H vs Q E (hr.deeper _) hsp
  have I : Inv (cxOf CX P w K mg base N qual scope f cdv A outer s H E) [] (L2.start N vs) H s1 := inv_start S hr.hd e0 hl r x
  refine wpAny_mono (ht.run [] s1 (L2.start N vs) H _ I hq) (fun fl s' hs => ?_) fun e s' hs => hs
  have fin : ∀ {σ' : L2.St} {H' : Hp} {v : V} {u : Value}, Inv (cxOf CX P w K mg base N qual scope f cdv A outer s H E) [] σ' H' s' → RelV v u → Q v H' → CE outer P w H s Q u s' :=
    fun {σ' H' v u} J rv q => ⟨v, H', J.os, J.bare, J.base, J.hok, rv, q⟩
  cases fl with
  | ret u =>
    obtain ⟨v, σ', H', J, rv, q⟩ := hs
    exact fin J rv q
  | next =>
    obtain ⟨σ', H', J, q⟩ := hs
    exact fin (v := V.non) (u := Value.none) J rfl q
  | brk =>
    obtain ⟨_, _, _, q⟩ := hs
    exact False.elim q
  | cont =>
    obtain ⟨_, _, _, q⟩ := hs
    exact False.elim q
theorem okN {P : Program} {w : World} {K : PySem.W.Frag} {mg : Str → Option Value} {base : Heap} {x qual : Str} {st : Stmt} {f : Addr} {fd : FuncData} {N ps : List Str} {k : Nat} {sp : Nat → Sp} (F : Fun K x qual st f fd) (S : FnScope N ps (defScope st)) (len : ∀ n vs H Q E, sp n vs H Q E → vs.length = ps.length)
    (hbody : ∀ (cdv : Value) (A : Around) (outer : List Env) (s : Shared) (H : Hp) (vs : List V) (Q : VK) (E : XK), Room k (A.deeper (envOfC qual (defScope st) s.heap.objs.size f cdv)) → sp s.heap.objs.size vs H Q E →
      ∃ t, PSs (cxOf CX0 P w K mg base N qual (defScope st) f cdv A outer s H E).nox (defBody st) t ∧ t { nx := fun _ H' => Q .non H', rt := Q } (L2.start N vs) H) : FnN P w K mg base CX0 (k + 1) f fd ps sp := by
  obtain ⟨oc, od, kV, doc, pm, an, cdv, ct, osl, rfl, lk, hcd⟩ := F.ex
  refine fn_ofN lk hcd S len fun A outer s H vs Q E hr hsp => ?_
  obtain ⟨t, h, q⟩ := hbody cdv A outer s H vs Q E hr hsp
  exact ⟨t, h.nox, q⟩

section
variable {X : Cx} {pins : List (Addr × Obj)} {σ : L2.St} {H : Hp} {s : Shared} {CX : CXT} {k : Nat} {f C : Addr} {fd : FuncData} {ps : List Str} {E : XK} {nm : Str}
/-! ### iteration: __iter__ gives iter(xs), xs a list -/
def spIter (K : PySem.W.Frag) (C : Addr) (nm : Str) (n : Nat) : Sp := fun vs H Q _ => ∃ a dx fs l zs, vs = [.ref a] ∧ H a = some (.ins C dx fs) ∧ fs.lookup nm = some (V.ref l) ∧ SqL K H l zs ∧
  ∀ it, H it = none → n ≤ it → Q (.ref it) (upd H it (ItO l it 0))
/-- what the walk over such an instance must have -/
structure OwnI (K : PySem.W.Frag) (C f : Addr) : Prop where
  it : PySem.W.findIn K (.ref C) "__iter__" = some (some (.ref f))
  itF : PySem.W.isFn K (.ref f) = true
/-- pyIter of an own instance: a new list iterator, forgotten -/
theorem own_iter {A1 : Around} {Q : Value → Shared → Prop} {a dx l : Addr} {fs : List (Str × V)} {zs : List V} (sb : Sub X k A1) (T : OwnI X.K C f) (F : FnN X.prog X.w X.K X.mg X.base CX0 k f fd ps (spIter X.K C nm)) (hb : Binds X.K fd ps [])
    (I : Inv X pins σ H s) (ha : H a = some (.ins C dx fs)) (hl : fs.lookup nm = some (V.ref l)) (hz : SqL X.K H l zs)
    (h : ∀ it s', Inv X pins σ H s' → s'.heap.IsListIter it l 0 → FpOk X pins H it → Q (.ref it) s') :
    wpAny (model X.prog X.w) A1 (pyIter (.ref a)) Q X.xe s := by
  obtain ⟨mA, J, _⟩ := ins_get I.hok ha
  obtain ⟨od, J, _⟩ := J.look
  obtain ⟨m, hF⟩ := I.fr
  refine PySem.W.owit_iter hF I.ok.mod.kin J T.it T.itF ?_
  have e0 : Env0 X.prog X.w X.K X.mg X.base A1 X.stack s H := by
    have e := I.env0
    exact ⟨by rw [sb.fr]; exact e.frames, e.mod, e.bs, e.bsz, e.funs, e.frf, e.hok, e.bare⟩
  have hsp : spIter X.K C nm s.heap.objs.size [.ref a] H (fun v H' => ∃ it, v = .ref it ∧ H it = none ∧ s.heap.objs.size ≤ it ∧ H' = upd H it (ItO l it 0)) E0 :=
    ⟨a, dx, fs, l, zs, rfl, ha, hl, hz, fun it hn hs => ⟨it, rfl, hn, hs, rfl⟩⟩
  have hlen := F.len _ _ _ _ _ hsp
  have r2 : Vals [V.ref a] [Value.ref a] := .cons rfl .nil
  refine wpAny_call (codeAny_mono (F.run A1 X.stack s H ⟨[.ref a], []⟩ [.ref a] [.ref a] _ E0 sb.room e0 (by
    have := hb s [.ref a] I.kIn (by simpa using hlen)
    simpa using this) r2 hsp) fun r s' hq => ?_)
  cases r with
  | error e => exact hq.elim
  | ok fl =>
    cases fl with
    | next => exact False.elim hq
    | brk => exact False.elim hq
    | cont => exact False.elim hq
    | ret u =>
      obtain ⟨v, H', I', rv, it, rfl, hn, hs, rfl⟩ := I.after hq
      cases rv
      have eo := itO_get I' upd_same
      have st : s'.heap.IsListIter it l 0 := ⟨_, eo, rfl, rfl⟩
      have e1 : upd H it (ItO l it 0) it = some (ItO l it 0) := upd_same
      have fp := ItX.inv_fp I' e1 (Nat.le_trans I.sz hs)
      have I2 := ItX.inv_drop I' (by unfold ItO at e1; exact e1)
      rw [ItX.dropH_upd hn] at fp I2
      unfold PySem.W.OwitIt
      exact wpAny_specialOf (name := Str.ofString "__next__") st.typeIs slot_listiter_next.lookup (h it s' I2 st fp)

/-- for x in o, [.. for x in o]: o such an instance -/
def iOwn (K : PySem.W.Frag) (C : Addr) (nm : Str) (te : TE) : TI := fun σ H R => te σ H fun x H1 => ∃ a dx fs l zs, x = V.ref a ∧ H1 a = some (.ins C dx fs) ∧ fs.lookup nm = some (V.ref l) ∧ SqL K H1 l zs ∧ R (Itl K l) H1
theorem pi_own {tg e : Expr} {te : TE} (hr : Room k X.A) (T : OwnI X.K C f) (F : FnN X.prog X.w X.K X.mg X.base CX0 k f fd ps (spIter X.K C nm)) (hb : Binds X.K fd ps []) (he : PE X e te) : PI X tg e (iOwn X.K C nm te) := by
  refine ⟨fun pins s σ H R I h => ?_⟩
  refine thn (he.run pins s σ H _ I h) fun u s1 ⟨x, H1, I1, r1, a, dx, fs, l, zs, ex, ha, hl, hz, q⟩ => ?_
  subst ex
  cases r1
  refine own_iter ⟨hr, rfl⟩ T F hb I1 ha hl hz fun it s' I' st fp => ?_
  refine ⟨it, [it], _, _, H1, rfl, I', turn_list l it, st, fun b hb => ?_, q⟩
  have e : b = it := by simpa using hb
  rw [e]
  exact fp
theorem hint_own {M : Model} {A : Around} {E : Value → Shared → Prop} {Q : Bool → Shared → Prop} {K : PySem.W.Frag} {ox : Obj} {od : Option Obj} {a : Addr} (n1 : PySem.W.findIn K (.ref C) "__len__" = some none) (n2 : PySem.W.findIn K (.ref C) "__length_hint__" = some none) (hK : K.In s.heap) (J : PySem.W.InstAt s.heap a ox C od) (h : Q true s) :
    wpAny M A (Builtin.List.listLengthHint (.ref a)) Q E s := by
  unfold Builtin.List.listLengthHint
  refine wpAny_bind (wpAny_bind (J.type.here ((PySem.W.looks_findIn hK n1).here ?_)))
  refine PySem.W.KFB.if_not rfl ?_
  refine PySem.W.KFB.if_not rfl ?_
  refine wpAny_bind (wpAny_bind (J.type.here ((PySem.W.looks_findIn hK n2).here ?_)))
  exact wpAny_pure h
theorem fp_upd {q it : Addr} {o : HO} (fp : FpOk X pins H it) (h : it ≠ q) : FpOk X pins (upd H q o) it :=
  ⟨by rw [upd_ne h]; exact fp.1, fp.2.1, fp.2.2.1, fp.2.2.2.1, fp.2.2.2.2.1, fp.2.2.2.2.2⟩
theorem li_loop {Rs : Result → Shared → Prop} {A1 : Around} {q it l : Addr} {zs : List V} (hh : A1.in1.handled = none) (hq : H q = none) (hl : SqL X.K H l zs) (hne : it ≠ q)
    (hdone : ∀ s, Inv X pins σ (upd H q (.lst zs)) s → Rs (.ok (.ret .none)) s) : ∀ (m i : Nat) (s : Shared), m = zs.length - i → i ≤ zs.length → Inv X pins σ (upd H q (.lst (zs.take i))) s → FpOk X pins H it → s.heap.IsListIter it l i →
      codeAny (model X.prog X.w) A1 (.builtin "list.extend.loop" ⟨[.ref q, .ref it, .none], []⟩) Rs s := by
  intro m
  induction m with
  | zero =>
    intro i s hm hi I fp st
    have e : i = zs.length := by omega
    subst e
    rw [List.take_length] at I
    refine codeAny_builtin PySem.F.entry_extend_loop ?_
    rw [Around.under_plainId PySem.F.plain_extend_loop _]
    show wpAny _ A1.in1 (pyNext (.ref it) >>= _) _ _ s
    have sq : SqL X.K (upd H q (.lst zs)) l zs := (same_new hq).seq hl
    obtain ⟨its, rv, pl, hz⟩ := I.list sq
    have hlen := rv.length
    have fp' := fp_upd (o := .lst zs) fp hne
    refine wpAny_bind (wpAny_pyNext_list_end hh st pl.isList (by simp; omega) fun h' eb => ?_)
    exact wpAny_pure (hdone _ (I.turned (t' := s.toks) (fun b o hb e => eb b o hb e) fp'.1 fp'.2.1 fp'.2.2.2.1 fp'.2.2.2.2.1 fp'.2.2.2.2.2))
  | succ m ih =>
    intro i s hm hi I fp st
    have hlt : i < zs.length := by omega
    refine codeAny_builtin PySem.F.entry_extend_loop ?_
    rw [Around.under_plainId PySem.F.plain_extend_loop _]
    show wpAny _ A1.in1 (pyNext (.ref it) >>= _) _ _ s
    have sq : SqL X.K (upd H q (.lst (zs.take i))) l zs := (same_new hq).seq hl
    obtain ⟨its, rv, pl, hz⟩ := I.list sq
    obtain ⟨u, hu, ru⟩ := rv.get (List.getElem?_eq_getElem hlt)
    have fp' := fp_upd (o := .lst (zs.take i)) fp hne
    refine wpAny_bind (wpAny_pyNext_list_item st pl.isList (x := u) (by simpa using hu) fun h' st' sb => ?_)
    have I1 : Inv X pins σ (upd H q (.lst (zs.take i))) { s with heap := h' } := I.turned (t' := s.toks) (fun b o hb e => (sb.2 b hb).trans e) fp'.1 fp'.2.1 fp'.2.2.2.1 fp'.2.2.2.2.1 fp'.2.2.2.2.2
    show wpAny _ A1.in1 (updateSeq q (·.push u) >>= _) _ _ _
    obtain ⟨z, its2, k2, r2, hl2, e2⟩ := I1.lstM upd_same
    have hsz : (zs.take i).length < sizeLine := by
      rw [List.length_take]
      omega
    refine wpAny_bind (wpAny_updateSeq e2 rfl (wpAny_pure ⟨plainId_quiet PySem.F.plain_extend_loop _, ?_⟩) (by rw [List.size_toArray]; omega) (by show (its2.toArray.push u).size ≤ sizeLine + 1; rw [Array.size_push, List.size_toArray]; omega))
    have I2 := I1.lset (f := (·.push u)) (its' := its2 ++ [u]) (t' := s.toks) upd_same e2 (by simp) (r2.append (.cons ru .nil)) (by rw [List.length_append, List.length_singleton]; omega)
    rw [upd_upd] at I2
    have et : zs.take i ++ [zs[i]] = zs.take (i + 1) := by
      rw [List.take_add_one, List.getElem?_eq_getElem hlt]
      rfl
    rw [et] at I2
    refine ih (i + 1) _ (by omega) (by omega) I2 fp ?_
    obtain ⟨o, ho, hc, hd⟩ := st'
    refine ⟨o, ?_, hc, hd⟩
    show (h'.update q _).get? it = some o
    rw [Heap.get?_update_ne _ _ _ _ hne]
    exact ho

/-- list(o) -/
def rListOwn (K : PySem.W.Frag) (C : Addr) (nm : Str) : List V → Hp → VK → Prop := fun xs H Q => ∃ a dx fs l zs, xs = [V.ref a] ∧ H a = some (.ins C dx fs) ∧ fs.lookup nm = some (V.ref l) ∧ SqL K H l zs ∧ ∀ q, H q = none → Q (.ref q) (upd H q (.lst zs))
theorem call_listOwn2 (hc : X.calm = true) (hr : Room (k + 2) X.A) (T : OwnI X.K C f) (n1 : PySem.W.findIn X.K (.ref C) "__len__" = some none) (n2 : PySem.W.findIn X.K (.ref C) "__length_hint__" = some none)
    (F : FnN X.prog X.w X.K X.mg X.base CX0 k f fd ps (spIter X.K C nm)) (hb : Binds X.K fd ps []) : CallR X (.type "list") (rListOwn X.K C nm) := by
  intro pins s σ H xs us Q I rv h
  obtain ⟨a, dx, fs, l, zs, rfl, ha, hl, hz, q⟩ := h
  obtain ⟨u, rfl, ru⟩ := rv.one
  cases ru
  have sb : Sub X k X.A.in1.in1 := (Sub.in1 (Sub.in1 (⟨hr, rfl⟩ : Sub X (k + 2) X.A)))
  refine callType_codes (Q₁ := fun obj s₁ => obj = .ref s.heap.objs.size ∧ s₁ = { s with heap := s.heap.push { cls := .type "list", data := .seq #[] } }) PySem.F.called_list (PySem.F.typeCall_list_1 _) PySem.F.entry_list_init
    (code_list_new _ ⟨rfl, rfl⟩) fun obj s₁ h₁ => ?_
  obtain ⟨rfl, rfl⟩ := h₁
  have hS : (s.heap.push { cls := .type "list", data := .seq #[] }).get? s.heap.objs.size = some { cls := .type "list", data := .seq #[] } := Heap.get?_push_size _ rfl
  refine ⟨⟨_, hS, rfl⟩, PySem.F.args_list_init_2 _ _, ?_⟩
  have fr : H s.heap.objs.size = none := I.hok.fresh (Nat.le_refl _)
  have I1 : Inv X pins σ (upd H s.heap.objs.size (.lst [])) { s with heap := s.heap.push { cls := .type "list", data := .seq #[] } } := I.lnew (its := []) (t' := s.toks) .nil (Nat.zero_le _)
  show wpAny _ _ (do let old ← Builtin.List.listItems (.ref s.heap.objs.size); Builtin.List.listUpdate (.ref s.heap.objs.size) (fun _ => #[]); letGo old.toList.reverse; Builtin.List.listExtendWith (.ref s.heap.objs.size) (.ref a) .none) _ _ _
  refine wpAny_bind ?_
  unfold Builtin.List.listItems
  refine wpAny_bind (wpAny_seqItems hS rfl (wpAny_pure ?_))
  show wpAny _ _ (updateSeq s.heap.objs.size (fun _ => #[]) >>= fun _ => letGo (#[] : Array Value).toList.reverse >>= fun _ => Builtin.List.listExtendWith (.ref s.heap.objs.size) (.ref a) .none) _ _ _
  refine wpAny_bind (wpAny_updateSeq hS rfl ?_)
  have I2 := I1.lset (f := fun _ => #[]) (its := []) (its' := []) (ys := []) (t' := s.toks) upd_same hS rfl .nil (Nat.zero_le _)
  rw [upd_upd] at I2
  refine wpAny_bind (wpAny_letGo ?_)
  generalize hp : s.heap.objs.size = p at fr I2 ⊢
  have ha2 : upd H p (.lst []) a = some (.ins C dx fs) := (same_new fr) _ _ ha
  have hz2 : SqL X.K (upd H p (.lst [])) l zs := (same_new fr).seq hz
  have hne : p ≠ a := fun e => by rw [e, ha] at fr; cases fr
  obtain ⟨mA, J, _⟩ := ins_get I2.hok ha2
  obtain ⟨od, J, _⟩ := J.look
  unfold Builtin.List.listExtendWith
  refine wpAny_bind (J.type.here ?_)
  have h1 : Builtin.List.listSameRef (.ref p) (.ref a) = false := by simp [Builtin.List.listSameRef, hne]
  have h2 : (Value.ref C == Value.type "list") = false := rfl
  have h3 : (Value.ref C == Value.type "tuple") = false := rfl
  simp only [h1, h2, h3, Bool.or_false, Bool.false_eq_true, if_false]
  refine wpAny_bind (own_iter sb T F hb I2 ha2 hl hz2 fun it s' I' st fp => ?_)
  have hitp : it ≠ p := fun e => by rw [e] at fp; have z := fp.1; rw [upd_same] at z; cases z
  obtain ⟨mA', J', _⟩ := ins_get I'.hok ha2
  obtain ⟨od', J', _⟩ := J'.look
  have fpH : FpOk X pins H it := ⟨by have z := fp.1; rw [upd_ne hitp] at z; exact z, fp.2.1, fp.2.2.1, fp.2.2.2.1, fp.2.2.2.2.1, fp.2.2.2.2.2⟩
  have loop : ∀ s2 : Shared, Inv X pins σ (upd H p (.lst [])) s2 → s2.heap.IsListIter it l 0 → codeAny (model X.prog X.w) X.A.in1 (.builtin "list.extend.loop" ⟨[.ref p, .ref it, .none], []⟩) (wants (fun r s₂ => r = .none ∧ EP X pins σ Q (.ref p) s₂) X.xe) s2 :=
    fun s2 J2 st2 => li_loop (A1 := X.A.in1) (zs := zs) (by exact I.ok.hd hc) fr hz hitp (fun s3 I3 => ⟨rfl, .ref p, _, I3, rfl, q p fr⟩) zs.length 0 s2 rfl (Nat.zero_le _) J2 fpH st2
  refine wpAny_bind (wpAny_holding (hint_own n1 n2 I'.kIn J' ?_))
  obtain ⟨z, its, k2, r3, hl3, e3⟩ := I'.lstM upd_same
  cases r3
  refine wpAny_ite_split (fun _ => ?_) (fun _ => wpAny_pure ⟨plainId_quiet PySem.F.plain_extend_loop _, loop _ I' st⟩)
  refine wpAny_bind (wpAny_rule ?_)
  refine wpAny_bind ?_
  show wpAny _ _ (updateSeq p (·.push .none) >>= fun _ => updateSeq p (·.pop)) _ _ _
  refine wpAny_bind (wpAny_updateSeq e3 rfl ?_)
  have I4 := I'.lset (f := (·.push Value.none)) (its' := [Value.none]) (ys := [.non]) (t' := s'.toks) upd_same e3 (by simp) (.cons rfl .nil) (by rw [List.length_singleton, sizeLine_eq]; decide)
  obtain ⟨z4, its4, k4, r4, hl4, e4⟩ := I4.lstM upd_same
  obtain ⟨u4, rfl, ru4⟩ := r4.one
  refine wpAny_updateSeq e4 rfl ?_ (by show 1 ≤ sizeLine; rw [sizeLine_eq]; decide) (by show 0 ≤ sizeLine + 1; exact Nat.zero_le _)
  refine wpAny_pure ⟨plainId_quiet PySem.F.plain_extend_loop _, loop _ ?_ ?_⟩
  · have I5 := I4.lset (f := (·.pop)) (its := [u4]) (its' := []) (ys := []) (t' := s'.toks) upd_same e4 (by rfl) .nil (Nat.zero_le _)
    rw [upd_upd, upd_upd] at I5
    exact I5
  · obtain ⟨o, ho, hc', hd⟩ := st
    refine ⟨o, ?_, hc', hd⟩
    show ((s'.heap.update p _).update p _).get? it = some o
    rw [Heap.get?_update_ne _ _ _ _ hitp, Heap.get?_update_ne _ _ _ _ hitp]
    exact ho

/-! ### in, |, &, == by the class's own methods -/
def rInOwn (C : Addr) (sp : Sp) (E : XK) : R2 := fun x y H Q => ∃ a dx fs, y = V.ref a ∧ H a = some (.ins C dx fs) ∧ sp [.ref a, x] H (fun v H' => ∃ b, v = .bl b ∧ Q (.bl b) H') E
theorem op_inOwn {sp : Sp} (hs : PySem.W.findIn X.K (.ref C) "__contains__" = some (some (.ref f))) (hf : PySem.W.isFn X.K (.ref f) = true) (F : FnOk X.prog X.w X.K X.mg X.base CX k f fd ps sp) (hr : Room k X.A) (hb : Binds X.K fd ps []) (hx : Passes CX X E) :
    OpR X (compareOp .In) (rInOwn C sp E) := by
  intro pins s σ H x y v u Q I rx ry h
  obtain ⟨a, dx, fs, rfl, ha, hsp⟩ := h
  cases ry
  obtain ⟨mA, J, _⟩ := ins_get I.hok ha
  obtain ⟨od, J, _⟩ := J.look
  obtain ⟨m, hF⟩ := I.fr
  refine PySem.W.in_K hF I.ok.mod.kin J hs hf ?_
  refine thn (run_fn (us := [.ref a, v]) (vs := [.ref a, x]) (dvs := []) (ds := []) F hr hb .nil hx I (.cons rfl (.cons rx .nil)) hsp) fun r s' hq => ?_
  obtain ⟨z, H', I', rz, b, rfl, q⟩ := hq
  cases rz
  exact wpAny_truthy_bool ⟨.bl b, H', I', rfl, q⟩
def rBinOwn (C : Addr) (sp : Sp) (E : XK) : R2 := fun x y H Q => ∃ a b dx dy fs gs, x = V.ref a ∧ y = V.ref b ∧ H a = some (.ins C dx fs) ∧ H b = some (.ins C dy gs) ∧ sp [.ref a, .ref b] H Q E
theorem op_binOwn {op : Operator} {sp : Sp} (hc : PySem.W.selfFirst X.K C = true) (hs : PySem.W.findIn X.K (.ref C) (PySem.dunder op.info.2) = some (some (.ref f))) (hf : PySem.W.isFn X.K (.ref f) = true) (F : FnOk X.prog X.w X.K X.mg X.base CX k f fd ps sp) (hr : Room k X.A) (hb : Binds X.K fd ps []) (hx : Passes CX X E) :
    OpR X (binaryOp op) (rBinOwn C sp E) := by
  intro pins s σ H x y v u Q I rx ry h
  obtain ⟨a, b, dx, dy, fs, gs, rfl, rfl, ha, hb', hsp⟩ := h
  cases rx
  cases ry
  obtain ⟨mA, J, _⟩ := ins_get I.hok ha
  obtain ⟨od, J, _⟩ := J.look
  obtain ⟨mB, J', _⟩ := ins_get I.hok hb'
  obtain ⟨od', J', _⟩ := J'.look
  obtain ⟨m, hF⟩ := I.fr
  refine PySem.W.binop_K hF I.ok.mod.kin J J'.type hc hs hf ?_
  refine thn (run_fn (us := [.ref a, .ref b]) (vs := [.ref a, .ref b]) (dvs := []) (ds := []) F hr hb .nil hx I (.cons rfl (.cons rfl .nil)) hsp) fun r s' hq => ?_
  obtain ⟨z, H', I', rz, q⟩ := id hq
  cases z <;> first
    | (cases rz; exact hq)
    | (obtain ⟨t, rfl⟩ := rz; exact hq)
/-- o == v, v anything whose type is told -/
def rEqOwn (K : PySem.W.Frag) (C : Addr) (sp : Sp) (E : XK) : R2 := fun x y H Q => ∃ a dx fs t, x = V.ref a ∧ H a = some (.ins C dx fs) ∧ TyX K H y t ∧ PySem.W.notFirst K C t = true ∧ sp [.ref a, y] H Q E
theorem op_eqOwn {sp : Sp} (hs : PySem.W.findIn X.K (.ref C) "__eq__" = some (some (.ref f))) (hf : PySem.W.isFn X.K (.ref f) = true) (F : FnOk X.prog X.w X.K X.mg X.base CX k f fd ps sp) (hr : Room k X.A) (hb : Binds X.K fd ps []) (hx : Passes CX X E)
    (hty : ∀ {pins σ H s y u t}, Inv X pins σ H s → RelV y u → TyX X.K H y t → PySem.W.Looks (model X.prog X.w) s.heap (typeOf u) t) : OpR X (compareOp .Eq) (rEqOwn X.K C sp E) := by
  intro pins s σ H x y v u Q I rx ry h
  obtain ⟨a, dx, fs, t, rfl, ha, ty, hn, hsp⟩ := h
  cases rx
  obtain ⟨mA, J, _⟩ := ins_get I.hok ha
  obtain ⟨od, J, _⟩ := J.look
  obtain ⟨m, hF⟩ := I.fr
  show wpAny (model X.prog X.w) X.A (richCompare .Eq (.ref a) u) (EP X pins σ Q) X.xe s
  refine PySem.W.cmp_K (op := .Eq) (tb := t) hr.units0 hF I.ok.mod.kin J (hty I ry ty) hn hs hf ?_
  refine thn (run_fn (us := [.ref a, u]) (vs := [.ref a, y]) (dvs := []) (ds := []) F hr hb .nil hx I (.cons rfl (.cons ry .nil)) hsp) fun r s' hq => ?_
  obtain ⟨z, H', I', rz, q⟩ := id hq
  cases z <;> first
    | (cases rz; exact hq)
    | (obtain ⟨t, rfl⟩ := rz; exact hq)
end
end VX
set_option maxRecDepth 100000
set_option maxHeartbeats 4000000
/-! Errors with fields: made, raised, caught, asked; methods that may raise, called by place and by keyword. -/
namespace VX
open PySem PySem.Spec PyProof.Rows L2
/-! ### isinstance of a caught error that has fields -/
structure ExcD (K : PySem.W.Frag) (D : Addr) : Prop where
  c : ExcC K D
  cls : (PySem.W.clsIn K D).isSome = true
def rIsD (K : PySem.W.Frag) (D a : Addr) (cls : Value) (d : Option Addr) : List V → Hp → VK → Prop := fun xs H Q => ∃ (c : V) (cv : Value) (b : Bool) (dd : Addr) (fs : List (Str × V)), xs = [.ref a, c] ∧ cls = .ref D ∧ d = some dd ∧ H dd = some (.xd fs) ∧ (∀ u, RelV c u → u = cv) ∧ PySem.W.kitOne K (.ref D) cv = some b ∧ Q (.bl b) H
theorem call_isD {X : Cx} {a D : Addr} {oe : Obj} {cls : Value} {d : Option Addr} {pn : List (Addr × Obj)} (C : ExcD X.K D) (hz : Zc cls d oe) (hf : ∃ vs, oe.data = .fields vs) :
    CallR (X.suite a ((a, oe) :: pn)) (.builtin "isinstance") (rIsD X.K D a cls d) := by
  intro pins s σ H xs us Q I r h
  obtain ⟨c, cv, b, dd, fs, rfl, rfl, ed, hdd, hcv, e, q⟩ := h
  obtain ⟨u1, u2, rfl, rx, rt⟩ := vals2 r
  cases rx
  have ec := hcv _ rt
  subst ec
  obtain ⟨hget, _⟩ := I.pin (a, oe) (List.mem_append.mpr (.inl List.mem_cons_self))
  obtain ⟨vs, hv⟩ := hf
  have ho : ObjOk X.prog X.w H s.heap dd (.xd fs) := I.hok dd _ hdd
  obtain ⟨mA, hns, _⟩ := ho
  obtain ⟨od, ho, hl⟩ := lookIn_ns hns
  have J : PySem.W.InstAt s.heap a oe D (some od) := ⟨hget, hz.1, by unfold PySem.W.notCls; rw [hv] <;> rfl, by rw [hz.2, ed]; exact ho⟩
  exact PySem.W.kia_one (PySem.W.kitx_exc C.cls C.c.hg C.c.hk C.c.hs C.c.ha C.c.hn C.c.ht C.c.hm) I.kIn J e (fun z => nomatch z) fun tk => ⟨.bl b, H, I.kept (t' := tk) fun _ _ z => z, rfl, q⟩
theorem i_isD {K : PySem.W.Frag} {D a dd : Addr} {fs : List (Str × V)} {H : Hp} {Q : VK} {c : V} {cv : Value} {b : Bool} (hd : H dd = some (.xd fs)) (hc : ∀ u, RelV c u → u = cv) (e : PySem.W.kitOne K (.ref D) cv = some b) (q : Q (.bl b) H) :
    rIsD K D a (.ref D) (some dd) [.ref a, c] H Q := ⟨c, cv, b, dd, fs, rfl, rfl, rfl, hd, hc, e, q⟩
theorem i_xf {a C dd : Addr} {n : Str} {fs : List (Str × V)} {v : V} {σ : L2.St} {H : Hp} {Q : VK} {i : Nat} (hv : σ[i]? = some (some (.ref a))) (hd : H dd = some (.xd fs)) (hl : fs.lookup n = some v) (q : Q v H) :
    tXf a (.ref C) (some dd) C n (tVar i) σ H Q := ⟨.ref a, hv, rfl, rfl, dd, fs, v, rfl, hd, hl, q⟩
theorem kbn_of {K : PySem.W.Frag} {x qual : Str} {st : Stmt} {f : Addr} {fd : FuncData} {ps ks : List Str} {n : Nat} (F : Fun K x qual st f fd)
    (h : ∀ (kV doc pm : Value) (an : Option Addr) (cdv ct : Value) (us ws : List Value), us.length = n → ws.length = ks.length → bindArgs (PySem.W.fnOf x qual (defArgs st) (defBody st) (defScope st) .none kV doc pm an cdv ct) ⟨us, ks.zip ws⟩ = pure (ps.zip (us ++ ws))) :
    KBn K fd ps n ks (fun us ws => us ++ ws) (fun us ws => us ++ ws) := by
  obtain ⟨oc, od, kV, doc, pm, an, cdv, ct, osl, rfl, lk, hcd⟩ := F.ex
  exact ⟨fun s us ws _ l1 l2 => .of_eq (h kV doc pm an cdv ct us ws l1 l2), fun r rz => r.append rz⟩
/-! ### an error's making -/
section
variable {P : Program} {w : World} {K : PySem.W.Frag} {mg : Str → Option Value} {base : Heap}
/-- def __init__(self, x): self.x = x -/
def spX1 (K : PySem.W.Frag) (n : Str) : Sp := fun vs H Q _ => ∃ a C v, vs = [.ref a, v] ∧ OexC K C ∧ PySem.W.findIn K (.ref C) n = some none ∧ H a = some (exo a C none) ∧
  ∀ dx, H dx = none → dx ≠ a → Q .non (upd (upd H dx (exd dx [(n, v)])) a (exo a C (some dx)))
end
section
variable {X : Cx} {CX : CXT} {k : Nat} {f C : Addr} {fd : FuncData} {ps : List Str} {e : Expr} {es : List Expr} {ta : TA} {x n : Str} {p pos : Pos}
/-- a reading of arguments, closed under weaker ends -/
def tUp (ta : TA) : TA := fun σ H R => ∃ S : List V → Hp → Prop, ta σ H S ∧ ∀ vs H1, S vs H1 → R vs H1
theorem pa_up (ha : PA X es ta) : PA X es (tUp ta) := by
  refine ⟨fun pos pins s σ H R I h => ?_⟩
  obtain ⟨S, h1, h2⟩ := h
  exact thn (ha.run pos pins s σ H S I h1) fun us s1 ⟨vs, H1, I1, r, q⟩ => ⟨vs, H1, I1, r, h2 _ _ q⟩
/-- C(v), one field -/
def tMk1 (C : Addr) (n : Str) (ta : TA) : L2.St → Hp → XK → Prop := fun σ H Q => ta σ H fun vs H1 => ∃ v, vs = [v] ∧ ∀ d H', H1 d = none → Same H1 H' → H' d = some (.xd [(n, v)]) → Q (.ref C) (some d) H'
theorem pmk1 (T : OexC X.K C) (iC : PySem.W.findIn X.K (.ref C) "__init__" = some (some (.ref f))) (tI : PySem.W.typeIn X.K (.ref f) = some (.type "function")) (hn : PySem.W.findIn X.K (.ref C) n = some none)
    (F : FnOk X.prog X.w X.K X.mg X.base CX0 k f fd ps (spX1 X.K n)) (hr : Room (k + 1) X.A) (hb : Binds X.K fd ps []) (hg : Gl X x) (hm : X.mg x = some (.ref C)) (ha : PA X (e :: es) ta)
    (hdb : (x == ("__debug__" : Str)) = false := by decide) (he : starEach (e :: es) X.env = (false, eval e X.env) :: starEach es X.env := by rfl) (hpl : (backTo pos (starEach es X.env)).any (·.1) = false := by rfl) :
    PMk X (.Call (.Name x p) (e :: es) [] pos) (tMk1 C n ta) := by
  intro pins s σ H Q I h
  refine pmk_oex T iC tI F hr hb .nil pass0 hg hm (pa_up ha) hdb he hpl pins s σ H Q I ⟨_, h, ?_⟩
  rintro vs H1 ⟨v, rfl, q⟩
  refine ⟨by show 1 ≤ 1000; decide, fun a na => ⟨a, C, v, rfl, T, hn, upd_same, fun dx nd ne => ⟨rfl, dx, [(n, v)], upd_same, ?_, ?_, ?_⟩⟩⟩
  · rw [upd_ne ne, upd_same]
  · rw [upd_ne ne] at nd
    exact nd
  · rw [upd_ne ne] at nd
    refine q dx _ nd (fun b o hb => ?_) upd_same
    have b1 : b ≠ dx := ne_of_none hb nd
    have b2 : b ≠ a := ne_of_none hb na
    rw [upd_ne b1, del_ne b2, upd_ne b2, upd_ne b1, upd_ne b2]
    exact hb
theorem i_mk1 {σ : L2.St} {H : Hp} {Q : XK} (q : ta σ H fun vs H1 => ∃ v, vs = [v] ∧ ∀ d H', H1 d = none → Same H1 H' → H' d = some (.xd [(n, v)]) → Q (.ref C) (some d) H') : tMk1 C n ta σ H Q := q
theorem i_mk1v {v : V} {R : V → Prop} (q : R v) : ∃ u, [v] = [u] ∧ R u := ⟨v, rfl, q⟩
/-! ### methods that may raise, and by keyword -/
variable {sp : Sp} {E : L2.St → XK} {m : Str} {apos : Pos} {o : Expr} {to : TE} {tk : TA} {kws : List Keyword} {ks : List Str} {g : List Value → List Value → List Value} {gV : List V → List V → List V} {pl : Sem Bool}
/-- o.m(e, ..), what is raised is wished for at the slots -/
def tMthS (C : Addr) (m : Str) (sp : Sp) (E : L2.St → XK) (to : TE) (t : TA) : TE := fun σ H Q => to σ H fun x H1 => ∃ a dx fs, x = V.ref a ∧ H1 a = some (.ins C dx fs) ∧ fs.lookup m = none ∧ t σ H1 fun vs H2 => sp (.ref a :: vs) H2 Q (E σ)
theorem pe_mthS (he : PE X o to) (c : Cls X.K C) (hm : Meth X.K C m f) (F : FnOk X.prog X.w X.K X.mg X.base CX k f fd ps sp) (hr : Room k X.A) (hb : Binds X.K fd ps []) (hx : ∀ σ, PassesAt CX X σ (E σ)) (ha : PA X (e :: es) ta)
    (hst : starEach (e :: es) X.env = (false, eval e X.env) :: starEach es X.env := by rfl) (hpl : (backTo pos (starEach es X.env)).any (·.1) = false := by rfl)
    (ht : eval (.Call (.Attribute o m apos) (e :: es) [] pos) X.env = (do
      let ov ← eval o X.env
      standAt apos.atName
      let (f, first) ← holding [ov] (getMethod ov m pl)
      callWith pos f first (backTo pos (starEach (e :: es) X.env)) (backToKw pos (keywordEach [] X.env))) := by rfl) :
    PE X (.Call (.Attribute o m apos) (e :: es) [] pos) (tMthS C m sp E to ta) := by
  refine ⟨fun pins s σ H Q I h => ?_⟩
  refine PySem.W.methodCall_KW (pl := pl) (thn (he.run pins s σ H _ I h) fun u s1 hu => ?_) ht
  obtain ⟨x, H1, I1, rx, a, dx, fs, rfl, ea, l, q⟩ := hu
  cases rx
  refine getmeth_ok I1 ea c hm l ?_
  refine PySem.W.callWith_K (first := [.ref a]) (h₀ := X.base) I.ok.mod.kin hm.kp (thn (ha.run pos pins s1 σ H1 _ I1 q) fun us s2 hu2 => ?_) hst hpl
  obtain ⟨vs, H2, I2, r, q2⟩ := hu2
  exact ⟨I2.kIn, run_fnS (us := .ref a :: us) (vs := .ref a :: vs) F hr hb (hx σ) I2 (.cons rfl r) q2⟩
/-- o.m(k = v, ..) -/
def tMthK (C : Addr) (m : Str) (n : Nat) (sp : Sp) (gV : List V → List V → List V) (E : L2.St → XK) (to : TE) (tk : TA) : TE := fun σ H Q => to σ H fun x H1 => ∃ a dx fs, x = V.ref a ∧ H1 a = some (.ins C dx fs) ∧ fs.lookup m = none ∧
  tk σ H1 fun zs H2 => zs.length = n ∧ sp (gV [.ref a] zs) H2 Q (E σ)
theorem pe_mthK (he : PE X o to) (c : Cls X.K C) (hm : Meth X.K C m f) (F : FnOk X.prog X.w X.K X.mg X.base CX k f fd ps sp) (hr : Room k X.A) (hb : KBn X.K fd ps 1 ks g gV) (hx : ∀ σ, PassesAt CX X σ (E σ)) (hkw : PK X kws tk)
    (hall : (backToKw pos (keywordEach kws X.env)).all (·.1.isSome) = true := by rfl) (hks : (backToKw pos (keywordEach kws X.env)).filterMap (·.1) = ks := by rfl)
    (hpl : ((backTo pos (starEach [] X.env)).any (·.1) || (backToKw pos (keywordEach kws X.env)).any (·.1.isNone)) = false := by rfl)
    (ht : eval (.Call (.Attribute o m apos) [] kws pos) X.env = (do
      let ov ← eval o X.env
      standAt apos.atName
      let (f, first) ← holding [ov] (getMethod ov m pl)
      callWith pos f first (backTo pos (starEach [] X.env)) (backToKw pos (keywordEach kws X.env))) := by rfl) :
    PE X (.Call (.Attribute o m apos) [] kws pos) (tMthK C m ks.length sp gV E to tk) := by
  refine ⟨fun pins s σ H Q I h => ?_⟩
  refine PySem.W.methodCall_KW (pl := pl) (thn (he.run pins s σ H _ I h) fun u s1 hu => ?_) ht
  obtain ⟨x, H1, I1, rx, a, dx, fs, rfl, ea, l, q⟩ := hu
  cases rx
  refine getmeth_ok I1 ea c hm l ?_
  refine PySem.W.callWith_KW0 (first := [.ref a]) (h₀ := X.base) I.ok.mod.kin hm.kp hall (thn (hkw.run pos pins s1 σ H1 _ I1 q) fun ws s2 hu2 => ?_) hpl
  obtain ⟨zs, H2, I2, rz, l2, q2⟩ := hu2
  refine ⟨I2.kIn, ?_⟩
  rw [hks]
  have r2 := hb.rel (.cons rfl .nil : Vals [V.ref a] [Value.ref a]) rz
  refine wpAny_call (codeAny_mono (F.run X.A X.stack s2 H2 ⟨[.ref a] ++ [], ks.zip ws⟩ (g [.ref a] ws) (gV [.ref a] zs) Q (E σ) hr I2.env0 (hb.to s2 [.ref a] ws I2.kIn rfl (rz.length.symm.trans l2)) r2 q2) fun r s' hq => ?_)
  cases r with
  | error e => exact hx σ pins H2 s2 e s' I2 hq
  | ok fl =>
    cases fl with
    | ret u => exact I2.after hq
    | next => exact False.elim hq
    | brk => exact False.elim hq
    | cont => exact False.elim hq
end
section
variable {C : Addr} {m n : Nat} {sp : Sp} {gV : List V → List V → List V} {E : XK} {tk ta : TA} {σ : L2.St} {H : Hp} {Q : VK} {to : TE} {f : Str}
theorem i_makeK0 (q : tk σ H fun zs H2 => zs.length = m ∧ ∀ x dx, H2 x = none → H2 dx = none → dx ≠ x → sp (gV [.ref x] zs) (upd (upd H2 dx (.own x)) x (.ins C dx [])) (fun v H3 => v = .non ∧ Q (.ref x) H3) E) : tMakeK C 0 m sp gV E tNil tk σ H Q := by
  show tk σ H fun zs H2 => ([] : List V).length = 0 ∧ zs.length = m ∧ ∀ x dx, H2 x = none → H2 dx = none → dx ≠ x → sp (gV [.ref x] zs) (upd (upd H2 dx (.own x)) x (.ins C dx [])) (fun v H3 => v = .non ∧ Q (.ref x) H3) E
  simp only [List.length_nil, true_and]
  exact q
theorem i_len1 {v : V} {R : Prop} (q : R) : [v].length = (1 : Nat) ∧ R := ⟨rfl, q⟩
theorem i_mthK {E : L2.St → XK} (q : to σ H fun x H1 => ∃ a dx fs, x = V.ref a ∧ H1 a = some (.ins C dx fs) ∧ fs.lookup f = none ∧ tk σ H1 fun zs H2 => zs.length = n ∧ sp (gV [.ref a] zs) H2 Q (E σ)) : tMthK C f n sp gV E to tk σ H Q := q
theorem i_mthS {E : L2.St → XK} (q : to σ H fun x H1 => ∃ a dx fs, x = V.ref a ∧ H1 a = some (.ins C dx fs) ∧ fs.lookup f = none ∧ ta σ H1 fun vs H2 => sp (.ref a :: vs) H2 Q (E σ)) : tMthS C f sp E to ta σ H Q := q
end
end VX
set_option maxRecDepth 100000
set_option maxHeartbeats 4000000
/-! Data on the heap: what stays, of which type it is, how deep and wide. -/
namespace VX
open PySem PySem.Spec PyProof.Rows L2
theorem same_sqT {K : PySem.W.Frag} {H H' : Hp} {a : Addr} {xs : List V} (e : Same H H') (h : SqT K H a xs) : SqT K H' a xs := by
  rcases h with (h | ⟨o, h⟩) | h
  · exact .inl (.inl (e _ _ h))
  · exact .inl (.inr ⟨o, e _ _ h⟩)
  · exact .inr h
mutual
theorem dp_mono {K : PySem.W.Frag} {H H' : Hp} (e : Same H H') : ∀ (d : PyData) (v : V), Dp K H v d → Dp K H' v d
  | .none, _, h => by cases h; exact .non
  | .bool b, _, h => by cases h; exact .bl b
  | .int i, _, h => by cases h; exact .int i
  | .str x, _, h => by cases h; exact .str x
  | .list ds, _, h => by
    cases h with
    | lst hs ha => exact .lst (e.seq hs) (dpa_mono e ds _ ha)
  | .tuple ds, _, h => by
    cases h with
    | tup hs ha => exact .tup (same_sqT e hs) (dpa_mono e ds _ ha)
  | .dict _, _, h => by cases h
theorem dpa_mono {K : PySem.W.Frag} {H H' : Hp} (e : Same H H') : ∀ (ds : List PyData) (vs : List V), DpAll K H vs ds → DpAll K H' vs ds
  | [], _, h => by cases h; exact .nil
  | d :: ds, _, h => by
    cases h with
    | cons h1 h2 => exact .cons (dp_mono e d _ h1) (dpa_mono e ds _ h2)
end
theorem Dp.mono' {K : PySem.W.Frag} {H H' : Hp} {v : V} {d : PyData} (h : Dp K H v d) (e : Same H H') : Dp K H' v d := dp_mono e d v h
theorem dpa_len {K : PySem.W.Frag} {H : Hp} : ∀ {vs : List V} {ds : List PyData}, DpAll K H vs ds → vs.length = ds.length
  | _, _, .nil => rfl
  | _, _, .cons _ t => by rw [List.length_cons, List.length_cons, dpa_len t]
theorem dpa_get {K : PySem.W.Frag} {H : Hp} : ∀ {vs : List V} {ds : List PyData} {i : Nat} {d : PyData}, DpAll K H vs ds → ds[i]? = some d → ∃ v, vs[i]? = some v ∧ Dp K H v d
  | _, _, _, _, .nil, e => by simp at e
  | _, _, 0, _, .cons h _, e => by
    simp at e
    subst e
    exact ⟨_, rfl, h⟩
  | _, _, i + 1, d, .cons _ t, e => by
    obtain ⟨v, h1, h2⟩ := dpa_get (i := i) (d := d) t (by simpa using e)
    exact ⟨v, by simpa using h1, h2⟩
theorem dpa_ints {K : PySem.W.Frag} {H : Hp} : ∀ ns : List Int, DpAll K H (ns.map V.int) (ns.map PyData.int)
  | [] => .nil
  | n :: ns => .cons (.int n) (dpa_ints ns)
theorem dp_ints {K : PySem.W.Frag} {H : Hp} {a : Addr} {ns : List Int} (h : SqL K H a (ns.map V.int)) : Dp K H (.ref a) (.list (ns.map PyData.int)) := .lst h (dpa_ints ns)
/-- a datum's type -/
def tn : PyData → String
  | .none => "NoneType"
  | .bool _ => "bool"
  | .int _ => "int"
  | .str _ => "str"
  | .list _ => "list"
  | .tuple _ => "tuple"
  | .dict _ => "dict"
theorem dp_ty {K : PySem.W.Frag} {H : Hp} {v : V} {d : PyData} (h : Dp K H v d) : TyX K H v (.type (tn d)) := by
  cases h with
  | non => exact .base .non
  | bl b => exact .base (.bl b)
  | int i => exact .base (.int i)
  | str x => exact .base (.str x)
  | lst hs _ =>
    rcases hs with (h | ⟨o, h⟩) | ⟨o, its, n, hk, hc, _⟩
    · exact .base (.lst h)
    · exact .base (.frz h)
    · exact .kList hk hc
  | tup hs _ =>
    rcases hs with (h | ⟨o, h⟩) | hk
    · exact .base (.tup h)
    · exact .fTuple h
    · obtain ⟨o, its, n, hk, hc, _⟩ := hk
      exact .kTuple hk hc
/-- isinstance of a datum and a built-in class -/
def isS (c a : String) : Bool := decide (a = c) || (decide (c = "int") && decide (a = "bool"))
def isB (c : String) (d : PyData) : Bool := isS c (tn d)
theorem kit_all : ∀ a ∈ (["NoneType", "bool", "int", "str", "list", "tuple"] : List String), ∀ c ∈ (["bool", "int", "str", "list", "tuple"] : List String), kitB a c = some (isS c a) := by decide +kernel
theorem tn_mem (d : PyData) (hd : ∀ k, d ≠ .dict k) : tn d ∈ (["NoneType", "bool", "int", "str", "list", "tuple"] : List String) := by
  cases d <;> first | (exfalso; exact hd _ rfl) | (simp only [tn, List.mem_cons, true_or, or_true])
theorem kit_dp {K : PySem.W.Frag} (c : String) (hc : c ∈ (["bool", "int", "str", "list", "tuple"] : List String)) (d : PyData) (hd : ∀ k, d ≠ .dict k) : PySem.W.kitOne K (.type (tn d)) (.type c) = some (isB c d) :=
  kit_ty (kit_all _ (tn_mem d hd) c hc)
theorem dp_nodict {K : PySem.W.Frag} {H : Hp} {v : V} {d : PyData} (h : Dp K H v d) : ∀ k, d ≠ .dict k := fun k e => by
  subst e
  cases h
theorem ty_looks {X : Cx} {pins : List (Addr × Obj)} {σ : L2.St} {H : Hp} {s : Shared} {y : V} {u t : Value} (I : Inv X pins σ H s) (r : RelV y u) (ty : TyX X.K H y t) : PySem.W.Looks (model X.prog X.w) s.heap (typeOf u) t := by
  obtain ⟨P, Z, p, _⟩ := kit_of I r ty
  exact Z.ty _ _ I.kIn p
/-! isinstance, read -/
section
variable {H : Hp} {Q : VK} {K : PySem.W.Frag}
theorem i_isi {x : V} {t : Value} {c : String} {b : Bool} (ty : TyX K H x t) (e : PySem.W.kitOne K t (.type c) = some b) (q : Q (.bl b) H) : rIsi K [x, .ty c] H Q := ⟨x, .ty c, t, .type c, b, rfl, .ty c, ty, e, q⟩
theorem i_isiD {x : V} {d : PyData} {c : String} (h : Dp K H x d) (hc : c ∈ (["bool", "int", "str", "list", "tuple"] : List String)) (q : Q (.bl (isB c d)) H) : rIsi K [x, .ty c] H Q := i_isi (dp_ty h) (kit_dp c hc d (dp_nodict h)) q
theorem kitAny_dp (d : PyData) (hd : ∀ k, d ≠ .dict k) : ∀ cs : List String, (∀ c ∈ cs, c ∈ (["bool", "int", "str", "list", "tuple"] : List String)) → PySem.W.kitAny K (.type (tn d)) (cs.map Value.type) = some (cs.any fun c => isB c d)
  | [], _ => rfl
  | c :: cs, h => by
    have h1 := kit_dp (K := K) c (h c List.mem_cons_self) d hd
    have h2 := kitAny_dp d hd cs fun x hx => h x (List.mem_cons_of_mem _ hx)
    refine kitAny_cons (b := isB c d) h1 (fun e => ?_) fun e => ?_
    · rw [List.any_cons, e, Bool.false_or]
      exact h2
    · rw [List.any_cons, e, Bool.true_or]
theorem clsv_all : ∀ cs : List String, Paired ClsV (cs.map V.ty) (cs.map Value.type)
  | [] => .nil
  | c :: cs => .cons (.ty c) (clsv_all cs)
theorem i_isiTD {x : V} {d : PyData} {tp : Addr} (cs : List String) (h : Dp K H x d) (ht : H tp = some (.tup (cs.map V.ty))) (hc : ∀ c ∈ cs, c ∈ (["bool", "int", "str", "list", "tuple"] : List String)) (q : Q (.bl (cs.any fun c => isB c d)) H) : rIsiT K [x, .ref tp] H Q :=
  ⟨x, tp, cs.map V.ty, .type (tn d), cs.map Value.type, _, rfl, ht, clsv_all cs, dp_ty h, kitAny_dp d (dp_nodict h) cs hc, q⟩
end
/-! depth and width of data -/
mutual
def dep : PyData → Nat
  | .list ds => depAll ds + 1
  | .tuple ds => depAll ds + 1
  | _ => 0
def depAll : List PyData → Nat
  | [] => 0
  | d :: ds => max (dep d) (depAll ds)
end
theorem dep_get : ∀ {ds : List PyData} {i : Nat} {d : PyData}, ds[i]? = some d → dep d ≤ depAll ds
  | [], _, _, e => by simp at e
  | x :: xs, 0, d, e => by
    simp at e
    subst e
    rw [depAll]
    exact Nat.le_max_left _ _
  | x :: xs, i + 1, d, e => by
    have h := dep_get (ds := xs) (i := i) (d := d) (by simpa using e)
    rw [depAll]
    exact Nat.le_trans h (Nat.le_max_right _ _)
/-! every list and tuple in it has at most n items -/
mutual
def nar (n : Nat) : PyData → Bool
  | .list ds => decide (ds.length ≤ n) && narAll n ds
  | .tuple ds => decide (ds.length ≤ n) && narAll n ds
  | _ => true
def narAll (n : Nat) : List PyData → Bool
  | [] => true
  | d :: ds => nar n d && narAll n ds
end
theorem nar_get {n : Nat} : ∀ {ds : List PyData} {i : Nat} {d : PyData}, narAll n ds = true → ds[i]? = some d → nar n d = true
  | [], _, _, _, e => by simp at e
  | x :: xs, 0, d, h, e => by
    simp at e
    subst e
    rw [narAll] at h
    exact (Bool.and_eq_true_iff.mp h).1
  | x :: xs, i + 1, d, h, e => by
    rw [narAll] at h
    exact nar_get (ds := xs) (i := i) (Bool.and_eq_true_iff.mp h).2 (by simpa using e)
theorem nar_ints {n : Nat} : ∀ ns : List Int, narAll n (ns.map PyData.int) = true
  | [] => rfl
  | k :: ns => by
    show (nar n (.int k) && narAll n (ns.map PyData.int)) = true
    rw [nar_ints ns]
    rfl
theorem dep_ints : ∀ ns : List Int, depAll (ns.map PyData.int) = 0
  | [] => rfl
  | k :: ns => by
    show max (dep (.int k)) (depAll (ns.map PyData.int)) = 0
    rw [dep_ints ns]
    rfl
theorem lay_ints : ∀ ns : List Int, PyData.canLayAll0 (ns.map PyData.int) = true
  | [] => rfl
  | k :: ns => by
    show (PyData.canLay0 (.int k) && PyData.canLayAll0 (ns.map PyData.int)) = true
    rw [lay_ints ns]
    rfl
theorem depth_ints : ∀ ns : List Int, PyData.depthAll (ns.map PyData.int) = 0
  | [] => rfl
  | k :: ns => by
    show max (PyData.depth (.int k)) (PyData.depthAll (ns.map PyData.int)) = 0
    rw [depth_ints ns]
    rfl
theorem shaped_ints (ns : List Int) : SeqAt.shaped (.list (ns.map PyData.int)) = true := by
  have h1 : PyData.canLay0 (.list (ns.map PyData.int)) = true := lay_ints ns
  have h2 : PyData.depth (.list (ns.map PyData.int)) ≤ 64 := by
    show PyData.depthAll (ns.map PyData.int) + 1 ≤ 64
    rw [depth_ints ns]
    decide
  exact Bool.and_eq_true_iff.mpr ⟨h1, decide_eq_true h2⟩
theorem eqvAll_ints : ∀ ns ms : List Int, PyData.eqvAll (ns.map PyData.int) (ms.map PyData.int) = decide (ns = ms)
  | [], [] => rfl
  | [], m :: ms => rfl
  | n :: ns, [] => rfl
  | n :: ns, m :: ms => by
    show (PyData.eqv (.int n) (.int m) && PyData.eqvAll (ns.map PyData.int) (ms.map PyData.int)) = _
    rw [eqvAll_ints ns ms]
    show ((n == m) && decide (ns = ms)) = decide (n :: ns = m :: ms)
    by_cases h : n = m
    · subst h
      by_cases h2 : ns = ms
      · subst h2
        simp
      · simp [h2]
    · simp [h]
theorem eqv_ints (ns ms : List Int) : PyData.eqv (.list (ns.map PyData.int)) (.list (ms.map PyData.int)) = decide (ns = ms) := eqvAll_ints ns ms
theorem i_eqInts {H : Hp} {Q : VK} {K : PySem.W.Frag} {a b : Addr} {ns ms : List Int} (ha : SqL K H a (ns.map V.int)) (hb : SqL K H b (ms.map V.int)) (q : Q (.bl (decide (ns = ms))) H) : rEqD K (.ref a) (.ref b) H Q :=
  ⟨_, _, dp_ints ha, dp_ints hb, shaped_ints ns, shaped_ints ms, by rw [eqv_ints]; exact q⟩
theorem i_neInts {H : Hp} {Q : VK} {K : PySem.W.Frag} {a b : Addr} {ns ms : List Int} (ha : SqL K H a (ns.map V.int)) (hb : SqL K H b (ms.map V.int)) (q : Q (.bl (!decide (ns = ms))) H) : rNeD K (.ref a) (.ref b) H Q :=
  ⟨_, _, dp_ints ha, dp_ints hb, shaped_ints ns, shaped_ints ms, by rw [eqv_ints]; exact q⟩
/-- a part of the heap with one thing left out -/
theorem same_del {H : Hp} {p : Addr} : Same (del H p) H := fun b o e => by
  by_cases hb : b = p
  · rw [hb, del_same] at e
    cases e
  · rw [del_ne hb] at e
    exact e
theorem del_of {H : Hp} {p a : Addr} {o : HO} (h : H a = some o) (n : a ≠ p) : del H p a = some o := by
  rw [del_ne n]
  exact h
/-- F is what stays; p turns -/
structure Ctx (F : Hp) (p : Addr) (o : HO) (H : Hp) : Prop where
  e : Same F H
  n : F p = none
  h : H p = some o
theorem Ctx.turn {F H : Hp} {p : Addr} {o o' : HO} (c : Ctx F p o H) : Ctx F p o' (upd H p o') := ⟨fun b u hb => by
  rw [upd_ne (ne_of_none hb c.n)]
  exact c.e b u hb, c.n, upd_same⟩
theorem Ctx.start {H : Hp} {p : Addr} {o : HO} (h : H p = some o) : Ctx (del H p) p o H := ⟨same_del, del_same, h⟩
theorem Ctx.new {F H : Hp} {p q : Addr} {o u : HO} (c : Ctx F p o H) (hq : H q = none) : Ctx (upd F q u) p o (upd H q u) := by
  have hqp : q ≠ p := fun z => by
    rw [z, c.h] at hq
    cases hq
  refine ⟨fun b x hb => ?_, by rw [upd_ne hqp.symm]; exact c.n, by rw [upd_ne hqp.symm]; exact c.h⟩
  by_cases z : b = q
  · subst z
    rw [upd_same] at hb ⊢
    exact hb
  · rw [upd_ne z] at hb ⊢
    exact c.e b x hb
theorem Ctx.grow {F H H' : Hp} {p : Addr} {o : HO} (c : Ctx F p o H) (e : Same H H') : Ctx F p o H' := ⟨c.e.trans e, c.n, e _ _ c.h⟩
theorem Ctx.newF {F H : Hp} {p q : Addr} {o : HO} (c : Ctx F p o H) (hq : H q = none) : F q = none := c.e.free hq
theorem Ctx.drop {F H : Hp} {p q : Addr} {o u : HO} (c : Ctx (upd F q u) p o H) (n : F q = none) : Ctx F p o H := by
  refine ⟨(same_new n).trans c.e, ?_, c.h⟩
  have z := c.n
  by_cases e : p = q
  · rw [e]
    exact n
  · rw [upd_ne e] at z
    exact z
theorem Ctx.put {F H : Hp} {p l : Addr} {o u : HO} (c : Ctx F p o H) (n : F l = none) (ne : l ≠ p) : Ctx F p o (upd H l u) := ⟨fun b x hb => by
  rw [upd_ne (ne_of_none hb n)]
  exact c.e b x hb, c.n, by rw [upd_ne ne.symm]; exact c.h⟩
theorem Ctx.ne {F H : Hp} {p q : Addr} {o : HO} (c : Ctx F p o H) (hq : H q = none) : q ≠ p := fun z => by
  rw [z, c.h] at hq
  cases hq
theorem Ctx.fresh {F H : Hp} {p q : Addr} {o u : HO} (c : Ctx F p o H) (hq : H q = none) : Ctx F p o (upd H q u) := (c.new hq).drop (c.newF hq)
/-- all but p, as it stands, may be kept -/
theorem Ctx.all {F H : Hp} {p : Addr} {o : HO} (c : Ctx F p o H) : Same F (del H p) := fun b u hb => del_of (c.e b u hb) (ne_of_none hb c.n)
theorem Ctx.to {F H H' : Hp} {p : Addr} {o o' : HO} (c : Ctx F p o H) (e : Same (del H p) H') (h : H' p = some o') : Ctx F p o' H' := ⟨c.all.trans e, c.n, h⟩
end VX
set_option maxRecDepth 100000
set_option maxHeartbeats 4000000
/-! Comprehensions and loops, read. -/
namespace VX
open PySem PySem.Spec PyProof.Rows L2
section
variable {σ σ' : L2.St} {H : Hp} {Q : VK} {K : PySem.W.Frag} {wi : TI} {g : TG} {tt : TT} {te : TE} {vs : List Nat}
theorem i_lc (q : wi σ H fun J H1 => ∀ D, H1 D = none → ∃ W : Nat → Nat → Hp → Prop, (∃ m, W 0 m (upd H1 D (.lst []))) ∧ ∀ i m H, W i m H →
  (J.stop i H ∧ Q (.ref D) H) ∨ (J.go i H ∧ ∃ Nx : Hp → Prop, (∀ H', Nx H' → ∃ m', m' < m ∧ W (i + 1) m' H') ∧ ∀ x H', J.yld i H x H' → g x (wipe σ vs) H' fun σ2 H2 => wipe σ2 vs = wipe σ vs ∧ tt σ2 H2 fun b H3 =>
    if b = true then te σ2 H3 fun y H4 => ∃ acc, H4 D = some (.lst acc) ∧ acc.length < sizeLine ∧ Nx (upd H4 D (.lst (acc ++ [y]))) else Nx H3)) : tLc wi g tt te vs σ H Q := q
theorem i_rixL {p : Addr} {xs : List V} {i : Int} {v : V} (h : SqL K H p xs) (hi : atI xs i = some v) (q : Q v H) : rIx K (.ref p) (.int i) H Q := .inl ⟨p, xs, i, v, rfl, rfl, h, hi, q⟩
theorem i_rixT {p : Addr} {xs : List V} {i : Int} {v : V} (h : SqT K H p xs) (hi : atI xs i = some v) (q : Q v H) : rIx K (.ref p) (.int i) H Q := .inr (.inl ⟨p, xs, i, v, rfl, rfl, h, hi, q⟩)
theorem i_cut {D : Ends} {t u : TS} {M : L2.St → Hp → Prop} (h : t { D with nx := M } σ H) (k : ∀ σ' H', M σ' H' → u D σ' H') : Evl.tCut t u D σ H := ⟨M, h, k⟩
theorem i_for {D : Ends} {wi : TI} {g : TG} {tb : TS} (q : wi σ H fun J H1 => ∃ W : Nat → Nat → L2.St → Hp → Prop, (∃ m, W 0 m σ H1) ∧ ∀ i m σ H, W i m σ H →
  (J.stop i H ∧ D.nx σ H) ∨ (J.go i H ∧ ∃ N : L2.St → Hp → Prop, (∀ σ' H', N σ' H' → ∃ m', m' < m ∧ W (i + 1) m' σ' H') ∧ ∀ x H', J.yld i H x H' → g x σ H' fun σ2 H2 => tb { D with nx := N, ct := N, bk := D.nx } σ2 H2)) : tFor wi g tb D σ H := q
theorem i_lstRg {te : L2.St → Hp → (Int → Int → Hp → Prop) → Prop} (q : te σ H fun a b H1 => RgOk a b ∧ ∀ q, H1 q = none → Q (.ref q) (upd H1 q (.lst (rgV a b)))) : tLstRg te σ H Q := q
theorem i_rg2 {ta tb : TE} {R : Int → Int → Hp → Prop} (q : ta σ H fun x H1 => tb σ H1 fun y H2 => ∃ i j, x = .int i ∧ y = .int j ∧ R i j H2) : tRg2 ta tb σ H R := q
theorem i_rg2v {i j : Int} {R : Int → Int → Prop} (q : R i j) : ∃ i' j', V.int i = .int i' ∧ V.int j = .int j' ∧ R i' j' := ⟨i, j, rfl, rfl, q⟩
theorem i_yes {Q : Bool → Hp → Prop} (q : Q true H) : tYes σ H Q := q
theorem i_wipe {R : Prop} (e : wipe σ' vs = wipe σ vs) (q : R) : wipe σ' vs = wipe σ vs ∧ R := ⟨e, q⟩
theorem i_iList {tl : TE} {R : It → Hp → Prop} (q : tl σ H fun x H1 => ∃ a, x = .ref a ∧ (∃ xs, SqL K H1 a xs) ∧ R (Itl K a) H1) : iList K tl σ H R := q
theorem i_iRng1 {ta : TA} {R : It → Hp → Prop} (q : ta σ H fun vs H1 => ∃ j : Int, vs = [.int j] ∧ -(2 ^ 62) ≤ j ∧ j < 2 ^ 62 ∧ R (Itr 0 j.toNat) H1) : iRng1 ta σ H R := q
theorem i_iRng2 {ta : TA} {R : It → Hp → Prop} (q : ta σ H fun vs H1 => ∃ i j : Int, vs = [.int i, .int j] ∧ (-(2 ^ 62) ≤ i ∧ i < 2 ^ 62 ∧ -(2 ^ 62) ≤ j ∧ j < 2 ^ 62) ∧ R (Itr i (j - i).toNat) H1) : iRng2 ta σ H R := q
theorem i_iEnum {ta : TA} {R : It → Hp → Prop} (q : ta σ H fun vs H1 => ∃ a xs, vs = [.ref a] ∧ SqL K H1 a xs ∧ R (Ite K a) H1) : iEnum K ta σ H R := q
theorem i_iZip {ta : TA} {R : It → Hp → Prop} (q : ta σ H fun vs H1 => ∃ a b xs ys, vs = [.ref a, .ref b] ∧ SqL K H1 a xs ∧ SqL K H1 b ys ∧ R (Itz K a b) H1) : iZip K ta σ H R := q
theorem i_iOwn {C : Addr} {nm : Str} {R : It → Hp → Prop} (q : te σ H fun x H1 => ∃ a dx fs l zs, x = V.ref a ∧ H1 a = some (.ins C dx fs) ∧ fs.lookup nm = some (V.ref l) ∧ SqL K H1 l zs ∧ R (Itl K l) H1) : iOwn K C nm te σ H R := q
/-- a comprehension without a test whose items are plain values and which changes nothing -/
theorem lc_map {J : It} {n : Nat} {G : Hp → Prop} {Y : Nat → Hp → V → Hp → Prop} (w : Walk J n G Y) {H1 F : Hp} {D : Addr} {Qd : Hp → Prop} (eF : Same F H1) (nD : H1 D = none) (hn : n ≤ 10000) (f : Nat → V) (hG : ∀ H, Same F H → G H)
    (hs : ∀ i x H H', i < n → Same F H → Y i H x H' → Same H H' ∧ ∀ R : VK, (∀ H4, Same H' H4 → R (f i) H4) → g x (wipe σ vs) H' fun σ2 H2 => wipe σ2 vs = wipe σ vs ∧ te σ2 H2 R)
    (hd : ∀ H, Same F H → H D = some (.lst ((List.range n).map f)) → Qd H) :
    ∃ W : Nat → Nat → Hp → Prop, (∃ m, W 0 m (upd H1 D (.lst []))) ∧ ∀ i m H, W i m H →
      (J.stop i H ∧ Qd H) ∨ (J.go i H ∧ ∃ Nx : Hp → Prop, (∀ H', Nx H' → ∃ m', m' < m ∧ W (i + 1) m' H') ∧ ∀ x H', J.yld i H x H' → g x (wipe σ vs) H' fun σ2 H2 => wipe σ2 vs = wipe σ vs ∧ tYes σ2 H2 fun b H3 =>
        if b = true then te σ2 H3 fun y H4 => ∃ acc, H4 D = some (.lst acc) ∧ acc.length < sizeLine ∧ Nx (upd H4 D (.lst (acc ++ [y]))) else Nx H3) := by
  have fD : F D = none := eF.free nD
  refine lc_it w (Qd := Qd) (tt := tYes) (fun i H => Same F H ∧ H D = some (.lst ((List.range i).map f))) ⟨fun b o hb => ?_, upd_same⟩ (fun i H _ p => hG H p.1) (fun i x H H' hi p y => ?_) fun H p => hd H p.1 p.2
  · rw [upd_ne (ne_of_none hb fD)]
    exact eF b o hb
  · obtain ⟨e, q⟩ := hs i x H H' hi p.1 y
    refine q (fun y H4 => ∃ acc, H4 D = some (.lst acc) ∧ acc.length < sizeLine ∧ (Same F (upd H4 D (.lst (acc ++ [y]))) ∧ upd H4 D (.lst (acc ++ [y])) D = some (.lst ((List.range (i + 1)).map f)))) fun H4 e4 => ?_
    have h4 : H4 D = some (.lst ((List.range i).map f)) := e4 _ _ (e _ _ p.2)
    refine ⟨_, h4, ?_, fun b o hb => ?_, ?_⟩
    · rw [List.length_map, List.length_range]
      exact Nat.lt_of_lt_of_le hi (Nat.le_trans hn (by decide))
    · rw [upd_ne (ne_of_none hb fD)]
      exact e4 _ _ (e _ _ (p.1 b o hb))
    · rw [upd_same, List.range_succ, List.map_append]
      rfl
end
theorem range_map_at {α : Type} {f : Nat → α} {xs : List α} (h : ∀ i x, xs[i]? = some x → f i = x) : (List.range xs.length).map f = xs := by
  apply List.ext_getElem?
  intro i
  by_cases hi : i < xs.length
  · rw [List.getElem?_map, List.getElem?_range hi, List.getElem?_eq_getElem hi]
    exact congrArg some (h i _ (List.getElem?_eq_getElem hi))
  · rw [List.getElem?_eq_none (by rw [List.length_map, List.length_range]; omega), List.getElem?_eq_none (by omega)]
end VX
set_option maxRecDepth 100000
set_option maxHeartbeats 4000000
/-! The items of a dict with tuple keys, walked. -/
namespace VX
open PySem PySem.Spec PyProof.Rows L2
section
variable {X : Cx} {pins : List (Addr × Obj)} {σ : L2.St} {H : Hp} {s : Shared} {d : Addr} {o : Obj}
theorem frzT2 {kvs : List (List Key × V)} (I : Inv X pins σ H s) (h : H d = some (.frz o (.dT kvs))) :
    (d == sysModules) = false ∧ s.heap.get? d = some o ∧ o.ExactDict ∧ ∃ (es : Array DictEntry) (ep : Nat), o.data = .dict es ep ∧ es.size = kvs.length ∧
      ∀ (i : Nat) (k : List Key) (v : V), kvs[i]? = some (k, v) → ∃ (en : DictEntry) (q : Addr), es[i]? = some en ∧ en.key = .ref q ∧ H q = some (.tup (k.map kV)) ∧ RelV v en.val := by
  obtain ⟨hd, z, hs, xs, pr, o', es, ep, ho, hx, hdt, he, _⟩ := I.hok d _ h
  rw [hd] at ho
  cases ho
  refine ⟨hs, hd, hx, es, ep, hdt, ?_, fun i k v e => ?_⟩
  · have l1 : es.size = xs.length := size_of_entries he
    have l2 : kvs.length = xs.length := Paired.length pr
    omega
  · obtain ⟨b, hb, e1, e2, e3⟩ := paired_get pr e
    have q := entry_at he i
    rw [hb] at q
    exact ⟨_, b.2.1, q, rfl, e2, e3⟩
end
/-- the pairs, each a new tuple of the key's own tuple and the value -/
def Itit (d : Addr) (o : Obj) (kvs : List (List Key × V)) : It :=
  ⟨fun i H => H d = some (.frz o (.dT kvs)) ∧ i < kvs.length, fun i H x H' => ∃ T k v q, kvs[i]? = some (k, v) ∧ x = .ref T ∧ H q = some (.tup (k.map kV)) ∧ H T = none ∧ H' = upd H T (.tup [.ref q, v]), fun i H => H d = some (.frz o (.dT kvs)) ∧ kvs.length ≤ i⟩
section
variable {P : Program} {w : World} {K : PySem.W.Frag} {d : Addr} {o : Obj} {es : Array DictEntry} {ep : Nat}
theorem turn_itemsT {kvs : List (List Key × V)} {elts : List Expr} {kk : Nat} {tpos : Pos} (it : Addr) (hod : o.data = .dict es ep) :
    Turn P w K (.Tuple elts kk tpos) (Itit d o kvs) [it] it (fun i h => ∃ ok ov, IsItemIter h it d i es.size ep ok ov) where
  mem := by simp
  obj := fun i h st b hb => by
    have e : b = it := by simpa using hb
    subst e
    obtain ⟨ok, ov, e⟩ := st
    exact ⟨_, e, fun v z => nomatch z⟩
  keep := fun i h h' st k => let ⟨ok, ov, e⟩ := st; ⟨ok, ov, k it (by simp) _ e⟩
  item := by
    intro X hP hw hK hc i pins s σ H E I hf st hg
    subst hP hw hK
    obtain ⟨hd, hi⟩ := hg
    obtain ⟨hs, hgd, hx, es', ep', hdt, hsz, ent⟩ := frzT2 I hd
    obtain ⟨rfl, rfl⟩ := dict_ep hod hdt
    obtain ⟨⟨k, v⟩, hkv⟩ : ∃ p, kvs[i]? = some p := ⟨kvs[i], List.getElem?_eq_getElem hi⟩
    obtain ⟨en, q, hen, hkey, hq, hv⟩ := ent i k v hkv
    obtain ⟨ok, ov, he⟩ := st
    have hlt : it < s.heap.objs.size := Heap.lt_size he
    have hi2 : i < es'.size := by omega
    have een : es'[i] = en := by
      rw [Array.getElem?_eq_getElem hi2] at hen
      exact Option.some.inj hen
    refine DT.nextI he ⟨o, hgd, hx, hdt⟩ hi2 fun h' ho hT hz hk => ?_
    rw [een] at ho hT
    refine ⟨_, rfl, wpAny_letOwnedTupleGo_items (s := { s with heap := h' }) ho fun h'' he' sb => ?_⟩
    have hT2 : h''.get? s.heap.objs.size = some { cls := .type "tuple", data := .seq #[en.key, en.val] } := (sb.2 _ (Nat.ne_of_gt hlt)).trans hT
    have new : ObjOk X.prog X.w (upd H s.heap.objs.size (.tup [.ref q, v])) h'' s.heap.objs.size (.tup [.ref q, v]) :=
      ⟨by show 2 ≤ sizeLine; decide, [en.key, en.val], .cons hkey (.cons hv .nil), ⟨_, hT2, rfl, _, rfl⟩⟩
    have I1 : Inv X pins σ (upd H s.heap.objs.size (.tup [.ref q, v])) { s with heap := h'' } :=
      I.turnedNew (t' := s.toks) (ch := [it]) (fun b ob hb e => (sb.2 b (by simpa using hb)).trans (hk b ob (by simpa using hb) e)) hf (Nat.le_refl _) new
    refine ⟨.ref s.heap.objs.size, _, I1, rfl, ⟨_, k, v, q, hkv, rfl, hq, I.hok.fresh (Nat.le_refl _), rfl⟩, ⟨_, _, he'⟩, fun b hb => ?_⟩
    have e : b = it := by simpa using hb
    rw [e, upd_ne (Nat.ne_of_lt hlt)]
    exact (hf it (by simp)).1
  done := by
    intro X hP hw hK hc i pins s σ H E I hf st hg
    subst hP hw hK
    obtain ⟨hd, hi⟩ := hg
    obtain ⟨f0, f1, f2, f3, f4, f5⟩ := hf it (by simp)
    obtain ⟨hs, hgd, hx, es', ep', hdt, hsz, ent⟩ := frzT2 I hd
    obtain ⟨rfl, rfl⟩ := dict_ep hod hdt
    obtain ⟨ok, ov, he⟩ := st
    exact DT.endI (I.ok.hd hc) he ⟨o, hgd, hx, hdt⟩ (by omega) fun h' eb => ⟨rfl, I.turned (t' := s.toks) (fun b ob hb e => eb b ob hb e) f0 f1 f3 f4 f5⟩
  self := fun A i s Q E st h => let ⟨_, _, e⟩ := st; PySem.W.kcp_self e h
end
section
variable {X : Cx} {td : TE} {e : Expr} {apos cpos : Pos}
def iItemsT (td : TE) : TI := fun σ H R => td σ H fun x H1 => ∃ d o kvs, x = .ref d ∧ H1 d = some (.frz o (.dT kvs)) ∧ R (Itit d o kvs) H1
theorem pi_itemsT {elts : List Expr} {kk : Nat} {tpos : Pos} (he : PE X e td) (hbase : attributeBase e "items" X.env (eval e X.env) = eval e X.env := by rfl) (hline : (apos.endLine == cpos.line) = true := by rfl) :
    PI X (.Tuple elts kk tpos) (.Call (.Attribute e "items" apos) [] [] cpos) (iItemsT td) := by
  refine ⟨fun pins s σ H R I h => ?_⟩
  refine wpAny_Call_method (T := "dict") (id := "dict.items") hbase rfl hline F.plainAttrs_dict F.slot_dict_items F.type_dict_items (thn (he.run pins s σ H _ I h) fun u s1 ⟨x, H1, I1, rx, d, o, kvs, ex, hd, q⟩ => ?_)
  subst ex
  obtain rfl : u = Value.ref d := rx
  obtain ⟨hs, hgd, hx, es, ep, hdt, hsz, ent⟩ := frzT2 I1 hd
  have rw1 : DT.Raw s1.heap d es ep := ⟨o, hgd, hx, hdt⟩
  refine ⟨rw1.typeIs, ?_, ?_⟩
  · intro b e
    cases e
    exact ⟨o, hgd, hx.2.1⟩
  have I2 : Inv X pins σ H1 { s1 with heap := s1.heap.push { cls := .type "dict_items", data := .fields #[.ref d] } } := I1.kept (t' := s1.toks) fun b ob q => Heap.get?_push_of_some _ q
  have fin : wpAny (model X.prog X.w) X.A (pyIter (.ref s1.heap.objs.size)) (PIE X pins σ (.Tuple elts kk tpos) R) X.xe { s1 with heap := s1.heap.push { cls := .type "dict_items", data := .fields #[.ref d] } } := by
    refine DT.iterI (d := d) ⟨_, Heap.get?_push_size _ rfl, rfl, rfl⟩ (rw1.push _) (pi_one (tk := s1.toks) I2 _ (turn_itemsT _ hdt) ⟨.none, .none, ?_⟩ q)
    exact Heap.get?_push_size _ rfl
  show wpAny _ _ (callWith cpos (.builtin "dict.items") [.ref d] [] []) _ X.xe s1
  exact method_meetsIn F.slot_dict_items F.entry_dict_items rfl (PySem.evalArgs_none ⟨rfl, rw1.typeIs, F.args_dict_items_1 _, _, DT.meetsItems (es := es) (ep := ep) hs, ⟨rw1, fin⟩⟩)
end
end VX
set_option maxRecDepth 100000
set_option maxHeartbeats 4000000
/-! sorted(xs): tuples that begin with d whole numbers, no two with the same beginning. -/
namespace VX
open PySem PySem.Spec PyProof.Rows L2
/-- the order of lists of numbers -/
def lexL : List Int → List Int → Bool
  | [], [] => false
  | [], _ :: _ => true
  | _ :: _, [] => false
  | x :: xs, y :: ys => if x = y then lexL xs ys else decide (x < y)
theorem lexL_same {x : Int} {xs ys : List Int} : lexL (x :: xs) (x :: ys) = lexL xs ys := if_pos rfl
theorem lexL_ne {x y : Int} {xs ys : List Int} (h : x ≠ y) : lexL (x :: xs) (y :: ys) = decide (x < y) := if_neg h
theorem lexL_asym : ∀ xs ys : List Int, lexL xs ys = true → lexL ys xs = false
  | [], [], _ => rfl
  | [], _ :: _, _ => rfl
  | _ :: _, [], h => by cases h
  | x :: xs, y :: ys, h => by
    by_cases e : x = y
    · subst e
      rw [lexL_same] at h ⊢
      exact lexL_asym xs ys h
    · rw [lexL_ne e] at h
      rw [lexL_ne (Ne.symm e)]
      have := of_decide_eq_true h
      exact decide_eq_false (by omega)
theorem lexL_tr : ∀ xs ys zs : List Int, lexL ys xs = false → lexL zs ys = false → lexL zs xs = false
  | [], [], [], _, _ => rfl
  | [], [], _ :: _, _, _ => rfl
  | [], _ :: _, [], _, h => by cases h
  | [], _ :: _, _ :: _, _, _ => rfl
  | _ :: _, [], _, h, _ => by cases h
  | _ :: _, _ :: _, [], _, h => by cases h
  | x :: xs, y :: ys, z :: zs, h1, h2 => by
    by_cases e1 : y = x
    · subst e1
      rw [lexL_same] at h1
      by_cases e2 : z = y
      · subst e2
        rw [lexL_same] at h2 ⊢
        exact lexL_tr xs ys zs h1 h2
      · rw [lexL_ne e2] at h2 ⊢
        exact h2
    · rw [lexL_ne e1] at h1
      by_cases e2 : z = y
      · subst e2
        rw [lexL_ne e1]
        exact h1
      · rw [lexL_ne e2] at h2
        have a1 := of_decide_eq_false h1
        have a2 := of_decide_eq_false h2
        rw [lexL_ne (by omega)]
        exact decide_eq_false (by omega)
theorem lexL_swo {α : Type} (f : α → List Int) : SrtO.Swo (fun x y => lexL (f x) (f y)) := ⟨fun x y h => lexL_asym _ _ h, fun x y z h1 h2 => lexL_tr _ _ _ h1 h2⟩
theorem lexL_self : ∀ xs : List Int, lexL xs xs = false
  | [] => rfl
  | x :: xs => by rw [lexL_same, lexL_self xs]
section
variable {prog : Program} {w : World} {A : Around} {E : Value → Shared → Prop} {s : Shared} {Q : Bool → Shared → Prop}
theorem eqb_self {v : Value} (h : Q true s) : wpAny (model prog w) A (eqBool v v) Q E s := by
  unfold eqBool
  refine wpAny_holding ?_
  rw [if_pos (beq_self_eq_true v)]
  exact wpAny_bind (wpAny_rule (wpAny_pure h))
theorem lex_self {b : Bool} : ∀ (xs : List Value) (i : Nat), Q false s → PySem.W.KatLex prog w A b false Q (xs.zip xs) i s
  | [], _, h => PySem.W.kat_nil h
  | x :: xs, i, h => PySem.W.kat_cons (eqb_self (PySem.W.kat_yes (lex_self xs (i + 1) h)))
theorem lex_pfx {b fin : Bool} {xs ys tx ty : List Value} {ns ms : List Int} (i : Nat) (hx : IntsAre xs ns) (hy : IntsAre ys ms) (hl : ns.length = ms.length) (ne : ns ≠ ms)
    (h : Q (lexL ns ms) s) : PySem.W.KatLex prog w A b fin Q ((xs ++ tx).zip (ys ++ ty)) i s := by
  induction hx generalizing ys ms i with
  | nil =>
    cases hy with
    | nil => exact absurd rfl ne
    | cons q u hy => simp at hl
  | @cons p t xs ns hx ih =>
    cases hy with
    | nil => simp at hl
    | @cons q u ys ms hy =>
      refine PySem.W.kat_cons (wpAny_eqBool_int ?_)
      by_cases e : p = q
      · subst e
        rw [lexL_same] at h
        rw [beq_self_eq_true]
        exact PySem.W.kat_yes (ih (i + 1) hy (by simpa using hl) (fun z => ne (by rw [z])) h)
      · rw [lexL_ne e] at h
        rw [beq_eq_false_iff_ne.mpr e]
        exact PySem.W.kat_no (TS.oneLt_ints _ h)
end
/-- a tuple that begins with these numbers -/
def Pfx (h : Heap) (v : Value) (ns : List Int) : Prop := ∃ a xs vs tx, v = .ref a ∧ IsTup h a xs ∧ xs.toList = vs ++ tx ∧ IntsAre vs ns
theorem Pfx.keeps {h h' : Heap} {v : Value} {ns : List Int} (x : Pfx h v ns) (k : ∀ b o, h.get? b = some o → o.cls = .type "tuple" → h'.get? b = some o) : Pfx h' v ns := by
  obtain ⟨a, xs, vs, tx, e, ⟨o, ho, hc, hd⟩, i⟩ := x
  exact ⟨a, xs, vs, tx, e, ⟨o, k _ _ ho hc, hc, hd⟩, i⟩
theorem ints_uniq : ∀ {vs us tx ty : List Value} {ns ms : List Int}, IntsAre vs ns → IntsAre us ms → ns.length = ms.length → vs ++ tx = us ++ ty → ns = ms
  | _, _, _, _, _, _, .nil, .nil, _, _ => rfl
  | _, _, _, _, _, _, .nil, .cons _ _ _, hl, _ => by simp at hl
  | _, _, _, _, _, _, .cons _ _ _, .nil, hl, _ => by simp at hl
  | _, _, _, _, _, _, .cons n t hx, .cons m u hy, hl, e => by
    have e1 : Value.int n t = Value.int m u := (List.cons.inj e).1
    have e2 := ints_uniq hx hy (by simpa using hl) (List.cons.inj e).2
    cases e1
    rw [e2]
theorem Pfx.uniq {h : Heap} {v : Value} {ns ms : List Int} (x : Pfx h v ns) (y : Pfx h v ms) (hl : ns.length = ms.length) : ns = ms := by
  obtain ⟨a, xs, vs, tx, rfl, ⟨o, ho, hc, n, hd⟩, i1, i2⟩ := x
  obtain ⟨b, ys, us, ty, e, ⟨o', ho', hc', n', hd'⟩, j1, j2⟩ := y
  cases e
  rw [ho] at ho'
  cases ho'
  rw [hd] at hd'
  cases hd'
  exact ints_uniq i2 j2 hl (i1.symm.trans j1)
structure PfxOk (h : Heap) (d : Nat) (vs : List Value) (pr : Value → List Int) : Prop where
  at_ : ∀ v, v ∈ vs → Pfx h v (pr v) ∧ (pr v).length = d
  one : ∀ u v, u ∈ vs → v ∈ vs → pr u = pr v → u = v
theorem pfx_firsts {h : Heap} {d : Nat} (hd : 1 ≤ d) (pr : Value → List Int) : ∀ vs : List Value, (∀ v, v ∈ vs → Pfx h v (pr v) ∧ (pr v).length = d) → ∃ fs, PySem.W.KatTups h vs fs ∧ fs.length = vs.length ∧ ∀ f, f ∈ fs → ∃ n t, f = Value.int n t
  | [], _ => ⟨[], PySem.W.KatTups.nil, rfl, fun f hf => by simp at hf⟩
  | v :: vs, x => by
    obtain ⟨fs, k, hl, hi⟩ := pfx_firsts hd pr vs fun u hu => x u (List.mem_cons_of_mem _ hu)
    obtain ⟨⟨a, xs, us, tx, rfl, ⟨o, ho, hc, n, hdt⟩, e, i⟩, hn⟩ := x v (List.mem_cons_self ..)
    generalize pr (.ref a) = ns at i hn
    cases i with
    | nil =>
      rw [List.length_nil] at hn
      omega
    | @cons m t ys ns i =>
      refine ⟨.int m t :: fs, PySem.W.KatTups.cons ho hc hdt ?_ k, by simp [hl], ?_⟩
      · have z := congrArg (fun l : List Value => l[0]?) e
        simpa using z
      · intro f hf
        rcases List.mem_cons.mp hf with rfl | hf
        · exact ⟨m, t, rfl⟩
        · exact hi f hf
section
variable {prog : Program} {w : World} {A : Around} {E : Value → Shared → Prop} {s : Shared}
theorem pfx_sortable {a : Addr} {vs : List Value} {d : Nat} {pr : Value → List Int} (hd : 1 ≤ d) (h2 : 2 ≤ vs.length) (x : PfxOk s.heap d vs pr) (ha : ∀ o, s.heap.get? a = some o → o.cls ≠ .type "tuple") : SrtO.SortableO prog w A s a vs fun v u => lexL (pr v) (pr u) := by
  intro h' keep
  have y : ∀ v ∈ vs, Pfx h' v (pr v) ∧ (pr v).length = d := fun v m => ⟨(x.at_ v m).1.keeps fun b o e c => keep b o (fun z => ha o (z ▸ e) c) e, (x.at_ v m).2⟩
  obtain ⟨fs, k, hl, hi⟩ := pfx_firsts hd pr vs y
  refine ⟨PyProof.Rows.tuples' true, fun Q E hq => PySem.W.kat_kind (T := .type "int") k (by omega) (fun f m => ?_) rfl hq, fun p q hp hq => ?_⟩
  · obtain ⟨n, t, rfl⟩ := hi f m
    exact PySem.W.Looks.of_pure rfl
  · show wpAny _ _ (keyLt' _ p.1 q.1) (fun r s' => s' = _ ∧ r = lexL (pr p.1) (pr q.1)) _ _
    have hp : p.1 ∈ vs := hp
    have hq : q.1 ∈ vs := hq
    generalize p.1 = u at hp ⊢
    generalize q.1 = v at hq ⊢
    obtain ⟨tp, lp⟩ := y u hp
    obtain ⟨tq, lq⟩ := y v hq
    by_cases e : pr u = pr v
    · cases x.one u v hp hq e
      rw [lexL_self]
      obtain ⟨a, xs, us, tx, rfl, ⟨o, ho, hc, n, hdt⟩, e1, i⟩ := tp
      refine PySem.W.kat_lt ho hdt ho hdt ?_
      rw [decide_eq_false (Nat.lt_irrefl _)]
      exact lex_self _ 0 ⟨rfl, rfl⟩
    · obtain ⟨a, xs, us, tx, rfl, ⟨o, ho, hc, n, hdt⟩, e1, i⟩ := tp
      obtain ⟨a', ys, us', ty, rfl, ⟨o', ho', hc', n', hdt'⟩, e1', i'⟩ := tq
      refine PySem.W.kat_lt ho hdt ho' hdt' ?_
      rw [e1, e1']
      exact lex_pfx 0 i i' (lp.trans lq.symm) e ⟨rfl, rfl⟩
theorem not_tup {a : Addr} {vs : List Value} {n : Nat} {h : Heap} (e : h.get? a = some (seqObj "list" vs.toArray n)) : ∀ o, h.get? a = some o → o.cls ≠ .type "tuple" := fun o e' c => by
  cases e.symm.trans e'
  exact absurd (Value.type.inj c) (by decide)
theorem PfxOk.keeps {h h' : Heap} {d : Nat} {vs : List Value} {pr : Value → List Int} (x : PfxOk h d vs pr) (k : ∀ b o, h.get? b = some o → h'.get? b = some o) : PfxOk h' d vs pr :=
  ⟨fun v m => ⟨(x.at_ v m).1.keeps fun b o e _ => k b o e, (x.at_ v m).2⟩, x.one⟩
end
/-- the tuple x of the tracked heap begins with these numbers -/
def TupX (K : PySem.W.Frag) (H : Hp) (x : V) (ns : List Int) : Prop := ∃ t xs, x = .ref t ∧ SqT K H t (ns.map V.int ++ xs)
section
variable {X : Cx} {pins : List (Addr × Obj)} {σ : L2.St} {H : Hp} {s : Shared}
theorem ints_split : ∀ {ns : List Int} {xs : List V} {us : List Value}, Vals (ns.map V.int ++ xs) us → ∃ vs tx, us = vs ++ tx ∧ IntsAre vs ns
  | [], _, us, _ => ⟨[], us, rfl, .nil⟩
  | n :: ns, xs, _, .cons r t => by
    obtain ⟨vs, tx, e, i⟩ := ints_split (ns := ns) t
    obtain ⟨tk, rfl⟩ := r
    exact ⟨_ :: vs, tx, by rw [e]; rfl, .cons n tk i⟩
theorem tupX_raw (I : Inv X pins σ H s) {t : Addr} {ns : List Int} {xs : List V} (h : SqT X.K H t (ns.map V.int ++ xs)) : Pfx s.heap (.ref t) ns := by
  obtain ⟨its, rv, hT, _⟩ := I.tuple h
  obtain ⟨vs, tx, e, i⟩ := ints_split rv
  exact ⟨t, its.toArray, vs, tx, rfl, hT, by simpa using e, i⟩
/-- sorted(xs), xs a list of tuples that begin with d numbers, no two alike: a new list of the same, ascending -/
def rSortX (K : PySem.W.Frag) (d : Nat) : List V → Hp → VK → Prop := fun vs H Q => ∃ (a : Addr) (xs : List V) (pr : V → List Int), vs = [V.ref a] ∧ SqL K H a xs ∧ (∀ x ∈ xs, TupX K H x (pr x) ∧ (pr x).length = d) ∧
  (∀ x ∈ xs, ∀ y ∈ xs, pr x = pr y → x = y) ∧ ∀ (ys : List V) (p : Addr), ys.Perm xs → ys.Pairwise (fun x y => lexL (pr y) (pr x) = false) → H p = none → Q (.ref p) (upd H p (.lst ys))
theorem cr_sortX {d : Nat} (hd : 1 ≤ d) : CallR X (.builtin "sorted") (rSortX X.K d) := by
  intro pins s σ H vs us Q I r h
  obtain ⟨a, xs, pr, rfl, hs, hx, one, q⟩ := h
  obtain ⟨its, rv, hl, hz⟩ := I.list hs
  rw [Vals.ref1 r]
  obtain ⟨e1, e2⟩ := bkV_refs rv fun x m => let ⟨⟨t, _, e, _⟩, _⟩ := hx x m; ⟨t, e⟩
  have back : ∀ v ∈ its, bkV v ∈ xs := fun v hv => by
    rw [e1]
    exact List.mem_map_of_mem hv
  have ok : PfxOk s.heap d its (fun u => pr (bkV u)) := by
    refine ⟨fun v hv => ?_, fun u v hu hv e => ?_⟩
    · obtain ⟨⟨t, xs', e, ht⟩, hn⟩ := hx _ (back v hv)
      refine ⟨?_, hn⟩
      rw [bkV_ref e]
      have ht : SqT X.K H t ((pr (bkV (.ref t))).map V.int ++ xs') := by rw [← bkV_ref e]; exact ht
      exact tupX_raw I ht
    · obtain ⟨t, rfl⟩ := e2 u hu
      obtain ⟨t', rfl⟩ := e2 v hv
      cases one _ (back _ hu) _ (back _ hv) e
      rfl
  refine SrtO.sorted_ord (lexL_swo fun u => pr (bkV u)) hl.isList (by rw [← rv.length]; exact hz) (fun h2 h₁ c hc kk => pfx_sortable hd h2 (ok.keeps fun b o e => (kk b o e).2) (not_tup hc)) fun out h1 h2 => ?_
  obtain ⟨ep, he⟩ := PyProof.Rows.sortedAll_at s.heap its out.toArray
  have hp : (out.map bkV).Perm xs := by
    rw [e1]
    exact h2.perm.map bkV
  refine ⟨.ref _, upd H (s.heap.objs.size + 1) (.lst (out.map bkV)), I.laid (t' := s.toks) (fun _ _ => PyProof.Rows.sortedAll_old) (Nat.le_succ _) ⟨by rw [hp.length_eq]; exact hz, out, ep, bkV_vals fun u m => e2 u (h2.perm.mem_iff.mp m), he⟩, rfl,
    q _ _ hp (SrtO.srtd_map (lt := fun x y => lexL (pr x) (pr y)) h1) (I.hok.fresh (Nat.le_succ _))⟩
end
end VX
set_option maxRecDepth 100000
set_option maxHeartbeats 4000000
/-! sorted(d), d a dict whose keys are tuples of numbers in [0, B). -/
namespace VX
open PySem PySem.Spec PyProof.Rows L2
def numV : V → Int
  | .int n => n
  | _ => 0
def prH (H : Hp) : Value → List Int
  | .ref b => match H b with
    | some (.tup xs) => xs.map numV
    | _ => []
  | _ => []
theorem num_ints : ∀ ns : List Int, (ns.map V.int).map numV = ns
  | [] => rfl
  | n :: ns => by
    show n :: (ns.map V.int).map numV = n :: ns
    rw [num_ints ns]
theorem prH_of {H : Hp} {b : Addr} {ns : List Int} (h : H b = some (.tup (ns.map V.int))) : prH H (.ref b) = ns := by
  show (match H b with
    | some (.tup xs) => xs.map numV
    | _ => []) = ns
  rw [h]
  exact num_ints ns
theorem kV_ints : ∀ ns : List Int, (ns.map Sum.inl : List L2.Key).map kV = ns.map V.int
  | [] => rfl
  | n :: ns => by
    show kV (Sum.inl n) :: (ns.map Sum.inl : List L2.Key).map kV = V.int n :: ns.map V.int
    rw [kV_ints ns]
    rfl
section
variable {X : Cx}
theorem keys_pr {H : Hp} : ∀ {kvs : List (List L2.Key × V)} {bs : List Addr} {ns : List (List Int)}, IsKeys H kvs bs → kvs.map (·.1) = ns.map (List.map Sum.inl) → Paired (fun b n => H b = some (.tup (n.map V.int))) bs ns
  | [], _, [], .nil, _ => .nil
  | [], _, _ :: _, .nil, e => by simp at e
  | _ :: _, _, [], .cons _ _, e => by simp at e
  | (k, v) :: kvs, _, n :: ns, .cons h t, e => by
    have e1 : k = n.map Sum.inl := (List.cons.inj e).1
    have h : H _ = some (.tup (k.map kV)) := h
    rw [e1, kV_ints] at h
    exact .cons h (keys_pr t (List.cons.inj e).2)
theorem prs {H : Hp} : ∀ {bs : List Addr} {ns : List (List Int)}, Paired (fun b n => H b = some (.tup (n.map V.int))) bs ns → (bs.map Value.ref).map (prH H) = ns
  | _, _, .nil => rfl
  | _, _, .cons h t => by
    show prH H (.ref _) :: (List.map Value.ref _).map (prH H) = _
    rw [prH_of h, prs t]
theorem prs_mem {H : Hp} {bs : List Addr} {ns : List (List Int)} (h : Paired (fun b n => H b = some (.tup (n.map V.int))) bs ns) : ∀ b ∈ bs, ∃ n ∈ ns, H b = some (.tup (n.map V.int)) := by
  induction h with
  | nil => intro b hb; simp at hb
  | cons h t ih =>
    intro b hb
    rcases List.mem_cons.mp hb with rfl | hb
    · exact ⟨_, List.mem_cons_self, h⟩
    · obtain ⟨n, hn, e⟩ := ih b hb
      exact ⟨n, List.mem_cons_of_mem _ hn, e⟩
theorem inj_on {f : Value → List Int} : ∀ {us : List Value}, (us.map f).Nodup → ∀ u v, u ∈ us → v ∈ us → f u = f v → u = v
  | [], _, u, _, hu, _, _ => by simp at hu
  | x :: us, nd, u, v, hu, hv, e => by
    rw [List.map_cons, List.nodup_cons] at nd
    rcases List.mem_cons.mp hu with hu | hu
    · rcases List.mem_cons.mp hv with hv | hv
      · rw [hu, hv]
      · exact absurd (List.mem_map.mpr ⟨v, hv, by rw [← e, hu]⟩) nd.1
    · rcases List.mem_cons.mp hv with hv | hv
      · exact absurd (List.mem_map.mpr ⟨u, hu, by rw [e, hv]⟩) nd.1
      · exact inj_on nd.2 u v hu hv e
def rSortDT (d : Nat) : List V → Hp → VK → Prop := fun vs H Q => ∃ (a : Addr) (kvs : List (List L2.Key × V)) (ns : List (List Int)), vs = [V.ref a] ∧ Rd H a (.dT kvs) ∧ kvs.map (·.1) = ns.map (List.map Sum.inl) ∧
  (∀ n ∈ ns, n.length = d) ∧ ns.Nodup ∧ ∀ (bs : List Addr) (ns' : List (List Int)) (p : Addr), ns'.Perm ns → ns'.Pairwise (fun n m => lexL m n = false) → Paired (fun b n => H b = some (.tup (n.map V.int))) bs ns' → H p = none → Q (.ref p) (upd H p (.lst (bs.map V.ref)))
theorem cr_sortDT {d : Nat} (hd : 1 ≤ d) (hc : X.calm = true) : CallR X (.builtin "sorted") (rSortDT d) := by
  intro pins s σ H xs us Q I r h
  obtain ⟨a, kvs, ns, rfl, hrd, hk, hns, nd, q⟩ := h
  obtain ⟨u, rfl, rx⟩ := r.one
  cases rx
  obtain ⟨z, hs, ks, pr, o, es, ep, ho, hx, hdt, he, hn⟩ := (show ObjOk X.prog X.w H s.heap a (.dT kvs) from hrd.ok I.hok)
  have l1 : es.size = ks.length := size_of_entries he
  have l2 : kvs.length = ks.length := Paired.length pr
  have l3 : kvs.length = ns.length := by
    have e := congrArg List.length hk
    rw [List.length_map, List.length_map] at e
    exact e
  have pk := keys_pr (isKeys_of pr) hk
  generalize hbs : (ks.map fun x => x.2.1) = bs at pk
  have lb : bs.length = ns.length := Paired.length pk
  refine Calls.call_function_entry PyProof.Rows.kind_sorted PyProof.Rows.plain_sorted PyProof.Rows.entry_sorted (PyProof.Rows.args_sorted1 _) ?_
  unfold Builtin.«sorted»
  refine wpAny_bind (m := checkCount "sorted" 1 1 _) (wpAny_pure ?_)
  refine wpAny_bind (PySem.W.kdu_collect (A := X.A.in1) (kdl_raw hs hx hdt) (I.ok.hd hc) ho (by omega) fun h' tk acc hkp hacc => ?_)
  have ea : acc.toList = bs.map Value.ref := by
    rw [← hbs, List.map_map]
    have hl : acc.toList.length = ks.length := by rw [Array.length_toList, hacc.1]; exact l1
    apply List.ext_getElem?
    intro j
    rw [List.getElem?_map]
    cases hj : acc.toList[j]? with
    | none =>
      have h1 := List.getElem?_eq_none_iff.mp hj
      rw [List.getElem?_eq_none (by omega)]
      all_goals rfl
    | some v =>
      obtain ⟨en, hen, hv⟩ := hacc.2 j v (by rw [← Array.getElem?_toList]; exact hj)
      have qe := entry_at he j
      rw [hen] at qe
      cases hb : ks[j]? with
      | none =>
        rw [hb] at qe
        exact nomatch (show some en = none from qe)
      | some b =>
        rw [hb] at qe
        have e2 : en = entryOfKey (tupleKind (mixKind X.prog X.w)) b := Option.some.inj qe
        rw [hv, e2]
        all_goals rfl
  have I1 : Inv X pins σ H { s with heap := h', toks := tk } := I.kept hkp
  have hmap := prs pk
  rw [ea]
  have hal : (bs.map Value.ref).length = ns.length := by rw [List.length_map, lb]
  refine wpAny_bind (wpAny_newList ?_ (by rw [List.length_map, lb]; omega))
  have hoL : (h'.push (seqObj "list" (bs.map Value.ref).toArray 0)).get? h'.objs.size = some (seqObj "list" (bs.map Value.ref).toArray 0) := Heap.get?_push_size _ rfl
  show wpAny _ _ _ _ _ { s with heap := h'.push (seqObj "list" (bs.map Value.ref).toArray 0), toks := tk }
  have ok : PfxOk (h'.push (seqObj "list" (bs.map Value.ref).toArray 0)) d (bs.map Value.ref) (prH H) := by
    refine ⟨fun v hv => ?_, fun u v hu hv e => inj_on (by rw [hmap]; exact nd) u v hu hv e⟩
    obtain ⟨b, hb, rfl⟩ := List.mem_map.mp hv
    obtain ⟨n, hn, e⟩ := prs_mem pk b hb
    rw [prH_of e]
    exact ⟨Pfx.keeps (tupX_raw (xs := []) I1 (ns := n) (t := b) (by rw [List.append_nil]; exact SqT.of e)) fun c o z _ => Heap.get?_push_of_some _ z, hns n hn⟩
  refine wpAny_bind (wpAny_holding (wpAny_call_entry PyProof.Rows.slot_list_sort ⟨_, hoL, rfl⟩ PyProof.Rows.entry_list_sort
    (SrtO.list_sort_ord (s := { s with heap := h'.push (seqObj "list" (bs.map Value.ref).toArray 0), toks := tk }) (lexL_swo (prH H)) hoL (by rw [List.length_map, lb]; omega) (fun h2 => pfx_sortable hd h2 ok (not_tup hoL)) fun out g1 g2 => ⟨_, rfl, ?_⟩) (PyProof.Rows.args_list_sort _)))
  obtain ⟨e', he'⟩ := PyProof.Rows.sortedHeap_at (vs := bs.map Value.ref) (out := out.toArray) hoL
  have g1' : out.Perm (bs.map Value.ref) := g2.perm
  obtain ⟨bs', hb', hp'⟩ : ∃ bs' : List Addr, out = bs'.map Value.ref ∧ bs'.Perm bs := by
    refine ⟨out.map (fun v => match v with | .ref b => b | _ => 0), ?_, ?_⟩
    · rw [List.map_map]
      have all : ∀ v ∈ out, ∃ b, v = Value.ref b := fun v hv => by
        obtain ⟨b, _, rfl⟩ := List.mem_map.mp (g1'.mem_iff.mp hv)
        exact ⟨b, rfl⟩
      have : ∀ l : List Value, (∀ v ∈ l, ∃ b, v = Value.ref b) → l = l.map (Value.ref ∘ fun v => match v with | .ref b => b | _ => 0) := fun l hl => by
        induction l with
        | nil => rfl
        | cons x l ih =>
          obtain ⟨b, rfl⟩ := hl x List.mem_cons_self
          rw [List.map_cons, ← ih fun v hv => hl v (List.mem_cons_of_mem _ hv)]
          rfl
      exact this _ all
    · have z := g1'.map (fun v : Value => match v with | .ref b => b | _ => 0)
      rw [List.map_map] at z
      have e : bs.map ((fun v : Value => match v with | .ref b => b | _ => 0) ∘ Value.ref) = bs := by
        have : ((fun v : Value => match v with | .ref b => b | _ => 0) ∘ Value.ref) = (id : Addr → Addr) := rfl
        rw [this, List.map_id]
      rw [e] at z
      exact z
  have hlen : (bs'.map V.ref).length ≤ sizeLine := by
    rw [List.length_map, hp'.length_eq, lb]
    omega
  have pk' : Paired (fun b n => H b = some (.tup (n.map V.int))) bs' (out.map (prH H)) := by
    rw [hb']
    have mem : ∀ b ∈ bs', ∃ n ∈ ns, H b = some (.tup (n.map V.int)) := fun b hb => prs_mem pk b (hp'.mem_iff.mp hb)
    clear hb' hp' hlen
    induction bs' with
    | nil => exact .nil
    | cons b bs' ih =>
      obtain ⟨n, _, e⟩ := mem b List.mem_cons_self
      refine .cons ?_ (ih fun c hc => mem c (List.mem_cons_of_mem _ hc))
      rw [prH_of e]
      exact e
  refine wpAny_pure ⟨_, rfl, .ref h'.objs.size, upd H h'.objs.size (.lst (bs'.map V.ref)), I1.laid (t' := tk) (fun b u e => ?_) (Nat.le_refl _)
    (show ObjOk X.prog X.w _ _ _ (.lst (bs'.map V.ref)) from ⟨hlen, out, e', by rw [hb']; exact vals_refs _, he'⟩), rfl, q bs' (out.map (prH H)) _ ?_ ?_ pk' (I1.hok.fresh (Nat.le_refl _))⟩
  · have hb : b < h'.objs.size := Heap.lt_size e
    rw [PyProof.Rows.sortedHeap_old (Nat.ne_of_lt hb) (by rw [size_push']; exact Nat.lt_succ_of_lt hb)]
    exact Heap.get?_push_of_some _ e
  · have z := g1'.map (prH H)
    rw [hmap] at z
    exact z
  · exact SrtO.srtd_map (lt := lexL) (f := prH H) g1
end
end VX
set_option maxRecDepth 100000
set_option maxHeartbeats 4000000
/-! {k: v for x in xs}, the keys tuples. -/
namespace VX
open PySem PySem.Spec PyProof.Rows L2
section
variable {X : Cx} {pins : List (Addr × Obj)} {σ : L2.St} {H : Hp} {s : Shared}
/-- d[k] = v by a comprehension, k a tuple -/
theorem t_dictSet {E : Value → Shared → Prop} {D b : Addr} {kvs : List (List L2.Key × V)} {k : List L2.Key} {v : V} {r : Value} {Q : Unit → Shared → Prop} (hu : (tupleKind (mixKind X.prog X.w)).room X.A) (I : Inv X pins σ H s) (hD : H D = some (.dT kvs)) (hz : kvs.length < sizeLine)
    (hb : H b = some (.tup (k.map kV))) (rv : RelV v r) (h : ∀ s', Inv X pins σ (upd H D (.dT (putK kvs k v))) s' → Q () s') : wpAny (model X.prog X.w) X.A (dictSet D (.ref b) r) Q E s := by
  obtain ⟨_, low, xs, rel, dd⟩ := dt_of I.hok hD
  have len := length_putK kvs k v
  refine wpAny_dictSet_heap (hsz := by rw [← Paired.length rel]; omega) hu (key_of I.hok hb) dd (fun h' dd' same => h _ ?_)
  obtain ⟨q, es, ep, e1, e2, e3, e4, _, e5⟩ := dd'
  refine d_write I (by rw [hD]; exact True.intro) same ⟨q, e1⟩ ⟨by omega, low, _, (rel.put k hb rv).keeps fun c ys ec => ?_, q, es, ep, e1, e2, e3, e4, e5⟩
  rw [upd_ne fun z => by
    rw [z, hD] at ec
    exact nomatch ec]
  exact ec
end
section
variable {X : Cx}
/-- {k: v for x in xs if ..}, the keys tuples: D the new dict -/
def tDcT (wi : TI) (g : TG) (tt : TT) (tk tv : TE) (vs : List Nat) : TE := fun σ H Q => wi σ H fun J H1 => ∀ D, H1 D = none → ∃ W : Nat → Nat → Hp → Prop, (∃ m, W 0 m (upd H1 D (.dT []))) ∧ ∀ i m H, W i m H →
  (J.stop i H ∧ Q (.ref D) H) ∨ (J.go i H ∧ ∃ Nx : Hp → Prop, (∀ H', Nx H' → ∃ m', m' < m ∧ W (i + 1) m' H') ∧ ∀ x H', J.yld i H x H' → g x (wipe σ vs) H' fun σ2 H2 => wipe σ2 vs = wipe σ vs ∧ tt σ2 H2 fun b H3 =>
    if b = true then tk σ2 H3 fun y H4 => tv σ2 H4 fun z H5 => ∃ kvs k q, y = .ref q ∧ H5 q = some (.tup (k.map kV)) ∧ H5 D = some (.dT kvs) ∧ kvs.length < sizeLine ∧ Nx (upd H5 D (.dT (putK kvs k z))) else Nx H3)
theorem pe_dcT {kx vx tg iter : Expr} {ifs : List Expr} {scope : Scope} {own : List (Str × Nat)} {pos : Pos} {wi : TI} {g : TG} {tt : TT} {tk tv : TE} (room : (tupleKind (mixKind X.prog X.w)).room X.A) (hc : X.calm = true) (hN : X.N.Nodup) (hi : PI X tg iter wi) (ok : BlkOk X.N X.env.scope scope own)
    (hg : ∀ (s : Shared) (H : Hp) (C : Addr) (cl : List (Str × Addr)) (fp : List Addr), PG (X.blk s H scope (compEnvC scope cl C X.env) fp) tg g) (ht : ∀ (s : Shared) (H : Hp) (C : Addr) (cl : List (Str × Addr)) (fp : List Addr), PTs (X.blk s H scope (compEnvC scope cl C X.env) fp) ifs tt)
    (hk : ∀ (s : Shared) (H : Hp) (C : Addr) (cl : List (Str × Addr)) (fp : List Addr), PE (X.blk s H scope (compEnvC scope cl C X.env) fp) kx tk) (he : ∀ (s : Shared) (H : Hp) (C : Addr) (cl : List (Str × Addr)) (fp : List Addr), PE (X.blk s H scope (compEnvC scope cl C X.env) fp) vx tv)
    (hs : ∀ x, foldedSetIterable iter X.env x = pure x := by intro _; rfl) : PE X (.DictComp kx vx [⟨tg, iter, ifs, 0⟩] scope pos) (tDcT wi g tt tk tv (own.map (·.2))) := by
  refine ⟨fun pins s σ H Q I h => ?_⟩
  rw [arm_eval_DictComp]
  have free : ∀ y ∈ scope.names, y.2 = .free → ∃ c, X.env.cells.lookup y.1 = some c := fun y hy e => I.ok.has _ (ok.free y hy e)
  refine wpAny_comprehension_free rfl hs (closure_ok free) ok.kind (fun y hy e => by rw [ok.uniq y hy, e]) (thn (hi.run pins s σ H _ I h) fun xv s1 hx => thn hx fun itv s2 ⟨it, fp, tn, J, H2, e, I2, T, st2, f2, q⟩ => ?_)
  subst e
  refine wpAny_newObj_type (newEnv_comp ?_)
  have nD : H2 s2.heap.objs.size = none := I2.hok.fresh (Nat.le_refl _)
  obtain ⟨W, ⟨m0, w0⟩, turn⟩ := q _ nD
  -- the empty dict
  have I3 := I2.laid (t' := s2.toks) (fun b o e => Heap.get?_push_of_some { cls := .type "dict", data := .dict #[] } e) (Nat.le_refl _) (dt_empty (P := X.prog) (w := X.w) (H := upd H2 s2.heap.objs.size (.dT [])) s2.heap I2.big)
  have st3 := T.keep 0 _ _ st2 fun b _ o e => Heap.get?_push_of_some { cls := .type "dict", data := .dict #[] } e
  have f3 : ∀ b ∈ fp, FpOk X pins (upd H2 s2.heap.objs.size (.dT [])) b ∧ b < (s2.heap.push { cls := .type "dict", data := .dict #[] }).objs.size := fun b hb => by
    obtain ⟨o, e, _⟩ := T.obj _ _ st2 b hb
    have lt := Heap.lt_size e
    exact ⟨⟨by rw [upd_ne (Nat.ne_of_lt lt)]; exact (f2 b hb).1, (f2 b hb).2⟩, by rw [Heap.size_push]; exact Nat.lt_succ_of_lt lt⟩
  generalize hD : s2.heap.objs.size = D at nD w0 turn I3 f3 ⊢
  generalize hh3 : s2.heap.push { cls := .type "dict", data := .dict #[] } = h3 at I3 st3 f3 ⊢
  generalize hs3 : ({ s2 with heap := h3 } : Shared) = s3 at I3
  have e3 : h3 = s3.heap := by rw [← hs3]
  generalize hH3 : upd H2 D (.dT []) = H3 at I3 f3 w0
  rw [e3] at st3 f3
  have I4 := block_start I3 ok hN f3
  have pg := hg s3 H3 s3.heap.objs.size (cellsFrom (s3.heap.objs.size + 1) scope.names (cloFrom X.env.cells scope.names [])) fp
  have pt := ht s3 H3 s3.heap.objs.size (cellsFrom (s3.heap.objs.size + 1) scope.names (cloFrom X.env.cells scope.names [])) fp
  have pk := hk s3 H3 s3.heap.objs.size (cellsFrom (s3.heap.objs.size + 1) scope.names (cloFrom X.env.cells scope.names [])) fp
  have pe := he s3 H3 s3.heap.objs.size (cellsFrom (s3.heap.objs.size + 1) scope.names (cloFrom X.env.cells scope.names [])) fp
  have nfp : ∀ b ∈ fp, H3 b = none := fun b hb => (f3 b hb).1.1
  show codeAny _ _ (.compStart _ 0 (.ref it) (.ref D) (compEnvC scope (cellsFrom (s3.heap.objs.size + 1) scope.names (cloFrom X.env.cells scope.names [])) s3.heap.objs.size X.env)) (compPost (model X.prog X.w) X.A X.xe none (EP X pins σ Q) (.ref D) s3.heap.objs.size) { s3 with heap := pushCells (s3.heap.push { cls := .type "dict", data := .dict #[] }) scope.names }
  have locEq : (compEnvC scope (cellsFrom (s3.heap.objs.size + 1) scope.names (cloFrom X.env.cells scope.names [])) s3.heap.objs.size X.env).locals = s3.heap.objs.size := rfl
  have st4 : tn 0 (pushCells (s3.heap.push { cls := .type "dict", data := .dict #[] }) scope.names) := T.keep 0 _ _ st3 fun b _ o e => pushCells_keeps _ _ _ _ (Heap.get?_push_of_some _ e)
  generalize compEnvC scope (cellsFrom (s3.heap.objs.size + 1) scope.names (cloFrom X.env.cells scope.names [])) s3.heap.objs.size X.env = ce at I4 pg pt pk pe locEq ⊢
  generalize hs4 : ({ s3 with heap := pushCells (s3.heap.push { cls := .type "dict", data := .dict #[] }) scope.names } : Shared) = s4 at I4 ⊢
  replace st4 : tn 0 s4.heap := by rw [← hs4]; exact st4
  -- what holds before each turn
  let Tn : Nat → Shared → Prop := fun n s' => ∃ i H', Inv (X.blk s3 H3 scope ce fp) [] (wipe σ (own.map (·.2))) H' s' ∧ tn i s'.heap ∧ (∀ b ∈ fp, H' b = none) ∧ W i n H'
  have stands : ∀ {σ' : L2.St} {H' : Hp} {s' : Shared}, Inv (X.blk s3 H3 scope ce fp) [] σ' H' s' → (∀ b ∈ fp, H' b = none) → ∀ b ∈ fp, FpOk (X.blk s3 H3 scope ce fp) [] H' b := fun {σ' H' s'} I' hn b hb =>
    ⟨hn b hb, (I'.ok.exf b hb).1, I'.ok.exfs b hb, .inl hb, fun x c e => (I'.ok.exf b hb).2 x c e, fun p hp => nomatch (show p ∈ ([] : List (Addr × Obj)) from hp)⟩
  have loop : codeAny (model X.prog X.w) X.A (.compLoop (.DictComp kx vx [⟨tg, iter, ifs, 0⟩] scope pos) 0 (.ref it) (.ref D) ce) (compPost (model X.prog X.w) X.A X.xe none (EP X pins σ Q) (.ref D) s3.heap.objs.size) s4 := by
    refine compLoop_anyD Tn (fun n s5 ⟨i, H5, I5, st5, n5, w5⟩ => ?_) m0 ⟨0, H3, I4, st4, nfp, w0⟩
    rcases turn i n H5 w5 with ⟨stop, fin⟩ | ⟨go, Nx, hNx, step⟩
    · refine thnF (T.done (X.blk s3 H3 scope ce fp) rfl rfl rfl hc i [] s5 _ H5 (fun _ _ => False) I5 (stands I5 n5) st5 stop) fun r s6 ⟨hr, I6⟩ => ?_
      subst hr
      have I7 : Inv X pins σ H5 s6 := I3.call' (ch := fp) I6.os I6.base I6.hok I6.bare fun b hb => let ⟨⟨_, g1, _, g3, g4, g5⟩, _⟩ := f3 b hb; ⟨g3, g1, g4, g5⟩
      have nC : H5 s3.heap.objs.size = none := locEq ▸ I6.free
      obtain ⟨m, hn, _⟩ := I6.loc
      refine ⟨m, locEq ▸ hn, fun h'' sb => ?_⟩
      obtain ⟨z0, z1, _, z3, z4, z5⟩ := I3.fpOk (Nat.le_refl _) nC
      exact ⟨.ref D, H5, I7.turned (t' := s6.toks) (fun b o hb e => (sb.2 b hb).trans e) z0 z1 z3 z4 z5, rfl, fin⟩
    · refine thnF (T.item (X.blk s3 H3 scope ce fp) rfl rfl rfl hc i [] s5 _ H5 (fun _ _ => False) I5 (stands I5 n5) st5 go) fun r s6 ⟨u, hr, h6⟩ => ?_
      subst hr
      refine thnF h6 fun _ s7 ⟨x, H7, I7, r7, y7, st7, n7⟩ => ?_
      refine thnF (pg.run _ s7 _ H7 x u _ (I7.pinned (stands I7 n7) (T.obj _ _ st7)) r7 (step x H7 y7)) fun _ s8 ⟨σ8, H8, I8, hw, q8⟩ => ?_
      refine thnF (pt.run _ s8 σ8 H8 _ I8 q8) fun b s9 ⟨H9, I9, q9⟩ => ?_
      have next : ∀ {s' : Shared} {H' : Hp}, Inv (X.blk s3 H3 scope ce fp) ([] ++ pinsAt fp s7.heap) σ8 H' s' → Nx H' → ∃ m, m < n ∧ Tn m s' := fun {s' H'} I' nx => by
        obtain ⟨m', lt, w'⟩ := hNx H' nx
        have held : ∀ b ∈ fp, ∀ o, s7.heap.get? b = some o → s'.heap.get? b = some o ∧ H' b = none := fun b hb o e =>
          let z := I'.pin (b, o) (List.mem_append_right _ (List.mem_append_right _ (mem_pinsAt hb e)))
          ⟨z.1, z.2.1⟩
        refine ⟨m', lt, i + 1, H', (I'.unpinned (pins := [])).weak (by rw [← hw, wipe_length]) (fun j v e => (wipe_some (hw ▸ e)).1), T.keep _ _ _ st7 fun b hb o e => (held b hb o e).1, fun b hb => ?_, w'⟩
        obtain ⟨o, e, _⟩ := T.obj _ _ st7 b hb
        exact (held b hb o e).2
      cases b with
      | false => exact next I9 q9
      | true =>
        refine thnF (pk.run _ s9 σ8 H9 _ I9 q9) fun z s10 ⟨yk, H10, I10, r10, q10⟩ => thnF (pe.run _ s10 σ8 H10 _ I10 q10) fun z2 s11 ⟨yv, H11, I11, r11, kvs, k, b, ek, hb, hD11, len, nx⟩ => ?_
        subst ek
        cases r10
        exact t_dictSet (X := X.blk s3 H3 scope ce fp) room I11 hD11 len hb r11 fun s12 I12 => next I12 nx
  exact codeAny_compStart_dict loop (T.self X.A 0 _ _ _ st4 loop)
end
end VX
set_option maxRecDepth 100000
set_option maxHeartbeats 4000000
/-! Errors with two attributes. -/
namespace VX
open PySem PySem.Spec PyProof.Rows L2
/-- def __init__(self, x, y): self.x = x; self.y = y (the dict as it stands in the end: fs) -/
def spX2 (K : PySem.W.Frag) (n m : Str) : Sp := fun vs H Q _ => ∃ a C v u, vs = [.ref a, v, u] ∧ OexC K C ∧ PySem.W.findIn K (.ref C) n = some none ∧ PySem.W.findIn K (.ref C) m = some none ∧ H a = some (exo a C none) ∧
  ∀ dx fs, H dx = none → dx ≠ a → fs.lookup n = some v → fs.lookup m = some u → Q .non (upd (upd H dx (exd dx fs)) a (exo a C (some dx)))
section
variable {X : Cx} {CX : CXT} {k : Nat} {f C : Addr} {fd : FuncData} {ps : List Str} {e : Expr} {es : List Expr} {ta : TA} {x n m : Str} {p pos : Pos}
/-- C(v, u), two fields -/
def tMk2 (C : Addr) (n m : Str) (ta : TA) : L2.St → Hp → XK → Prop := fun σ H Q => ta σ H fun vs H1 => ∃ v u, vs = [v, u] ∧ ∀ d H' fs, H1 d = none → Same H1 H' → fs.lookup n = some v → fs.lookup m = some u → H' d = some (.xd fs) → Q (.ref C) (some d) H'
theorem pmk2 (T : OexC X.K C) (iC : PySem.W.findIn X.K (.ref C) "__init__" = some (some (.ref f))) (tI : PySem.W.typeIn X.K (.ref f) = some (.type "function")) (hn : PySem.W.findIn X.K (.ref C) n = some none) (hm' : PySem.W.findIn X.K (.ref C) m = some none)
    (F : FnOk X.prog X.w X.K X.mg X.base CX0 k f fd ps (spX2 X.K n m)) (hr : Room (k + 1) X.A) (hb : Binds X.K fd ps []) (hg : Gl X x) (hm : X.mg x = some (.ref C)) (ha : PA X (e :: es) ta)
    (hdb : (x == ("__debug__" : Str)) = false := by decide) (he : starEach (e :: es) X.env = (false, eval e X.env) :: starEach es X.env := by rfl) (hpl : (backTo pos (starEach es X.env)).any (·.1) = false := by rfl) :
    PMk X (.Call (.Name x p) (e :: es) [] pos) (tMk2 C n m ta) := by
  intro pins s σ H Q I h
  refine pmk_oex T iC tI F hr hb .nil pass0 hg hm (pa_up ha) hdb he hpl pins s σ H Q I ⟨_, h, ?_⟩
  rintro vs H1 ⟨v, u, rfl, q⟩
  refine ⟨by show 2 ≤ 1000; decide, fun a na => ⟨a, C, v, u, rfl, T, hn, hm', upd_same, fun dx fs nd ne l1 l2 => ⟨rfl, dx, fs, upd_same, ?_, ?_, ?_⟩⟩⟩
  · rw [upd_ne ne, upd_same]
  · rw [upd_ne ne] at nd
    exact nd
  · rw [upd_ne ne] at nd
    refine q dx _ fs nd (fun b o hb => ?_) l1 l2 upd_same
    have b1 : b ≠ dx := ne_of_none hb nd
    have b2 : b ≠ a := ne_of_none hb na
    rw [upd_ne b1, del_ne b2, upd_ne b2, upd_ne b1, upd_ne b2]
    exact hb
theorem i_mk2 {σ : L2.St} {H : Hp} {Q : XK} (q : ta σ H fun vs H1 => ∃ v u, vs = [v, u] ∧ ∀ d H' fs, H1 d = none → Same H1 H' → fs.lookup n = some v → fs.lookup m = some u → H' d = some (.xd fs) → Q (.ref C) (some d) H') : tMk2 C n m ta σ H Q := q
end
end VX
set_option maxRecDepth 100000
set_option maxHeartbeats 4000000
/-! Several clauses 'except C as n', one name n for all of them. -/
namespace VX
open PySem PySem.Spec PyProof.Rows L2
abbrev Sui := Addr → Value → Option Addr → TS
/-- the ends behind a suite: n is gone -/
def gone (i : Nat) (D : Ends) : Ends := { nx := fun σ' H' => D.nx (σ'.set i none) H', rt := D.rt, bk := fun σ' H' => D.bk (σ'.set i none) H', ct := fun σ' H' => D.ct (σ'.set i none) H' }
def wAs2 (K : PySem.W.Frag) (i : Nat) (Wout : WX) (D : Ends) : List (Value × Sui) → WX
  | [] => Wout
  | (c, ts) :: r => fun cls d σ H => ∃ b, PySem.W.exmOne K cls c = some b ∧ (b = true → ∀ a, H a = none → ts a cls d (gone i D) (σ.set i (some (.ref a))) H) ∧ (b = false → wAs2 K i Wout D r cls d σ H)
inductive HdsAs (X : Cx) (n : Str) : List ExceptHandler → List (Value × Sui) → Prop
  | nil : HdsAs X n [] []
  | cons {x : Str} {c : Value} {ts : Sui} {b₀ : Stmt} {suite : List Stmt} {np pos' : Pos} {hds : List ExceptHandler} {l : List (Value × Sui)} (hc : Names X x c)
      (hsu : ∀ (a : Addr) (oe : Obj) (cls : Value) (d : Option Addr) (pn : List (Addr × Obj)), Zc cls d oe → (∃ vs, oe.data = .fields vs) → PSs (X.suite a ((a, oe) :: pn)) (b₀ :: suite) (ts a cls d)) (r : HdsAs X n hds l) :
      HdsAs X n (.ExceptHandler (some (.Name x np)) (some n) (b₀ :: suite) pos' :: hds) ((c, ts) :: l)
section
variable {X : Cx} {body : List Stmt} {h₀ : ExceptHandler} {hds : List ExceptHandler} {l : List (Value × Sui)} {pos : Pos} {tb : WX → TS} {Wout : WX} {n : Str} {i : Nat}
theorem ps_try_as2 (hs : X.stack = X.env :: X.outer) (hf : X.env.frame = some X.env.locals) (hN : X.N.Nodup) (hi : X.N[i]? = some n) (hln : X.env.kindOf n = some .local) (tk : Takes X Wout)
    (hb : ∀ (W : WX) (pn : List (Addr × Obj)) (xe : Value → Shared → Prop), Takes (X.tr pn xe) W → PassesOwn (model X.prog X.w) X.A X.env xe → PSs (X.tr pn xe) body (tb W))
    (hh : HdsAs X n (h₀ :: hds) l) : PS X (.Try body (h₀ :: hds) [] [] pos) (fun D σ H => tb (wAs2 X.K i Wout D l) D σ H) := by
  refine ⟨fun pins s σ H D I h => wpAny_Try_except ?_⟩
  have ok := I.ok
  let caught : Value → Shared → Prop := fun e s₁ => wpAny (model X.prog X.w) X.A (noteFrame e X.env) (fun _ s₂ => wpAny (model X.prog X.w) X.A (setFlight e none) (fun _ s₃ => wpAny (model X.prog X.w) X.A (handleBy e X.env (h₀ :: hds)) (SP X pins D) X.xe s₃) X.xe s₂) X.xe s₁
  refine wpAny_mono ((hb (wAs2 X.K i Wout D l) (X.pn ++ pins) caught (fun u s' xx => ?_) PassesOwn.looking).run [] s σ H D (I.toTry _) h) (fun f s1 hsp => ?_) (fun e s1 he => he)
  · obtain ⟨a, B, sI, pins', σ', H', cls, d, rfl, J', nb, up, sky, na, os, ag, w⟩ := xx
    have J := J'.ofTry ok
    rw [show (X.tr (X.pn ++ pins) caught).stack = X.env :: X.outer from hs] at sky
    refine Sky.land Zc.steady (by rw [ok.frames, hs]) hf sky fun h3 fl3 up3 => ?_
    have J3 : Inv X pins σ' H' { s' with heap := h3 } := J.landed nb fl3.1 (up.trans up3) os ag
    obtain ⟨oe, vs, e3, z3, d3⟩ := fl3.there
    have out : a ∉ frs (X.env :: X.outer) := fun hm => by
      obtain ⟨_, o', e', no⟩ := fl3.2.2.1.mem hm
      rw [e3] at e'
      cases e'
      exact no _ d3
    have nL : a ≠ X.env.locals := fun z => out (List.mem_filterMap.mpr ⟨X.env, List.mem_cons_self, by rw [hf, z]⟩)
    have nF : a ∉ X.fs := fun hm => let ⟨e, he, q⟩ := List.mem_filterMap.mp hm; out (List.mem_filterMap.mpr ⟨e, List.mem_cons_of_mem _ he, q⟩)
    have S3 := J3.suite e3 d3 na nL nF
    -- clause by clause
    suffices go : ∀ {hds' : List ExceptHandler} {l' : List (Value × Sui)}, HdsAs X n hds' l' → wAs2 X.K i Wout D l' cls d σ' H' → wpAny (model X.prog X.w) X.A (handleBy (.ref a) X.env hds') (SP X pins D) X.xe { s' with heap := h3 } from go hh w
    intro hds' l' hk
    induction hk with
    | nil =>
      intro w
      refine wpAny_handleBy_nil ?_
      obtain ⟨_, _, _, oe', vs', T, oT, ts', g1, _, g2, g3, _⟩ := id fl3
      unfold PySem.passOn
      refine wpAny_bind (wpAny_field g1 g2 g3 ?_)
      rw [if_neg (show ¬ ((Value.ref T == Value.none) = true) from by simp)]
      have fin : wpAny (model X.prog X.w) X.A (setFlight (.ref a) X.env.frame) (fun _ s4 => wpAny (model X.prog X.w) X.A (throw (.ref a) : Sem Flow) (SP X pins D) X.xe s4) X.xe { s' with heap := h3 } := by
        rw [hf]
        exact HandSPX.setFlight_upZ fl3 fun h4 hh4 up4 => wpAny_throw (tk _ _ ⟨a, B, sI, pins, σ', H', cls, d, rfl, J, nb, (up.trans up3).trans up4, .inr (.inr (by rw [hs]; exact hh4)), na, os, ag, w⟩)
      first
        | exact wpAny_bind (wpAny_pure (wpAny_bind fin))
        | exact wpAny_bind fin
    | @cons x c ts b₀ suite np pos' hds2 l2 hc hsu r ih =>
      rintro ⟨b, isB, yes, no⟩
      refine wpAny_handleBy_cons (codeAny_handlers_test ?_) (by intro q; cases q)
      have ty : PySem.W.Looks (model X.prog X.w) h3 (typeOf (.ref a)) cls := fun A Q E s k q => wpAny_typeOf_ref (k _ _ e3) (by rw [z3.1]; exact q)
      have named : ∀ {Q : Value → Shared → Prop} {E : Value → Shared → Prop}, Q c { s' with heap := h3 } → wpAny (model X.prog X.w) (X.A.mark (some (.ref a))) (eval (.Name x np) X.env) Q E { s' with heap := h3 } := fun {Q E} q => by
        obtain ⟨hg, hdbg, hm | ⟨hm, hv, hnn⟩⟩ := hc
        · exact ld_glob (X := X.suite a ((a, oe) :: (X.pn ++ pins))) S3 hg hm q hdbg
        · exact ld_blt (X := X.suite a ((a, oe) :: (X.pn ++ pins))) S3 hg hm hv q hnn hdbg
      refine named ((PySem.W.exm_one (M := model X.prog X.w) J3.kIn ty isB).here ?_)
      cases b with
      | false => exact ih (no rfl)
      | true =>
        refine codeAny_handlers_suite_as (HandSPX.lands_againZ fl3 fun h4 fl4 up4 => ?_)
        have J4 : Inv X pins σ' H' { s' with heap := h4 } := J.landed nb fl4.1 ((up.trans up3).trans up4) os ag
        obtain ⟨oe4, vs4, e4, z4, d4⟩ := fl4.there
        refine store_ok (X := X.suite a ((a, oe4) :: (X.pn ++ pins))) (v := .ref a) (J4.suite e4 d4 na nL nF) hN hi (.inl hln) rfl (fun s5 S5 => ?_) (.inr hln)
        refine wpAny_mono ((hsu a oe4 cls d (X.pn ++ pins) z4 ⟨_, d4⟩).run [] s5 _ H' _ S5 (yes rfl a na)) (fun f s6 hsp => ?_) (fun _ _ z => False.elim z)
        have off : ∀ {σ6 : L2.St} {H6 : Hp} {Q : Shared → Prop}, Inv (X.suite a ((a, oe4) :: (X.pn ++ pins))) [] σ6 H6 s6 → (∀ s7, Inv X pins (σ6.set i none) H6 s7 → Q s7) →
            wpAny (model X.prog X.w) X.A (do bindName X.env n .none; unbindBehindTheSuite X.env n pos') (fun _ s7 => Q s7) X.xe s6 := fun {σ6 H6 Q} S6 hq => gone_ok (S6.unsuite ok) hN hi hln hq
        cases f with
        | ret u =>
          obtain ⟨v6, σ6, H6, S6, r6, q6⟩ := hsp
          exact off S6 fun s7 J7 => ⟨_, _, _, J7, r6, q6⟩
        | next => exact let ⟨_, _, S6, q6⟩ := hsp; off S6 fun s7 J7 => ⟨_, _, J7, q6⟩
        | brk => exact let ⟨_, _, S6, q6⟩ := hsp; off S6 fun s7 J7 => ⟨_, _, J7, q6⟩
        | cont => exact let ⟨_, _, S6, q6⟩ := hsp; off S6 fun s7 J7 => ⟨_, _, J7, q6⟩
  · cases f with
    | next => exact let ⟨σ', H', J', q⟩ := hsp; wpAny_execs_nil ⟨σ', H', J'.ofTry ok, q⟩
    | brk => exact let ⟨σ', H', J', q⟩ := hsp; ⟨σ', H', J'.ofTry ok, q⟩
    | cont => exact let ⟨σ', H', J', q⟩ := hsp; ⟨σ', H', J'.ofTry ok, q⟩
    | ret u => exact let ⟨v, σ', H', J', r, q⟩ := hsp; ⟨v, σ', H', J'.ofTry ok, r, q⟩
end
end VX
set_option maxRecDepth 100000
set_option maxHeartbeats 4000000
/-! repr of data. -/
namespace VX
open PySem PySem.Spec PyProof.Rows L2
section
variable {X : Cx}
def rRepD (K : PySem.W.Frag) : List V → Hp → VK → Prop := fun xs H Q => ∃ (a : Addr) (d : PyData), xs = [.ref a] ∧ Dp K H (.ref a) d ∧ d.showable = true ∧ d.hasDict = false ∧ d.depth ≤ 60 ∧ d.shown.length ≤ sizeLine ∧ Q (.str d.shown) H
theorem call_reprD (hg : X.A.guards = some []) (hu : X.A.units + 61 < cLine) : CallR X (.builtin "repr") (rRepD X.K) := by
  intro pins s σ H xs us Q I r h
  obtain ⟨a, d, rfl, hd, h1, h2, h3, h4, q⟩ := h
  rw [Vals.ref1 r]
  obtain ⟨as, hr⟩ := Dp.reads I d _ _ hd rfl
  refine repr_of_reads' hr h1 (PyData.noDict_hsm h2) hg (by omega) (fun b o e => e) (fun h' u tk hk => ?_) h4
  exact ⟨.str d.shown, H, I.kept (t' := tk) hk, ⟨u, rfl⟩, q⟩
end
end VX
set_option maxRecDepth 100000
set_option maxHeartbeats 4000000
/-! A def's promise that knows where it is called from and how large the heap is; the law's end for it. -/
namespace VX
open PySem PySem.Spec PyProof.Rows L2
structure FnA (P : Program) (w : World) (K : PySem.W.Frag) (mg : Str → Option Value) (base : Heap) (CX : CXT) (k : Nat) (f : Addr) (fd : FuncData) (ps : List Str) (sp : Around → Nat → Sp) : Prop where
  len : ∀ A n vs H Q E, sp A n vs H Q E → vs.length = ps.length
  run : ∀ (A : Around) (outer : List Env) (s : Shared) (H : Hp) (args : Args) (us : List Value) (vs : List V) (Q : VK) (E : XK), Room k A → Env0 P w K mg base A outer s H → BindsTo s fd args (ps.zip us) → Vals vs us → sp A s.heap.objs.size vs H Q E →
    codeAny (model P w) A (.call (.ref f) args) (CR CX outer P w H s Q E) s
theorem fn_ofA {CX : CXT} {P : Program} {w : World} {K : PySem.W.Frag} {mg : Str → Option Value} {base : Heap} {k : Nat} {f : Addr} {name qual : Str} {params : Arguments} {body : List Stmt} {scope : Scope} {dV kV doc pm cdv ct oc : Value} {an od : Option Addr}
    {osl : Array (Option Value)} {N ps : List Str} {sp : Around → Nat → Sp} (lk : K.lookup f = some ⟨oc, od, .func (PySem.W.fnOf name qual params body scope dV kV doc pm an cdv ct), osl⟩) (hcd : PySem.W.codeIn K cdv qual = true) (S : FnScope N ps scope)
    (len : ∀ A n vs H Q E, sp A n vs H Q E → vs.length = ps.length)
    (hbody : ∀ (A : Around) (outer : List Env) (s : Shared) (H : Hp) (vs : List V) (Q : VK) (E : XK), Room k (A.deeper (envOfC qual scope s.heap.objs.size f cdv)) → sp A s.heap.objs.size vs H Q E →
      ∃ t, PSs (cxOf CX P w K mg base N qual scope f cdv A outer s H E) body t ∧ t { nx := fun _ H' => Q .non H', rt := Q } (L2.start N vs) H) :
    FnA P w K mg base CX (k + 1) f (PySem.W.fnOf name qual params body scope dV kV doc pm an cdv ct) ps sp := by
  refine ⟨len, fun A outer s H args us vs Q E hr e0 hb r hsp => ?_⟩
  have hl := len _ _ _ _ _ _ hsp
  have KX : K.In s.heap := e0.mod.kin.keeps fun b o e => (e0.bs b o e).1
  have lim : s.heap.NoLimit := e0.mod.nolimit.keeps fun b o e => (e0.bs b o e).1
  have hkind : ∀ y ∈ ps.zip us, scope.names.lookup y.1 = some .local ∨ (scope.names.lookup y.1 = some .cell ∧ ((cellsFrom (s.heap.objs.size + 1) scope.names []).lookup y.1).isSome = true) := fun ⟨n, v⟩ hy => by
    rcases S.par n (List.of_mem_zip hy).1 with q | q
    · exact .inl q
    · exact .inr ⟨q, PySem.W.cellsFrom_some _ _ _ (.inl q)⟩
  refine codeAny_call_function hr.depth (KX _ _ lk) rfl S.co S.gen rfl (PySem.W.codeRec_of KX hcd) (hb _ _ _ _ ?_)
  refine wpAny_newFunctionEnv_cells S.kind hkind fun env he s1 x => ?_
  subst he
  refine ⟨lim.keeps x.toInCall.keep, codeAny_func ?_⟩
  obtain ⟨t, ht, hq⟩ := hbody A outer s H vs Q E (hr.deeper _) hsp
  have I : Inv (cxOf CX P w K mg base N qual scope f cdv A outer s H E) [] (L2.start N vs) H s1 := inv_start S hr.hd e0 hl r x
  refine wpAny_mono (ht.run [] s1 (L2.start N vs) H _ I hq) (fun fl s' hs => ?_) fun e s' hs => hs
  have fin : ∀ {σ' : L2.St} {H' : Hp} {v : V} {u : Value}, Inv (cxOf CX P w K mg base N qual scope f cdv A outer s H E) [] σ' H' s' → RelV v u → Q v H' → CE outer P w H s Q u s' :=
    fun {σ' H' v u} J rv q => ⟨v, H', J.os, J.bare, J.base, J.hok, rv, q⟩
  cases fl with
  | ret u =>
    obtain ⟨v, σ', H', J, rv, q⟩ := hs
    exact fin J rv q
  | next =>
    obtain ⟨σ', H', J, q⟩ := hs
    exact fin (v := V.non) (u := Value.none) J rfl q
  | brk =>
    obtain ⟨_, _, _, q⟩ := hs
    exact False.elim q
  | cont =>
    obtain ⟨_, _, _, q⟩ := hs
    exact False.elim q
theorem okA {P : Program} {w : World} {K : PySem.W.Frag} {mg : Str → Option Value} {base : Heap} {x qual : Str} {st : Stmt} {f : Addr} {fd : FuncData} {N ps : List Str} {k : Nat} {sp : Around → Nat → Sp} (F : Fun K x qual st f fd) (S : FnScope N ps (defScope st)) (len : ∀ A n vs H Q E, sp A n vs H Q E → vs.length = ps.length)
    (hbody : ∀ (cdv : Value) (A : Around) (outer : List Env) (s : Shared) (H : Hp) (vs : List V) (Q : VK) (E : XK), Room k (A.deeper (envOfC qual (defScope st) s.heap.objs.size f cdv)) → sp A s.heap.objs.size vs H Q E →
      ∃ t, PSs (cxOf CX0 P w K mg base N qual (defScope st) f cdv A outer s H E).nox (defBody st) t ∧ t { nx := fun _ H' => Q .non H', rt := Q } (L2.start N vs) H) : FnA P w K mg base CX0 (k + 1) f fd ps sp := by
  obtain ⟨oc, od, kV, doc, pm, an, cdv, ct, osl, rfl, lk, hcd⟩ := F.ex
  refine fn_ofA lk hcd S len fun A outer s H vs Q E hr hsp => ?_
  obtain ⟨t, h, q⟩ := hbody cdv A outer s H vs Q E hr hsp
  exact ⟨t, h.nox, q⟩

theorem deeper_guards {A : Around} {env : Env} (h : A.guards = some []) : (A.deeper env).guards = some [] := h
/-- the law's own def, called from the top: nothing but the script stands in the tracked heap -/
theorem law_callA {P : Program} {w : World} {K : PySem.W.Frag} {mg mb : Str → Option Value} {k : Nat} {fa a : Addr} {fd : FuncData} {x : Str} {sp : Around → Nat → Sp} {s₁ : Shared} {vs : List Value} {ns : List Int}
    (KX : K.In s₁.heap) (hns : s₁.heap.Ns mainGlobals mg) (hb : s₁.heap.Ns builtinsNs mb) (hbb : ∀ x : Str, x ≠ "__name__" → mb x = bootBuiltins x) (hlim : s₁.heap.NoLimit) (hg : s₁.gens = #[])
    (ha : s₁.heap.get? a = some { cls := .type "list", data := .seq vs.toArray }) (hi : IntsAre vs ns) (hl : ns.length ≤ sizeLine) (hr : Room k callerA)
    (F : ∀ base : Heap, K.In base → base.Ns mainGlobals mg → FnA P w K mg base CX0 k fa fd [x] sp) (hbind : ∀ (s : Shared) (u : Value), BindsTo s fd ⟨[u], []⟩ [(x, u)])
    (hsp : ∀ H : Hp, Only H → SqL K H a (ns.map V.int) → sp callerA s₁.heap.objs.size [.ref a] H (fun v _ => v = .bl true) fun _ _ _ => False) :
    codeAny (model P w) callerA (.call (.ref fa) ⟨[.ref a], []⟩) (fun r s' => r = .ok (.ret (.bool true)) ∧ OldK s₁.heap s'.heap ∧ s'.os = s₁.os ∧ AllBare s'.gens) s₁ := by
  have rv := vals_ints hi
  have lenV := hi.length
  -- over any tracked heap that holds the script and nothing else
  suffices core : ∀ H : Hp, Only H → SqL K H a (ns.map V.int) → HOk P w H s₁.heap → (∀ b u, H b = some u → b = a ∧ K.lookup a = none) →
      codeAny (model P w) callerA (.call (.ref fa) ⟨[.ref a], []⟩) (fun r s' => r = .ok (.ret (.bool true)) ∧ OldK s₁.heap s'.heap ∧ s'.os = s₁.os ∧ AllBare s'.gens) s₁ by
    cases hk : K.lookup a with
    | some o =>
      cases ha.symm.trans (KX a o hk)
      exact core (fun _ => none) (fun _ => .inl rfl) (.inr ⟨_, vs.toArray, _, hk, rfl, rfl, rfl, by rw [List.size_toArray, lenV]; exact hl, by simpa using rv⟩) (fun b u z => nomatch z) fun b u z => nomatch z
    | none =>
      let H : Hp := fun b => if b = a then some (.frz { cls := .type "list", data := .seq vs.toArray } (.lst (ns.map V.int))) else none
      have only : ∀ b u, H b = some u → b = a ∧ u = .frz { cls := .type "list", data := .seq vs.toArray } (.lst (ns.map V.int)) := fun b u z => by
        by_cases e : b = a
        · exact ⟨e, (Option.some.inj ((if_pos e).symm.trans z)).symm⟩
        · exact nomatch (if_neg e).symm.trans z
      refine core H (fun b => ?_) (.inl (.inr ⟨_, if_pos rfl⟩)) (fun b u z => ?_) fun b u z => ⟨(only b u z).1, hk⟩
      · cases z : H b with
        | none => exact .inl rfl
        | some u => exact .inr ⟨_, _, by rw [(only b u z).2]⟩
      · obtain ⟨rfl, rfl⟩ := only b u z
        exact ⟨ha, by rw [List.length_map]; exact hl, vs, _, rv, ha⟩
  intro H hO hS hok hA
  have base_of : ∀ {b : Addr} {o : Obj}, s₁.heap.get? b = some o → H b = none → (hidT s₁.heap H).get? b = some o := fun e n => hidT_get e n
  have free : ∀ {b : Addr} {o : Obj}, s₁.heap.get? b = some o → (b = a → o.data ≠ .seq vs.toArray 0 ∨ K.lookup b ≠ none) → H b = none := fun {b o} e d => by
    cases q : H b with
    | none => rfl
    | some u =>
      obtain ⟨rfl, z⟩ := hA b u q
      rcases d rfl with d | d
      · cases ha.symm.trans e
        exact absurd rfl d
      · exact absurd z d
  have nsK : ∀ {b : Addr} {m : Str → Option Value}, s₁.heap.Ns b m → (hidT s₁.heap H).Ns b m := fun {b m} ⟨o, es, ep, e, d, r⟩ => ⟨o, es, ep, base_of e (free e fun _ => .inl fun z => nomatch d.symm.trans z), d, r⟩
  have hKb : K.In (hidT s₁.heap H) := fun b o e => base_of (KX b o e) (free (KX b o e) fun _ => .inr (by rw [e]; exact fun z => nomatch z))
  have hM : Mod K mg (hidT s₁.heap H) := ⟨hKb, nsK hns, ⟨mb, nsK hb, hbb⟩, let ⟨mc, h1, h2⟩ := hlim; ⟨mc, nsK h1, h2⟩⟩
  have e0 : Env0 P w K mg (hidT s₁.heap H) callerA [] s₁ H := ⟨rfl, hM, fun b o e => of_hidT e, Nat.le_of_eq (hidT_size _ _), trivial, fun b hb => (nomatch (show b ∈ ([] : List Addr) from hb)), hok, .of_eq hg⟩
  refine codeAny_mono ((F _ hKb (nsK hns)).run callerA [] s₁ H ⟨[.ref a], []⟩ [.ref a] [.ref a] _ _ hr e0 (hbind s₁ (.ref a)) (.cons rfl .nil) (hsp H hO hS)) fun r s' h => ?_
  cases r with
  | error e => exact False.elim h
  | ok fl =>
    cases fl with
    | next => exact False.elim h
    | brk => exact False.elim h
    | cont => exact False.elim h
    | ret u =>
      obtain ⟨v, H', os, bare, un, hok', r', rfl⟩ := h
      obtain rfl : u = Value.bool true := r'
      refine ⟨rfl, OldK.of_keep fun b o e => ?_, os, bare⟩
      cases q : H b with
      | none => exact un.keep b o e q (fun z => nomatch (show b ∈ ([] : List Addr) from z)) (by simp)
      | some u =>
        rcases hO b with z | ⟨ob, xs, z⟩
        · exact nomatch q.symm.trans z
        · obtain ⟨e1, _⟩ := hok b _ z
          cases e.symm.trans e1
          exact (hok' b _ (un.frzs b _ _ z)).1
/-- the end, for such a promise -/
theorem walk_ofA {l : PySem.W.OpenLaw} {n k : Nat} {q : Program} {loose : List Str} {XP : (Str → Option Value) → Heap → Prop} {YP : World → Heap → Prop} {d : DefRec} {K : Params → PySem.W.Frag} {sp : World → Around → Nat → Sp} {x : Str}
    (hn : l.most = some n) (hn2 : n ≤ sizeLine) (hdf : d.params.defaults = []) (hr : Room k callerA) (hY : ∀ (w : World) (h : Heap), YP w h → (K w.params).In h)
    (F : ∀ (w : World) (mg : Str → Option Value) (fa : Addr) (h : Heap), (K w.params).In h → h.Ns mainGlobals mg → mg d.name = some (.ref fa) →
      ∃ fd : FuncData, (∀ (s : Shared) (u : Value), BindsTo s fd ⟨[u], []⟩ [(x, u)]) ∧ ∀ base : Heap, (K w.params).In base → base.Ns mainGlobals mg → FnA l.prog w (K w.params) mg base CX0 k fa fd [x] (sp w))
    (hsp : ∀ (w : World) (m : Nat) (H : Hp) (a : Addr) (ns : List Int), ns.length ≤ n → Only H → SqL (K w.params) H a (ns.map V.int) → sp w callerA m [.ref a] H (fun v _ => v = .bl true) fun _ _ _ => False) :
    PySem.W.WalkO q loose XP YP l.row.toRowW d [] (fun f vs => PySem.call f vs) := by
  refine Att.attach_call hn hdf fun w s₀ s₁ mg mb fa o pm cd doc a vs ns G Y ho hd hcd hmg hobj hints hlen hg => ?_
  obtain ⟨fd, hb, hF⟩ := F w mg fa _ (hY w _ Y) G.T.g hmg
  exact law_callA (hY w _ Y) G.T.g G.T.b G.T.builtins G.T.nolimit hg hobj hints (Nat.le_trans hlen hn2) hr hF hb fun H hO hS => hsp w _ H a ns hlen hO hS
end VX
set_option maxRecDepth 100000
set_option maxHeartbeats 4000000
/-! Several cells that turn; lists of tuples. -/
namespace VX
open PySem PySem.Spec PyProof.Rows L2
/-- F is what stays; the cells of T turn -/
structure Cxs (F : Hp) (T : List (Addr × HO)) (H : Hp) : Prop where
  e : Same F H
  n : ∀ x ∈ T, F x.1 = none
  h : ∀ x ∈ T, H x.1 = some x.2
  d : (T.map Prod.fst).Nodup
section
variable {F H H' : Hp} {T : List (Addr × HO)} {i : Nat} {a q : Addr} {o u : HO}
theorem Cxs.start (H : Hp) : Cxs H [] H := ⟨Same.refl _, fun _ h => (nomatch h), fun _ h => (nomatch h), List.nodup_nil⟩
theorem Cxs.of1 (c : Ctx F a o H) : Cxs F [(a, o)] H := ⟨c.e, fun x hx => by
    rw [List.mem_singleton] at hx
    subst hx
    exact c.n, fun x hx => by
    rw [List.mem_singleton] at hx
    subst hx
    exact c.h, by simp⟩
theorem Cxs.one (c : Cxs F [(a, o)] H) : Ctx F a o H := ⟨c.e, c.n (a, o) List.mem_cons_self, c.h (a, o) List.mem_cons_self⟩
theorem Cxs.at (c : Cxs F T H) (i : Nat) (hi : T[i]? = some (a, o)) : H a = some o := c.h (a, o) (List.mem_of_getElem? hi)
theorem Cxs.nF (c : Cxs F T H) (i : Nat) (hi : T[i]? = some (a, o)) : F a = none := c.n (a, o) (List.mem_of_getElem? hi)
theorem Cxs.newF (c : Cxs F T H) (hq : H q = none) : F q = none := c.e.free hq
theorem Cxs.ne (c : Cxs F T H) (hq : H q = none) : ∀ x ∈ T, x.1 ≠ q := fun x hx => ne_of_none (c.h x hx) hq
theorem Cxs.turn (c : Cxs F T H) (i : Nat) (hi : T[i]? = some (a, o)) (u : HO) : Cxs F (T.set i (a, u)) (upd H a u) := by
  have hl : i < T.length := (List.getElem?_eq_some_iff.mp hi).1
  have hv : T[i] = (a, o) := (List.getElem?_eq_some_iff.mp hi).2
  have hm : (T.set i (a, u)).map Prod.fst = T.map Prod.fst := by
    rw [List.map_set]
    apply List.ext_getElem?
    intro j
    rw [List.getElem?_set]
    by_cases e : i = j
    · subst e
      rw [if_pos rfl, List.length_map, if_pos hl, List.getElem?_map, hi]
      rfl
    · rw [if_neg e]
  have hF := c.nF i hi
  refine ⟨fun b x hb => ?_, fun x hx => ?_, fun x hx => ?_, by rw [hm]; exact c.d⟩
  · rw [upd_ne (ne_of_none hb hF)]
    exact c.e b x hb
  · rcases List.mem_or_eq_of_mem_set hx with h | rfl
    · exact c.n x h
    · exact hF
  · rcases List.mem_iff_getElem?.mp hx with ⟨j, hj⟩
    rw [List.getElem?_set] at hj
    by_cases e : i = j
    · rw [if_pos e, if_pos hl] at hj
      cases hj
      exact upd_same
    · rw [if_neg e] at hj
      have hx' : x ∈ T := List.mem_of_getElem? hj
      have nd : x.1 ≠ a := fun z => e (by
        have h1 : (T.map Prod.fst)[j]? = some x.1 := by rw [List.getElem?_map, hj]; rfl
        have h2 : (T.map Prod.fst)[i]? = some a := by rw [List.getElem?_map, hi]; rfl
        rw [z] at h1
        have l2 : i < (T.map Prod.fst).length := (List.getElem?_eq_some_iff.mp h2).1
        exact (List.getElem?_inj l2 c.d).mp (h2.trans h1.symm))
      rw [upd_ne nd]
      exact c.h x hx'
theorem Cxs.push (c : Cxs F T H) (u : HO) (hq : H q = none) : Cxs F ((q, u) :: T) (upd H q u) := by
  refine ⟨fun b x hb => ?_, fun x hx => ?_, fun x hx => ?_, ?_⟩
  · rw [upd_ne (ne_of_none hb (c.newF hq))]
    exact c.e b x hb
  · rcases List.mem_cons.mp hx with rfl | hx
    · exact c.newF hq
    · exact c.n x hx
  · rcases List.mem_cons.mp hx with rfl | hx
    · exact upd_same
    · rw [upd_ne (c.ne hq x hx)]
      exact c.h x hx
  · rw [List.map_cons, List.nodup_cons]
    refine ⟨fun hm => ?_, c.d⟩
    obtain ⟨x, hx, e⟩ := List.mem_map.mp hm
    exact c.ne hq x hx e
theorem Cxs.new (c : Cxs F T H) (u : HO) (hq : H q = none) : Cxs (upd F q u) T (upd H q u) := by
  refine ⟨fun b x hb => ?_, fun x hx => ?_, fun x hx => ?_, c.d⟩
  · by_cases e : b = q
    · subst e
      rw [upd_same] at hb ⊢
      exact hb
    · rw [upd_ne e] at hb ⊢
      exact c.e b x hb
  · rw [upd_ne (c.ne hq x hx)]
    exact c.n x hx
  · rw [upd_ne (c.ne hq x hx)]
    exact c.h x hx
theorem Cxs.sub (c : Cxs F T H) (hq : H q = none) : Same F (upd F q u) := same_new (c.newF hq)
theorem Cxs.keep (c : Cxs F ((q, u) :: T) H) : Cxs (upd F q u) T H := by
  have hd := c.d
  rw [List.map_cons, List.nodup_cons] at hd
  have ne : ∀ x ∈ T, x.1 ≠ q := fun x hx e => hd.1 (List.mem_map.mpr ⟨x, hx, e⟩)
  refine ⟨fun b x hb => ?_, fun x hx => ?_, fun x hx => c.h x (List.mem_cons_of_mem _ hx), hd.2⟩
  · by_cases e : b = q
    · subst e
      rw [upd_same] at hb
      cases hb
      exact c.h (b, u) List.mem_cons_self
    · rw [upd_ne e] at hb
      exact c.e b x hb
  · rw [upd_ne (ne x hx)]
    exact c.n x (List.mem_cons_of_mem _ hx)
theorem Cxs.keepS (c : Cxs F ((q, u) :: T) H) : Same F (upd F q u) := same_new (c.n _ List.mem_cons_self)
theorem Cxs.drop {x : Addr × HO} (c : Cxs F (x :: T) H) : Cxs F T H := ⟨c.e, fun y hy => c.n y (List.mem_cons_of_mem _ hy), fun y hy => c.h y (List.mem_cons_of_mem _ hy), (List.nodup_cons.mp c.d).2⟩
theorem Cxs.perm {T' : List (Addr × HO)} (c : Cxs F T H) (p : T'.Perm T) : Cxs F T' H := ⟨c.e, fun y hy => c.n y ((List.Perm.mem_iff p).mp hy), fun y hy => c.h y ((List.Perm.mem_iff p).mp hy), (List.Perm.map Prod.fst p).nodup_iff.mpr c.d⟩
theorem Cxs.grow (c : Cxs F T H) (e : Same H H') : Cxs F T H' := ⟨c.e.trans e, c.n, fun x hx => e _ _ (c.h x hx), c.d⟩
theorem Cxs.fresh (c : Cxs F T H) (u : HO) (hq : H q = none) : Cxs F T (upd H q u) := c.grow (same_new hq)
theorem Cxs.less {F' : Hp} (c : Cxs F T H) (e : Same F' F) : Cxs F' T H := ⟨e.trans c.e, fun x hx => e.free (c.n x hx), c.h, c.d⟩
end
/-- append to a list that turns -/
theorem i_appC {F H : Hp} {T : List (Addr × HO)} {Q : VK} {D : Addr} {xs : List V} {y : V} (i : Nat) (c : Cxs F T H) (hi : T[i]? = some (D, .lst xs)) (hz : xs.length ≤ 100000) (q : ∀ H', Cxs F (T.set i (D, .lst (xs ++ [y]))) H' → Q .non H') : rAppend (.ref D) [y] H Q :=
  i_append (c.at i hi) hz (q _ (c.turn i hi _))
/-- what stays of H' when it grew out of H and F stayed of H: all but what stood in H beside F -/
def grow (F H H' : Hp) : Hp := fun b => if (F b).isNone && (H b).isSome then none else H' b
theorem grow_new {F H H' : Hp} {b : Addr} (h : H b = none) : grow F H H' b = H' b := by
  unfold grow
  rw [h, Option.isSome_none, Bool.and_false, if_neg Bool.false_ne_true]
theorem grow_old {F H H' : Hp} {b : Addr} {o : HO} (h : F b = some o) : grow F H H' b = H' b := by
  unfold grow
  rw [h, Option.isNone_some, Bool.false_and, if_neg Bool.false_ne_true]
theorem grow_same {F H H' : Hp} (e : Same F H) (e' : Same H H') : Same F (grow F H H') := fun b o hb => by
  rw [grow_old hb]
  exact e' _ _ (e _ _ hb)
theorem grow_sub {F H H' : Hp} : Same (grow F H H') H' := fun b o hb => by
  unfold grow at hb
  split at hb
  · cases hb
  · exact hb
theorem Cxs.grown {F H H' : Hp} {T : List (Addr × HO)} (c : Cxs F T H) (e : Same H H') : Cxs (VX.grow F H H') T H' := ⟨grow_sub, fun x hx => by
  unfold VX.grow
  rw [c.n x hx, c.h x hx]
  rfl, fun x hx => e _ _ (c.h x hx), c.d⟩
/-! wires: (source, target, low, high) -/
structure W4 where
  (s t lo : Int) (hi : Option Int)
def oV : Option Int → V
  | none => .non
  | some i => .int i
def oD : Option Int → PyData
  | none => .none
  | some i => .int i
def W4.v (w : W4) : List V := [.int w.s, .int w.t, .int w.lo, oV w.hi]
def W4.d (w : W4) : PyData := .tuple [.int w.s, .int w.t, .int w.lo, oD w.hi]
def W4.k (w : W4) : List Int := [w.s, w.t]
/-- a triple (later, earlier, most) -/
structure B3 where
  (l e m : Int)
def B3.v (b : B3) : List V := [.int b.l, .int b.e, .int b.m]
def B3.d (b : B3) : PyData := .tuple [.int b.l, .int b.e, .int b.m]
def B3.k (b : B3) : List Int := [b.l, b.e]
section
variable {K : PySem.W.Frag} {H : Hp} {x : V} {t : Addr}
theorem dp_oD {h : Option Int} (hd : Dp K H x (oD h)) : x = oV h := by
  cases h <;> (cases hd; rfl)
theorem oD_dp {h : Option Int} : Dp K H (oV h) (oD h) := by
  cases h with
  | none => exact .non
  | some i => exact .int i
theorem dp_int {n : Int} (h : Dp K H x (.int n)) : x = .int n := by
  cases h
  rfl
theorem dp_tup {ds : List PyData} (h : Dp K H x (.tuple ds)) : ∃ t xs, x = .ref t ∧ SqT K H t xs ∧ DpAll K H xs ds := by
  cases h with
  | tup hs ha => exact ⟨_, _, rfl, hs, ha⟩
theorem dp_lst {ds : List PyData} (h : Dp K H x (.list ds)) : ∃ t xs, x = .ref t ∧ SqL K H t xs ∧ DpAll K H xs ds := by
  cases h with
  | lst hs ha => exact ⟨_, _, rfl, hs, ha⟩
theorem dp_w4 {w : W4} (h : Dp K H x w.d) : ∃ t, x = .ref t ∧ SqT K H t w.v := by
  obtain ⟨t, xs, rfl, hs, ha⟩ := dp_tup h
  cases ha with
  | cons h1 ha =>
  cases ha with
  | cons h2 ha =>
  cases ha with
  | cons h3 ha =>
  cases ha with
  | cons h4 ha =>
  cases ha with
  | nil =>
  rw [dp_int h1, dp_int h2, dp_int h3, dp_oD h4] at hs
  exact ⟨t, rfl, hs⟩
theorem w4_dp {w : W4} (h : SqT K H t w.v) : Dp K H (.ref t) w.d := .tup h (.cons (.int _) (.cons (.int _) (.cons (.int _) (.cons oD_dp .nil))))
theorem dp_b3 {b : B3} (h : Dp K H x b.d) : ∃ t, x = .ref t ∧ SqT K H t b.v := by
  obtain ⟨t, xs, rfl, hs, ha⟩ := dp_tup h
  cases ha with
  | cons h1 ha =>
  cases ha with
  | cons h2 ha =>
  cases ha with
  | cons h3 ha =>
  cases ha with
  | nil =>
  rw [dp_int h1, dp_int h2, dp_int h3] at hs
  exact ⟨t, rfl, hs⟩
theorem b3_dp {b : B3} (h : SqT K H t b.v) : Dp K H (.ref t) b.d := .tup h (.cons (.int _) (.cons (.int _) (.cons (.int _) .nil)))
theorem dpa_snoc : ∀ {xs : List V} {ds : List PyData} {y : V} {d : PyData}, DpAll K H xs ds → Dp K H y d → DpAll K H (xs ++ [y]) (ds ++ [d])
  | _, _, _, _, .nil, h => .cons h .nil
  | _, _, _, _, .cons h t, h' => .cons h (dpa_snoc t h')
theorem dpa_app : ∀ {xs ys : List V} {ds es : List PyData}, DpAll K H xs ds → DpAll K H ys es → DpAll K H (xs ++ ys) (ds ++ es)
  | _, _, _, _, .nil, h => h
  | _, _, _, _, .cons h t, h' => .cons h (dpa_app t h')
theorem _root_.L2.DpAll.snoc {xs : List V} {ds : List PyData} {y : V} {d : PyData} (h : DpAll K H xs ds) (h' : Dp K H y d) : DpAll K H (xs ++ [y]) (ds ++ [d]) := dpa_snoc h h'
theorem _root_.L2.DpAll.app {xs ys : List V} {ds es : List PyData} (h : DpAll K H xs ds) (h' : DpAll K H ys es) : DpAll K H (xs ++ ys) (ds ++ es) := dpa_app h h'
theorem _root_.L2.DpAll.mono {H' : Hp} {xs : List V} {ds : List PyData} (h : DpAll K H xs ds) (e : Same H H') : DpAll K H' xs ds := dpa_mono e ds xs h
/-- a permutation of the values is one of the data -/
theorem dpa_perm {xs ys : List V} (p : ys.Perm xs) : ∀ {ds : List PyData}, DpAll K H xs ds → ∃ es, es.Perm ds ∧ DpAll K H ys es := by
  induction p with
  | nil => intro ds h; cases h; exact ⟨[], .nil, .nil⟩
  | cons x _ ih =>
    intro ds h
    cases h with
    | cons h1 h2 =>
    obtain ⟨es, q, r⟩ := ih h2
    exact ⟨_ :: es, q.cons _, .cons h1 r⟩
  | swap x y l =>
    intro ds h
    cases h with
    | cons h1 h2 =>
    cases h2 with
    | cons h3 h4 => exact ⟨_, .swap _ _ _, .cons h3 (.cons h1 h4)⟩
  | trans _ _ ih1 ih2 =>
    intro ds h
    obtain ⟨es, q, r⟩ := ih2 h
    obtain ⟨fs, q', r'⟩ := ih1 r
    exact ⟨fs, q'.trans q, r'⟩
end
theorem erase_perm {α : Type} : ∀ {l : List α} {i : Nat} {x : α}, l[i]? = some x → (x :: l.eraseIdx i).Perm l
  | [], _, _, h => by simp at h
  | a :: l, 0, x, h => by
    simp at h
    subst h
    exact .refl _
  | a :: l, i + 1, x, h => by
    rw [List.eraseIdx_cons_succ]
    exact (List.Perm.swap _ _ _).trans ((erase_perm (l := l) (i := i) (by simpa using h)).cons a)
theorem perm_map_inv {α β : Type} {f : α → β} : ∀ {l : List α} {m : List β}, m.Perm (l.map f) → ∃ l' : List α, l'.Perm l ∧ m = l'.map f := by
  intro l m p
  generalize hz : l.map f = z at p
  induction p generalizing l with
  | nil => exact ⟨[], by rw [List.map_eq_nil_iff.mp hz], rfl⟩
  | cons x p ih =>
    cases l with
    | nil => cases hz
    | cons a l =>
      obtain ⟨rfl, h2⟩ := List.cons.inj hz
      obtain ⟨l', q, rfl⟩ := ih h2
      exact ⟨a :: l', q.cons a, rfl⟩
  | swap x y m =>
    cases l with
    | nil => cases hz
    | cons a l =>
      cases l with
      | nil => cases (List.cons.inj hz).2
      | cons b l =>
        obtain ⟨rfl, h2⟩ := List.cons.inj hz
        obtain ⟨rfl, rfl⟩ := List.cons.inj h2
        exact ⟨b :: a :: l, .swap _ _ _, rfl⟩
  | trans p q ih1 ih2 =>
    obtain ⟨l1, q1, e1⟩ := ih2 hz
    obtain ⟨l2, q2, e2⟩ := ih1 e1.symm
    exact ⟨l2, q2.trans q1, e2⟩
end VX
set_option maxRecDepth 100000
set_option maxHeartbeats 4000000
/-! sorted over rows told apart by a key; comprehensions whose items have data; pairs of numbers in a list. -/
namespace VX
open PySem PySem.Spec PyProof.Rows L2
theorem zip_get {α β : Type} : ∀ {xs : List α} {ys : List β} {p : α × β}, p ∈ xs.zip ys → ∃ j : Nat, xs[j]? = some p.1 ∧ ys[j]? = some p.2
  | [], _, p, h => by simp at h
  | _ :: _, [], p, h => by simp at h
  | x :: xs, y :: ys, p, h => by
    rw [List.zip_cons_cons] at h
    rcases List.mem_cons.mp h with rfl | h
    · exact ⟨0, rfl, rfl⟩
    · obtain ⟨j, h1, h2⟩ := zip_get h
      exact ⟨j + 1, by simpa using h1, by simpa using h2⟩
theorem get_zip {α β : Type} : ∀ {xs : List α} {ys : List β} {j : Nat} {x : α} {y : β}, xs[j]? = some x → ys[j]? = some y → (x, y) ∈ xs.zip ys
  | [], _, _, _, _, h, _ => by simp at h
  | _ :: _, [], _, _, _, _, h => by simp at h
  | x :: xs, y :: ys, 0, a, b, h1, h2 => by
    simp at h1 h2
    subst h1 h2
    rw [List.zip_cons_cons]
    exact List.mem_cons_self
  | x :: xs, y :: ys, j + 1, a, b, h1, h2 => by
    rw [List.zip_cons_cons]
    exact List.mem_cons_of_mem _ (get_zip (by simpa using h1) (by simpa using h2))
theorem zip_map_fst {α β : Type} : ∀ {xs : List α} {ys : List β}, xs.length = ys.length → (xs.zip ys).map Prod.fst = xs
  | [], [], _ => rfl
  | x :: xs, y :: ys, h => by
    rw [List.zip_cons_cons, List.map_cons, zip_map_fst (by simpa using h)]
theorem zip_map_snd {α β : Type} : ∀ {xs : List α} {ys : List β}, xs.length = ys.length → (xs.zip ys).map Prod.snd = ys
  | [], [], _ => rfl
  | x :: xs, y :: ys, h => by
    rw [List.zip_cons_cons, List.map_cons, zip_map_snd (by simpa using h)]
/-- sorted(xs), the i-th of xs a tuple that begins with the i-th of nss -/
def rSortK (K : PySem.W.Frag) (d : Nat) : List V → Hp → VK → Prop := fun vs H Q => ∃ (a : Addr) (xs : List V) (nss : List (List Int)), vs = [V.ref a] ∧ SqL K H a xs ∧ xs.length = nss.length ∧ (∀ p ∈ xs.zip nss, TupX K H p.1 p.2 ∧ p.2.length = d) ∧
  nss.Nodup ∧ ∀ (zs : List (V × List Int)) (p : Addr), zs.Perm (xs.zip nss) → zs.Pairwise (fun x y => lexL y.2 x.2 = false) → H p = none → Q (.ref p) (upd H p (.lst (zs.map Prod.fst)))
theorem cr_sortK {X : Cx} {d : Nat} (hd : 1 ≤ d) : CallR X (.builtin "sorted") (rSortK X.K d) := by
  intro pins s σ H vs us Q I r h
  obtain ⟨a, xs, nss, rfl, hs, hl, hz, nd, q⟩ := h
  have fn : ∀ x ns ms, (x, ns) ∈ xs.zip nss → (x, ms) ∈ xs.zip nss → ns = ms := fun x ns ms h1 h2 => by
    obtain ⟨⟨t, ys, e, ht⟩, l1⟩ := hz _ h1
    obtain ⟨⟨t', ys', e', ht'⟩, l2⟩ := hz _ h2
    have e : x = V.ref t := e
    have e' : x = V.ref t' := e'
    rw [e] at e'
    cases e'
    exact Pfx.uniq (tupX_raw I ht) (tupX_raw I ht') (l1.trans l2.symm)
  let pr : V → List Int := fun x => ((xs.zip nss).find? fun p => decide (p.1 = x)).elim [] Prod.snd
  have hp : ∀ x ns, (x, ns) ∈ xs.zip nss → pr x = ns := fun x ns hm => by
    show ((xs.zip nss).find? fun p => decide (p.1 = x)).elim [] Prod.snd = ns
    cases e : (xs.zip nss).find? fun p => decide (p.1 = x) with
    | none =>
      have := List.find?_eq_none.mp e _ hm
      simp at this
    | some p =>
      have h1 := List.find?_some e
      have h2 := List.mem_of_find?_eq_some e
      have h1 : p.1 = x := of_decide_eq_true h1
      exact fn x p.2 ns (by rw [← h1]; exact h2) hm
  have mem : ∀ x ∈ xs, ∃ j ns, xs[j]? = some x ∧ nss[j]? = some ns := fun x hx => by
    obtain ⟨j, hj⟩ := List.mem_iff_getElem?.mp hx
    have l : j < nss.length := by rw [← hl]; exact (List.getElem?_eq_some_iff.mp hj).1
    exact ⟨j, _, hj, List.getElem?_eq_getElem l⟩
  have hmap : xs.map (fun x => (x, pr x)) = xs.zip nss := by
    apply List.ext_getElem?
    intro j
    rw [List.getElem?_map]
    cases e : xs[j]? with
    | none =>
      have l := List.getElem?_eq_none_iff.mp e
      rw [List.getElem?_eq_none (by rw [List.length_zip]; omega)]
      rfl
    | some x =>
      have l : j < nss.length := by rw [← hl]; exact (List.getElem?_eq_some_iff.mp e).1
      have e2 := List.getElem?_eq_getElem l
      rw [show (xs.zip nss)[j]? = some (x, nss[j]) from by rw [List.getElem?_zip_eq_some]; exact ⟨e, e2⟩]
      show some (x, pr x) = _
      rw [hp x _ (get_zip e e2)]
  refine cr_sortX hd pins s σ H _ us Q I r ⟨a, xs, pr, rfl, hs, fun x hx => ?_, fun x hx y hy e => ?_, fun ys p perm pw np => ?_⟩
  · obtain ⟨j, ns, h1, h2⟩ := mem x hx
    rw [hp x ns (get_zip h1 h2)]
    exact hz _ (get_zip h1 h2)
  · obtain ⟨j, ns, h1, h2⟩ := mem x hx
    obtain ⟨i, ms, h3, h4⟩ := mem y hy
    rw [hp x ns (get_zip h1 h2), hp y ms (get_zip h3 h4)] at e
    subst e
    have l : j < nss.length := (List.getElem?_eq_some_iff.mp h2).1
    have := (List.getElem?_inj l nd).mp (h2.trans h4.symm)
    subst this
    rw [h1] at h3
    exact Option.some.inj h3
  · have := q (ys.map fun y => (y, pr y)) p (by rw [← hmap]; exact perm.map _) (by rw [List.pairwise_map]; exact pw) np
    rw [List.map_map] at this
    have e : ys.map (Prod.fst ∘ fun y => (y, pr y)) = ys := by
      have : (Prod.fst ∘ fun y => (y, pr y)) = (id : V → V) := rfl
      rw [this, List.map_id]
    rw [e] at this
    exact this
theorem dpa_zip {K : PySem.W.Frag} {H : Hp} {α : Type} {d : α → PyData} {xs : List V} {rs : List α} (h : DpAll K H xs (rs.map d)) : ∀ p ∈ xs.zip rs, Dp K H p.1 (d p.2) := fun p hp => by
  obtain ⟨j, h1, h2⟩ := zip_get hp
  obtain ⟨v, e, q⟩ := dpa_get (i := j) (d := d p.2) h (by rw [List.getElem?_map, h2]; rfl)
  rw [h1] at e
  cases e
  exact q
theorem dpa_of {K : PySem.W.Frag} {H : Hp} {α : Type} {d : α → PyData} : ∀ {zs : List (V × α)}, (∀ p ∈ zs, Dp K H p.1 (d p.2)) → DpAll K H (zs.map Prod.fst) ((zs.map Prod.snd).map d)
  | [], _ => .nil
  | p :: zs, h => .cons (h p List.mem_cons_self) (dpa_of fun q hq => h q (List.mem_cons_of_mem _ hq))
/-- sorted over rows, with their data -/
theorem i_sortK {K : PySem.W.Frag} {F H : Hp} {Q : VK} {α : Type} {d : α → PyData} {k : α → List Int} {a : Addr} {xs : List V} {rs : List α} {m : Nat} (hs : SqL K H a xs) (eF : Same F H) (ha : DpAll K F xs (rs.map d))
    (ht : ∀ x r, r ∈ rs → Dp K H x (d r) → TupX K H x (k r) ∧ (k r).length = m) (nd : (rs.map k).Nodup)
    (q : ∀ (ys : List V) (qs : List α) (p : Addr), qs.Perm rs → qs.Pairwise (fun x y => lexL (k y) (k x) = false) → H p = none → DpAll K F ys (qs.map d) → Q (.ref p) (upd H p (.lst ys))) : rSortK K m [.ref a] H Q := by
  have hl : xs.length = rs.length := by rw [dpa_len ha, List.length_map]
  refine ⟨a, xs, rs.map k, rfl, hs, by rw [hl, List.length_map], fun p hp => ?_, nd, fun zs p perm pw np => ?_⟩
  · obtain ⟨j, h1, h2⟩ := zip_get hp
    rw [List.getElem?_map] at h2
    cases e : rs[j]? with
    | none =>
      rw [e] at h2
      cases h2
    | some r =>
      rw [e] at h2
      have h2 : k r = p.2 := Option.some.inj h2
      obtain ⟨v, e1, q1⟩ := dpa_get (i := j) (d := d r) (ha.mono eF) (by rw [List.getElem?_map, e]; rfl)
      rw [h1] at e1
      cases e1
      rw [← h2]
      exact ht _ r (List.mem_of_getElem? e) q1
  · have e : xs.zip (rs.map k) = (xs.zip rs).map fun p => (p.1, k p.2) := by
      rw [List.zip_map_right]
      rfl
    rw [e] at perm
    obtain ⟨l, pl, rfl⟩ := perm_map_inv perm
    rw [List.map_map]
    rw [List.pairwise_map] at pw
    refine q _ (l.map Prod.snd) p ?_ (by rw [List.pairwise_map]; exact pw) np (dpa_of fun p hp => dpa_zip ha p (pl.mem_iff.mp hp))
    have := pl.map Prod.snd
    rwa [zip_map_snd hl] at this
/-- a comprehension without a test whose items have data; D the new list -/
theorem lc_dp {K : PySem.W.Frag} {σ : L2.St} {g : TG} {te : TE} {vs : List Nat} {J : It} {n : Nat} {G : Hp → Prop} {Y : Nat → Hp → V → Hp → Prop} (w : Walk J n G Y) {H1 F : Hp} {D : Addr} {Qd : Hp → Prop} (eF : Same F H1) (nD : H1 D = none) (hn : n ≤ 10000) (d : Nat → PyData) (hG : ∀ H, Same F H → G H)
    (hs : ∀ i x H H' acc, i < n → Same F H → H D = some (.lst acc) → Y i H x H' → ∀ R : VK, (∀ y H4, Same H H4 → Dp K (del H4 D) y (d i) → R y H4) → g x (wipe σ vs) H' fun σ2 H2 => wipe σ2 vs = wipe σ vs ∧ te σ2 H2 R)
    (hd : ∀ H xs, Same F H → H D = some (.lst xs) → DpAll K (del H D) xs ((List.range n).map d) → Qd H) :
    ∃ W : Nat → Nat → Hp → Prop, (∃ m, W 0 m (upd H1 D (.lst []))) ∧ ∀ i m H, W i m H →
      (J.stop i H ∧ Qd H) ∨ (J.go i H ∧ ∃ Nx : Hp → Prop, (∀ H', Nx H' → ∃ m', m' < m ∧ W (i + 1) m' H') ∧ ∀ x H', J.yld i H x H' → g x (wipe σ vs) H' fun σ2 H2 => wipe σ2 vs = wipe σ vs ∧ tYes σ2 H2 fun b H3 =>
        if b = true then te σ2 H3 fun y H4 => ∃ acc, H4 D = some (.lst acc) ∧ acc.length < sizeLine ∧ Nx (upd H4 D (.lst (acc ++ [y]))) else Nx H3) := by
  have fD : F D = none := eF.free nD
  refine lc_it w (Qd := Qd) (tt := tYes) (fun i H => Same F H ∧ ∃ xs, H D = some (.lst xs) ∧ DpAll K (del H D) xs ((List.range i).map d)) ⟨fun b o hb => ?_, [], upd_same, .nil⟩ (fun i H _ p => hG H p.1) (fun i x H H' hi p y => ?_) fun H p => let ⟨e, xs, h1, h2⟩ := p; hd H xs e h1 h2
  · rw [upd_ne (ne_of_none hb fD)]
    exact eF b o hb
  · obtain ⟨e, xs, hD, ha⟩ := p
    refine hs i x H H' xs hi e hD y (fun y H4 => ∃ acc, H4 D = some (.lst acc) ∧ acc.length < sizeLine ∧ (Same F (upd H4 D (.lst (acc ++ [y]))) ∧ ∃ xs, upd H4 D (.lst (acc ++ [y])) D = some (.lst xs) ∧ DpAll K (del (upd H4 D (.lst (acc ++ [y]))) D) xs ((List.range (i + 1)).map d))) fun y H4 e4 hy => ?_
    have c : Ctx (del H D) D (.lst xs) H4 := (Ctx.start hD).grow e4
    have lx : xs.length = i := by rw [dpa_len ha, List.length_map, List.length_range]
    have ed : Same (del H4 D) (del (upd H4 D (.lst (xs ++ [y]))) D) := fun b o hb => by
      by_cases z : b = D
      · rw [z, del_same] at hb
        cases hb
      · rw [del_ne z] at hb ⊢
        rw [upd_ne z]
        exact hb
    refine ⟨xs, c.h, ?_, fun b o hb => ?_, xs ++ [y], upd_same, ?_⟩
    · rw [lx]
      exact Nat.lt_of_lt_of_le hi (Nat.le_trans hn (by decide))
    · rw [upd_ne (ne_of_none hb fD)]
      exact e4 _ _ (e b o hb)
    · rw [List.range_succ, List.map_append]
      refine DpAll.snoc (ha.mono (c.all.trans ed)) (Dp.mono' hy ed)
theorem units65 {A : Around} {k : Nat} (hr : Room (k + 1) A) : A.units + 65 < cLine := by
  have := hr.un
  omega
/-- the i-th datum -/
def gt (ds : List PyData) (i : Nat) : PyData := ds[i]?.getD .none
theorem gt_of {ds : List PyData} {i : Nat} {d : PyData} (h : ds[i]? = some d) : gt ds i = d := by
  unfold gt
  rw [h]
  rfl
theorem range_gt (ds : List PyData) : (List.range ds.length).map (gt ds) = ds := range_map_at fun i x h => gt_of h
theorem b3_tupX {K : PySem.W.Frag} {H : Hp} {x : V} {r : B3} (h : Dp K H x r.d) : TupX K H x r.k ∧ r.k.length = 2 := by
  obtain ⟨t, rfl, ht⟩ := dp_b3 h
  exact ⟨⟨t, [.int r.m], rfl, ht⟩, rfl⟩
theorem w4_tupX {K : PySem.W.Frag} {H : Hp} {x : V} {r : W4} (h : Dp K H x r.d) : TupX K H x r.k ∧ r.k.length = 2 := by
  obtain ⟨t, rfl, ht⟩ := dp_w4 h
  exact ⟨⟨t, [.int r.lo, oV r.hi], rfl, ht⟩, rfl⟩
theorem lenB' {n : Nat} (h : n ≤ 1000) : n < sizeLine := small1000 h
/-! pairs of numbers -/
theorem eqv_pair (a b c d : Int) : PyData.eqv (.tuple [.int a, .int b]) (.tuple [.int c, .int d]) = decide (a = c ∧ b = d) := by
  show ((a == c) && ((b == d) && true)) = _
  by_cases h1 : a = c <;> by_cases h2 : b = d <;> simp [h1, h2]
def pD (z : Int × Int) : PyData := .tuple [.int z.1, .int z.2]
theorem pD_lay (z : Int × Int) : (pD z).canLay0 = true := by simp [pD, PyData.canLay0, PyData.canLayAll0]
theorem pD_depth (z : Int × Int) : (pD z).depth = 1 := by simp [pD, PyData.depth, PyData.depthAll]
theorem pDs_lay : ∀ zs : List (Int × Int), PyData.canLayAll0 (zs.map pD) = true
  | [] => rfl
  | z :: zs => by
    rw [List.map_cons]
    show ((pD z).canLay0 && PyData.canLayAll0 (zs.map pD)) = true
    rw [pD_lay, pDs_lay zs]
    rfl
theorem pDs_depth : ∀ zs : List (Int × Int), PyData.depthAll (zs.map pD) ≤ 1
  | [] => by decide
  | z :: zs => by
    rw [List.map_cons]
    show max (pD z).depth (PyData.depthAll (zs.map pD)) ≤ 1
    rw [pD_depth]
    have := pDs_depth zs
    omega
theorem pD_shaped (z : Int × Int) : SeqAt.shaped (pD z) = true := Bool.and_eq_true_iff.mpr ⟨pD_lay z, decide_eq_true (by rw [pD_depth]; decide)⟩
theorem pDs_shaped (zs : List (Int × Int)) : SeqAt.shaped (.list (zs.map pD)) = true := by
  refine Bool.and_eq_true_iff.mpr ⟨pDs_lay zs, decide_eq_true ?_⟩
  show PyData.depthAll (zs.map pD) + 1 ≤ 64
  have := pDs_depth zs
  omega
theorem any_pair (zs : List (Int × Int)) (z : Int × Int) : ((zs.map pD).any fun y => PyData.eqv y (pD z)) = decide (z ∈ zs) := by
  induction zs with
  | nil => simp
  | cons y zs ih =>
    rw [List.map_cons, List.any_cons, ih]
    show (PyData.eqv (.tuple [.int y.1, .int y.2]) (.tuple [.int z.1, .int z.2]) || decide (z ∈ zs)) = _
    rw [eqv_pair]
    by_cases h1 : y = z
    · subst h1
      simp
    · have h2 : ¬ (y.1 = z.1 ∧ y.2 = z.2) := fun e => h1 (Prod.ext e.1 e.2)
      rw [decide_eq_false h2, Bool.false_or]
      have h3 : z ≠ y := fun e => h1 e.symm
      simp [h3]
/-- (a, b) not in a list of pairs -/
theorem i_notInP {K : PySem.W.Frag} {H : Hp} {Q : VK} {x y : V} {z : Int × Int} {zs : List (Int × Int)} (hx : Dp K H x (pD z)) (hy : Dp K H y (.list (zs.map pD))) (q : Q (.bl (!decide (z ∈ zs))) H) : rNotInD K x y H Q :=
  ⟨_, _, hx, hy, pD_shaped z, pDs_shaped zs, by rw [any_pair]; exact q⟩
end VX
set_option maxRecDepth 100000
set_option maxHeartbeats 4000000
/-! Dicts by tuples of numbers: their rows in order. -/
namespace VX
open PySem PySem.Spec PyProof.Rows L2
/-- a def with one keyword-only default -/
theorem fund_mk {K : PySem.W.Frag} {x qual : Str} {params : Arguments} {body : List Stmt} {scope : Scope} {f : Addr} {oc : Value} {od an : Option Addr} {osl : Array (Option Value)} {D e : Addr} {n : Str} {doc pm cdv ct : Value}
    (l : K.lookup f = some ⟨oc, od, .func (PySem.W.fnOf x qual params body scope .none (.ref D) doc pm an cdv ct), osl⟩) (c : PySem.W.codeIn K cdv qual = true) (k : PySem.W.keepIn K (.ref f) = true) (b : PySem.W.nsIn K D n = some (some (.ref e))) :
    FunD K x qual params body scope [] [(n, .ref e)] f (PySem.W.fnOf x qual params body scope .none (.ref D) doc pm an cdv ct) := by
  refine ⟨⟨oc, od, .none, .ref D, doc, pm, an, cdv, ct, osl, rfl, l, c, .inl ⟨rfl, rfl⟩, .inr ⟨D, rfl, fun q hq => ?_⟩⟩, k⟩
  rw [List.mem_singleton] at hq
  subst hq
  exact ⟨_, b, rfl⟩
/-! a thing locked for a while -/
/-- what lists and tuples stay -/
structure Sqs (K : PySem.W.Frag) (H H' : Hp) : Prop where
  l : ∀ a xs, SqL K H a xs → SqL K H' a xs
  t : ∀ a xs, SqT K H a xs → SqT K H' a xs
mutual
theorem dp_sqs {K : PySem.W.Frag} {H H' : Hp} (e : Sqs K H H') : ∀ (d : PyData) (v : V), Dp K H v d → Dp K H' v d
  | .none, _, h => by cases h; exact .non
  | .bool b, _, h => by cases h; exact .bl b
  | .int i, _, h => by cases h; exact .int i
  | .str x, _, h => by cases h; exact .str x
  | .list ds, _, h => by
    cases h with
    | lst hs ha => exact .lst (e.l _ _ hs) (dpa_sqs e ds _ ha)
  | .tuple ds, _, h => by
    cases h with
    | tup hs ha => exact .tup (e.t _ _ hs) (dpa_sqs e ds _ ha)
  | .dict _, _, h => by cases h
theorem dpa_sqs {K : PySem.W.Frag} {H H' : Hp} (e : Sqs K H H') : ∀ (ds : List PyData) (vs : List V), DpAll K H vs ds → DpAll K H' vs ds
  | [], _, h => by cases h; exact .nil
  | d :: ds, _, h => by
    cases h with
    | cons h1 h2 => exact .cons (dp_sqs e d _ h1) (dpa_sqs e ds _ h2)
end
/-- d, a dict, is unlocked -/
theorem sqs_unlock {K : PySem.W.Frag} {H : Hp} {d : Addr} {od : Obj} {js : List (List L2.Key × V)} {u : HO} (h : H d = some (.frz od (.dT js))) : Sqs K H (upd H d u) := by
  constructor
  · intro a xs q
    rcases q with (q | ⟨o, q⟩) | q
    · exact .inl (.inl (by rw [upd_ne (fun z => by rw [z, h] at q; cases q)]; exact q))
    · exact .inl (.inr ⟨o, by rw [upd_ne (fun z => by rw [z, h] at q; cases q)]; exact q⟩)
    · exact .inr q
  · intro a xs q
    rcases q with (q | ⟨o, q⟩) | q
    · exact .inl (.inl (by rw [upd_ne (fun z => by rw [z, h] at q; cases q)]; exact q))
    · exact .inl (.inr ⟨o, by rw [upd_ne (fun z => by rw [z, h] at q; cases q)]; exact q⟩)
    · exact .inr q
theorem del_upd {H : Hp} {a b : Addr} {u : HO} (h : a ≠ b) : del (upd H a u) b = upd (del H b) a u := by
  funext c
  by_cases h1 : c = b
  · subst h1
    rw [del_same, upd_ne (Ne.symm h), del_same]
  · rw [del_ne h1]
    by_cases h2 : c = a
    · subst h2
      rw [upd_same, upd_same]
    · rw [upd_ne h2, upd_ne h2, del_ne h1]
/-- behind the lock all stands as before it -/
theorem same_unlock {H H' : Hp} {d : Addr} {u v : HO} (h : H d = some u) (e : Same (upd H d v) H') : Same H (upd H' d u) := fun b o hb => by
  by_cases z : b = d
  · subst z
    rw [upd_same]
    exact h.symm.trans hb
  · rw [upd_ne z]
    exact e b o (by rw [upd_ne z]; exact hb)
theorem walk_itemsT {d : Addr} {o : Obj} {kvs : List (List L2.Key × V)} : Walk (Itit d o kvs) kvs.length (fun H => H d = some (.frz o (.dT kvs)))
    (fun i H x H' => ∃ T k v q, kvs[i]? = some (k, v) ∧ x = .ref T ∧ H q = some (.tup (k.map kV)) ∧ H T = none ∧ H' = upd H T (.tup [.ref q, v])) :=
  ⟨fun _ _ hi q => ⟨q, hi⟩, fun _ q => ⟨q, Nat.le_refl _⟩, fun _ _ _ _ _ _ y => y⟩
theorem i_lockE {t : TE} {σ : L2.St} {H : Hp} {Q : VK} {d : Addr} {js : List (List L2.Key × V)} (h : H d = some (.dT js)) (q : ∀ od, t σ (upd H d (.frz od (.dT js))) fun v H' => H' d = some (.frz od (.dT js)) ∧ Q v (upd H' d (.dT js))) : tLockE t σ H Q :=
  ⟨d, .dT js, h, True.intro, q⟩
theorem i_items {td : TE} {σ : L2.St} {H : Hp} {R : It → Hp → Prop} (q : td σ H fun x H1 => ∃ d o kvs, x = .ref d ∧ H1 d = some (.frz o (.dT kvs)) ∧ R (Itit d o kvs) H1) : iItemsT td σ H R := q
theorem i_keys {td : TE} {σ : L2.St} {H : Hp} {R : It → Hp → Prop} (q : td σ H fun x H1 => ∃ d o, x = .ref d ∧ ((∃ kvs, H1 d = some (.frz o (.dK kvs)) ∧ R (Itk d o kvs) H1) ∨ ∃ kvs, H1 d = some (.frz o (.dT kvs)) ∧ R (Itkt d o kvs) H1)) : iKeys td σ H R := q
theorem i_dIn {ty td : TE} {σ : L2.St} {H : Hp} {Q : VK} (q : ty σ H fun y H1 => td σ H1 fun x H2 => ∃ a o, x = .ref a ∧ DGet H2 a y o ∧ Q (.bl o.isSome) H2) : tDIn ty td σ H Q := q
theorem i_dNotIn {ty td : TE} {σ : L2.St} {H : Hp} {Q : VK} (q : ty σ H fun y H1 => td σ H1 fun x H2 => ∃ a o, x = .ref a ∧ DGet H2 a y o ∧ Q (.bl (!o.isSome)) H2) : tDNotIn ty td σ H Q := q
theorem i_dGet {ty td : TE} {σ : L2.St} {H : Hp} {Q : VK} (q : td σ H fun x H1 => ty σ H1 fun y H2 => ∃ a v, x = .ref a ∧ DGet H2 a y (some v) ∧ Q v H2) : tDGet td ty σ H Q := q
theorem i_dNew {σ : L2.St} {H : Hp} {Q : VK} (q : ∀ p, H p = none → Q (.ref p) (upd H p (.dT []))) : tDNewT σ H Q := q
/-- (a, b) in d -/
theorem dget_in {H : Hp} {a b : Addr} {kvs : List (List L2.Key × V)} {n : List Int} {o : Option V} (e : H a = some (.dT kvs)) (eb : H b = some (.tup (n.map V.int))) (ho : valV kvs (n.map Sum.inl) = o) : DGet H a (.ref b) o := by
  subst ho
  exact DGet.t e (by rw [kV_ints]; exact eb)
theorem i_setD {H : Hp} {Q : Hp → Prop} {a b : Addr} {kvs : List (List L2.Key × V)} {n : List Int} {v : V} (e : H a = some (.dT kvs)) (eb : H b = some (.tup (n.map V.int))) (hl : kvs.length ≤ 1000) (q : Q (upd H a (.dT (putK kvs (n.map Sum.inl) v)))) : rSetD (.ref a) (.ref b) v H Q :=
  ⟨a, _, rfl, DPut.t e (by rw [kV_ints]; exact eb) (lenB' hl), q⟩
/-- a callee that lets nothing out here -/
theorem passF {X : Cx} : Passes (L2.CX X.prog X.w) X E0 := fun _ _ _ _ _ _ _ ⟨_, _, _, _, _, _, _, _, _, _, _, _, h⟩ => h.elim
/-- for x in xs, xs a list or a tuple -/
def iSq (K : PySem.W.Frag) (tl : TE) : TI := fun σ H R => tl σ H fun x H1 => ∃ a, x = .ref a ∧ (((∃ xs, SqL K H1 a xs) ∧ R (Itl K a) H1) ∨ ((∃ xs, SqT K H1 a xs) ∧ R (Itt K a) H1))
theorem pi_seq {X : Cx} {tg l : Expr} {tl : TE} (hl : PE X l tl) : PI X tg l (iSq X.K tl) := by
  refine ⟨fun pins s σ H R I h => ?_⟩
  refine thn (hl.run pins s σ H _ I h) fun v s1 ⟨x, H1, I1, r1, a, e, q⟩ => ?_
  subst e
  cases r1
  rcases q with ⟨⟨xs, hq⟩, q⟩ | ⟨⟨xs, hq⟩, q⟩
  · obtain ⟨its, rv, p, hz⟩ := I1.list hq
    refine wpAny_pyIter_list p.isList ?_
    refine ⟨s1.heap.objs.size, [s1.heap.objs.size], _, _, H1, rfl, I1.kept (t' := s1.toks) fun b o e => Heap.get?_push_of_some _ e, turn_list a _, ⟨_, Heap.get?_push_size _ rfl, rfl, rfl⟩, fun b hb => ?_, q⟩
    have e : b = s1.heap.objs.size := by simpa using hb
    subst e
    exact I1.fpOk (Nat.le_refl _) (I1.hok.fresh (Nat.le_refl _))
  · obtain ⟨its, rv, p, hz⟩ := I1.tuple hq
    refine wpAny_pyIter_tuple (show s1.heap.IsTuple a its.toArray from p) ?_
    refine ⟨s1.heap.objs.size, [s1.heap.objs.size], _, _, H1, rfl, I1.kept (t' := s1.toks) fun b o e => Heap.get?_push_of_some _ e, turn_tuple a _, ⟨_, Heap.get?_push_size _ rfl, rfl, rfl⟩, fun b hb => ?_, q⟩
    have e : b = s1.heap.objs.size := by simpa using hb
    subst e
    exact I1.fpOk (Nat.le_refl _) (I1.hok.fresh (Nat.le_refl _))
theorem i_iSq {tl : TE} {σ : L2.St} {H : Hp} {K : PySem.W.Frag} {R : It → Hp → Prop} (q : tl σ H fun x H1 => ∃ a, x = .ref a ∧ (((∃ xs, SqL K H1 a xs) ∧ R (Itl K a) H1) ∨ ((∃ xs, SqT K H1 a xs) ∧ R (Itt K a) H1))) : iSq K tl σ H R := q
/-- a list or a tuple -/
def SqA (K : PySem.W.Frag) (H : Hp) (a : Addr) (xs : List V) : Prop := SqL K H a xs ∨ SqT K H a xs
theorem SqA.mono {K : PySem.W.Frag} {H H' : Hp} {a : Addr} {xs : List V} (h : SqA K H a xs) (e : Same H H') : SqA K H' a xs := h.elim (fun h => .inl (e.seq h)) fun h => .inr (same_sqT e h)
theorem i_seqV {K : PySem.W.Frag} {σ : L2.St} {i : Nat} {F H : Hp} {a : Addr} {xs : List V} {R : It → Hp → Prop} (hv : σ[i]? = some (some (.ref a))) (e : Same F H) (h : SqA K F a xs) (q : ∀ J (G : Hp → Prop), Walk J xs.length G (YAt xs) → (∀ H', Same F H' → G H') → R J H) :
    iSq K (tVar i) σ H R :=
  ⟨.ref a, hv, a, rfl, h.elim (fun h => .inl ⟨⟨xs, e.seq h⟩, q _ _ walk_list fun _ e => e.seq h⟩) fun h => .inr ⟨⟨xs, same_sqT e h⟩, q _ _ walk_tup fun _ e => same_sqT e h⟩⟩
/-- k a row's key, P what is said of its value -/
def KVs {α : Type} (k : α → List Int) (P : Hp → V → α → Prop) (H : Hp) (kvs : List (List L2.Key × V)) (rs : List α) : Prop := Paired (fun e r => e.1 = (k r).map Sum.inl ∧ P H e.2 r) kvs rs
theorem inl_inj : ∀ {xs ys : List Int}, (xs.map Sum.inl : List L2.Key) = ys.map Sum.inl → xs = ys
  | [], [], _ => rfl
  | [], _ :: _, h => by cases h
  | _ :: _, [], h => by cases h
  | x :: xs, y :: ys, h => by
    obtain ⟨h1, h2⟩ := List.cons.inj h
    rw [Sum.inl.inj h1, inl_inj h2]
section
variable {α : Type} {k : α → List Int} {P : Hp → V → α → Prop} {H H' : Hp}
theorem KVs.mono (m : ∀ H H' v r, Same H H' → P H v r → P H' v r) {kvs : List (List L2.Key × V)} {rs : List α} (h : KVs k P H kvs rs) (e : Same H H') : KVs k P H' kvs rs := Paired.mapP h fun _ _ z => ⟨z.1, m _ _ _ _ e z.2⟩
theorem KVs.len {kvs : List (List L2.Key × V)} {rs : List α} (h : KVs k P H kvs rs) : kvs.length = rs.length := Paired.length h
theorem KVs.keys : ∀ {kvs : List (List L2.Key × V)} {rs : List α}, KVs k P H kvs rs → kvs.map (·.1) = (rs.map k).map (List.map Sum.inl)
  | _, _, .nil => rfl
  | _, _, .cons z t => by
    rw [List.map_cons, List.map_cons, List.map_cons, KVs.keys t, z.1]
theorem KVs.miss {n : List Int} : ∀ {kvs : List (List L2.Key × V)} {rs : List α}, KVs k P H kvs rs → n ∉ rs.map k → valV kvs (n.map Sum.inl) = none
  | _, _, .nil, _ => rfl
  | _, _, .cons z t, h => by
    rw [List.map_cons, List.mem_cons, not_or] at h
    rw [valV_neg (fun e => h.1 (inl_inj (z.1.symm.trans e)).symm)]
    exact KVs.miss t h.2
theorem KVs.get {r : α} : ∀ {kvs : List (List L2.Key × V)} {rs : List α}, KVs k P H kvs rs → (rs.map k).Nodup → r ∈ rs → ∃ v, valV kvs ((k r).map Sum.inl) = some v ∧ P H v r
  | _, _, .nil, _, h => (nomatch h)
  | p :: kvs, r' :: rs, .cons z t, nd, h => by
    rw [List.map_cons, List.nodup_cons] at nd
    rcases List.mem_cons.mp h with rfl | h
    · exact ⟨p.2, valV_pos z.1, z.2⟩
    · have ne : ¬ p.1 = (k r).map Sum.inl := fun e => nd.1 (List.mem_map.mpr ⟨r, h, (inl_inj (z.1.symm.trans e)).symm⟩)
      rw [valV_neg ne]
      exact KVs.get t nd.2 h
theorem KVs.put {kvs : List (List L2.Key × V)} {rs : List α} {r : α} {v : V} (h : KVs k P H kvs rs) (hn : k r ∉ rs.map k) (hv : P H v r) : KVs k P H (putK kvs ((k r).map Sum.inl) v) (rs ++ [r]) := by
  have e : putK kvs ((k r).map Sum.inl) v = kvs ++ [((k r).map Sum.inl, v)] := by
    unfold putK
    rw [valV_any, h.miss hn, if_neg (by simp)]
  rw [e]
  exact Paired.snoc h ⟨rfl, hv⟩
theorem KVs.at {kvs : List (List L2.Key × V)} {rs : List α} (h : KVs k P H kvs rs) {i : Nat} {r : α} (hr : rs[i]? = some r) : ∃ v, kvs[i]? = some ((k r).map Sum.inl, v) ∧ P H v r := by
  have hi : i < kvs.length := by rw [h.len]; exact (List.getElem?_eq_some_iff.mp hr).1
  obtain ⟨b, hb, z⟩ := L2.paired_get h (List.getElem?_eq_getElem hi)
  rw [hr] at hb
  cases hb
  refine ⟨kvs[i].2, ?_, z.2⟩
  rw [List.getElem?_eq_getElem hi, ← z.1]
end
section
variable {J : It} {n : Nat} {G : Hp → Prop} {Y : Nat → Hp → V → Hp → Prop}
/-- a dict comprehension: Pv by the turn and the heap (the new dict at D within) -/
theorem dc_it (w : Walk J n G Y) {g : TG} {tt : TT} {tk tv : TE} {vs : List Nat} {σ : L2.St} {H1 : Hp} {D : Addr} {Qd : Hp → Prop} (Pv : Nat → Hp → Prop) (h0 : Pv 0 (upd H1 D (.dT []))) (hG : ∀ i H, i ≤ n → Pv i H → G H)
    (hs : ∀ i x H H', i < n → Pv i H → Y i H x H' → g x (wipe σ vs) H' fun σ2 H2 => wipe σ2 vs = wipe σ vs ∧ tt σ2 H2 fun b H3 =>
      if b = true then tk σ2 H3 fun y H4 => tv σ2 H4 fun z H5 => ∃ kvs k q, y = .ref q ∧ H5 q = some (.tup (k.map kV)) ∧ H5 D = some (.dT kvs) ∧ kvs.length < sizeLine ∧ Pv (i + 1) (upd H5 D (.dT (putK kvs k z))) else Pv (i + 1) H3) (hd : ∀ H, Pv n H → Qd H) :
    ∃ W : Nat → Nat → Hp → Prop, (∃ m, W 0 m (upd H1 D (.dT []))) ∧ ∀ i m H, W i m H →
      (J.stop i H ∧ Qd H) ∨ (J.go i H ∧ ∃ Nx : Hp → Prop, (∀ H', Nx H' → ∃ m', m' < m ∧ W (i + 1) m' H') ∧ ∀ x H', J.yld i H x H' → g x (wipe σ vs) H' fun σ2 H2 => wipe σ2 vs = wipe σ vs ∧ tt σ2 H2 fun b H3 =>
        if b = true then tk σ2 H3 fun y H4 => tv σ2 H4 fun z H5 => ∃ kvs k q, y = .ref q ∧ H5 q = some (.tup (k.map kV)) ∧ H5 D = some (.dT kvs) ∧ kvs.length < sizeLine ∧ Nx (upd H5 D (.dT (putK kvs k z))) else Nx H3) := by
  refine ⟨fun i m H => m = n - i ∧ i ≤ n ∧ Pv i H, ⟨n, by simp, Nat.zero_le _, h0⟩, ?_⟩
  rintro i m H ⟨rfl, hi, p⟩
  have q := hG i H hi p
  by_cases hlt : i < n
  · refine .inr ⟨w.goes i H hlt q, Pv (i + 1), fun H' p' => ⟨n - (i + 1), by omega, rfl, hlt, p'⟩, fun x H' y => hs i x H H' hlt p (w.yields i H x H' hlt q y)⟩
  · have e : i = n := by omega
    subst e
    exact .inl ⟨w.stops H q, hd H p⟩
end
/-- {x: d[x] for x in sorted(d)} -/
theorem i_dsort {α : Type} {k : α → List Int} {P : Hp → V → α → Prop} {K : PySem.W.Frag} {σ : L2.St} {H : Hp} {Q : VK} {D0 : Addr} {kvs : List (List L2.Key × V)} {rs : List α} {i j d : Nat} (mono : ∀ H H' v r, Same H H' → P H v r → P H' v r) (hD : H D0 = some (.dT kvs)) (hk : KVs k P H kvs rs)
    (hd : ∀ r ∈ rs, (k r).length = d) (nd : (rs.map k).Nodup) (hz : kvs.length ≤ 1000) (s1 : σ[i]? = some (some (.ref D0))) (s2 : ∀ x, ((wipe σ [j]).set j (some x))[i]? = some (some (.ref D0))) (s3 : ∀ x, ((wipe σ [j]).set j (some x))[j]? = some (some x)) (s4 : ∀ x, wipe ((wipe σ [j]).set j (some x)) [j] = wipe σ [j])
    (q : ∀ D H' js us, us.Perm rs → us.Pairwise (fun x y => lexL (k y) (k x) = false) → Same H H' → H D = none → H' D = some (.dT js) → KVs k P H' js us → Q (.ref D) H') :
    tDcT (iList K (tCB (rSortDT d) (tCons (tVar i) tNil))) (gName j) tYes (tVar j) (tDGet (tVar i) (tVar j)) [j] σ H Q := by
  refine i_iList (i_CB (i_cons (i_var s1 (i_nil ⟨D0, kvs, rs.map k, rfl, .inl hD, hk.keys, fun n hn => ?_, nd, fun bs ns' p perm pw pb np => ?_⟩))))
  · obtain ⟨r, hr, rfl⟩ := List.mem_map.mp hn
    exact hd r hr
  refine ⟨p, rfl, ⟨_, SqL.of upd_same⟩, fun D nD => ?_⟩
  obtain ⟨us, pu, rfl⟩ := perm_map_inv perm
  have eH : Same H (upd H p (.lst (bs.map V.ref))) := same_new np
  have hp : upd H p (.lst (bs.map V.ref)) p = some (.lst (bs.map V.ref)) := upd_same
  have nD0 : H D = none := eH.free nD
  generalize upd H p (.lst (bs.map V.ref)) = H1 at eH hp nD ⊢
  have lb : bs.length = us.length := by rw [Paired.length pb, List.length_map]
  have lu : us.length = rs.length := pu.length_eq
  have lk := hk.len
  refine dc_it (walk_list (K := K) (a := p) (xs := bs.map V.ref)) (fun m H' => ∃ js, Cxs H1 [(D, .dT js)] H' ∧ KVs k P H1 js (us.take m)) ⟨[], (Cxs.start H1).push _ nD, .nil⟩ (fun m H' _ pv => ?_) (fun m x H2 H3 hm pv y => ?_) fun H' pv => ?_
  · obtain ⟨js, x, _⟩ := pv
    exact SqL.of (x.e _ _ hp)
  · obtain ⟨js, x, hj⟩ := pv
    obtain ⟨rfl, hx⟩ := y
    rw [List.length_map] at hm
    rw [List.getElem?_map] at hx
    cases hb : bs[m]? with
    | none =>
      rw [hb] at hx
      cases hx
    | some b =>
      rw [hb] at hx
      cases hx
      obtain ⟨n, hn, hbn⟩ := L2.paired_get pb hb
      rw [List.getElem?_map] at hn
      cases hu : us[m]? with
      | none =>
        rw [hu] at hn
        cases hn
      | some u =>
        rw [hu] at hn
        have hn : k u = n := Option.some.inj hn
        subst hn
        obtain ⟨v, hv, pv⟩ := hk.get nd (pu.mem_iff.mp (List.mem_of_getElem? hu))
        refine i_gname rfl ⟨s4 _, i_yes (i_iteT (i_var (s3 _) (i_var (s2 _) (i_var (s3 _) ⟨D0, v, rfl, ?_, ?_⟩))))⟩
        · have g : DGet H3 D0 (.ref b) (valV kvs ((k u).map Sum.inl)) := DGet.t (x.e _ _ (eH _ _ hD)) (by rw [kV_ints]; exact x.e _ _ (eH _ _ hbn))
          rwa [hv] at g
        · have lj : js.length ≤ m := by
            rw [hj.len, List.length_take]
            omega
          refine ⟨js, (k u).map Sum.inl, b, rfl, by rw [kV_ints]; exact x.e _ _ (eH _ _ hbn), x.at 0 rfl, lenB' (by omega), _, x.turn 0 rfl _, ?_⟩
          rw [List.take_add_one, hu]
          refine hj.put (fun hm' => ?_) (mono _ _ _ _ eH pv)
          have ndu : (us.map k).Nodup := (pu.map k).nodup_iff.mpr nd
          rw [List.map_take] at hm'
          obtain ⟨l, hl⟩ := List.mem_iff_getElem?.mp hm'
          rw [List.getElem?_take] at hl
          by_cases hlm : l < m
          · rw [if_pos hlm] at hl
            have hum : (us.map k)[m]? = some (k u) := by rw [List.getElem?_map, hu]; rfl
            have := (List.getElem?_inj (List.getElem?_eq_some_iff.mp hl).1 ndu).mp (hl.trans hum.symm)
            omega
          · rw [if_neg hlm] at hl
            cases hl
  · obtain ⟨js, x, hj⟩ := pv
    rw [List.take_of_length_le (by rw [List.length_map]; omega)] at hj
    exact q D H' js us pu (List.pairwise_map.mp pw) (eH.trans x.e) nD0 (x.at 0 rfl) (hj.mono mono x.e)
end VX
set_option maxRecDepth 100000
set_option maxHeartbeats 4000000
/-! Tame data: not deep (k), not heavy (w), its numbers short; what repr and the law's own comparison ask. -/
namespace VX
open PySem PySem.Spec PyProof.Rows L2
structure Tm (k w : Nat) (d : PyData) : Prop where
  ls : d.leavesShort 13 = true
  sh : d.showable = true
  hd : d.hasDict = false
  dp : d.depth ≤ k
  d2 : dep d ≤ k
  nr : nar 1000 d = true
  wt : d.weight ≤ w
theorem Tm.up {k w k' w' : Nat} {d : PyData} (h : Tm k w d) (hk : k ≤ k') (hw : w ≤ w') : Tm k' w' d := ⟨h.ls, h.sh, h.hd, Nat.le_trans h.dp hk, Nat.le_trans h.d2 hk, h.nr, Nat.le_trans h.wt hw⟩
theorem Tm.non : Tm 0 41 .none := ⟨rfl, rfl, rfl, Nat.le_refl _, Nat.le_refl _, rfl, Nat.zero_le _⟩
theorem Tm.bl (b : Bool) : Tm 0 41 (.bool b) := ⟨rfl, rfl, rfl, Nat.le_refl _, Nat.le_refl _, rfl, Nat.zero_le _⟩
theorem log2_le {n k : Nat} (h : n < 2 ^ (k + 1)) : n.log2 ≤ k := by
  by_cases h0 : n = 0
  · subst h0
    exact Nat.zero_le _
  · exact Nat.le_of_lt_succ ((Nat.log2_lt h0).mpr h)
theorem Tm.int {i : Int} (h : i.natAbs < 10 ^ 12) : Tm 0 41 (.int i) := by
  have hl : i.natAbs.log2 ≤ 39 := log2_le (Nat.lt_trans h (by decide))
  refine ⟨?_, ?_, rfl, Nat.le_refl _, Nat.le_refl _, rfl, ?_⟩
  · exact decide_eq_true (PyData.shown_int_le h)
  · exact decide_eq_true (by omega)
  · show (if i == 0 then 0 else i.natAbs.log2 + 1) ≤ 41
    split <;> omega
theorem Tm.str {x : Str} (h : (x.cps.toList.all fun c => decide (c < 16 ^ 8)) = true) (hs : x.cps.size ≤ 41) : Tm 0 41 (.str x) := ⟨h, rfl, rfl, Nat.le_refl _, Nat.le_refl _, rfl, hs⟩
section
variable {k w : Nat}
theorem tm_ls : ∀ {ds : List PyData}, (∀ d ∈ ds, Tm k w d) → PyData.leavesShortAll 13 ds = true
  | [], _ => rfl
  | d :: ds, h => by
    show (d.leavesShort 13 && PyData.leavesShortAll 13 ds) = true
    rw [(h d List.mem_cons_self).ls, tm_ls fun x hx => h x (List.mem_cons_of_mem _ hx)]
    rfl
theorem tm_sh : ∀ {ds : List PyData}, (∀ d ∈ ds, Tm k w d) → PyData.showableAll ds = true
  | [], _ => rfl
  | d :: ds, h => by
    show (d.showable && PyData.showableAll ds) = true
    rw [(h d List.mem_cons_self).sh, tm_sh fun x hx => h x (List.mem_cons_of_mem _ hx)]
    rfl
theorem tm_hd : ∀ {ds : List PyData}, (∀ d ∈ ds, Tm k w d) → PyData.hasDictAll ds = false
  | [], _ => rfl
  | d :: ds, h => by
    show (d.hasDict || PyData.hasDictAll ds) = false
    rw [(h d List.mem_cons_self).hd, tm_hd fun x hx => h x (List.mem_cons_of_mem _ hx)]
    rfl
theorem tm_dp : ∀ {ds : List PyData}, (∀ d ∈ ds, Tm k w d) → PyData.depthAll ds ≤ k
  | [], _ => Nat.zero_le _
  | d :: ds, h => by
    show max d.depth (PyData.depthAll ds) ≤ k
    have h1 := (h d List.mem_cons_self).dp
    have h2 := tm_dp fun x hx => h x (List.mem_cons_of_mem _ hx)
    omega
theorem tm_d2 : ∀ {ds : List PyData}, (∀ d ∈ ds, Tm k w d) → depAll ds ≤ k
  | [], _ => Nat.zero_le _
  | d :: ds, h => by
    show max (dep d) (depAll ds) ≤ k
    have h1 := (h d List.mem_cons_self).d2
    have h2 := tm_d2 fun x hx => h x (List.mem_cons_of_mem _ hx)
    omega
theorem tm_nr : ∀ {ds : List PyData}, (∀ d ∈ ds, Tm k w d) → narAll 1000 ds = true
  | [], _ => rfl
  | d :: ds, h => by
    show (nar 1000 d && narAll 1000 ds) = true
    rw [(h d List.mem_cons_self).nr, tm_nr fun x hx => h x (List.mem_cons_of_mem _ hx)]
    rfl
theorem tm_wt : ∀ {ds : List PyData}, (∀ d ∈ ds, Tm k w d) → PyData.weightAll ds ≤ ds.length * (w + 1)
  | [], _ => Nat.zero_le _
  | d :: ds, h => by
    show d.weight + 1 + PyData.weightAll ds ≤ (ds.length + 1) * (w + 1)
    have h1 := (h d List.mem_cons_self).wt
    have h2 := tm_wt fun x hx => h x (List.mem_cons_of_mem _ hx)
    rw [Nat.succ_mul]
    omega
theorem Tm.list {ds : List PyData} (m : Nat) (h : ∀ d ∈ ds, Tm k w d) (hl : ds.length ≤ m) (hm : m ≤ 1000) : Tm (k + 1) (m * (w + 1)) (.list ds) := by
  refine ⟨tm_ls h, tm_sh h, tm_hd h, Nat.succ_le_succ (tm_dp h), Nat.succ_le_succ (tm_d2 h), ?_, Nat.le_trans (tm_wt h) (Nat.mul_le_mul_right _ hl)⟩
  show (decide (ds.length ≤ 1000) && narAll 1000 ds) = true
  rw [decide_eq_true (Nat.le_trans hl hm), tm_nr h]
  rfl
theorem Tm.tup {ds : List PyData} (m : Nat) (h : ∀ d ∈ ds, Tm k w d) (hl : ds.length ≤ m) (hm : m ≤ 1000) : Tm (k + 1) (m * (w + 1)) (.tuple ds) := by
  refine ⟨tm_ls h, tm_sh h, tm_hd h, Nat.succ_le_succ (tm_dp h), Nat.succ_le_succ (tm_d2 h), ?_, Nat.le_trans (tm_wt h) (Nat.mul_le_mul_right _ hl)⟩
  show (decide (ds.length ≤ 1000) && narAll 1000 ds) = true
  rw [decide_eq_true (Nat.le_trans hl hm), tm_nr h]
  rfl
end
theorem tm_cons {k w : Nat} {d : PyData} {ds : List PyData} (h : Tm k w d) (t : ∀ x ∈ ds, Tm k w x) : ∀ x ∈ d :: ds, Tm k w x := fun x hx => by
  rcases List.mem_cons.mp hx with rfl | hx
  · exact h
  · exact t x hx
theorem tm_nil {k w : Nat} : ∀ x ∈ ([] : List PyData), Tm k w x := fun _ h => (nomatch h)
theorem tm_map {α : Type} {k w : Nat} {f : α → PyData} {rs : List α} (h : ∀ r ∈ rs, Tm k w (f r)) : ∀ x ∈ rs.map f, Tm k w x := fun x hx => by
  obtain ⟨r, hr, rfl⟩ := List.mem_map.mp hx
  exact h r hr
theorem tm_app {k w : Nat} {ds es : List PyData} (h : ∀ x ∈ ds, Tm k w x) (t : ∀ x ∈ es, Tm k w x) : ∀ x ∈ ds ++ es, Tm k w x := fun x hx => (List.mem_append.mp hx).elim (h x) (t x)
/-- repr of tame data -/
theorem i_repD {K : PySem.W.Frag} {H : Hp} {Q : VK} {a : Addr} {d : PyData} {k w : Nat} (hd : Dp K H (.ref a) d) (t : Tm k w d) (hk : k ≤ 60) (hw : w ≤ 2 ^ 20) (q : Q (.str d.shown) H) : rRepD K [.ref a] H Q :=
  ⟨a, d, rfl, hd, t.sh, t.hd, Nat.le_trans t.dp hk, PyData.shown_fits (B := 13) (by decide) (by decide) t.ls (Nat.le_trans t.wt hw), q⟩
end VX
set_option maxRecDepth 100000
set_option maxHeartbeats 4000000
/-! Ways over a line whose wires have hours of at least 1: the least sums, and the least list among the ways with the least sum. No Python here. -/
namespace Way
open VX
/-- a wire (source, target, hours) -/
abbrev Ed := Int × Int × Int
/-- a way from a to b (the list of its boxes) and its hours -/
inductive Wk (E : List Ed) : Int → List Int → Int → Int → Prop
  | one (a : Int) : Wk E a [a] a 0
  | step {a m b c h : Int} {l : List Int} : (a, m, c) ∈ E → Wk E m l b h → Wk E a (a :: l) b (c + h)
section
variable {E : List Ed} {a b h : Int} {l : List Int}
theorem Wk.head (w : Wk E a l b h) : ∃ r, l = a :: r := by
  cases w with
  | one => exact ⟨[], rfl⟩
  | step => exact ⟨_, rfl⟩
theorem Wk.ne (w : Wk E a l b h) : l ≠ [] := by
  obtain ⟨r, rfl⟩ := w.head
  simp
theorem Wk.last (w : Wk E a l b h) : l.getLast? = some b := by
  induction w with
  | one => rfl
  | @step a m b c h l _ w ih =>
    obtain ⟨r, rfl⟩ := w.head
    rw [List.getLast?_cons_cons]
    exact ih
theorem Wk.nonneg (pos : ∀ e ∈ E, 1 ≤ e.2.2) (w : Wk E a l b h) : 0 ≤ h := by
  induction w with
  | one => exact Int.le_refl _
  | step he _ ih =>
    have := pos _ he
    simp only at this
    omega
/-- a way of no hours stands still -/
theorem Wk.zero (pos : ∀ e ∈ E, 1 ≤ e.2.2) (w : Wk E a l b h) (h0 : h ≤ 0) : l = [a] ∧ a = b := by
  cases w with
  | one => exact ⟨rfl, rfl⟩
  | step he w =>
    have h1 := pos _ he
    have h2 := w.nonneg pos
    simp only at h1
    omega
/-- at the end one wire more -/
theorem Wk.snoc {m c : Int} (w : Wk E a l b h) (he : (b, m, c) ∈ E) : Wk E a (l ++ [m]) m (h + c) := by
  induction w with
  | one a =>
    have := Wk.step he (Wk.one (E := E) m)
    simpa [Int.add_comm] using this
  | @step a n b c' h l h1 _ ih =>
    have := Wk.step h1 (ih he)
    rw [Int.add_assoc]
    exact this
/-- without its last wire -/
theorem Wk.init (w : Wk E a l b h) : (l = [a] ∧ b = a ∧ h = 0) ∨ ∃ l' m c h', l = l' ++ [b] ∧ Wk E a l' m h' ∧ (m, b, c) ∈ E ∧ h = h' + c := by
  induction w with
  | one => exact .inl ⟨rfl, rfl, rfl⟩
  | @step a m b c h l h1 w ih =>
    refine .inr ?_
    rcases ih with ⟨rfl, rfl, rfl⟩ | ⟨l', m', c', h', rfl, w', he, rfl⟩
    · exact ⟨[a], a, c, 0, rfl, .one a, h1, by omega⟩
    · exact ⟨a :: l', m', c', c + h', rfl, .step h1 w', he, by omega⟩
theorem Wk.all {P : Int → Prop} (hE : ∀ e ∈ E, P e.2.1) (ha : P a) (w : Wk E a l b h) : ∀ x ∈ l, P x := by
  induction w with
  | one =>
    intro x hx
    rw [List.mem_singleton] at hx
    subst hx
    exact ha
  | @step a m b c h l h1 _ ih =>
    intro x hx
    rcases List.mem_cons.mp hx with rfl | hx
    · exact ha
    · exact ih (hE _ h1) x hx
end
/-- sums to the target b: sound, and closed -/
structure Sums (E : List Ed) (b : Int) (d : Int → Option Int) : Prop where
  sound : ∀ v h, d v = some h → ∃ l, Wk E v l b h
  tgt : d b = some 0
  closed : ∀ s t c h, (s, t, c) ∈ E → d t = some h → ∃ h', d s = some h' ∧ h' ≤ h + c
section
variable {E : List Ed} {b : Int} {d : Int → Option Int}
theorem Sums.least (S : Sums E b d) {v h : Int} {l : List Int} (w : Wk E v l b h) : ∃ h', d v = some h' ∧ h' ≤ h := by
  have : ∀ {v x h : Int} {l : List Int}, Wk E v l x h → x = b → ∃ h', d v = some h' ∧ h' ≤ h := by
    intro v x h l w
    induction w with
    | one a =>
      intro e
      subst e
      exact ⟨0, S.tgt, Int.le_refl _⟩
    | @step a m x c h l he _ ih =>
      intro e
      obtain ⟨h1, d1, l1⟩ := ih e
      obtain ⟨h2, d2, l2⟩ := S.closed _ _ _ _ he d1
      exact ⟨h2, d2, by omega⟩
  exact this w rfl
theorem Sums.none (S : Sums E b d) {v : Int} (hv : d v = none) {h : Int} {l : List Int} : ¬ Wk E v l b h := fun w => by
  obtain ⟨h', e, _⟩ := S.least w
  rw [hv] at e
  cases e
theorem Sums.nonneg (S : Sums E b d) (pos : ∀ e ∈ E, 1 ≤ e.2.2) {v h : Int} (hv : d v = some h) : 0 ≤ h := by
  obtain ⟨l, w⟩ := S.sound _ _ hv
  exact w.nonneg pos
theorem Sums.at0 (S : Sums E b d) (pos : ∀ e ∈ E, 1 ≤ e.2.2) {v h : Int} (hv : d v = some h) (h0 : h ≤ 0) : v = b := by
  obtain ⟨l, w⟩ := S.sound _ _ hv
  exact (w.zero pos h0).2
/-- a way with the least sum: its first step leads to a box with just the rest -/
theorem Sums.step (S : Sums E b d) {a m c h : Int} {l : List Int} (he : (a, m, c) ∈ E) (w : Wk E m l b h) (hd : d a = some (c + h)) : d m = some h := by
  obtain ⟨h1, d1, l1⟩ := S.least w
  obtain ⟨h2, d2, l2⟩ := S.closed _ _ _ _ he d1
  rw [hd] at d2
  cases d2
  have : h1 = h := by omega
  rw [d1, this]
/-- and no box stands in it twice: the sums fall from box to box -/
theorem Sums.falls (S : Sums E b d) (pos : ∀ e ∈ E, 1 ≤ e.2.2) {v h : Int} {l : List Int} (w : Wk E v l b h) (hd : d v = some h) : l.Nodup ∧ ∀ x ∈ l, ∃ k, d x = some k ∧ k ≤ h := by
  have : ∀ {v x h : Int} {l : List Int}, Wk E v l x h → x = b → d v = some h → l.Nodup ∧ ∀ y ∈ l, ∃ k, d y = some k ∧ k ≤ h := by
    intro v x h l w
    induction w with
    | one a =>
      intro e hd
      refine ⟨by simp, fun y hy => ?_⟩
      rw [List.mem_singleton] at hy
      subst hy
      exact ⟨0, hd, Int.le_refl _⟩
    | @step a m x c h l he w ih =>
      intro e hd
      have w' : Wk E m l b h := e ▸ w
      have dm := S.step he w' hd
      obtain ⟨n, k⟩ := ih e dm
      have hc := pos _ he
      simp only at hc
      refine ⟨List.nodup_cons.mpr ⟨fun hm => ?_, n⟩, fun y hy => ?_⟩
      · obtain ⟨k', e1, e2⟩ := k a hm
        rw [hd] at e1
        cases e1
        omega
      · rcases List.mem_cons.mp hy with rfl | hy
        · exact ⟨_, hd, Int.le_refl _⟩
        · obtain ⟨k', e1, e2⟩ := k y hy
          exact ⟨k', e1, by omega⟩
  exact this w rfl hd
/-- the boxes to which a way with the least sum may go on -/
def Next (E : List Ed) (d : Int → Option Int) (v t : Int) : Prop := ∃ c h k, (v, t, c) ∈ E ∧ d t = some h ∧ d v = some k ∧ h + c = k
/-- the way that goes on to the least such box each time -/
inductive Gr (E : List Ed) (b : Int) (d : Int → Option Int) : Int → List Int → Prop
  | stop : Gr E b d b [b]
  | go {v t : Int} {l : List Int} : v ≠ b → Next E d v t → (∀ u, Next E d v u → t ≤ u) → Gr E b d t l → Gr E b d v (v :: l)
theorem Gr.head {v : Int} {l : List Int} (g : Gr E b d v l) : ∃ r, l = v :: r := by
  cases g with
  | stop => exact ⟨[], rfl⟩
  | go => exact ⟨_, rfl⟩
/-- it is a way with the least sum -/
theorem Gr.way (S : Sums E b d) {v : Int} {l : List Int} (g : Gr E b d v l) : ∀ h, d v = some h → Wk E v l b h := by
  induction g with
  | stop =>
    intro h hd
    rw [S.tgt] at hd
    cases hd
    exact .one b
  | @go v t l _ nx _ _ ih =>
    intro h hd
    obtain ⟨c, h1, k, he, dt, dv, e⟩ := nx
    rw [hd] at dv
    cases dv
    have := Wk.step he (ih _ dt)
    rwa [show c + h1 = h by omega] at this
/-- no way with the least sum is a lesser list -/
theorem Gr.least (S : Sums E b d) (pos : ∀ e ∈ E, 1 ≤ e.2.2) {v : Int} {l : List Int} (g : Gr E b d v l) : ∀ {h : Int} {l' : List Int}, d v = some h → Wk E v l' b h → lexL l' l = false := by
  induction g with
  | stop =>
    intro h l' hd w
    rw [S.tgt] at hd
    cases hd
    rw [(w.zero pos (Int.le_refl _)).1]
    exact lexL_self _
  | @go v t l nv nx mn gr ih =>
    intro h l' hd w
    cases w with
    | one => exact absurd rfl nv
    | @step _ m _ c h l2 he w =>
      have dm := S.step he w hd
      have hn : Next E d v m := ⟨c, h, c + h, he, dm, hd, by omega⟩
      have hle := mn m hn
      rw [lexL_same]
      obtain ⟨r, rfl⟩ := gr.head
      obtain ⟨r2, rfl⟩ := w.head
      by_cases e : m = t
      · subst e
        exact ih dm w
      · rw [lexL_ne e]
        exact decide_eq_false (by omega)
/-- where there is a way on, there is one (the target has been reached, or the sum is above 0) -/
theorem Sums.next (S : Sums E b d) {v h : Int} (hd : d v = some h) (hv : v ≠ b) : ∃ t, Next E d v t := by
  obtain ⟨l, w⟩ := S.sound _ _ hd
  cases w with
  | one => exact absurd rfl hv
  | @step _ m _ c h l he w => exact ⟨m, c, h, c + h, he, S.step he w hd, hd, by omega⟩
theorem Next.falls (pos : ∀ e ∈ E, 1 ≤ e.2.2) {v t : Int} (n : Next E d v t) : ∃ h k, d t = some h ∧ d v = some k ∧ h < k := by
  obtain ⟨c, h, k, he, dt, dv, e⟩ := n
  have := pos _ he
  simp only at this
  exact ⟨h, k, dt, dv, by omega⟩
end
/-! ### all ways without a box twice, as the law lists them: turn by turn one wire longer -/
/-- (hours, way), one wire on -/
def grown (E : List Ed) (last : List (Int × List Int)) : List (Int × List Int) :=
  last.flatMap fun p => (E.filter fun e => decide (p.2.getLast? = some e.1 ∧ e.2.1 ∉ p.2)).map fun e => (p.1 + e.2.2, p.2 ++ [e.2.1])
def level (E : List Ed) (a : Int) : Nat → List (Int × List Int)
  | 0 => [(0, [a])]
  | k + 1 => grown E (level E a k)
def upTo (E : List Ed) (a : Int) : Nat → List (Int × List Int)
  | 0 => level E a 0
  | k + 1 => upTo E a k ++ level E a (k + 1)
theorem level_mem {E : List Ed} {a : Int} : ∀ {k : Nat} {h : Int} {l : List Int}, (h, l) ∈ level E a k ↔ (∃ b, Wk E a l b h) ∧ l.Nodup ∧ l.length = k + 1
  | 0, h, l => by
    constructor
    · intro hm
      rw [level, List.mem_singleton] at hm
      cases hm
      exact ⟨⟨a, .one a⟩, by simp, rfl⟩
    · rintro ⟨⟨b, w⟩, _, hl⟩
      rcases w.init with ⟨rfl, _, rfl⟩ | ⟨l', m, c, h', rfl, w', _, _⟩
      · exact List.mem_singleton.mpr rfl
      · rw [List.length_append, List.length_singleton] at hl
        exact absurd (List.eq_nil_of_length_eq_zero (by omega)) w'.ne
  | k + 1, h, l => by
    rw [level, grown, List.mem_flatMap]
    constructor
    · rintro ⟨⟨h1, l1⟩, hm, hx⟩
      obtain ⟨⟨b, w⟩, nd, hl⟩ := level_mem.mp hm
      obtain ⟨⟨s, t, c⟩, he, e⟩ := List.mem_map.mp hx
      cases e
      obtain ⟨he, hc⟩ := List.mem_filter.mp he
      obtain ⟨h2, h3⟩ := of_decide_eq_true hc
      rw [w.last] at h2
      cases h2
      refine ⟨⟨t, w.snoc he⟩, ?_, by rw [List.length_append, List.length_singleton, hl]⟩
      rw [List.nodup_append]
      refine ⟨nd, by simp, fun x hx' y hy e => ?_⟩
      rw [List.mem_singleton] at hy
      have hy : y = t := hy
      rw [e, hy] at hx'
      exact h3 hx'
    · rintro ⟨⟨b, w⟩, nd, hl⟩
      rcases w.init with ⟨rfl, _, _⟩ | ⟨l', m, c, h', rfl, w', he, rfl⟩
      · simp at hl
      · rw [List.nodup_append] at nd
        refine ⟨(h', l'), level_mem.mpr ⟨⟨m, w'⟩, nd.1, by rw [List.length_append, List.length_singleton] at hl; omega⟩, ?_⟩
        refine List.mem_map.mpr ⟨(m, b, c), List.mem_filter.mpr ⟨he, decide_eq_true ⟨w'.last, fun hm => nd.2.2 b hm b (by simp) rfl⟩⟩, rfl⟩
theorem upTo_mem {E : List Ed} {a : Int} : ∀ {k : Nat} {h : Int} {l : List Int}, (h, l) ∈ upTo E a k ↔ (∃ b, Wk E a l b h) ∧ l.Nodup ∧ l.length ≤ k + 1
  | 0, h, l => by
    rw [upTo, level_mem]
    constructor
    · rintro ⟨w, n, e⟩
      exact ⟨w, n, by omega⟩
    · rintro ⟨w, n, e⟩
      refine ⟨w, n, ?_⟩
      obtain ⟨b, w⟩ := w
      have : l.length ≠ 0 := fun z => w.ne (List.eq_nil_of_length_eq_zero z)
      omega
  | k + 1, h, l => by
    rw [upTo, List.mem_append, upTo_mem, level_mem]
    constructor
    · rintro (⟨w, n, e⟩ | ⟨w, n, e⟩)
      · exact ⟨w, n, by omega⟩
      · exact ⟨w, n, by omega⟩
    · rintro ⟨w, n, e⟩
      by_cases z : l.length ≤ k + 1
      · exact .inl ⟨w, n, z⟩
      · exact .inr ⟨w, n, by omega⟩
/-- a list of boxes of 0 .. n - 1 without one twice has at most n -/
theorem nodup_short : ∀ (n : Nat) {l : List Int}, l.Nodup → (∀ x ∈ l, 0 ≤ x ∧ x < n) → l.length ≤ n
  | 0, [], _, _ => Nat.le_refl _
  | 0, x :: _, _, h => by
    have := h x List.mem_cons_self
    omega
  | n + 1, l, nd, h => by
    have h2 := nodup_short n (l := l.filter fun x : Int => decide (x ≠ (n : Int))) (nd.filter _) fun x hx => by
      obtain ⟨h1, h2⟩ := List.mem_filter.mp hx
      have := of_decide_eq_true h2
      have := h x h1
      omega
    have h3 : l.length ≤ (l.filter fun x : Int => decide (x ≠ (n : Int))).length + 1 := by
      clear h2 h
      induction l with
      | nil => exact Nat.zero_le _
      | cons x l ih =>
        rw [List.nodup_cons] at nd
        by_cases e : x = (n : Int)
        · have : l.filter (fun x : Int => decide (x ≠ (n : Int))) = l := List.filter_eq_self.mpr fun y hy => decide_eq_true fun z => nd.1 (by rw [e, ← z]; exact hy)
          rw [List.filter_cons_of_neg (by simp [e]), this]
          exact Nat.le_refl _
        · have := ih nd.2
          rw [List.filter_cons_of_pos (by simp [e]), List.length_cons, List.length_cons]
          omega
    omega
end Way
set_option maxRecDepth 100000
set_option maxHeartbeats 4000000
/-! What the search of least sums keeps: a dict by boxes, its keys, its bounds, its measure. -/
namespace VX
open PySem PySem.Spec PyProof.Rows L2 Way
/-- a dict of the boxes is, its values by d -/
structure DI (kvs : List (L2.Key × V)) (ks : List Int) (d : Int → Option Int) : Prop where
  keys : kvs.map (·.1) = ks.map Sum.inl
  val : ∀ v, valV kvs (.inl v) = (d v).map V.int
  nd : ks.Nodup
  dom : ∀ v, v ∈ ks ↔ ∃ h, d v = some h
/-- d with one value put -/
def set1 (d : Int → Option Int) (s h : Int) : Int → Option Int := fun v => if v = s then some h else d v
theorem set1_same {d : Int → Option Int} {s h : Int} : set1 d s h s = some h := if_pos rfl
theorem set1_ne {d : Int → Option Int} {s h v : Int} (e : v ≠ s) : set1 d s h v = d v := if_neg e
theorem any_keys {kvs : List (L2.Key × V)} {ks : List Int} (h : kvs.map (·.1) = ks.map Sum.inl) (s : Int) : (kvs.any fun kv => decide (kv.1 = Sum.inl s)) = decide (s ∈ ks) := by
  induction kvs generalizing ks with
  | nil =>
    cases ks with
    | nil => rfl
    | cons _ _ => cases h
  | cons p kvs ih =>
    cases ks with
    | nil => cases h
    | cons k ks =>
      obtain ⟨h1, h2⟩ := List.cons.inj h
      rw [List.any_cons, ih h2, show p.1 = Sum.inl k from h1]
      by_cases e : s = k
      · subst e
        simp
      · have e2 : (Sum.inl k : L2.Key) ≠ Sum.inl s := fun z => e (Sum.inl.inj z).symm
        simp [e, e2]
theorem DI.put {kvs : List (L2.Key × V)} {ks : List Int} {d : Int → Option Int} (x : DI kvs ks d) (s h : Int) : DI (putK kvs (.inl s) (.int h)) (if s ∈ ks then ks else ks ++ [s]) (set1 d s h) := by
  have hv : ∀ v, valV (putK kvs (.inl s) (.int h)) (.inl v) = (set1 d s h v).map V.int := fun v => by
    rw [valV_put]
    by_cases e : v = s
    · subst e
      rw [if_pos rfl, set1_same]
      rfl
    · rw [if_neg (fun z => e (Sum.inl.inj z)), set1_ne e]
      exact x.val v
  by_cases hs : s ∈ ks
  · rw [if_pos hs]
    refine ⟨?_, hv, x.nd, fun v => ?_⟩
    · unfold putK
      rw [any_keys x.keys, decide_eq_true hs, if_pos rfl, List.map_map]
      rw [← x.keys]
      apply List.map_congr_left
      intro p _
      show (if p.1 = Sum.inl s then (p.1, V.int h) else p).1 = p.1
      split <;> rfl
    · rw [x.dom v]
      by_cases e : v = s
      · subst e
        rw [set1_same]
        exact ⟨fun _ => ⟨h, rfl⟩, fun _ => (x.dom v).mp hs⟩
      · rw [set1_ne e]
  · rw [if_neg hs]
    refine ⟨?_, hv, ?_, fun v => ?_⟩
    · unfold putK
      rw [any_keys x.keys, decide_eq_false hs, if_neg Bool.false_ne_true, List.map_append, List.map_append, x.keys]
      rfl
    · rw [List.nodup_append]
      exact ⟨x.nd, by simp, fun a ha c hc e => hs (by have : c = s := by simpa using hc
                                                      rw [← this, ← e]
                                                      exact ha)⟩
    · rw [List.mem_append, List.mem_singleton, x.dom v]
      by_cases e : v = s
      · subst e
        rw [set1_same]
        exact ⟨fun _ => ⟨h, rfl⟩, fun _ => .inr rfl⟩
      · rw [set1_ne e]
        exact ⟨fun z => z.elim id fun z => absurd z e, .inl⟩
theorem DI.len {kvs : List (L2.Key × V)} {ks : List Int} {d : Int → Option Int} (x : DI kvs ks d) : kvs.length = ks.length := by
  have := congrArg List.length x.keys
  rwa [List.length_map, List.length_map] at this
/-- the measure: over the boxes 0 .. n - 1 -/
def mu (d : Int → Option Int) (B : Nat) (n : Nat) : Nat := ((List.range n).map fun v : Nat => (d (v : Int)).elim (B + 1) Int.toNat).sum
theorem mu_less {d : Int → Option Int} {B : Nat} {s h : Int} (s0 : 0 ≤ s) (hl : h.toNat < (d s).elim (B + 1) Int.toNat) : ∀ n : Nat, (mu (set1 d s h) B n ≤ mu d B n) ∧ (s < n → mu (set1 d s h) B n < mu d B n)
  | 0 => ⟨Nat.le_refl _, fun z => by omega⟩
  | n + 1 => by
    have ih := mu_less s0 hl n
    have e : ∀ f : Int → Option Int, mu f B (n + 1) = mu f B n + (f (n : Int)).elim (B + 1) Int.toNat := fun f => by
      unfold mu
      rw [List.range_succ, List.map_append, List.sum_append]
      simp
    rw [e, e]
    by_cases z : (n : Int) = s
    · rw [z, set1_same]
      constructor
      · have := ih.1
        show _ + h.toNat ≤ _
        omega
      · intro _
        have := ih.1
        show _ + h.toNat < _
        omega
    · rw [set1_ne z]
      constructor
      · have := ih.1
        omega
      · intro hs
        have := ih.2 (by omega)
        omega
/-- what the search keeps, whatever it has found -/
structure SI (E : List Ed) (b : Int) (n : Nat) (M : Nat) (ks : List Int) (d : Int → Option Int) : Prop where
  sound : ∀ v h, d v = some h → ∃ l, Wk E v l b h
  tgt : d b = some 0
  rng : ∀ v ∈ ks, 0 ≤ v ∧ v < n
  big : ∀ v h, d v = some h → 0 ≤ h ∧ h ≤ ((ks.length - 1 : Nat) : Int) * M
/-- one sum more, or a lesser one -/
theorem SI.put {E : List Ed} {b : Int} {n M : Nat} {kvs : List (L2.Key × V)} {ks : List Int} {d : Int → Option Int} (x : SI E b n M ks d) (y : DI kvs ks d) (pos : ∀ e ∈ E, 1 ≤ e.2.2 ∧ e.2.2 ≤ M) (hr : ∀ e ∈ E, (0 ≤ e.1 ∧ e.1 < n)) {s t c k : Int} (he : (s, t, c) ∈ E) (ht : d t = some k) (hs : ∀ h, d s = some h → k + c < h) :
    SI E b n M (if s ∈ ks then ks else ks ++ [s]) (set1 d s (k + c)) ∧ mu (set1 d s (k + c)) (n * M) n < mu d (n * M) n := by
  have p := pos _ he
  have r := hr _ he
  simp only at p r
  have kb := x.big t k ht
  have w : ∃ l, Wk E s l b (k + c) := by
    obtain ⟨l, w⟩ := x.sound t k ht
    exact ⟨s :: l, by rw [Int.add_comm]; exact .step he w⟩
  have lk : ks.length ≤ n := nodup_short n y.nd x.rng
  have kpos : 1 ≤ ks.length := by
    have := (y.dom b).mpr ⟨0, x.tgt⟩
    exact List.length_pos_of_mem this
  have hM : ((ks.length - 1 : Nat) : Int) * M + M = (ks.length : Int) * M := by
    have e : (ks.length : Int) = ((ks.length - 1 : Nat) : Int) + 1 := by omega
    rw [e, Int.add_mul]
    omega
  have hB : ((ks.length : Nat) : Int) * M ≤ ((n * M : Nat) : Int) := by
    rw [Int.natCast_mul]
    exact Int.mul_le_mul_of_nonneg_right (by omega) (by omega)
  have tgt : set1 d s (k + c) b = some 0 := by
    by_cases e : b = s
    · subst e
      have := hs 0 x.tgt
      omega
    · rw [set1_ne e]
      exact x.tgt
  have snd : ∀ v h, set1 d s (k + c) v = some h → ∃ l, Wk E v l b h := fun v h hv => by
    by_cases e : v = s
    · subst e
      rw [set1_same] at hv
      cases hv
      exact w
    · rw [set1_ne e] at hv
      exact x.sound v h hv
  by_cases hm : s ∈ ks
  · rw [if_pos hm]
    obtain ⟨h0, hd⟩ := (y.dom s).mp hm
    have hlt := hs h0 hd
    have hb := x.big s h0 hd
    refine ⟨⟨snd, tgt, x.rng, fun v h hv => ?_⟩, (mu_less r.1 ?_ n).2 r.2⟩
    · by_cases e : v = s
      · subst e
        rw [set1_same] at hv
        cases hv
        exact ⟨by omega, by omega⟩
      · rw [set1_ne e] at hv
        exact x.big v h hv
    · rw [hd]
      show (k + c).toNat < h0.toNat
      omega
  · rw [if_neg hm]
    have hd : d s = none := by
      cases e : d s with
      | none => rfl
      | some h => exact absurd ((y.dom s).mpr ⟨h, e⟩) hm
    have l1 : (ks ++ [s]).length - 1 = ks.length := by
      rw [List.length_append, List.length_singleton]
      omega
    refine ⟨⟨snd, tgt, fun v hv => ?_, fun v h hv => ?_⟩, (mu_less r.1 ?_ n).2 r.2⟩
    · rcases List.mem_append.mp hv with hv | hv
      · exact x.rng v hv
      · rw [List.mem_singleton] at hv
        subst hv
        exact r
    · rw [l1]
      by_cases e : v = s
      · subst e
        rw [set1_same] at hv
        cases hv
        exact ⟨by omega, by omega⟩
      · rw [set1_ne e] at hv
        have := x.big v h hv
        exact ⟨this.1, by omega⟩
    · rw [hd]
      show (k + c).toNat < n * M + 1
      omega
end VX
set_option maxRecDepth 100000
/-! The least way from a box back to itself. -/
namespace Way
open VX
theorem lexL_eq : ∀ l m : List Int, lexL l m = false → lexL m l = false → l = m
  | [], [], _, _ => rfl
  | [], _ :: _, h, _ => by cases h
  | _ :: _, [], _, h => by cases h
  | x :: l, y :: m, h1, h2 => by
    by_cases e : x = y
    · subst e
      rw [lexL_same] at h1 h2
      rw [lexL_eq l m h1 h2]
    · rw [lexL_ne e] at h1
      rw [lexL_ne (Ne.symm e)] at h2
      have a1 := of_decide_eq_false h1
      have a2 := of_decide_eq_false h2
      omega
/-- the trips by their first wire: hours, box behind it -/
def tOf (d : Int → Option Int) (b : Int) (e : Ed) : Option (Int × Int) := if e.1 = b then (d e.2.1).map fun h => (e.2.2 + h, e.2.1) else none
def trips (E : List Ed) (d : Int → Option Int) (b : Int) : List (Int × Int) := E.filterMap (tOf d b)
theorem trips_step {E : List Ed} {d : Int → Option Int} {b : Int} {i : Nat} {e : Ed} (h : E[i]? = some e) : trips (E.take (i + 1)) d b = trips (E.take i) d b ++ (tOf d b e).toList := by
  unfold trips
  rw [List.take_add_one, h, List.filterMap_append]
  congr 1
theorem trips_len {E : List Ed} {d : Int → Option Int} {b : Int} : (trips E d b).length ≤ E.length := List.length_filterMap_le _ _
theorem trips_mem {E : List Ed} {d : Int → Option Int} {b h t : Int} : (h, t) ∈ trips E d b ↔ ∃ c k, (b, t, c) ∈ E ∧ d t = some k ∧ h = c + k := by
  unfold trips
  rw [List.mem_filterMap]
  constructor
  · rintro ⟨⟨s, u, c⟩, he, e⟩
    unfold tOf at e
    by_cases z : s = b
    · rw [if_pos z] at e
      obtain ⟨k, hk, e⟩ := Option.map_eq_some_iff.mp e
      cases e
      subst z
      exact ⟨c, k, he, hk, rfl⟩
    · rw [if_neg z] at e
      cases e
  · rintro ⟨c, k, he, hk, rfl⟩
    refine ⟨_, he, ?_⟩
    unfold tOf
    rw [if_pos rfl]
    show (d t).map _ = _
    rw [hk]
    rfl
/-- the least way back, or none -/
def Best (E : List Ed) (b : Int) : Option (Int × List Int) → Prop
  | none => ∀ h l, Wk E b l b h → l = [b]
  | some (h, l) => Wk E b l b h ∧ l ≠ [b] ∧ (∃ w, l = w ++ [b] ∧ w.Nodup) ∧ ∀ h' l', Wk E b l' b h' → l' ≠ [b] → lexL (h' :: l') (h :: l) = false
section
variable {E : List Ed} {b : Int} {d : Int → Option Int}
/-- a greedy way has no box twice, and its boxes have sums -/
theorem Gr.nodup (pos : ∀ e ∈ E, 1 ≤ e.2.2) (S : Sums E b d) {v : Int} {l : List Int} (g : Gr E b d v l) : l.Nodup ∧ ∀ u ∈ l, ∃ h k, d u = some h ∧ d v = some k ∧ h ≤ k := by
  induction g with
  | stop =>
    refine ⟨by simp, fun u hu => ?_⟩
    rw [List.mem_singleton] at hu
    subst hu
    exact ⟨0, 0, S.tgt, S.tgt, Int.le_refl _⟩
  | @go v t l nv nx mn g ih =>
    obtain ⟨nd, hb⟩ := ih
    obtain ⟨h, k, dt, dv, lt⟩ := nx.falls pos
    refine ⟨List.nodup_cons.mpr ⟨fun hm => ?_, nd⟩, fun u hu => ?_⟩
    · obtain ⟨h1, k1, e1, e2, le⟩ := hb v hm
      rw [dv] at e1
      rw [dt] at e2
      cases e1
      cases e2
      omega
    · rcases List.mem_cons.mp hu with rfl | hu
      · exact ⟨k, k, dv, dv, Int.le_refl _⟩
      · obtain ⟨h1, k1, e1, e2, le⟩ := hb u hu
        rw [dt] at e2
        cases e2
        exact ⟨h1, k, e1, dv, by omega⟩
theorem Gr.end {v : Int} {l : List Int} (g : Gr E b d v l) : ∃ w, l = w ++ [b] := by
  induction g with
  | stop => exact ⟨[], rfl⟩
  | @go v t l _ _ _ _ ih =>
    obtain ⟨w, rfl⟩ := ih
    exact ⟨v :: w, rfl⟩
theorem trip_best (S : Sums E b d) (pos : ∀ e ∈ E, 1 ≤ e.2.2) {h t : Int} {l : List Int} (hm : (h, t) ∈ trips E d b) (least : ∀ p ∈ trips E d b, lexL [p.1, p.2] [h, t] = false) (g : Gr E b d t l) : Best E b (some (h, b :: l)) := by
  obtain ⟨c, k, he, dt, rfl⟩ := trips_mem.mp hm
  have wk := g.way S k dt
  obtain ⟨w, hw⟩ := g.end
  have nd := (g.nodup pos S).1
  refine ⟨.step he wk, fun z => wk.ne (List.cons.inj z).2, ⟨b :: w, by rw [hw]; rfl, ?_⟩, fun h' l' w' ne => ?_⟩
  · rw [hw, List.nodup_append] at nd
    rw [List.nodup_cons]
    exact ⟨fun hb => nd.2.2 b hb b (by simp) rfl, nd.1⟩
  · cases w' with
    | one => exact absurd rfl ne
    | @step _ m _ c' h2 l2 he' w2 =>
      obtain ⟨k', dm, le⟩ := S.least w2
      have q := least (c' + k', m) (trips_mem.mpr ⟨c', k', he', dm, rfl⟩)
      simp only at q
      by_cases e : c' + h2 = c + k
      · rw [e, lexL_same, lexL_same]
        by_cases e3 : c' + k' = c + k
        · have ek : k' = h2 := by omega
          subst ek
          rw [e3, lexL_same] at q
          by_cases e4 : m = t
          · subst e4
            exact g.least S pos dm w2
          · rw [lexL_ne e4] at q
            obtain ⟨r, rfl⟩ := g.head
            obtain ⟨r2, rfl⟩ := w2.head
            rw [lexL_ne e4]
            exact q
        · rw [lexL_ne e3] at q
          have := of_decide_eq_false q
          omega
      · rw [lexL_ne e]
        by_cases e3 : c' + k' = c + k
        · exact decide_eq_false (by omega)
        · rw [lexL_ne e3] at q
          have := of_decide_eq_false q
          exact decide_eq_false (by omega)
theorem trip_none (S : Sums E b d) (h : trips E d b = []) : Best E b none := fun h' l w => by
  cases w with
  | one => rfl
  | @step _ m _ c' h2 l2 he w2 =>
    obtain ⟨k, dm, _⟩ := S.least w2
    have : (c' + k, m) ∈ trips E d b := trips_mem.mpr ⟨c', k, he, dm, rfl⟩
    rw [h] at this
    cases this
end
/-- the law's list: a way without a box twice of at most n boxes, and a wire back -/
def backs (E : List Ed) (b : Int) (n : Nat) : List (Int × List Int) :=
  (upTo E b n).flatMap fun p => (E.filter fun e => decide (p.2.getLast? = some e.1 ∧ e.2.1 = b)).map fun e => (p.1 + e.2.2, p.2 ++ [b])
theorem backs_mem {E : List Ed} {b : Int} {n : Nat} {h : Int} {l : List Int} : (h, l) ∈ backs E b n ↔ ∃ w h1 v c, Wk E b w v h1 ∧ w.Nodup ∧ w.length ≤ n + 1 ∧ (v, b, c) ∈ E ∧ h = h1 + c ∧ l = w ++ [b] := by
  unfold backs
  rw [List.mem_flatMap]
  constructor
  · rintro ⟨⟨h1, w⟩, hm, hx⟩
    obtain ⟨⟨v, wk⟩, nd, hl⟩ := upTo_mem.mp hm
    obtain ⟨⟨s, t, c⟩, he, e⟩ := List.mem_map.mp hx
    cases e
    obtain ⟨he2, hc⟩ := List.mem_filter.mp he
    clear he
    obtain ⟨h2, h3⟩ := of_decide_eq_true hc
    rw [wk.last] at h2
    have h2 : v = s := Option.some.inj h2
    subst h2
    have h3 : t = b := h3
    subst h3
    exact ⟨w, h1, v, c, wk, nd, hl, he2, rfl, rfl⟩
  · rintro ⟨w, h1, v, c, wk, nd, hl, he, rfl, rfl⟩
    exact ⟨(h1, w), upTo_mem.mpr ⟨⟨v, wk⟩, nd, hl⟩, List.mem_map.mpr ⟨(v, b, c), List.mem_filter.mpr ⟨he, decide_eq_true ⟨wk.last, rfl⟩⟩, rfl⟩⟩
/-- what the law is due -/
def Due (E : List Ed) (b : Int) (n : Nat) : Option (Int × List Int) → Prop
  | none => backs E b n = []
  | some p => p ∈ backs E b n ∧ ∀ q ∈ backs E b n, lexL (q.1 :: q.2) (p.1 :: p.2) = false
theorem Wk.mem {E E' : List Ed} (h : ∀ e, e ∈ E → e ∈ E') {a b k : Int} {l : List Int} (w : Wk E a l b k) : Wk E' a l b k := by
  induction w with
  | one a => exact .one a
  | step he _ ih => exact .step (h _ he) ih
/-- they are the same -/
theorem due_best {E E' : List Ed} (hE : ∀ e, e ∈ E ↔ e ∈ E') {b : Int} {n : Nat} (rng : ∀ e ∈ E', 0 ≤ e.2.1 ∧ e.2.1 < (n : Int) + 1) (hb : 0 ≤ b ∧ b < (n : Int) + 1) {o o' : Option (Int × List Int)} (h1 : Due E' b n o) (h2 : Best E b o') : o = o' := by
  have closed : ∀ p ∈ backs E' b n, Wk E b p.2 b p.1 ∧ p.2 ≠ [b] := fun ⟨h, l⟩ hp => by
    obtain ⟨w, h1, v, c, wk, nd, hl, he, e1, e2⟩ := backs_mem.mp hp
    subst e1 e2
    refine ⟨(wk.snoc he).mem fun e z => (hE e).mpr z, fun z => ?_⟩
    have z : w ++ [b] = [] ++ [b] := z
    exact wk.ne (List.append_cancel_right z)
  have there : ∀ h w, Wk E b (w ++ [b]) b h → w ++ [b] ≠ [b] → w.Nodup → (h, w ++ [b]) ∈ backs E' b n := fun h w wk ne nd => by
    rcases wk.init with ⟨e, _, _⟩ | ⟨w', v, c, h', e, wk', he, rfl⟩
    · exact absurd e ne
    · have e : w = w' := List.append_cancel_right e
      subst e
      have wk' := wk'.mem fun e z => (hE e).mp z
      refine backs_mem.mpr ⟨w, h', v, c, wk', nd, ?_, (hE _).mp he, rfl, rfl⟩
      have := nodup_short (n + 1) nd fun x hx => by
        have := Wk.all (P := fun x => 0 ≤ x ∧ x < (n : Int) + 1) rng hb wk' x hx
        exact ⟨this.1, by have := this.2; omega⟩
      exact this
  cases o with
  | none =>
    cases o' with
    | none => rfl
    | some p =>
      obtain ⟨h, l⟩ := p
      obtain ⟨wk, ne, ⟨w, rfl, nd⟩, _⟩ := h2
      have := there h w wk ne nd
      have h1 : backs E' b n = [] := h1
      rw [h1] at this
      cases this
  | some p =>
    obtain ⟨hp, least⟩ := h1
    obtain ⟨wk, ne⟩ := closed p hp
    cases o' with
    | none => exact absurd (h2 _ _ wk) ne
    | some p' =>
      obtain ⟨h, l⟩ := p'
      obtain ⟨wk', ne', ⟨w, rfl, nd⟩, least'⟩ := h2
      have a1 := least' _ _ wk ne
      have a2 := least _ (there h w wk' ne' nd)
      obtain ⟨e1, e2⟩ := List.cons.inj (lexL_eq _ _ a1 a2)
      obtain ⟨h0, l0⟩ := p
      simp only at e1 e2
      rw [e1, e2]
end Way
set_option maxRecDepth 100000
set_option maxHeartbeats 4000000
/-! min of a list of data that are ordered by lists of numbers. -/
namespace VX
open PySem PySem.Spec PyProof.Rows L2
open PySem.W (dataLt minD alike alikeAll AlikeAll)
theorem minD_key {α : Type} {d : α → PyData} {k : α → List Int} (hk : ∀ a b, dataLt (d a) (d b) = lexL (k a) (k b)) : ∀ (as : List α) (a : α), ∃ m ∈ a :: as, minD (d a) (as.map d) = d m ∧ ∀ b ∈ a :: as, lexL (k b) (k m) = false
  | [], a => ⟨a, List.mem_cons_self, rfl, fun b hb => by
    rw [List.mem_singleton] at hb
    subst hb
    exact lexL_self _⟩
  | b :: as, a => by
    have key : ∀ c, (lexL (k a) (k c) = false) → (lexL (k b) (k c) = false) → (c = a ∨ c = b) → minD (d a) ((b :: as).map d) = minD (d c) (as.map d) → ∃ m ∈ a :: b :: as, minD (d a) ((b :: as).map d) = d m ∧ ∀ x ∈ a :: b :: as, lexL (k x) (k m) = false := fun c h1 h2 hc e => by
      obtain ⟨m, hm, em, least⟩ := minD_key hk as c
      have lc := least c List.mem_cons_self
      refine ⟨m, ?_, e.trans em, fun x hx => ?_⟩
      · rcases List.mem_cons.mp hm with rfl | hm
        · rcases hc with rfl | rfl
          · exact List.mem_cons_self
          · exact List.mem_cons_of_mem _ List.mem_cons_self
        · exact List.mem_cons_of_mem _ (List.mem_cons_of_mem _ hm)
      · rcases List.mem_cons.mp hx with rfl | hx
        · exact lexL_tr _ _ _ lc h1
        · rcases List.mem_cons.mp hx with rfl | hx
          · exact lexL_tr _ _ _ lc h2
          · exact least x (List.mem_cons_of_mem _ hx)
    have e : minD (d a) ((b :: as).map d) = minD (if dataLt (d b) (d a) = true then d b else d a) (as.map d) := rfl
    cases h : dataLt (d b) (d a) with
    | true =>
      rw [h, if_pos rfl] at e
      rw [hk] at h
      exact key b (lexL_asym _ _ h) (lexL_self _) (.inr rfl) e
    | false =>
      rw [h, if_neg Bool.false_ne_true] at e
      rw [hk] at h
      exact key a (lexL_self _) h (.inl rfl) e
theorem minD_mem (x : PyData) : ∀ (xs : List PyData), minD x xs ∈ x :: xs := by
  intro xs
  unfold minD
  induction xs generalizing x with
  | nil => exact List.mem_cons_self
  | cons y ys ih =>
    rw [List.foldl_cons]
    have := ih (if dataLt y x = true then y else x)
    rcases List.mem_cons.mp this with e | e
    · rw [e]
      split
      · exact List.mem_cons_of_mem _ List.mem_cons_self
      · exact List.mem_cons_self
    · exact List.mem_cons_of_mem _ (List.mem_cons_of_mem _ e)
theorem dpa_at {K : PySem.W.Frag} {H : Hp} {xs : List V} {ds : List PyData} (h : DpAll K H xs ds) {i : Nat} {v : V} (hv : xs[i]? = some v) : ∃ d, ds[i]? = some d ∧ Dp K H v d := by
  have hi : i < ds.length := by
    rw [← dpa_len h]
    exact (List.getElem?_eq_some_iff.mp hv).1
  obtain ⟨v', h1, h2⟩ := dpa_get h (List.getElem?_eq_getElem hi)
  rw [hv] at h1
  cases h1
  exact ⟨_, List.getElem?_eq_getElem hi, h2⟩
theorem paired_getR {α β : Type} {G : α → β → Prop} {l₁ : List α} {l₂ : List β} (h : Paired G l₁ l₂) : ∀ {i : Nat} {b : β}, l₂[i]? = some b → ∃ a, l₁[i]? = some a ∧ G a b := by
  induction h with
  | nil => intro i b e; simp at e
  | cons z t ih =>
    intro i b e
    cases i with
    | zero =>
      simp at e
      subst e
      exact ⟨_, rfl, z⟩
    | succ i =>
      obtain ⟨a, h1, h2⟩ := ih (i := i) (by simpa using e)
      exact ⟨a, by simpa using h1, h2⟩
/-- min of a list of alike data -/
def rMinD (K : PySem.W.Frag) : List V → Hp → VK → Prop := fun vs H Q => ∃ (p : Addr) (xs : List V) (d0 : PyData) (ds : List PyData), vs = [.ref p] ∧ SqL K H p xs ∧ DpAll K H xs (d0 :: ds) ∧ AlikeAll (d0 :: ds) ∧ PyData.depthAll (d0 :: ds) ≤ 10 ∧
  ∀ (i : Nat) v, xs[i]? = some v → (d0 :: ds)[i]? = some (minD d0 ds) → Q v H
theorem cr_minD {X : Cx} (hc : X.calm = true) (hu : X.A.units + 64 < cLine) : CallR X (.builtin "min") (rMinD X.K) := by
  intro pins s σ H vs us Q I r h
  obtain ⟨a, xs, d0, ds, rfl, hs, hd, al, dp, q⟩ := h
  obtain ⟨its, rv, hl, _⟩ := I.list hs
  rw [Vals.ref1 r]
  obtain ⟨as, ra⟩ := Dp.readsAll I (d0 :: ds) xs its hd rv
  refine PySem.W.min_list_data (I.ok.hd hc) hl.isList (by simpa using ra) al (by omega) fun i v h' tk bs hi hr hk => ?_
  have hi : its[i]? = some v := by simpa using hi
  obtain ⟨x, hx, rx⟩ := paired_getR rv hi
  obtain ⟨d, e, dx⟩ := dpa_at hd hx
  obtain ⟨cs, r2⟩ := Dp.reads I d x v dx rx
  have r3 := PySem.W.reads_keeps hk r2
  have e2 : d = minD d0 ds := PySem.W.alike_unique _ _ _ _ _ (al.1 _ (List.mem_of_getElem? e) _ (minD_mem _ _)) r3 hr
  subst e2
  exact ⟨x, H, I.kept hk, rx, q i x hx e⟩
/-- pairs whose first is a number -/
theorem dataLt_pair {h g : Int} {X Y : PyData} {l m : List Int} (al : alike X Y = true) (e : dataLt X Y = lexL l m) (eq : PyData.eqv X Y = true → lexL l m = false) : dataLt (.tuple [.int h, X]) (.tuple [.int g, Y]) = lexL (h :: l) (g :: m) := by
  rw [PySem.W.dataLt_tuple]
  by_cases z : h = g
  · subst z
    rw [PySem.W.dataLt_all_yes (by rfl) (by simp [PyData.eqv]), lexL_same]
    cases q : PyData.eqv X Y with
    | true =>
      rw [PySem.W.dataLt_all_yes al q, eq q]
      rfl
    | false =>
      rw [PySem.W.dataLt_all_no al q, e]
  · rw [PySem.W.dataLt_all_no (by rfl) (by simp [PyData.eqv, z]), lexL_ne z, PySem.W.dataLt_int]
theorem alike_ints : ∀ (l m : List Int), alikeAll (l.map PyData.int) (m.map PyData.int) = true
  | [], [] => rfl
  | [], _ :: _ => rfl
  | _ :: _, [] => rfl
  | x :: l, y :: m => by
    show (alike (.int x) (.int y) && alikeAll (l.map PyData.int) (m.map PyData.int)) = true
    rw [alike_ints l m]
    rfl
theorem dataLt_ints : ∀ (l m : List Int), PyProof.Rows.lexLt itemOrd (PySem.W.keyToksAll (l.map PyData.int)) (PySem.W.keyToksAll (m.map PyData.int)) = lexL l m
  | [], [] => by rfl
  | [], _ :: _ => by rfl
  | _ :: _, [] => by rfl
  | x :: l, y :: m => by
    rw [List.map_cons, List.map_cons]
    by_cases z : x = y
    · subst z
      rw [PySem.W.dataLt_all_yes (by rfl) (by simp [PyData.eqv]), lexL_same]
      exact dataLt_ints l m
    · rw [PySem.W.dataLt_all_no (by rfl) (by simp [PyData.eqv, z]), lexL_ne z, PySem.W.dataLt_int]
/-- (hours, box) -/
def dHT (p : Int × Int) : PyData := .tuple [.int p.1, .int p.2]
/-- (hours, way) -/
def dHL (p : Int × List Int) : PyData := .tuple [.int p.1, .list (p.2.map PyData.int)]
theorem lt_ht (a b : Int × Int) : dataLt (dHT a) (dHT b) = lexL [a.1, a.2] [b.1, b.2] := by
  refine dataLt_pair (by rfl) ?_ fun e => ?_
  · rw [PySem.W.dataLt_int]
    by_cases z : a.2 = b.2
    · rw [z, lexL_self]
      simp
    · rw [lexL_ne z]
  · have e : a.2 = b.2 := by simpa [PyData.eqv] using e
    rw [show [a.2] = [b.2] from by rw [e]]
    exact lexL_self _
theorem lt_hl (a b : Int × List Int) : dataLt (dHL a) (dHL b) = lexL (a.1 :: a.2) (b.1 :: b.2) := by
  refine dataLt_pair (by show alikeAll _ _ = true; exact alike_ints _ _) ?_ fun e => ?_
  · rw [PySem.W.dataLt_list]
    exact dataLt_ints _ _
  · have e : PyData.eqvAll (a.2.map PyData.int) (b.2.map PyData.int) = true := by simpa [PyData.eqv] using e
    rw [eqvAll_ints] at e
    rw [of_decide_eq_true e, lexL_self]
theorem dpt_ints : ∀ l : List Int, PyData.depthAll (l.map PyData.int) = 0
  | [] => rfl
  | x :: l => by
    rw [List.map_cons]
    show max (PyData.depth (.int x)) (PyData.depthAll (l.map PyData.int)) = 0
    rw [dpt_ints l]
    rfl
theorem dpt_map {α : Type} {d : α → PyData} {n : Nat} (h : ∀ a, (d a).depth ≤ n) : ∀ as : List α, PyData.depthAll (as.map d) ≤ n
  | [] => Nat.zero_le _
  | a :: as => by
    rw [List.map_cons]
    show max (PyData.depth (d a)) (PyData.depthAll (as.map d)) ≤ n
    exact Nat.max_le.mpr ⟨h a, dpt_map h as⟩
theorem dpt_ht (p : Int × Int) : (dHT p).depth ≤ 5 := by
  show PyData.depth (.tuple [.int p.1, .int p.2]) ≤ 5
  simp [PyData.depth, PyData.depthAll]
theorem dpt_hl (p : Int × List Int) : (dHL p).depth ≤ 5 := by
  show PyData.depth (.tuple [.int p.1, .list (p.2.map PyData.int)]) ≤ 5
  simp [PyData.depth, PyData.depthAll, dpt_ints]
theorem alike_map {α : Type} {d : α → PyData} (h : ∀ a b, alike (d a) (d b) = true) (n : ∀ a, d a ≠ .none) (as : List α) : AlikeAll (as.map d) := by
  constructor
  · intro x hx y hy
    obtain ⟨a, _, rfl⟩ := List.mem_map.mp hx
    obtain ⟨b, _, rfl⟩ := List.mem_map.mp hy
    exact h a b
  · intro x hx
    obtain ⟨a, _, rfl⟩ := List.mem_map.mp hx
    exact n a
theorem i_minK {α : Type} {d : α → PyData} {k : α → List Int} (hk : ∀ a b, dataLt (d a) (d b) = lexL (k a) (k b)) (ha : ∀ a b, alike (d a) (d b) = true) (hn : ∀ a, d a ≠ .none) (hd : ∀ a, (d a).depth ≤ 5) {K : PySem.W.Frag} {H : Hp} {Q : VK} {p : Addr} {xs : List V} {as : List α} (hs : SqL K H p xs) (h : DpAll K H xs (as.map d)) (ne : as ≠ [])
    (q : ∀ v m, m ∈ as → (∀ b ∈ as, lexL (k b) (k m) = false) → (∀ G, DpAll K G xs (as.map d) → Dp K G v (d m)) → Q v H) : rMinD K [.ref p] H Q := by
  cases as with
  | nil => exact absurd rfl ne
  | cons a as =>
    obtain ⟨m, hm, e, least⟩ := minD_key hk as a
    refine ⟨p, xs, d a, as.map d, rfl, hs, h, alike_map ha hn (a :: as), ?_, fun i v hv hi => q v m hm least fun G hG => ?_⟩
    · have := dpt_map hd (a :: as)
      have e : PyData.depthAll (d a :: as.map d) = PyData.depthAll ((a :: as).map d) := rfl
      omega
    · obtain ⟨d', h1, h2⟩ := dpa_at hG hv
      have h1 : (d a :: as.map d)[i]? = some d' := h1
      rw [hi, e] at h1
      cases h1
      exact h2
end VX
set_option maxRecDepth 100000
set_option maxHeartbeats 4000000
/-! xs + ys of lists that are only read. -/
namespace VX
open PySem PySem.Spec PyProof.Rows L2
def rCatL (K : PySem.W.Frag) : R2 := fun x y H Q => ∃ l b xs zs, x = .ref l ∧ y = .ref b ∧ SqL K H l xs ∧ SqL K H b zs ∧ xs.length + zs.length ≤ sizeLine ∧ ∀ p, H p = none → Q (.ref p) (upd H p (.lst (xs ++ zs)))
theorem op_catL {X : Cx} : OpR X (binaryOp .Add) (rCatL X.K) := by
  intro pins s σ H x y v u Q I rx ry h
  obtain ⟨l, b, xs, zs, rfl, rfl, hH, hB, hz, q⟩ := h
  cases rx
  cases ry
  obtain ⟨vs, r, pl, _⟩ := I.list hH
  obtain ⟨ws, r2, pl2, _⟩ := I.list hB
  obtain ⟨⟨cls, dd, data, sl⟩, ho, hc, n, hd⟩ := pl.isList
  obtain ⟨⟨cls2, dd2, data2, sl2⟩, ho2, hc2, n2, hd2⟩ := pl2.isList
  simp only at hc hd hc2 hd2
  subst hc hd hc2 hd2
  have e : vs.toArray ++ ws.toArray = (vs ++ ws).toArray := by simp
  have l1 := r.length
  have l2 := r2.length
  refine concat_meets ⟨_, ho, rfl⟩ ⟨_, ho2, rfl⟩ noFill_list_add seq_list_add PySem.F.slot_list_add PySem.F.entry_list_add (PySem.F.args_list_add_2 _ _) (list_addW l b vs.toArray ws.toArray n n2 dd dd2 sl sl2 (by rw [List.size_toArray, List.size_toArray]; omega)) ⟨ho, ho2, ?_⟩
  rw [e]
  exact ⟨.ref _, _, I.lnew (t' := s.toks) (r.append r2) (by rw [List.length_append]; omega), rfl, q _ I.fresh⟩
end VX
set_option maxRecDepth 100000
set_option maxHeartbeats 4000000
/-! f(k = v, ..), what is raised is wished for at the slots. -/
namespace VX
open PySem PySem.Spec PyProof.Rows L2
section
variable {X : Cx} {k : Nat} {f : Addr} {fd : FuncData} {ps ks : List Str} {sp : Sp} {E : L2.St → XK} {x : Str} {p pos : Pos} {kws : List Keyword} {tk : TA} {CX : Cx → Cx} {g : List Value → List Value → List Value} {gV : List V → List V → List V}
def tCallNS (n : Nat) (sp : Sp) (gV : List V → List V → List V) (E : L2.St → XK) (tk : TA) : TE := fun σ H Q => tk σ H fun zs H2 => zs.length = n ∧ sp (gV [] zs) H2 Q (E σ)
theorem pe_callNS {CX : L2.CXT} (F : FnOk X.prog X.w X.K X.mg X.base CX k f fd ps sp) (hr : Room k X.A) (hg : Gl X x) (hm : X.mg x = some (.ref f)) (hk : PySem.W.keepIn X.K (.ref f) = true) (hb : KBn X.K fd ps 0 ks g gV) (hx : ∀ σ, PassesAt CX X σ (E σ))
    (hkw : PK X kws tk) (hall : (backToKw pos (keywordEach kws X.env)).all (·.1.isSome) = true := by rfl) (hks : (backToKw pos (keywordEach kws X.env)).filterMap (·.1) = ks := by rfl)
    (hdb : (x == ("__debug__" : Str)) = false := by decide) (hpl : ((backTo pos (starEach [] X.env)).any (·.1) || (backToKw pos (keywordEach kws X.env)).any (·.1.isNone)) = false := by rfl) :
    PE X (.Call (.Name x p) [] kws pos) (tCallNS ks.length sp gV E tk) := by
  refine ⟨fun pins s σ H Q I h => ?_⟩
  refine wpAny_Call_Name_kw (ld_glob I hg hm ?_ hdb)
  refine PySem.W.callWith_KW0 (first := []) (h₀ := X.base) I.ok.mod.kin hk hall (thn (hkw.run pos pins s σ H _ I h) fun ws s2 hu2 => ?_) hpl
  obtain ⟨zs, H2, I2, rz, l2, q2⟩ := hu2
  refine ⟨I2.kIn, ?_⟩
  rw [hks]
  have r2 := hb.rel (.nil : Vals [] []) rz
  refine wpAny_call (codeAny_mono (F.run X.A X.stack s2 H2 ⟨[] ++ [], ks.zip ws⟩ (g [] ws) (gV [] zs) Q (E σ) hr I2.env0 (hb.to s2 [] ws I2.kIn rfl (rz.length.symm.trans l2)) r2 q2) fun r s' hq => ?_)
  cases r with
  | error e => exact hx σ pins H2 s2 e s' I2 hq
  | ok fl =>
    cases fl with
    | ret u => exact I2.after hq
    | next => exact False.elim hq
    | brk => exact False.elim hq
    | cont => exact False.elim hq
end
end VX
set_option maxRecDepth 100000
/-! A keyword-only default that is a plain value. -/
namespace VX
open PySem PySem.Spec PyProof.Rows L2
/-- a def with one keyword-only default, any plain value -/
theorem fund_mkV {K : PySem.W.Frag} {x qual : Str} {params : Arguments} {body : List Stmt} {scope : Scope} {f : Addr} {oc : Value} {od an : Option Addr} {osl : Array (Option Value)} {D : Addr} {n : Str} {doc pm cdv ct u : Value} {v : V} (rv : RelV v u)
    (l : K.lookup f = some ⟨oc, od, .func (PySem.W.fnOf x qual params body scope .none (.ref D) doc pm an cdv ct), osl⟩) (c : PySem.W.codeIn K cdv qual = true) (k : PySem.W.keepIn K (.ref f) = true) (b : PySem.W.nsIn K D n = some (some u)) :
    FunD K x qual params body scope [] [(n, v)] f (PySem.W.fnOf x qual params body scope .none (.ref D) doc pm an cdv ct) := by
  refine ⟨⟨oc, od, .none, .ref D, doc, pm, an, cdv, ct, osl, rfl, l, c, .inl ⟨rfl, rfl⟩, .inr ⟨D, rfl, fun q hq => ?_⟩⟩, k⟩
  rw [List.mem_singleton] at hq
  subst hq
  exact ⟨_, b, rv⟩
end VX
set_option maxRecDepth 100000
set_option maxHeartbeats 1000000
/-! The least of the ways between two boxes, as the sums tell it and as a list of all ways does. -/
namespace Way
open VX
/-- the ways that lead to q -/
def found (E : List Ed) (p q : Int) (n : Nat) : List (Int × List Int) := (upTo E p n).filter fun x => decide (x.2.getLast? = some q)
section
variable {E E' : List Ed} {p q : Int} {n : Nat} {d : Int → Option Int}
theorem found_mem {h : Int} {l : List Int} : (h, l) ∈ found E p q n ↔ Wk E p l q h ∧ l.Nodup ∧ l.length ≤ n + 1 := by
  unfold found
  rw [List.mem_filter, upTo_mem]
  constructor
  · rintro ⟨⟨⟨b, w⟩, nd, hl⟩, e⟩
    have e := of_decide_eq_true e
    simp only at e
    rw [w.last] at e
    cases Option.some.inj e
    exact ⟨w, nd, hl⟩
  · rintro ⟨w, nd, hl⟩
    exact ⟨⟨⟨q, w⟩, nd, hl⟩, decide_eq_true w.last⟩
theorem found_there (hE : ∀ e, e ∈ E ↔ e ∈ E') (pos : ∀ e ∈ E, 1 ≤ e.2.2) (rng : ∀ e ∈ E', 0 ≤ e.2.1 ∧ e.2.1 < (n : Int) + 1) (hp : 0 ≤ p ∧ p < (n : Int) + 1) (S : Sums E q d) {h : Int} {l : List Int} (w : Wk E p l q h) (hd : d p = some h) : (h, l) ∈ found E' p q n := by
  have w' := w.mem fun e z => (hE e).mp z
  have nd := (S.falls pos w hd).1
  refine found_mem.mpr ⟨w', nd, ?_⟩
  exact nodup_short (n + 1) nd fun x hx => by
    have := Wk.all (P := fun x => 0 ≤ x ∧ x < (n : Int) + 1) rng hp w' x hx
    exact ⟨this.1, by have := this.2; omega⟩
theorem found_none (hE : ∀ e, e ∈ E ↔ e ∈ E') (pos : ∀ e ∈ E, 1 ≤ e.2.2) (rng : ∀ e ∈ E', 0 ≤ e.2.1 ∧ e.2.1 < (n : Int) + 1) (hp : 0 ≤ p ∧ p < (n : Int) + 1) (S : Sums E q d) (hf : found E' p q n = []) : d p = none := by
  cases e : d p with
  | none => rfl
  | some h =>
    obtain ⟨l, w⟩ := S.sound _ _ e
    have := found_there hE pos rng hp S w e
    rw [hf] at this
    cases this
theorem found_some (hE : ∀ e, e ∈ E ↔ e ∈ E') (pos : ∀ e ∈ E, 1 ≤ e.2.2) (rng : ∀ e ∈ E', 0 ≤ e.2.1 ∧ e.2.1 < (n : Int) + 1) (hp : 0 ≤ p ∧ p < (n : Int) + 1) (S : Sums E q d) {x : Int × List Int} (hx : x ∈ found E' p q n) (least : ∀ y ∈ found E' p q n, lexL (y.1 :: y.2) (x.1 :: x.2) = false) : d p = some x.1 ∧ ∀ l, Gr E q d p l → l = x.2 := by
  obtain ⟨h, l0⟩ := x
  obtain ⟨w0, nd0, _⟩ := found_mem.mp hx
  have w0 := w0.mem fun e z => (hE e).mpr z
  obtain ⟨h', dp, le⟩ := S.least w0
  obtain ⟨l1, w1⟩ := S.sound _ _ dp
  have e : h' = h := by
    have q1 := least _ (found_there hE pos rng hp S w1 dp)
    simp only at q1
    by_cases e : h' = h
    · exact e
    · rw [lexL_ne e] at q1
      have := of_decide_eq_false q1
      omega
  subst e
  refine ⟨dp, fun l g => ?_⟩
  have q1 := least _ (found_there hE pos rng hp S (g.way S _ dp) dp)
  simp only at q1
  rw [lexL_same] at q1
  exact lexL_eq _ _ q1 (g.least S pos dp w0)
end
/-! ### two numbers told for each of a row of places -/
section
open PySem
variable {ι : Type}
inductive F2 (R : ι → PyData → PyData → Prop) : List ι → List PyData → Prop
  | nil : F2 R [] []
  | cons {i : ι} {x y : PyData} {is : List ι} {ds : List PyData} : R i x y → F2 R is ds → F2 R (i :: is) (x :: y :: ds)
variable {R R' : ι → PyData → PyData → Prop} {is js : List ι} {ds es : List PyData}
theorem F2.app (h : F2 R is ds) (g : F2 R js es) : F2 R (is ++ js) (ds ++ es) := by
  induction h with
  | nil => exact g
  | cons r _ ih => exact .cons r ih
theorem F2.snoc {i : ι} {x y : PyData} (h : F2 R is ds) (r : R i x y) : F2 R (is ++ [i]) (ds ++ [x] ++ [y]) := by
  rw [List.append_assoc]
  exact h.app (.cons r .nil)
theorem F2.len (h : F2 R is ds) : ds.length = 2 * is.length := by
  induction h with
  | nil => rfl
  | cons _ _ ih =>
    rw [List.length_cons, List.length_cons, List.length_cons, ih]
    omega
theorem F2.one (u : ∀ i x y x' y', R i x y → R' i x' y' → x = x' ∧ y = y') (h : F2 R is ds) : ∀ {es}, F2 R' is es → ds = es := by
  induction h with
  | nil =>
    intro es g
    cases g
    rfl
  | cons r _ ih =>
    intro es g
    cases g with
    | cons r' g' =>
      obtain ⟨e1, e2⟩ := u _ _ _ _ _ r r'
      rw [e1, e2, ih g']
theorem F2.all {P : PyData → Prop} (u : ∀ i x y, R i x y → P x ∧ P y) (h : F2 R is ds) : ∀ d ∈ ds, P d := by
  induction h with
  | nil => intro d hd; cases hd
  | cons r _ ih =>
    intro d hd
    rcases List.mem_cons.mp hd with rfl | hd
    · exact (u _ _ _ r).1
    · rcases List.mem_cons.mp hd with rfl | hd
      · exact (u _ _ _ r).2
      · exact ih d hd
theorem F2.mono {R'' : ι → PyData → PyData → Prop} (u : ∀ i x y, R i x y → R'' i x y) (h : F2 R is ds) : F2 R'' is ds := by
  induction h with
  | nil => exact .nil
  | cons r _ ih => exact .cons (u _ _ _ r) ih
end
end Way
set_option maxRecDepth 100000
set_option maxHeartbeats 1000000
namespace K03
open PySem PySem.Spec PyProof.Rows L2 VX
def topS (i : Nat) : Stmt := PySem.Challenge.pw_surerails_k03_least_lags.main.body.getD i (.Pass ⟨0, 0, 0, 0⟩)
-- _wall
abbrev s_wall : Stmt := topS 0
abbrev N_wall : List Str := ["k"]
theorem sc_wall : FnScope ["k"] ["k"] (defScope s_wall) := ⟨rfl, rfl, rfl, by decide +kernel, rfl, by decide +kernel, by decide +kernel⟩
-- BadSize.__init__
abbrev s_BadSize_init : Stmt := inClass (topS 3) 0
abbrev N_BadSize_init : List Str := ["self", "size"]
theorem sc_BadSize_init : FnScope ["self", "size"] ["self", "size"] (defScope s_BadSize_init) := ⟨rfl, rfl, rfl, by decide +kernel, rfl, by decide +kernel, by decide +kernel⟩
-- NoBox.__init__
abbrev s_NoBox_init : Stmt := inClass (topS 4) 0
abbrev N_NoBox_init : List Str := ["self", "box"]
theorem sc_NoBox_init : FnScope ["self", "box"] ["self", "box"] (defScope s_NoBox_init) := ⟨rfl, rfl, rfl, by decide +kernel, rfl, by decide +kernel, by decide +kernel⟩
-- BadWire.__init__
abbrev s_BadWire_init : Stmt := inClass (topS 5) 0
abbrev N_BadWire_init : List Str := ["self", "source", "target"]
theorem sc_BadWire_init : FnScope ["self", "source", "target"] ["self", "source", "target"] (defScope s_BadWire_init) := ⟨rfl, rfl, rfl, by decide +kernel, rfl, by decide +kernel, by decide +kernel⟩
-- BadBound.__init__
abbrev s_BadBound_init : Stmt := inClass (topS 6) 0
abbrev N_BadBound_init : List Str := ["self", "later", "earlier"]
theorem sc_BadBound_init : FnScope ["self", "later", "earlier"] ["self", "later", "earlier"] (defScope s_BadBound_init) := ⟨rfl, rfl, rfl, by decide +kernel, rfl, by decide +kernel, by decide +kernel⟩
-- NoWire.__init__
abbrev s_NoWire_init : Stmt := inClass (topS 7) 0
abbrev N_NoWire_init : List Str := ["self", "source", "target"]
theorem sc_NoWire_init : FnScope ["self", "source", "target"] ["self", "source", "target"] (defScope s_NoWire_init) := ⟨rfl, rfl, rfl, by decide +kernel, rfl, by decide +kernel, by decide +kernel⟩
-- NoWay.__init__
abbrev s_NoWay_init : Stmt := inClass (topS 8) 0
abbrev N_NoWay_init : List Str := ["self", "source", "target"]
theorem sc_NoWay_init : FnScope ["self", "source", "target"] ["self", "source", "target"] (defScope s_NoWay_init) := ⟨rfl, rfl, rfl, by decide +kernel, rfl, by decide +kernel, by decide +kernel⟩
-- Line.__init__
abbrev s_Line_init : Stmt := inClass (topS 10) 0
abbrev N_Line_init : List Str := ["self", "size", "wires", "bounds"]
theorem sc_Line_init : FnScope ["self", "size", "wires", "bounds"] ["self", "size", "wires", "bounds"] (defScope s_Line_init) := ⟨rfl, rfl, rfl, by decide +kernel, rfl, by decide +kernel, by decide +kernel⟩
-- Line.wires
abbrev s_Line_wires : Stmt := inClass (topS 10) 1
abbrev N_Line_wires : List Str := ["self", "source", "target", "low", "high"]
theorem sc_Line_wires : FnScope ["self", "source", "target", "low", "high"] ["self"] (defScope s_Line_wires) := ⟨rfl, rfl, rfl, by decide +kernel, rfl, by decide +kernel, by decide +kernel⟩
-- Line.bounds
abbrev s_Line_bounds : Stmt := inClass (topS 10) 2
abbrev N_Line_bounds : List Str := ["self", "later", "earlier", "most"]
theorem sc_Line_bounds : FnScope ["self", "later", "earlier", "most"] ["self"] (defScope s_Line_bounds) := ⟨rfl, rfl, rfl, by decide +kernel, rfl, by decide +kernel, by decide +kernel⟩
-- Line.wire
abbrev s_Line_wire : Stmt := inClass (topS 10) 3
abbrev N_Line_wire : List Str := ["self", "source", "target"]
theorem sc_Line_wire : FnScope ["self", "source", "target"] ["self", "source", "target"] (defScope s_Line_wire) := ⟨rfl, rfl, rfl, by decide +kernel, rfl, by decide +kernel, by decide +kernel⟩
-- Line.sources
abbrev s_Line_sources : Stmt := inClass (topS 10) 4
abbrev N_Line_sources : List Str := ["self", "box"]
theorem sc_Line_sources : FnScope ["self", "box"] ["self", "box"] (defScope s_Line_sources) := ⟨rfl, rfl, rfl, by decide +kernel, rfl, by decide +kernel, by decide +kernel⟩
-- Line.targets
abbrev s_Line_targets : Stmt := inClass (topS 10) 5
abbrev N_Line_targets : List Str := ["self", "box"]
theorem sc_Line_targets : FnScope ["self", "box"] ["self", "box"] (defScope s_Line_targets) := ⟨rfl, rfl, rfl, by decide +kernel, rfl, by decide +kernel, by decide +kernel⟩
-- check_box
abbrev s_check_box : Stmt := topS 11
abbrev N_check_box : List Str := ["line", "box"]
theorem sc_check_box : FnScope ["line", "box"] ["line", "box"] (defScope s_check_box) := ⟨rfl, rfl, rfl, by decide +kernel, rfl, by decide +kernel, by decide +kernel⟩
-- is_span
abbrev s_is_span : Stmt := topS 12
abbrev N_is_span : List Str := ["low", "high"]
theorem sc_is_span : FnScope ["low", "high"] ["low", "high"] (defScope s_is_span) := ⟨rfl, rfl, rfl, by decide +kernel, rfl, by decide +kernel, by decide +kernel⟩
-- _spans_by_wire
abbrev s_spans_by_wire : Stmt := topS 13
abbrev N_spans_by_wire : List Str := ["line", "wires", "spans", "source", "target", "low", "high", "pair"]
theorem sc_spans_by_wire : FnScope ["line", "wires", "spans", "source", "target", "low", "high", "pair"] ["line", "wires"] (defScope s_spans_by_wire) := ⟨rfl, rfl, rfl, by decide +kernel, rfl, by decide +kernel, by decide +kernel⟩
-- _mosts_by_pair
abbrev s_mosts_by_pair : Stmt := topS 14
abbrev N_mosts_by_pair : List Str := ["line", "bounds", "mosts", "later", "earlier", "most", "pair"]
theorem sc_mosts_by_pair : FnScope ["line", "bounds", "mosts", "later", "earlier", "most", "pair"] ["line", "bounds"] (defScope s_mosts_by_pair) := ⟨rfl, rfl, rfl, by decide +kernel, rfl, by decide +kernel, by decide +kernel⟩
-- lag
abbrev s_lag : Stmt := topS 16
abbrev N_lag : List Str := ["line", "source", "target", "late"]
theorem sc_lag : FnScope ["line", "source", "target", "late"] ["line", "source", "target", "late"] (defScope s_lag) := ⟨rfl, rfl, rfl, by decide +kernel, rfl, by decide +kernel, by decide +kernel⟩
-- lag_way
abbrev s_lag_way : Stmt := topS 17
abbrev N_lag_way : List Str := ["line", "source", "target", "late", "costs", "sums"]
theorem sc_lag_way : FnScope ["line", "source", "target", "late", "costs", "sums"] ["line", "source", "target", "late"] (defScope s_lag_way) := ⟨rfl, rfl, rfl, by decide +kernel, rfl, by decide +kernel, by decide +kernel⟩
-- _costs
abbrev s_costs : Stmt := topS 18
abbrev N_costs : List Str := ["line", "late", "source", "target", "_", "high", "low"]
theorem sc_costs : FnScope ["line", "late", "source", "target", "_", "high", "low"] ["line", "late"] (defScope s_costs) := ⟨rfl, rfl, rfl, by decide +kernel, rfl, by decide +kernel, by decide +kernel⟩
-- _sums_to
abbrev s_sums_to : Stmt := topS 19
abbrev N_sums_to : List Str := ["target", "costs", "sums", "grown", "source", "then", "cost"]
theorem sc_sums_to : FnScope ["target", "costs", "sums", "grown", "source", "then", "cost"] ["target", "costs"] (defScope s_sums_to) := ⟨rfl, rfl, rfl, by decide +kernel, rfl, by decide +kernel, by decide +kernel⟩
-- _least_way
abbrev s_least_way : Stmt := topS 20
abbrev N_least_way : List Str := ["source", "target", "costs", "sums", "way", "here", "start", "then", "cost"]
theorem sc_least_way : FnScope ["source", "target", "costs", "sums", "way", "here", "start", "then", "cost"] ["source", "target", "costs", "sums"] (defScope s_least_way) := ⟨rfl, rfl, rfl, by decide +kernel, rfl, by decide +kernel, by decide +kernel⟩
-- _law_is_int
abbrev s_is_int : Stmt := topS 22
abbrev N_is_int : List Str := ["_law_value"]
theorem sc_is_int : FnScope ["_law_value"] ["_law_value"] (defScope s_is_int) := ⟨rfl, rfl, rfl, by decide +kernel, rfl, by decide +kernel, by decide +kernel⟩
-- _law_cell
abbrev s_cell : Stmt := topS 23
abbrev N_cell : List Str := ["_law_script", "_law_k"]
theorem sc_cell : FnScope ["_law_script", "_law_k"] ["_law_script", "_law_k"] (defScope s_cell) := ⟨rfl, rfl, rfl, by decide +kernel, rfl, by decide +kernel, by decide +kernel⟩
-- _law_pen
abbrev s_pen : Stmt := topS 24
abbrev N_pen : List Str := ["_law_script", "_law_k", "_law_cell_here"]
theorem sc_pen : FnScope ["_law_script", "_law_k", "_law_cell_here"] ["_law_script", "_law_k"] (defScope s_pen) := ⟨rfl, rfl, rfl, by decide +kernel, rfl, by decide +kernel, by decide +kernel⟩
-- _law_take
abbrev s_take : Stmt := topS 25
abbrev N_take : List Str := ["_law_pen_here", "_law_size_here", "_law_digit", "_law_mixed_here"]
theorem sc_take : FnScope ["_law_pen_here", "_law_size_here", "_law_digit", "_law_mixed_here"] ["_law_pen_here", "_law_size_here"] (defScope s_take) := ⟨rfl, rfl, rfl, by decide +kernel, rfl, by decide +kernel, by decide +kernel⟩
-- _law_size
abbrev s_size : Stmt := topS 26
abbrev N_size : List Str := ["_law_pen_here"]
theorem sc_size : FnScope ["_law_pen_here"] ["_law_pen_here"] (defScope s_size) := ⟨rfl, rfl, rfl, by decide +kernel, rfl, by decide +kernel, by decide +kernel⟩
-- _law_wires
abbrev s_wires : Stmt := topS 27
abbrev N_wires : List Str := ["_law_pen_here", "_law_size_here", "_law_wires_here", "_law_source", "_law_target", "_law_kind", "_law_near", "_law_low", "_law_high"]
theorem sc_wires : FnScope ["_law_pen_here", "_law_size_here", "_law_wires_here", "_law_source", "_law_target", "_law_kind", "_law_near", "_law_low", "_law_high"] ["_law_pen_here", "_law_size_here"] (defScope s_wires) := ⟨rfl, rfl, rfl, by decide +kernel, rfl, by decide +kernel, by decide +kernel⟩
-- _law_told
abbrev s_told : Stmt := topS 28
abbrev N_told : List Str := ["_law_pen_here", "_law_size_here", "_law_told_here", "_law_turn", "_law_later", "_law_earlier", "_law_pairs", "_law_row"]
theorem sc_told : FnScope ["_law_pen_here", "_law_size_here", "_law_told_here", "_law_turn", "_law_later", "_law_earlier", "_law_pairs", "_law_row"] ["_law_pen_here", "_law_size_here"] (defScope s_told) := ⟨rfl, rfl, rfl, by decide +kernel, rfl, by decide +kernel, by decide +kernel⟩
-- _law_plan_wires
abbrev s_plan_wires : Stmt := topS 29
abbrev N_plan_wires : List Str := ["_law_pen_here", "_law_size_here", "_law_wires_here", "_law_source", "_law_target", "_law_low"]
theorem sc_plan_wires : FnScope ["_law_pen_here", "_law_size_here", "_law_wires_here", "_law_source", "_law_target", "_law_low"] ["_law_pen_here", "_law_size_here"] (defScope s_plan_wires) := ⟨rfl, rfl, rfl, by decide +kernel, rfl, by decide +kernel, by decide +kernel⟩
-- _law_same
abbrev s_same : Stmt := topS 30
abbrev N_same : List Str := ["_law_actual", "_law_due_here", "_law_at"]
theorem sc_same : FnScope ["_law_actual", "_law_due_here", "_law_at"] ["_law_actual", "_law_due_here"] (defScope s_same) := ⟨rfl, rfl, rfl, by decide +kernel, rfl, by decide +kernel, by decide +kernel⟩
-- _law_mixed
abbrev s_mixed : Stmt := topS 31
abbrev N_mixed : List Str := ["_law_pen_here", "_law_row", "_law_rest", "_law_mixed_here", "_law_turn"]
theorem sc_mixed : FnScope ["_law_pen_here", "_law_row", "_law_rest", "_law_mixed_here", "_law_turn"] ["_law_pen_here", "_law_row"] (defScope s_mixed) := ⟨rfl, rfl, rfl, by decide +kernel, rfl, by decide +kernel, by decide +kernel⟩
-- _law_wide_hours
abbrev s_wide_hours : Stmt := topS 32
abbrev N_wide_hours : List Str := ["_law_pen_here", "_law_wires_here", "_law_most", "_law_rows", "_law_source", "_law_target", "_law_low", "_law_high"]
theorem sc_wide_hours : FnScope ["_law_pen_here", "_law_wires_here", "_law_most", "_law_rows", "_law_source", "_law_target", "_law_low", "_law_high"] ["_law_pen_here", "_law_wires_here"] (defScope s_wide_hours) := ⟨rfl, rfl, rfl, by decide +kernel, rfl, by decide +kernel, by decide +kernel⟩
-- _law_ring_wires
abbrev s_ring_wires : Stmt := topS 33
abbrev N_ring_wires : List Str := ["_law_pen_here", "_law_size_here", "_law_rows", "_law_source", "_law_target", "_law_low"]
theorem sc_ring_wires : FnScope ["_law_pen_here", "_law_size_here", "_law_rows", "_law_source", "_law_target", "_law_low"] ["_law_pen_here", "_law_size_here"] (defScope s_ring_wires) := ⟨rfl, rfl, rfl, by decide +kernel, rfl, by decide +kernel, by decide +kernel⟩
-- _law_line
abbrev s_line : Stmt := topS 34
abbrev N_line : List Str := ["_law_script", "_law_pen_here", "_law_size_here", "_law_wires_here", "_law_told_here", "_law_kind", "_law_row"]
theorem sc_line : FnScope ["_law_script", "_law_pen_here", "_law_size_here", "_law_wires_here", "_law_told_here", "_law_kind", "_law_row"] ["_law_script"] (defScope s_line) := ⟨rfl, rfl, rfl, by decide +kernel, rfl, by decide +kernel, by decide +kernel⟩
-- _law_ways
abbrev s_ways : Stmt := topS 35
abbrev N_ways : List Str := ["_law_size_here", "_law_wires_here", "_law_point", "_law_slowly", "_law_ways_here", "_law_last", "_law_turn", "_law_grown", "_law_hours", "_law_way", "_law_source", "_law_target", "_law_low", "_law_high", "_law_step"]
theorem sc_ways : FnScope ["_law_size_here", "_law_wires_here", "_law_point", "_law_slowly", "_law_ways_here", "_law_last", "_law_turn", "_law_grown", "_law_hours", "_law_way", "_law_source", "_law_target", "_law_low", "_law_high", "_law_step"] ["_law_size_here", "_law_wires_here", "_law_point", "_law_slowly"] (defScope s_ways) := ⟨rfl, rfl, rfl, by decide +kernel, rfl, by decide +kernel, by decide +kernel⟩
-- _law_ask_lag
abbrev s_ask_lag : Stmt := topS 36
abbrev N_ask_lag : List Str := ["_law_line_here", "_law_point", "_law_other", "_law_kind", "e"]
theorem sc_ask_lag : FnScope ["_law_line_here", "_law_point", "_law_other", "_law_kind", "e"] ["_law_line_here", "_law_point", "_law_other", "_law_kind"] (defScope s_ask_lag) := ⟨rfl, rfl, rfl, by decide +kernel, rfl, by decide +kernel, by decide +kernel⟩
-- _law_ask_way
abbrev s_ask_way : Stmt := topS 37
abbrev N_ask_way : List Str := ["_law_line_here", "_law_point", "_law_other", "_law_kind", "e"]
theorem sc_ask_way : FnScope ["_law_line_here", "_law_point", "_law_other", "_law_kind", "e"] ["_law_line_here", "_law_point", "_law_other", "_law_kind"] (defScope s_ask_way) := ⟨rfl, rfl, rfl, by decide +kernel, rfl, by decide +kernel, by decide +kernel⟩
-- _law_answers
abbrev s_answers : Stmt := topS 38
abbrev N_answers : List Str := ["_law_line_here", "_law_size_here", "_law_kinds", "_law_answers_here", "_law_kind", "_law_point", "_law_other"]
theorem sc_answers : FnScope ["_law_line_here", "_law_size_here", "_law_kinds", "_law_answers_here", "_law_kind", "_law_point", "_law_other"] ["_law_line_here", "_law_size_here", "_law_kinds"] (defScope s_answers) := ⟨rfl, rfl, rfl, by decide +kernel, rfl, by decide +kernel, by decide +kernel⟩
-- _law_due
abbrev s_due : Stmt := topS 39
abbrev N_due : List Str := ["_law_size_here", "_law_wires_here", "_law_kinds", "_law_due_here", "_law_kind", "_law_point", "_law_ways_here", "_law_other", "_law_found", "_law_pair", "_law_wrong", "_law_number", "_law_least"]
theorem sc_due : FnScope ["_law_size_here", "_law_wires_here", "_law_kinds", "_law_due_here", "_law_kind", "_law_point", "_law_ways_here", "_law_other", "_law_found", "_law_pair", "_law_wrong", "_law_number", "_law_least"] ["_law_size_here", "_law_wires_here", "_law_kinds"] (defScope s_due) := ⟨rfl, rfl, rfl, by decide +kernel, rfl, by decide +kernel, by decide +kernel⟩
-- law
abbrev s_law : Stmt := topS 40
abbrev N_law : List Str := ["_law_script", "_law_size_here", "_law_wires_here", "_law_told_here", "_law_pen_here", "_law_line_here", "_law_kinds", "_law_due_here", "_law_first", "_law_text", "_law_answer", "_law_row", "_law_second"]
theorem sc_law : FnScope ["_law_script", "_law_size_here", "_law_wires_here", "_law_told_here", "_law_pen_here", "_law_line_here", "_law_kinds", "_law_due_here", "_law_first", "_law_text", "_law_answer", "_law_row", "_law_second"] ["_law_script"] (defScope s_law) := ⟨rfl, rfl, rfl, by decide +kernel, rfl, by decide +kernel, by decide +kernel⟩

structure Adr where
  (c_RailsError c_BadSize c_NoBox c_BadWire c_BadBound c_NoWire c_NoWay c_Line f_wall f_BadSize_init f_NoBox_init f_BadWire_init f_BadBound_init f_NoWire_init f_NoWay_init f_Line_init f_Line_wires f_Line_bounds f_Line_wire f_Line_sources f_Line_targets f_check_box f_is_span f_spans_by_wire f_mosts_by_pair f_lag f_lag_way f_costs f_sums_to f_least_way f_is_int f_cell f_pen f_take f_size f_wires f_told f_plan_wires f_same f_mixed f_wide_hours f_ring_wires f_line f_ways f_ask_lag f_ask_way f_answers f_due f_law : Addr)
  (d_wall d_BadSize_init d_NoBox_init d_BadWire_init d_BadBound_init d_NoWire_init d_NoWay_init d_Line_init d_Line_wires d_Line_bounds d_Line_wire d_Line_sources d_Line_targets d_check_box d_is_span d_spans_by_wire d_mosts_by_pair d_lag d_lag_way d_costs d_sums_to d_least_way d_is_int d_cell d_pen d_take d_size d_wires d_told d_plan_wires d_same d_mixed d_wide_hours d_ring_wires d_line d_ways d_ask_lag d_ask_way d_answers d_due d_law : FuncData)
structure Txt (K : PySem.W.Frag) (mg : Str → Option Value) (A : Adr) : Prop where
  F_wall : Fun K "_wall" "_wall" s_wall A.f_wall A.d_wall
  g_wall : mg "_wall" = some (.ref A.f_wall)
  F_BadSize_init : Fun K "__init__" "BadSize.__init__" s_BadSize_init A.f_BadSize_init A.d_BadSize_init
  F_NoBox_init : Fun K "__init__" "NoBox.__init__" s_NoBox_init A.f_NoBox_init A.d_NoBox_init
  F_BadWire_init : Fun K "__init__" "BadWire.__init__" s_BadWire_init A.f_BadWire_init A.d_BadWire_init
  F_BadBound_init : Fun K "__init__" "BadBound.__init__" s_BadBound_init A.f_BadBound_init A.d_BadBound_init
  F_NoWire_init : Fun K "__init__" "NoWire.__init__" s_NoWire_init A.f_NoWire_init A.d_NoWire_init
  F_NoWay_init : Fun K "__init__" "NoWay.__init__" s_NoWay_init A.f_NoWay_init A.d_NoWay_init
  F_Line_init : Fun K "__init__" "Line.__init__" s_Line_init A.f_Line_init A.d_Line_init
  F_Line_wires : Fun K "wires" "Line.wires" s_Line_wires A.f_Line_wires A.d_Line_wires
  F_Line_bounds : Fun K "bounds" "Line.bounds" s_Line_bounds A.f_Line_bounds A.d_Line_bounds
  F_Line_wire : Fun K "wire" "Line.wire" s_Line_wire A.f_Line_wire A.d_Line_wire
  F_Line_sources : Fun K "sources" "Line.sources" s_Line_sources A.f_Line_sources A.d_Line_sources
  F_Line_targets : Fun K "targets" "Line.targets" s_Line_targets A.f_Line_targets A.d_Line_targets
  F_check_box : Fun K "check_box" "check_box" s_check_box A.f_check_box A.d_check_box
  g_check_box : mg "check_box" = some (.ref A.f_check_box)
  F_is_span : Fun K "is_span" "is_span" s_is_span A.f_is_span A.d_is_span
  g_is_span : mg "is_span" = some (.ref A.f_is_span)
  F_spans_by_wire : Fun K "_spans_by_wire" "_spans_by_wire" s_spans_by_wire A.f_spans_by_wire A.d_spans_by_wire
  g_spans_by_wire : mg "_spans_by_wire" = some (.ref A.f_spans_by_wire)
  F_mosts_by_pair : Fun K "_mosts_by_pair" "_mosts_by_pair" s_mosts_by_pair A.f_mosts_by_pair A.d_mosts_by_pair
  g_mosts_by_pair : mg "_mosts_by_pair" = some (.ref A.f_mosts_by_pair)
  F_lag : Fun K "lag" "lag" s_lag A.f_lag A.d_lag
  g_lag : mg "lag" = some (.ref A.f_lag)
  F_lag_way : Fun K "lag_way" "lag_way" s_lag_way A.f_lag_way A.d_lag_way
  g_lag_way : mg "lag_way" = some (.ref A.f_lag_way)
  F_costs : Fun K "_costs" "_costs" s_costs A.f_costs A.d_costs
  g_costs : mg "_costs" = some (.ref A.f_costs)
  F_sums_to : Fun K "_sums_to" "_sums_to" s_sums_to A.f_sums_to A.d_sums_to
  g_sums_to : mg "_sums_to" = some (.ref A.f_sums_to)
  F_least_way : Fun K "_least_way" "_least_way" s_least_way A.f_least_way A.d_least_way
  g_least_way : mg "_least_way" = some (.ref A.f_least_way)
  F_is_int : Fun K "_law_is_int" "_law_is_int" s_is_int A.f_is_int A.d_is_int
  g_is_int : mg "_law_is_int" = some (.ref A.f_is_int)
  F_cell : Fun K "_law_cell" "_law_cell" s_cell A.f_cell A.d_cell
  g_cell : mg "_law_cell" = some (.ref A.f_cell)
  F_pen : Fun K "_law_pen" "_law_pen" s_pen A.f_pen A.d_pen
  g_pen : mg "_law_pen" = some (.ref A.f_pen)
  F_take : Fun K "_law_take" "_law_take" s_take A.f_take A.d_take
  g_take : mg "_law_take" = some (.ref A.f_take)
  F_size : Fun K "_law_size" "_law_size" s_size A.f_size A.d_size
  g_size : mg "_law_size" = some (.ref A.f_size)
  F_wires : Fun K "_law_wires" "_law_wires" s_wires A.f_wires A.d_wires
  g_wires : mg "_law_wires" = some (.ref A.f_wires)
  F_told : Fun K "_law_told" "_law_told" s_told A.f_told A.d_told
  g_told : mg "_law_told" = some (.ref A.f_told)
  F_plan_wires : Fun K "_law_plan_wires" "_law_plan_wires" s_plan_wires A.f_plan_wires A.d_plan_wires
  g_plan_wires : mg "_law_plan_wires" = some (.ref A.f_plan_wires)
  F_same : Fun K "_law_same" "_law_same" s_same A.f_same A.d_same
  g_same : mg "_law_same" = some (.ref A.f_same)
  F_mixed : Fun K "_law_mixed" "_law_mixed" s_mixed A.f_mixed A.d_mixed
  g_mixed : mg "_law_mixed" = some (.ref A.f_mixed)
  F_wide_hours : Fun K "_law_wide_hours" "_law_wide_hours" s_wide_hours A.f_wide_hours A.d_wide_hours
  g_wide_hours : mg "_law_wide_hours" = some (.ref A.f_wide_hours)
  F_ring_wires : Fun K "_law_ring_wires" "_law_ring_wires" s_ring_wires A.f_ring_wires A.d_ring_wires
  g_ring_wires : mg "_law_ring_wires" = some (.ref A.f_ring_wires)
  F_line : Fun K "_law_line" "_law_line" s_line A.f_line A.d_line
  g_line : mg "_law_line" = some (.ref A.f_line)
  F_ways : Fun K "_law_ways" "_law_ways" s_ways A.f_ways A.d_ways
  g_ways : mg "_law_ways" = some (.ref A.f_ways)
  F_ask_lag : Fun K "_law_ask_lag" "_law_ask_lag" s_ask_lag A.f_ask_lag A.d_ask_lag
  g_ask_lag : mg "_law_ask_lag" = some (.ref A.f_ask_lag)
  F_ask_way : Fun K "_law_ask_way" "_law_ask_way" s_ask_way A.f_ask_way A.d_ask_way
  g_ask_way : mg "_law_ask_way" = some (.ref A.f_ask_way)
  F_answers : Fun K "_law_answers" "_law_answers" s_answers A.f_answers A.d_answers
  g_answers : mg "_law_answers" = some (.ref A.f_answers)
  F_due : Fun K "_law_due" "_law_due" s_due A.f_due A.d_due
  g_due : mg "_law_due" = some (.ref A.f_due)
  F_law : Fun K "law" "law" s_law A.f_law A.d_law
  g_law : mg "law" = some (.ref A.f_law)
  g_RailsError : mg "RailsError" = some (.ref A.c_RailsError)
  g_BadSize : mg "BadSize" = some (.ref A.c_BadSize)
  g_NoBox : mg "NoBox" = some (.ref A.c_NoBox)
  g_BadWire : mg "BadWire" = some (.ref A.c_BadWire)
  g_BadBound : mg "BadBound" = some (.ref A.c_BadBound)
  g_NoWire : mg "NoWire" = some (.ref A.c_NoWire)
  g_NoWay : mg "NoWay" = some (.ref A.c_NoWay)
  g_Line : mg "Line" = some (.ref A.c_Line)
  n_ValueError : mg "ValueError" = none
  n_abs : mg "abs" = none
  n_bool : mg "bool" = none
  n_int : mg "int" = none
  n_isinstance : mg "isinstance" = none
  n_len : mg "len" = none
  n_list : mg "list" = none
  n_min : mg "min" = none
  n_range : mg "range" = none
  n_repr : mg "repr" = none
  n_sorted : mg "sorted" = none
  n_str : mg "str" = none
  n_tuple : mg "tuple" = none
  oex_BadSize : OexC K A.c_BadSize
  ini_BadSize : PySem.W.findIn K (.ref A.c_BadSize) "__init__" = some (some (.ref A.f_BadSize_init))
  tI_BadSize : PySem.W.typeIn K (.ref A.f_BadSize_init) = some (.type "function")
  nb_BadSize_size : PySem.W.findIn K (.ref A.c_BadSize) "size" = some none
  xd_BadSize : ExcD K A.c_BadSize
  xf_BadSize : XfC K A.c_BadSize
  exm_BadSize_RailsError : PySem.W.exmOne K (.ref A.c_BadSize) (.ref A.c_RailsError) = some true
  kit_BadSize_RailsError : PySem.W.kitOne K (.ref A.c_BadSize) (.ref A.c_RailsError) = some true
  exm_BadSize_BadSize : PySem.W.exmOne K (.ref A.c_BadSize) (.ref A.c_BadSize) = some true
  kit_BadSize_BadSize : PySem.W.kitOne K (.ref A.c_BadSize) (.ref A.c_BadSize) = some true
  exm_BadSize_NoBox : PySem.W.exmOne K (.ref A.c_BadSize) (.ref A.c_NoBox) = some false
  kit_BadSize_NoBox : PySem.W.kitOne K (.ref A.c_BadSize) (.ref A.c_NoBox) = some false
  exm_BadSize_BadWire : PySem.W.exmOne K (.ref A.c_BadSize) (.ref A.c_BadWire) = some false
  kit_BadSize_BadWire : PySem.W.kitOne K (.ref A.c_BadSize) (.ref A.c_BadWire) = some false
  exm_BadSize_BadBound : PySem.W.exmOne K (.ref A.c_BadSize) (.ref A.c_BadBound) = some false
  kit_BadSize_BadBound : PySem.W.kitOne K (.ref A.c_BadSize) (.ref A.c_BadBound) = some false
  exm_BadSize_NoWire : PySem.W.exmOne K (.ref A.c_BadSize) (.ref A.c_NoWire) = some false
  kit_BadSize_NoWire : PySem.W.kitOne K (.ref A.c_BadSize) (.ref A.c_NoWire) = some false
  exm_BadSize_NoWay : PySem.W.exmOne K (.ref A.c_BadSize) (.ref A.c_NoWay) = some false
  kit_BadSize_NoWay : PySem.W.kitOne K (.ref A.c_BadSize) (.ref A.c_NoWay) = some false
  kit_BadSize_VE : PySem.W.kitOne K (.ref A.c_BadSize) (.type "ValueError") = some true
  oex_NoBox : OexC K A.c_NoBox
  ini_NoBox : PySem.W.findIn K (.ref A.c_NoBox) "__init__" = some (some (.ref A.f_NoBox_init))
  tI_NoBox : PySem.W.typeIn K (.ref A.f_NoBox_init) = some (.type "function")
  nb_NoBox_box : PySem.W.findIn K (.ref A.c_NoBox) "box" = some none
  xd_NoBox : ExcD K A.c_NoBox
  xf_NoBox : XfC K A.c_NoBox
  exm_NoBox_RailsError : PySem.W.exmOne K (.ref A.c_NoBox) (.ref A.c_RailsError) = some true
  kit_NoBox_RailsError : PySem.W.kitOne K (.ref A.c_NoBox) (.ref A.c_RailsError) = some true
  exm_NoBox_BadSize : PySem.W.exmOne K (.ref A.c_NoBox) (.ref A.c_BadSize) = some false
  kit_NoBox_BadSize : PySem.W.kitOne K (.ref A.c_NoBox) (.ref A.c_BadSize) = some false
  exm_NoBox_NoBox : PySem.W.exmOne K (.ref A.c_NoBox) (.ref A.c_NoBox) = some true
  kit_NoBox_NoBox : PySem.W.kitOne K (.ref A.c_NoBox) (.ref A.c_NoBox) = some true
  exm_NoBox_BadWire : PySem.W.exmOne K (.ref A.c_NoBox) (.ref A.c_BadWire) = some false
  kit_NoBox_BadWire : PySem.W.kitOne K (.ref A.c_NoBox) (.ref A.c_BadWire) = some false
  exm_NoBox_BadBound : PySem.W.exmOne K (.ref A.c_NoBox) (.ref A.c_BadBound) = some false
  kit_NoBox_BadBound : PySem.W.kitOne K (.ref A.c_NoBox) (.ref A.c_BadBound) = some false
  exm_NoBox_NoWire : PySem.W.exmOne K (.ref A.c_NoBox) (.ref A.c_NoWire) = some false
  kit_NoBox_NoWire : PySem.W.kitOne K (.ref A.c_NoBox) (.ref A.c_NoWire) = some false
  exm_NoBox_NoWay : PySem.W.exmOne K (.ref A.c_NoBox) (.ref A.c_NoWay) = some false
  kit_NoBox_NoWay : PySem.W.kitOne K (.ref A.c_NoBox) (.ref A.c_NoWay) = some false
  kit_NoBox_VE : PySem.W.kitOne K (.ref A.c_NoBox) (.type "ValueError") = some true
  oex_BadWire : OexC K A.c_BadWire
  ini_BadWire : PySem.W.findIn K (.ref A.c_BadWire) "__init__" = some (some (.ref A.f_BadWire_init))
  tI_BadWire : PySem.W.typeIn K (.ref A.f_BadWire_init) = some (.type "function")
  nb_BadWire_source : PySem.W.findIn K (.ref A.c_BadWire) "source" = some none
  nb_BadWire_target : PySem.W.findIn K (.ref A.c_BadWire) "target" = some none
  xd_BadWire : ExcD K A.c_BadWire
  xf_BadWire : XfC K A.c_BadWire
  exm_BadWire_RailsError : PySem.W.exmOne K (.ref A.c_BadWire) (.ref A.c_RailsError) = some true
  kit_BadWire_RailsError : PySem.W.kitOne K (.ref A.c_BadWire) (.ref A.c_RailsError) = some true
  exm_BadWire_BadSize : PySem.W.exmOne K (.ref A.c_BadWire) (.ref A.c_BadSize) = some false
  kit_BadWire_BadSize : PySem.W.kitOne K (.ref A.c_BadWire) (.ref A.c_BadSize) = some false
  exm_BadWire_NoBox : PySem.W.exmOne K (.ref A.c_BadWire) (.ref A.c_NoBox) = some false
  kit_BadWire_NoBox : PySem.W.kitOne K (.ref A.c_BadWire) (.ref A.c_NoBox) = some false
  exm_BadWire_BadWire : PySem.W.exmOne K (.ref A.c_BadWire) (.ref A.c_BadWire) = some true
  kit_BadWire_BadWire : PySem.W.kitOne K (.ref A.c_BadWire) (.ref A.c_BadWire) = some true
  exm_BadWire_BadBound : PySem.W.exmOne K (.ref A.c_BadWire) (.ref A.c_BadBound) = some false
  kit_BadWire_BadBound : PySem.W.kitOne K (.ref A.c_BadWire) (.ref A.c_BadBound) = some false
  exm_BadWire_NoWire : PySem.W.exmOne K (.ref A.c_BadWire) (.ref A.c_NoWire) = some false
  kit_BadWire_NoWire : PySem.W.kitOne K (.ref A.c_BadWire) (.ref A.c_NoWire) = some false
  exm_BadWire_NoWay : PySem.W.exmOne K (.ref A.c_BadWire) (.ref A.c_NoWay) = some false
  kit_BadWire_NoWay : PySem.W.kitOne K (.ref A.c_BadWire) (.ref A.c_NoWay) = some false
  kit_BadWire_VE : PySem.W.kitOne K (.ref A.c_BadWire) (.type "ValueError") = some true
  oex_BadBound : OexC K A.c_BadBound
  ini_BadBound : PySem.W.findIn K (.ref A.c_BadBound) "__init__" = some (some (.ref A.f_BadBound_init))
  tI_BadBound : PySem.W.typeIn K (.ref A.f_BadBound_init) = some (.type "function")
  nb_BadBound_later : PySem.W.findIn K (.ref A.c_BadBound) "later" = some none
  nb_BadBound_earlier : PySem.W.findIn K (.ref A.c_BadBound) "earlier" = some none
  xd_BadBound : ExcD K A.c_BadBound
  xf_BadBound : XfC K A.c_BadBound
  exm_BadBound_RailsError : PySem.W.exmOne K (.ref A.c_BadBound) (.ref A.c_RailsError) = some true
  kit_BadBound_RailsError : PySem.W.kitOne K (.ref A.c_BadBound) (.ref A.c_RailsError) = some true
  exm_BadBound_BadSize : PySem.W.exmOne K (.ref A.c_BadBound) (.ref A.c_BadSize) = some false
  kit_BadBound_BadSize : PySem.W.kitOne K (.ref A.c_BadBound) (.ref A.c_BadSize) = some false
  exm_BadBound_NoBox : PySem.W.exmOne K (.ref A.c_BadBound) (.ref A.c_NoBox) = some false
  kit_BadBound_NoBox : PySem.W.kitOne K (.ref A.c_BadBound) (.ref A.c_NoBox) = some false
  exm_BadBound_BadWire : PySem.W.exmOne K (.ref A.c_BadBound) (.ref A.c_BadWire) = some false
  kit_BadBound_BadWire : PySem.W.kitOne K (.ref A.c_BadBound) (.ref A.c_BadWire) = some false
  exm_BadBound_BadBound : PySem.W.exmOne K (.ref A.c_BadBound) (.ref A.c_BadBound) = some true
  kit_BadBound_BadBound : PySem.W.kitOne K (.ref A.c_BadBound) (.ref A.c_BadBound) = some true
  exm_BadBound_NoWire : PySem.W.exmOne K (.ref A.c_BadBound) (.ref A.c_NoWire) = some false
  kit_BadBound_NoWire : PySem.W.kitOne K (.ref A.c_BadBound) (.ref A.c_NoWire) = some false
  exm_BadBound_NoWay : PySem.W.exmOne K (.ref A.c_BadBound) (.ref A.c_NoWay) = some false
  kit_BadBound_NoWay : PySem.W.kitOne K (.ref A.c_BadBound) (.ref A.c_NoWay) = some false
  kit_BadBound_VE : PySem.W.kitOne K (.ref A.c_BadBound) (.type "ValueError") = some true
  oex_NoWire : OexC K A.c_NoWire
  ini_NoWire : PySem.W.findIn K (.ref A.c_NoWire) "__init__" = some (some (.ref A.f_NoWire_init))
  tI_NoWire : PySem.W.typeIn K (.ref A.f_NoWire_init) = some (.type "function")
  nb_NoWire_source : PySem.W.findIn K (.ref A.c_NoWire) "source" = some none
  nb_NoWire_target : PySem.W.findIn K (.ref A.c_NoWire) "target" = some none
  xd_NoWire : ExcD K A.c_NoWire
  xf_NoWire : XfC K A.c_NoWire
  exm_NoWire_RailsError : PySem.W.exmOne K (.ref A.c_NoWire) (.ref A.c_RailsError) = some true
  kit_NoWire_RailsError : PySem.W.kitOne K (.ref A.c_NoWire) (.ref A.c_RailsError) = some true
  exm_NoWire_BadSize : PySem.W.exmOne K (.ref A.c_NoWire) (.ref A.c_BadSize) = some false
  kit_NoWire_BadSize : PySem.W.kitOne K (.ref A.c_NoWire) (.ref A.c_BadSize) = some false
  exm_NoWire_NoBox : PySem.W.exmOne K (.ref A.c_NoWire) (.ref A.c_NoBox) = some false
  kit_NoWire_NoBox : PySem.W.kitOne K (.ref A.c_NoWire) (.ref A.c_NoBox) = some false
  exm_NoWire_BadWire : PySem.W.exmOne K (.ref A.c_NoWire) (.ref A.c_BadWire) = some false
  kit_NoWire_BadWire : PySem.W.kitOne K (.ref A.c_NoWire) (.ref A.c_BadWire) = some false
  exm_NoWire_BadBound : PySem.W.exmOne K (.ref A.c_NoWire) (.ref A.c_BadBound) = some false
  kit_NoWire_BadBound : PySem.W.kitOne K (.ref A.c_NoWire) (.ref A.c_BadBound) = some false
  exm_NoWire_NoWire : PySem.W.exmOne K (.ref A.c_NoWire) (.ref A.c_NoWire) = some true
  kit_NoWire_NoWire : PySem.W.kitOne K (.ref A.c_NoWire) (.ref A.c_NoWire) = some true
  exm_NoWire_NoWay : PySem.W.exmOne K (.ref A.c_NoWire) (.ref A.c_NoWay) = some false
  kit_NoWire_NoWay : PySem.W.kitOne K (.ref A.c_NoWire) (.ref A.c_NoWay) = some false
  kit_NoWire_VE : PySem.W.kitOne K (.ref A.c_NoWire) (.type "ValueError") = some true
  oex_NoWay : OexC K A.c_NoWay
  ini_NoWay : PySem.W.findIn K (.ref A.c_NoWay) "__init__" = some (some (.ref A.f_NoWay_init))
  tI_NoWay : PySem.W.typeIn K (.ref A.f_NoWay_init) = some (.type "function")
  nb_NoWay_source : PySem.W.findIn K (.ref A.c_NoWay) "source" = some none
  nb_NoWay_target : PySem.W.findIn K (.ref A.c_NoWay) "target" = some none
  xd_NoWay : ExcD K A.c_NoWay
  xf_NoWay : XfC K A.c_NoWay
  exm_NoWay_RailsError : PySem.W.exmOne K (.ref A.c_NoWay) (.ref A.c_RailsError) = some true
  kit_NoWay_RailsError : PySem.W.kitOne K (.ref A.c_NoWay) (.ref A.c_RailsError) = some true
  exm_NoWay_BadSize : PySem.W.exmOne K (.ref A.c_NoWay) (.ref A.c_BadSize) = some false
  kit_NoWay_BadSize : PySem.W.kitOne K (.ref A.c_NoWay) (.ref A.c_BadSize) = some false
  exm_NoWay_NoBox : PySem.W.exmOne K (.ref A.c_NoWay) (.ref A.c_NoBox) = some false
  kit_NoWay_NoBox : PySem.W.kitOne K (.ref A.c_NoWay) (.ref A.c_NoBox) = some false
  exm_NoWay_BadWire : PySem.W.exmOne K (.ref A.c_NoWay) (.ref A.c_BadWire) = some false
  kit_NoWay_BadWire : PySem.W.kitOne K (.ref A.c_NoWay) (.ref A.c_BadWire) = some false
  exm_NoWay_BadBound : PySem.W.exmOne K (.ref A.c_NoWay) (.ref A.c_BadBound) = some false
  kit_NoWay_BadBound : PySem.W.kitOne K (.ref A.c_NoWay) (.ref A.c_BadBound) = some false
  exm_NoWay_NoWire : PySem.W.exmOne K (.ref A.c_NoWay) (.ref A.c_NoWire) = some false
  kit_NoWay_NoWire : PySem.W.kitOne K (.ref A.c_NoWay) (.ref A.c_NoWire) = some false
  exm_NoWay_NoWay : PySem.W.exmOne K (.ref A.c_NoWay) (.ref A.c_NoWay) = some true
  kit_NoWay_NoWay : PySem.W.kitOne K (.ref A.c_NoWay) (.ref A.c_NoWay) = some true
  kit_NoWay_VE : PySem.W.kitOne K (.ref A.c_NoWay) (.type "ValueError") = some true
  cl_Line : Cls K A.c_Line
  na_Line_size : NoAttr K A.c_Line "size"
  na_Line__spans : NoAttr K A.c_Line "_spans"
  na_Line__mosts : NoAttr K A.c_Line "_mosts"
  M_Line : Mk K A.c_Line A.f_Line_init
  m_Line_wires : Meth K A.c_Line "wires" A.f_Line_wires
  m_Line_bounds : Meth K A.c_Line "bounds" A.f_Line_bounds
  m_Line_wire : Meth K A.c_Line "wire" A.f_Line_wire
  m_Line_sources : Meth K A.c_Line "sources" A.f_Line_sources
  m_Line_targets : Meth K A.c_Line "targets" A.f_Line_targets
  D_lag : FunD K "lag" "lag" (defArgs s_lag) (defBody s_lag) (defScope s_lag) [] [("late", .bl false)] A.f_lag A.d_lag
  D_lag_way : FunD K "lag_way" "lag_way" (defArgs s_lag_way) (defBody s_lag_way) (defScope s_lag_way) [] [("late", .bl false)] A.f_lag_way A.d_lag_way
section
variable {P : Program} {w : World} {K : PySem.W.Frag} {mg : Str → Option Value} {base : Heap} {A : Adr}
theorem b_wall (T : Txt K mg A) : Binds K A.d_wall ["k"] [] := T.F_wall.binds fun _ _ _ _ _ _ us hl => match us, hl with | [_], _ => rfl
theorem b_BadSize_init (T : Txt K mg A) : Binds K A.d_BadSize_init ["self", "size"] [] := T.F_BadSize_init.binds fun _ _ _ _ _ _ us hl => match us, hl with | [_, _], _ => rfl
theorem b_NoBox_init (T : Txt K mg A) : Binds K A.d_NoBox_init ["self", "box"] [] := T.F_NoBox_init.binds fun _ _ _ _ _ _ us hl => match us, hl with | [_, _], _ => rfl
theorem b_BadWire_init (T : Txt K mg A) : Binds K A.d_BadWire_init ["self", "source", "target"] [] := T.F_BadWire_init.binds fun _ _ _ _ _ _ us hl => match us, hl with | [_, _, _], _ => rfl
theorem b_BadBound_init (T : Txt K mg A) : Binds K A.d_BadBound_init ["self", "later", "earlier"] [] := T.F_BadBound_init.binds fun _ _ _ _ _ _ us hl => match us, hl with | [_, _, _], _ => rfl
theorem b_NoWire_init (T : Txt K mg A) : Binds K A.d_NoWire_init ["self", "source", "target"] [] := T.F_NoWire_init.binds fun _ _ _ _ _ _ us hl => match us, hl with | [_, _, _], _ => rfl
theorem b_NoWay_init (T : Txt K mg A) : Binds K A.d_NoWay_init ["self", "source", "target"] [] := T.F_NoWay_init.binds fun _ _ _ _ _ _ us hl => match us, hl with | [_, _, _], _ => rfl
theorem b_Line_wires (T : Txt K mg A) : Binds K A.d_Line_wires ["self"] [] := T.F_Line_wires.binds fun _ _ _ _ _ _ us hl => match us, hl with | [_], _ => rfl
theorem b_Line_bounds (T : Txt K mg A) : Binds K A.d_Line_bounds ["self"] [] := T.F_Line_bounds.binds fun _ _ _ _ _ _ us hl => match us, hl with | [_], _ => rfl
theorem b_Line_wire (T : Txt K mg A) : Binds K A.d_Line_wire ["self", "source", "target"] [] := T.F_Line_wire.binds fun _ _ _ _ _ _ us hl => match us, hl with | [_, _, _], _ => rfl
theorem b_Line_sources (T : Txt K mg A) : Binds K A.d_Line_sources ["self", "box"] [] := T.F_Line_sources.binds fun _ _ _ _ _ _ us hl => match us, hl with | [_, _], _ => rfl
theorem b_Line_targets (T : Txt K mg A) : Binds K A.d_Line_targets ["self", "box"] [] := T.F_Line_targets.binds fun _ _ _ _ _ _ us hl => match us, hl with | [_, _], _ => rfl
theorem b_check_box (T : Txt K mg A) : Binds K A.d_check_box ["line", "box"] [] := T.F_check_box.binds fun _ _ _ _ _ _ us hl => match us, hl with | [_, _], _ => rfl
theorem b_is_span (T : Txt K mg A) : Binds K A.d_is_span ["low", "high"] [] := T.F_is_span.binds fun _ _ _ _ _ _ us hl => match us, hl with | [_, _], _ => rfl
theorem b_spans_by_wire (T : Txt K mg A) : Binds K A.d_spans_by_wire ["line", "wires"] [] := T.F_spans_by_wire.binds fun _ _ _ _ _ _ us hl => match us, hl with | [_, _], _ => rfl
theorem b_mosts_by_pair (T : Txt K mg A) : Binds K A.d_mosts_by_pair ["line", "bounds"] [] := T.F_mosts_by_pair.binds fun _ _ _ _ _ _ us hl => match us, hl with | [_, _], _ => rfl
theorem b_costs (T : Txt K mg A) : Binds K A.d_costs ["line", "late"] [] := T.F_costs.binds fun _ _ _ _ _ _ us hl => match us, hl with | [_, _], _ => rfl
theorem b_sums_to (T : Txt K mg A) : Binds K A.d_sums_to ["target", "costs"] [] := T.F_sums_to.binds fun _ _ _ _ _ _ us hl => match us, hl with | [_, _], _ => rfl
theorem b_least_way (T : Txt K mg A) : Binds K A.d_least_way ["source", "target", "costs", "sums"] [] := T.F_least_way.binds fun _ _ _ _ _ _ us hl => match us, hl with | [_, _, _, _], _ => rfl
theorem b_is_int (T : Txt K mg A) : Binds K A.d_is_int ["_law_value"] [] := T.F_is_int.binds fun _ _ _ _ _ _ us hl => match us, hl with | [_], _ => rfl
theorem b_cell (T : Txt K mg A) : Binds K A.d_cell ["_law_script", "_law_k"] [] := T.F_cell.binds fun _ _ _ _ _ _ us hl => match us, hl with | [_, _], _ => rfl
theorem b_pen (T : Txt K mg A) : Binds K A.d_pen ["_law_script", "_law_k"] [] := T.F_pen.binds fun _ _ _ _ _ _ us hl => match us, hl with | [_, _], _ => rfl
theorem b_take (T : Txt K mg A) : Binds K A.d_take ["_law_pen_here", "_law_size_here"] [] := T.F_take.binds fun _ _ _ _ _ _ us hl => match us, hl with | [_, _], _ => rfl
theorem b_size (T : Txt K mg A) : Binds K A.d_size ["_law_pen_here"] [] := T.F_size.binds fun _ _ _ _ _ _ us hl => match us, hl with | [_], _ => rfl
theorem b_wires (T : Txt K mg A) : Binds K A.d_wires ["_law_pen_here", "_law_size_here"] [] := T.F_wires.binds fun _ _ _ _ _ _ us hl => match us, hl with | [_, _], _ => rfl
theorem b_told (T : Txt K mg A) : Binds K A.d_told ["_law_pen_here", "_law_size_here"] [] := T.F_told.binds fun _ _ _ _ _ _ us hl => match us, hl with | [_, _], _ => rfl
theorem b_plan_wires (T : Txt K mg A) : Binds K A.d_plan_wires ["_law_pen_here", "_law_size_here"] [] := T.F_plan_wires.binds fun _ _ _ _ _ _ us hl => match us, hl with | [_, _], _ => rfl
theorem b_same (T : Txt K mg A) : Binds K A.d_same ["_law_actual", "_law_due_here"] [] := T.F_same.binds fun _ _ _ _ _ _ us hl => match us, hl with | [_, _], _ => rfl
theorem b_mixed (T : Txt K mg A) : Binds K A.d_mixed ["_law_pen_here", "_law_row"] [] := T.F_mixed.binds fun _ _ _ _ _ _ us hl => match us, hl with | [_, _], _ => rfl
theorem b_wide_hours (T : Txt K mg A) : Binds K A.d_wide_hours ["_law_pen_here", "_law_wires_here"] [] := T.F_wide_hours.binds fun _ _ _ _ _ _ us hl => match us, hl with | [_, _], _ => rfl
theorem b_ring_wires (T : Txt K mg A) : Binds K A.d_ring_wires ["_law_pen_here", "_law_size_here"] [] := T.F_ring_wires.binds fun _ _ _ _ _ _ us hl => match us, hl with | [_, _], _ => rfl
theorem b_line (T : Txt K mg A) : Binds K A.d_line ["_law_script"] [] := T.F_line.binds fun _ _ _ _ _ _ us hl => match us, hl with | [_], _ => rfl
theorem b_ways (T : Txt K mg A) : Binds K A.d_ways ["_law_size_here", "_law_wires_here", "_law_point", "_law_slowly"] [] := T.F_ways.binds fun _ _ _ _ _ _ us hl => match us, hl with | [_, _, _, _], _ => rfl
theorem b_ask_lag (T : Txt K mg A) : Binds K A.d_ask_lag ["_law_line_here", "_law_point", "_law_other", "_law_kind"] [] := T.F_ask_lag.binds fun _ _ _ _ _ _ us hl => match us, hl with | [_, _, _, _], _ => rfl
theorem b_ask_way (T : Txt K mg A) : Binds K A.d_ask_way ["_law_line_here", "_law_point", "_law_other", "_law_kind"] [] := T.F_ask_way.binds fun _ _ _ _ _ _ us hl => match us, hl with | [_, _, _, _], _ => rfl
theorem b_answers (T : Txt K mg A) : Binds K A.d_answers ["_law_line_here", "_law_size_here", "_law_kinds"] [] := T.F_answers.binds fun _ _ _ _ _ _ us hl => match us, hl with | [_, _, _], _ => rfl
theorem b_due (T : Txt K mg A) : Binds K A.d_due ["_law_size_here", "_law_wires_here", "_law_kinds"] [] := T.F_due.binds fun _ _ _ _ _ _ us hl => match us, hl with | [_, _, _], _ => rfl
theorem b_law (T : Txt K mg A) : Binds K A.d_law ["_law_script"] [] := T.F_law.binds fun _ _ _ _ _ _ us hl => match us, hl with | [_], _ => rfl
end
end K03
set_option maxRecDepth 100000
set_option maxHeartbeats 1000000
namespace K03
open PySem PySem.Spec PyProof.Rows L2 VX
local macro_rules | `(tactic| walk_at "ne") => `(tactic| first
  | assumption
  | exact Ne.symm (by assumption)
  | exact ne_of_none (by assumption) (by assumption)
  | exact Ne.symm (ne_of_none (by assumption) (by assumption))
  | ((with_reducible refine' ne_of_none ?n1 ?n2); (case n2 => assumption); (case n1 => walk_at "lk"))
  | ((with_reducible refine' Ne.symm (ne_of_none ?n1 ?n2)); (case n2 => assumption); (case n1 => walk_at "lk")))
local macro_rules | `(tactic| walk_at "lk") => `(tactic| first
  | assumption
  | (with_reducible exact upd_same)
  | ((with_reducible refine' (upd_ne ?nn).trans ?ll); (case nn => walk_at "ne"); (case ll => walk_at "lk"))
  | ((with_reducible refine' VX.same_at ?nn ?ll); (case nn => assumption); (case ll => walk_at "lk")))
local macro_rules | `(tactic| walk_at "dp") => `(tactic| first
  | assumption
  | (with_reducible exact Dp.non)
  | (with_reducible exact Dp.bl _)
  | (with_reducible exact Dp.int _)
  | (with_reducible exact Dp.str _)
  | ((with_reducible refine' VX.Dp.mono' ?dd (same_new ?nn)); (case nn => assumption); (case dd => walk_at "dp"))
  | ((with_reducible refine' VX.Dp.mono' ?dd ?nn); (case nn => assumption); (case dd => walk_at "dp")))
local macro_rules | `(tactic| walk_at "sq") => `(tactic| first
  | assumption
  | (with_reducible exact SqL.of (by assumption))
  | (with_reducible exact SqT.of (by assumption))
  | ((with_reducible refine' Same.seq (same_new ?nn) ?qq); (case nn => assumption); (case qq => walk_at "sq"))
  | ((with_reducible refine' same_sqT (same_new ?nn) ?qq); (case nn => assumption); (case qq => walk_at "sq"))
  | ((with_reducible refine' Same.seq ?nn ?qq); (case nn => assumption); (case qq => walk_at "sq"))
  | ((with_reducible refine' same_sqT ?nn ?qq); (case nn => assumption); (case qq => walk_at "sq"))
  | ((with_reducible refine' SqL.of ?qq); (case qq => walk_at "lk"))
  | ((with_reducible refine' SqT.of ?qq); (case qq => walk_at "lk")))
local macro_rules | `(tactic| walk_at "cc") => `(tactic| first
  | exact ⟨by decide, by decide, by decide⟩
  | (show _ ≠ _; omega)
  | exact ⟨by omega, by omega⟩
  | exact Or.inl ⟨by omega, by omega⟩
  | exact Or.inr ⟨by omega, by omega⟩)
local macro_rules | `(tactic| walk_at "vcA") => `(tactic| repeat (first
  | ((with_reducible refine' VX.i_modA ?v1 ?_); (case v1 => omega); intro r hr0 hr1)
  | ((with_reducible refine' VX.i_divA ?v1 ?v2 ?_); (case v1 => omega); (case v2 => omega); intro r hr0 hr1)
  | walk_at "vc1"))
local macro_rules | `(tactic| walk_at "vc1") => `(tactic| first
  | ((with_reducible refine' VX.i_var ?v1 ?_); (case v1 => rfl))
  | (with_reducible refine' VX.i_c ?_)
  | (with_reducible refine' VX.i_op ?_)
  | (with_reducible refine' VX.i_cons ?_)
  | (with_reducible refine' VX.i_nil ?_)
  | (with_reducible refine' VX.i_seq ?_)
  | (with_reducible refine' VX.i_asg ?_)
  | ((with_reducible refine' VX.i_gname ?v2 ?_); (case v2 => (first | (simp only [List.set_cons_zero, List.set_cons_succ]; done) | (simp only [List.set_cons_zero, List.set_cons_succ]; exact rfl) | exact rfl)))
  | (with_reducible refine' VX.i_ifS ?_)
  | (with_reducible refine' VX.i_test ?_)
  | (with_reducible refine' VX.i_tB ?_)
  | (with_reducible refine' VX.i_bl ?_)
  | (with_reducible refine' VX.i_iteT ?_)
  | (with_reducible refine' VX.i_iteF ?_)
  | (with_reducible refine' VX.i_iteNT ?_)
  | (with_reducible refine' VX.i_iteNF ?_)
  | (with_reducible refine' VX.i_and ?_)
  | (with_reducible refine' VX.i_or ?_)
  | (with_reducible refine' VX.i_not ?_)
  | (with_reducible refine' VX.i_call ?_)
  | (with_reducible refine' VX.i_CB ?_)
  | (with_reducible refine' VX.i_make ?_)
  | (with_reducible refine' VX.i_makeK0 ?_)
  | (with_reducible refine' VX.i_mthK ?_)
  | (with_reducible refine' VX.i_mthS ?_)
  | (with_reducible refine' VX.i_meth ?_)
  | ((with_reducible refine' VX.i_ixL ?v1 ?v2 ?_); (case v1 => walk_at "sq"); (case v2 => first | rfl | assumption))
  | ((with_reducible refine' VX.i_ixT ?v1 ?v2 ?_); (case v1 => walk_at "sq"); (case v2 => first | rfl | assumption))
  | ((with_reducible refine' VX.i_setLU ?v2 ?v3 ?_); (case v2 => rfl); (case v3 => rfl))
  | ((with_reducible refine' VX.i_setL ?v1 ?v2 ?v3 ?_); (case v1 => walk_at "lk"); (case v2 => rfl); (case v3 => rfl))
  | (with_reducible refine' VX.i_rI0 ?_)
  | ((with_reducible refine' VX.i_rI ?v1 ?_); (case v1 => walk_at "cc"))
  | (with_reducible refine' VX.i_int ?_)
  | ((with_reducible refine' VX.i_rEqS ?v1 ?_); (case v1 => rfl))
  | ((with_reducible refine' VX.i_rNeS ?v1 ?_); (case v1 => rfl))
  | (with_reducible refine' VX.i_rEqI ?_)
  | (with_reducible refine' VX.i_rNeI ?_)
  | (with_reducible refine' VX.i_max2 ?_)
  | (with_reducible refine' VX.i_min2 ?_)
  | ((with_reducible refine' VX.i_lenL ?v1 ?_); (case v1 => walk_at "sq"))
  | ((with_reducible refine' VX.i_lenT ?v1 ?_); (case v1 => walk_at "sq"))
  | (with_reducible refine' VX.i_chain ?_)
  | (with_reducible refine' VX.i_gsub ?_)
  | (with_reducible refine' VX.i_ret ?_)
  | (with_reducible refine' VX.i_drop ?_)
  | (with_reducible refine' VX.i_next ?_)
  | (with_reducible refine' VX.i_retN ?_)
  | (with_reducible refine' VX.i_andV ?_)
  | (with_reducible refine' VX.i_orV ?_)
  | (with_reducible refine' VX.i_notV ?_)
  | (with_reducible refine' VX.i_ifE ?_)
  | (with_reducible refine' VX.i_un ?_)
  | (with_reducible refine' VX.i_rU ?_)
  | (with_reducible refine' VX.i_tup ?_)
  | (with_reducible refine' VX.i_lst ?_)
  | ((with_reducible refine' VX.i_fldv ?v1 ?v2 ?v3 ?v4 ?v5 ?_); (case v1 => rfl); (case v2 => walk_at "lk"); (case v3 => walk_at "cl"); (case v4 => walk_at "na"); (case v5 => first | rfl | assumption))
  | (with_reducible refine' VX.i_fld ?_)
  | (with_reducible refine' VX.i_sFld ?_)
  | (with_reducible refine' VX.i_mk1 ?_)
  | (with_reducible refine' VX.i_mk1v ?_)
  | (with_reducible refine' VX.i_gnil ?_)
  | (with_reducible refine' VX.i_lc ?_)
  | (with_reducible refine' VX.i_for ?_)
  | (with_reducible refine' VX.i_lstRg ?_)
  | (with_reducible refine' VX.i_rg2 ?_)
  | (with_reducible refine' VX.i_rg2v ?_)
  | (with_reducible refine' VX.i_yes ?_)
  | (with_reducible refine' VX.i_iList ?_)
  | (with_reducible refine' VX.i_iRng1 ?_)
  | (with_reducible refine' VX.i_iRng2 ?_)
  | (with_reducible refine' VX.i_iEnum ?_)
  | (with_reducible refine' VX.i_iZip ?_)
  | (with_reducible refine' VX.i_iOwn ?_)
  | ((with_reducible refine' VX.i_wipe ?v1 ?_); (case v1 => rfl))
  | (with_reducible refine' VX.i_andN ?_)
  | (with_reducible refine' VX.i_iteNDS ?_)
  | (with_reducible refine' VX.i_bm ?_)
  | ((with_reducible refine' VX.i_tyL ?v1 ?_); (case v1 => walk_at "sq"))
  | ((with_reducible refine' VX.i_append ?v1 ?v2 ?_); (case v1 => walk_at "lk"); (case v2 => (simp only [List.length_map, List.length_cons, List.length_nil, List.length_append]; omega)))
  | ((with_reducible refine' VX.i_iteDT ?v1 ?_); (case v1 => rfl))
  | ((with_reducible refine' VX.i_iteDF ?v1 ?_); (case v1 => intro h; cases h))
  | ((with_reducible refine' VX.i_isiD ?v1 ?v2 ?_); (case v1 => walk_at "dp"); (case v2 => decide))
  | ((with_reducible refine' VX.i_iteBT ?v1 ?_); (case v1 => rfl))
  | ((with_reducible refine' VX.i_iteBF ?v1 ?_); (case v1 => rfl))
  | (with_reducible refine' VX.i_gcons ?_)
  | (with_reducible refine' VX.i_dIn ?_)
  | (with_reducible refine' VX.i_dNotIn ?_)
  | (with_reducible refine' VX.i_dGet ?_)
  | (with_reducible refine' VX.i_items ?_)
  | (with_reducible refine' VX.i_keys ?_)
  | ((with_reducible refine' VX.i_gtup ?v1 ?v2 ?_); (case v1 => walk_at "sq"); (case v2 => rfl)))
local macro_rules | `(tactic| walk_at "vc") => `(tactic| repeat walk_at "vc1")

local macro_rules | `(tactic| walk_at "cl") => `(tactic| exact Txt.cl_Line (by assumption))
local macro_rules | `(tactic| walk_at "na") => `(tactic| first | exact Txt.na_Line_size (by assumption) | exact Txt.na_Line__spans (by assumption) | exact Txt.na_Line__mosts (by assumption))
section
variable {P : Program} {w : World} {K : PySem.W.Frag} {mg : Str → Option Value} {base : Heap} {A : Adr}
/-! ### the law's helpers: cell, pen, take -/
def spCell (K : PySem.W.Frag) : Sp := fun vs H Q _ => ∃ (s : Addr) (k : Int) (ns : List Int), vs = [.ref s, .int k] ∧ SqL K H s (ns.map V.int) ∧ 0 ≤ k ∧ k ≤ 1000 ∧ ∀ z : Int, Q (.int z) H
theorem ok_cell (T : Txt K mg A) : FnOk P w K mg base CX0 1 A.f_cell A.d_cell ["_law_script", "_law_k"] (spCell K) := by
  refine T.F_cell.ok sc_cell (fun vs H Q E h => ?_) (fun cdv A' outer s H vs Q E hr h => ?_)
  · obtain ⟨a, b, ns, rfl, _⟩ := h
    rfl
  · obtain ⟨a, k, ns, rfl, hs, h0, h1, q⟩ := h
    refine ⟨_, (pss_cons (ps_if (pt_cmpR op_lt (pv 1) (pe_callB (r := rLenS K) call_lenS (by rfl) T.n_len PySem.boot_len (pa_cons (pv 0) pa_nil)) (nomark _)) (pss_one (ps_ret (pe_ix (r := rIxL K) ix_list (pv 0) (pv 1) (fun _ _ => rfl)))) pss_nil)
      (pss_one (ps_ret (pe_op op_add (pe_op op_mul pe_int (pv 1)) pe_int)))), ?_⟩
    refine i_start (σ' := [some (V.ref a), some (.int k)]) rfl ?_
    walk_at "vc"
    rw [List.length_map]
    refine i_iteD (fun h2 => ?_) (fun h2 => ?_)
    · walk_at "vc"
      have hb : k.toNat < ns.length := by omega
      have e : ((k.toNat : Nat) : Int) = k := by omega
      refine i_ixL hs (at_of e.symm (j := k.toNat) (v := .int ns[k.toNat]) (by rw [List.getElem?_map, List.getElem?_eq_getElem hb]; rfl)) ?_
      exact q _
    · walk_at "vc"
      exact q _
def spPen (K : PySem.W.Frag) : Sp := fun vs H Q _ => ∃ (s : Addr) (k : Int) (ns : List Int), vs = [.ref s, .int k] ∧ SqL K H s (ns.map V.int) ∧ 0 ≤ k ∧ k ≤ 1000 ∧ ∀ (z : Int) p, H p = none → Q (.ref p) (upd H p (.lst [.int z, .int 0, .int z]))
theorem ok_pen (T : Txt K mg A) : FnOk P w K mg base CX0 2 A.f_pen A.d_pen ["_law_script", "_law_k"] (spPen K) := by
  refine T.F_pen.ok sc_pen (fun vs H Q E h => ?_) (fun cdv A' outer s H vs Q E hr h => ?_)
  · obtain ⟨a, b, ns, rfl, _⟩ := h
    rfl
  · obtain ⟨a, k, ns, rfl, hs, h0, h1, q⟩ := h
    refine ⟨_, (pss_cons (ps_set (i := 2) sc_pen.nd rfl (Or.inl rfl) (pe_call (ok_cell T) (hr.mono (by decide)) (by rfl) T.g_cell T.F_cell.kp (b_cell T) .nil pass0 (pa_cons (pv 0) (pa_cons (pv 1) pa_nil))))
      (pss_one (ps_ret (pe_lst (pa_cons (pv 2) (pa_cons pe_int (pa_cons (pv 2) pa_nil))))))), ?_⟩
    refine i_start (σ' := [some (V.ref a), some (.int k), none]) rfl ?_
    walk_at "vc"
    refine ⟨a, k, ns, rfl, hs, h0, h1, fun z => ?_⟩
    walk_at "vc"
    exact ⟨by show 3 ≤ sizeLine; decide, fun p np => q z p np⟩
def spTake : Sp := fun vs H Q _ => ∃ (p : Addr) (c n r size : Int), vs = [.ref p, .int size] ∧ H p = some (.lst [.int c, .int n, .int r]) ∧ 0 < size ∧ size < 1073741824 ∧ ∀ d n' r', 0 ≤ d → d < size → Q (.int d) (upd H p (.lst [.int c, .int n', .int r']))
theorem ok_take (T : Txt K mg A) : FnOk P w K mg base CX0 1 A.f_take A.d_take ["_law_pen_here", "_law_size_here"] spTake := by
  refine T.F_take.ok sc_take (fun vs H Q E h => ?_) (fun cdv A' outer s H vs Q E hr h => ?_)
  · obtain ⟨p, c, n, r, size, rfl, _⟩ := h
    rfl
  · obtain ⟨p, c, n, r, size, rfl, hp, h0, h1, q⟩ := h
    refine ⟨_, (pss_cons (ps_asg (pe_op op_add (pe_ix (r := rIxL K) ix_list (pv 0) pe_int (fun _ _ => rfl)) pe_int) (pg_sub (pv 0) pe_int set_list))
      (pss_cons (ps_if (PW.pt (pw_and (pt_cmpR op_ge (pe_ix (r := rIxL K) ix_list (pv 0) pe_int (fun _ _ => rfl)) (pe_op op_pow pe_int pe_int) (nomark _)) (pw_and1 (pt_cmpR op_gt (pe_ix (r := rIxL K) ix_list (pv 0) pe_int (fun _ _ => rfl)) pe_int (nomark _))))) (pss_cons (ps_set (i := 2) sc_take.nd rfl (Or.inl rfl) (pe_op op_modN (pe_callTy call_int (by rfl) T.n_int (by decide +kernel) (pa_cons (pe_ix (r := rIxL K) ix_list (pv 0) pe_int (fun _ _ => rfl)) pa_nil)) (pv 1)))
      (pss_cons (ps_asg (pe_op op_fdiv (pe_callTy call_int (by rfl) T.n_int (by decide +kernel) (pa_cons (pe_ix (r := rIxL K) ix_list (pv 0) pe_int (fun _ _ => rfl)) pa_nil)) (pv 1)) (pg_sub (pv 0) pe_int set_list))
      (pss_one (ps_ret (pv 2))))) pss_nil)
      (pss_cons (ps_set (i := 3) sc_take.nd rfl (Or.inl rfl) (pe_op op_modN (pe_callTy call_int (by rfl) T.n_int (by decide +kernel) (pa_cons (pe_op op_add (pe_op op_add (pe_ix (r := rIxL K) ix_list (pv 0) pe_int (fun _ _ => rfl)) (pe_op op_mul pe_int (pe_ix (r := rIxL K) ix_list (pv 0) pe_int (fun _ _ => rfl)))) pe_int) pa_nil)) pe_int))
      (pss_cons (ps_set (i := 3) sc_take.nd rfl (Or.inl rfl) (pe_op op_modN (pe_callTy call_int (by rfl) T.n_int (by decide +kernel) (pa_cons (pe_op op_mul (pv 3) (pe_op op_add (pv 3) pe_int)) pa_nil)) pe_int))
      (pss_cons (ps_set (i := 3) sc_take.nd rfl (Or.inl rfl) (pe_op op_modN (pe_callTy call_int (by rfl) T.n_int (by decide +kernel) (pa_cons (pe_op op_add (pe_op op_mul (pv 3) (pe_op op_add (pv 3) pe_int)) (pe_op op_mul pe_int (pe_ix (r := rIxL K) ix_list (pv 0) pe_int (fun _ _ => rfl)))) pa_nil)) pe_int))
      (pss_one (ps_ret (pe_op op_modN (pe_callTy call_int (by rfl) T.n_int (by decide +kernel) (pa_cons (pe_op op_fdiv (pv 3) pe_int) pa_nil)) (pv 1))))))))), ?_⟩
    refine i_start (σ' := [some (V.ref p), some (V.int size), none, none]) rfl ?_
    walk_at "vcA"
    refine i_iteD (fun _ => ?_) (fun _ => ?_)
    · walk_at "vcA"
      refine i_iteD (fun _ => ?_) (fun _ => ?_)
      · walk_at "vcA"
        exact q _ _ _ (by assumption) (by assumption)
      · walk_at "vcA"
        exact q _ _ _ (by assumption) (by assumption)
    · walk_at "vcA"
      exact q _ _ _ (by assumption) (by assumption)
/-- a draw, read -/
theorem i_take {H : Hp} {Q : VK} {E : XK} {p : Addr} {c n r size : Int} (hp : H p = some (.lst [.int c, .int n, .int r])) (h0 : 0 < size) (h1 : size < 1073741824)
    (q : ∀ d n' r', 0 ≤ d → d < size → Q (.int d) (upd H p (.lst [.int c, .int n', .int r']))) : spTake [.ref p, .int size] H Q E := ⟨p, c, n, r, size, rfl, hp, h0, h1, q⟩
end
end K03
set_option maxRecDepth 100000
set_option maxHeartbeats 1000000
namespace K03
open PySem PySem.Spec PyProof.Rows L2 VX
local macro_rules | `(tactic| walk_at "ne") => `(tactic| first
  | assumption
  | exact Ne.symm (by assumption)
  | exact ne_of_none (by assumption) (by assumption)
  | exact Ne.symm (ne_of_none (by assumption) (by assumption))
  | ((with_reducible refine' ne_of_none ?n1 ?n2); (case n2 => assumption); (case n1 => walk_at "lk"))
  | ((with_reducible refine' Ne.symm (ne_of_none ?n1 ?n2)); (case n2 => assumption); (case n1 => walk_at "lk")))
local macro_rules | `(tactic| walk_at "lk") => `(tactic| first
  | assumption
  | (with_reducible exact upd_same)
  | ((with_reducible refine' (upd_ne ?nn).trans ?ll); (case nn => walk_at "ne"); (case ll => walk_at "lk"))
  | ((with_reducible refine' VX.same_at ?nn ?ll); (case nn => assumption); (case ll => walk_at "lk")))
local macro_rules | `(tactic| walk_at "dp") => `(tactic| first
  | assumption
  | (with_reducible exact Dp.non)
  | (with_reducible exact Dp.bl _)
  | (with_reducible exact Dp.int _)
  | (with_reducible exact Dp.str _)
  | ((with_reducible refine' VX.Dp.mono' ?dd (same_new ?nn)); (case nn => assumption); (case dd => walk_at "dp"))
  | ((with_reducible refine' VX.Dp.mono' ?dd ?nn); (case nn => assumption); (case dd => walk_at "dp")))
local macro_rules | `(tactic| walk_at "sq") => `(tactic| first
  | assumption
  | (with_reducible exact SqL.of (by assumption))
  | (with_reducible exact SqT.of (by assumption))
  | ((with_reducible refine' Same.seq (same_new ?nn) ?qq); (case nn => assumption); (case qq => walk_at "sq"))
  | ((with_reducible refine' same_sqT (same_new ?nn) ?qq); (case nn => assumption); (case qq => walk_at "sq"))
  | ((with_reducible refine' Same.seq ?nn ?qq); (case nn => assumption); (case qq => walk_at "sq"))
  | ((with_reducible refine' same_sqT ?nn ?qq); (case nn => assumption); (case qq => walk_at "sq"))
  | ((with_reducible refine' SqL.of ?qq); (case qq => walk_at "lk"))
  | ((with_reducible refine' SqT.of ?qq); (case qq => walk_at "lk")))
local macro_rules | `(tactic| walk_at "cc") => `(tactic| first
  | exact ⟨by decide, by decide, by decide⟩
  | (show _ ≠ _; omega)
  | exact ⟨by omega, by omega⟩
  | exact Or.inl ⟨by omega, by omega⟩
  | exact Or.inr ⟨by omega, by omega⟩)
local macro_rules | `(tactic| walk_at "vcA") => `(tactic| repeat (first
  | ((with_reducible refine' VX.i_modA ?v1 ?_); (case v1 => omega); intro r hr0 hr1)
  | ((with_reducible refine' VX.i_divA ?v1 ?v2 ?_); (case v1 => omega); (case v2 => omega); intro r hr0 hr1)
  | walk_at "vc1"))
local macro_rules | `(tactic| walk_at "vc1") => `(tactic| first
  | ((with_reducible refine' VX.i_var ?v1 ?_); (case v1 => rfl))
  | (with_reducible refine' VX.i_c ?_)
  | (with_reducible refine' VX.i_op ?_)
  | (with_reducible refine' VX.i_cons ?_)
  | (with_reducible refine' VX.i_nil ?_)
  | (with_reducible refine' VX.i_seq ?_)
  | (with_reducible refine' VX.i_asg ?_)
  | ((with_reducible refine' VX.i_gname ?v2 ?_); (case v2 => (first | (simp only [List.set_cons_zero, List.set_cons_succ]; done) | (simp only [List.set_cons_zero, List.set_cons_succ]; exact rfl) | exact rfl)))
  | (with_reducible refine' VX.i_ifS ?_)
  | (with_reducible refine' VX.i_test ?_)
  | (with_reducible refine' VX.i_tB ?_)
  | (with_reducible refine' VX.i_bl ?_)
  | (with_reducible refine' VX.i_iteT ?_)
  | (with_reducible refine' VX.i_iteF ?_)
  | (with_reducible refine' VX.i_iteNT ?_)
  | (with_reducible refine' VX.i_iteNF ?_)
  | (with_reducible refine' VX.i_and ?_)
  | (with_reducible refine' VX.i_or ?_)
  | (with_reducible refine' VX.i_not ?_)
  | (with_reducible refine' VX.i_call ?_)
  | (with_reducible refine' VX.i_CB ?_)
  | (with_reducible refine' VX.i_make ?_)
  | (with_reducible refine' VX.i_makeK0 ?_)
  | (with_reducible refine' VX.i_mthK ?_)
  | (with_reducible refine' VX.i_mthS ?_)
  | (with_reducible refine' VX.i_meth ?_)
  | ((with_reducible refine' VX.i_ixL ?v1 ?v2 ?_); (case v1 => walk_at "sq"); (case v2 => first | rfl | assumption))
  | ((with_reducible refine' VX.i_ixT ?v1 ?v2 ?_); (case v1 => walk_at "sq"); (case v2 => first | rfl | assumption))
  | ((with_reducible refine' VX.i_setLU ?v2 ?v3 ?_); (case v2 => rfl); (case v3 => rfl))
  | ((with_reducible refine' VX.i_setL ?v1 ?v2 ?v3 ?_); (case v1 => walk_at "lk"); (case v2 => rfl); (case v3 => rfl))
  | (with_reducible refine' VX.i_rI0 ?_)
  | ((with_reducible refine' VX.i_rI ?v1 ?_); (case v1 => walk_at "cc"))
  | (with_reducible refine' VX.i_int ?_)
  | ((with_reducible refine' VX.i_rEqS ?v1 ?_); (case v1 => rfl))
  | ((with_reducible refine' VX.i_rNeS ?v1 ?_); (case v1 => rfl))
  | (with_reducible refine' VX.i_rEqI ?_)
  | (with_reducible refine' VX.i_rNeI ?_)
  | (with_reducible refine' VX.i_max2 ?_)
  | (with_reducible refine' VX.i_min2 ?_)
  | ((with_reducible refine' VX.i_lenL ?v1 ?_); (case v1 => walk_at "sq"))
  | ((with_reducible refine' VX.i_lenT ?v1 ?_); (case v1 => walk_at "sq"))
  | (with_reducible refine' VX.i_chain ?_)
  | (with_reducible refine' VX.i_gsub ?_)
  | (with_reducible refine' VX.i_ret ?_)
  | (with_reducible refine' VX.i_drop ?_)
  | (with_reducible refine' VX.i_next ?_)
  | (with_reducible refine' VX.i_retN ?_)
  | (with_reducible refine' VX.i_andV ?_)
  | (with_reducible refine' VX.i_orV ?_)
  | (with_reducible refine' VX.i_notV ?_)
  | (with_reducible refine' VX.i_ifE ?_)
  | (with_reducible refine' VX.i_un ?_)
  | (with_reducible refine' VX.i_rU ?_)
  | (with_reducible refine' VX.i_tup ?_)
  | (with_reducible refine' VX.i_lst ?_)
  | ((with_reducible refine' VX.i_fldv ?v1 ?v2 ?v3 ?v4 ?v5 ?_); (case v1 => rfl); (case v2 => walk_at "lk"); (case v3 => walk_at "cl"); (case v4 => walk_at "na"); (case v5 => first | rfl | assumption))
  | (with_reducible refine' VX.i_fld ?_)
  | (with_reducible refine' VX.i_sFld ?_)
  | (with_reducible refine' VX.i_mk1 ?_)
  | (with_reducible refine' VX.i_mk1v ?_)
  | (with_reducible refine' VX.i_gnil ?_)
  | (with_reducible refine' VX.i_lc ?_)
  | (with_reducible refine' VX.i_for ?_)
  | (with_reducible refine' VX.i_lstRg ?_)
  | (with_reducible refine' VX.i_rg2 ?_)
  | (with_reducible refine' VX.i_rg2v ?_)
  | (with_reducible refine' VX.i_yes ?_)
  | (with_reducible refine' VX.i_iList ?_)
  | (with_reducible refine' VX.i_iRng1 ?_)
  | (with_reducible refine' VX.i_iRng2 ?_)
  | (with_reducible refine' VX.i_iEnum ?_)
  | (with_reducible refine' VX.i_iZip ?_)
  | (with_reducible refine' VX.i_iOwn ?_)
  | ((with_reducible refine' VX.i_wipe ?v1 ?_); (case v1 => rfl))
  | (with_reducible refine' VX.i_andN ?_)
  | (with_reducible refine' VX.i_iteNDS ?_)
  | (with_reducible refine' VX.i_bm ?_)
  | ((with_reducible refine' VX.i_tyL ?v1 ?_); (case v1 => walk_at "sq"))
  | ((with_reducible refine' VX.i_append ?v1 ?v2 ?_); (case v1 => walk_at "lk"); (case v2 => (simp only [List.length_map, List.length_cons, List.length_nil, List.length_append]; omega)))
  | ((with_reducible refine' VX.i_iteDT ?v1 ?_); (case v1 => rfl))
  | ((with_reducible refine' VX.i_iteDF ?v1 ?_); (case v1 => intro h; cases h))
  | ((with_reducible refine' VX.i_isiD ?v1 ?v2 ?_); (case v1 => walk_at "dp"); (case v2 => decide))
  | ((with_reducible refine' VX.i_iteBT ?v1 ?_); (case v1 => rfl))
  | ((with_reducible refine' VX.i_iteBF ?v1 ?_); (case v1 => rfl))
  | (with_reducible refine' VX.i_gcons ?_)
  | (with_reducible refine' VX.i_dIn ?_)
  | (with_reducible refine' VX.i_dNotIn ?_)
  | (with_reducible refine' VX.i_dGet ?_)
  | (with_reducible refine' VX.i_items ?_)
  | (with_reducible refine' VX.i_keys ?_)
  | ((with_reducible refine' VX.i_gtup ?v1 ?v2 ?_); (case v1 => walk_at "sq"); (case v2 => rfl)))
local macro_rules | `(tactic| walk_at "vc") => `(tactic| repeat walk_at "vc1")

local macro_rules | `(tactic| walk_at "cl") => `(tactic| exact Txt.cl_Line (by assumption))
local macro_rules | `(tactic| walk_at "na") => `(tactic| first | exact Txt.na_Line_size (by assumption) | exact Txt.na_Line__spans (by assumption) | exact Txt.na_Line__mosts (by assumption))
section
variable {P : Program} {w : World} {K : PySem.W.Frag} {mg : Str → Option Value} {base : Heap} {A : Adr}
def spIsInt : Sp := fun vs H Q _ => ∃ n : Int, vs = [.int n] ∧ Q (.bl true) H
theorem ok_is_int (T : Txt K mg A) : FnOk P w K mg base CX0 1 A.f_is_int A.d_is_int ["_law_value"] spIsInt := by
  refine T.F_is_int.ok sc_is_int (fun vs H Q E h => ?_) (fun cdv A' outer s H vs Q E hr h => ?_)
  · obtain ⟨n, rfl, _⟩ := h
    rfl
  · obtain ⟨n, rfl, q⟩ := h
    refine ⟨_, (pss_one (ps_ret (pe_and (pe_callB call_isi (by rfl) T.n_isinstance (by decide +kernel) (pa_cons (pv 0) (pa_cons (pe_bltn (v := .ty "int") (by rfl) T.n_int (by decide +kernel) rfl) pa_nil))) (pe_one (pe_not (pe_callB call_isi (by rfl) T.n_isinstance (by decide +kernel) (pa_cons (pv 0) (pa_cons (pe_bltn (v := .ty "bool") (by rfl) T.n_bool (by decide +kernel) rfl) pa_nil)))))))), ?_⟩
    refine i_start (σ' := [some (V.int n)]) rfl ?_
    have hn : Dp K H (.int n) (.int n) := .int n
    walk_at "vc"
    exact q
/-! ### same: of two that say the same -/
def spS (K : PySem.W.Frag) (n : Nat) : Sp := fun vs H Q _ => ∃ x y d, vs = [x, y] ∧ Dp K H x d ∧ Dp K H y d ∧ dep d < n ∧ nar 1000 d = true ∧ ∀ H', Same H H' → Q (.bl true) H'
theorem same_step (T : Txt K mg A) {n : Nat} (IH : FnOk P w K mg base CX0 (n + 1) A.f_same A.d_same ["_law_actual", "_law_due_here"] (spS K n)) : FnOk P w K mg base CX0 (n + 2) A.f_same A.d_same ["_law_actual", "_law_due_here"] (spS K (n + 1)) := by
  refine T.F_same.ok sc_same (fun vs H Q E h => ?_) (fun cdv A' outer s H vs Q E hr h => ?_)
  · obtain ⟨x, y, d, rfl, _⟩ := h
    rfl
  · obtain ⟨x, y, d, rfl, hx, hy, hd, hn, q⟩ := h
    refine ⟨_, (pss_cons (ps_if (pt_cmpR op_isN (pv 1) pe_non (nomark _)) (pss_one (ps_ret (pe_cmpR op_isN (pv 0) pe_non (nomark _)))) pss_nil)
      (pss_cons (ps_if (pt_val (pe_callB call_isi (by rfl) T.n_isinstance (by decide +kernel) (pa_cons (pv 1) (pa_cons (pe_bltn (v := .ty "bool") (by rfl) T.n_bool (by decide +kernel) rfl) pa_nil)))) (pss_one (ps_ret (pe_and (pe_callB call_isi (by rfl) T.n_isinstance (by decide +kernel) (pa_cons (pv 0) (pa_cons (pe_bltn (v := .ty "bool") (by rfl) T.n_bool (by decide +kernel) rfl) pa_nil))) (pe_one (pe_cmpR op_eq (pv 0) (pv 1) (nomark _)))))) pss_nil)
      (pss_cons (ps_if (pt_val (pe_callB call_isi (by rfl) T.n_isinstance (by decide +kernel) (pa_cons (pv 1) (pa_cons (pe_bltn (v := .ty "int") (by rfl) T.n_int (by decide +kernel) rfl) pa_nil)))) (pss_one (ps_ret (pe_and (pe_call (ok_is_int T) (hr.mono (by omega)) (by rfl) T.g_is_int T.F_is_int.kp (b_is_int T) .nil pass0 (pa_cons (pv 0) pa_nil)) (pe_one (pe_cmpR op_eq (pv 0) (pv 1) (nomark _)))))) pss_nil)
      (pss_cons (ps_if (pt_val (pe_callB call_isi (by rfl) T.n_isinstance (by decide +kernel) (pa_cons (pv 1) (pa_cons (pe_bltn (v := .ty "str") (by rfl) T.n_str (by decide +kernel) rfl) pa_nil)))) (pss_one (ps_ret (pe_and (pe_callB call_isi (by rfl) T.n_isinstance (by decide +kernel) (pa_cons (pv 0) (pa_cons (pe_bltn (v := .ty "str") (by rfl) T.n_str (by decide +kernel) rfl) pa_nil))) (pe_one (pe_cmpR op_eq (pv 0) (pv 1) (nomark _)))))) pss_nil)
      (pss_cons (ps_if (PW.pt (pw_and (pt_val (pe_callB call_isi (by rfl) T.n_isinstance (by decide +kernel) (pa_cons (pv 1) (pa_cons (pe_bltn (v := .ty "list") (by rfl) T.n_list (by decide +kernel) rfl) pa_nil)))) (pw_and1 (pt_not (pt_val (pe_callB call_isi (by rfl) T.n_isinstance (by decide +kernel) (pa_cons (pv 0) (pa_cons (pe_bltn (v := .ty "list") (by rfl) T.n_list (by decide +kernel) rfl) pa_nil)))))))) (pss_one (ps_ret pe_bl)) pss_nil)
      (pss_cons (ps_if (PW.pt (pw_and (pt_val (pe_callB call_isi (by rfl) T.n_isinstance (by decide +kernel) (pa_cons (pv 1) (pa_cons (pe_bltn (v := .ty "tuple") (by rfl) T.n_tuple (by decide +kernel) rfl) pa_nil)))) (pw_and1 (pt_not (pt_val (pe_callB call_isi (by rfl) T.n_isinstance (by decide +kernel) (pa_cons (pv 0) (pa_cons (pe_bltn (v := .ty "tuple") (by rfl) T.n_tuple (by decide +kernel) rfl) pa_nil)))))))) (pss_one (ps_ret pe_bl)) pss_nil)
      (pss_cons (ps_if (pt_cmpR op_ne (pe_callB (r := rLenS K) call_lenS (by rfl) T.n_len PySem.boot_len (pa_cons (pv 0) pa_nil)) (pe_callB (r := rLenS K) call_lenS (by rfl) T.n_len PySem.boot_len (pa_cons (pv 1) pa_nil)) (nomark _)) (pss_one (ps_ret pe_bl)) pss_nil)
      (pss_cons (ps_for PassesOwn.never rfl (pi_range1 (by rfl) T.n_range (pa_cons (pe_callB (r := rLenS K) call_lenS (by rfl) T.n_len PySem.boot_len (pa_cons (pv 1) pa_nil)) pa_nil)) (pg_name (i := 2) sc_same.nd rfl (Or.inl rfl))
      (pss_one (ps_if (pt_not (pt_val (pe_call IH hr (by rfl) T.g_same T.F_same.kp (b_same T) .nil pass0 (pa_cons (pe_ix (r := rIx K) ix_seq (pv 0) (pv 2) (fun _ _ => rfl)) (pa_cons (pe_ix (r := rIx K) ix_seq (pv 1) (pv 2) (fun _ _ => rfl)) pa_nil))))) (pss_one (ps_ret pe_bl)) pss_nil)))
      (pss_one (ps_ret pe_bl)))))))))), ?_⟩
    refine i_start (σ' := [some x, some y, none]) rfl ?_
    cases d with
    | none =>
      cases hx
      cases hy
      walk_at "vc"
      exact q _ (Same.refl _)
    | bool b =>
      cases hx
      cases hy
      walk_at "vc"
      exact q _ (Same.refl _)
    | int b =>
      cases hx
      cases hy
      walk_at "vc"
      refine ⟨b, rfl, ?_⟩
      walk_at "vc"
      exact q _ (Same.refl _)
    | str b =>
      cases hx
      cases hy
      walk_at "vc"
      exact q _ (Same.refl _)
    | list ds =>
      cases hx with
      | lst hs ha =>
      cases hy with
      | lst ht hb =>
      rename_i a xs b ys
      have px : Dp K H (.ref a) (.list ds) := .lst hs ha
      have py : Dp K H (.ref b) (.list ds) := .lst ht hb
      have l1 := dpa_len ha
      have l2 := dpa_len hb
      walk_at "vc"
      have n1 : ds.length ≤ 1000 ∧ narAll 1000 ds = true := by
        have hn : (decide (ds.length ≤ 1000) && narAll 1000 ds) = true := hn
        exact ⟨of_decide_eq_true (Bool.and_eq_true_iff.mp hn).1, (Bool.and_eq_true_iff.mp hn).2⟩
      rw [l1, l2]
      walk_at "vc"
      rw [l2]
      refine ⟨(ds.length : Int), rfl, by omega, by omega, ?_⟩
      refine for_it (walk_range (lo := 0) (n := ds.length)) (fun _ σ' H' => ∃ y2, σ' = [some (V.ref a), some (.ref b), y2] ∧ Same H H') ⟨_, rfl, Same.refl _⟩ (fun _ _ _ _ _ => trivial) (fun i x σ' H' H'' hi pv y => ?_) fun σ' H' pv => ?_
      · obtain ⟨y2, rfl, e⟩ := pv
        obtain ⟨rfl, rfl⟩ := y
        obtain ⟨d, hdi⟩ : ∃ d, ds[i]? = some d := ⟨_, List.getElem?_eq_getElem hi⟩
        obtain ⟨v1, g1, p1⟩ := dpa_get ha hdi
        obtain ⟨v2, g2, p2⟩ := dpa_get hb hdi
        walk_at "vc"
        refine i_rixL (Same.seq e hs) (at_of (Int.zero_add _) g1) ?_
        walk_at "vc"
        refine i_rixL (Same.seq e ht) (at_of (Int.zero_add _) g2) ?_
        walk_at "vc"
        have hd : depAll ds + 1 < n + 1 := hd
        refine ⟨v1, v2, d, rfl, Dp.mono' p1 e, Dp.mono' p2 e, Nat.lt_of_le_of_lt (dep_get hdi) (by omega), nar_get n1.2 hdi, fun H3 e3 => ?_⟩
        walk_at "vc"
        exact ⟨_, rfl, e.trans e3⟩
      · obtain ⟨y2, rfl, e⟩ := pv
        walk_at "vc"
        exact q _ e
    | tuple ds =>
      cases hx with
      | tup hs ha =>
      cases hy with
      | tup ht hb =>
      rename_i a xs b ys
      have px : Dp K H (.ref a) (.tuple ds) := .tup hs ha
      have py : Dp K H (.ref b) (.tuple ds) := .tup ht hb
      have l1 := dpa_len ha
      have l2 := dpa_len hb
      walk_at "vc"
      have n1 : ds.length ≤ 1000 ∧ narAll 1000 ds = true := by
        have hn : (decide (ds.length ≤ 1000) && narAll 1000 ds) = true := hn
        exact ⟨of_decide_eq_true (Bool.and_eq_true_iff.mp hn).1, (Bool.and_eq_true_iff.mp hn).2⟩
      rw [l1, l2]
      walk_at "vc"
      rw [l2]
      refine ⟨(ds.length : Int), rfl, by omega, by omega, ?_⟩
      refine for_it (walk_range (lo := 0) (n := ds.length)) (fun _ σ' H' => ∃ y2, σ' = [some (V.ref a), some (.ref b), y2] ∧ Same H H') ⟨_, rfl, Same.refl _⟩ (fun _ _ _ _ _ => trivial) (fun i x σ' H' H'' hi pv y => ?_) fun σ' H' pv => ?_
      · obtain ⟨y2, rfl, e⟩ := pv
        obtain ⟨rfl, rfl⟩ := y
        obtain ⟨d, hdi⟩ : ∃ d, ds[i]? = some d := ⟨_, List.getElem?_eq_getElem hi⟩
        obtain ⟨v1, g1, p1⟩ := dpa_get ha hdi
        obtain ⟨v2, g2, p2⟩ := dpa_get hb hdi
        walk_at "vc"
        refine i_rixT (same_sqT e hs) (at_of (Int.zero_add _) g1) ?_
        walk_at "vc"
        refine i_rixT (same_sqT e ht) (at_of (Int.zero_add _) g2) ?_
        walk_at "vc"
        have hd : depAll ds + 1 < n + 1 := hd
        refine ⟨v1, v2, d, rfl, Dp.mono' p1 e, Dp.mono' p2 e, Nat.lt_of_le_of_lt (dep_get hdi) (by omega), nar_get n1.2 hdi, fun H3 e3 => ?_⟩
        walk_at "vc"
        exact ⟨_, rfl, e.trans e3⟩
      · obtain ⟨y2, rfl, e⟩ := pv
        walk_at "vc"
        exact q _ e
    | dict ds => cases hx
theorem ok_sameN (T : Txt K mg A) : ∀ n : Nat, FnOk P w K mg base CX0 (n + 1) A.f_same A.d_same ["_law_actual", "_law_due_here"] (spS K n)
  | 0 => ⟨fun _ _ _ _ h => (let ⟨_, _, _, _, _, _, h, _⟩ := h; absurd h (Nat.not_lt_zero _)), fun _ _ _ _ _ _ _ _ _ _ _ _ _ h => (let ⟨_, _, _, _, _, _, h, _⟩ := h; absurd h (Nat.not_lt_zero _))⟩
  | n + 1 => same_step T (ok_sameN T n)
theorem ok_same (T : Txt K mg A) : FnOk P w K mg base CX0 6 A.f_same A.d_same ["_law_actual", "_law_due_here"] (spS K 5) := ok_sameN T 5
end
end K03
set_option maxRecDepth 100000
set_option maxHeartbeats 1000000
namespace K03
open PySem PySem.Spec PyProof.Rows L2 VX
local macro_rules | `(tactic| walk_at "ne") => `(tactic| first
  | assumption
  | exact Ne.symm (by assumption)
  | exact ne_of_none (by assumption) (by assumption)
  | exact Ne.symm (ne_of_none (by assumption) (by assumption))
  | ((with_reducible refine' ne_of_none ?n1 ?n2); (case n2 => assumption); (case n1 => walk_at "lk"))
  | ((with_reducible refine' Ne.symm (ne_of_none ?n1 ?n2)); (case n2 => assumption); (case n1 => walk_at "lk")))
local macro_rules | `(tactic| walk_at "lk") => `(tactic| first
  | assumption
  | (with_reducible exact upd_same)
  | ((with_reducible refine' (upd_ne ?nn).trans ?ll); (case nn => walk_at "ne"); (case ll => walk_at "lk"))
  | ((with_reducible refine' VX.same_at ?nn ?ll); (case nn => assumption); (case ll => walk_at "lk")))
local macro_rules | `(tactic| walk_at "dp") => `(tactic| first
  | assumption
  | (with_reducible exact Dp.non)
  | (with_reducible exact Dp.bl _)
  | (with_reducible exact Dp.int _)
  | (with_reducible exact Dp.str _)
  | ((with_reducible refine' VX.Dp.mono' ?dd (same_new ?nn)); (case nn => assumption); (case dd => walk_at "dp"))
  | ((with_reducible refine' VX.Dp.mono' ?dd ?nn); (case nn => assumption); (case dd => walk_at "dp")))
local macro_rules | `(tactic| walk_at "sq") => `(tactic| first
  | assumption
  | (with_reducible exact SqL.of (by assumption))
  | (with_reducible exact SqT.of (by assumption))
  | ((with_reducible refine' Same.seq (same_new ?nn) ?qq); (case nn => assumption); (case qq => walk_at "sq"))
  | ((with_reducible refine' same_sqT (same_new ?nn) ?qq); (case nn => assumption); (case qq => walk_at "sq"))
  | ((with_reducible refine' Same.seq ?nn ?qq); (case nn => assumption); (case qq => walk_at "sq"))
  | ((with_reducible refine' same_sqT ?nn ?qq); (case nn => assumption); (case qq => walk_at "sq"))
  | ((with_reducible refine' SqL.of ?qq); (case qq => walk_at "lk"))
  | ((with_reducible refine' SqT.of ?qq); (case qq => walk_at "lk")))
local macro_rules | `(tactic| walk_at "cc") => `(tactic| first
  | exact ⟨by decide, by decide, by decide⟩
  | (show _ ≠ _; omega)
  | exact ⟨by omega, by omega⟩
  | exact Or.inl ⟨by omega, by omega⟩
  | exact Or.inr ⟨by omega, by omega⟩)
local macro_rules | `(tactic| walk_at "vcA") => `(tactic| repeat (first
  | ((with_reducible refine' VX.i_modA ?v1 ?_); (case v1 => omega); intro r hr0 hr1)
  | ((with_reducible refine' VX.i_divA ?v1 ?v2 ?_); (case v1 => omega); (case v2 => omega); intro r hr0 hr1)
  | walk_at "vc1"))
local macro_rules | `(tactic| walk_at "vc1") => `(tactic| first
  | ((with_reducible refine' VX.i_var ?v1 ?_); (case v1 => rfl))
  | (with_reducible refine' VX.i_c ?_)
  | (with_reducible refine' VX.i_op ?_)
  | (with_reducible refine' VX.i_cons ?_)
  | (with_reducible refine' VX.i_nil ?_)
  | (with_reducible refine' VX.i_seq ?_)
  | (with_reducible refine' VX.i_asg ?_)
  | ((with_reducible refine' VX.i_gname ?v2 ?_); (case v2 => (first | (simp only [List.set_cons_zero, List.set_cons_succ]; done) | (simp only [List.set_cons_zero, List.set_cons_succ]; exact rfl) | exact rfl)))
  | (with_reducible refine' VX.i_ifS ?_)
  | (with_reducible refine' VX.i_test ?_)
  | (with_reducible refine' VX.i_tB ?_)
  | (with_reducible refine' VX.i_bl ?_)
  | (with_reducible refine' VX.i_iteT ?_)
  | (with_reducible refine' VX.i_iteF ?_)
  | (with_reducible refine' VX.i_iteNT ?_)
  | (with_reducible refine' VX.i_iteNF ?_)
  | (with_reducible refine' VX.i_and ?_)
  | (with_reducible refine' VX.i_or ?_)
  | (with_reducible refine' VX.i_not ?_)
  | (with_reducible refine' VX.i_call ?_)
  | (with_reducible refine' VX.i_CB ?_)
  | (with_reducible refine' VX.i_make ?_)
  | (with_reducible refine' VX.i_makeK0 ?_)
  | (with_reducible refine' VX.i_mthK ?_)
  | (with_reducible refine' VX.i_mthS ?_)
  | (with_reducible refine' VX.i_meth ?_)
  | ((with_reducible refine' VX.i_ixL ?v1 ?v2 ?_); (case v1 => walk_at "sq"); (case v2 => first | rfl | assumption))
  | ((with_reducible refine' VX.i_ixT ?v1 ?v2 ?_); (case v1 => walk_at "sq"); (case v2 => first | rfl | assumption))
  | ((with_reducible refine' VX.i_setLU ?v2 ?v3 ?_); (case v2 => rfl); (case v3 => rfl))
  | ((with_reducible refine' VX.i_setL ?v1 ?v2 ?v3 ?_); (case v1 => walk_at "lk"); (case v2 => rfl); (case v3 => rfl))
  | (with_reducible refine' VX.i_rI0 ?_)
  | ((with_reducible refine' VX.i_rI ?v1 ?_); (case v1 => walk_at "cc"))
  | (with_reducible refine' VX.i_int ?_)
  | ((with_reducible refine' VX.i_rEqS ?v1 ?_); (case v1 => rfl))
  | ((with_reducible refine' VX.i_rNeS ?v1 ?_); (case v1 => rfl))
  | (with_reducible refine' VX.i_rEqI ?_)
  | (with_reducible refine' VX.i_rNeI ?_)
  | (with_reducible refine' VX.i_max2 ?_)
  | (with_reducible refine' VX.i_min2 ?_)
  | ((with_reducible refine' VX.i_lenL ?v1 ?_); (case v1 => walk_at "sq"))
  | ((with_reducible refine' VX.i_lenT ?v1 ?_); (case v1 => walk_at "sq"))
  | (with_reducible refine' VX.i_chain ?_)
  | (with_reducible refine' VX.i_gsub ?_)
  | (with_reducible refine' VX.i_ret ?_)
  | (with_reducible refine' VX.i_drop ?_)
  | (with_reducible refine' VX.i_next ?_)
  | (with_reducible refine' VX.i_retN ?_)
  | (with_reducible refine' VX.i_andV ?_)
  | (with_reducible refine' VX.i_orV ?_)
  | (with_reducible refine' VX.i_notV ?_)
  | (with_reducible refine' VX.i_ifE ?_)
  | (with_reducible refine' VX.i_un ?_)
  | (with_reducible refine' VX.i_rU ?_)
  | (with_reducible refine' VX.i_tup ?_)
  | (with_reducible refine' VX.i_lst ?_)
  | ((with_reducible refine' VX.i_fldv ?v1 ?v2 ?v3 ?v4 ?v5 ?_); (case v1 => rfl); (case v2 => walk_at "lk"); (case v3 => walk_at "cl"); (case v4 => walk_at "na"); (case v5 => first | rfl | assumption))
  | (with_reducible refine' VX.i_fld ?_)
  | (with_reducible refine' VX.i_sFld ?_)
  | (with_reducible refine' VX.i_mk1 ?_)
  | (with_reducible refine' VX.i_mk1v ?_)
  | (with_reducible refine' VX.i_gnil ?_)
  | (with_reducible refine' VX.i_lc ?_)
  | (with_reducible refine' VX.i_for ?_)
  | (with_reducible refine' VX.i_lstRg ?_)
  | (with_reducible refine' VX.i_rg2 ?_)
  | (with_reducible refine' VX.i_rg2v ?_)
  | (with_reducible refine' VX.i_yes ?_)
  | (with_reducible refine' VX.i_iList ?_)
  | (with_reducible refine' VX.i_iRng1 ?_)
  | (with_reducible refine' VX.i_iRng2 ?_)
  | (with_reducible refine' VX.i_iEnum ?_)
  | (with_reducible refine' VX.i_iZip ?_)
  | (with_reducible refine' VX.i_iOwn ?_)
  | ((with_reducible refine' VX.i_wipe ?v1 ?_); (case v1 => rfl))
  | (with_reducible refine' VX.i_andN ?_)
  | (with_reducible refine' VX.i_iteNDS ?_)
  | (with_reducible refine' VX.i_bm ?_)
  | ((with_reducible refine' VX.i_tyL ?v1 ?_); (case v1 => walk_at "sq"))
  | ((with_reducible refine' VX.i_append ?v1 ?v2 ?_); (case v1 => walk_at "lk"); (case v2 => (simp only [List.length_map, List.length_cons, List.length_nil, List.length_append]; omega)))
  | ((with_reducible refine' VX.i_iteDT ?v1 ?_); (case v1 => rfl))
  | ((with_reducible refine' VX.i_iteDF ?v1 ?_); (case v1 => intro h; cases h))
  | ((with_reducible refine' VX.i_isiD ?v1 ?v2 ?_); (case v1 => walk_at "dp"); (case v2 => decide))
  | ((with_reducible refine' VX.i_iteBT ?v1 ?_); (case v1 => rfl))
  | ((with_reducible refine' VX.i_iteBF ?v1 ?_); (case v1 => rfl))
  | (with_reducible refine' VX.i_gcons ?_)
  | (with_reducible refine' VX.i_dIn ?_)
  | (with_reducible refine' VX.i_dNotIn ?_)
  | (with_reducible refine' VX.i_dGet ?_)
  | (with_reducible refine' VX.i_items ?_)
  | (with_reducible refine' VX.i_keys ?_)
  | ((with_reducible refine' VX.i_gtup ?v1 ?v2 ?_); (case v1 => walk_at "sq"); (case v2 => rfl)))
local macro_rules | `(tactic| walk_at "vc") => `(tactic| repeat walk_at "vc1")

local macro_rules | `(tactic| walk_at "cl") => `(tactic| exact Txt.cl_Line (by assumption))
local macro_rules | `(tactic| walk_at "na") => `(tactic| first | exact Txt.na_Line_size (by assumption) | exact Txt.na_Line__spans (by assumption) | exact Txt.na_Line__mosts (by assumption))
abbrev pen (c n r : Int) : HO := .lst [.int c, .int n, .int r]
/-- a wire within a line of n boxes, its hours at most m -/
structure WOk1 (n m : Int) (w : W4) : Prop where
  s0 : 0 ≤ w.s
  s1 : w.s < n
  t0 : 0 ≤ w.t
  t1 : w.t < n
  ne : w.s ≠ w.t
  l0 : 1 ≤ w.lo
  l1 : w.lo ≤ m
  h : ∀ h, w.hi = some h → w.lo ≤ h ∧ h ≤ m
structure WOk (n m : Int) (ws : List W4) : Prop where
  w : ∀ w ∈ ws, WOk1 n m w
  nd : (ws.map W4.k).Nodup
theorem WOk.nil {n m : Int} : WOk n m [] := ⟨fun _ h => (nomatch h), List.nodup_nil⟩
theorem WOk.snoc {n m : Int} {ws : List W4} {w : W4} (h : WOk n m ws) (h1 : WOk1 n m w) (hk : ∀ u ∈ ws, u.k ≠ w.k) : WOk n m (ws ++ [w]) := by
  refine ⟨fun u hu => ?_, ?_⟩
  · rcases List.mem_append.mp hu with hu | hu
    · exact h.w u hu
    · rw [List.mem_singleton] at hu
      subst hu
      exact h1
  · rw [List.map_append, List.nodup_append]
    refine ⟨h.nd, by simp, fun a ha b hb => ?_⟩
    obtain ⟨u, hu, rfl⟩ := List.mem_map.mp ha
    have : b = w.k := by simpa using hb
    rw [this]
    exact hk u hu
theorem k_ne {u w : W4} (h : u.s ≠ w.s ∨ u.t ≠ w.t) : u.k ≠ w.k := fun e => by
  have e : [u.s, u.t] = [w.s, w.t] := e
  simp at e
  omega
section
variable {P : Program} {w : World} {K : PySem.W.Frag} {mg : Str → Option Value} {base : Heap} {A : Adr}
/-- a draw by a pen among the cells that turn -/
theorem i_takeX {F H : Hp} {T : List (Addr × HO)} {Q : VK} {E : XK} {p : Addr} {c n r size : Int} (i : Nat) (x : Cxs F T H) (hi : T[i]? = some (p, pen c n r)) (h0 : 0 < size) (h1 : size < 1073741824)
    (q : ∀ d n' r' H', 0 ≤ d → d < size → Cxs F (T.set i (p, pen c n' r')) H' → Q (.int d) H') : spTake [.ref p, .int size] H Q E :=
  i_take (x.at i hi) h0 h1 fun d n' r' d0 d1 => q d n' r' _ d0 d1 (x.turn i hi _)
/-! ### size -/
def spSize : Sp := fun vs H Q _ => ∃ (F : Hp) (p : Addr) (c n r : Int), vs = [.ref p] ∧ Cxs F [(p, pen c n r)] H ∧ ∀ d n' r' H', 1 ≤ d → d ≤ 4 → Cxs F [(p, pen c n' r')] H' → Q (.int d) H'
theorem ok_size (T : Txt K mg A) : FnOk P w K mg base CX0 2 A.f_size A.d_size ["_law_pen_here"] spSize := by
  refine T.F_size.ok sc_size (fun vs H Q E h => ?_) (fun cdv A' outer s H vs Q E hr h => ?_)
  · obtain ⟨F, p, c, n, r, rfl, _⟩ := h
    rfl
  · obtain ⟨F, p, c, n, r, rfl, x, q⟩ := h
    refine ⟨_, (pss_one (ps_ret (pe_ix (r := rIxL K) ix_list (pe_lst (pa_cons pe_int (pa_cons pe_int (pa_cons pe_int (pa_cons pe_int (pa_cons pe_int (pa_cons pe_int (pa_cons pe_int (pa_cons pe_int pa_nil))))))))) (pe_call (ok_take T) (hr.mono (by decide)) (by rfl) T.g_take T.F_take.kp (b_take T) .nil pass0 (pa_cons (pv 0) (pa_cons pe_int pa_nil))) (fun _ _ => rfl)))), ?_⟩
    refine i_start (σ' := [some (V.ref p)]) rfl ?_
    walk_at "vc"
    refine ⟨lenB rfl, fun l nl => ?_⟩
    have x1 := x.fresh (.lst [V.int 2, .int 3, .int 2, .int 3, .int 2, .int 3, .int 4, .int 1]) nl
    have hl : upd H l (.lst [V.int 2, .int 3, .int 2, .int 3, .int 2, .int 3, .int 4, .int 1]) l = some (.lst [V.int 2, .int 3, .int 2, .int 3, .int 2, .int 3, .int 4, .int 1]) := upd_same
    have lp : l ≠ p := (ne_of_none (x.at 0 rfl) nl).symm
    walk_at "vc"
    refine i_take (x1.at 0 rfl) (by decide) (by decide) fun d n' r' d0 d1 => ?_
    have x2 := x1.turn 0 rfl (pen c n' r')
    have hl2 : upd (upd H l (.lst [V.int 2, .int 3, .int 2, .int 3, .int 2, .int 3, .int 4, .int 1])) p (pen c n' r') l = some (.lst [V.int 2, .int 3, .int 2, .int 3, .int 2, .int 3, .int 4, .int 1]) := by rw [upd_ne lp]; exact hl
    have e : ∃ v : Int, atI [V.int 2, .int 3, .int 2, .int 3, .int 2, .int 3, .int 4, .int 1] d = some (.int v) ∧ 1 ≤ v ∧ v ≤ 4 := by
      have e : d = 0 ∨ d = 1 ∨ d = 2 ∨ d = 3 ∨ d = 4 ∨ d = 5 ∨ d = 6 ∨ d = 7 := by omega
      rcases e with rfl | rfl | rfl | rfl | rfl | rfl | rfl | rfl <;> exact ⟨_, rfl, by decide, by decide⟩
    obtain ⟨v, hv, v0, v1⟩ := e
    refine i_ixL (SqL.of hl2) hv ?_
    exact q v n' r' _ v0 v1 x2
/-! ### a list of wires, under construction: b above all their places so far -/
def WB (K : PySem.W.Frag) (F : Hp) (p : Addr) (c : Int) (D : Addr) (size m b : Int) (l : Nat) (H : Hp) : Prop := ∃ F' n r xs ws, Same F F' ∧ Cxs F' [(p, pen c n r), (D, .lst xs)] H ∧ DpAll K F' xs (ws.map W4.d) ∧ WOk size m ws ∧ (∀ w ∈ ws, 100 * w.s + w.t < b) ∧ ws.length ≤ l
theorem WB.up {F H : Hp} {p D : Addr} {c size m b b' : Int} {l l' : Nat} (h : WB K F p c D size m b l H) (hb : b ≤ b') (hl : l ≤ l') : WB K F p c D size m b' l' H := by
  obtain ⟨F', n, r, xs, ws, e, x, ha, hw, hk, hz⟩ := h
  exact ⟨F', n, r, xs, ws, e, x, ha, hw, fun w hw => by have := hk w hw; omega, by omega⟩
/-- one wire more -/
theorem i_more {F F' H : Hp} {Q : VK} {p D T : Addr} {c n r size m b : Int} {l : Nat} {xs : List V} {ws : List W4} {w : W4} (e : Same F F') (x : Cxs F' [(p, pen c n r), (D, .lst xs)] H) (ha : DpAll K F' xs (ws.map W4.d)) (hw : WOk size m ws)
    (hk : ∀ u ∈ ws, 100 * u.s + u.t < b) (hz : ws.length ≤ l) (hl : l < 1000) (h1 : WOk1 size m w) (hs : size ≤ 90) (hb : b ≤ 100 * w.s + w.t) (nT : H T = none)
    (q : WB K F p c D size m (100 * w.s + w.t + 1) (l + 1) (upd (upd H T (.tup w.v)) D (.lst (xs ++ [.ref T]))) → Q .non (upd (upd H T (.tup w.v)) D (.lst (xs ++ [.ref T])))) : rAppend (.ref D) [.ref T] (upd H T (.tup w.v)) Q := by
  have lx : xs.length = ws.length := by rw [dpa_len ha, List.length_map]
  have x1 := x.new (.tup w.v) nT
  refine i_append (x1.at 1 rfl) (by omega) (q ?_)
  have x2 : Cxs (upd F' T (.tup w.v)) [(p, pen c n r), (D, .lst (xs ++ [V.ref T]))] (upd (upd H T (.tup w.v)) D (.lst (xs ++ [V.ref T]))) := x1.turn 1 rfl (HO.lst (xs ++ [V.ref T]))
  refine ⟨_, n, r, _, ws ++ [w], e.trans (x.sub nT), x2, ?_, hw.snoc h1 fun u hu => ?_, fun u hu => ?_, ?_⟩
  · rw [List.map_append]
    exact (ha.mono (x.sub nT)).snoc (w4_dp (SqT.of upd_same))
  · have := hk u hu
    have u1 := hw.w u hu
    have := u1.t0
    have := u1.t1
    have := h1.t0
    have := h1.t1
    refine k_ne ?_
    omega
  · rcases List.mem_append.mp hu with hu | hu
    · have := hk u hu
      omega
    · rw [List.mem_singleton] at hu
      subst hu
      omega
  · rw [List.length_append, List.length_singleton]
    omega
/-- the promise of what makes wires -/
def spWs (K : PySem.W.Frag) (lo hi : Int) : Sp := fun vs H Q _ => ∃ (F : Hp) (p : Addr) (c n r size : Int), vs = [.ref p, .int size] ∧ lo ≤ size ∧ size ≤ hi ∧ Cxs F [(p, pen c n r)] H ∧
  ∀ D n' r' xs ws F' H', Same F F' → Cxs F' [(p, pen c n' r'), (D, .lst xs)] H' → DpAll K F' xs (ws.map W4.d) → WOk size 10 ws → ws.length ≤ 36 → Q (.ref D) H'
end
end K03
set_option maxRecDepth 100000
set_option maxHeartbeats 1000000
namespace K03
open PySem PySem.Spec PyProof.Rows L2 VX
local macro_rules | `(tactic| walk_at "ne") => `(tactic| first
  | assumption
  | exact Ne.symm (by assumption)
  | exact ne_of_none (by assumption) (by assumption)
  | exact Ne.symm (ne_of_none (by assumption) (by assumption))
  | ((with_reducible refine' ne_of_none ?n1 ?n2); (case n2 => assumption); (case n1 => walk_at "lk"))
  | ((with_reducible refine' Ne.symm (ne_of_none ?n1 ?n2)); (case n2 => assumption); (case n1 => walk_at "lk")))
local macro_rules | `(tactic| walk_at "lk") => `(tactic| first
  | assumption
  | (with_reducible exact upd_same)
  | ((with_reducible refine' (upd_ne ?nn).trans ?ll); (case nn => walk_at "ne"); (case ll => walk_at "lk"))
  | ((with_reducible refine' VX.same_at ?nn ?ll); (case nn => assumption); (case ll => walk_at "lk")))
local macro_rules | `(tactic| walk_at "dp") => `(tactic| first
  | assumption
  | (with_reducible exact Dp.non)
  | (with_reducible exact Dp.bl _)
  | (with_reducible exact Dp.int _)
  | (with_reducible exact Dp.str _)
  | ((with_reducible refine' VX.Dp.mono' ?dd (same_new ?nn)); (case nn => assumption); (case dd => walk_at "dp"))
  | ((with_reducible refine' VX.Dp.mono' ?dd ?nn); (case nn => assumption); (case dd => walk_at "dp")))
local macro_rules | `(tactic| walk_at "sq") => `(tactic| first
  | assumption
  | (with_reducible exact SqL.of (by assumption))
  | (with_reducible exact SqT.of (by assumption))
  | ((with_reducible refine' Same.seq (same_new ?nn) ?qq); (case nn => assumption); (case qq => walk_at "sq"))
  | ((with_reducible refine' same_sqT (same_new ?nn) ?qq); (case nn => assumption); (case qq => walk_at "sq"))
  | ((with_reducible refine' Same.seq ?nn ?qq); (case nn => assumption); (case qq => walk_at "sq"))
  | ((with_reducible refine' same_sqT ?nn ?qq); (case nn => assumption); (case qq => walk_at "sq"))
  | ((with_reducible refine' SqL.of ?qq); (case qq => walk_at "lk"))
  | ((with_reducible refine' SqT.of ?qq); (case qq => walk_at "lk")))
local macro_rules | `(tactic| walk_at "cc") => `(tactic| first
  | exact ⟨by decide, by decide, by decide⟩
  | (show _ ≠ _; omega)
  | exact ⟨by omega, by omega⟩
  | exact Or.inl ⟨by omega, by omega⟩
  | exact Or.inr ⟨by omega, by omega⟩)
local macro_rules | `(tactic| walk_at "vcA") => `(tactic| repeat (first
  | ((with_reducible refine' VX.i_modA ?v1 ?_); (case v1 => omega); intro r hr0 hr1)
  | ((with_reducible refine' VX.i_divA ?v1 ?v2 ?_); (case v1 => omega); (case v2 => omega); intro r hr0 hr1)
  | walk_at "vc1"))
local macro_rules | `(tactic| walk_at "vc1") => `(tactic| first
  | ((with_reducible refine' VX.i_var ?v1 ?_); (case v1 => rfl))
  | (with_reducible refine' VX.i_c ?_)
  | (with_reducible refine' VX.i_op ?_)
  | (with_reducible refine' VX.i_cons ?_)
  | (with_reducible refine' VX.i_nil ?_)
  | (with_reducible refine' VX.i_seq ?_)
  | (with_reducible refine' VX.i_asg ?_)
  | ((with_reducible refine' VX.i_gname ?v2 ?_); (case v2 => (first | (simp only [List.set_cons_zero, List.set_cons_succ]; done) | (simp only [List.set_cons_zero, List.set_cons_succ]; exact rfl) | exact rfl)))
  | (with_reducible refine' VX.i_ifS ?_)
  | (with_reducible refine' VX.i_test ?_)
  | (with_reducible refine' VX.i_tB ?_)
  | (with_reducible refine' VX.i_bl ?_)
  | (with_reducible refine' VX.i_iteT ?_)
  | (with_reducible refine' VX.i_iteF ?_)
  | (with_reducible refine' VX.i_iteNT ?_)
  | (with_reducible refine' VX.i_iteNF ?_)
  | (with_reducible refine' VX.i_and ?_)
  | (with_reducible refine' VX.i_or ?_)
  | (with_reducible refine' VX.i_not ?_)
  | (with_reducible refine' VX.i_call ?_)
  | (with_reducible refine' VX.i_CB ?_)
  | (with_reducible refine' VX.i_make ?_)
  | (with_reducible refine' VX.i_makeK0 ?_)
  | (with_reducible refine' VX.i_mthK ?_)
  | (with_reducible refine' VX.i_mthS ?_)
  | (with_reducible refine' VX.i_meth ?_)
  | ((with_reducible refine' VX.i_ixL ?v1 ?v2 ?_); (case v1 => walk_at "sq"); (case v2 => first | rfl | assumption))
  | ((with_reducible refine' VX.i_ixT ?v1 ?v2 ?_); (case v1 => walk_at "sq"); (case v2 => first | rfl | assumption))
  | ((with_reducible refine' VX.i_setLU ?v2 ?v3 ?_); (case v2 => rfl); (case v3 => rfl))
  | ((with_reducible refine' VX.i_setL ?v1 ?v2 ?v3 ?_); (case v1 => walk_at "lk"); (case v2 => rfl); (case v3 => rfl))
  | (with_reducible refine' VX.i_rI0 ?_)
  | ((with_reducible refine' VX.i_rI ?v1 ?_); (case v1 => walk_at "cc"))
  | (with_reducible refine' VX.i_int ?_)
  | ((with_reducible refine' VX.i_rEqS ?v1 ?_); (case v1 => rfl))
  | ((with_reducible refine' VX.i_rNeS ?v1 ?_); (case v1 => rfl))
  | (with_reducible refine' VX.i_rEqI ?_)
  | (with_reducible refine' VX.i_rNeI ?_)
  | (with_reducible refine' VX.i_max2 ?_)
  | (with_reducible refine' VX.i_min2 ?_)
  | ((with_reducible refine' VX.i_lenL ?v1 ?_); (case v1 => walk_at "sq"))
  | ((with_reducible refine' VX.i_lenT ?v1 ?_); (case v1 => walk_at "sq"))
  | (with_reducible refine' VX.i_chain ?_)
  | (with_reducible refine' VX.i_gsub ?_)
  | (with_reducible refine' VX.i_ret ?_)
  | (with_reducible refine' VX.i_drop ?_)
  | (with_reducible refine' VX.i_next ?_)
  | (with_reducible refine' VX.i_retN ?_)
  | (with_reducible refine' VX.i_andV ?_)
  | (with_reducible refine' VX.i_orV ?_)
  | (with_reducible refine' VX.i_notV ?_)
  | (with_reducible refine' VX.i_ifE ?_)
  | (with_reducible refine' VX.i_un ?_)
  | (with_reducible refine' VX.i_rU ?_)
  | (with_reducible refine' VX.i_tup ?_)
  | (with_reducible refine' VX.i_lst ?_)
  | ((with_reducible refine' VX.i_fldv ?v1 ?v2 ?v3 ?v4 ?v5 ?_); (case v1 => rfl); (case v2 => walk_at "lk"); (case v3 => walk_at "cl"); (case v4 => walk_at "na"); (case v5 => first | rfl | assumption))
  | (with_reducible refine' VX.i_fld ?_)
  | (with_reducible refine' VX.i_sFld ?_)
  | (with_reducible refine' VX.i_mk1 ?_)
  | (with_reducible refine' VX.i_mk1v ?_)
  | (with_reducible refine' VX.i_gnil ?_)
  | (with_reducible refine' VX.i_lc ?_)
  | (with_reducible refine' VX.i_for ?_)
  | (with_reducible refine' VX.i_lstRg ?_)
  | (with_reducible refine' VX.i_rg2 ?_)
  | (with_reducible refine' VX.i_rg2v ?_)
  | (with_reducible refine' VX.i_yes ?_)
  | (with_reducible refine' VX.i_iList ?_)
  | (with_reducible refine' VX.i_iRng1 ?_)
  | (with_reducible refine' VX.i_iRng2 ?_)
  | (with_reducible refine' VX.i_iEnum ?_)
  | (with_reducible refine' VX.i_iZip ?_)
  | (with_reducible refine' VX.i_iOwn ?_)
  | ((with_reducible refine' VX.i_wipe ?v1 ?_); (case v1 => rfl))
  | (with_reducible refine' VX.i_andN ?_)
  | (with_reducible refine' VX.i_iteNDS ?_)
  | (with_reducible refine' VX.i_bm ?_)
  | ((with_reducible refine' VX.i_tyL ?v1 ?_); (case v1 => walk_at "sq"))
  | ((with_reducible refine' VX.i_append ?v1 ?v2 ?_); (case v1 => walk_at "lk"); (case v2 => (simp only [List.length_map, List.length_cons, List.length_nil, List.length_append]; omega)))
  | ((with_reducible refine' VX.i_iteDT ?v1 ?_); (case v1 => rfl))
  | ((with_reducible refine' VX.i_iteDF ?v1 ?_); (case v1 => intro h; cases h))
  | ((with_reducible refine' VX.i_isiD ?v1 ?v2 ?_); (case v1 => walk_at "dp"); (case v2 => decide))
  | ((with_reducible refine' VX.i_iteBT ?v1 ?_); (case v1 => rfl))
  | ((with_reducible refine' VX.i_iteBF ?v1 ?_); (case v1 => rfl))
  | (with_reducible refine' VX.i_gcons ?_)
  | (with_reducible refine' VX.i_dIn ?_)
  | (with_reducible refine' VX.i_dNotIn ?_)
  | (with_reducible refine' VX.i_dGet ?_)
  | (with_reducible refine' VX.i_items ?_)
  | (with_reducible refine' VX.i_keys ?_)
  | ((with_reducible refine' VX.i_gtup ?v1 ?v2 ?_); (case v1 => walk_at "sq"); (case v2 => rfl)))
local macro_rules | `(tactic| walk_at "vc") => `(tactic| repeat walk_at "vc1")

local macro_rules | `(tactic| walk_at "cl") => `(tactic| exact Txt.cl_Line (by assumption))
local macro_rules | `(tactic| walk_at "na") => `(tactic| first | exact Txt.na_Line_size (by assumption) | exact Txt.na_Line__spans (by assumption) | exact Txt.na_Line__mosts (by assumption))
section
variable {P : Program} {w : World} {K : PySem.W.Frag} {mg : Str → Option Value} {base : Heap} {A : Adr}
theorem ok_plan_wires (T : Txt K mg A) : FnOk P w K mg base CX0 2 A.f_plan_wires A.d_plan_wires ["_law_pen_here", "_law_size_here"] (spWs K 1 6) := by
  refine T.F_plan_wires.ok sc_plan_wires (fun vs H Q E h => ?_) (fun cdv A' outer s H vs Q E hr h => ?_)
  · obtain ⟨F, p, c, n, r, size, rfl, _⟩ := h
    rfl
  · obtain ⟨F, p, c, n, r, size, rfl, s0, s1, x, q⟩ := h
    refine ⟨_, (pss_cons (ps_set (i := 2) sc_plan_wires.nd rfl (Or.inl rfl) (pe_lst pa_nil))
      (pss_cons (ps_for PassesOwn.never rfl (pi_range1 (by rfl) T.n_range (pa_cons (pv 1) pa_nil)) (pg_name (i := 3) sc_plan_wires.nd rfl (Or.inl rfl))
      (pss_one (ps_for PassesOwn.never rfl (pi_range1 (by rfl) T.n_range (pa_cons (pv 1) pa_nil)) (pg_name (i := 4) sc_plan_wires.nd rfl (Or.inl rfl))
      (pss_one (ps_if (pt_cmpR op_eq (pe_callB call_abs (by rfl) T.n_abs (by decide +kernel) (pa_cons (pe_op op_sub (pv 3) (pv 4)) pa_nil)) pe_int (nomark _)) (pss_cons (ps_set (i := 5) sc_plan_wires.nd rfl (Or.inl rfl) (pe_op op_add pe_int (pe_call (ok_take T) (hr.mono (by decide)) (by rfl) T.g_take T.F_take.kp (b_take T) .nil pass0 (pa_cons (pv 0) (pa_cons pe_int pa_nil)))))
      (pss_one (ps_expr (pe_bm PySem.F.plainAttrs_list PySem.F.slot_list_append PySem.F.type_list_append mt_append (pv 2) (pa_cons (pe_tup (pa_cons (pv 3) (pa_cons (pv 4) (pa_cons (pv 5) (pa_cons (pe_op op_add (pv 5) (pe_call (ok_take T) (hr.mono (by decide)) (by rfl) T.g_take T.F_take.kp (b_take T) .nil pass0 (pa_cons (pv 0) (pa_cons pe_int pa_nil)))) pa_nil))))) pa_nil))))) pss_nil)))))
      (pss_one (ps_ret (pv 2))))), ?_⟩
    refine i_start (σ' := [some (V.ref p), some (.int size), none, none, none, none]) rfl ?_
    walk_at "vc"
    refine ⟨lenB rfl, fun D nD => ?_⟩
    have x1 : Cxs F [(p, pen c n r), (D, .lst [])] (upd H D (.lst [])) := (x.push (.lst []) nD).perm (List.Perm.swap _ _ _)
    generalize upd H D (.lst []) = H1 at x1 ⊢
    walk_at "vc"
    refine ⟨size, rfl, by omega, by omega, ?_⟩
    refine for_it (walk_range (lo := 0) (n := size.toNat)) (fun i σ' H' => ∃ y3 y4 y5, σ' = [some (V.ref p), some (.int size), some (.ref D), y3, y4, y5] ∧ WB K F p c D size 10 (100 * i) (6 * i) H')
      ⟨_, _, _, rfl, F, n, r, [], [], Same.refl _, x1, .nil, WOk.nil, fun _ h => (nomatch h), Nat.zero_le _⟩ (fun _ _ _ _ _ => trivial) (fun i y σ' H' H'' hi pv hy => ?_) fun σ' H' pv => ?_
    · obtain ⟨y3, y4, y5, rfl, wb⟩ := pv
      obtain ⟨rfl, rfl⟩ := hy
      walk_at "vc"
      refine ⟨size, rfl, by omega, by omega, ?_⟩
      refine for_it (walk_range (lo := 0) (n := size.toNat)) (fun j σ' H' => ∃ y4 y5, σ' = [some (V.ref p), some (.int size), some (.ref D), some (.int (0 + (i : Nat))), y4, y5] ∧ WB K F p c D size 10 (100 * i + j) (6 * i + j) H')
        ⟨_, _, rfl, wb.up (by omega) (by omega)⟩ (fun _ _ _ _ _ => trivial) (fun j y σ' H' H'' hj pv hy => ?_) fun σ' H' pv => ?_
      · obtain ⟨y4, y5, rfl, wb⟩ := pv
        obtain ⟨rfl, rfl⟩ := hy
        walk_at "vc"
        refine ⟨_, rfl, ?_⟩
        walk_at "vc"
        refine i_iteD (fun hd => ?_) (fun _ => ?_)
        · have ne : (0 + (i : Int)) ≠ 0 + (j : Int) := fun e => by
            rw [e] at hd
            simp at hd
          obtain ⟨F', n, r, xs, ws, e, x, ha, hw, hk, hz⟩ := wb
          walk_at "vc"
          refine i_takeX (size := 2) 0 x rfl (by decide) (by decide) fun d n r H2 d0 d1 x => ?_
          walk_at "vc"
          refine i_tyL (SqL.of (x.at 1 rfl)) ?_
          walk_at "vc"
          refine i_takeX (size := 3) 0 x rfl (by decide) (by decide) fun d' n r H3 e0 e1 x => ?_
          walk_at "vc"
          refine ⟨lenB rfl, fun T nT => ?_⟩
          walk_at "vc"
          refine i_more (w := ⟨0 + i, 0 + j, 1 + d, some (1 + d + d')⟩) e x ha hw hk hz (by omega) ⟨by show (0 : Int) ≤ 0 + i; omega, by show (0 : Int) + i < size; omega, by show (0 : Int) ≤ 0 + j; omega, by show (0 : Int) + j < size; omega, ne, by show (1 : Int) ≤ 1 + d; omega, by show (1 : Int) + d ≤ 10; omega, fun h e => by cases e; exact ⟨by show (1 : Int) + d ≤ 1 + d + d'; omega, by show (1 : Int) + d + d' ≤ 10; omega⟩⟩
            (by omega) (by show (_ : Int) ≤ 100 * (0 + i) + (0 + j); omega) nT fun wb => ?_
          walk_at "vc"
          exact ⟨_, _, rfl, wb.up (by show (100 * (0 + (i : Int)) + (0 + (j : Int)) + 1) ≤ _; omega) (by omega)⟩
        · walk_at "vc"
          exact ⟨_, _, rfl, wb.up (by omega) (by omega)⟩
      · obtain ⟨y4, y5, rfl, wb⟩ := pv
        walk_at "vc"
        exact ⟨_, _, _, rfl, wb.up (by omega) (by omega)⟩
    · obtain ⟨y3, y4, y5, rfl, F', n, r, xs, ws, e, x, ha, hw, hk, hz⟩ := pv
      walk_at "vc"
      exact q D n r xs ws F' _ e x ha hw (by omega)
theorem ok_wires (T : Txt K mg A) : FnOk P w K mg base CX0 2 A.f_wires A.d_wires ["_law_pen_here", "_law_size_here"] (spWs K 1 6) := by
  refine T.F_wires.ok sc_wires (fun vs H Q E h => ?_) (fun cdv A' outer s H vs Q E hr h => ?_)
  · obtain ⟨F, p, c, n, r, size, rfl, _⟩ := h
    rfl
  · obtain ⟨F, p, c, n, r, size, rfl, s0, s1, x, q⟩ := h
    refine ⟨_, (pss_cons (ps_set (i := 2) sc_wires.nd rfl (Or.inl rfl) (pe_lst pa_nil))
      (pss_cons (ps_for PassesOwn.never rfl (pi_range1 (by rfl) T.n_range (pa_cons (pv 1) pa_nil)) (pg_name (i := 3) sc_wires.nd rfl (Or.inl rfl))
      (pss_one (ps_for PassesOwn.never rfl (pi_range1 (by rfl) T.n_range (pa_cons (pv 1) pa_nil)) (pg_name (i := 4) sc_wires.nd rfl (Or.inl rfl))
      (pss_cons (ps_set (i := 5) sc_wires.nd rfl (Or.inl rfl) (pe_call (ok_take T) (hr.mono (by decide)) (by rfl) T.g_take T.F_take.kp (b_take T) .nil pass0 (pa_cons (pv 0) (pa_cons pe_int pa_nil))))
      (pss_cons (ps_set (i := 6) sc_wires.nd rfl (Or.inl rfl) (pe_cmpR op_eq (pe_callB call_abs (by rfl) T.n_abs (by decide +kernel) (pa_cons (pe_op op_sub (pv 3) (pv 4)) pa_nil)) pe_int (nomark _)))
      (pss_one (ps_if (PW.pt (pw_or (PW.pt (pw_and (pt_val (pv 6)) (pw_and1 (pt_cmpR op_lt (pv 5) pe_int (nomark _))))) (pw_or1 (PW.pt (pw_and (pt_cmpR op_ne (pv 3) (pv 4) (nomark _)) (pw_and1 (pt_cmpR op_eq (pv 5) pe_int (nomark _)))))))) (pss_cons (ps_set (i := 7) sc_wires.nd rfl (Or.inl rfl) (pe_op op_add pe_int (pe_call (ok_take T) (hr.mono (by decide)) (by rfl) T.g_take T.F_take.kp (b_take T) .nil pass0 (pa_cons (pv 0) (pa_cons pe_int pa_nil)))))
      (pss_cons (ps_set (i := 8) sc_wires.nd rfl (Or.inl rfl) (pe_op op_add (pv 7) (pe_call (ok_take T) (hr.mono (by decide)) (by rfl) T.g_take T.F_take.kp (b_take T) .nil pass0 (pa_cons (pv 0) (pa_cons pe_int pa_nil)))))
      (pss_cons (ps_if (pt_cmpR op_eq (pv 5) pe_int (nomark _)) (pss_one (ps_set (i := 8) sc_wires.nd rfl (Or.inl rfl) pe_non)) pss_nil)
      (pss_one (ps_expr (pe_bm PySem.F.plainAttrs_list PySem.F.slot_list_append PySem.F.type_list_append mt_append (pv 2) (pa_cons (pe_tup (pa_cons (pv 3) (pa_cons (pv 4) (pa_cons (pv 7) (pa_cons (pv 8) pa_nil))))) pa_nil))))))) pss_nil)))))))
      (pss_one (ps_ret (pv 2))))), ?_⟩
    refine i_start (σ' := [some (V.ref p), some (.int size), none, none, none, none, none, none, none]) rfl ?_
    walk_at "vc"
    refine ⟨lenB rfl, fun D nD => ?_⟩
    have x1 : Cxs F [(p, pen c n r), (D, .lst [])] (upd H D (.lst [])) := (x.push (.lst []) nD).perm (List.Perm.swap _ _ _)
    generalize upd H D (.lst []) = H1 at x1 ⊢
    walk_at "vc"
    refine ⟨size, rfl, by omega, by omega, ?_⟩
    refine for_it (walk_range (lo := 0) (n := size.toNat)) (fun i σ' H' => ∃ y3 y4 y5 y6 y7 y8, σ' = [some (V.ref p), some (.int size), some (.ref D), y3, y4, y5, y6, y7, y8] ∧ WB K F p c D size 10 (100 * i) (6 * i) H')
      ⟨_, _, _, _, _, _, rfl, F, n, r, [], [], Same.refl _, x1, .nil, WOk.nil, fun _ h => (nomatch h), Nat.zero_le _⟩ (fun _ _ _ _ _ => trivial) (fun i y σ' H' H'' hi pv hy => ?_) fun σ' H' pv => ?_
    · obtain ⟨y3, y4, y5, y6, y7, y8, rfl, wb⟩ := pv
      obtain ⟨rfl, rfl⟩ := hy
      walk_at "vc"
      refine ⟨size, rfl, by omega, by omega, ?_⟩
      refine for_it (walk_range (lo := 0) (n := size.toNat)) (fun j σ' H' => ∃ y4 y5 y6 y7 y8, σ' = [some (V.ref p), some (.int size), some (.ref D), some (.int (0 + (i : Nat))), y4, y5, y6, y7, y8] ∧ WB K F p c D size 10 (100 * i + j) (6 * i + j) H')
        ⟨_, _, _, _, _, rfl, wb.up (by omega) (by omega)⟩ (fun _ _ _ _ _ => trivial) (fun j y σ' H' H'' hj pv hy => ?_) fun σ' H' pv => ?_
      · obtain ⟨y4, y5, y6, y7, y8, rfl, F', n, r, xs, ws, e, x, ha, hw, hk, hz⟩ := pv
        obtain ⟨rfl, rfl⟩ := hy
        walk_at "vc"
        refine i_takeX 0 x rfl (by decide) (by decide) fun kd n r H1 k0 k1 x => ?_
        walk_at "vc"
        refine ⟨_, rfl, ?_⟩
        walk_at "vc"
        have back : ∀ {H2 : Hp} {n r : Int}, Cxs F' [(p, pen c n r), (D, .lst xs)] H2 → WB K F p c D size 10 (100 * i + (j + 1 : Nat)) (6 * i + (j + 1)) H2 := fun {H2 n r} x => ⟨F', n, r, xs, ws, e, x, ha, hw, fun u hu => by have := hk u hu; omega, by omega⟩
        refine i_iteD (fun hd => ?_) (fun hd => ?_)
        · have ne : (0 + (i : Int)) ≠ 0 + (j : Int) := fun e => by
            rw [e] at hd
            simp at hd
          walk_at "vc"
          refine i_iteD (fun h7 => ?_) (fun h7 => ?_)
          · walk_at "vc"
            refine i_takeX (size := 2) 0 x rfl (by decide) (by decide) fun d n r H2 d0 d1 x => ?_
            walk_at "vc"
            refine i_takeX (size := 4) 0 x rfl (by decide) (by decide) fun d' n r H3 e0 e1 x => ?_
            walk_at "vc"
            refine i_iteD (fun h6 => ?_) (fun h6 => ?_)
            · walk_at "vc"
              refine i_tyL (SqL.of (x.at 1 rfl)) ?_
              walk_at "vc"
              refine ⟨lenB rfl, fun T nT => ?_⟩
              walk_at "vc"
              refine i_more (w := ⟨0 + i, 0 + j, 1 + d, none⟩) e x ha hw hk hz (by omega) ⟨by show (0 : Int) ≤ 0 + i; omega, by show (0 : Int) + i < size; omega, by show (0 : Int) ≤ 0 + j; omega, by show (0 : Int) + j < size; omega, ne, by show (1 : Int) ≤ 1 + d; omega, by show (1 : Int) + d ≤ 10; omega, fun h e => by cases e⟩
                (by omega) (by show (_ : Int) ≤ 100 * (0 + i) + (0 + j); omega) nT fun wb => ?_
              walk_at "vc"
              exact ⟨_, _, _, _, _, rfl, wb.up (by show (100 * (0 + (i : Int)) + (0 + (j : Int)) + 1) ≤ _; omega) (by omega)⟩
            · walk_at "vc"
              refine i_tyL (SqL.of (x.at 1 rfl)) ?_
              walk_at "vc"
              refine ⟨lenB rfl, fun T nT => ?_⟩
              walk_at "vc"
              refine i_more (w := ⟨0 + i, 0 + j, 1 + d, some (1 + d + d')⟩) e x ha hw hk hz (by omega) ⟨by show (0 : Int) ≤ 0 + i; omega, by show (0 : Int) + i < size; omega, by show (0 : Int) ≤ 0 + j; omega, by show (0 : Int) + j < size; omega, ne, by show (1 : Int) ≤ 1 + d; omega, by show (1 : Int) + d ≤ 10; omega, fun h e => by cases e; exact ⟨by show (1 : Int) + d ≤ 1 + d + d'; omega, by show (1 : Int) + d + d' ≤ 10; omega⟩⟩
                (by omega) (by show (_ : Int) ≤ 100 * (0 + i) + (0 + j); omega) nT fun wb => ?_
              walk_at "vc"
              exact ⟨_, _, _, _, _, rfl, wb.up (by show (100 * (0 + (i : Int)) + (0 + (j : Int)) + 1) ≤ _; omega) (by omega)⟩
          · walk_at "vc"
            refine i_iteN (fun _ => ?_) (fun h => absurd h ne)
            walk_at "vc"
            refine i_iteDT (by omega) ?_
            walk_at "vc"
            refine i_takeX (size := 2) 0 x rfl (by decide) (by decide) fun d n r H2 d0 d1 x => ?_
            walk_at "vc"
            refine i_takeX (size := 4) 0 x rfl (by decide) (by decide) fun d' n r H3 e0 e1 x => ?_
            walk_at "vc"
            refine i_iteD (fun h6 => ?_) (fun h6 => ?_)
            · walk_at "vc"
              refine i_tyL (SqL.of (x.at 1 rfl)) ?_
              walk_at "vc"
              refine ⟨lenB rfl, fun T nT => ?_⟩
              walk_at "vc"
              refine i_more (w := ⟨0 + i, 0 + j, 1 + d, none⟩) e x ha hw hk hz (by omega) ⟨by show (0 : Int) ≤ 0 + i; omega, by show (0 : Int) + i < size; omega, by show (0 : Int) ≤ 0 + j; omega, by show (0 : Int) + j < size; omega, ne, by show (1 : Int) ≤ 1 + d; omega, by show (1 : Int) + d ≤ 10; omega, fun h e => by cases e⟩
                (by omega) (by show (_ : Int) ≤ 100 * (0 + i) + (0 + j); omega) nT fun wb => ?_
              walk_at "vc"
              exact ⟨_, _, _, _, _, rfl, wb.up (by show (100 * (0 + (i : Int)) + (0 + (j : Int)) + 1) ≤ _; omega) (by omega)⟩
            · walk_at "vc"
              refine i_tyL (SqL.of (x.at 1 rfl)) ?_
              walk_at "vc"
              refine ⟨lenB rfl, fun T nT => ?_⟩
              walk_at "vc"
              refine i_more (w := ⟨0 + i, 0 + j, 1 + d, some (1 + d + d')⟩) e x ha hw hk hz (by omega) ⟨by show (0 : Int) ≤ 0 + i; omega, by show (0 : Int) + i < size; omega, by show (0 : Int) ≤ 0 + j; omega, by show (0 : Int) + j < size; omega, ne, by show (1 : Int) ≤ 1 + d; omega, by show (1 : Int) + d ≤ 10; omega, fun h e => by cases e; exact ⟨by show (1 : Int) + d ≤ 1 + d + d'; omega, by show (1 : Int) + d + d' ≤ 10; omega⟩⟩
                (by omega) (by show (_ : Int) ≤ 100 * (0 + i) + (0 + j); omega) nT fun wb => ?_
              walk_at "vc"
              exact ⟨_, _, _, _, _, rfl, wb.up (by show (100 * (0 + (i : Int)) + (0 + (j : Int)) + 1) ≤ _; omega) (by omega)⟩
        · walk_at "vc"
          refine i_iteN (fun ne => ?_) (fun _ => ?_)
          · walk_at "vc"
            refine i_iteD (fun h7 => ?_) (fun h7 => ?_)
            · walk_at "vc"
              refine i_takeX (size := 2) 0 x rfl (by decide) (by decide) fun d n r H2 d0 d1 x => ?_
              walk_at "vc"
              refine i_takeX (size := 4) 0 x rfl (by decide) (by decide) fun d' n r H3 e0 e1 x => ?_
              walk_at "vc"
              refine i_iteD (fun h6 => ?_) (fun h6 => ?_)
              · walk_at "vc"
                refine i_tyL (SqL.of (x.at 1 rfl)) ?_
                walk_at "vc"
                refine ⟨lenB rfl, fun T nT => ?_⟩
                walk_at "vc"
                refine i_more (w := ⟨0 + i, 0 + j, 1 + d, none⟩) e x ha hw hk hz (by omega) ⟨by show (0 : Int) ≤ 0 + i; omega, by show (0 : Int) + i < size; omega, by show (0 : Int) ≤ 0 + j; omega, by show (0 : Int) + j < size; omega, ne, by show (1 : Int) ≤ 1 + d; omega, by show (1 : Int) + d ≤ 10; omega, fun h e => by cases e⟩
                  (by omega) (by show (_ : Int) ≤ 100 * (0 + i) + (0 + j); omega) nT fun wb => ?_
                walk_at "vc"
                exact ⟨_, _, _, _, _, rfl, wb.up (by show (100 * (0 + (i : Int)) + (0 + (j : Int)) + 1) ≤ _; omega) (by omega)⟩
              · walk_at "vc"
                refine i_tyL (SqL.of (x.at 1 rfl)) ?_
                walk_at "vc"
                refine ⟨lenB rfl, fun T nT => ?_⟩
                walk_at "vc"
                refine i_more (w := ⟨0 + i, 0 + j, 1 + d, some (1 + d + d')⟩) e x ha hw hk hz (by omega) ⟨by show (0 : Int) ≤ 0 + i; omega, by show (0 : Int) + i < size; omega, by show (0 : Int) ≤ 0 + j; omega, by show (0 : Int) + j < size; omega, ne, by show (1 : Int) ≤ 1 + d; omega, by show (1 : Int) + d ≤ 10; omega, fun h e => by cases e; exact ⟨by show (1 : Int) + d ≤ 1 + d + d'; omega, by show (1 : Int) + d + d' ≤ 10; omega⟩⟩
                  (by omega) (by show (_ : Int) ≤ 100 * (0 + i) + (0 + j); omega) nT fun wb => ?_
                walk_at "vc"
                exact ⟨_, _, _, _, _, rfl, wb.up (by show (100 * (0 + (i : Int)) + (0 + (j : Int)) + 1) ≤ _; omega) (by omega)⟩
            · walk_at "vc"
              exact ⟨_, _, _, _, _, rfl, back x⟩
          · walk_at "vc"
            exact ⟨_, _, _, _, _, rfl, back x⟩
      · obtain ⟨y4, y5, y6, y7, y8, rfl, wb⟩ := pv
        walk_at "vc"
        exact ⟨_, _, _, _, _, _, rfl, wb.up (by omega) (by omega)⟩
    · obtain ⟨y3, y4, y5, y6, y7, y8, rfl, F', n, r, xs, ws, e, x, ha, hw, hk, hz⟩ := pv
      walk_at "vc"
      exact q D n r xs ws F' _ e x ha hw (by omega)
end
end K03
set_option maxRecDepth 100000
set_option maxHeartbeats 1000000
namespace K03
open PySem PySem.Spec PyProof.Rows L2 VX
local macro_rules | `(tactic| walk_at "ne") => `(tactic| first
  | assumption
  | exact Ne.symm (by assumption)
  | exact ne_of_none (by assumption) (by assumption)
  | exact Ne.symm (ne_of_none (by assumption) (by assumption))
  | ((with_reducible refine' ne_of_none ?n1 ?n2); (case n2 => assumption); (case n1 => walk_at "lk"))
  | ((with_reducible refine' Ne.symm (ne_of_none ?n1 ?n2)); (case n2 => assumption); (case n1 => walk_at "lk")))
local macro_rules | `(tactic| walk_at "lk") => `(tactic| first
  | assumption
  | (with_reducible exact upd_same)
  | ((with_reducible refine' (upd_ne ?nn).trans ?ll); (case nn => walk_at "ne"); (case ll => walk_at "lk"))
  | ((with_reducible refine' VX.same_at ?nn ?ll); (case nn => assumption); (case ll => walk_at "lk")))
local macro_rules | `(tactic| walk_at "dp") => `(tactic| first
  | assumption
  | (with_reducible exact Dp.non)
  | (with_reducible exact Dp.bl _)
  | (with_reducible exact Dp.int _)
  | (with_reducible exact Dp.str _)
  | ((with_reducible refine' VX.Dp.mono' ?dd (same_new ?nn)); (case nn => assumption); (case dd => walk_at "dp"))
  | ((with_reducible refine' VX.Dp.mono' ?dd ?nn); (case nn => assumption); (case dd => walk_at "dp")))
local macro_rules | `(tactic| walk_at "sq") => `(tactic| first
  | assumption
  | (with_reducible exact SqL.of (by assumption))
  | (with_reducible exact SqT.of (by assumption))
  | ((with_reducible refine' Same.seq (same_new ?nn) ?qq); (case nn => assumption); (case qq => walk_at "sq"))
  | ((with_reducible refine' same_sqT (same_new ?nn) ?qq); (case nn => assumption); (case qq => walk_at "sq"))
  | ((with_reducible refine' Same.seq ?nn ?qq); (case nn => assumption); (case qq => walk_at "sq"))
  | ((with_reducible refine' same_sqT ?nn ?qq); (case nn => assumption); (case qq => walk_at "sq"))
  | ((with_reducible refine' SqL.of ?qq); (case qq => walk_at "lk"))
  | ((with_reducible refine' SqT.of ?qq); (case qq => walk_at "lk")))
local macro_rules | `(tactic| walk_at "cc") => `(tactic| first
  | exact ⟨by decide, by decide, by decide⟩
  | (show _ ≠ _; omega)
  | exact ⟨by omega, by omega⟩
  | exact Or.inl ⟨by omega, by omega⟩
  | exact Or.inr ⟨by omega, by omega⟩)
local macro_rules | `(tactic| walk_at "vcA") => `(tactic| repeat (first
  | ((with_reducible refine' VX.i_modA ?v1 ?_); (case v1 => omega); intro r hr0 hr1)
  | ((with_reducible refine' VX.i_divA ?v1 ?v2 ?_); (case v1 => omega); (case v2 => omega); intro r hr0 hr1)
  | walk_at "vc1"))
local macro_rules | `(tactic| walk_at "vc1") => `(tactic| first
  | ((with_reducible refine' VX.i_var ?v1 ?_); (case v1 => rfl))
  | (with_reducible refine' VX.i_c ?_)
  | (with_reducible refine' VX.i_op ?_)
  | (with_reducible refine' VX.i_cons ?_)
  | (with_reducible refine' VX.i_nil ?_)
  | (with_reducible refine' VX.i_seq ?_)
  | (with_reducible refine' VX.i_asg ?_)
  | ((with_reducible refine' VX.i_gname ?v2 ?_); (case v2 => (first | (simp only [List.set_cons_zero, List.set_cons_succ]; done) | (simp only [List.set_cons_zero, List.set_cons_succ]; exact rfl) | exact rfl)))
  | (with_reducible refine' VX.i_ifS ?_)
  | (with_reducible refine' VX.i_test ?_)
  | (with_reducible refine' VX.i_tB ?_)
  | (with_reducible refine' VX.i_bl ?_)
  | (with_reducible refine' VX.i_iteT ?_)
  | (with_reducible refine' VX.i_iteF ?_)
  | (with_reducible refine' VX.i_iteNT ?_)
  | (with_reducible refine' VX.i_iteNF ?_)
  | (with_reducible refine' VX.i_and ?_)
  | (with_reducible refine' VX.i_or ?_)
  | (with_reducible refine' VX.i_not ?_)
  | (with_reducible refine' VX.i_call ?_)
  | (with_reducible refine' VX.i_CB ?_)
  | (with_reducible refine' VX.i_make ?_)
  | (with_reducible refine' VX.i_makeK0 ?_)
  | (with_reducible refine' VX.i_mthK ?_)
  | (with_reducible refine' VX.i_mthS ?_)
  | (with_reducible refine' VX.i_meth ?_)
  | ((with_reducible refine' VX.i_ixL ?v1 ?v2 ?_); (case v1 => walk_at "sq"); (case v2 => first | rfl | assumption))
  | ((with_reducible refine' VX.i_ixT ?v1 ?v2 ?_); (case v1 => walk_at "sq"); (case v2 => first | rfl | assumption))
  | ((with_reducible refine' VX.i_setLU ?v2 ?v3 ?_); (case v2 => rfl); (case v3 => rfl))
  | ((with_reducible refine' VX.i_setL ?v1 ?v2 ?v3 ?_); (case v1 => walk_at "lk"); (case v2 => rfl); (case v3 => rfl))
  | (with_reducible refine' VX.i_rI0 ?_)
  | ((with_reducible refine' VX.i_rI ?v1 ?_); (case v1 => walk_at "cc"))
  | (with_reducible refine' VX.i_int ?_)
  | ((with_reducible refine' VX.i_rEqS ?v1 ?_); (case v1 => rfl))
  | ((with_reducible refine' VX.i_rNeS ?v1 ?_); (case v1 => rfl))
  | (with_reducible refine' VX.i_rEqI ?_)
  | (with_reducible refine' VX.i_rNeI ?_)
  | (with_reducible refine' VX.i_max2 ?_)
  | (with_reducible refine' VX.i_min2 ?_)
  | ((with_reducible refine' VX.i_lenL ?v1 ?_); (case v1 => walk_at "sq"))
  | ((with_reducible refine' VX.i_lenT ?v1 ?_); (case v1 => walk_at "sq"))
  | (with_reducible refine' VX.i_chain ?_)
  | (with_reducible refine' VX.i_gsub ?_)
  | (with_reducible refine' VX.i_ret ?_)
  | (with_reducible refine' VX.i_drop ?_)
  | (with_reducible refine' VX.i_next ?_)
  | (with_reducible refine' VX.i_retN ?_)
  | (with_reducible refine' VX.i_andV ?_)
  | (with_reducible refine' VX.i_orV ?_)
  | (with_reducible refine' VX.i_notV ?_)
  | (with_reducible refine' VX.i_ifE ?_)
  | (with_reducible refine' VX.i_un ?_)
  | (with_reducible refine' VX.i_rU ?_)
  | (with_reducible refine' VX.i_tup ?_)
  | (with_reducible refine' VX.i_lst ?_)
  | ((with_reducible refine' VX.i_fldv ?v1 ?v2 ?v3 ?v4 ?v5 ?_); (case v1 => rfl); (case v2 => walk_at "lk"); (case v3 => walk_at "cl"); (case v4 => walk_at "na"); (case v5 => first | rfl | assumption))
  | (with_reducible refine' VX.i_fld ?_)
  | (with_reducible refine' VX.i_sFld ?_)
  | (with_reducible refine' VX.i_mk1 ?_)
  | (with_reducible refine' VX.i_mk1v ?_)
  | (with_reducible refine' VX.i_gnil ?_)
  | (with_reducible refine' VX.i_lc ?_)
  | (with_reducible refine' VX.i_for ?_)
  | (with_reducible refine' VX.i_lstRg ?_)
  | (with_reducible refine' VX.i_rg2 ?_)
  | (with_reducible refine' VX.i_rg2v ?_)
  | (with_reducible refine' VX.i_yes ?_)
  | (with_reducible refine' VX.i_iList ?_)
  | (with_reducible refine' VX.i_iRng1 ?_)
  | (with_reducible refine' VX.i_iRng2 ?_)
  | (with_reducible refine' VX.i_iEnum ?_)
  | (with_reducible refine' VX.i_iZip ?_)
  | (with_reducible refine' VX.i_iOwn ?_)
  | ((with_reducible refine' VX.i_wipe ?v1 ?_); (case v1 => rfl))
  | (with_reducible refine' VX.i_andN ?_)
  | (with_reducible refine' VX.i_iteNDS ?_)
  | (with_reducible refine' VX.i_bm ?_)
  | ((with_reducible refine' VX.i_tyL ?v1 ?_); (case v1 => walk_at "sq"))
  | ((with_reducible refine' VX.i_append ?v1 ?v2 ?_); (case v1 => walk_at "lk"); (case v2 => (simp only [List.length_map, List.length_cons, List.length_nil, List.length_append]; omega)))
  | ((with_reducible refine' VX.i_iteDT ?v1 ?_); (case v1 => rfl))
  | ((with_reducible refine' VX.i_iteDF ?v1 ?_); (case v1 => intro h; cases h))
  | ((with_reducible refine' VX.i_isiD ?v1 ?v2 ?_); (case v1 => walk_at "dp"); (case v2 => decide))
  | ((with_reducible refine' VX.i_iteBT ?v1 ?_); (case v1 => rfl))
  | ((with_reducible refine' VX.i_iteBF ?v1 ?_); (case v1 => rfl))
  | (with_reducible refine' VX.i_gcons ?_)
  | (with_reducible refine' VX.i_dIn ?_)
  | (with_reducible refine' VX.i_dNotIn ?_)
  | (with_reducible refine' VX.i_dGet ?_)
  | (with_reducible refine' VX.i_items ?_)
  | (with_reducible refine' VX.i_keys ?_)
  | ((with_reducible refine' VX.i_gtup ?v1 ?v2 ?_); (case v1 => walk_at "sq"); (case v2 => rfl)))
local macro_rules | `(tactic| walk_at "vc") => `(tactic| repeat walk_at "vc1")

local macro_rules | `(tactic| walk_at "cl") => `(tactic| exact Txt.cl_Line (by assumption))
local macro_rules | `(tactic| walk_at "na") => `(tactic| first | exact Txt.na_Line_size (by assumption) | exact Txt.na_Line__spans (by assumption) | exact Txt.na_Line__mosts (by assumption))
/-- a clock bound within a line of n boxes -/
structure BOk1 (n m : Int) (b : B3) : Prop where
  l0 : 0 ≤ b.l
  l1 : b.l < n
  e0 : 0 ≤ b.e
  e1 : b.e < n
  ne : b.l ≠ b.e
  m0 : 0 ≤ b.m
  m1 : b.m < m
structure BOk (n m : Int) (bs : List B3) : Prop where
  b : ∀ b ∈ bs, BOk1 n m b
  nd : (bs.map B3.k).Nodup
theorem BOk.snoc {n m : Int} {bs : List B3} {b : B3} (h : BOk n m bs) (h1 : BOk1 n m b) (hk : (b.l, b.e) ∉ bs.map fun u => (u.l, u.e)) : BOk n m (bs ++ [b]) := by
  refine ⟨fun u hu => ?_, ?_⟩
  · rcases List.mem_append.mp hu with hu | hu
    · exact h.b u hu
    · rw [List.mem_singleton] at hu
      subst hu
      exact h1
  · rw [List.map_append, List.nodup_append]
    refine ⟨h.nd, by simp, fun a ha c hc e => ?_⟩
    obtain ⟨u, hu, rfl⟩ := List.mem_map.mp ha
    have hc : c = b.k := by simpa using hc
    rw [hc] at e
    have e : [u.l, u.e] = [b.l, b.e] := e
    simp at e
    exact hk (List.mem_map.mpr ⟨u, hu, by rw [e.1, e.2]⟩)
section
variable {P : Program} {w : World} {K : PySem.W.Frag} {mg : Str → Option Value} {base : Heap} {A : Adr}
theorem ok_ring_wires (T : Txt K mg A) : FnOk P w K mg base CX0 2 A.f_ring_wires A.d_ring_wires ["_law_pen_here", "_law_size_here"] (spWs K 1 6) := by
  refine T.F_ring_wires.ok sc_ring_wires (fun vs H Q E h => ?_) (fun cdv A' outer s H vs Q E hr h => ?_)
  · obtain ⟨F, p, c, n, r, size, rfl, _⟩ := h
    rfl
  · obtain ⟨F, p, c, n, r, size, rfl, s0, s1, x, q⟩ := h
    refine ⟨_, (pss_cons (ps_set (i := 2) sc_ring_wires.nd rfl (Or.inl rfl) (pe_lst pa_nil))
      (pss_cons (ps_for PassesOwn.never rfl (pi_range1 (by rfl) T.n_range (pa_cons (pv 1) pa_nil)) (pg_name (i := 3) sc_ring_wires.nd rfl (Or.inl rfl))
      (pss_cons (ps_set (i := 4) sc_ring_wires.nd rfl (Or.inl rfl) (pe_op op_add (pv 3) pe_int))
      (pss_cons (ps_if (pt_cmpR op_eq (pv 4) (pv 1) (nomark _)) (pss_one (ps_set (i := 4) sc_ring_wires.nd rfl (Or.inl rfl) pe_int)) pss_nil)
      (pss_one (ps_if (pt_cmpR op_ne (pv 4) (pv 3) (nomark _)) (pss_cons (ps_set (i := 5) sc_ring_wires.nd rfl (Or.inl rfl) (pe_op op_add pe_int (pe_call (ok_take T) (hr.mono (by decide)) (by rfl) T.g_take T.F_take.kp (b_take T) .nil pass0 (pa_cons (pv 0) (pa_cons pe_int pa_nil)))))
      (pss_one (ps_expr (pe_bm PySem.F.plainAttrs_list PySem.F.slot_list_append PySem.F.type_list_append mt_append (pv 2) (pa_cons (pe_tup (pa_cons (pv 3) (pa_cons (pv 4) (pa_cons (pv 5) (pa_cons (pe_op op_add (pv 5) (pe_call (ok_take T) (hr.mono (by decide)) (by rfl) T.g_take T.F_take.kp (b_take T) .nil pass0 (pa_cons (pv 0) (pa_cons pe_int pa_nil)))) pa_nil))))) pa_nil))))) pss_nil)))))
      (pss_one (ps_ret (pv 2))))), ?_⟩
    refine i_start (σ' := [some (V.ref p), some (.int size), none, none, none, none]) rfl ?_
    walk_at "vc"
    refine ⟨lenB rfl, fun D nD => ?_⟩
    have x1 : Cxs F [(p, pen c n r), (D, .lst [])] (upd H D (.lst [])) := (x.push (.lst []) nD).perm (List.Perm.swap _ _ _)
    generalize upd H D (.lst []) = H1 at x1 ⊢
    walk_at "vc"
    refine ⟨size, rfl, by omega, by omega, ?_⟩
    refine for_it (walk_range (lo := 0) (n := size.toNat)) (fun i σ' H' => ∃ y3 y4 y5, σ' = [some (V.ref p), some (.int size), some (.ref D), y3, y4, y5] ∧ WB K F p c D size 10 (100 * i) i H')
      ⟨_, _, _, rfl, F, n, r, [], [], Same.refl _, x1, .nil, WOk.nil, fun _ h => (nomatch h), Nat.zero_le _⟩ (fun _ _ _ _ _ => trivial) (fun i y σ' H' H'' hi pv hy => ?_) fun σ' H' pv => ?_
    · obtain ⟨y3, y4, y5, rfl, F', n, r, xs, ws, e, x, ha, hw, hk, hz⟩ := pv
      obtain ⟨rfl, rfl⟩ := hy
      walk_at "vc"
      have body : ∀ (t : Int) (hb : 0 ≤ t) (hb2 : t < size) (ne : (0 + (i : Int)) ≠ t), True := fun _ _ _ _ => trivial
      refine i_iteD (fun hd => ?_) (fun hd => ?_)
      · walk_at "vc"
        refine i_iteN (fun ne => ?_) (fun _ => ?_)
        · walk_at "vc"
          refine i_takeX (size := 3) 0 x rfl (by decide) (by decide) fun d n r H2 d0 d1 x => ?_
          walk_at "vc"
          refine i_tyL (SqL.of (x.at 1 rfl)) ?_
          walk_at "vc"
          refine i_takeX (size := 3) 0 x rfl (by decide) (by decide) fun d' n r H2 e0 e1 x => ?_
          walk_at "vc"
          refine ⟨lenB rfl, fun T nT => ?_⟩
          walk_at "vc"
          refine i_more (w := ⟨0 + i, 0, 1 + d, some (1 + d + d')⟩) e x ha hw hk hz (by omega) ⟨by show (0 : Int) ≤ 0 + i; omega, by show (0 : Int) + i < size; omega, by show (0 : Int) ≤ 0; omega, by show (0 : Int) < size; omega, Ne.symm ne, by show (1 : Int) ≤ 1 + d; omega, by show (1 : Int) + d ≤ 10; omega, fun h e => by cases e; exact ⟨by show (1 : Int) + d ≤ 1 + d + d'; omega, by show (1 : Int) + d + d' ≤ 10; omega⟩⟩
            (by omega) (by show (_ : Int) ≤ 100 * (0 + i) + 0; omega) nT fun wb => ?_
          walk_at "vc"
          exact ⟨_, _, _, rfl, wb.up (by show (100 * (0 + (i : Int)) + 0 + 1) ≤ _; omega) (by omega)⟩
        · walk_at "vc"
          exact ⟨_, _, _, rfl, F', n, r, xs, ws, e, x, ha, hw, fun u hu => by have := hk u hu; omega, by omega⟩
      · walk_at "vc"
        refine i_iteN (fun ne => ?_) (fun _ => ?_)
        · walk_at "vc"
          refine i_takeX (size := 3) 0 x rfl (by decide) (by decide) fun d n r H2 d0 d1 x => ?_
          walk_at "vc"
          refine i_tyL (SqL.of (x.at 1 rfl)) ?_
          walk_at "vc"
          refine i_takeX (size := 3) 0 x rfl (by decide) (by decide) fun d' n r H2 e0 e1 x => ?_
          walk_at "vc"
          refine ⟨lenB rfl, fun T nT => ?_⟩
          walk_at "vc"
          refine i_more (w := ⟨0 + i, 0 + i + 1, 1 + d, some (1 + d + d')⟩) e x ha hw hk hz (by omega) ⟨by show (0 : Int) ≤ 0 + i; omega, by show (0 : Int) + i < size; omega, by show (0 : Int) ≤ 0 + i + 1; omega, by show (0 : Int) + i + 1 < size; omega, Ne.symm ne, by show (1 : Int) ≤ 1 + d; omega, by show (1 : Int) + d ≤ 10; omega, fun h e => by cases e; exact ⟨by show (1 : Int) + d ≤ 1 + d + d'; omega, by show (1 : Int) + d + d' ≤ 10; omega⟩⟩
            (by omega) (by show (_ : Int) ≤ 100 * (0 + i) + (0 + i + 1); omega) nT fun wb => ?_
          walk_at "vc"
          exact ⟨_, _, _, rfl, wb.up (by show (100 * (0 + (i : Int)) + (0 + (i : Int) + 1) + 1) ≤ _; omega) (by omega)⟩
        · walk_at "vc"
          exact ⟨_, _, _, rfl, F', n, r, xs, ws, e, x, ha, hw, fun u hu => by have := hk u hu; omega, by omega⟩
    · obtain ⟨y3, y4, y5, rfl, F', n, r, xs, ws, e, x, ha, hw, hk, hz⟩ := pv
      walk_at "vc"
      exact q D n r xs ws F' _ e x ha hw (by omega)
/-! ### told -/
def spTold (K : PySem.W.Frag) : Sp := fun vs H Q _ => ∃ (F : Hp) (p : Addr) (c n r size : Int), vs = [.ref p, .int size] ∧ 1 ≤ size ∧ size ≤ 6 ∧ Cxs F [(p, pen c n r)] H ∧
  ∀ D n' r' xs bs F' H', Same F F' → Cxs F' [(D, .lst xs), (p, pen c n' r')] H' → DpAll K F' xs (bs.map B3.d) → BOk size 5 bs → bs.length ≤ 2 → bs.Pairwise (fun x y => lexL y.k x.k = false) → Q (.ref D) H'
theorem ok_told (T : Txt K mg A) : FnOk P w K mg base CX0 2 A.f_told A.d_told ["_law_pen_here", "_law_size_here"] (spTold K) := by
  refine T.F_told.ok sc_told (fun vs H Q E h => ?_) (fun cdv A' outer s H vs Q E hr h => ?_)
  · obtain ⟨F, p, c, n, r, size, rfl, _⟩ := h
    rfl
  · obtain ⟨F, p, c, n, r, size, rfl, s0, s1, x, q⟩ := h
    refine ⟨_, (pss_cons (ps_set (i := 2) sc_told.nd rfl (Or.inl rfl) (pe_lst pa_nil))
      (pss_cons (ps_for PassesOwn.never rfl (pi_range1 (by rfl) T.n_range (pa_cons (pe_call (ok_take T) (hr.mono (by decide)) (by rfl) T.g_take T.F_take.kp (b_take T) .nil pass0 (pa_cons (pv 0) (pa_cons pe_int pa_nil))) pa_nil)) (pg_name (i := 3) sc_told.nd rfl (Or.inl rfl))
      (pss_cons (ps_set (i := 4) sc_told.nd rfl (Or.inl rfl) (pe_call (ok_take T) (hr.mono (by decide)) (by rfl) T.g_take T.F_take.kp (b_take T) .nil pass0 (pa_cons (pv 0) (pa_cons (pv 1) pa_nil))))
      (pss_cons (ps_set (i := 5) sc_told.nd rfl (Or.inl rfl) (pe_call (ok_take T) (hr.mono (by decide)) (by rfl) T.g_take T.F_take.kp (b_take T) .nil pass0 (pa_cons (pv 0) (pa_cons (pv 1) pa_nil))))
      (pss_cons (ps_setLc (i := 6) (own := [("_law_row", 7)]) (g := gName 7) (tt := tYes) (by rfl) sc_told.nd rfl rfl (sw_true rfl rfl rfl (by decide +kernel)) (pi_list (pv 2)) (blkOk_by (N := N_told) (sc := defScope s_told) (by decide +kernel)) (fun _ _ _ _ _ => (pg_name (i := 7) sc_told.nd rfl (Or.inl rfl))) (fun _ _ _ _ _ => pts_nil) (fun _ _ _ _ _ => (pe_tup (pa_cons (pe_ix (r := rIxT K) ix_tup (pv 7) pe_int (fun _ _ => rfl)) (pa_cons (pe_ix (r := rIxT K) ix_tup (pv 7) pe_int (fun _ _ => rfl)) pa_nil)))))
      (pss_one (ps_if (PW.pt (pw_and (pt_cmpR op_ne (pv 4) (pv 5) (nomark _)) (pw_and1 (pt_cmpR (op_notInD (units65 hr)) (pe_tup (pa_cons (pv 4) (pa_cons (pv 5) pa_nil))) (pv 6) (by rfl))))) (pss_one (ps_expr (pe_bm PySem.F.plainAttrs_list PySem.F.slot_list_append PySem.F.type_list_append mt_append (pv 2) (pa_cons (pe_tup (pa_cons (pv 4) (pa_cons (pv 5) (pa_cons (pe_call (ok_take T) (hr.mono (by decide)) (by rfl) T.g_take T.F_take.kp (b_take T) .nil pass0 (pa_cons (pv 0) (pa_cons pe_int pa_nil))) pa_nil)))) pa_nil)))) pss_nil))))))
      (pss_one (ps_ret (pe_callB (cr_sortK (d := 2) (by decide)) (by rfl) T.n_sorted (by decide +kernel) (pa_cons (pv 2) pa_nil)))))), ?_⟩
    refine i_start (σ' := [some (V.ref p), some (.int size), none, none, none, none, none, none]) rfl ?_
    walk_at "vc"
    refine ⟨lenB rfl, fun D nD => ?_⟩
    have x1 : Cxs F [(p, pen c n r), (D, .lst [])] (upd H D (.lst [])) := (x.push (.lst []) nD).perm (List.Perm.swap _ _ _)
    generalize upd H D (.lst []) = H1 at x1 ⊢
    walk_at "vc"
    refine i_takeX (size := 3) 0 x1 rfl (by decide) (by decide) fun tn n r H2 t0 t1 x => ?_
    refine ⟨tn, rfl, by omega, by omega, ?_⟩
    refine for_it (walk_range (lo := 0) (n := tn.toNat)) (fun i σ' H' => ∃ y3 y4 y5 y6 F' n r xs bs, σ' = [some (V.ref p), some (.int size), some (.ref D), y3, y4, y5, y6, none] ∧ Same F F' ∧ Cxs F' [(p, pen c n r), (D, .lst xs)] H' ∧ DpAll K F' xs (bs.map B3.d) ∧ BOk size 5 bs ∧ bs.length ≤ i)
      ⟨_, _, _, _, F, n, r, [], [], rfl, Same.refl _, x, .nil, ⟨fun _ h => (nomatch h), List.nodup_nil⟩, Nat.zero_le _⟩ (fun _ _ _ _ _ => trivial) (fun i y σ' H' H'' hi pv hy => ?_) fun σ' H' pv => ?_
    · obtain ⟨y3, y4, y5, y6, F', n, r, xs, bs, rfl, e, x, ha, hb, hz⟩ := pv
      obtain ⟨rfl, rfl⟩ := hy
      have lx : xs.length = bs.length := by rw [dpa_len ha, List.length_map]
      walk_at "vc"
      refine i_takeX 0 x rfl (by omega) (by omega) fun lt n r H3 l0 l1 x => ?_
      walk_at "vc"
      refine i_takeX 0 x rfl (by omega) (by omega) fun er n r H4 e0 e1 x => ?_
      walk_at "vc"
      refine ⟨D, rfl, ⟨xs, SqL.of (x.at 1 rfl)⟩, fun D2 nD2 => ?_⟩
      refine lc_dp (K := K) (walk_list (K := K) (a := D) (xs := xs)) (Same.refl H4) nD2 (by omega) (gt ((bs.map fun u => (u.l, u.e)).map pD)) (fun H e => e.seq (SqL.of (x.at 1 rfl))) (fun j v H5 H6 acc hj eH hD2 y R hR => ?_) fun H5 ps e5 hD2 hp => ?_
      · obtain ⟨rfl, hv⟩ := y
        have hj' : j < bs.length := by omega
        have hbj : bs[j]? = some bs[j] := List.getElem?_eq_getElem hj'
        obtain ⟨v', hv', dv⟩ := dpa_get (i := j) (d := bs[j].d) ha (by rw [List.getElem?_map, hbj]; rfl)
        rw [hv] at hv'
        cases hv'
        obtain ⟨t, rfl, ht⟩ := dp_b3 dv
        have ht := same_sqT (x.e.trans eH) ht
        walk_at "vc"
        refine ⟨lenB rfl, fun T nT => ?_⟩
        refine hR _ _ (same_new nT) ?_
        rw [gt_of (d := pD (bs[j].l, bs[j].e)) (by rw [List.getElem?_map, List.getElem?_map, hbj]; rfl)]
        exact .tup (SqT.of (del_of upd_same (fun z => by rw [z, hD2] at nT; cases nT))) (.cons (.int _) (.cons (.int _) .nil))
      have x := x.grow e5
      have eps : (List.range xs.length).map (gt ((bs.map fun u => (u.l, u.e)).map pD)) = (bs.map fun u => (u.l, u.e)).map pD := by
        rw [lx, show bs.length = ((bs.map fun u => (u.l, u.e)).map pD).length by rw [List.length_map, List.length_map]]
        exact range_gt _
      rw [eps] at hp
      walk_at "vc"
      have stay : ∃ y3 y4 y5 y6 F'' n r xs' bs', ([some (V.ref p), some (.int size), some (.ref D), some (.int (0 + (i : Int))), some (.int lt), some (.int er), some (.ref D2), none] : L2.St) = [some (V.ref p), some (.int size), some (.ref D), y3, y4, y5, y6, none] ∧ Same F F'' ∧ Cxs F'' [(p, pen c n r), (D, .lst xs')] H5 ∧ DpAll K F'' xs' (bs'.map B3.d) ∧ BOk size 5 bs' ∧ bs'.length ≤ i + 1 :=
        ⟨_, _, _, _, F', n, r, xs, bs, rfl, e, x, ha, hb, by omega⟩
      refine i_iteN (fun ne => ?_) (fun _ => ?_)
      · walk_at "vc"
        refine ⟨lenB rfl, fun T nT => ?_⟩
        walk_at "vc"
        have dp2 : Dp K (upd H5 T (.tup [.int lt, .int er])) (.ref D2) (.list ((bs.map fun u => (u.l, u.e)).map pD)) := .lst (SqL.of (by rw [upd_ne (ne_of_none hD2 nT)]; exact hD2)) (hp.mono (Same.trans same_del (same_new nT)))
        refine i_notInP (z := (lt, er)) (.tup (SqT.of upd_same) (.cons (.int _) (.cons (.int _) .nil))) dp2 ?_
        have x := x.fresh (.tup [.int lt, .int er]) nT
        walk_at "vc"
        refine i_iteN (fun nm => ?_) (fun _ => ?_)
        · walk_at "vc"
          refine i_tyL (SqL.of (x.at 1 rfl)) ?_
          walk_at "vc"
          refine i_takeX (size := 5) 0 x rfl (by decide) (by decide) fun m n r H6 m0 m1 x => ?_
          walk_at "vc"
          refine ⟨lenB rfl, fun T2 nT2 => ?_⟩
          walk_at "vc"
          have eT : Same F' (upd F' T2 (.tup (B3.v ⟨lt, er, m⟩))) := x.sub nT2
          have x := x.new (.tup (B3.v ⟨lt, er, m⟩)) nT2
          refine i_append (x.at 1 rfl) (by omega) ?_
          walk_at "vc"
          have x' : Cxs _ [(p, pen c n r), (D, .lst (xs ++ [V.ref T2]))] (upd (upd H6 T2 (.tup (B3.v ⟨lt, er, m⟩))) D (.lst (xs ++ [V.ref T2]))) := x.turn 1 rfl (HO.lst (xs ++ [V.ref T2]))
          refine ⟨_, _, _, _, _, n, r, _, bs ++ [⟨lt, er, m⟩], rfl, e.trans eT, x', ?_, hb.snoc ⟨l0, l1, e0, e1, ne, m0, m1⟩ nm, by rw [List.length_append, List.length_singleton]; omega⟩
          rw [List.map_append]
          exact (ha.mono eT).snoc (b3_dp (SqT.of upd_same))
        · walk_at "vc"
          exact ⟨_, _, _, _, F', n, r, xs, bs, rfl, e, x, ha, hb, by omega⟩
      · walk_at "vc"
        exact stay
    · obtain ⟨y3, y4, y5, y6, F', n, r, xs, bs, rfl, e, x, ha, hb, hz⟩ := pv
      walk_at "vc"
      refine i_sortK (d := B3.d) (k := B3.k) (SqL.of (x.at 1 rfl)) x.e ha (fun v b _ h => b3_tupX h) hb.nd fun ys qs D' perm pw np hy => ?_
      exact q D' n r ys qs F' _ e ((x.perm (List.Perm.swap _ _ _)).drop.push _ np) hy ⟨fun b hm => hb.b b (perm.mem_iff.mp hm), (perm.map B3.k).nodup_iff.mpr hb.nd⟩ (by rw [perm.length_eq]; omega) pw
end
end K03
set_option maxRecDepth 100000
set_option maxHeartbeats 1000000
namespace K03
open PySem PySem.Spec PyProof.Rows L2 VX
local macro_rules | `(tactic| walk_at "ne") => `(tactic| first
  | assumption
  | exact Ne.symm (by assumption)
  | exact ne_of_none (by assumption) (by assumption)
  | exact Ne.symm (ne_of_none (by assumption) (by assumption))
  | ((with_reducible refine' ne_of_none ?n1 ?n2); (case n2 => assumption); (case n1 => walk_at "lk"))
  | ((with_reducible refine' Ne.symm (ne_of_none ?n1 ?n2)); (case n2 => assumption); (case n1 => walk_at "lk")))
local macro_rules | `(tactic| walk_at "lk") => `(tactic| first
  | assumption
  | (with_reducible exact upd_same)
  | ((with_reducible refine' (upd_ne ?nn).trans ?ll); (case nn => walk_at "ne"); (case ll => walk_at "lk"))
  | ((with_reducible refine' VX.same_at ?nn ?ll); (case nn => assumption); (case ll => walk_at "lk")))
local macro_rules | `(tactic| walk_at "dp") => `(tactic| first
  | assumption
  | (with_reducible exact Dp.non)
  | (with_reducible exact Dp.bl _)
  | (with_reducible exact Dp.int _)
  | (with_reducible exact Dp.str _)
  | ((with_reducible refine' VX.Dp.mono' ?dd (same_new ?nn)); (case nn => assumption); (case dd => walk_at "dp"))
  | ((with_reducible refine' VX.Dp.mono' ?dd ?nn); (case nn => assumption); (case dd => walk_at "dp")))
local macro_rules | `(tactic| walk_at "sq") => `(tactic| first
  | assumption
  | (with_reducible exact SqL.of (by assumption))
  | (with_reducible exact SqT.of (by assumption))
  | ((with_reducible refine' Same.seq (same_new ?nn) ?qq); (case nn => assumption); (case qq => walk_at "sq"))
  | ((with_reducible refine' same_sqT (same_new ?nn) ?qq); (case nn => assumption); (case qq => walk_at "sq"))
  | ((with_reducible refine' Same.seq ?nn ?qq); (case nn => assumption); (case qq => walk_at "sq"))
  | ((with_reducible refine' same_sqT ?nn ?qq); (case nn => assumption); (case qq => walk_at "sq"))
  | ((with_reducible refine' SqL.of ?qq); (case qq => walk_at "lk"))
  | ((with_reducible refine' SqT.of ?qq); (case qq => walk_at "lk")))
local macro_rules | `(tactic| walk_at "cc") => `(tactic| first
  | exact ⟨by decide, by decide, by decide⟩
  | (show _ ≠ _; omega)
  | exact ⟨by omega, by omega⟩
  | exact Or.inl ⟨by omega, by omega⟩
  | exact Or.inr ⟨by omega, by omega⟩)
local macro_rules | `(tactic| walk_at "vcA") => `(tactic| repeat (first
  | ((with_reducible refine' VX.i_modA ?v1 ?_); (case v1 => omega); intro r hr0 hr1)
  | ((with_reducible refine' VX.i_divA ?v1 ?v2 ?_); (case v1 => omega); (case v2 => omega); intro r hr0 hr1)
  | walk_at "vc1"))
local macro_rules | `(tactic| walk_at "vc1") => `(tactic| first
  | ((with_reducible refine' VX.i_var ?v1 ?_); (case v1 => rfl))
  | (with_reducible refine' VX.i_c ?_)
  | (with_reducible refine' VX.i_op ?_)
  | (with_reducible refine' VX.i_cons ?_)
  | (with_reducible refine' VX.i_nil ?_)
  | (with_reducible refine' VX.i_seq ?_)
  | (with_reducible refine' VX.i_asg ?_)
  | ((with_reducible refine' VX.i_gname ?v2 ?_); (case v2 => (first | (simp only [List.set_cons_zero, List.set_cons_succ]; done) | (simp only [List.set_cons_zero, List.set_cons_succ]; exact rfl) | exact rfl)))
  | (with_reducible refine' VX.i_ifS ?_)
  | (with_reducible refine' VX.i_test ?_)
  | (with_reducible refine' VX.i_tB ?_)
  | (with_reducible refine' VX.i_bl ?_)
  | (with_reducible refine' VX.i_iteT ?_)
  | (with_reducible refine' VX.i_iteF ?_)
  | (with_reducible refine' VX.i_iteNT ?_)
  | (with_reducible refine' VX.i_iteNF ?_)
  | (with_reducible refine' VX.i_and ?_)
  | (with_reducible refine' VX.i_or ?_)
  | (with_reducible refine' VX.i_not ?_)
  | (with_reducible refine' VX.i_call ?_)
  | (with_reducible refine' VX.i_CB ?_)
  | (with_reducible refine' VX.i_make ?_)
  | (with_reducible refine' VX.i_makeK0 ?_)
  | (with_reducible refine' VX.i_mthK ?_)
  | (with_reducible refine' VX.i_mthS ?_)
  | (with_reducible refine' VX.i_meth ?_)
  | ((with_reducible refine' VX.i_ixL ?v1 ?v2 ?_); (case v1 => walk_at "sq"); (case v2 => first | rfl | assumption))
  | ((with_reducible refine' VX.i_ixT ?v1 ?v2 ?_); (case v1 => walk_at "sq"); (case v2 => first | rfl | assumption))
  | ((with_reducible refine' VX.i_setLU ?v2 ?v3 ?_); (case v2 => rfl); (case v3 => rfl))
  | ((with_reducible refine' VX.i_setL ?v1 ?v2 ?v3 ?_); (case v1 => walk_at "lk"); (case v2 => rfl); (case v3 => rfl))
  | (with_reducible refine' VX.i_rI0 ?_)
  | ((with_reducible refine' VX.i_rI ?v1 ?_); (case v1 => walk_at "cc"))
  | (with_reducible refine' VX.i_int ?_)
  | ((with_reducible refine' VX.i_rEqS ?v1 ?_); (case v1 => rfl))
  | ((with_reducible refine' VX.i_rNeS ?v1 ?_); (case v1 => rfl))
  | (with_reducible refine' VX.i_rEqI ?_)
  | (with_reducible refine' VX.i_rNeI ?_)
  | (with_reducible refine' VX.i_max2 ?_)
  | (with_reducible refine' VX.i_min2 ?_)
  | ((with_reducible refine' VX.i_lenL ?v1 ?_); (case v1 => walk_at "sq"))
  | ((with_reducible refine' VX.i_lenT ?v1 ?_); (case v1 => walk_at "sq"))
  | (with_reducible refine' VX.i_chain ?_)
  | (with_reducible refine' VX.i_gsub ?_)
  | (with_reducible refine' VX.i_ret ?_)
  | (with_reducible refine' VX.i_drop ?_)
  | (with_reducible refine' VX.i_next ?_)
  | (with_reducible refine' VX.i_retN ?_)
  | (with_reducible refine' VX.i_andV ?_)
  | (with_reducible refine' VX.i_orV ?_)
  | (with_reducible refine' VX.i_notV ?_)
  | (with_reducible refine' VX.i_ifE ?_)
  | (with_reducible refine' VX.i_un ?_)
  | (with_reducible refine' VX.i_rU ?_)
  | (with_reducible refine' VX.i_tup ?_)
  | (with_reducible refine' VX.i_lst ?_)
  | ((with_reducible refine' VX.i_fldv ?v1 ?v2 ?v3 ?v4 ?v5 ?_); (case v1 => rfl); (case v2 => walk_at "lk"); (case v3 => walk_at "cl"); (case v4 => walk_at "na"); (case v5 => first | rfl | assumption))
  | (with_reducible refine' VX.i_fld ?_)
  | (with_reducible refine' VX.i_sFld ?_)
  | (with_reducible refine' VX.i_mk1 ?_)
  | (with_reducible refine' VX.i_mk1v ?_)
  | (with_reducible refine' VX.i_gnil ?_)
  | (with_reducible refine' VX.i_lc ?_)
  | (with_reducible refine' VX.i_for ?_)
  | (with_reducible refine' VX.i_lstRg ?_)
  | (with_reducible refine' VX.i_rg2 ?_)
  | (with_reducible refine' VX.i_rg2v ?_)
  | (with_reducible refine' VX.i_yes ?_)
  | (with_reducible refine' VX.i_iList ?_)
  | (with_reducible refine' VX.i_iRng1 ?_)
  | (with_reducible refine' VX.i_iRng2 ?_)
  | (with_reducible refine' VX.i_iEnum ?_)
  | (with_reducible refine' VX.i_iZip ?_)
  | (with_reducible refine' VX.i_iOwn ?_)
  | ((with_reducible refine' VX.i_wipe ?v1 ?_); (case v1 => rfl))
  | (with_reducible refine' VX.i_andN ?_)
  | (with_reducible refine' VX.i_iteNDS ?_)
  | (with_reducible refine' VX.i_bm ?_)
  | ((with_reducible refine' VX.i_tyL ?v1 ?_); (case v1 => walk_at "sq"))
  | ((with_reducible refine' VX.i_append ?v1 ?v2 ?_); (case v1 => walk_at "lk"); (case v2 => (simp only [List.length_map, List.length_cons, List.length_nil, List.length_append]; omega)))
  | ((with_reducible refine' VX.i_iteDT ?v1 ?_); (case v1 => rfl))
  | ((with_reducible refine' VX.i_iteDF ?v1 ?_); (case v1 => intro h; cases h))
  | ((with_reducible refine' VX.i_isiD ?v1 ?v2 ?_); (case v1 => walk_at "dp"); (case v2 => decide))
  | ((with_reducible refine' VX.i_iteBT ?v1 ?_); (case v1 => rfl))
  | ((with_reducible refine' VX.i_iteBF ?v1 ?_); (case v1 => rfl))
  | (with_reducible refine' VX.i_gcons ?_)
  | (with_reducible refine' VX.i_dIn ?_)
  | (with_reducible refine' VX.i_dNotIn ?_)
  | (with_reducible refine' VX.i_dGet ?_)
  | (with_reducible refine' VX.i_items ?_)
  | (with_reducible refine' VX.i_keys ?_)
  | ((with_reducible refine' VX.i_gtup ?v1 ?v2 ?_); (case v1 => walk_at "sq"); (case v2 => rfl)))
local macro_rules | `(tactic| walk_at "vc") => `(tactic| repeat walk_at "vc1")

local macro_rules | `(tactic| walk_at "cl") => `(tactic| exact Txt.cl_Line (by assumption))
local macro_rules | `(tactic| walk_at "na") => `(tactic| first | exact Txt.na_Line_size (by assumption) | exact Txt.na_Line__spans (by assumption) | exact Txt.na_Line__mosts (by assumption))
section
variable {P : Program} {w : World} {K : PySem.W.Frag} {mg : Str → Option Value} {base : Heap} {A : Adr}
theorem six_of {k n : Nat} (h : k < n) : seqIndex? (k : Int) n = some k := by
  have e : (if (k : Int) < 0 then (k : Int) + n else k) = (k : Int) := if_neg (by omega)
  show (if (decide (0 ≤ (if (k : Int) < 0 then (k : Int) + n else k)) && decide ((if (k : Int) < 0 then (k : Int) + n else k) < (n : Int))) = true then some (if (k : Int) < 0 then (k : Int) + n else k).toNat else none) = some k
  rw [e, decide_eq_true (by omega : (0 : Int) ≤ k), decide_eq_true (by omega : (k : Int) < n)]
  rfl
/-- rest.pop(k) -/
theorem i_popAt {H : Hp} {Q : VK} {l : Addr} {xs : List V} {k : Int} {y : V} (h : H l = some (.lst xs)) (h0 : 0 ≤ k) (h1 : k < xs.length) (hz : xs.length ≤ 1000) (hy : xs[k.toNat]? = some y) (q : Q y (upd H l (.lst (xs.eraseIdx k.toNat)))) : rPopAt (.ref l) [.int k] H Q :=
  ⟨l, xs, k, k.toNat, y, rfl, rfl, h, by omega, by omega, by
    have e := six_of (k := k.toNat) (n := xs.length) (by omega)
    rwa [show ((k.toNat : Nat) : Int) = k from by omega] at e, hy, q⟩
def spMixed (K : PySem.W.Frag) : Sp := fun vs H Q _ => ∃ (F : Hp) (p a : Addr) (c n r : Int) (xs : List V), vs = [.ref p, .ref a] ∧ Cxs F [(p, pen c n r)] H ∧ SqL K F a xs ∧ xs.length ≤ 100 ∧
  ∀ D n' r' ys H', ys.Perm xs → Cxs F [(D, .lst ys), (p, pen c n' r')] H' → Q (.ref D) H'
theorem ok_mixed (T : Txt K mg A) : FnOk P w K mg base CX0 2 A.f_mixed A.d_mixed ["_law_pen_here", "_law_row"] (spMixed K) := by
  refine T.F_mixed.ok sc_mixed (fun vs H Q E h => ?_) (fun cdv A' outer s H vs Q E hr h => ?_)
  · obtain ⟨F, p, a, c, n, r, xs, rfl, _⟩ := h
    rfl
  · obtain ⟨F, p, a, c, n, r, xs, rfl, x, hs, hz, q⟩ := h
    refine ⟨_, (pss_cons (ps_set (i := 2) sc_mixed.nd rfl (Or.inl rfl) (pe_callTy call_listOf (by rfl) T.n_list (by decide +kernel) (pa_cons (pv 1) pa_nil)))
      (pss_cons (ps_set (i := 3) sc_mixed.nd rfl (Or.inl rfl) (pe_lst pa_nil))
      (pss_cons (ps_for PassesOwn.never rfl (pi_range1 (by rfl) T.n_range (pa_cons (pe_callB (r := rLenS K) call_lenS (by rfl) T.n_len PySem.boot_len (pa_cons (pv 1) pa_nil)) pa_nil)) (pg_name (i := 4) sc_mixed.nd rfl (Or.inl rfl))
      (pss_one (ps_expr (pe_bm PySem.F.plainAttrs_list PySem.F.slot_list_append PySem.F.type_list_append mt_append (pv 3) (pa_cons (pe_bm PySem.F.plainAttrs_list PySem.F.slot_list_pop PySem.F.type_list_pop mt_popAt (pv 2) (pa_cons (pe_call (ok_take T) (hr.mono (by decide)) (by rfl) T.g_take T.F_take.kp (b_take T) .nil pass0 (pa_cons (pv 0) (pa_cons (pe_callB (r := rLenS K) call_lenS (by rfl) T.n_len PySem.boot_len (pa_cons (pv 2) pa_nil)) pa_nil))) pa_nil)) pa_nil)))))
      (pss_one (ps_ret (pv 3)))))), ?_⟩
    refine i_start (σ' := [some (V.ref p), some (.ref a), none, none, none]) rfl ?_
    walk_at "vc"
    refine i_listL (x.e.seq hs) fun R nR => ?_
    have x := x.push (.lst xs) nR
    generalize upd H R (.lst xs) = H1 at x ⊢
    walk_at "vc"
    refine ⟨lenB rfl, fun M nM => ?_⟩
    have x := x.push (.lst []) nM
    generalize upd H1 M (.lst []) = H1 at x ⊢
    walk_at "vc"
    refine i_lenL (x.e.seq hs) ?_
    refine ⟨(xs.length : Int), rfl, by omega, by omega, ?_⟩
    refine for_it (walk_range (lo := 0) (n := xs.length)) (fun i σ' H' => ∃ y4 n r ms rs, σ' = [some (V.ref p), some (.ref a), some (.ref R), some (.ref M), y4] ∧ Cxs F [(M, .lst ms), (R, .lst rs), (p, pen c n r)] H' ∧ (ms ++ rs).Perm xs ∧ rs.length + i = xs.length)
      ⟨_, n, r, [], xs, rfl, x, List.Perm.refl _, rfl⟩ (fun _ _ _ _ _ => trivial) (fun i y σ' H' H'' hi pv hy => ?_) fun σ' H' pv => ?_
    · obtain ⟨y4, n, r, ms, rs, rfl, x, hp, hl⟩ := pv
      obtain ⟨rfl, rfl⟩ := hy
      have lm : (ms ++ rs).length = xs.length := hp.length_eq
      rw [List.length_append] at lm
      walk_at "vc"
      refine i_tyL (SqL.of (x.at 0 rfl)) ?_
      walk_at "vc"
      refine i_tyL (SqL.of (x.at 1 rfl)) ?_
      walk_at "vc"
      refine i_lenL (SqL.of (x.at 1 rfl)) ?_
      walk_at "vc"
      refine i_takeX 2 x rfl (by omega) (by omega) fun k n r H2 k0 k1 x => ?_
      walk_at "vc"
      have kb : k.toNat < rs.length := by omega
      have hy : rs[k.toNat]? = some rs[k.toNat] := List.getElem?_eq_getElem kb
      refine i_popAt (x.at 1 rfl) k0 k1 (by omega) hy ?_
      have x' : Cxs F [(M, .lst ms), (R, .lst (rs.eraseIdx k.toNat)), (p, pen c n r)] (upd H2 R (.lst (rs.eraseIdx k.toNat))) := x.turn 1 rfl (HO.lst (rs.eraseIdx k.toNat))
      generalize upd H2 R (.lst (rs.eraseIdx k.toNat)) = H3 at x' ⊢
      walk_at "vc"
      refine i_append (x'.at 0 rfl) (by omega) ?_
      have x3 : Cxs F [(M, .lst (ms ++ [rs[k.toNat]])), (R, .lst (rs.eraseIdx k.toNat)), (p, pen c n r)] (upd H3 M (.lst (ms ++ [rs[k.toNat]]))) := x'.turn 0 rfl (HO.lst (ms ++ [rs[k.toNat]]))
      walk_at "vc"
      refine ⟨_, n, r, _, _, rfl, x3, ?_, ?_⟩
      · rw [List.append_assoc, List.singleton_append]
        exact ((erase_perm hy).append_left ms).trans hp
      · rw [List.length_eraseIdx_of_lt kb]
        omega
    · obtain ⟨y4, n, r, ms, rs, rfl, x, hp, hl⟩ := pv
      walk_at "vc"
      obtain rfl : rs = [] := List.eq_nil_of_length_eq_zero (by omega)
      rw [List.append_nil] at hp
      exact q M n r ms _ hp ((x.perm (List.Perm.swap _ _ _)).drop)
/-! ### wide hours -/
def spWide (K : PySem.W.Frag) : Sp := fun vs H Q _ => ∃ (F : Hp) (p a : Addr) (c n r size : Int) (ws : List W4), vs = [.ref p, .ref a] ∧ Cxs F [(p, pen c n r)] H ∧ Dp K F (.ref a) (.list (ws.map W4.d)) ∧ WOk size 10 ws ∧ ws.length ≤ 36 ∧
  ∀ D n' r' xs ws' F' H', Same F F' → Cxs F' [(p, pen c n' r'), (D, .lst xs)] H' → DpAll K F' xs (ws'.map W4.d) → WOk size 1000000000 ws' → ws'.length ≤ 36 → Q (.ref D) H'
theorem ok_wide_hours (T : Txt K mg A) : FnOk P w K mg base CX0 2 A.f_wide_hours A.d_wide_hours ["_law_pen_here", "_law_wires_here"] (spWide K) := by
  refine T.F_wide_hours.ok sc_wide_hours (fun vs H Q E h => ?_) (fun cdv A' outer s H vs Q E hr h => ?_)
  · obtain ⟨F, p, a, c, n, r, size, ws, rfl, _⟩ := h
    rfl
  · obtain ⟨F, p, a, c, n, r, size, ws, rfl, x, hs, hw, hz, q⟩ := h
    obtain ⟨a', xs, ea, hs, hx⟩ := dp_lst hs
    cases ea
    have lx : xs.length = ws.length := by rw [dpa_len hx, List.length_map]
    refine ⟨_, (pss_cons (ps_set (i := 2) sc_wide_hours.nd rfl (Or.inl rfl) (pe_ix (r := rIxL K) ix_list (pe_lst (pa_cons pe_int (pa_cons (pe_op op_pow pe_int pe_int) (pa_cons (pe_op op_mul pe_int (pe_op op_pow pe_int pe_int)) pa_nil)))) (pe_call (ok_take T) (hr.mono (by decide)) (by rfl) T.g_take T.F_take.kp (b_take T) .nil pass0 (pa_cons (pv 0) (pa_cons pe_int pa_nil))) (fun _ _ => rfl)))
      (pss_cons (ps_set (i := 3) sc_wide_hours.nd rfl (Or.inl rfl) (pe_lst pa_nil))
      (pss_cons (ps_for PassesOwn.never rfl (pi_list (pv 1)) (pg_tup rfl (pgs_cons (pg_name (i := 4) sc_wide_hours.nd rfl (Or.inl rfl)) (pgs_cons (pg_name (i := 5) sc_wide_hours.nd rfl (Or.inl rfl)) (pgs_cons (pg_name (i := 6) sc_wide_hours.nd rfl (Or.inl rfl)) (pgs_cons (pg_name (i := 7) sc_wide_hours.nd rfl (Or.inl rfl)) pgs_nil)))))
      (pss_cons (ps_set (i := 6) sc_wide_hours.nd rfl (Or.inl rfl) (pe_op op_add pe_int (pe_call (ok_take T) (hr.mono (by decide)) (by rfl) T.g_take T.F_take.kp (b_take T) .nil pass0 (pa_cons (pv 0) (pa_cons (pv 2) pa_nil)))))
      (pss_cons (ps_if (pt_cmpR op_notN (pv 7) pe_non (nomark _)) (pss_one (ps_set (i := 7) sc_wide_hours.nd rfl (Or.inl rfl) (pe_op op_add (pv 6) (pe_call (ok_take T) (hr.mono (by decide)) (by rfl) T.g_take T.F_take.kp (b_take T) .nil pass0 (pa_cons (pv 0) (pa_cons (pv 2) pa_nil)))))) pss_nil)
      (pss_one (ps_expr (pe_bm PySem.F.plainAttrs_list PySem.F.slot_list_append PySem.F.type_list_append mt_append (pv 3) (pa_cons (pe_tup (pa_cons (pv 4) (pa_cons (pv 5) (pa_cons (pv 6) (pa_cons (pv 7) pa_nil))))) pa_nil)))))))
      (pss_one (ps_ret (pv 3)))))), ?_⟩
    refine i_start (σ' := [some (V.ref p), some (.ref a), none, none, none, none, none, none]) rfl ?_
    walk_at "vc"
    refine ⟨lenB rfl, fun l nl => ?_⟩
    have hl : upd H l (.lst [V.int 20, .int (10 ^ Int.toNat 5), .int (4 * 10 ^ Int.toNat 8)]) l = some (.lst [V.int 20, .int (10 ^ Int.toNat 5), .int (4 * 10 ^ Int.toNat 8)]) := upd_same
    have x := x.push (.lst [V.int 20, .int (10 ^ Int.toNat 5), .int (4 * 10 ^ Int.toNat 8)]) nl
    walk_at "vc"
    refine i_takeX (size := 3) 1 x rfl (by decide) (by decide) fun d n r H1 d0 d1 x => ?_
    have e : ∃ v : Int, atI [V.int 20, .int (10 ^ Int.toNat 5), .int (4 * 10 ^ Int.toNat 8)] d = some (.int v) ∧ 1 ≤ v ∧ v ≤ 400000000 := by
      have e : d = 0 ∨ d = 1 ∨ d = 2 := by omega
      rcases e with rfl | rfl | rfl <;> exact ⟨_, rfl, by decide, by decide⟩
    obtain ⟨m, hm, m0, m1⟩ := e
    refine i_ixL (SqL.of (x.at 0 rfl)) hm ?_
    have x := x.drop
    walk_at "vc"
    refine ⟨lenB rfl, fun D nD => ?_⟩
    have x := x.push (.lst []) nD
    have x : Cxs F [(p, pen c n r), (D, .lst [])] (upd H1 D (.lst [])) := x.perm (List.Perm.swap _ _ _)
    generalize upd H1 D (.lst []) = H2 at x ⊢
    walk_at "vc"
    refine ⟨a, rfl, ⟨xs, x.e.seq hs⟩, ?_⟩
    refine for_it (walk_list (K := K) (a := a) (xs := xs)) (fun i σ' H' => ∃ y4 y5 y6 y7 F' n r ys ws', σ' = [some (V.ref p), some (.ref a), some (.int m), some (.ref D), y4, y5, y6, y7] ∧ Same F F' ∧ Cxs F' [(p, pen c n r), (D, .lst ys)] H' ∧ DpAll K F' ys (ws'.map W4.d) ∧
        (∀ w ∈ ws', WOk1 size 1000000000 w) ∧ ws'.map W4.k = (ws.map W4.k).take i)
      ⟨_, _, _, _, F, n, r, [], [], rfl, Same.refl _, x, .nil, fun _ h => (nomatch h), rfl⟩ (fun i σ' H' _ pv => ?_) (fun i y σ' H' H'' hi pv hy => ?_) fun σ' H' pv => ?_
    · obtain ⟨y4, y5, y6, y7, F', n, r, ys, ws', rfl, e, x, _⟩ := pv
      exact (e.trans x.e).seq hs
    · obtain ⟨y4, y5, y6, y7, F', n, r, ys, ws', rfl, e, x, ha, h1, hk⟩ := pv
      obtain ⟨rfl, hv⟩ := hy
      have hi' : i < ws.length := by omega
      have hwi : ws[i]? = some ws[i] := List.getElem?_eq_getElem hi'
      have hwok := hw.w ws[i] (List.getElem_mem hi')
      obtain ⟨v', hv', dv⟩ := dpa_get (i := i) (d := ws[i].d) hx (by rw [List.getElem?_map, hwi]; rfl)
      rw [hv] at hv'
      cases hv'
      obtain ⟨t, rfl, ht⟩ := dp_w4 dv
      have ht := same_sqT (e.trans x.e) ht
      have lk : ws'.length = i := by
        have := congrArg List.length hk
        rw [List.length_map, List.length_take, List.length_map] at this
        omega
      have ly : ys.length = ws'.length := by rw [dpa_len ha, List.length_map]
      generalize hw4 : ws[i] = w4 at ht hwok hwi
      obtain ⟨ws_, wt_, wl_, wh_⟩ := w4
      have ht : SqT K _ t [.int ws_, .int wt_, .int wl_, oV wh_] := ht
      refine i_gtup ht rfl ?_
      walk_at "vc"
      refine i_takeX (size := m) 0 x rfl (by omega) (by omega) fun d n r H3 d0 d1 x => ?_
      walk_at "vc"
      cases wh_ with
      | none =>
        walk_at "vc"
        refine i_tyL (SqL.of (x.at 1 rfl)) ?_
        walk_at "vc"
        refine ⟨lenB rfl, fun T nT => ?_⟩
        walk_at "vc"
        have eT : Same F' (upd F' T (.tup (W4.v ⟨ws_, wt_, 1 + d, none⟩))) := x.sub nT
        have x := x.new (.tup (W4.v ⟨ws_, wt_, 1 + d, none⟩)) nT
        refine i_append (xs := ys) (x.at 1 rfl) (by omega) ?_
        walk_at "vc"
        have x' : Cxs _ [(p, pen c n r), (D, .lst (ys ++ [V.ref T]))] (upd (upd H3 T (.tup (W4.v ⟨ws_, wt_, 1 + d, none⟩))) D (.lst (ys ++ [V.ref T]))) := x.turn 1 rfl (HO.lst (ys ++ [V.ref T]))
        refine ⟨_, _, _, _, _, n, r, _, ws' ++ [⟨ws_, wt_, 1 + d, none⟩], rfl, e.trans eT, x', ?_, fun u hu => ?_, ?_⟩
        · rw [List.map_append]
          exact (ha.mono eT).snoc (w4_dp (SqT.of upd_same))
        · rcases List.mem_append.mp hu with hu | hu
          · exact h1 u hu
          · rw [List.mem_singleton] at hu
            subst hu
            exact ⟨hwok.s0, hwok.s1, hwok.t0, hwok.t1, hwok.ne, by show (1 : Int) ≤ 1 + d; omega, by show (1 : Int) + d ≤ _; omega, fun h e => by cases e⟩
        · rw [List.map_append, hk, List.take_add_one, List.getElem?_map, hwi]
          rfl
      | some hh =>
        walk_at "vc"
        refine i_takeX (size := m) 0 x rfl (by omega) (by omega) fun d' n r H3 e0 e1 x => ?_
        walk_at "vc"
        refine i_tyL (SqL.of (x.at 1 rfl)) ?_
        walk_at "vc"
        refine ⟨lenB rfl, fun T nT => ?_⟩
        walk_at "vc"
        have eT : Same F' (upd F' T (.tup (W4.v ⟨ws_, wt_, 1 + d, some (1 + d + d')⟩))) := x.sub nT
        have x := x.new (.tup (W4.v ⟨ws_, wt_, 1 + d, some (1 + d + d')⟩)) nT
        refine i_append (xs := ys) (x.at 1 rfl) (by omega) ?_
        walk_at "vc"
        have x' : Cxs _ [(p, pen c n r), (D, .lst (ys ++ [V.ref T]))] (upd (upd H3 T (.tup (W4.v ⟨ws_, wt_, 1 + d, some (1 + d + d')⟩))) D (.lst (ys ++ [V.ref T]))) := x.turn 1 rfl (HO.lst (ys ++ [V.ref T]))
        refine ⟨_, _, _, _, _, n, r, _, ws' ++ [⟨ws_, wt_, 1 + d, some (1 + d + d')⟩], rfl, e.trans eT, x', ?_, fun u hu => ?_, ?_⟩
        · rw [List.map_append]
          exact (ha.mono eT).snoc (w4_dp (SqT.of upd_same))
        · rcases List.mem_append.mp hu with hu | hu
          · exact h1 u hu
          · rw [List.mem_singleton] at hu
            subst hu
            exact ⟨hwok.s0, hwok.s1, hwok.t0, hwok.t1, hwok.ne, by show (1 : Int) ≤ 1 + d; omega, by show (1 : Int) + d ≤ _; omega, fun h e => by cases e; exact ⟨by show (1 : Int) + d ≤ 1 + d + d'; omega, by omega⟩⟩
        · rw [List.map_append, hk, List.take_add_one, List.getElem?_map, hwi]
          rfl
    · obtain ⟨y4, y5, y6, y7, F', n, r, ys, ws', rfl, e, x, ha, h1, hk⟩ := pv
      walk_at "vc"
      rw [List.take_of_length_le (by rw [List.length_map]; omega)] at hk
      exact q D n r ys ws' F' _ e x ha ⟨h1, by rw [hk]; exact hw.nd⟩ (by have := congrArg List.length hk; rw [List.length_map, List.length_map] at this; omega)
end
end K03
set_option maxRecDepth 100000
set_option maxHeartbeats 1000000
namespace K03
open PySem PySem.Spec PyProof.Rows L2 VX
local macro_rules | `(tactic| walk_at "ne") => `(tactic| first
  | assumption
  | exact Ne.symm (by assumption)
  | exact ne_of_none (by assumption) (by assumption)
  | exact Ne.symm (ne_of_none (by assumption) (by assumption))
  | ((with_reducible refine' ne_of_none ?n1 ?n2); (case n2 => assumption); (case n1 => walk_at "lk"))
  | ((with_reducible refine' Ne.symm (ne_of_none ?n1 ?n2)); (case n2 => assumption); (case n1 => walk_at "lk")))
local macro_rules | `(tactic| walk_at "lk") => `(tactic| first
  | assumption
  | (with_reducible exact upd_same)
  | ((with_reducible refine' (upd_ne ?nn).trans ?ll); (case nn => walk_at "ne"); (case ll => walk_at "lk"))
  | ((with_reducible refine' VX.same_at ?nn ?ll); (case nn => assumption); (case ll => walk_at "lk")))
local macro_rules | `(tactic| walk_at "dp") => `(tactic| first
  | assumption
  | (with_reducible exact Dp.non)
  | (with_reducible exact Dp.bl _)
  | (with_reducible exact Dp.int _)
  | (with_reducible exact Dp.str _)
  | ((with_reducible refine' VX.Dp.mono' ?dd (same_new ?nn)); (case nn => assumption); (case dd => walk_at "dp"))
  | ((with_reducible refine' VX.Dp.mono' ?dd ?nn); (case nn => assumption); (case dd => walk_at "dp")))
local macro_rules | `(tactic| walk_at "sq") => `(tactic| first
  | assumption
  | (with_reducible exact SqL.of (by assumption))
  | (with_reducible exact SqT.of (by assumption))
  | ((with_reducible refine' Same.seq (same_new ?nn) ?qq); (case nn => assumption); (case qq => walk_at "sq"))
  | ((with_reducible refine' same_sqT (same_new ?nn) ?qq); (case nn => assumption); (case qq => walk_at "sq"))
  | ((with_reducible refine' Same.seq ?nn ?qq); (case nn => assumption); (case qq => walk_at "sq"))
  | ((with_reducible refine' same_sqT ?nn ?qq); (case nn => assumption); (case qq => walk_at "sq"))
  | ((with_reducible refine' SqL.of ?qq); (case qq => walk_at "lk"))
  | ((with_reducible refine' SqT.of ?qq); (case qq => walk_at "lk")))
local macro_rules | `(tactic| walk_at "cc") => `(tactic| first
  | exact ⟨by decide, by decide, by decide⟩
  | (show _ ≠ _; omega)
  | exact ⟨by omega, by omega⟩
  | exact Or.inl ⟨by omega, by omega⟩
  | exact Or.inr ⟨by omega, by omega⟩)
local macro_rules | `(tactic| walk_at "vcA") => `(tactic| repeat (first
  | ((with_reducible refine' VX.i_modA ?v1 ?_); (case v1 => omega); intro r hr0 hr1)
  | ((with_reducible refine' VX.i_divA ?v1 ?v2 ?_); (case v1 => omega); (case v2 => omega); intro r hr0 hr1)
  | walk_at "vc1"))
local macro_rules | `(tactic| walk_at "vc1") => `(tactic| first
  | ((with_reducible refine' VX.i_var ?v1 ?_); (case v1 => rfl))
  | (with_reducible refine' VX.i_c ?_)
  | (with_reducible refine' VX.i_op ?_)
  | (with_reducible refine' VX.i_cons ?_)
  | (with_reducible refine' VX.i_nil ?_)
  | (with_reducible refine' VX.i_seq ?_)
  | (with_reducible refine' VX.i_asg ?_)
  | ((with_reducible refine' VX.i_gname ?v2 ?_); (case v2 => (first | (simp only [List.set_cons_zero, List.set_cons_succ]; done) | (simp only [List.set_cons_zero, List.set_cons_succ]; exact rfl) | exact rfl)))
  | (with_reducible refine' VX.i_ifS ?_)
  | (with_reducible refine' VX.i_test ?_)
  | (with_reducible refine' VX.i_tB ?_)
  | (with_reducible refine' VX.i_bl ?_)
  | (with_reducible refine' VX.i_iteT ?_)
  | (with_reducible refine' VX.i_iteF ?_)
  | (with_reducible refine' VX.i_iteNT ?_)
  | (with_reducible refine' VX.i_iteNF ?_)
  | (with_reducible refine' VX.i_and ?_)
  | (with_reducible refine' VX.i_or ?_)
  | (with_reducible refine' VX.i_not ?_)
  | (with_reducible refine' VX.i_call ?_)
  | (with_reducible refine' VX.i_CB ?_)
  | (with_reducible refine' VX.i_make ?_)
  | (with_reducible refine' VX.i_makeK0 ?_)
  | (with_reducible refine' VX.i_mthK ?_)
  | (with_reducible refine' VX.i_mthS ?_)
  | (with_reducible refine' VX.i_meth ?_)
  | ((with_reducible refine' VX.i_ixL ?v1 ?v2 ?_); (case v1 => walk_at "sq"); (case v2 => first | rfl | assumption))
  | ((with_reducible refine' VX.i_ixT ?v1 ?v2 ?_); (case v1 => walk_at "sq"); (case v2 => first | rfl | assumption))
  | ((with_reducible refine' VX.i_setLU ?v2 ?v3 ?_); (case v2 => rfl); (case v3 => rfl))
  | ((with_reducible refine' VX.i_setL ?v1 ?v2 ?v3 ?_); (case v1 => walk_at "lk"); (case v2 => rfl); (case v3 => rfl))
  | (with_reducible refine' VX.i_rI0 ?_)
  | ((with_reducible refine' VX.i_rI ?v1 ?_); (case v1 => walk_at "cc"))
  | (with_reducible refine' VX.i_int ?_)
  | ((with_reducible refine' VX.i_rEqS ?v1 ?_); (case v1 => rfl))
  | ((with_reducible refine' VX.i_rNeS ?v1 ?_); (case v1 => rfl))
  | (with_reducible refine' VX.i_rEqI ?_)
  | (with_reducible refine' VX.i_rNeI ?_)
  | (with_reducible refine' VX.i_max2 ?_)
  | (with_reducible refine' VX.i_min2 ?_)
  | ((with_reducible refine' VX.i_lenL ?v1 ?_); (case v1 => walk_at "sq"))
  | ((with_reducible refine' VX.i_lenT ?v1 ?_); (case v1 => walk_at "sq"))
  | (with_reducible refine' VX.i_chain ?_)
  | (with_reducible refine' VX.i_gsub ?_)
  | (with_reducible refine' VX.i_ret ?_)
  | (with_reducible refine' VX.i_drop ?_)
  | (with_reducible refine' VX.i_next ?_)
  | (with_reducible refine' VX.i_retN ?_)
  | (with_reducible refine' VX.i_andV ?_)
  | (with_reducible refine' VX.i_orV ?_)
  | (with_reducible refine' VX.i_notV ?_)
  | (with_reducible refine' VX.i_ifE ?_)
  | (with_reducible refine' VX.i_un ?_)
  | (with_reducible refine' VX.i_rU ?_)
  | (with_reducible refine' VX.i_tup ?_)
  | (with_reducible refine' VX.i_lst ?_)
  | ((with_reducible refine' VX.i_fldv ?v1 ?v2 ?v3 ?v4 ?v5 ?_); (case v1 => rfl); (case v2 => walk_at "lk"); (case v3 => walk_at "cl"); (case v4 => walk_at "na"); (case v5 => first | rfl | assumption))
  | (with_reducible refine' VX.i_fld ?_)
  | (with_reducible refine' VX.i_sFld ?_)
  | (with_reducible refine' VX.i_mk1 ?_)
  | (with_reducible refine' VX.i_mk1v ?_)
  | (with_reducible refine' VX.i_gnil ?_)
  | (with_reducible refine' VX.i_lc ?_)
  | (with_reducible refine' VX.i_for ?_)
  | (with_reducible refine' VX.i_lstRg ?_)
  | (with_reducible refine' VX.i_rg2 ?_)
  | (with_reducible refine' VX.i_rg2v ?_)
  | (with_reducible refine' VX.i_yes ?_)
  | (with_reducible refine' VX.i_iList ?_)
  | (with_reducible refine' VX.i_iRng1 ?_)
  | (with_reducible refine' VX.i_iRng2 ?_)
  | (with_reducible refine' VX.i_iEnum ?_)
  | (with_reducible refine' VX.i_iZip ?_)
  | (with_reducible refine' VX.i_iOwn ?_)
  | ((with_reducible refine' VX.i_wipe ?v1 ?_); (case v1 => rfl))
  | (with_reducible refine' VX.i_andN ?_)
  | (with_reducible refine' VX.i_iteNDS ?_)
  | (with_reducible refine' VX.i_bm ?_)
  | ((with_reducible refine' VX.i_tyL ?v1 ?_); (case v1 => walk_at "sq"))
  | ((with_reducible refine' VX.i_append ?v1 ?v2 ?_); (case v1 => walk_at "lk"); (case v2 => (simp only [List.length_map, List.length_cons, List.length_nil, List.length_append]; omega)))
  | ((with_reducible refine' VX.i_iteDT ?v1 ?_); (case v1 => rfl))
  | ((with_reducible refine' VX.i_iteDF ?v1 ?_); (case v1 => intro h; cases h))
  | ((with_reducible refine' VX.i_isiD ?v1 ?v2 ?_); (case v1 => walk_at "dp"); (case v2 => decide))
  | ((with_reducible refine' VX.i_iteBT ?v1 ?_); (case v1 => rfl))
  | ((with_reducible refine' VX.i_iteBF ?v1 ?_); (case v1 => rfl))
  | (with_reducible refine' VX.i_gcons ?_)
  | (with_reducible refine' VX.i_dIn ?_)
  | (with_reducible refine' VX.i_dNotIn ?_)
  | (with_reducible refine' VX.i_dGet ?_)
  | (with_reducible refine' VX.i_items ?_)
  | (with_reducible refine' VX.i_keys ?_)
  | ((with_reducible refine' VX.i_gtup ?v1 ?v2 ?_); (case v1 => walk_at "sq"); (case v2 => rfl)))
local macro_rules | `(tactic| walk_at "vc") => `(tactic| repeat walk_at "vc1")

local macro_rules | `(tactic| walk_at "cl") => `(tactic| exact Txt.cl_Line (by assumption))
local macro_rules | `(tactic| walk_at "na") => `(tactic| first | exact Txt.na_Line_size (by assumption) | exact Txt.na_Line__spans (by assumption) | exact Txt.na_Line__mosts (by assumption))
theorem WOk.sub {n m : Int} {ws us : List W4} (h : WOk n m ws) (s : us.Sublist ws) : WOk n m us := ⟨fun w hw => h.w w (s.subset hw), (s.map W4.k).nodup h.nd⟩
theorem WOk1.up {n m m' : Int} {w : W4} (h : WOk1 n m w) (e : m ≤ m') : WOk1 n m' w := ⟨h.s0, h.s1, h.t0, h.t1, h.ne, h.l0, by have := h.l1; omega, fun g e' => by have := h.h g e'; omega⟩
theorem WOk.up {n m m' : Int} {ws : List W4} (h : WOk n m ws) (e : m ≤ m') : WOk n m' ws := ⟨fun w hw => (h.w w hw).up e, h.nd⟩
theorem BOk.up {n m m' : Int} {bs : List B3} (h : BOk n m bs) (e : m ≤ m') : BOk n m' bs := ⟨fun b hb => by
  have q := h.b b hb
  exact ⟨q.l0, q.l1, q.e0, q.e1, q.ne, q.m0, by have := q.m1; omega⟩, h.nd⟩
theorem lt109 {d : Int} (h : d < 10 ^ Int.toNat 9) : d < 1000000000 := by
  have e : (10 : Int) ^ Int.toNat 9 = 1000000000 := by decide
  omega
/-- what is drawn -/
structure Drawn (K : PySem.W.Frag) (H : Hp) (size : Int) (a b : Addr) (ws : List W4) (bs : List B3) : Prop where
  s0 : 1 ≤ size
  s1 : size ≤ 6
  wa : ∃ xs, H a = some (.lst xs) ∧ DpAll K H xs (ws.map W4.d)
  ba : ∃ xs, H b = some (.lst xs) ∧ DpAll K H xs (bs.map B3.d)
  wo : WOk size 1000000000 ws
  bo : BOk size 1000000000 bs
  wl : ws.length ≤ 36
  bl : bs.length ≤ 2
  bp : bs.Pairwise (fun x y => lexL y.k x.k = false)
section
variable {P : Program} {w : World} {K : PySem.W.Frag} {mg : Str → Option Value} {base : Heap} {A : Adr}
theorem Drawn.mono {H H' : Hp} {size : Int} {a b : Addr} {ws : List W4} {bs : List B3} (d : Drawn K H size a b ws bs) (e : Same H H') : Drawn K H' size a b ws bs :=
  ⟨d.s0, d.s1, let ⟨xs, h, q⟩ := d.wa; ⟨xs, e _ _ h, q.mono e⟩, let ⟨xs, h, q⟩ := d.ba; ⟨xs, e _ _ h, q.mono e⟩, d.wo, d.bo, d.wl, d.bl, d.bp⟩
/-- a pen, newly made, beside the cells that turn -/
theorem i_penX {F H : Hp} {T : List (Addr × HO)} {Q : VK} {E : XK} {s : Addr} {k : Int} {ns : List Int} (x : Cxs F T H) (hs : SqL K H s (ns.map V.int)) (h0 : 0 ≤ k) (h1 : k ≤ 1000)
    (q : ∀ (z : Int) p H', Cxs F ((p, pen z 0 z) :: T) H' → Same H H' → Q (.ref p) H') : spPen K [.ref s, .int k] H Q E := ⟨s, k, ns, rfl, hs, h0, h1, fun z p np => q z p _ (x.push _ np) (same_new np)⟩
def spLine (K : PySem.W.Frag) : Sp := fun vs H Q _ => ∃ (s : Addr) (ns : List Int), vs = [.ref s] ∧ SqL K H s (ns.map V.int) ∧
  ∀ D a b size ws bs H', Same H H' → H' D = some (.tup [.int size, .ref a, .ref b]) → Drawn K H' size a b ws bs → Q (.ref D) H'
theorem ok_line (T : Txt K mg A) : FnOk P w K mg base CX0 3 A.f_line A.d_line ["_law_script"] (spLine K) := by
  refine T.F_line.ok sc_line (fun vs H Q E h => ?_) (fun cdv A' outer s H vs Q E hr h => ?_)
  · obtain ⟨a, ns, rfl, _⟩ := h
    rfl
  · obtain ⟨sc, ns, rfl, hs, q⟩ := h
    refine ⟨_, (pss_cons (ps_set (i := 1) sc_line.nd rfl (Or.inr rfl) (pe_call (ok_pen T) (hr.mono (by decide)) (by rfl) T.g_pen T.F_pen.kp (b_pen T) .nil pass0 (pa_cons (pv 0) (pa_cons pe_int pa_nil))))
      (pss_cons (ps_set (i := 2) sc_line.nd rfl (Or.inl rfl) (pe_call (ok_size T) (hr.mono (by decide)) (by rfl) T.g_size T.F_size.kp (b_size T) .nil pass0 (pa_cons (pv 1) pa_nil)))
      (Evl.pss_cut (ps_if (pt_cmpR op_eq (pe_call (ok_take T) (hr.mono (by decide)) (by rfl) T.g_take T.F_take.kp (b_take T) .nil pass0 (pa_cons (pv 1) (pa_cons pe_int pa_nil))) pe_int (nomark _)) (pss_cons (ps_set (i := 2) sc_line.nd rfl (Or.inl rfl) (pe_op op_add pe_int (pe_call (ok_take T) (hr.mono (by decide)) (by rfl) T.g_take T.F_take.kp (b_take T) .nil pass0 (pa_cons (pv 1) (pa_cons pe_int pa_nil)))))
      (pss_one (ps_set (i := 3) sc_line.nd rfl (Or.inl rfl) (pe_call (ok_plan_wires T) (hr.mono (by decide)) (by rfl) T.g_plan_wires T.F_plan_wires.kp (b_plan_wires T) .nil pass0 (pa_cons (pv 1) (pa_cons (pv 2) pa_nil)))))) (pss_one (ps_set (i := 3) sc_line.nd rfl (Or.inl rfl) (pe_call (ok_wires T) (hr.mono (by decide)) (by rfl) T.g_wires T.F_wires.kp (b_wires T) .nil pass0 (pa_cons (pv 1) (pa_cons (pv 2) pa_nil))))))
      (pss_cons (ps_set (i := 4) sc_line.nd rfl (Or.inl rfl) (pe_call (ok_told T) (hr.mono (by decide)) (by rfl) T.g_told T.F_told.kp (b_told T) .nil pass0 (pa_cons (pe_call (ok_pen T) (hr.mono (by decide)) (by rfl) T.g_pen T.F_pen.kp (b_pen T) .nil pass0 (pa_cons (pv 0) (pa_cons pe_int pa_nil))) (pa_cons (pv 2) pa_nil))))
      (pss_cons (ps_set (i := 1) sc_line.nd rfl (Or.inr rfl) (pe_call (ok_pen T) (hr.mono (by decide)) (by rfl) T.g_pen T.F_pen.kp (b_pen T) .nil pass0 (pa_cons (pv 0) (pa_cons pe_int pa_nil))))
      (pss_cons (ps_set (i := 5) sc_line.nd rfl (Or.inl rfl) (pe_call (ok_take T) (hr.mono (by decide)) (by rfl) T.g_take T.F_take.kp (b_take T) .nil pass0 (pa_cons (pv 1) (pa_cons pe_int pa_nil))))
      (Evl.pss_cut (ps_if (pt_cmpR op_eq (pv 5) pe_int (nomark _)) (pss_one (ps_set (i := 3) sc_line.nd rfl (Or.inl rfl) (pe_lst pa_nil))) (pss_one (ps_if (pt_cmpR op_lt (pv 5) pe_int (nomark _)) (pss_one (ps_setLc (i := 3) (own := [("_law_row", 6)]) (g := gName 6) (by rfl) sc_line.nd rfl rfl (sw_true rfl rfl rfl (by decide +kernel)) (pi_list (pv 3)) (blkOk_by (N := N_line) (sc := defScope s_line) (by decide +kernel)) (fun _ _ _ _ _ => (pg_name (i := 6) sc_line.nd rfl (Or.inl rfl))) (fun _ _ _ _ _ => (pts_one (pt_cmpR op_gt (pe_call (ok_take T) (hr.mono (by decide)) (by rfl) T.g_take T.F_take.kp (b_take T) .nil pass0 (pa_cons (pv 1) (pa_cons pe_int pa_nil))) pe_int (nomark _)))) (fun _ _ _ _ _ => (pv 6)))) (pss_one (ps_if (pt_cmpR op_eq (pv 5) pe_int (nomark _)) (pss_one (ps_set (i := 3) sc_line.nd rfl (Or.inl rfl) (pe_call (ok_ring_wires T) (hr.mono (by decide)) (by rfl) T.g_ring_wires T.F_ring_wires.kp (b_ring_wires T) .nil pass0 (pa_cons (pv 1) (pa_cons (pv 2) pa_nil))))) (pss_one (ps_if (pt_cmpR op_eq (pv 5) pe_int (nomark _)) (pss_cons (ps_set (i := 3) sc_line.nd rfl (Or.inl rfl) (pe_call (ok_wide_hours T) (hr.mono (by decide)) (by rfl) T.g_wide_hours T.F_wide_hours.kp (b_wide_hours T) .nil pass0 (pa_cons (pv 1) (pa_cons (pv 3) pa_nil))))
      (pss_one (ps_setLc (i := 4) (own := [("_law_row", 6)]) (g := gName 6) (tt := tYes) (by rfl) sc_line.nd rfl rfl (sw_true rfl rfl rfl (by decide +kernel)) (pi_list (pv 4)) (blkOk_by (N := N_line) (sc := defScope s_line) (by decide +kernel)) (fun _ _ _ _ _ => (pg_name (i := 6) sc_line.nd rfl (Or.inl rfl))) (fun _ _ _ _ _ => pts_nil) (fun _ _ _ _ _ => (pe_tup (pa_cons (pe_ix (r := rIxT K) ix_tup (pv 6) pe_int (fun _ _ => rfl)) (pa_cons (pe_ix (r := rIxT K) ix_tup (pv 6) pe_int (fun _ _ => rfl)) (pa_cons (pe_call (ok_take T) (hr.mono (by decide)) (by rfl) T.g_take T.F_take.kp (b_take T) .nil pass0 (pa_cons (pv 1) (pa_cons (pe_op op_pow pe_int pe_int) pa_nil))) pa_nil)))))))) pss_nil)))))))
      (pss_one (ps_ret (pe_tup (pa_cons (pv 2) (pa_cons (pv 3) (pa_cons (pv 4) pa_nil))))))))))))), ?_⟩
    refine i_start (σ' := [some (V.ref sc), none, none, none, none, none, none]) rfl ?_
    walk_at "vc"
    refine i_penX (Cxs.start H) hs (by decide) (by decide) fun z p H1 x _ => ?_
    walk_at "vc"
    refine ⟨H, p, z, 0, z, rfl, x, fun size n r H1 s0 s1 x => ?_⟩
    walk_at "vc"
    refine i_cut (M := fun σ' H' => ∃ (size n r : Int) (D : Addr) (xs : List V) (ws : List W4) (F : Hp), σ' = [some (V.ref sc), some (.ref p), some (.int size), some (.ref D), none, none, none] ∧ 1 ≤ size ∧ size ≤ 6 ∧ Same H F ∧ Cxs F [(p, pen z n r), (D, .lst xs)] H' ∧ DpAll K F xs (ws.map W4.d) ∧ WOk size 10 ws ∧ ws.length ≤ 36) ?_ fun σ' H' pv => ?_
    · walk_at "vc"
      refine i_takeX (size := 16) 0 x rfl (by decide) (by decide) fun d n r H1 _ _ x => ?_
      walk_at "vc"
      refine i_iteD (fun hd => ?_) (fun hd => ?_)
      · walk_at "vc"
        refine i_takeX (size := 2) 0 x rfl (by decide) (by decide) fun d n r H1 d0 d1 x => ?_
        walk_at "vc"
        refine ⟨H, p, z, n, r, _, rfl, by omega, by omega, x, fun D n r xs ws F' H' e x ha hw hz => ?_⟩
        walk_at "vc"
        exact ⟨_, n, r, D, xs, ws, F', rfl, by omega, by omega, e, x, ha, hw, hz⟩
      · walk_at "vc"
        refine ⟨H, p, z, n, r, size, rfl, by omega, by omega, x, fun D n r xs ws F' H' e x ha hw hz => ?_⟩
        walk_at "vc"
        exact ⟨_, n, r, D, xs, ws, F', rfl, by omega, by omega, e, x, ha, hw, hz⟩
    obtain ⟨size, n, r, D, xs, ws, F, rfl, s0, s1, e, x, ha, hw, hz⟩ := pv
    have x : Cxs F [(D, .lst xs), (p, pen z n r)] H' := x.perm (List.Perm.swap _ _ _)
    have eD : Same F (upd F D (.lst xs)) := x.keepS
    have x := x.keep.drop
    have ha := ha.mono eD
    have e := e.trans eD
    have hD : upd F D (.lst xs) D = some (.lst xs) := upd_same
    generalize upd F D (.lst xs) = F at x ha e hD
    walk_at "vc"
    refine i_penX x ((e.trans x.e).seq hs) (by decide) (by decide) fun z p H1 x _ => ?_
    walk_at "vc"
    refine ⟨F, p, z, 0, z, size, rfl, s0, s1, x, fun D2 n r ys bs F' H' e2 x hb hbo hbl hbp => ?_⟩
    have eD : Same F' (upd F' D2 (.lst ys)) := x.keepS
    have x := x.keep.drop
    have hb := hb.mono eD
    have ha := ha.mono (e2.trans eD)
    have hD := (e2.trans eD) _ _ hD
    have e := e.trans (e2.trans eD)
    have hD2 : upd F' D2 (.lst ys) D2 = some (.lst ys) := upd_same
    generalize upd F' D2 (.lst ys) = F at x ha hb e hD hD2
    walk_at "vc"
    refine i_penX x ((e.trans x.e).seq hs) (by decide) (by decide) fun z p H1 x _ => ?_
    walk_at "vc"
    refine i_takeX (size := 8) 0 x rfl (by decide) (by decide) fun kd n r H1 k0 k1 x => ?_
    walk_at "vc"
    refine i_cut (M := fun σ' H' => ∃ (a b : Addr) (y1 y5 : Option V) (ws : List W4) (bs : List B3), σ' = [some (V.ref sc), y1, some (.int size), some (.ref a), some (.ref b), y5, none] ∧ Same H H' ∧ Drawn K H' size a b ws bs) ?_ fun σ' H' pv => ?_
    · have ba : ∀ {H'}, Same F H' → ∃ xs, H' D2 = some (.lst xs) ∧ DpAll K H' xs (bs.map B3.d) := fun e => ⟨ys, e _ _ hD2, hb.mono e⟩
      have lx : xs.length = ws.length := by rw [dpa_len ha, List.length_map]
      have ly : ys.length = bs.length := by rw [dpa_len hb, List.length_map]
      walk_at "vc"
      refine i_iteD (fun hd => ?_) (fun hd => ?_)
      · walk_at "vc"
        refine ⟨lenB rfl, fun D3 n3 => ?_⟩
        walk_at "vc"
        have e3 := x.e.trans (same_new (o := .lst []) n3)
        exact ⟨D3, D2, _, _, [], bs, rfl, e.trans e3, s0, s1, ⟨[], upd_same, .nil⟩, ba e3, WOk.nil, hbo.up (by decide), Nat.zero_le _, hbl, hbp⟩
      walk_at "vc"
      refine i_iteD (fun hd => ?_) (fun hd => ?_)
      · walk_at "vc"
        refine ⟨D, rfl, ⟨xs, SqL.of (x.e _ _ hD)⟩, fun D3 n3 => ?_⟩
        have x3 := x.push (.lst []) n3
        refine lc_it (walk_list (K := K) (a := D) (xs := xs)) (fun i H' => ∃ (n r : Int) (acc : List V) (us : List W4), Cxs F [(D3, .lst acc), (p, pen z n r)] H' ∧ DpAll K F acc (us.map W4.d) ∧ us.Sublist (ws.take i)) ⟨n, r, [], [], x3, .nil, List.nil_sublist _⟩ (fun i H' _ pv => ?_) (fun i v H5 H6 hi pv y => ?_) fun H' pv => ?_
        · obtain ⟨n, r, acc, us, x, _⟩ := pv
          exact SqL.of (x.e _ _ hD)
        · obtain ⟨n, r, acc, us, x, hu, su⟩ := pv
          obtain ⟨rfl, hv⟩ := y
          have hi' : i < ws.length := by omega
          have hwi : ws[i]? = some ws[i] := List.getElem?_eq_getElem hi'
          obtain ⟨v', hv', dv⟩ := dpa_get (i := i) (d := ws[i].d) ha (by rw [List.getElem?_map, hwi]; rfl)
          rw [hv] at hv'
          cases hv'
          have st : ws.take (i + 1) = ws.take i ++ [ws[i]] := by
            rw [List.take_add_one, hwi]
            rfl
          have lu : us.length ≤ i := by
            have := su.length_le
            rw [List.length_take] at this
            omega
          have la : acc.length = us.length := by rw [dpa_len hu, List.length_map]
          walk_at "vc"
          refine i_takeX (size := 3) 1 x rfl (by decide) (by decide) fun d n r H7 _ _ x => ?_
          walk_at "vc"
          refine i_iteD (fun hd => ?_) (fun hd => ?_)
          · walk_at "vc"
            refine ⟨acc, x.at 0 rfl, lenB' (by omega), ?_⟩
            have x' : Cxs F [(D3, .lst (acc ++ [v])), (p, pen z n r)] (upd H7 D3 (.lst (acc ++ [v]))) := x.turn 0 rfl (HO.lst (acc ++ [v]))
            refine ⟨n, r, _, us ++ [ws[i]], x', ?_, ?_⟩
            · rw [List.map_append]
              exact hu.snoc dv
            · rw [st]
              exact su.append (List.Sublist.refl _)
          · exact ⟨n, r, acc, us, x, hu, by rw [st]; exact su.trans (List.sublist_append_left _ _)⟩
        · obtain ⟨n, r, acc, us, x, hu, su⟩ := pv
          have su := su.trans (List.take_sublist _ _)
          walk_at "vc"
          have lu := su.length_le
          exact ⟨D3, D2, _, _, us, bs, rfl, e.trans x.e, s0, s1, ⟨acc, x.at 0 rfl, hu.mono x.e⟩, ba x.e, (hw.sub su).up (by decide), hbo.up (by decide), by omega, hbl, hbp⟩
      walk_at "vc"
      refine i_iteD (fun hd => ?_) (fun hd => ?_)
      · walk_at "vc"
        refine ⟨F, p, z, n, r, size, rfl, s0, s1, x, fun D3 n r xs ws F' H' e3 x ha hw hz => ?_⟩
        walk_at "vc"
        have e4 := e3.trans x.e
        exact ⟨D3, D2, _, _, ws, bs, rfl, e.trans e4, s0, s1, ⟨xs, x.at 1 rfl, ha.mono x.e⟩, ba e4, hw.up (by decide), hbo.up (by decide), hz, hbl, hbp⟩
      walk_at "vc"
      refine i_iteD (fun hd => ?_) (fun hd => ?_)
      · walk_at "vc"
        refine ⟨F, p, D, z, n, r, size, ws, rfl, x, .lst (SqL.of hD) ha, hw, hz, fun D3 n r xs3 ws3 F3 H' e3 x ha3 hw3 hz3 => ?_⟩
        have x : Cxs F3 [(D3, .lst xs3), (p, pen z n r)] H' := x.perm (List.Perm.swap _ _ _)
        have eD : Same F3 (upd F3 D3 (.lst xs3)) := x.keepS
        have x := x.keep
        have ha3 := ha3.mono eD
        have e3 := e3.trans eD
        have hD3 : upd F3 D3 (.lst xs3) D3 = some (.lst xs3) := upd_same
        generalize upd F3 D3 (.lst xs3) = F3 at x ha3 e3 hD3
        walk_at "vc"
        refine ⟨D2, rfl, ⟨ys, SqL.of (x.e _ _ (e3 _ _ hD2))⟩, fun D4 n4 => ?_⟩
        have x4 := x.push (.lst []) n4
        refine lc_it (walk_list (K := K) (a := D2) (xs := ys)) (fun i H' => ∃ (F4 : Hp) (n r : Int) (acc : List V) (us : List B3), Same F3 F4 ∧ Cxs F4 [(D4, .lst acc), (p, pen z n r)] H' ∧ DpAll K F4 acc (us.map B3.d) ∧ us.map B3.k = (bs.map B3.k).take i ∧ ∀ u ∈ us, BOk1 size 1000000000 u) ⟨F3, n, r, [], [], Same.refl _, x4, .nil, rfl, fun _ h => (nomatch h)⟩ (fun i H' _ pv => ?_) (fun i v H5 H6 hi pv y => ?_) fun H' pv => ?_
        · obtain ⟨F4, n, r, acc, us, e4, x, _⟩ := pv
          exact SqL.of (x.e _ _ (e4 _ _ (e3 _ _ hD2)))
        · obtain ⟨F4, n, r, acc, us, e4, x, hu, hk, h1⟩ := pv
          obtain ⟨rfl, hv⟩ := y
          have hi' : i < bs.length := by omega
          have hwi : bs[i]? = some bs[i] := List.getElem?_eq_getElem hi'
          have hbok := hbo.b bs[i] (List.getElem_mem hi')
          obtain ⟨v', hv', dv⟩ := dpa_get (i := i) (d := bs[i].d) hb (by rw [List.getElem?_map, hwi]; rfl)
          rw [hv] at hv'
          cases hv'
          obtain ⟨t, rfl, ht⟩ := dp_b3 dv
          have ht := same_sqT (e3.trans (e4.trans x.e)) ht
          have lu : us.length = i := by
            have := congrArg List.length hk
            rw [List.length_map, List.length_take, List.length_map] at this
            omega
          have la : acc.length = us.length := by rw [dpa_len hu, List.length_map]
          generalize hb3 : bs[i] = b3 at ht hbok hwi
          obtain ⟨bl_, be_, bm_⟩ := b3
          walk_at "vc"
          refine i_takeX (size := 10 ^ Int.toNat 9) 1 x rfl (by decide) (by decide) fun d n r H7 d0 d1 x => ?_
          walk_at "vc"
          refine ⟨lenB rfl, fun T nT => ?_⟩
          have eT : Same F4 (upd F4 T (.tup (B3.v ⟨bl_, be_, d⟩))) := x.sub nT
          have x := x.new (.tup (B3.v ⟨bl_, be_, d⟩)) nT
          refine ⟨acc, x.at 0 rfl, lenB' (by omega), ?_⟩
          have x' : Cxs _ [(D4, .lst (acc ++ [V.ref T])), (p, pen z n r)] (upd (upd H7 T (.tup (B3.v ⟨bl_, be_, d⟩))) D4 (.lst (acc ++ [V.ref T]))) := x.turn 0 rfl (HO.lst (acc ++ [V.ref T]))
          refine ⟨_, n, r, _, us ++ [⟨bl_, be_, d⟩], e4.trans eT, x', ?_, ?_, fun u hu' => ?_⟩
          · rw [List.map_append]
            exact (hu.mono eT).snoc (b3_dp (SqT.of upd_same))
          · rw [List.map_append, hk, List.take_add_one, List.getElem?_map, hwi]
            rfl
          · rcases List.mem_append.mp hu' with hu' | hu'
            · exact h1 u hu'
            · rw [List.mem_singleton] at hu'
              subst hu'
              exact ⟨hbok.l0, hbok.l1, hbok.e0, hbok.e1, hbok.ne, d0, lt109 d1⟩
        · obtain ⟨F4, n, r, acc, us, e4, x, hu, hk, h1⟩ := pv
          rw [List.take_of_length_le (by rw [List.length_map]; omega)] at hk
          walk_at "vc"
          have eH := e4.trans x.e
          have lu : us.length = bs.length := by
            have := congrArg List.length hk
            rwa [List.length_map, List.length_map] at this
          refine ⟨D3, D4, _, _, ws3, us, rfl, e.trans (e3.trans eH), s0, s1, ⟨xs3, eH _ _ hD3, ha3.mono eH⟩, ⟨acc, x.at 0 rfl, hu.mono x.e⟩, hw3, ⟨h1, by rw [hk]; exact hbo.nd⟩, hz3, by omega, ?_⟩
          have : (bs.map B3.k).Pairwise (fun x y => lexL y x = false) := List.pairwise_map.mpr hbp
          rw [← hk] at this
          exact List.pairwise_map.mp this
      · walk_at "vc"
        exact ⟨D, D2, _, _, ws, bs, rfl, e.trans x.e, s0, s1, ⟨xs, x.e _ _ hD, ha.mono x.e⟩, ba x.e, hw.up (by decide), hbo.up (by decide), hz, hbl, hbp⟩
    · obtain ⟨a, b, y1, y5, ws, bs, rfl, e, dr⟩ := pv
      walk_at "vc"
      refine ⟨lenB rfl, fun D nD => ?_⟩
      walk_at "vc"
      exact q D a b size ws bs _ (e.trans (same_new nD)) upd_same (dr.mono (same_new nD))
end
end K03
set_option maxRecDepth 100000
set_option maxHeartbeats 1000000
namespace K03
open PySem PySem.Spec PyProof.Rows L2 VX
local macro_rules | `(tactic| walk_at "ne") => `(tactic| first
  | assumption
  | exact Ne.symm (by assumption)
  | exact ne_of_none (by assumption) (by assumption)
  | exact Ne.symm (ne_of_none (by assumption) (by assumption))
  | ((with_reducible refine' ne_of_none ?n1 ?n2); (case n2 => assumption); (case n1 => walk_at "lk"))
  | ((with_reducible refine' Ne.symm (ne_of_none ?n1 ?n2)); (case n2 => assumption); (case n1 => walk_at "lk")))
local macro_rules | `(tactic| walk_at "lk") => `(tactic| first
  | assumption
  | (with_reducible exact upd_same)
  | ((with_reducible refine' (upd_ne ?nn).trans ?ll); (case nn => walk_at "ne"); (case ll => walk_at "lk"))
  | ((with_reducible refine' VX.same_at ?nn ?ll); (case nn => assumption); (case ll => walk_at "lk")))
local macro_rules | `(tactic| walk_at "dp") => `(tactic| first
  | assumption
  | (with_reducible exact Dp.non)
  | (with_reducible exact Dp.bl _)
  | (with_reducible exact Dp.int _)
  | (with_reducible exact Dp.str _)
  | ((with_reducible refine' VX.Dp.mono' ?dd (same_new ?nn)); (case nn => assumption); (case dd => walk_at "dp"))
  | ((with_reducible refine' VX.Dp.mono' ?dd ?nn); (case nn => assumption); (case dd => walk_at "dp")))
local macro_rules | `(tactic| walk_at "sq") => `(tactic| first
  | assumption
  | (with_reducible exact SqL.of (by assumption))
  | (with_reducible exact SqT.of (by assumption))
  | ((with_reducible refine' Same.seq (same_new ?nn) ?qq); (case nn => assumption); (case qq => walk_at "sq"))
  | ((with_reducible refine' same_sqT (same_new ?nn) ?qq); (case nn => assumption); (case qq => walk_at "sq"))
  | ((with_reducible refine' Same.seq ?nn ?qq); (case nn => assumption); (case qq => walk_at "sq"))
  | ((with_reducible refine' same_sqT ?nn ?qq); (case nn => assumption); (case qq => walk_at "sq"))
  | ((with_reducible refine' SqL.of ?qq); (case qq => walk_at "lk"))
  | ((with_reducible refine' SqT.of ?qq); (case qq => walk_at "lk")))
local macro_rules | `(tactic| walk_at "cc") => `(tactic| first
  | exact ⟨by decide, by decide, by decide⟩
  | (show _ ≠ _; omega)
  | exact ⟨by omega, by omega⟩
  | exact Or.inl ⟨by omega, by omega⟩
  | exact Or.inr ⟨by omega, by omega⟩)
local macro_rules | `(tactic| walk_at "vcA") => `(tactic| repeat (first
  | ((with_reducible refine' VX.i_modA ?v1 ?_); (case v1 => omega); intro r hr0 hr1)
  | ((with_reducible refine' VX.i_divA ?v1 ?v2 ?_); (case v1 => omega); (case v2 => omega); intro r hr0 hr1)
  | walk_at "vc1"))
local macro_rules | `(tactic| walk_at "vc1") => `(tactic| first
  | ((with_reducible refine' VX.i_var ?v1 ?_); (case v1 => rfl))
  | (with_reducible refine' VX.i_c ?_)
  | (with_reducible refine' VX.i_op ?_)
  | (with_reducible refine' VX.i_cons ?_)
  | (with_reducible refine' VX.i_nil ?_)
  | (with_reducible refine' VX.i_seq ?_)
  | (with_reducible refine' VX.i_asg ?_)
  | ((with_reducible refine' VX.i_gname ?v2 ?_); (case v2 => (first | (simp only [List.set_cons_zero, List.set_cons_succ]; done) | (simp only [List.set_cons_zero, List.set_cons_succ]; exact rfl) | exact rfl)))
  | (with_reducible refine' VX.i_ifS ?_)
  | (with_reducible refine' VX.i_test ?_)
  | (with_reducible refine' VX.i_tB ?_)
  | (with_reducible refine' VX.i_bl ?_)
  | (with_reducible refine' VX.i_iteT ?_)
  | (with_reducible refine' VX.i_iteF ?_)
  | (with_reducible refine' VX.i_iteNT ?_)
  | (with_reducible refine' VX.i_iteNF ?_)
  | (with_reducible refine' VX.i_and ?_)
  | (with_reducible refine' VX.i_or ?_)
  | (with_reducible refine' VX.i_not ?_)
  | (with_reducible refine' VX.i_call ?_)
  | (with_reducible refine' VX.i_CB ?_)
  | (with_reducible refine' VX.i_make ?_)
  | (with_reducible refine' VX.i_makeK0 ?_)
  | (with_reducible refine' VX.i_mthK ?_)
  | (with_reducible refine' VX.i_mthS ?_)
  | (with_reducible refine' VX.i_meth ?_)
  | ((with_reducible refine' VX.i_ixL ?v1 ?v2 ?_); (case v1 => walk_at "sq"); (case v2 => first | rfl | assumption))
  | ((with_reducible refine' VX.i_ixT ?v1 ?v2 ?_); (case v1 => walk_at "sq"); (case v2 => first | rfl | assumption))
  | ((with_reducible refine' VX.i_setLU ?v2 ?v3 ?_); (case v2 => rfl); (case v3 => rfl))
  | ((with_reducible refine' VX.i_setL ?v1 ?v2 ?v3 ?_); (case v1 => walk_at "lk"); (case v2 => rfl); (case v3 => rfl))
  | (with_reducible refine' VX.i_rI0 ?_)
  | ((with_reducible refine' VX.i_rI ?v1 ?_); (case v1 => walk_at "cc"))
  | (with_reducible refine' VX.i_int ?_)
  | ((with_reducible refine' VX.i_rEqS ?v1 ?_); (case v1 => rfl))
  | ((with_reducible refine' VX.i_rNeS ?v1 ?_); (case v1 => rfl))
  | (with_reducible refine' VX.i_rEqI ?_)
  | (with_reducible refine' VX.i_rNeI ?_)
  | (with_reducible refine' VX.i_max2 ?_)
  | (with_reducible refine' VX.i_min2 ?_)
  | ((with_reducible refine' VX.i_lenL ?v1 ?_); (case v1 => walk_at "sq"))
  | ((with_reducible refine' VX.i_lenT ?v1 ?_); (case v1 => walk_at "sq"))
  | (with_reducible refine' VX.i_chain ?_)
  | (with_reducible refine' VX.i_gsub ?_)
  | (with_reducible refine' VX.i_ret ?_)
  | (with_reducible refine' VX.i_drop ?_)
  | (with_reducible refine' VX.i_next ?_)
  | (with_reducible refine' VX.i_retN ?_)
  | (with_reducible refine' VX.i_andV ?_)
  | (with_reducible refine' VX.i_orV ?_)
  | (with_reducible refine' VX.i_notV ?_)
  | (with_reducible refine' VX.i_ifE ?_)
  | (with_reducible refine' VX.i_un ?_)
  | (with_reducible refine' VX.i_rU ?_)
  | (with_reducible refine' VX.i_tup ?_)
  | (with_reducible refine' VX.i_lst ?_)
  | ((with_reducible refine' VX.i_fldv ?v1 ?v2 ?v3 ?v4 ?v5 ?_); (case v1 => rfl); (case v2 => walk_at "lk"); (case v3 => walk_at "cl"); (case v4 => walk_at "na"); (case v5 => first | rfl | assumption))
  | (with_reducible refine' VX.i_fld ?_)
  | (with_reducible refine' VX.i_sFld ?_)
  | (with_reducible refine' VX.i_mk1 ?_)
  | (with_reducible refine' VX.i_mk1v ?_)
  | (with_reducible refine' VX.i_gnil ?_)
  | (with_reducible refine' VX.i_lc ?_)
  | (with_reducible refine' VX.i_for ?_)
  | (with_reducible refine' VX.i_lstRg ?_)
  | (with_reducible refine' VX.i_rg2 ?_)
  | (with_reducible refine' VX.i_rg2v ?_)
  | (with_reducible refine' VX.i_yes ?_)
  | (with_reducible refine' VX.i_iList ?_)
  | (with_reducible refine' VX.i_iRng1 ?_)
  | (with_reducible refine' VX.i_iRng2 ?_)
  | (with_reducible refine' VX.i_iEnum ?_)
  | (with_reducible refine' VX.i_iZip ?_)
  | (with_reducible refine' VX.i_iOwn ?_)
  | ((with_reducible refine' VX.i_wipe ?v1 ?_); (case v1 => rfl))
  | (with_reducible refine' VX.i_andN ?_)
  | (with_reducible refine' VX.i_iteNDS ?_)
  | (with_reducible refine' VX.i_bm ?_)
  | ((with_reducible refine' VX.i_tyL ?v1 ?_); (case v1 => walk_at "sq"))
  | ((with_reducible refine' VX.i_append ?v1 ?v2 ?_); (case v1 => walk_at "lk"); (case v2 => (simp only [List.length_map, List.length_cons, List.length_nil, List.length_append]; omega)))
  | ((with_reducible refine' VX.i_iteDT ?v1 ?_); (case v1 => rfl))
  | ((with_reducible refine' VX.i_iteDF ?v1 ?_); (case v1 => intro h; cases h))
  | ((with_reducible refine' VX.i_isiD ?v1 ?v2 ?_); (case v1 => walk_at "dp"); (case v2 => decide))
  | ((with_reducible refine' VX.i_iteBT ?v1 ?_); (case v1 => rfl))
  | ((with_reducible refine' VX.i_iteBF ?v1 ?_); (case v1 => rfl))
  | (with_reducible refine' VX.i_gcons ?_)
  | (with_reducible refine' VX.i_dIn ?_)
  | (with_reducible refine' VX.i_dNotIn ?_)
  | (with_reducible refine' VX.i_dGet ?_)
  | (with_reducible refine' VX.i_items ?_)
  | (with_reducible refine' VX.i_keys ?_)
  | ((with_reducible refine' VX.i_gtup ?v1 ?v2 ?_); (case v1 => walk_at "sq"); (case v2 => rfl)))
local macro_rules | `(tactic| walk_at "vc") => `(tactic| repeat walk_at "vc1")

local macro_rules | `(tactic| walk_at "cl") => `(tactic| exact Txt.cl_Line (by assumption))
local macro_rules | `(tactic| walk_at "na") => `(tactic| first | exact Txt.na_Line_size (by assumption) | exact Txt.na_Line__spans (by assumption) | exact Txt.na_Line__mosts (by assumption))
section
variable {P : Program} {w : World} {K : PySem.W.Frag} {mg : Str → Option Value} {base : Heap} {A : Adr}
/-! ### the errors -/
theorem ok_NoBox_init (T : Txt K mg A) : FnOk P w K mg base CX0 1 A.f_NoBox_init A.d_NoBox_init ["self", "box"] (spX1 K "box") := by
  refine T.F_NoBox_init.ok sc_NoBox_init (fun vs H Q E h => ?_) (fun cdv A' outer s H vs Q E hr h => ?_)
  · obtain ⟨a, C, v, rfl, _⟩ := h
    rfl
  · obtain ⟨a, C, v, rfl, ho, hn, ha, q⟩ := h
    refine ⟨_, pss_one (ps_ost (pv 0) (pv 1)), ?_⟩
    refine ⟨v, rfl, .ref a, rfl, a, C, rfl, ho, hn, .inl ⟨ha, fun dx n1 n2 => ?_⟩⟩
    exact q dx n1 n2
theorem ok_NoWire_init (T : Txt K mg A) : FnOk P w K mg base CX0 1 A.f_NoWire_init A.d_NoWire_init ["self", "source", "target"] (spX2 K "source" "target") := by
  refine T.F_NoWire_init.ok sc_NoWire_init (fun vs H Q E h => ?_) (fun cdv A' outer s H vs Q E hr h => ?_)
  · obtain ⟨a, C, v, u, rfl, _⟩ := h
    rfl
  · obtain ⟨a, C, v, u, rfl, ho, hn, hm, ha, q⟩ := h
    refine ⟨_, pss_cons (ps_ost (pv 0) (pv 1)) (pss_one (ps_ost (pv 0) (pv 2))), ?_⟩
    refine ⟨v, rfl, .ref a, rfl, a, C, rfl, ho, hn, .inl ⟨ha, fun dx n1 n2 => ?_⟩⟩
    refine ⟨u, rfl, .ref a, rfl, a, C, rfl, ho, hm, .inr ⟨dx, [("source", v)], upd_same, (upd_ne n2).trans upd_same, by show 1 ≤ 900; decide, ?_⟩⟩
    have e : upd (upd (upd H dx (exd dx [("source", v)])) a (exo a C (some dx))) dx (exd dx (("target", u) :: [("source", v)])) = upd (upd H dx (exd dx [("target", u), ("source", v)])) a (exo a C (some dx)) := by
      funext b
      by_cases h1 : b = dx
      · subst h1
        rw [upd_same, upd_ne n2, upd_same]
      · rw [upd_ne h1]
        by_cases h2 : b = a
        · subst h2
          rw [upd_same, upd_same]
        · rw [upd_ne h2, upd_ne h1, upd_ne h2, upd_ne h1]
    show Q .non (upd (upd (upd H dx (exd dx [("source", v)])) a (exo a C (some dx))) dx (exd dx (("target", u) :: [("source", v)])))
    rw [e]
    exact q dx _ n1 n2 rfl rfl
/-! ### check_box, is_span -/
/-- an object with this number as its size -/
def Sized (C : Addr) (H : Hp) (x : Addr) (n : Int) : Prop := ∃ dx fs, H x = some (.ins C dx fs) ∧ List.lookup ("size" : Str) fs = some (V.int n)
def spCheck (A : Adr) : Sp := fun vs H Q E => ∃ (x : Addr) (n b : Int), vs = [.ref x, .int b] ∧ Sized A.c_Line H x n ∧ (0 ≤ b → b < n → Q .non H) ∧ ((b < 0 ∨ n ≤ b) → ∀ d H', H d = none → Same H H' → H' d = some (.xd [("box", .int b)]) → E (.ref A.c_NoBox) (some d) H')
theorem ok_check_box (T : Txt K mg A) : FnOk P w K mg base (L2.CX P w) 3 A.f_check_box A.d_check_box ["line", "box"] (spCheck A) := by
  refine T.F_check_box.okX sc_check_box (fun vs H Q E h => ?_) (fun cdv A' outer s H vs Q E hr h => ?_)
  · obtain ⟨x, n, b, rfl, _⟩ := h
    rfl
  · obtain ⟨x, n, b, rfl, ⟨dx, fs, hx, hf⟩, q1, q2⟩ := h
    refine ⟨_, (pss_one (ps_if (pt_not (pt_chain op_le op_lt pe_int (pv 1) (pe_fld (pv 0) rfl))) (pss_one (ps_raise rfl (takes_of rfl rfl rfl rfl) (pmk1 T.oex_NoBox T.ini_NoBox T.tI_NoBox T.nb_NoBox_box (ok_NoBox_init T) (hr.mono (by decide)) (b_NoBox_init T) (by rfl) T.g_NoBox (pa_cons (pv 1) pa_nil)))) pss_nil)), ?_⟩
    refine i_start (σ' := [some (V.ref x), some (.int b)]) rfl ?_
    walk_at "vc"
    refine i_iteD (fun h0 => ?_) (fun h0 => ?_)
    · walk_at "vc"
      by_cases h1 : b < n
      · rw [decide_eq_true h1]
        walk_at "vc"
        exact q1 h0 h1
      · rw [decide_eq_false h1]
        walk_at "vc"
        exact q2 (by omega)
    · walk_at "vc"
      exact q2 (by omega)
def spSpan : Sp := fun vs H Q _ => ∃ (lo : Int) (hi : Option Int), vs = [.int lo, oV hi] ∧ 1 ≤ lo ∧ (∀ h, hi = some h → lo ≤ h) ∧ Q (.bl true) H
theorem ok_is_span (T : Txt K mg A) : FnOk P w K mg base CX0 1 A.f_is_span A.d_is_span ["low", "high"] spSpan := by
  refine T.F_is_span.ok sc_is_span (fun vs H Q E h => ?_) (fun cdv A' outer s H vs Q E hr h => ?_)
  · obtain ⟨lo, hi, rfl, _⟩ := h
    rfl
  · obtain ⟨lo, hi, rfl, h1, h2, q⟩ := h
    refine ⟨_, (pss_one (ps_ret (pe_and (pe_cmpR op_ge (pv 0) pe_int (nomark _)) (pe_one (pe_or (pe_cmpR op_isN (pv 1) pe_non (nomark _)) (pe_one (pe_cmpR op_ge (pv 1) (pv 0) (nomark _)))))))), ?_⟩
    cases hi with
    | none =>
      refine i_start (σ' := [some (V.int lo), some V.non]) rfl ?_
      walk_at "vc"
      refine i_iteDT h1 ?_
      walk_at "vc"
      exact q
    | some h =>
      have h2 := h2 h rfl
      refine i_start (σ' := [some (V.int lo), some (V.int h)]) rfl ?_
      walk_at "vc"
      refine i_iteDT h1 ?_
      walk_at "vc"
      rw [decide_eq_true (show h ≥ lo from h2)]
      exact q
end
end K03
set_option maxRecDepth 100000
set_option maxHeartbeats 1000000
namespace K03
open PySem PySem.Spec PyProof.Rows L2 VX
local macro_rules | `(tactic| walk_at "ne") => `(tactic| first
  | assumption
  | exact Ne.symm (by assumption)
  | exact ne_of_none (by assumption) (by assumption)
  | exact Ne.symm (ne_of_none (by assumption) (by assumption))
  | ((with_reducible refine' ne_of_none ?n1 ?n2); (case n2 => assumption); (case n1 => walk_at "lk"))
  | ((with_reducible refine' Ne.symm (ne_of_none ?n1 ?n2)); (case n2 => assumption); (case n1 => walk_at "lk")))
local macro_rules | `(tactic| walk_at "lk") => `(tactic| first
  | assumption
  | (with_reducible exact upd_same)
  | ((with_reducible refine' (upd_ne ?nn).trans ?ll); (case nn => walk_at "ne"); (case ll => walk_at "lk"))
  | ((with_reducible refine' VX.same_at ?nn ?ll); (case nn => assumption); (case ll => walk_at "lk")))
local macro_rules | `(tactic| walk_at "dp") => `(tactic| first
  | assumption
  | (with_reducible exact Dp.non)
  | (with_reducible exact Dp.bl _)
  | (with_reducible exact Dp.int _)
  | (with_reducible exact Dp.str _)
  | ((with_reducible refine' VX.Dp.mono' ?dd (same_new ?nn)); (case nn => assumption); (case dd => walk_at "dp"))
  | ((with_reducible refine' VX.Dp.mono' ?dd ?nn); (case nn => assumption); (case dd => walk_at "dp")))
local macro_rules | `(tactic| walk_at "sq") => `(tactic| first
  | assumption
  | (with_reducible exact SqL.of (by assumption))
  | (with_reducible exact SqT.of (by assumption))
  | ((with_reducible refine' Same.seq (same_new ?nn) ?qq); (case nn => assumption); (case qq => walk_at "sq"))
  | ((with_reducible refine' same_sqT (same_new ?nn) ?qq); (case nn => assumption); (case qq => walk_at "sq"))
  | ((with_reducible refine' Same.seq ?nn ?qq); (case nn => assumption); (case qq => walk_at "sq"))
  | ((with_reducible refine' same_sqT ?nn ?qq); (case nn => assumption); (case qq => walk_at "sq"))
  | ((with_reducible refine' SqL.of ?qq); (case qq => walk_at "lk"))
  | ((with_reducible refine' SqT.of ?qq); (case qq => walk_at "lk")))
local macro_rules | `(tactic| walk_at "cc") => `(tactic| first
  | exact ⟨by decide, by decide, by decide⟩
  | (show _ ≠ _; omega)
  | exact ⟨by omega, by omega⟩
  | exact Or.inl ⟨by omega, by omega⟩
  | exact Or.inr ⟨by omega, by omega⟩)
local macro_rules | `(tactic| walk_at "vcA") => `(tactic| repeat (first
  | ((with_reducible refine' VX.i_modA ?v1 ?_); (case v1 => omega); intro r hr0 hr1)
  | ((with_reducible refine' VX.i_divA ?v1 ?v2 ?_); (case v1 => omega); (case v2 => omega); intro r hr0 hr1)
  | walk_at "vc1"))
local macro_rules | `(tactic| walk_at "vc1") => `(tactic| first
  | ((with_reducible refine' VX.i_var ?v1 ?_); (case v1 => rfl))
  | (with_reducible refine' VX.i_c ?_)
  | (with_reducible refine' VX.i_op ?_)
  | (with_reducible refine' VX.i_cons ?_)
  | (with_reducible refine' VX.i_nil ?_)
  | (with_reducible refine' VX.i_seq ?_)
  | (with_reducible refine' VX.i_asg ?_)
  | ((with_reducible refine' VX.i_gname ?v2 ?_); (case v2 => (first | (simp only [List.set_cons_zero, List.set_cons_succ]; done) | (simp only [List.set_cons_zero, List.set_cons_succ]; exact rfl) | exact rfl)))
  | (with_reducible refine' VX.i_ifS ?_)
  | (with_reducible refine' VX.i_test ?_)
  | (with_reducible refine' VX.i_tB ?_)
  | (with_reducible refine' VX.i_bl ?_)
  | (with_reducible refine' VX.i_iteT ?_)
  | (with_reducible refine' VX.i_iteF ?_)
  | (with_reducible refine' VX.i_iteNT ?_)
  | (with_reducible refine' VX.i_iteNF ?_)
  | (with_reducible refine' VX.i_and ?_)
  | (with_reducible refine' VX.i_or ?_)
  | (with_reducible refine' VX.i_not ?_)
  | (with_reducible refine' VX.i_call ?_)
  | (with_reducible refine' VX.i_CB ?_)
  | (with_reducible refine' VX.i_make ?_)
  | (with_reducible refine' VX.i_makeK0 ?_)
  | (with_reducible refine' VX.i_mthK ?_)
  | (with_reducible refine' VX.i_mthS ?_)
  | (with_reducible refine' VX.i_meth ?_)
  | ((with_reducible refine' VX.i_ixL ?v1 ?v2 ?_); (case v1 => walk_at "sq"); (case v2 => first | rfl | assumption))
  | ((with_reducible refine' VX.i_ixT ?v1 ?v2 ?_); (case v1 => walk_at "sq"); (case v2 => first | rfl | assumption))
  | ((with_reducible refine' VX.i_setLU ?v2 ?v3 ?_); (case v2 => rfl); (case v3 => rfl))
  | ((with_reducible refine' VX.i_setL ?v1 ?v2 ?v3 ?_); (case v1 => walk_at "lk"); (case v2 => rfl); (case v3 => rfl))
  | (with_reducible refine' VX.i_rI0 ?_)
  | ((with_reducible refine' VX.i_rI ?v1 ?_); (case v1 => walk_at "cc"))
  | (with_reducible refine' VX.i_int ?_)
  | ((with_reducible refine' VX.i_rEqS ?v1 ?_); (case v1 => rfl))
  | ((with_reducible refine' VX.i_rNeS ?v1 ?_); (case v1 => rfl))
  | (with_reducible refine' VX.i_rEqI ?_)
  | (with_reducible refine' VX.i_rNeI ?_)
  | (with_reducible refine' VX.i_max2 ?_)
  | (with_reducible refine' VX.i_min2 ?_)
  | ((with_reducible refine' VX.i_lenL ?v1 ?_); (case v1 => walk_at "sq"))
  | ((with_reducible refine' VX.i_lenT ?v1 ?_); (case v1 => walk_at "sq"))
  | (with_reducible refine' VX.i_chain ?_)
  | (with_reducible refine' VX.i_gsub ?_)
  | (with_reducible refine' VX.i_ret ?_)
  | (with_reducible refine' VX.i_drop ?_)
  | (with_reducible refine' VX.i_next ?_)
  | (with_reducible refine' VX.i_retN ?_)
  | (with_reducible refine' VX.i_andV ?_)
  | (with_reducible refine' VX.i_orV ?_)
  | (with_reducible refine' VX.i_notV ?_)
  | (with_reducible refine' VX.i_ifE ?_)
  | (with_reducible refine' VX.i_un ?_)
  | (with_reducible refine' VX.i_rU ?_)
  | (with_reducible refine' VX.i_tup ?_)
  | (with_reducible refine' VX.i_lst ?_)
  | ((with_reducible refine' VX.i_fldv ?v1 ?v2 ?v3 ?v4 ?v5 ?_); (case v1 => rfl); (case v2 => walk_at "lk"); (case v3 => walk_at "cl"); (case v4 => walk_at "na"); (case v5 => first | rfl | assumption))
  | (with_reducible refine' VX.i_fld ?_)
  | (with_reducible refine' VX.i_sFld ?_)
  | (with_reducible refine' VX.i_mk1 ?_)
  | (with_reducible refine' VX.i_mk1v ?_)
  | (with_reducible refine' VX.i_gnil ?_)
  | (with_reducible refine' VX.i_lc ?_)
  | (with_reducible refine' VX.i_for ?_)
  | (with_reducible refine' VX.i_lstRg ?_)
  | (with_reducible refine' VX.i_rg2 ?_)
  | (with_reducible refine' VX.i_rg2v ?_)
  | (with_reducible refine' VX.i_yes ?_)
  | (with_reducible refine' VX.i_iList ?_)
  | (with_reducible refine' VX.i_iRng1 ?_)
  | (with_reducible refine' VX.i_iRng2 ?_)
  | (with_reducible refine' VX.i_iEnum ?_)
  | (with_reducible refine' VX.i_iZip ?_)
  | (with_reducible refine' VX.i_iOwn ?_)
  | ((with_reducible refine' VX.i_wipe ?v1 ?_); (case v1 => rfl))
  | (with_reducible refine' VX.i_andN ?_)
  | (with_reducible refine' VX.i_iteNDS ?_)
  | (with_reducible refine' VX.i_bm ?_)
  | ((with_reducible refine' VX.i_tyL ?v1 ?_); (case v1 => walk_at "sq"))
  | ((with_reducible refine' VX.i_append ?v1 ?v2 ?_); (case v1 => walk_at "lk"); (case v2 => (simp only [List.length_map, List.length_cons, List.length_nil, List.length_append]; omega)))
  | ((with_reducible refine' VX.i_iteDT ?v1 ?_); (case v1 => rfl))
  | ((with_reducible refine' VX.i_iteDF ?v1 ?_); (case v1 => intro h; cases h))
  | ((with_reducible refine' VX.i_isiD ?v1 ?v2 ?_); (case v1 => walk_at "dp"); (case v2 => decide))
  | ((with_reducible refine' VX.i_iteBT ?v1 ?_); (case v1 => rfl))
  | ((with_reducible refine' VX.i_iteBF ?v1 ?_); (case v1 => rfl))
  | (with_reducible refine' VX.i_gcons ?_)
  | (with_reducible refine' VX.i_dIn ?_)
  | (with_reducible refine' VX.i_dNotIn ?_)
  | (with_reducible refine' VX.i_dGet ?_)
  | (with_reducible refine' VX.i_items ?_)
  | (with_reducible refine' VX.i_keys ?_)
  | ((with_reducible refine' VX.i_gtup ?v1 ?v2 ?_); (case v1 => walk_at "sq"); (case v2 => rfl)))
local macro_rules | `(tactic| walk_at "vc") => `(tactic| repeat walk_at "vc1")

local macro_rules | `(tactic| walk_at "cl") => `(tactic| exact Txt.cl_Line (by assumption))
local macro_rules | `(tactic| walk_at "na") => `(tactic| first | exact Txt.na_Line_size (by assumption) | exact Txt.na_Line__spans (by assumption) | exact Txt.na_Line__mosts (by assumption))
/-- the value of a wire's entry: the pair (low, high) -/
def Pw (H : Hp) (v : V) (w : W4) : Prop := ∃ q, v = .ref q ∧ H q = some (.tup [.int w.lo, oV w.hi])
theorem Pw.mono : ∀ (H H' : Hp) (v : V) (w : W4), Same H H' → Pw H v w → Pw H' v w := fun _ _ _ _ e ⟨q, h1, h2⟩ => ⟨q, h1, e _ _ h2⟩
def Pb (_ : Hp) (v : V) (b : B3) : Prop := v = .int b.m
theorem Pb.mono : ∀ (H H' : Hp) (v : V) (b : B3), Same H H' → Pb H v b → Pb H' v b := fun _ _ _ _ _ h => h
theorem Sized.mono {C : Addr} {H H' : Hp} {x : Addr} {n : Int} (h : Sized C H x n) (e : Same H H') : Sized C H' x n := let ⟨dx, fs, h1, h2⟩ := h; ⟨dx, fs, e _ _ h1, h2⟩
theorem nd_take {α β : Type} {k : α → β} {rs : List α} (nd : (rs.map k).Nodup) {i : Nat} {r : α} (hr : rs[i]? = some r) : k r ∉ (rs.take i).map k := fun hm => by
  rw [List.map_take] at hm
  obtain ⟨l, hl⟩ := List.mem_iff_getElem?.mp hm
  rw [List.getElem?_take] at hl
  by_cases h : l < i
  · rw [if_pos h] at hl
    have hi : (rs.map k)[i]? = some (k r) := by rw [List.getElem?_map, hr]; rfl
    have := (List.getElem?_inj (List.getElem?_eq_some_iff.mp hl).1 nd).mp (hl.trans hi.symm)
    omega
  · rw [if_neg h] at hl
    cases hl
section
variable {P : Program} {w : World} {K : PySem.W.Frag} {mg : Str → Option Value} {base : Heap} {A : Adr}
theorem i_check {H : Hp} {Q : VK} {x : Addr} {n b : Int} (h : Sized A.c_Line H x n) (h0 : 0 ≤ b) (h1 : b < n) (q : Q .non H) : spCheck A [.ref x, .int b] H Q E0 := ⟨x, n, b, rfl, h, fun _ _ => q, fun h => absurd h (by omega)⟩
def spSpans (A : Adr) (K : PySem.W.Frag) : Sp := fun vs H Q _ => ∃ (x a : Addr) (n m : Int) (xs : List V) (ws : List W4), vs = [.ref x, .ref a] ∧ Sized A.c_Line H x n ∧ SqA K H a xs ∧ DpAll K H xs (ws.map W4.d) ∧ WOk n m ws ∧ ws.length ≤ 100 ∧
  ∀ D H' js us, us.Perm ws → us.Pairwise (fun x y => lexL y.k x.k = false) → Same H H' → H D = none → H' D = some (.dT js) → KVs W4.k Pw H' js us → Q (.ref D) H'
theorem ok_spans_by_wire (T : Txt K mg A) : FnOk P w K mg base CX0 4 A.f_spans_by_wire A.d_spans_by_wire ["line", "wires"] (spSpans A K) := by
  refine T.F_spans_by_wire.ok sc_spans_by_wire (fun vs H Q E h => ?_) (fun cdv A' outer s H vs Q E hr h => ?_)
  · obtain ⟨x, a, n, m, xs, ws, rfl, _⟩ := h
    rfl
  · obtain ⟨x, a, n, m, xs, ws, rfl, hx, hs, ha, hw, hz, q⟩ := h
    have lx : xs.length = ws.length := by rw [dpa_len ha, List.length_map]
    refine ⟨_, (pss_cons (ps_set (i := 2) sc_spans_by_wire.nd rfl (Or.inr rfl) pe_dnewT)
      (pss_cons (ps_for PassesOwn.never rfl (pi_seq (pv 1)) (pg_tup rfl (pgs_cons (pg_name (i := 3) sc_spans_by_wire.nd rfl (Or.inl rfl)) (pgs_cons (pg_name (i := 4) sc_spans_by_wire.nd rfl (Or.inl rfl)) (pgs_cons (pg_name (i := 5) sc_spans_by_wire.nd rfl (Or.inl rfl)) (pgs_cons (pg_name (i := 6) sc_spans_by_wire.nd rfl (Or.inl rfl)) pgs_nil)))))
      (pss_cons (ps_expr (pe_call (ok_check_box T) (hr.mono (by decide)) (by rfl) T.g_check_box T.F_check_box.kp (b_check_box T) .nil passF (pa_cons (pv 0) (pa_cons (pv 3) pa_nil))))
      (pss_cons (ps_expr (pe_call (ok_check_box T) (hr.mono (by decide)) (by rfl) T.g_check_box T.F_check_box.kp (b_check_box T) .nil passF (pa_cons (pv 0) (pa_cons (pv 4) pa_nil))))
      (pss_cons (ps_if (PW.pt (pw_or (pt_cmpR op_eq (pv 3) (pv 4) (nomark _)) (pw_or (pt_not (pt_val (pe_call (ok_is_span T) (hr.mono (by decide)) (by rfl) T.g_is_span T.F_is_span.kp (b_is_span T) .nil pass0 (pa_cons (pv 5) (pa_cons (pv 6) pa_nil))))) (pw_or1 (pt_cmp (pc_din (hu_of hr) (pe_tup (pa_cons (pv 3) (pa_cons (pv 4) pa_nil))) (pv 2))))))) (pss_one ps_never) pss_nil)
      (pss_one (ps_asg (pe_tup (pa_cons (pv 5) (pa_cons (pv 6) pa_nil))) (pg_sub (pv 2) (pe_tup (pa_cons (pv 3) (pa_cons (pv 4) pa_nil))) (set_dict (hu_of hr)))))))))
      (pss_one (ps_ret (pe_dcT (own := [("pair", 7)]) (g := gName 7) (tt := tYes) (Nat.lt_of_succ_lt (hu_of hr)) (by rfl) sc_spans_by_wire.nd (pi_list (pe_callB (cr_sortDT (d := 2) (by decide) rfl) (by rfl) T.n_sorted (by decide +kernel) (pa_cons (pv 2) pa_nil))) (blkOk_by (N := N_spans_by_wire) (sc := defScope s_spans_by_wire) (by decide +kernel)) (fun _ _ _ _ _ => (pg_name (i := 7) sc_spans_by_wire.nd rfl (Or.inl rfl))) (fun _ _ _ _ _ => pts_nil) (fun _ _ _ _ _ => (pv 7)) (fun _ _ _ _ _ => (pe_dget (hu_of hr) (pv 2) (pv 7) (fun _ _ => rfl)))))))), ?_⟩
    refine i_start (σ' := [some (V.ref x), some (.ref a), none, none, none, none, none, none]) rfl ?_
    walk_at "vc"
    refine i_dNew fun D0 n0 => ?_
    walk_at "vc"
    refine i_seqV (K := K) rfl (same_new n0) hs fun J G wk hG => ?_
    have c0 := (Cxs.start H).push (.dT []) n0
    have e0 := same_new (o := HO.dT []) n0
    refine for_it wk (fun i σ' H' => ∃ y3 y4 y5 y6 F js, σ' = [some (V.ref x), some (.ref a), some (.ref D0), y3, y4, y5, y6, none] ∧ Same H F ∧ Cxs F [(D0, .dT js)] H' ∧ KVs W4.k Pw F js (ws.take i))
      ⟨_, _, _, _, H, [], rfl, Same.refl _, c0, .nil⟩ (fun i σ' H' _ pv => ?_) (fun i y σ' H' H'' hi pv hy => ?_) fun σ' H' pv => ?_
    · obtain ⟨y3, y4, y5, y6, F, js, rfl, e, c, hj⟩ := pv
      exact hG _ (e.trans c.e)
    · obtain ⟨y3, y4, y5, y6, F, js, rfl, e, c, hj⟩ := pv
      obtain ⟨rfl, hv⟩ := hy
      have hi' : i < ws.length := by omega
      have hwi : ws[i]? = some ws[i] := List.getElem?_eq_getElem hi'
      have hwok := hw.w ws[i] (List.getElem_mem hi')
      have hnot := nd_take hw.nd hwi
      obtain ⟨v', hv', dv⟩ := dpa_get (i := i) (d := ws[i].d) ha (by rw [List.getElem?_map, hwi]; rfl)
      rw [hv] at hv'
      cases hv'
      obtain ⟨t, rfl, ht⟩ := dp_w4 dv
      have ht := same_sqT (e.trans c.e) ht
      have ljs : js.length ≤ i := by rw [hj.len, List.length_take]; omega
      have st : ws.take (i + 1) = ws.take i ++ [ws[i]] := by
        rw [List.take_add_one, hwi]
        rfl
      generalize ws[i] = w4 at ht hwok hwi hnot st
      obtain ⟨ws_, wt_, wl_, wh_⟩ := w4
      have hx' := hx.mono (e.trans c.e)
      have ht : SqT K _ t [.int ws_, .int wt_, .int wl_, oV wh_] := ht
      refine i_gtup ht rfl ?_
      walk_at "vc"
      refine i_check hx' hwok.s0 hwok.s1 ?_
      walk_at "vc"
      refine i_check hx' hwok.t0 hwok.t1 ?_
      walk_at "vc"
      refine i_iteDF hwok.ne ?_
      walk_at "vc"
      refine ⟨wl_, wh_, rfl, hwok.l0, fun h e => (hwok.h h e).1, ?_⟩
      walk_at "vc"
      refine ⟨lenB rfl, fun T1 n1 => ?_⟩
      walk_at "vc"
      have c1 := c.new (.tup [.int ws_, .int wt_]) n1
      refine ⟨D0, none, rfl, dget_in (n := [ws_, wt_]) (c1.at 0 rfl) upd_same (hj.miss hnot), ?_⟩
      walk_at "vc"
      refine ⟨lenB rfl, fun T2 n2 => ?_⟩
      walk_at "vc"
      refine ⟨lenB rfl, fun T3 n3 => ?_⟩
      walk_at "vc"
      have c2 := c1.new (.tup [.int wl_, oV wh_]) n2
      have c3 := c2.new (.tup [.int ws_, .int wt_]) n3
      have e1 : Same F (upd (upd (upd F T1 (.tup [.int ws_, .int wt_])) T2 (.tup [.int wl_, oV wh_])) T3 (.tup [.int ws_, .int wt_])) := (c.sub n1).trans ((c1.sub n2).trans (c2.sub n3))
      refine i_setD (n := [ws_, wt_]) (c3.at 0 rfl) upd_same (by omega) ?_
      walk_at "vc"
      refine ⟨_, _, _, _, _, _, rfl, e.trans e1, c3.turn 0 rfl _, ?_⟩
      rw [st]
      refine (hj.mono Pw.mono e1).put (r := ⟨ws_, wt_, wl_, wh_⟩) hnot ⟨T2, rfl, ?_⟩
      exact same_new (c2.newF n3) _ _ upd_same
    · obtain ⟨y3, y4, y5, y6, F, js, rfl, e, c, hj⟩ := pv
      rw [List.take_of_length_le (by omega)] at hj
      walk_at "vc"
      refine i_dsort (k := W4.k) (P := Pw) (K := K) (i := 2) (j := 7) (d := 2) Pw.mono (c.at 0 rfl) (hj.mono Pw.mono c.e) (fun r _ => rfl) hw.nd (by rw [hj.len]; omega) rfl (fun _ => rfl) (fun _ => rfl) (fun _ => rfl) fun D H2 ks us pu pw e2 nD hD hk => ?_
      exact q D H2 ks us pu pw (e.trans (c.e.trans e2)) ((e.trans c.e).free nD) hD hk
end
end K03
set_option maxRecDepth 100000
set_option maxHeartbeats 1000000
namespace K03
open PySem PySem.Spec PyProof.Rows L2 VX
local macro_rules | `(tactic| walk_at "ne") => `(tactic| first
  | assumption
  | exact Ne.symm (by assumption)
  | exact ne_of_none (by assumption) (by assumption)
  | exact Ne.symm (ne_of_none (by assumption) (by assumption))
  | ((with_reducible refine' ne_of_none ?n1 ?n2); (case n2 => assumption); (case n1 => walk_at "lk"))
  | ((with_reducible refine' Ne.symm (ne_of_none ?n1 ?n2)); (case n2 => assumption); (case n1 => walk_at "lk")))
local macro_rules | `(tactic| walk_at "lk") => `(tactic| first
  | assumption
  | (with_reducible exact upd_same)
  | ((with_reducible refine' (upd_ne ?nn).trans ?ll); (case nn => walk_at "ne"); (case ll => walk_at "lk"))
  | ((with_reducible refine' VX.same_at ?nn ?ll); (case nn => assumption); (case ll => walk_at "lk")))
local macro_rules | `(tactic| walk_at "dp") => `(tactic| first
  | assumption
  | (with_reducible exact Dp.non)
  | (with_reducible exact Dp.bl _)
  | (with_reducible exact Dp.int _)
  | (with_reducible exact Dp.str _)
  | ((with_reducible refine' VX.Dp.mono' ?dd (same_new ?nn)); (case nn => assumption); (case dd => walk_at "dp"))
  | ((with_reducible refine' VX.Dp.mono' ?dd ?nn); (case nn => assumption); (case dd => walk_at "dp")))
local macro_rules | `(tactic| walk_at "sq") => `(tactic| first
  | assumption
  | (with_reducible exact SqL.of (by assumption))
  | (with_reducible exact SqT.of (by assumption))
  | ((with_reducible refine' Same.seq (same_new ?nn) ?qq); (case nn => assumption); (case qq => walk_at "sq"))
  | ((with_reducible refine' same_sqT (same_new ?nn) ?qq); (case nn => assumption); (case qq => walk_at "sq"))
  | ((with_reducible refine' Same.seq ?nn ?qq); (case nn => assumption); (case qq => walk_at "sq"))
  | ((with_reducible refine' same_sqT ?nn ?qq); (case nn => assumption); (case qq => walk_at "sq"))
  | ((with_reducible refine' SqL.of ?qq); (case qq => walk_at "lk"))
  | ((with_reducible refine' SqT.of ?qq); (case qq => walk_at "lk")))
local macro_rules | `(tactic| walk_at "cc") => `(tactic| first
  | exact ⟨by decide, by decide, by decide⟩
  | (show _ ≠ _; omega)
  | exact ⟨by omega, by omega⟩
  | exact Or.inl ⟨by omega, by omega⟩
  | exact Or.inr ⟨by omega, by omega⟩)
local macro_rules | `(tactic| walk_at "vcA") => `(tactic| repeat (first
  | ((with_reducible refine' VX.i_modA ?v1 ?_); (case v1 => omega); intro r hr0 hr1)
  | ((with_reducible refine' VX.i_divA ?v1 ?v2 ?_); (case v1 => omega); (case v2 => omega); intro r hr0 hr1)
  | walk_at "vc1"))
local macro_rules | `(tactic| walk_at "vc1") => `(tactic| first
  | ((with_reducible refine' VX.i_var ?v1 ?_); (case v1 => rfl))
  | (with_reducible refine' VX.i_c ?_)
  | (with_reducible refine' VX.i_op ?_)
  | (with_reducible refine' VX.i_cons ?_)
  | (with_reducible refine' VX.i_nil ?_)
  | (with_reducible refine' VX.i_seq ?_)
  | (with_reducible refine' VX.i_asg ?_)
  | ((with_reducible refine' VX.i_gname ?v2 ?_); (case v2 => (first | (simp only [List.set_cons_zero, List.set_cons_succ]; done) | (simp only [List.set_cons_zero, List.set_cons_succ]; exact rfl) | exact rfl)))
  | (with_reducible refine' VX.i_ifS ?_)
  | (with_reducible refine' VX.i_test ?_)
  | (with_reducible refine' VX.i_tB ?_)
  | (with_reducible refine' VX.i_bl ?_)
  | (with_reducible refine' VX.i_iteT ?_)
  | (with_reducible refine' VX.i_iteF ?_)
  | (with_reducible refine' VX.i_iteNT ?_)
  | (with_reducible refine' VX.i_iteNF ?_)
  | (with_reducible refine' VX.i_and ?_)
  | (with_reducible refine' VX.i_or ?_)
  | (with_reducible refine' VX.i_not ?_)
  | (with_reducible refine' VX.i_call ?_)
  | (with_reducible refine' VX.i_CB ?_)
  | (with_reducible refine' VX.i_make ?_)
  | (with_reducible refine' VX.i_makeK0 ?_)
  | (with_reducible refine' VX.i_mthK ?_)
  | (with_reducible refine' VX.i_mthS ?_)
  | (with_reducible refine' VX.i_meth ?_)
  | ((with_reducible refine' VX.i_ixL ?v1 ?v2 ?_); (case v1 => walk_at "sq"); (case v2 => first | rfl | assumption))
  | ((with_reducible refine' VX.i_ixT ?v1 ?v2 ?_); (case v1 => walk_at "sq"); (case v2 => first | rfl | assumption))
  | ((with_reducible refine' VX.i_setLU ?v2 ?v3 ?_); (case v2 => rfl); (case v3 => rfl))
  | ((with_reducible refine' VX.i_setL ?v1 ?v2 ?v3 ?_); (case v1 => walk_at "lk"); (case v2 => rfl); (case v3 => rfl))
  | (with_reducible refine' VX.i_rI0 ?_)
  | ((with_reducible refine' VX.i_rI ?v1 ?_); (case v1 => walk_at "cc"))
  | (with_reducible refine' VX.i_int ?_)
  | ((with_reducible refine' VX.i_rEqS ?v1 ?_); (case v1 => rfl))
  | ((with_reducible refine' VX.i_rNeS ?v1 ?_); (case v1 => rfl))
  | (with_reducible refine' VX.i_rEqI ?_)
  | (with_reducible refine' VX.i_rNeI ?_)
  | (with_reducible refine' VX.i_max2 ?_)
  | (with_reducible refine' VX.i_min2 ?_)
  | ((with_reducible refine' VX.i_lenL ?v1 ?_); (case v1 => walk_at "sq"))
  | ((with_reducible refine' VX.i_lenT ?v1 ?_); (case v1 => walk_at "sq"))
  | (with_reducible refine' VX.i_chain ?_)
  | (with_reducible refine' VX.i_gsub ?_)
  | (with_reducible refine' VX.i_ret ?_)
  | (with_reducible refine' VX.i_drop ?_)
  | (with_reducible refine' VX.i_next ?_)
  | (with_reducible refine' VX.i_retN ?_)
  | (with_reducible refine' VX.i_andV ?_)
  | (with_reducible refine' VX.i_orV ?_)
  | (with_reducible refine' VX.i_notV ?_)
  | (with_reducible refine' VX.i_ifE ?_)
  | (with_reducible refine' VX.i_un ?_)
  | (with_reducible refine' VX.i_rU ?_)
  | (with_reducible refine' VX.i_tup ?_)
  | (with_reducible refine' VX.i_lst ?_)
  | ((with_reducible refine' VX.i_fldv ?v1 ?v2 ?v3 ?v4 ?v5 ?_); (case v1 => rfl); (case v2 => walk_at "lk"); (case v3 => walk_at "cl"); (case v4 => walk_at "na"); (case v5 => first | rfl | assumption))
  | (with_reducible refine' VX.i_fld ?_)
  | (with_reducible refine' VX.i_sFld ?_)
  | (with_reducible refine' VX.i_mk1 ?_)
  | (with_reducible refine' VX.i_mk1v ?_)
  | (with_reducible refine' VX.i_gnil ?_)
  | (with_reducible refine' VX.i_lc ?_)
  | (with_reducible refine' VX.i_for ?_)
  | (with_reducible refine' VX.i_lstRg ?_)
  | (with_reducible refine' VX.i_rg2 ?_)
  | (with_reducible refine' VX.i_rg2v ?_)
  | (with_reducible refine' VX.i_yes ?_)
  | (with_reducible refine' VX.i_iList ?_)
  | (with_reducible refine' VX.i_iRng1 ?_)
  | (with_reducible refine' VX.i_iRng2 ?_)
  | (with_reducible refine' VX.i_iEnum ?_)
  | (with_reducible refine' VX.i_iZip ?_)
  | (with_reducible refine' VX.i_iOwn ?_)
  | ((with_reducible refine' VX.i_wipe ?v1 ?_); (case v1 => rfl))
  | (with_reducible refine' VX.i_andN ?_)
  | (with_reducible refine' VX.i_iteNDS ?_)
  | (with_reducible refine' VX.i_bm ?_)
  | ((with_reducible refine' VX.i_tyL ?v1 ?_); (case v1 => walk_at "sq"))
  | ((with_reducible refine' VX.i_append ?v1 ?v2 ?_); (case v1 => walk_at "lk"); (case v2 => (simp only [List.length_map, List.length_cons, List.length_nil, List.length_append]; omega)))
  | ((with_reducible refine' VX.i_iteDT ?v1 ?_); (case v1 => rfl))
  | ((with_reducible refine' VX.i_iteDF ?v1 ?_); (case v1 => intro h; cases h))
  | ((with_reducible refine' VX.i_isiD ?v1 ?v2 ?_); (case v1 => walk_at "dp"); (case v2 => decide))
  | ((with_reducible refine' VX.i_iteBT ?v1 ?_); (case v1 => rfl))
  | ((with_reducible refine' VX.i_iteBF ?v1 ?_); (case v1 => rfl))
  | (with_reducible refine' VX.i_gcons ?_)
  | (with_reducible refine' VX.i_dIn ?_)
  | (with_reducible refine' VX.i_dNotIn ?_)
  | (with_reducible refine' VX.i_dGet ?_)
  | (with_reducible refine' VX.i_items ?_)
  | (with_reducible refine' VX.i_keys ?_)
  | ((with_reducible refine' VX.i_gtup ?v1 ?v2 ?_); (case v1 => walk_at "sq"); (case v2 => rfl)))
local macro_rules | `(tactic| walk_at "vc") => `(tactic| repeat walk_at "vc1")

local macro_rules | `(tactic| walk_at "cl") => `(tactic| exact Txt.cl_Line (by assumption))
local macro_rules | `(tactic| walk_at "na") => `(tactic| first | exact Txt.na_Line_size (by assumption) | exact Txt.na_Line__spans (by assumption) | exact Txt.na_Line__mosts (by assumption))
/-- a line with these wires and bounds, in order -/
def IsLine (C : Addr) (H : Hp) (x : Addr) (n : Int) (us : List W4) (cs : List B3) : Prop := ∃ dx d1 d2 js ms, H x = some (.ins C dx [("size", .int n), ("_spans", .ref d1), ("_mosts", .ref d2)]) ∧ H d1 = some (.dT js) ∧ H d2 = some (.dT ms) ∧ KVs W4.k Pw H js us ∧ KVs B3.k Pb H ms cs
theorem IsLine.mono {C : Addr} {H H' : Hp} {x : Addr} {n : Int} {us : List W4} {cs : List B3} (h : IsLine C H x n us cs) (e : Same H H') : IsLine C H' x n us cs :=
  let ⟨dx, d1, d2, js, ms, h1, h2, h3, h4, h5⟩ := h
  ⟨dx, d1, d2, js, ms, e _ _ h1, e _ _ h2, e _ _ h3, h4.mono Pw.mono e, h5.mono Pb.mono e⟩
theorem IsLine.sized {C : Addr} {H : Hp} {x : Addr} {n : Int} {us : List W4} {cs : List B3} (h : IsLine C H x n us cs) : Sized C H x n :=
  let ⟨dx, d1, d2, js, ms, h1, _⟩ := h
  ⟨dx, _, h1, rfl⟩
theorem Pw.cut {H : Hp} {v : V} {w : W4} {x : Addr} {C dx : Addr} {fs : List (Str × V)} (h : Pw H v w) (hx : H x = some (.ins C dx fs)) : Pw (del H x) v w := by
  obtain ⟨q, h1, h2⟩ := h
  refine ⟨q, h1, del_of h2 fun e => ?_⟩
  rw [e, hx] at h2
  cases h2
section
variable {P : Program} {w : World} {K : PySem.W.Frag} {mg : Str → Option Value} {base : Heap} {A : Adr}
def spMosts (A : Adr) (K : PySem.W.Frag) : Sp := fun vs H Q _ => ∃ (x a : Addr) (n m : Int) (xs : List V) (bs : List B3), vs = [.ref x, .ref a] ∧ Sized A.c_Line H x n ∧ SqA K H a xs ∧ DpAll K H xs (bs.map B3.d) ∧ BOk n m bs ∧ bs.length ≤ 100 ∧
  ∀ D H' js us, us.Perm bs → us.Pairwise (fun x y => lexL y.k x.k = false) → Same H H' → H D = none → H' D = some (.dT js) → KVs B3.k Pb H' js us → Q (.ref D) H'
theorem ok_mosts_by_pair (T : Txt K mg A) : FnOk P w K mg base CX0 4 A.f_mosts_by_pair A.d_mosts_by_pair ["line", "bounds"] (spMosts A K) := by
  refine T.F_mosts_by_pair.ok sc_mosts_by_pair (fun vs H Q E h => ?_) (fun cdv A' outer s H vs Q E hr h => ?_)
  · obtain ⟨x, a, n, m, xs, bs, rfl, _⟩ := h
    rfl
  · obtain ⟨x, a, n, m, xs, bs, rfl, hx, hs, ha, hb, hz, q⟩ := h
    have lx : xs.length = bs.length := by rw [dpa_len ha, List.length_map]
    refine ⟨_, (pss_cons (ps_set (i := 2) sc_mosts_by_pair.nd rfl (Or.inr rfl) pe_dnewT)
      (pss_cons (ps_for PassesOwn.never rfl (pi_seq (pv 1)) (pg_tup rfl (pgs_cons (pg_name (i := 3) sc_mosts_by_pair.nd rfl (Or.inl rfl)) (pgs_cons (pg_name (i := 4) sc_mosts_by_pair.nd rfl (Or.inl rfl)) (pgs_cons (pg_name (i := 5) sc_mosts_by_pair.nd rfl (Or.inl rfl)) pgs_nil))))
      (pss_cons (ps_expr (pe_call (ok_check_box T) (hr.mono (by decide)) (by rfl) T.g_check_box T.F_check_box.kp (b_check_box T) .nil passF (pa_cons (pv 0) (pa_cons (pv 3) pa_nil))))
      (pss_cons (ps_expr (pe_call (ok_check_box T) (hr.mono (by decide)) (by rfl) T.g_check_box T.F_check_box.kp (b_check_box T) .nil passF (pa_cons (pv 0) (pa_cons (pv 4) pa_nil))))
      (pss_cons (ps_if (PW.pt (pw_or (pt_cmpR op_eq (pv 3) (pv 4) (nomark _)) (pw_or (pt_cmpR op_lt (pv 5) pe_int (nomark _)) (pw_or1 (pt_cmp (pc_din (hu_of hr) (pe_tup (pa_cons (pv 3) (pa_cons (pv 4) pa_nil))) (pv 2))))))) (pss_one ps_never) pss_nil)
      (pss_one (ps_asg (pv 5) (pg_sub (pv 2) (pe_tup (pa_cons (pv 3) (pa_cons (pv 4) pa_nil))) (set_dict (hu_of hr)))))))))
      (pss_one (ps_ret (pe_dcT (own := [("pair", 6)]) (g := gName 6) (tt := tYes) (Nat.lt_of_succ_lt (hu_of hr)) (by rfl) sc_mosts_by_pair.nd (pi_list (pe_callB (cr_sortDT (d := 2) (by decide) rfl) (by rfl) T.n_sorted (by decide +kernel) (pa_cons (pv 2) pa_nil))) (blkOk_by (N := N_mosts_by_pair) (sc := defScope s_mosts_by_pair) (by decide +kernel)) (fun _ _ _ _ _ => (pg_name (i := 6) sc_mosts_by_pair.nd rfl (Or.inl rfl))) (fun _ _ _ _ _ => pts_nil) (fun _ _ _ _ _ => (pv 6)) (fun _ _ _ _ _ => (pe_dget (hu_of hr) (pv 2) (pv 6) (fun _ _ => rfl)))))))), ?_⟩
    refine i_start (σ' := [some (V.ref x), some (.ref a), none, none, none, none, none]) rfl ?_
    walk_at "vc"
    refine i_dNew fun D0 n0 => ?_
    walk_at "vc"
    refine i_seqV (K := K) rfl (same_new n0) hs fun J G wk hG => ?_
    have c0 := (Cxs.start H).push (.dT []) n0
    have e0 := same_new (o := HO.dT []) n0
    refine for_it wk (fun i σ' H' => ∃ y3 y4 y5 F js, σ' = [some (V.ref x), some (.ref a), some (.ref D0), y3, y4, y5, none] ∧ Same H F ∧ Cxs F [(D0, .dT js)] H' ∧ KVs B3.k Pb F js (bs.take i))
      ⟨_, _, _, H, [], rfl, Same.refl _, c0, .nil⟩ (fun i σ' H' _ pv => ?_) (fun i y σ' H' H'' hi pv hy => ?_) fun σ' H' pv => ?_
    · obtain ⟨y3, y4, y5, F, js, rfl, e, c, hj⟩ := pv
      exact hG _ (e.trans c.e)
    · obtain ⟨y3, y4, y5, F, js, rfl, e, c, hj⟩ := pv
      obtain ⟨rfl, hv⟩ := hy
      have hi' : i < bs.length := by omega
      have hwi : bs[i]? = some bs[i] := List.getElem?_eq_getElem hi'
      have hwok := hb.b bs[i] (List.getElem_mem hi')
      have hnot := nd_take hb.nd hwi
      obtain ⟨v', hv', dv⟩ := dpa_get (i := i) (d := bs[i].d) ha (by rw [List.getElem?_map, hwi]; rfl)
      rw [hv] at hv'
      cases hv'
      obtain ⟨t, rfl, ht⟩ := dp_b3 dv
      have ht := same_sqT (e.trans c.e) ht
      have ljs : js.length ≤ i := by rw [hj.len, List.length_take]; omega
      have st : bs.take (i + 1) = bs.take i ++ [bs[i]] := by
        rw [List.take_add_one, hwi]
        rfl
      generalize bs[i] = b3 at ht hwok hwi hnot st
      obtain ⟨bl_, be_, bm_⟩ := b3
      have hx' := hx.mono (e.trans c.e)
      have ht : SqT K _ t [.int bl_, .int be_, .int bm_] := ht
      refine i_gtup ht rfl ?_
      walk_at "vc"
      refine i_check hx' hwok.l0 hwok.l1 ?_
      walk_at "vc"
      refine i_check hx' hwok.e0 hwok.e1 ?_
      walk_at "vc"
      refine i_iteDF hwok.ne ?_
      walk_at "vc"
      refine i_iteDF (by have h : 0 ≤ bm_ := hwok.m0; omega) ?_
      walk_at "vc"
      refine ⟨lenB rfl, fun T1 n1 => ?_⟩
      walk_at "vc"
      have c1 := c.new (.tup [.int bl_, .int be_]) n1
      refine ⟨D0, none, rfl, dget_in (n := [bl_, be_]) (c1.at 0 rfl) upd_same (hj.miss hnot), ?_⟩
      walk_at "vc"
      refine ⟨lenB rfl, fun T3 n3 => ?_⟩
      walk_at "vc"
      have c3 := c1.new (.tup [.int bl_, .int be_]) n3
      have e1 : Same F (upd (upd F T1 (.tup [.int bl_, .int be_])) T3 (.tup [.int bl_, .int be_])) := (c.sub n1).trans (c1.sub n3)
      refine i_setD (n := [bl_, be_]) (c3.at 0 rfl) upd_same (by omega) ?_
      walk_at "vc"
      refine ⟨_, _, _, _, _, rfl, e.trans e1, c3.turn 0 rfl _, ?_⟩
      rw [st]
      exact (hj.mono Pb.mono e1).put (r := ⟨bl_, be_, bm_⟩) hnot rfl
    · obtain ⟨y3, y4, y5, F, js, rfl, e, c, hj⟩ := pv
      rw [List.take_of_length_le (by omega)] at hj
      walk_at "vc"
      refine i_dsort (k := B3.k) (P := Pb) (K := K) (i := 2) (j := 6) (d := 2) Pb.mono (c.at 0 rfl) (hj.mono Pb.mono c.e) (fun r _ => rfl) hb.nd (by rw [hj.len]; omega) rfl (fun _ => rfl) (fun _ => rfl) (fun _ => rfl) fun D H2 ks us pu pw e2 nD hD hk => ?_
      exact q D H2 ks us pu pw (e.trans (c.e.trans e2)) ((e.trans c.e).free nD) hD hk
/-! ### a line, made -/
def spLineI (A : Adr) (K : PySem.W.Frag) : Sp := fun vs H Q _ => ∃ (F : Hp) (x dx a b : Addr) (n m k : Int) (xs ys : List V) (ws : List W4) (bs : List B3), vs = [.ref x, .int n, .ref a, .ref b] ∧ Cxs F [(x, .ins A.c_Line dx [])] H ∧ 1 ≤ n ∧
  SqA K F a xs ∧ DpAll K F xs (ws.map W4.d) ∧ WOk n m ws ∧ ws.length ≤ 100 ∧ SqA K F b ys ∧ DpAll K F ys (bs.map B3.d) ∧ BOk n k bs ∧ bs.length ≤ 100 ∧
  ∀ H' us cs, us.Perm ws → us.Pairwise (fun x y => lexL y.k x.k = false) → cs.Perm bs → cs.Pairwise (fun x y => lexL y.k x.k = false) → Same F H' → IsLine A.c_Line H' x n us cs → Q .non H'
theorem ok_Line_init (T : Txt K mg A) : FnOk P w K mg base CX0 5 A.f_Line_init A.d_Line_init ["self", "size", "wires", "bounds"] (spLineI A K) := by
  refine T.F_Line_init.ok sc_Line_init (fun vs H Q E h => ?_) (fun cdv A' outer s H vs Q E hr h => ?_)
  · obtain ⟨F, x, dx, a, b, n, m, k, xs, ys, ws, bs, rfl, _⟩ := h
    rfl
  · obtain ⟨F, x, dx, a, b, n, m, k, xs, ys, ws, bs, rfl, c, n1, ha, hx, hw, hwl, hb, hy, hbo, hbl, q⟩ := h
    refine ⟨_, (pss_cons (ps_if (pt_cmpR op_lt (pv 1) pe_int (nomark _)) (pss_one ps_never) pss_nil)
      (pss_cons (ps_fld (pv 0) (pv 1) rfl)
      (pss_cons (ps_fld (pv 0) (pe_call (ok_spans_by_wire T) (hr.mono (by decide)) (by rfl) T.g_spans_by_wire T.F_spans_by_wire.kp (b_spans_by_wire T) .nil pass0 (pa_cons (pv 0) (pa_cons (pv 2) pa_nil))) rfl)
      (pss_one (ps_fld (pv 0) (pe_call (ok_mosts_by_pair T) (hr.mono (by decide)) (by rfl) T.g_mosts_by_pair T.F_mosts_by_pair.kp (b_mosts_by_pair T) .nil pass0 (pa_cons (pv 0) (pa_cons (pv 3) pa_nil))) rfl))))), ?_⟩
    refine i_start (σ' := [some (V.ref x), some (.int n), some (.ref a), some (.ref b)]) rfl ?_
    walk_at "vc"
    refine i_iteDF (by omega) ?_
    walk_at "vc"
    refine i_sFld1 (gs := [("size", .int n)]) (c.at 0 rfl) T.cl_Line T.na_Line_size (by show 0 < 1000; decide) rfl ?_
    have c := c.turn 0 rfl (.ins A.c_Line dx [("size", .int n)])
    generalize upd H x (.ins A.c_Line dx [("size", .int n)]) = H1 at c ⊢
    walk_at "vc"
    refine ⟨x, a, n, m, xs, ws, rfl, ⟨dx, _, c.at 0 rfl, rfl⟩, ha.mono c.e, hx.mono c.e, hw, hwl, fun d1 H2 js us pu pw e2 nd1 hd1 hk1 => ?_⟩
    have x2 : H2 x = some (.ins A.c_Line dx [("size", .int n)]) := e2 _ _ (c.at 0 rfl)
    have xd : d1 ≠ x := fun z => by rw [z, x2] at hd1; cases hd1
    have eF : Same F (del H2 x) := (c.grow e2).one.all
    have hd1' : del H2 x d1 = some (.dT js) := del_of hd1 xd
    have hk1' : KVs W4.k Pw (del H2 x) js us := Paired.mapP hk1 fun _ _ z => ⟨z.1, z.2.cut x2⟩
    have c : Cxs (del H2 x) [(x, .ins A.c_Line dx [("size", .int n)])] H2 := .of1 (.start x2)
    walk_at "vc"
    refine i_sFld1 (gs := [("size", .int n), ("_spans", .ref d1)]) x2 T.cl_Line T.na_Line__spans (by show 1 < 1000; decide) rfl ?_
    have c := c.turn 0 rfl (.ins A.c_Line dx [("size", .int n), ("_spans", .ref d1)])
    generalize del H2 x = F2 at c eF hd1' hk1'
    generalize upd H2 x (.ins A.c_Line dx [("size", .int n), ("_spans", .ref d1)]) = H3 at c ⊢
    walk_at "vc"
    refine ⟨x, b, n, k, ys, bs, rfl, ⟨dx, _, c.at 0 rfl, rfl⟩, hb.mono (eF.trans c.e), hy.mono (eF.trans c.e), hbo, hbl, fun d2 H4 ms cs pc pcw e4 nd2 hd2 hk2 => ?_⟩
    have x4 : H4 x = some (.ins A.c_Line dx [("size", .int n), ("_spans", .ref d1)]) := e4 _ _ (c.at 0 rfl)
    have xd : d2 ≠ x := fun z => by rw [z, x4] at hd2; cases hd2
    have eF4 : Same F2 (del H4 x) := (c.grow e4).one.all
    have c : Cxs (del H4 x) [(x, .ins A.c_Line dx [("size", .int n), ("_spans", .ref d1)])] H4 := .of1 (.start x4)
    walk_at "vc"
    refine i_sFld1 (gs := [("size", .int n), ("_spans", .ref d1), ("_mosts", .ref d2)]) x4 T.cl_Line T.na_Line__mosts (by show 2 < 1000; decide) rfl ?_
    have c := c.turn 0 rfl (.ins A.c_Line dx [("size", .int n), ("_spans", .ref d1), ("_mosts", .ref d2)])
    have eH := c.e
    have eG := eF4.trans eH
    exact q _ us cs pu pw pc pcw (eF.trans eG) ⟨dx, d1, d2, js, ms, c.at 0 rfl, eG _ _ hd1', eH _ _ (del_of hd2 xd), hk1'.mono Pw.mono eG, Paired.mapP hk2 fun _ _ z => z⟩
end
end K03
set_option maxRecDepth 100000
set_option maxHeartbeats 1000000
namespace K03
open PySem PySem.Spec PyProof.Rows L2 VX
local macro_rules | `(tactic| walk_at "ne") => `(tactic| first
  | assumption
  | exact Ne.symm (by assumption)
  | exact ne_of_none (by assumption) (by assumption)
  | exact Ne.symm (ne_of_none (by assumption) (by assumption))
  | ((with_reducible refine' ne_of_none ?n1 ?n2); (case n2 => assumption); (case n1 => walk_at "lk"))
  | ((with_reducible refine' Ne.symm (ne_of_none ?n1 ?n2)); (case n2 => assumption); (case n1 => walk_at "lk")))
local macro_rules | `(tactic| walk_at "lk") => `(tactic| first
  | assumption
  | (with_reducible exact upd_same)
  | ((with_reducible refine' (upd_ne ?nn).trans ?ll); (case nn => walk_at "ne"); (case ll => walk_at "lk"))
  | ((with_reducible refine' VX.same_at ?nn ?ll); (case nn => assumption); (case ll => walk_at "lk")))
local macro_rules | `(tactic| walk_at "dp") => `(tactic| first
  | assumption
  | (with_reducible exact Dp.non)
  | (with_reducible exact Dp.bl _)
  | (with_reducible exact Dp.int _)
  | (with_reducible exact Dp.str _)
  | ((with_reducible refine' VX.Dp.mono' ?dd (same_new ?nn)); (case nn => assumption); (case dd => walk_at "dp"))
  | ((with_reducible refine' VX.Dp.mono' ?dd ?nn); (case nn => assumption); (case dd => walk_at "dp")))
local macro_rules | `(tactic| walk_at "sq") => `(tactic| first
  | assumption
  | (with_reducible exact SqL.of (by assumption))
  | (with_reducible exact SqT.of (by assumption))
  | ((with_reducible refine' Same.seq (same_new ?nn) ?qq); (case nn => assumption); (case qq => walk_at "sq"))
  | ((with_reducible refine' same_sqT (same_new ?nn) ?qq); (case nn => assumption); (case qq => walk_at "sq"))
  | ((with_reducible refine' Same.seq ?nn ?qq); (case nn => assumption); (case qq => walk_at "sq"))
  | ((with_reducible refine' same_sqT ?nn ?qq); (case nn => assumption); (case qq => walk_at "sq"))
  | ((with_reducible refine' SqL.of ?qq); (case qq => walk_at "lk"))
  | ((with_reducible refine' SqT.of ?qq); (case qq => walk_at "lk")))
local macro_rules | `(tactic| walk_at "cc") => `(tactic| first
  | exact ⟨by decide, by decide, by decide⟩
  | (show _ ≠ _; omega)
  | exact ⟨by omega, by omega⟩
  | exact Or.inl ⟨by omega, by omega⟩
  | exact Or.inr ⟨by omega, by omega⟩)
local macro_rules | `(tactic| walk_at "vcA") => `(tactic| repeat (first
  | ((with_reducible refine' VX.i_modA ?v1 ?_); (case v1 => omega); intro r hr0 hr1)
  | ((with_reducible refine' VX.i_divA ?v1 ?v2 ?_); (case v1 => omega); (case v2 => omega); intro r hr0 hr1)
  | walk_at "vc1"))
local macro_rules | `(tactic| walk_at "vc1") => `(tactic| first
  | ((with_reducible refine' VX.i_var ?v1 ?_); (case v1 => rfl))
  | (with_reducible refine' VX.i_c ?_)
  | (with_reducible refine' VX.i_op ?_)
  | (with_reducible refine' VX.i_cons ?_)
  | (with_reducible refine' VX.i_nil ?_)
  | (with_reducible refine' VX.i_seq ?_)
  | (with_reducible refine' VX.i_asg ?_)
  | ((with_reducible refine' VX.i_gname ?v2 ?_); (case v2 => (first | (simp only [List.set_cons_zero, List.set_cons_succ]; done) | (simp only [List.set_cons_zero, List.set_cons_succ]; exact rfl) | exact rfl)))
  | (with_reducible refine' VX.i_ifS ?_)
  | (with_reducible refine' VX.i_test ?_)
  | (with_reducible refine' VX.i_tB ?_)
  | (with_reducible refine' VX.i_bl ?_)
  | (with_reducible refine' VX.i_iteT ?_)
  | (with_reducible refine' VX.i_iteF ?_)
  | (with_reducible refine' VX.i_iteNT ?_)
  | (with_reducible refine' VX.i_iteNF ?_)
  | (with_reducible refine' VX.i_and ?_)
  | (with_reducible refine' VX.i_or ?_)
  | (with_reducible refine' VX.i_not ?_)
  | (with_reducible refine' VX.i_call ?_)
  | (with_reducible refine' VX.i_CB ?_)
  | (with_reducible refine' VX.i_make ?_)
  | (with_reducible refine' VX.i_makeK0 ?_)
  | (with_reducible refine' VX.i_mthK ?_)
  | (with_reducible refine' VX.i_mthS ?_)
  | (with_reducible refine' VX.i_meth ?_)
  | ((with_reducible refine' VX.i_ixL ?v1 ?v2 ?_); (case v1 => walk_at "sq"); (case v2 => first | rfl | assumption))
  | ((with_reducible refine' VX.i_ixT ?v1 ?v2 ?_); (case v1 => walk_at "sq"); (case v2 => first | rfl | assumption))
  | ((with_reducible refine' VX.i_setLU ?v2 ?v3 ?_); (case v2 => rfl); (case v3 => rfl))
  | ((with_reducible refine' VX.i_setL ?v1 ?v2 ?v3 ?_); (case v1 => walk_at "lk"); (case v2 => rfl); (case v3 => rfl))
  | (with_reducible refine' VX.i_rI0 ?_)
  | ((with_reducible refine' VX.i_rI ?v1 ?_); (case v1 => walk_at "cc"))
  | (with_reducible refine' VX.i_int ?_)
  | ((with_reducible refine' VX.i_rEqS ?v1 ?_); (case v1 => rfl))
  | ((with_reducible refine' VX.i_rNeS ?v1 ?_); (case v1 => rfl))
  | (with_reducible refine' VX.i_rEqI ?_)
  | (with_reducible refine' VX.i_rNeI ?_)
  | (with_reducible refine' VX.i_max2 ?_)
  | (with_reducible refine' VX.i_min2 ?_)
  | ((with_reducible refine' VX.i_lenL ?v1 ?_); (case v1 => walk_at "sq"))
  | ((with_reducible refine' VX.i_lenT ?v1 ?_); (case v1 => walk_at "sq"))
  | (with_reducible refine' VX.i_chain ?_)
  | (with_reducible refine' VX.i_gsub ?_)
  | (with_reducible refine' VX.i_ret ?_)
  | (with_reducible refine' VX.i_drop ?_)
  | (with_reducible refine' VX.i_next ?_)
  | (with_reducible refine' VX.i_retN ?_)
  | (with_reducible refine' VX.i_andV ?_)
  | (with_reducible refine' VX.i_orV ?_)
  | (with_reducible refine' VX.i_notV ?_)
  | (with_reducible refine' VX.i_ifE ?_)
  | (with_reducible refine' VX.i_un ?_)
  | (with_reducible refine' VX.i_rU ?_)
  | (with_reducible refine' VX.i_tup ?_)
  | (with_reducible refine' VX.i_lst ?_)
  | ((with_reducible refine' VX.i_fldv ?v1 ?v2 ?v3 ?v4 ?v5 ?_); (case v1 => rfl); (case v2 => walk_at "lk"); (case v3 => walk_at "cl"); (case v4 => walk_at "na"); (case v5 => first | rfl | assumption))
  | (with_reducible refine' VX.i_fld ?_)
  | (with_reducible refine' VX.i_sFld ?_)
  | (with_reducible refine' VX.i_mk1 ?_)
  | (with_reducible refine' VX.i_mk1v ?_)
  | (with_reducible refine' VX.i_gnil ?_)
  | (with_reducible refine' VX.i_lc ?_)
  | (with_reducible refine' VX.i_for ?_)
  | (with_reducible refine' VX.i_lstRg ?_)
  | (with_reducible refine' VX.i_rg2 ?_)
  | (with_reducible refine' VX.i_rg2v ?_)
  | (with_reducible refine' VX.i_yes ?_)
  | (with_reducible refine' VX.i_iList ?_)
  | (with_reducible refine' VX.i_iRng1 ?_)
  | (with_reducible refine' VX.i_iRng2 ?_)
  | (with_reducible refine' VX.i_iEnum ?_)
  | (with_reducible refine' VX.i_iZip ?_)
  | (with_reducible refine' VX.i_iOwn ?_)
  | ((with_reducible refine' VX.i_wipe ?v1 ?_); (case v1 => rfl))
  | (with_reducible refine' VX.i_andN ?_)
  | (with_reducible refine' VX.i_iteNDS ?_)
  | (with_reducible refine' VX.i_bm ?_)
  | ((with_reducible refine' VX.i_tyL ?v1 ?_); (case v1 => walk_at "sq"))
  | ((with_reducible refine' VX.i_append ?v1 ?v2 ?_); (case v1 => walk_at "lk"); (case v2 => (simp only [List.length_map, List.length_cons, List.length_nil, List.length_append]; omega)))
  | ((with_reducible refine' VX.i_iteDT ?v1 ?_); (case v1 => rfl))
  | ((with_reducible refine' VX.i_iteDF ?v1 ?_); (case v1 => intro h; cases h))
  | ((with_reducible refine' VX.i_isiD ?v1 ?v2 ?_); (case v1 => walk_at "dp"); (case v2 => decide))
  | ((with_reducible refine' VX.i_iteBT ?v1 ?_); (case v1 => rfl))
  | ((with_reducible refine' VX.i_iteBF ?v1 ?_); (case v1 => rfl))
  | (with_reducible refine' VX.i_gcons ?_)
  | (with_reducible refine' VX.i_dIn ?_)
  | (with_reducible refine' VX.i_dNotIn ?_)
  | (with_reducible refine' VX.i_dGet ?_)
  | (with_reducible refine' VX.i_items ?_)
  | (with_reducible refine' VX.i_keys ?_)
  | ((with_reducible refine' VX.i_gtup ?v1 ?v2 ?_); (case v1 => walk_at "sq"); (case v2 => rfl)))
local macro_rules | `(tactic| walk_at "vc") => `(tactic| repeat walk_at "vc1")

local macro_rules | `(tactic| walk_at "cl") => `(tactic| exact Txt.cl_Line (by assumption))
local macro_rules | `(tactic| walk_at "na") => `(tactic| first | exact Txt.na_Line_size (by assumption) | exact Txt.na_Line__spans (by assumption) | exact Txt.na_Line__mosts (by assumption))
section
variable {P : Program} {w : World} {K : PySem.W.Frag} {mg : Str → Option Value} {base : Heap} {A : Adr}
/-- a new list of data -/
def NewL (K : PySem.W.Frag) (H : Hp) (D : Addr) (H' : Hp) (ds : List PyData) : Prop := Same H H' ∧ H D = none ∧ ∃ xs, H' D = some (.lst xs) ∧ DpAll K (del H' D) xs ds
theorem Pw.lock {H : Hp} {v : V} {u : W4} {d : Addr} {js : List (List L2.Key × V)} {z : HO} (h : Pw H v u) (hd : H d = some (.dT js)) : Pw (upd H d z) v u := by
  obtain ⟨q, h1, h2⟩ := h
  refine ⟨q, h1, ?_⟩
  rw [upd_ne (fun e => by rw [e, hd] at h2; cases h2)]
  exact h2
/-- behind a comprehension over a locked dict -/
theorem newL_unlock {H H' : Hp} {d D : Addr} {od : Obj} {js : List (List L2.Key × V)} {xs : List V} {ds : List PyData} (h : H d = some (.dT js)) (e : Same (upd H d (.frz od (.dT js))) H') (nD : upd H d (.frz od (.dT js)) D = none) (hD : H' D = some (.lst xs)) (hp : DpAll K (del H' D) xs ds) : NewL K H D (upd H' d (.dT js)) ds := by
  have Dd : D ≠ d := fun z => by
    rw [z, upd_same] at nD
    cases nD
  have hd' : H' d = some (.frz od (.dT js)) := e _ _ upd_same
  refine ⟨same_unlock h e, by rw [upd_ne Dd] at nD; exact nD, xs, by rw [upd_ne Dd]; exact hD, ?_⟩
  rw [del_upd (Ne.symm Dd)]
  exact dpa_sqs (sqs_unlock (del_of hd' (Ne.symm Dd))) _ _ hp
theorem at_gt {α : Type} {d : α → PyData} {us : List α} {i : Nat} {u : α} (h : us[i]? = some u) : gt (us.map d) i = d u := gt_of (by rw [List.getElem?_map, h]; rfl)
def spLWires (A : Adr) (K : PySem.W.Frag) : Sp := fun vs H Q _ => ∃ (x : Addr) (n : Int) (us : List W4) (cs : List B3), vs = [.ref x] ∧ IsLine A.c_Line H x n us cs ∧ us.length ≤ 1000 ∧ ∀ D H', NewL K H D H' (us.map W4.d) → Q (.ref D) H'
theorem ok_Line_wires (T : Txt K mg A) : FnOk P w K mg base CX0 1 A.f_Line_wires A.d_Line_wires ["self"] (spLWires A K) := by
  refine T.F_Line_wires.ok sc_Line_wires (fun vs H Q E h => ?_) (fun cdv A' outer s H vs Q E hr h => ?_)
  · obtain ⟨x, n, us, cs, rfl, _⟩ := h
    rfl
  · obtain ⟨x, n, us, cs, rfl, ⟨dx, d1, d2, js, ms, hx, h1, h2, k1, k2⟩, hz, q⟩ := h
    refine ⟨_, (pss_one (ps_ret (pe_lock (pe_lc (own := [("source", 1), ("target", 2), ("low", 3), ("high", 4)]) (g := gTup _ 2 (gCons (gTup _ 2 (gCons (gName 1) (gCons (gName 2) gNil))) (gCons (gTup _ 2 (gCons (gName 3) (gCons (gName 4) gNil))) gNil))) (tt := tYes) (by rfl) sc_Line_wires.nd (pi_itemsT (pe_fld (pv 0) rfl)) (blkOk_by (N := N_Line_wires) (sc := defScope s_Line_wires) (by decide +kernel)) (fun _ _ _ _ _ => (pg_tup rfl (pgs_cons (pg_tup rfl (pgs_cons (pg_name (i := 1) sc_Line_wires.nd rfl (Or.inl rfl)) (pgs_cons (pg_name (i := 2) sc_Line_wires.nd rfl (Or.inl rfl)) pgs_nil))) (pgs_cons (pg_tup rfl (pgs_cons (pg_name (i := 3) sc_Line_wires.nd rfl (Or.inl rfl)) (pgs_cons (pg_name (i := 4) sc_Line_wires.nd rfl (Or.inl rfl)) pgs_nil))) pgs_nil)))) (fun _ _ _ _ _ => pts_nil) (fun _ _ _ _ _ => (pe_tup (pa_cons (pv 1) (pa_cons (pv 2) (pa_cons (pv 3) (pa_cons (pv 4) pa_nil)))))))))), ?_⟩
    refine i_start (σ' := [some (V.ref x), none, none, none, none]) rfl ?_
    walk_at "vc"
    refine i_lockE h1 fun od => ?_
    have xd : x ≠ d1 := fun z => by rw [z, h1] at hx; cases hx
    have hx' := (upd_ne (H := H) (o := .frz od (.dT js)) xd).trans hx
    have hd : upd H d1 (.frz od (.dT js)) d1 = some (.frz od (.dT js)) := upd_same
    have lj := k1.len
    walk_at "vc"
    refine ⟨d1, od, js, rfl, hd, fun D nD => ?_⟩
    refine lc_dp (K := K) walk_itemsT (Same.refl (upd H d1 (.frz od (.dT js)))) nD (by omega) (gt (us.map W4.d)) (fun H' e => e _ _ hd) (fun i p H1 H2 acc hi e hD y R hR => ?_) fun H' xs e hD hp => ?_
    · obtain ⟨T1, k, v, q1, hk, rfl, hq, nT, rfl⟩ := y
      have hi' : i < us.length := by omega
      have hu : us[i]? = some us[i] := List.getElem?_eq_getElem hi'
      obtain ⟨v', hv', pv⟩ := k1.at hu
      rw [hk] at hv'
      cases hv'
      obtain ⟨q2, rfl, hq2⟩ := (pv.lock (z := .frz od (.dT js)) h1)
      have hq2 := e _ _ hq2
      rw [at_gt hu] at hR
      generalize us[i] = w4 at hR hq hq2
      obtain ⟨s_, t_, l_, h_⟩ := w4
      have hq : SqT K (upd H1 T1 (.tup [.ref q1, .ref q2])) q1 [.int s_, .int t_] := SqT.of (same_new nT _ _ hq)
      have hq2 : SqT K (upd H1 T1 (.tup [.ref q1, .ref q2])) q2 [.int l_, oV h_] := SqT.of (same_new nT _ _ hq2)
      refine i_gtup (SqT.of upd_same) rfl ?_
      walk_at "vc"
      refine ⟨lenB rfl, fun T2 n2 => ?_⟩
      have eT : Same H1 (upd (upd H1 T1 (.tup [.ref q1, .ref q2])) T2 (.tup [.int s_, .int t_, .int l_, oV h_])) := (same_new nT).trans (same_new n2)
      refine hR _ _ eT (w4_dp (SqT.of (del_of upd_same fun z => ?_)))
      rw [z, same_new nT _ _ hD] at n2
      cases n2
    · have e2 : (List.range js.length).map (gt (us.map W4.d)) = us.map W4.d := by
        rw [lj, show us.length = (us.map W4.d).length by rw [List.length_map]]
        exact range_gt _
      rw [e2] at hp
      exact ⟨e _ _ hd, q D _ (newL_unlock h1 e nD hD hp)⟩
end
end K03
set_option maxRecDepth 100000
set_option maxHeartbeats 1000000
namespace K03
open PySem PySem.Spec PyProof.Rows L2 VX Way
local macro_rules | `(tactic| walk_at "ne") => `(tactic| first
  | assumption
  | exact Ne.symm (by assumption)
  | exact ne_of_none (by assumption) (by assumption)
  | exact Ne.symm (ne_of_none (by assumption) (by assumption))
  | ((with_reducible refine' ne_of_none ?n1 ?n2); (case n2 => assumption); (case n1 => walk_at "lk"))
  | ((with_reducible refine' Ne.symm (ne_of_none ?n1 ?n2)); (case n2 => assumption); (case n1 => walk_at "lk")))
local macro_rules | `(tactic| walk_at "lk") => `(tactic| first
  | assumption
  | (with_reducible exact upd_same)
  | ((with_reducible refine' (upd_ne ?nn).trans ?ll); (case nn => walk_at "ne"); (case ll => walk_at "lk"))
  | ((with_reducible refine' VX.same_at ?nn ?ll); (case nn => assumption); (case ll => walk_at "lk")))
local macro_rules | `(tactic| walk_at "dp") => `(tactic| first
  | assumption
  | (with_reducible exact Dp.non)
  | (with_reducible exact Dp.bl _)
  | (with_reducible exact Dp.int _)
  | (with_reducible exact Dp.str _)
  | ((with_reducible refine' VX.Dp.mono' ?dd (same_new ?nn)); (case nn => assumption); (case dd => walk_at "dp"))
  | ((with_reducible refine' VX.Dp.mono' ?dd ?nn); (case nn => assumption); (case dd => walk_at "dp")))
local macro_rules | `(tactic| walk_at "sq") => `(tactic| first
  | assumption
  | (with_reducible exact SqL.of (by assumption))
  | (with_reducible exact SqT.of (by assumption))
  | ((with_reducible refine' Same.seq (same_new ?nn) ?qq); (case nn => assumption); (case qq => walk_at "sq"))
  | ((with_reducible refine' same_sqT (same_new ?nn) ?qq); (case nn => assumption); (case qq => walk_at "sq"))
  | ((with_reducible refine' Same.seq ?nn ?qq); (case nn => assumption); (case qq => walk_at "sq"))
  | ((with_reducible refine' same_sqT ?nn ?qq); (case nn => assumption); (case qq => walk_at "sq"))
  | ((with_reducible refine' SqL.of ?qq); (case qq => walk_at "lk"))
  | ((with_reducible refine' SqT.of ?qq); (case qq => walk_at "lk")))
local macro_rules | `(tactic| walk_at "cc") => `(tactic| first
  | exact ⟨by decide, by decide, by decide⟩
  | (show _ ≠ _; omega)
  | exact ⟨by omega, by omega⟩
  | exact Or.inl ⟨by omega, by omega⟩
  | exact Or.inr ⟨by omega, by omega⟩)
local macro_rules | `(tactic| walk_at "vcA") => `(tactic| repeat (first
  | ((with_reducible refine' VX.i_modA ?v1 ?_); (case v1 => omega); intro r hr0 hr1)
  | ((with_reducible refine' VX.i_divA ?v1 ?v2 ?_); (case v1 => omega); (case v2 => omega); intro r hr0 hr1)
  | walk_at "vc1"))
local macro_rules | `(tactic| walk_at "vc1") => `(tactic| first
  | ((with_reducible refine' VX.i_var ?v1 ?_); (case v1 => rfl))
  | (with_reducible refine' VX.i_c ?_)
  | (with_reducible refine' VX.i_op ?_)
  | (with_reducible refine' VX.i_cons ?_)
  | (with_reducible refine' VX.i_nil ?_)
  | (with_reducible refine' VX.i_seq ?_)
  | (with_reducible refine' VX.i_asg ?_)
  | ((with_reducible refine' VX.i_gname ?v2 ?_); (case v2 => (first | (simp only [List.set_cons_zero, List.set_cons_succ]; done) | (simp only [List.set_cons_zero, List.set_cons_succ]; exact rfl) | exact rfl)))
  | (with_reducible refine' VX.i_ifS ?_)
  | (with_reducible refine' VX.i_test ?_)
  | (with_reducible refine' VX.i_tB ?_)
  | (with_reducible refine' VX.i_bl ?_)
  | (with_reducible refine' VX.i_iteT ?_)
  | (with_reducible refine' VX.i_iteF ?_)
  | (with_reducible refine' VX.i_iteNT ?_)
  | (with_reducible refine' VX.i_iteNF ?_)
  | (with_reducible refine' VX.i_and ?_)
  | (with_reducible refine' VX.i_or ?_)
  | (with_reducible refine' VX.i_not ?_)
  | (with_reducible refine' VX.i_call ?_)
  | (with_reducible refine' VX.i_CB ?_)
  | (with_reducible refine' VX.i_make ?_)
  | (with_reducible refine' VX.i_makeK0 ?_)
  | (with_reducible refine' VX.i_mthK ?_)
  | (with_reducible refine' VX.i_mthS ?_)
  | (with_reducible refine' VX.i_meth ?_)
  | ((with_reducible refine' VX.i_ixL ?v1 ?v2 ?_); (case v1 => walk_at "sq"); (case v2 => first | rfl | assumption))
  | ((with_reducible refine' VX.i_ixT ?v1 ?v2 ?_); (case v1 => walk_at "sq"); (case v2 => first | rfl | assumption))
  | ((with_reducible refine' VX.i_setLU ?v2 ?v3 ?_); (case v2 => rfl); (case v3 => rfl))
  | ((with_reducible refine' VX.i_setL ?v1 ?v2 ?v3 ?_); (case v1 => walk_at "lk"); (case v2 => rfl); (case v3 => rfl))
  | (with_reducible refine' VX.i_rI0 ?_)
  | ((with_reducible refine' VX.i_rI ?v1 ?_); (case v1 => walk_at "cc"))
  | (with_reducible refine' VX.i_int ?_)
  | ((with_reducible refine' VX.i_rEqS ?v1 ?_); (case v1 => rfl))
  | ((with_reducible refine' VX.i_rNeS ?v1 ?_); (case v1 => rfl))
  | (with_reducible refine' VX.i_rEqI ?_)
  | (with_reducible refine' VX.i_rNeI ?_)
  | (with_reducible refine' VX.i_max2 ?_)
  | (with_reducible refine' VX.i_min2 ?_)
  | ((with_reducible refine' VX.i_lenL ?v1 ?_); (case v1 => walk_at "sq"))
  | ((with_reducible refine' VX.i_lenT ?v1 ?_); (case v1 => walk_at "sq"))
  | (with_reducible refine' VX.i_chain ?_)
  | (with_reducible refine' VX.i_gsub ?_)
  | (with_reducible refine' VX.i_ret ?_)
  | (with_reducible refine' VX.i_drop ?_)
  | (with_reducible refine' VX.i_next ?_)
  | (with_reducible refine' VX.i_retN ?_)
  | (with_reducible refine' VX.i_andV ?_)
  | (with_reducible refine' VX.i_orV ?_)
  | (with_reducible refine' VX.i_notV ?_)
  | (with_reducible refine' VX.i_ifE ?_)
  | (with_reducible refine' VX.i_un ?_)
  | (with_reducible refine' VX.i_rU ?_)
  | (with_reducible refine' VX.i_tup ?_)
  | (with_reducible refine' VX.i_lst ?_)
  | ((with_reducible refine' VX.i_fldv ?v1 ?v2 ?v3 ?v4 ?v5 ?_); (case v1 => rfl); (case v2 => walk_at "lk"); (case v3 => walk_at "cl"); (case v4 => walk_at "na"); (case v5 => first | rfl | assumption))
  | (with_reducible refine' VX.i_fld ?_)
  | (with_reducible refine' VX.i_sFld ?_)
  | (with_reducible refine' VX.i_mk1 ?_)
  | (with_reducible refine' VX.i_mk1v ?_)
  | (with_reducible refine' VX.i_gnil ?_)
  | (with_reducible refine' VX.i_lc ?_)
  | (with_reducible refine' VX.i_for ?_)
  | (with_reducible refine' VX.i_lstRg ?_)
  | (with_reducible refine' VX.i_rg2 ?_)
  | (with_reducible refine' VX.i_rg2v ?_)
  | (with_reducible refine' VX.i_yes ?_)
  | (with_reducible refine' VX.i_iList ?_)
  | (with_reducible refine' VX.i_iRng1 ?_)
  | (with_reducible refine' VX.i_iRng2 ?_)
  | (with_reducible refine' VX.i_iEnum ?_)
  | (with_reducible refine' VX.i_iZip ?_)
  | (with_reducible refine' VX.i_iOwn ?_)
  | ((with_reducible refine' VX.i_wipe ?v1 ?_); (case v1 => rfl))
  | (with_reducible refine' VX.i_andN ?_)
  | (with_reducible refine' VX.i_iteNDS ?_)
  | (with_reducible refine' VX.i_bm ?_)
  | ((with_reducible refine' VX.i_tyL ?v1 ?_); (case v1 => walk_at "sq"))
  | ((with_reducible refine' VX.i_append ?v1 ?v2 ?_); (case v1 => walk_at "lk"); (case v2 => (simp only [List.length_map, List.length_cons, List.length_nil, List.length_append]; omega)))
  | ((with_reducible refine' VX.i_iteDT ?v1 ?_); (case v1 => rfl))
  | ((with_reducible refine' VX.i_iteDF ?v1 ?_); (case v1 => intro h; cases h))
  | ((with_reducible refine' VX.i_isiD ?v1 ?v2 ?_); (case v1 => walk_at "dp"); (case v2 => decide))
  | ((with_reducible refine' VX.i_iteBT ?v1 ?_); (case v1 => rfl))
  | ((with_reducible refine' VX.i_iteBF ?v1 ?_); (case v1 => rfl))
  | (with_reducible refine' VX.i_gcons ?_)
  | (with_reducible refine' VX.i_dIn ?_)
  | (with_reducible refine' VX.i_dNotIn ?_)
  | (with_reducible refine' VX.i_dGet ?_)
  | (with_reducible refine' VX.i_items ?_)
  | (with_reducible refine' VX.i_keys ?_)
  | ((with_reducible refine' VX.i_gtup ?v1 ?v2 ?_); (case v1 => walk_at "sq"); (case v2 => rfl)))
local macro_rules | `(tactic| walk_at "vc") => `(tactic| repeat walk_at "vc1")

local macro_rules | `(tactic| walk_at "cl") => `(tactic| exact Txt.cl_Line (by assumption))
local macro_rules | `(tactic| walk_at "na") => `(tactic| first | exact Txt.na_Line_size (by assumption) | exact Txt.na_Line__spans (by assumption) | exact Txt.na_Line__mosts (by assumption))
/-- an edge's key -/
def ek (e : Ed) : List Int := [e.1, e.2.1]
def Pe (_ : Hp) (v : V) (e : Ed) : Prop := v = .int e.2.2
theorem Pe.mono : ∀ (H H' : Hp) (v : V) (e : Ed), Same H H' → Pe H v e → Pe H' v e := fun _ _ _ _ _ h => h
/-- a wire as an edge -/
def eOf (late : Bool) (u : W4) : Option Ed := if late then u.hi.map fun h => (u.s, u.t, h) else some (u.s, u.t, u.lo)
def edges (late : Bool) (us : List W4) : List Ed := us.filterMap (eOf late)
theorem eOf_k {late : Bool} {u : W4} {e : Ed} (h : eOf late u = some e) : ek e = u.k := by
  unfold eOf at h
  split at h
  · cases hh : u.hi with
    | none =>
      rw [hh] at h
      cases h
    | some g =>
      rw [hh] at h
      cases h
      rfl
  · cases h
    rfl
theorem edges_k {late : Bool} : ∀ {us : List W4}, (edges late us).map ek |>.Sublist (us.map W4.k)
  | [] => List.Sublist.refl _
  | u :: us => by
    unfold edges
    rw [List.filterMap_cons, List.map_cons]
    cases h : eOf late u with
    | none => exact edges_k.cons _
    | some e =>
      rw [List.map_cons, eOf_k h]
      exact edges_k.cons₂ _
theorem edges_step {late : Bool} {us : List W4} {i : Nat} {u : W4} (h : us[i]? = some u) : edges late (us.take (i + 1)) = edges late (us.take i) ++ (eOf late u).toList := by
  unfold edges
  rw [List.take_add_one, h, List.filterMap_append]
  congr 1
theorem edges_len {late : Bool} {us : List W4} : (edges late us).length ≤ us.length := List.length_filterMap_le _ _
theorem _root_.K03.IsLine.ins {C : Addr} {H : Hp} {x : Addr} {n : Int} {us : List W4} {cs : List B3} (h : IsLine C H x n us cs) : ∃ dx d1 d2, H x = some (.ins C dx [("size", .int n), ("_spans", .ref d1), ("_mosts", .ref d2)]) := let ⟨dx, d1, d2, _, _, hx, _⟩ := h; ⟨dx, d1, d2, hx⟩
theorem i_dcT {wi : TI} {g : TG} {tt : TT} {tk tv : TE} {vs : List Nat} {σ : L2.St} {H : Hp} {Q : VK} (q : wi σ H fun J H1 => ∀ D, H1 D = none → ∃ W : Nat → Nat → Hp → Prop, (∃ m, W 0 m (upd H1 D (.dT []))) ∧ ∀ i m H, W i m H →
  (J.stop i H ∧ Q (.ref D) H) ∨ (J.go i H ∧ ∃ Nx : Hp → Prop, (∀ H', Nx H' → ∃ m', m' < m ∧ W (i + 1) m' H') ∧ ∀ x H', J.yld i H x H' → g x (wipe σ vs) H' fun σ2 H2 => wipe σ2 vs = wipe σ vs ∧ tt σ2 H2 fun b H3 =>
    if b = true then tk σ2 H3 fun y H4 => tv σ2 H4 fun z H5 => ∃ kvs k q, y = .ref q ∧ H5 q = some (.tup (k.map kV)) ∧ H5 D = some (.dT kvs) ∧ kvs.length < sizeLine ∧ Nx (upd H5 D (.dT (putK kvs k z))) else Nx H3)) : tDcT wi g tt tk tv vs σ H Q := q
section
variable {P : Program} {w : World} {K : PySem.W.Frag} {mg : Str → Option Value} {base : Heap} {A : Adr}
theorem nd_edge {late : Bool} {us : List W4} (nd : (us.map W4.k).Nodup) {i : Nat} {u : W4} (h : us[i]? = some u) {e : Ed} (he : eOf late u = some e) : ek e ∉ (edges late (us.take i)).map ek := fun hm => by
  rw [eOf_k he] at hm
  exact nd_take nd h (edges_k.subset hm)
/-- one edge more -/
theorem kv_edge {late : Bool} {us : List W4} {H : Hp} {js : List (List L2.Key × V)} (nd : (us.map W4.k).Nodup) {i : Nat} {u : W4} (h : us[i]? = some u) {e : Ed} (he : eOf late u = some e) (hj : KVs ek Pe H js (edges late (us.take i))) :
    KVs ek Pe H (putK js ((ek e).map Sum.inl) (.int e.2.2)) (edges late (us.take (i + 1))) := by
  rw [edges_step h, he]
  exact hj.put (nd_edge nd h he) rfl
theorem kv_skip {late : Bool} {us : List W4} {H : Hp} {js : List (List L2.Key × V)} {i : Nat} {u : W4} (h : us[i]? = some u) (he : eOf late u = none) (hj : KVs ek Pe H js (edges late (us.take i))) : KVs ek Pe H js (edges late (us.take (i + 1))) := by
  rw [edges_step h, he]
  show KVs ek Pe H js (_ ++ [])
  rwa [List.append_nil]
def spCosts (A : Adr) : Sp := fun vs H Q _ => ∃ (x : Addr) (late : Bool) (n : Int) (us : List W4) (cs : List B3), vs = [.ref x, .bl late] ∧ IsLine A.c_Line H x n us cs ∧ us.length ≤ 1000 ∧ (us.map W4.k).Nodup ∧
  ∀ D H' js, Same H H' → H D = none → H' D = some (.dT js) → KVs ek Pe H' js (edges late us) → Q (.ref D) H'
theorem ok_costs (T : Txt K mg A) : FnOk P w K mg base CX0 2 A.f_costs A.d_costs ["line", "late"] (spCosts A) := by
  refine T.F_costs.ok sc_costs (fun vs H Q E h => ?_) (fun cdv A' outer s H vs Q E hr h => ?_)
  · obtain ⟨x, late, n, us, cs, rfl, _⟩ := h
    rfl
  · obtain ⟨x, late, n, us, cs, rfl, hl, hz, nd, q⟩ := h
    refine ⟨_, (pss_cons (ps_if (pt_val (pv 1)) (pss_one (ps_ret (pe_dcT (own := [("source", 2), ("target", 3), ("_", 4), ("high", 5)]) (g := gTup _ 4 (gCons (gName 2) (gCons (gName 3) (gCons (gName 4) (gCons (gName 5) gNil))))) (Nat.lt_of_succ_lt (hu_of hr)) (by rfl) sc_costs.nd (pi_list (pe_meth0 (pv 0) T.cl_Line T.m_Line_wires (ok_Line_wires T) (hr.mono (by decide)) (b_Line_wires T) .nil pass0)) (blkOk_by (N := N_costs) (sc := defScope s_costs) (by decide +kernel)) (fun _ _ _ _ _ => (pg_tup rfl (pgs_cons (pg_name (i := 2) sc_costs.nd rfl (Or.inl rfl)) (pgs_cons (pg_name (i := 3) sc_costs.nd rfl (Or.inl rfl)) (pgs_cons (pg_name (i := 4) sc_costs.nd rfl (Or.inl rfl)) (pgs_cons (pg_name (i := 5) sc_costs.nd rfl (Or.inl rfl)) pgs_nil)))))) (fun _ _ _ _ _ => (pts_one (pt_cmpR op_notN (pv 5) pe_non (nomark _)))) (fun _ _ _ _ _ => (pe_tup (pa_cons (pv 2) (pa_cons (pv 3) pa_nil)))) (fun _ _ _ _ _ => (pv 5))))) pss_nil)
      (pss_one (ps_ret (pe_dcT (own := [("source", 2), ("target", 3), ("low", 6), ("_", 4)]) (g := gTup _ 4 (gCons (gName 2) (gCons (gName 3) (gCons (gName 6) (gCons (gName 4) gNil))))) (tt := tYes) (Nat.lt_of_succ_lt (hu_of hr)) (by rfl) sc_costs.nd (pi_list (pe_meth0 (pv 0) T.cl_Line T.m_Line_wires (ok_Line_wires T) (hr.mono (by decide)) (b_Line_wires T) .nil pass0)) (blkOk_by (N := N_costs) (sc := defScope s_costs) (by decide +kernel)) (fun _ _ _ _ _ => (pg_tup rfl (pgs_cons (pg_name (i := 2) sc_costs.nd rfl (Or.inl rfl)) (pgs_cons (pg_name (i := 3) sc_costs.nd rfl (Or.inl rfl)) (pgs_cons (pg_name (i := 6) sc_costs.nd rfl (Or.inl rfl)) (pgs_cons (pg_name (i := 4) sc_costs.nd rfl (Or.inl rfl)) pgs_nil)))))) (fun _ _ _ _ _ => pts_nil) (fun _ _ _ _ _ => (pe_tup (pa_cons (pv 2) (pa_cons (pv 3) pa_nil)))) (fun _ _ _ _ _ => (pv 6)))))), ?_⟩
    refine i_start (σ' := [some (V.ref x), some (.bl late), none, none, none, none, none]) rfl ?_
    walk_at "vc"
    cases late with
    | true =>
      walk_at "vc"
      refine i_dcT ?_
      walk_at "vc"
      obtain ⟨dx, d1, d2, hx⟩ := hl.ins
      refine ⟨x, dx, _, rfl, hx, rfl, ?_⟩
      walk_at "vc"
      refine ⟨x, n, us, cs, rfl, hl, hz, fun D0 H0 nl => ?_⟩
      obtain ⟨e0, n0, xs, h0, hp⟩ := nl
      have hp := hp.mono (H' := H0) (fun b o e => by
        by_cases z : b = D0
        · subst z
          rw [del_same] at e
          cases e
        · rwa [del_ne z] at e)
      have lx : xs.length = us.length := by rw [dpa_len hp, List.length_map]
      walk_at "vc"
      refine ⟨D0, rfl, ⟨xs, SqL.of h0⟩, fun D nD => ?_⟩
      refine dc_it (walk_list (K := K) (a := D0) (xs := xs)) (fun m H' => ∃ js F, Same H0 F ∧ Cxs F [(D, .dT js)] H' ∧ KVs ek Pe F js (edges true (us.take m))) ⟨[], H0, Same.refl _, (Cxs.start H0).push _ nD, .nil⟩ (fun m H' _ pv => ?_) (fun m v H2 H3 hm pv y => ?_) fun H' pv => ?_
      · obtain ⟨js, F, e, x, _⟩ := pv
        exact SqL.of (x.e _ _ (e _ _ h0))
      · obtain ⟨js, F, e, c, hj⟩ := pv
        obtain ⟨rfl, hv⟩ := y
        have hi' : m < us.length := by omega
        have hu : us[m]? = some us[m] := List.getElem?_eq_getElem hi'
        obtain ⟨v', hv', dv⟩ := dpa_get (i := m) (d := us[m].d) hp (by rw [List.getElem?_map, hu]; rfl)
        rw [hv] at hv'
        cases hv'
        obtain ⟨t, rfl, ht⟩ := dp_w4 dv
        have ht := same_sqT (e.trans c.e) ht
        have lj : js.length ≤ m := by
          have := edges_len (late := true) (us := us.take m)
          rw [hj.len]
          rw [List.length_take] at this
          omega
        generalize us[m] = w4 at ht hu
        obtain ⟨s_, t_, l_, h_⟩ := w4
        have ht : SqT K _ t [.int s_, .int t_, .int l_, oV h_] := ht
        refine i_gtup ht rfl ?_
        walk_at "vc"
        cases h_ with
        | none =>
          walk_at "vc"
          exact ⟨js, F, e, c, kv_skip hu rfl hj⟩
        | some g =>
          walk_at "vc"
          refine ⟨lenB rfl, fun T1 n1 => ?_⟩
          walk_at "vc"
          have c1 := c.new (.tup [.int s_, .int t_]) n1
          exact ⟨js, [Sum.inl s_, Sum.inl t_], T1, rfl, upd_same, c1.at 0 rfl, lenB' (by omega), _, _, e.trans (c.sub n1), c1.turn 0 rfl _, kv_edge nd hu rfl (hj.mono Pe.mono (c.sub n1))⟩
      · obtain ⟨js, F, e, c, hj⟩ := pv
        rw [List.take_of_length_le (by omega)] at hj
        exact q D H' js (e0.trans (e.trans c.e)) (e0.free nD) (c.at 0 rfl) (hj.mono Pe.mono c.e)
    | false =>
      walk_at "vc"
      refine i_dcT ?_
      walk_at "vc"
      obtain ⟨dx, d1, d2, hx⟩ := hl.ins
      refine ⟨x, dx, _, rfl, hx, rfl, ?_⟩
      walk_at "vc"
      refine ⟨x, n, us, cs, rfl, hl, hz, fun D0 H0 nl => ?_⟩
      obtain ⟨e0, n0, xs, h0, hp⟩ := nl
      have hp := hp.mono (H' := H0) (fun b o e => by
        by_cases z : b = D0
        · subst z
          rw [del_same] at e
          cases e
        · rwa [del_ne z] at e)
      have lx : xs.length = us.length := by rw [dpa_len hp, List.length_map]
      walk_at "vc"
      refine ⟨D0, rfl, ⟨xs, SqL.of h0⟩, fun D nD => ?_⟩
      refine dc_it (walk_list (K := K) (a := D0) (xs := xs)) (fun m H' => ∃ js F, Same H0 F ∧ Cxs F [(D, .dT js)] H' ∧ KVs ek Pe F js (edges false (us.take m))) ⟨[], H0, Same.refl _, (Cxs.start H0).push _ nD, .nil⟩ (fun m H' _ pv => ?_) (fun m v H2 H3 hm pv y => ?_) fun H' pv => ?_
      · obtain ⟨js, F, e, x, _⟩ := pv
        exact SqL.of (x.e _ _ (e _ _ h0))
      · obtain ⟨js, F, e, c, hj⟩ := pv
        obtain ⟨rfl, hv⟩ := y
        have hi' : m < us.length := by omega
        have hu : us[m]? = some us[m] := List.getElem?_eq_getElem hi'
        obtain ⟨v', hv', dv⟩ := dpa_get (i := m) (d := us[m].d) hp (by rw [List.getElem?_map, hu]; rfl)
        rw [hv] at hv'
        cases hv'
        obtain ⟨t, rfl, ht⟩ := dp_w4 dv
        have ht := same_sqT (e.trans c.e) ht
        have lj : js.length ≤ m := by
          have := edges_len (late := false) (us := us.take m)
          rw [hj.len]
          rw [List.length_take] at this
          omega
        generalize us[m] = w4 at ht hu
        obtain ⟨s_, t_, l_, h_⟩ := w4
        have ht : SqT K _ t [.int s_, .int t_, .int l_, oV h_] := ht
        refine i_gtup ht rfl ?_
        walk_at "vc"
        refine ⟨lenB rfl, fun T1 n1 => ?_⟩
        walk_at "vc"
        have c1 := c.new (.tup [.int s_, .int t_]) n1
        exact ⟨js, [Sum.inl s_, Sum.inl t_], T1, rfl, upd_same, c1.at 0 rfl, lenB' (by omega), _, _, e.trans (c.sub n1), c1.turn 0 rfl _, kv_edge nd hu rfl (hj.mono Pe.mono (c.sub n1))⟩
      · obtain ⟨js, F, e, c, hj⟩ := pv
        rw [List.take_of_length_le (by omega)] at hj
        exact q D H' js (e0.trans (e.trans c.e)) (e0.free nD) (c.at 0 rfl) (hj.mono Pe.mono c.e)
end
end K03
set_option maxRecDepth 100000
set_option maxHeartbeats 1000000
namespace K03
open PySem PySem.Spec PyProof.Rows L2 VX Way
local macro_rules | `(tactic| walk_at "ne") => `(tactic| first
  | assumption
  | exact Ne.symm (by assumption)
  | exact ne_of_none (by assumption) (by assumption)
  | exact Ne.symm (ne_of_none (by assumption) (by assumption))
  | ((with_reducible refine' ne_of_none ?n1 ?n2); (case n2 => assumption); (case n1 => walk_at "lk"))
  | ((with_reducible refine' Ne.symm (ne_of_none ?n1 ?n2)); (case n2 => assumption); (case n1 => walk_at "lk")))
local macro_rules | `(tactic| walk_at "lk") => `(tactic| first
  | assumption
  | (with_reducible exact upd_same)
  | ((with_reducible refine' (upd_ne ?nn).trans ?ll); (case nn => walk_at "ne"); (case ll => walk_at "lk"))
  | ((with_reducible refine' VX.same_at ?nn ?ll); (case nn => assumption); (case ll => walk_at "lk")))
local macro_rules | `(tactic| walk_at "dp") => `(tactic| first
  | assumption
  | (with_reducible exact Dp.non)
  | (with_reducible exact Dp.bl _)
  | (with_reducible exact Dp.int _)
  | (with_reducible exact Dp.str _)
  | ((with_reducible refine' VX.Dp.mono' ?dd (same_new ?nn)); (case nn => assumption); (case dd => walk_at "dp"))
  | ((with_reducible refine' VX.Dp.mono' ?dd ?nn); (case nn => assumption); (case dd => walk_at "dp")))
local macro_rules | `(tactic| walk_at "sq") => `(tactic| first
  | assumption
  | (with_reducible exact SqL.of (by assumption))
  | (with_reducible exact SqT.of (by assumption))
  | ((with_reducible refine' Same.seq (same_new ?nn) ?qq); (case nn => assumption); (case qq => walk_at "sq"))
  | ((with_reducible refine' same_sqT (same_new ?nn) ?qq); (case nn => assumption); (case qq => walk_at "sq"))
  | ((with_reducible refine' Same.seq ?nn ?qq); (case nn => assumption); (case qq => walk_at "sq"))
  | ((with_reducible refine' same_sqT ?nn ?qq); (case nn => assumption); (case qq => walk_at "sq"))
  | ((with_reducible refine' SqL.of ?qq); (case qq => walk_at "lk"))
  | ((with_reducible refine' SqT.of ?qq); (case qq => walk_at "lk")))
local macro_rules | `(tactic| walk_at "cc") => `(tactic| first
  | exact ⟨by decide, by decide, by decide⟩
  | (show _ ≠ _; omega)
  | exact ⟨by omega, by omega⟩
  | exact Or.inl ⟨by omega, by omega⟩
  | exact Or.inr ⟨by omega, by omega⟩)
local macro_rules | `(tactic| walk_at "vcA") => `(tactic| repeat (first
  | ((with_reducible refine' VX.i_modA ?v1 ?_); (case v1 => omega); intro r hr0 hr1)
  | ((with_reducible refine' VX.i_divA ?v1 ?v2 ?_); (case v1 => omega); (case v2 => omega); intro r hr0 hr1)
  | walk_at "vc1"))
local macro_rules | `(tactic| walk_at "vc1") => `(tactic| first
  | ((with_reducible refine' VX.i_var ?v1 ?_); (case v1 => rfl))
  | (with_reducible refine' VX.i_c ?_)
  | (with_reducible refine' VX.i_op ?_)
  | (with_reducible refine' VX.i_cons ?_)
  | (with_reducible refine' VX.i_nil ?_)
  | (with_reducible refine' VX.i_seq ?_)
  | (with_reducible refine' VX.i_asg ?_)
  | ((with_reducible refine' VX.i_gname ?v2 ?_); (case v2 => (first | (simp only [List.set_cons_zero, List.set_cons_succ]; done) | (simp only [List.set_cons_zero, List.set_cons_succ]; exact rfl) | exact rfl)))
  | (with_reducible refine' VX.i_ifS ?_)
  | (with_reducible refine' VX.i_test ?_)
  | (with_reducible refine' VX.i_tB ?_)
  | (with_reducible refine' VX.i_bl ?_)
  | (with_reducible refine' VX.i_iteT ?_)
  | (with_reducible refine' VX.i_iteF ?_)
  | (with_reducible refine' VX.i_iteNT ?_)
  | (with_reducible refine' VX.i_iteNF ?_)
  | (with_reducible refine' VX.i_and ?_)
  | (with_reducible refine' VX.i_or ?_)
  | (with_reducible refine' VX.i_not ?_)
  | (with_reducible refine' VX.i_call ?_)
  | (with_reducible refine' VX.i_CB ?_)
  | (with_reducible refine' VX.i_make ?_)
  | (with_reducible refine' VX.i_makeK0 ?_)
  | (with_reducible refine' VX.i_mthK ?_)
  | (with_reducible refine' VX.i_mthS ?_)
  | (with_reducible refine' VX.i_meth ?_)
  | ((with_reducible refine' VX.i_ixL ?v1 ?v2 ?_); (case v1 => walk_at "sq"); (case v2 => first | rfl | assumption))
  | ((with_reducible refine' VX.i_ixT ?v1 ?v2 ?_); (case v1 => walk_at "sq"); (case v2 => first | rfl | assumption))
  | ((with_reducible refine' VX.i_setLU ?v2 ?v3 ?_); (case v2 => rfl); (case v3 => rfl))
  | ((with_reducible refine' VX.i_setL ?v1 ?v2 ?v3 ?_); (case v1 => walk_at "lk"); (case v2 => rfl); (case v3 => rfl))
  | (with_reducible refine' VX.i_rI0 ?_)
  | ((with_reducible refine' VX.i_rI ?v1 ?_); (case v1 => walk_at "cc"))
  | (with_reducible refine' VX.i_int ?_)
  | ((with_reducible refine' VX.i_rEqS ?v1 ?_); (case v1 => rfl))
  | ((with_reducible refine' VX.i_rNeS ?v1 ?_); (case v1 => rfl))
  | (with_reducible refine' VX.i_rEqI ?_)
  | (with_reducible refine' VX.i_rNeI ?_)
  | (with_reducible refine' VX.i_max2 ?_)
  | (with_reducible refine' VX.i_min2 ?_)
  | ((with_reducible refine' VX.i_lenL ?v1 ?_); (case v1 => walk_at "sq"))
  | ((with_reducible refine' VX.i_lenT ?v1 ?_); (case v1 => walk_at "sq"))
  | (with_reducible refine' VX.i_chain ?_)
  | (with_reducible refine' VX.i_gsub ?_)
  | (with_reducible refine' VX.i_ret ?_)
  | (with_reducible refine' VX.i_drop ?_)
  | (with_reducible refine' VX.i_next ?_)
  | (with_reducible refine' VX.i_retN ?_)
  | (with_reducible refine' VX.i_andV ?_)
  | (with_reducible refine' VX.i_orV ?_)
  | (with_reducible refine' VX.i_notV ?_)
  | (with_reducible refine' VX.i_ifE ?_)
  | (with_reducible refine' VX.i_un ?_)
  | (with_reducible refine' VX.i_rU ?_)
  | (with_reducible refine' VX.i_tup ?_)
  | (with_reducible refine' VX.i_lst ?_)
  | ((with_reducible refine' VX.i_fldv ?v1 ?v2 ?v3 ?v4 ?v5 ?_); (case v1 => rfl); (case v2 => walk_at "lk"); (case v3 => walk_at "cl"); (case v4 => walk_at "na"); (case v5 => first | rfl | assumption))
  | (with_reducible refine' VX.i_fld ?_)
  | (with_reducible refine' VX.i_sFld ?_)
  | (with_reducible refine' VX.i_mk1 ?_)
  | (with_reducible refine' VX.i_mk1v ?_)
  | (with_reducible refine' VX.i_gnil ?_)
  | (with_reducible refine' VX.i_lc ?_)
  | (with_reducible refine' VX.i_for ?_)
  | (with_reducible refine' VX.i_lstRg ?_)
  | (with_reducible refine' VX.i_rg2 ?_)
  | (with_reducible refine' VX.i_rg2v ?_)
  | (with_reducible refine' VX.i_yes ?_)
  | (with_reducible refine' VX.i_iList ?_)
  | (with_reducible refine' VX.i_iRng1 ?_)
  | (with_reducible refine' VX.i_iRng2 ?_)
  | (with_reducible refine' VX.i_iEnum ?_)
  | (with_reducible refine' VX.i_iZip ?_)
  | (with_reducible refine' VX.i_iOwn ?_)
  | ((with_reducible refine' VX.i_wipe ?v1 ?_); (case v1 => rfl))
  | (with_reducible refine' VX.i_andN ?_)
  | (with_reducible refine' VX.i_iteNDS ?_)
  | (with_reducible refine' VX.i_bm ?_)
  | ((with_reducible refine' VX.i_tyL ?v1 ?_); (case v1 => walk_at "sq"))
  | ((with_reducible refine' VX.i_append ?v1 ?v2 ?_); (case v1 => walk_at "lk"); (case v2 => (simp only [List.length_map, List.length_cons, List.length_nil, List.length_append]; omega)))
  | ((with_reducible refine' VX.i_iteDT ?v1 ?_); (case v1 => rfl))
  | ((with_reducible refine' VX.i_iteDF ?v1 ?_); (case v1 => intro h; cases h))
  | ((with_reducible refine' VX.i_isiD ?v1 ?v2 ?_); (case v1 => walk_at "dp"); (case v2 => decide))
  | ((with_reducible refine' VX.i_iteBT ?v1 ?_); (case v1 => rfl))
  | ((with_reducible refine' VX.i_iteBF ?v1 ?_); (case v1 => rfl))
  | (with_reducible refine' VX.i_gcons ?_)
  | (with_reducible refine' VX.i_dIn ?_)
  | (with_reducible refine' VX.i_dNotIn ?_)
  | (with_reducible refine' VX.i_dGet ?_)
  | (with_reducible refine' VX.i_items ?_)
  | (with_reducible refine' VX.i_keys ?_)
  | ((with_reducible refine' VX.i_gtup ?v1 ?v2 ?_); (case v1 => walk_at "sq"); (case v2 => rfl)))
local macro_rules | `(tactic| walk_at "vc") => `(tactic| repeat walk_at "vc1")

local macro_rules | `(tactic| walk_at "cl") => `(tactic| exact Txt.cl_Line (by assumption))
local macro_rules | `(tactic| walk_at "na") => `(tactic| first | exact Txt.na_Line_size (by assumption) | exact Txt.na_Line__spans (by assumption) | exact Txt.na_Line__mosts (by assumption))
theorem Cxs.take {H : Hp} {d : Addr} {u : HO} (h : H d = some u) : Cxs (del H d) [(d, u)] H := by
  refine ⟨fun b o e => ?_, fun x hx => ?_, fun x hx => ?_, by simp⟩
  · by_cases z : b = d
    · subst z
      rw [del_same] at e
      cases e
    · rwa [del_ne z] at e
  · rw [List.mem_singleton] at hx
    subst hx
    exact del_same
  · rw [List.mem_singleton] at hx
    subst hx
    exact h
/-- what stood, and is there again, stands -/
theorem Cxs.back {F H H' : Hp} {d : Addr} {u : HO} {T : List (Addr × HO)} (h : H d = some u) (e : Same (del H d) F) (c : Cxs F T H') (hd : H' d = some u) : Same H H' := fun b o q => by
  by_cases z : b = d
  · subst z
    exact hd.trans (h.symm.trans q)
  · exact c.e _ _ (e _ _ (by rwa [del_ne z]))
theorem i_whl {c : TT} {tb : TS} {D : Ends} {σ : L2.St} {H : Hp} (q : ∃ W : Nat → L2.St → Hp → Prop, (∃ m, W m σ H) ∧ ∀ m σ H, W m σ H →
  c σ H fun b H1 => if b = true then ∃ N : L2.St → Hp → Prop, (∀ σ' H', N σ' H' → ∃ m', m' < m ∧ W m' σ' H') ∧ tb { D with nx := N, ct := N, bk := D.nx } σ H1 else D.nx σ H1) : tWhile c tb D σ H := q
theorem i_setDK {H : Hp} {Q : Hp → Prop} {a : Addr} {kvs : List (L2.Key × V)} {s : Int} {v : V} (e : H a = some (.dK kvs)) (hl : kvs.length ≤ 1000) (q : Q (upd H a (.dK (putK kvs (.inl s) v)))) : rSetD (.ref a) (.int s) v H Q :=
  ⟨a, _, rfl, DPut.k (k := .inl s) e (lenB' hl), q⟩
theorem di_get {H : Hp} {a : Addr} {kvs : List (L2.Key × V)} {ks : List Int} {d : Int → Option Int} {v : Int} {o : Option Int} (e : H a = some (.dK kvs)) (x : DI kvs ks d) (h : d v = o) : DGet H a (.int v) (o.map V.int) := by
  have g : DGet H a (kV (.inl v)) (valV kvs (.inl v)) := DGet.k e
  rw [x.val v, h] at g
  exact g
theorem DI.one (b : Int) : DI [(.inl b, .int 0)] [b] (set1 (fun _ => none) b 0) := by
  refine ⟨rfl, fun v => ?_, by simp, fun v => ?_⟩
  · by_cases e : v = b
    · subst e
      rw [set1_same]
      exact valV_pos rfl
    · rw [set1_ne e, valV_neg (fun z => e (Sum.inl.inj z).symm)]
      rfl
  · rw [List.mem_singleton]
    by_cases e : v = b
    · subst e
      rw [set1_same]
      exact ⟨fun _ => ⟨_, rfl⟩, fun _ => rfl⟩
    · rw [set1_ne e]
      exact ⟨fun z => absurd z e, fun ⟨_, z⟩ => nomatch z⟩
theorem SI.one {E : List Ed} {b : Int} {n M : Nat} (b0 : 0 ≤ b) (b1 : b < n) : SI E b n M [b] (set1 (fun _ => none) b 0) := by
  refine ⟨fun v h hv => ?_, set1_same, fun v hv => ?_, fun v h hv => ?_⟩
  · by_cases e : v = b
    · subst e
      rw [set1_same] at hv
      cases hv
      exact ⟨_, .one _⟩
    · rw [set1_ne e] at hv
      cases hv
  · rw [List.mem_singleton] at hv
    subst hv
    exact ⟨b0, b1⟩
  · by_cases e : v = b
    · subst e
      rw [set1_same] at hv
      cases hv
      simp
    · rw [set1_ne e] at hv
      cases hv
section
variable {P : Program} {w : World} {K : PySem.W.Frag} {mg : Str → Option Value} {base : Heap} {A : Adr}
/-- what is asked of the edges -/
structure EOk (n M : Nat) (E : List Ed) : Prop where
  pos : ∀ e ∈ E, 1 ≤ e.2.2 ∧ e.2.2 ≤ M
  src : ∀ e ∈ E, 0 ≤ e.1 ∧ e.1 < n
  len : E.length ≤ 1000
  n1 : n ≤ 1000
/-- before each round of the search -/
def WS (H : Hp) (Dc D : Addr) (js : List (List L2.Key × V)) (E : List Ed) (b : Int) (n M : Nat) (m : Nat) (σ : L2.St) (H' : Hp) : Prop := ∃ (g : Bool) (kvs : List (L2.Key × V)) (ks : List Int) (d : Int → Option Int) (y4 y5 y6 : Option V), σ = [some (V.int b), some (.ref Dc), some (.ref D), some (.bl g), y4, y5, y6] ∧
  Cxs (del H Dc) [(D, .dK kvs), (Dc, .dT js)] H' ∧ DI kvs ks d ∧ SI E b n M ks d ∧ (g = false → Sums E b d) ∧ m = 2 * mu d (n * M) n + (if g = true then 1 else 0)
def Clo (d : Int → Option Int) (e : Ed) : Prop := ∀ h, d e.2.1 = some h → ∃ h', d e.1 = some h' ∧ h' ≤ h + e.2.2
/-- within a round -/
def PS (H : Hp) (Dc D : Addr) (js : List (List L2.Key × V)) (E : List Ed) (b : Int) (n M : Nat) (od : Obj) (d0 : Int → Option Int) (i : Nat) (σ : L2.St) (H' : Hp) : Prop := ∃ (g : Bool) (kvs : List (L2.Key × V)) (ks : List Int) (d : Int → Option Int) (y4 y5 y6 : Option V), σ = [some (V.int b), some (.ref Dc), some (.ref D), some (.bl g), y4, y5, y6] ∧
  Cxs (del H Dc) [(D, .dK kvs), (Dc, .frz od (.dT js))] H' ∧ DI kvs ks d ∧ SI E b n M ks d ∧ mu d (n * M) n ≤ mu d0 (n * M) n ∧ (g = true → mu d (n * M) n < mu d0 (n * M) n) ∧ (g = false → ∀ e ∈ E.take i, Clo d e)
def spSums : Sp := fun vs H Q _ => ∃ (b : Int) (Dc : Addr) (n M : Nat) (E : List Ed) (js : List (List L2.Key × V)), vs = [.int b, .ref Dc] ∧ 0 ≤ b ∧ b < n ∧ EOk n M E ∧ H Dc = some (.dT js) ∧ KVs ek Pe H js E ∧
  ∀ D H' kvs ks d, Same H H' → H D = none → H' D = some (.dK kvs) → DI kvs ks d → Sums E b d → (∀ v ∈ ks, 0 ≤ v ∧ v < n) → Q (.ref D) H'
theorem ok_sums_to (T : Txt K mg A) : FnOk P w K mg base CX0 2 A.f_sums_to A.d_sums_to ["target", "costs"] spSums := by
  refine T.F_sums_to.ok sc_sums_to (fun vs H Q E h => ?_) (fun cdv A' outer s H vs Q E0' hr h => ?_)
  · obtain ⟨b, Dc, n, M, E, js, rfl, _⟩ := h
    rfl
  · obtain ⟨b, Dc, n, M, E, js, rfl, b0, b1, eo, hc, hj, q⟩ := h
    have lj := hj.len
    refine ⟨_, (pss_cons (ps_set (i := 2) sc_sums_to.nd rfl (Or.inl rfl) (pe_disp (pps_cons (pv 0) pe_int pps_nil) rfl rfl (fun h => nomatch h) (by decide)))
      (pss_cons (ps_set (i := 3) sc_sums_to.nd rfl (Or.inl rfl) pe_bl)
      (pss_cons (ps_while PassesOwn.never (pt_val (pv 3)) (pss_cons (ps_set (i := 3) sc_sums_to.nd rfl (Or.inl rfl) pe_bl)
      (pss_one (ps_lock (ps_for PassesOwn.never rfl (pi_itemsT (pv 1)) (pg_tup rfl (pgs_cons (pg_tup rfl (pgs_cons (pg_name (i := 4) sc_sums_to.nd rfl (Or.inl rfl)) (pgs_cons (pg_name (i := 5) sc_sums_to.nd rfl (Or.inl rfl)) pgs_nil))) (pgs_cons (pg_name (i := 6) sc_sums_to.nd rfl (Or.inl rfl)) pgs_nil)))
      (pss_one (ps_if (PW.pt (pw_and (pt_cmp (pc_din (hu_of hr) (pv 5) (pv 2))) (pw_and1 (PW.pt (pw_or (pt_cmp (pc_dnotin (hu_of hr) (pv 4) (pv 2))) (pw_or1 (pt_cmpR op_lt (pe_op op_add (pe_dget (hu_of hr) (pv 2) (pv 5) (fun _ _ => rfl)) (pv 6)) (pe_dget (hu_of hr) (pv 2) (pv 4) (fun _ _ => rfl)) (nomark _)))))))) (pss_cons (ps_asg (pe_op op_add (pe_dget (hu_of hr) (pv 2) (pv 5) (fun _ _ => rfl)) (pv 6)) (pg_sub (pv 2) (pv 4) (set_dict (hu_of hr))))
      (pss_one (ps_set (i := 3) sc_sums_to.nd rfl (Or.inl rfl) pe_bl))) pss_nil)))))))
      (pss_one (ps_ret (pv 2)))))), ?_⟩
    refine i_start (σ' := [some (V.int b), some (.ref Dc), none, none, none, none, none]) rfl ?_
    walk_at "vc"
    intro D nD
    have x0 := (Cxs.take hc).push (.dK []) nD
    refine ⟨.int b, rfl, upd_same, [(.inl b, .int 0)], rfl, show 1 ≤ 15 by decide, ?_⟩
    have x1 : Cxs (del H Dc) [(D, .dK [(.inl b, .int 0)]), (Dc, .dT js)] _ := x0.turn 0 rfl (.dK (mergeK [] [(.inl b, .int 0)]))
    walk_at "vc"
    refine i_whl ⟨WS H Dc D js E b n M, ⟨_, true, _, _, _, none, none, none, rfl, x1, DI.one b, SI.one b0 b1, fun z => (nomatch z), rfl⟩, fun m σ H1 pv => ?_⟩
    obtain ⟨g, kvs, ks, d, y4, y5, y6, rfl, x, hd, si, cl, rfl⟩ := pv
    walk_at "vc"
    cases g with
    | false =>
      walk_at "vc"
      exact q D H1 kvs ks d (Cxs.back hc (Same.refl _) x (x.at 1 rfl)) nD (x.at 0 rfl) hd (cl rfl) si.rng
    | true =>
      refine i_iteT ⟨fun σ' H' => ∃ m', m' < 2 * mu d (n * M) n + (if true = true then 1 else 0) ∧ WS H Dc D js E b n M m' σ' H', fun _ _ z => z, ?_⟩
      walk_at "vc"
      refine ⟨Dc, .dT js, x.at 1 rfl, True.intro, fun od => ?_⟩
      have x : Cxs (del H Dc) [(D, .dK kvs), (Dc, .frz od (.dT js))] _ := x.turn 1 rfl (.frz od (.dT js))
      walk_at "vc"
      refine ⟨Dc, od, js, rfl, x.at 1 rfl, ?_⟩
      refine for_it walk_itemsT (PS H Dc D js E b n M od d) ⟨false, _, _, _, _, _, _, rfl, x, hd, si, Nat.le_refl _, fun z => (nomatch z), fun _ e he => (nomatch he)⟩ (fun i σ' H' _ pv => ?_) (fun i y σ' H2 H3 hi pv hy => ?_) fun σ' H' pv => ?_
      · obtain ⟨_, _, _, _, _, _, _, _, x, _⟩ := pv
        exact x.at 1 rfl
      · obtain ⟨g, kvs, ks, d1, y4, y5, y6, rfl, x, hd, si, le, lt, cl⟩ := pv
        obtain ⟨T1, k, v, q1, hk, rfl, hq, nT, rfl⟩ := hy
        have hi' : i < E.length := by omega
        have hu : E[i]? = some E[i] := List.getElem?_eq_getElem hi'
        obtain ⟨v', hv', pv⟩ := hj.at hu
        rw [hk] at hv'
        cases hv'
        have hE : E[i] ∈ E := List.getElem_mem hi'
        have st : E.take (i + 1) = E.take i ++ [E[i]] := by
          rw [List.take_add_one, hu]
          rfl
        generalize E[i] = ed at hq hE st pv
        obtain ⟨s_, t_, c_⟩ := ed
        have pv : v = .int c_ := pv
        subst pv
        have x := x.fresh (.tup [.ref q1, .int c_]) nT
        have hq : SqT K (upd H2 T1 (.tup [.ref q1, .int c_])) q1 [.int s_, .int t_] := SqT.of (same_new nT _ _ hq)
        have lk : kvs.length ≤ 1000 := by
          have := nodup_short n hd.nd si.rng
          have := hd.len
          have := eo.n1
          omega
        have keep : Clo d1 (s_, t_, c_) → g = false → ∀ e ∈ E.take (i + 1), Clo d1 e := fun h gf e he => by
          rw [st, List.mem_append, List.mem_singleton] at he
          rcases he with he | rfl
          · exact cl gf e he
          · exact h
        refine i_gtup (SqT.of upd_same) rfl ?_
        walk_at "vc"
        cases dt : d1 t_ with
        | none =>
          refine ⟨D, _, rfl, di_get (x.at 0 rfl) hd dt, ?_⟩
          walk_at "vc"
          exact ⟨g, kvs, ks, d1, _, _, _, rfl, x, hd, si, le, lt, keep fun h z => by
            have z : d1 t_ = some h := z
            rw [dt] at z
            cases z⟩
        | some k =>
          have put : (∀ h, d1 s_ = some h → k + c_ < h) → PS H Dc D js E b n M od d (i + 1) [some (V.int b), some (.ref Dc), some (.ref D), some (.bl true), some (.int s_), some (.int t_), some (.int c_)] (upd (upd H2 T1 (.tup [.ref q1, .int c_])) D (.dK (putK kvs (.inl s_) (.int (k + c_))))) := fun hs => by
            obtain ⟨si2, l2⟩ := si.put hd eo.pos eo.src hE dt hs
            exact ⟨true, _, _, _, _, _, _, rfl, x.turn 0 rfl _, hd.put s_ (k + c_), si2, by omega, fun _ => by omega, fun z => nomatch z⟩
          refine ⟨D, _, rfl, di_get (x.at 0 rfl) hd dt, ?_⟩
          walk_at "vc"
          cases ds : d1 s_ with
          | none =>
            refine ⟨D, _, rfl, di_get (x.at 0 rfl) hd ds, ?_⟩
            walk_at "vc"
            refine ⟨D, _, rfl, di_get (x.at 0 rfl) hd dt, ?_⟩
            walk_at "vc"
            refine i_setDK (x.at 0 rfl) lk ?_
            walk_at "vc"
            exact put fun h z => by
              rw [ds] at z
              cases z
          | some h =>
            refine ⟨D, _, rfl, di_get (x.at 0 rfl) hd ds, ?_⟩
            walk_at "vc"
            refine ⟨D, _, rfl, di_get (x.at 0 rfl) hd dt, ?_⟩
            walk_at "vc"
            refine ⟨D, _, rfl, di_get (x.at 0 rfl) hd ds, ?_⟩
            walk_at "vc"
            refine i_iteD (fun hl => ?_) (fun hl => ?_)
            · walk_at "vc"
              refine ⟨D, _, rfl, di_get (x.at 0 rfl) hd dt, ?_⟩
              walk_at "vc"
              refine i_setDK (x.at 0 rfl) lk ?_
              walk_at "vc"
              exact put fun h' z => by
                rw [ds] at z
                cases z
                exact hl
            · walk_at "vc"
              exact ⟨g, kvs, ks, d1, _, _, _, rfl, x, hd, si, le, lt, keep fun h' z => by
                have z : d1 t_ = some h' := z
                rw [dt] at z
                cases z
                exact ⟨h, ds, by show h ≤ k + c_; omega⟩⟩
      · obtain ⟨g, kvs, ks, d1, y4, y5, y6, rfl, x, hd, si, le, lt, cl⟩ := pv
        refine ⟨x.at 1 rfl, _, ?_, g, kvs, ks, d1, _, _, _, rfl, x.turn 1 rfl (.dT js), hd, si, fun gf => ⟨si.sound, si.tgt, fun s t c h he ht => ?_⟩, rfl⟩
        · cases g with
          | true =>
            have := lt rfl
            show 2 * _ + 1 < 2 * _ + 1
            omega
          | false =>
            show 2 * _ + 0 < 2 * _ + 1
            omega
        · have cl := cl gf
          rw [List.take_of_length_le (by omega)] at cl
          exact cl _ he h ht
end
end K03
set_option maxRecDepth 100000
set_option maxHeartbeats 1000000
namespace K03
open PySem PySem.Spec PyProof.Rows L2 VX Way
local macro_rules | `(tactic| walk_at "ne") => `(tactic| first
  | assumption
  | exact Ne.symm (by assumption)
  | exact ne_of_none (by assumption) (by assumption)
  | exact Ne.symm (ne_of_none (by assumption) (by assumption))
  | ((with_reducible refine' ne_of_none ?n1 ?n2); (case n2 => assumption); (case n1 => walk_at "lk"))
  | ((with_reducible refine' Ne.symm (ne_of_none ?n1 ?n2)); (case n2 => assumption); (case n1 => walk_at "lk")))
local macro_rules | `(tactic| walk_at "lk") => `(tactic| first
  | assumption
  | (with_reducible exact upd_same)
  | ((with_reducible refine' (upd_ne ?nn).trans ?ll); (case nn => walk_at "ne"); (case ll => walk_at "lk"))
  | ((with_reducible refine' VX.same_at ?nn ?ll); (case nn => assumption); (case ll => walk_at "lk")))
local macro_rules | `(tactic| walk_at "dp") => `(tactic| first
  | assumption
  | (with_reducible exact Dp.non)
  | (with_reducible exact Dp.bl _)
  | (with_reducible exact Dp.int _)
  | (with_reducible exact Dp.str _)
  | ((with_reducible refine' VX.Dp.mono' ?dd (same_new ?nn)); (case nn => assumption); (case dd => walk_at "dp"))
  | ((with_reducible refine' VX.Dp.mono' ?dd ?nn); (case nn => assumption); (case dd => walk_at "dp")))
local macro_rules | `(tactic| walk_at "sq") => `(tactic| first
  | assumption
  | (with_reducible exact SqL.of (by assumption))
  | (with_reducible exact SqT.of (by assumption))
  | ((with_reducible refine' Same.seq (same_new ?nn) ?qq); (case nn => assumption); (case qq => walk_at "sq"))
  | ((with_reducible refine' same_sqT (same_new ?nn) ?qq); (case nn => assumption); (case qq => walk_at "sq"))
  | ((with_reducible refine' Same.seq ?nn ?qq); (case nn => assumption); (case qq => walk_at "sq"))
  | ((with_reducible refine' same_sqT ?nn ?qq); (case nn => assumption); (case qq => walk_at "sq"))
  | ((with_reducible refine' SqL.of ?qq); (case qq => walk_at "lk"))
  | ((with_reducible refine' SqT.of ?qq); (case qq => walk_at "lk")))
local macro_rules | `(tactic| walk_at "cc") => `(tactic| first
  | exact ⟨by decide, by decide, by decide⟩
  | (show _ ≠ _; omega)
  | exact ⟨by omega, by omega⟩
  | exact Or.inl ⟨by omega, by omega⟩
  | exact Or.inr ⟨by omega, by omega⟩)
local macro_rules | `(tactic| walk_at "vcA") => `(tactic| repeat (first
  | ((with_reducible refine' VX.i_modA ?v1 ?_); (case v1 => omega); intro r hr0 hr1)
  | ((with_reducible refine' VX.i_divA ?v1 ?v2 ?_); (case v1 => omega); (case v2 => omega); intro r hr0 hr1)
  | walk_at "vc1"))
local macro_rules | `(tactic| walk_at "vc1") => `(tactic| first
  | ((with_reducible refine' VX.i_var ?v1 ?_); (case v1 => rfl))
  | (with_reducible refine' VX.i_c ?_)
  | (with_reducible refine' VX.i_op ?_)
  | (with_reducible refine' VX.i_cons ?_)
  | (with_reducible refine' VX.i_nil ?_)
  | (with_reducible refine' VX.i_seq ?_)
  | (with_reducible refine' VX.i_asg ?_)
  | ((with_reducible refine' VX.i_gname ?v2 ?_); (case v2 => (first | (simp only [List.set_cons_zero, List.set_cons_succ]; done) | (simp only [List.set_cons_zero, List.set_cons_succ]; exact rfl) | exact rfl)))
  | (with_reducible refine' VX.i_ifS ?_)
  | (with_reducible refine' VX.i_test ?_)
  | (with_reducible refine' VX.i_tB ?_)
  | (with_reducible refine' VX.i_bl ?_)
  | (with_reducible refine' VX.i_iteT ?_)
  | (with_reducible refine' VX.i_iteF ?_)
  | (with_reducible refine' VX.i_iteNT ?_)
  | (with_reducible refine' VX.i_iteNF ?_)
  | (with_reducible refine' VX.i_and ?_)
  | (with_reducible refine' VX.i_or ?_)
  | (with_reducible refine' VX.i_not ?_)
  | (with_reducible refine' VX.i_call ?_)
  | (with_reducible refine' VX.i_CB ?_)
  | (with_reducible refine' VX.i_make ?_)
  | (with_reducible refine' VX.i_makeK0 ?_)
  | (with_reducible refine' VX.i_mthK ?_)
  | (with_reducible refine' VX.i_mthS ?_)
  | (with_reducible refine' VX.i_meth ?_)
  | ((with_reducible refine' VX.i_ixL ?v1 ?v2 ?_); (case v1 => walk_at "sq"); (case v2 => first | rfl | assumption))
  | ((with_reducible refine' VX.i_ixT ?v1 ?v2 ?_); (case v1 => walk_at "sq"); (case v2 => first | rfl | assumption))
  | ((with_reducible refine' VX.i_setLU ?v2 ?v3 ?_); (case v2 => rfl); (case v3 => rfl))
  | ((with_reducible refine' VX.i_setL ?v1 ?v2 ?v3 ?_); (case v1 => walk_at "lk"); (case v2 => rfl); (case v3 => rfl))
  | (with_reducible refine' VX.i_rI0 ?_)
  | ((with_reducible refine' VX.i_rI ?v1 ?_); (case v1 => walk_at "cc"))
  | (with_reducible refine' VX.i_int ?_)
  | ((with_reducible refine' VX.i_rEqS ?v1 ?_); (case v1 => rfl))
  | ((with_reducible refine' VX.i_rNeS ?v1 ?_); (case v1 => rfl))
  | (with_reducible refine' VX.i_rEqI ?_)
  | (with_reducible refine' VX.i_rNeI ?_)
  | (with_reducible refine' VX.i_max2 ?_)
  | (with_reducible refine' VX.i_min2 ?_)
  | ((with_reducible refine' VX.i_lenL ?v1 ?_); (case v1 => walk_at "sq"))
  | ((with_reducible refine' VX.i_lenT ?v1 ?_); (case v1 => walk_at "sq"))
  | (with_reducible refine' VX.i_chain ?_)
  | (with_reducible refine' VX.i_gsub ?_)
  | (with_reducible refine' VX.i_ret ?_)
  | (with_reducible refine' VX.i_drop ?_)
  | (with_reducible refine' VX.i_next ?_)
  | (with_reducible refine' VX.i_retN ?_)
  | (with_reducible refine' VX.i_andV ?_)
  | (with_reducible refine' VX.i_orV ?_)
  | (with_reducible refine' VX.i_notV ?_)
  | (with_reducible refine' VX.i_ifE ?_)
  | (with_reducible refine' VX.i_un ?_)
  | (with_reducible refine' VX.i_rU ?_)
  | (with_reducible refine' VX.i_tup ?_)
  | (with_reducible refine' VX.i_lst ?_)
  | ((with_reducible refine' VX.i_fldv ?v1 ?v2 ?v3 ?v4 ?v5 ?_); (case v1 => rfl); (case v2 => walk_at "lk"); (case v3 => walk_at "cl"); (case v4 => walk_at "na"); (case v5 => first | rfl | assumption))
  | (with_reducible refine' VX.i_fld ?_)
  | (with_reducible refine' VX.i_sFld ?_)
  | (with_reducible refine' VX.i_mk1 ?_)
  | (with_reducible refine' VX.i_mk1v ?_)
  | (with_reducible refine' VX.i_gnil ?_)
  | (with_reducible refine' VX.i_lc ?_)
  | (with_reducible refine' VX.i_for ?_)
  | (with_reducible refine' VX.i_lstRg ?_)
  | (with_reducible refine' VX.i_rg2 ?_)
  | (with_reducible refine' VX.i_rg2v ?_)
  | (with_reducible refine' VX.i_yes ?_)
  | (with_reducible refine' VX.i_iList ?_)
  | (with_reducible refine' VX.i_iRng1 ?_)
  | (with_reducible refine' VX.i_iRng2 ?_)
  | (with_reducible refine' VX.i_iEnum ?_)
  | (with_reducible refine' VX.i_iZip ?_)
  | (with_reducible refine' VX.i_iOwn ?_)
  | ((with_reducible refine' VX.i_wipe ?v1 ?_); (case v1 => rfl))
  | (with_reducible refine' VX.i_andN ?_)
  | (with_reducible refine' VX.i_iteNDS ?_)
  | (with_reducible refine' VX.i_bm ?_)
  | ((with_reducible refine' VX.i_tyL ?v1 ?_); (case v1 => walk_at "sq"))
  | ((with_reducible refine' VX.i_append ?v1 ?v2 ?_); (case v1 => walk_at "lk"); (case v2 => (simp only [List.length_map, List.length_cons, List.length_nil, List.length_append]; omega)))
  | ((with_reducible refine' VX.i_iteDT ?v1 ?_); (case v1 => rfl))
  | ((with_reducible refine' VX.i_iteDF ?v1 ?_); (case v1 => intro h; cases h))
  | ((with_reducible refine' VX.i_isiD ?v1 ?v2 ?_); (case v1 => walk_at "dp"); (case v2 => decide))
  | ((with_reducible refine' VX.i_iteBT ?v1 ?_); (case v1 => rfl))
  | ((with_reducible refine' VX.i_iteBF ?v1 ?_); (case v1 => rfl))
  | (with_reducible refine' VX.i_gcons ?_)
  | (with_reducible refine' VX.i_dIn ?_)
  | (with_reducible refine' VX.i_dNotIn ?_)
  | (with_reducible refine' VX.i_dGet ?_)
  | (with_reducible refine' VX.i_items ?_)
  | (with_reducible refine' VX.i_keys ?_)
  | ((with_reducible refine' VX.i_gtup ?v1 ?v2 ?_); (case v1 => walk_at "sq"); (case v2 => rfl)))
local macro_rules | `(tactic| walk_at "vc") => `(tactic| repeat walk_at "vc1")

local macro_rules | `(tactic| walk_at "cl") => `(tactic| exact Txt.cl_Line (by assumption))
local macro_rules | `(tactic| walk_at "na") => `(tactic| first | exact Txt.na_Line_size (by assumption) | exact Txt.na_Line__spans (by assumption) | exact Txt.na_Line__mosts (by assumption))
theorem atl {l : List Int} {v : Int} : atI ((l ++ [v]).map V.int) (-1) = some (.int v) := by
  have e : ixN ((l ++ [v]).map V.int).length (-1) = some l.length := by
    rw [List.length_map, List.length_append, List.length_singleton]
    unfold ixN
    rw [if_neg (by decide), if_pos (by omega)]
    congr 1
    omega
  unfold atI
  rw [e]
  show ((l ++ [v]).map V.int)[l.length]? = _
  rw [List.getElem?_map, List.getElem?_append_right (Nat.le_refl _), Nat.sub_self]
  rfl
/-- the edges on which a way with the least sum goes on -/
def nxB (d : Int → Option Int) (v k : Int) (e : Ed) : Bool := decide (e.1 = v) && (match d e.2.1 with | some h => decide (h + e.2.2 = k) | none => false)
theorem nxB_mem {E : List Ed} {d : Int → Option Int} {v k t : Int} (hk : d v = some k) : t ∈ (E.filter (nxB d v k)).map (·.2.1) ↔ Next E d v t := by
  constructor
  · intro h
    obtain ⟨⟨s, t', c⟩, he, rfl⟩ := List.mem_map.mp h
    obtain ⟨he2, hb⟩ := List.mem_filter.mp he
    clear he
    unfold nxB at hb
    rw [Bool.and_eq_true] at hb
    obtain ⟨h1, h2⟩ := hb
    have h1 : s = v := of_decide_eq_true h1
    subst h1
    cases dt : d t' with
    | none =>
      have h2 : (match d t' with | some h => decide (h + c = k) | none => false) = true := h2
      rw [dt] at h2
      cases h2
    | some h =>
      have h2 : (match d t' with | some h => decide (h + c = k) | none => false) = true := h2
      rw [dt] at h2
      exact ⟨c, h, k, he2, dt, hk, of_decide_eq_true h2⟩
  · rintro ⟨c, h, k', he, dt, dv, e⟩
    rw [hk] at dv
    cases dv
    refine List.mem_map.mpr ⟨(v, t, c), List.mem_filter.mpr ⟨he, ?_⟩, rfl⟩
    unfold nxB
    simp [dt, e]
theorem filter_step {α : Type} {f : α → Bool} {us : List α} {i : Nat} {u : α} (h : us[i]? = some u) : (us.take (i + 1)).filter f = (us.take i).filter f ++ (if f u = true then [u] else []) := by
  rw [List.take_add_one, h, List.filter_append]
  congr 1
  show List.filter f [u] = _
  by_cases hf : f u = true
  · rw [if_pos hf, List.filter_cons_of_pos hf]
    rfl
  · rw [if_neg hf, List.filter_cons_of_neg hf]
    rfl
section
variable {P : Program} {w : World} {K : PySem.W.Frag} {mg : Str → Option Value} {base : Heap} {A : Adr}
/-- the way so far: pre, then v -/
def LW (H : Hp) (s0 b : Int) (Dc D Dw : Addr) (js : List (List L2.Key × V)) (E : List Ed) (d : Int → Option Int) (ks : List Int) (m : Nat) (σ : L2.St) (H' : Hp) : Prop := ∃ (pre : List Int) (v k : Int) (y5 y6 y7 y8 : Option V), σ = [some (V.int s0), some (.int b), some (.ref Dc), some (.ref D), some (.ref Dw), y5, y6, y7, y8] ∧
  Cxs (del H Dc) [(Dw, .lst ((pre ++ [v]).map V.int)), (Dc, .dT js)] H' ∧ d v = some k ∧ (pre ++ [v]).Nodup ∧ (∀ u ∈ pre ++ [v], u ∈ ks) ∧ (∀ u ∈ pre, ∃ h, d u = some h ∧ k < h) ∧ (∀ r, Gr E b d v r → Gr E b d s0 (pre ++ r)) ∧ m = k.toNat
def spLWay : Sp := fun vs H Q _ => ∃ (s0 b h0 : Int) (Dc D : Addr) (n M : Nat) (E : List Ed) (js : List (List L2.Key × V)) (kvs : List (L2.Key × V)) (ks : List Int) (d : Int → Option Int), vs = [.int s0, .int b, .ref Dc, .ref D] ∧ EOk n M E ∧ H Dc = some (.dT js) ∧ KVs ek Pe H js E ∧
  H D = some (.dK kvs) ∧ DI kvs ks d ∧ Sums E b d ∧ (∀ v ∈ ks, 0 ≤ v ∧ v < n) ∧ d s0 = some h0 ∧
  ∀ Dw H' l, Same H H' → H Dw = none → H' Dw = some (.lst (l.map V.int)) → Gr E b d s0 l → l.length ≤ n → Q (.ref Dw) H'
theorem ok_least_way (T : Txt K mg A) : FnOk P w K mg base CX0 2 A.f_least_way A.d_least_way ["source", "target", "costs", "sums"] spLWay := by
  refine T.F_least_way.ok sc_least_way (fun vs H Q E h => ?_) (fun cdv A' outer s H vs Q E0' hr h => ?_)
  · obtain ⟨s0, b, h0, Dc, D, n, M, E, js, kvs, ks, d, rfl, _⟩ := h
    rfl
  · obtain ⟨s0, b, h0, Dc, D, n, M, E, js, kvs, ks, d, rfl, eo, hc, hj, hD, hd, S, rng, ds, q⟩ := h
    have lj := hj.len
    have DDc : D ≠ Dc := fun z => by
      rw [z, hc] at hD
      cases hD
    refine ⟨_, (pss_cons (ps_set (i := 4) sc_least_way.nd rfl (Or.inl rfl) (pe_lst (pa_cons (pv 0) pa_nil)))
      (pss_cons (ps_while PassesOwn.never (pt_cmpR op_ne (pe_ix (r := rIxL K) ix_list (pv 4) (pe_un un_neg pe_int) (fun _ _ => rfl)) (pv 1) (nomark _)) (pss_cons (ps_set (i := 5) sc_least_way.nd rfl (Or.inr rfl) (pe_ix (r := rIxL K) ix_list (pv 4) (pe_un un_neg pe_int) (fun _ _ => rfl)))
      (pss_one (ps_expr (pe_bm PySem.F.plainAttrs_list PySem.F.slot_list_append PySem.F.type_list_append mt_append (pv 4) (pa_cons (pe_callB (cr_min rfl) (by rfl) T.n_min (by decide +kernel) (pa_cons (pe_lock (pe_lc (own := [("start", 6), ("then", 7), ("cost", 8)]) (g := gTup _ 2 (gCons (gTup _ 2 (gCons (gName 6) (gCons (gName 7) gNil))) (gCons (gName 8) gNil))) (by rfl) sc_least_way.nd (pi_itemsT (pv 2)) (blkOk_by (N := N_least_way) (sc := defScope s_least_way) (by decide +kernel)) (fun _ _ _ _ _ => (pg_tup rfl (pgs_cons (pg_tup rfl (pgs_cons (pg_name (i := 6) sc_least_way.nd rfl (Or.inl rfl)) (pgs_cons (pg_name (i := 7) sc_least_way.nd rfl (Or.inl rfl)) pgs_nil))) (pgs_cons (pg_name (i := 8) sc_least_way.nd rfl (Or.inl rfl)) pgs_nil)))) (fun _ _ _ _ _ => (pts_one (PW.pt (pw_and (pt_cmpR op_eq (pv 6) (pv 5) (nomark _)) (pw_and (pt_cmp (pc_din (hu_of hr) (pv 7) (pv 3))) (pw_and1 (pt_cmpR op_eq (pe_op op_add (pe_dget (hu_of hr) (pv 3) (pv 7) (fun _ _ => rfl)) (pv 8)) (pe_dget (hu_of hr) (pv 3) (pv 5) (fun _ _ => rfl)) (nomark _)))))))) (fun _ _ _ _ _ => (pv 7)))) pa_nil)) pa_nil))))))
      (pss_one (ps_ret (pv 4))))), ?_⟩
    refine i_start (σ' := [some (V.int s0), some (.int b), some (.ref Dc), some (.ref D), none, none, none, none, none]) rfl ?_
    walk_at "vc"
    refine ⟨lenB rfl, fun Dw nD => ?_⟩
    have x0 := (Cxs.take hc).push (.lst [.int s0]) nD
    walk_at "vc"
    refine i_whl ⟨LW H s0 b Dc D Dw js E d ks, ⟨_, [], s0, h0, none, none, none, none, rfl, x0, ds, by simp, fun u hu => ?_, fun _ h => (nomatch h), fun _ h => h, rfl⟩, fun m σ H1 pv => ?_⟩
    · rw [List.nil_append, List.mem_singleton] at hu
      subst hu
      exact (hd.dom u).mpr ⟨_, ds⟩
    obtain ⟨pre, v, k, y5, y6, y7, y8, rfl, x, dv, nd, mem, fall, go, rfl⟩ := pv
    have hD' : ∀ {G : Hp}, Same (del H Dc) G → G D = some (.dK kvs) := fun e => e _ _ (by rw [del_ne DDc]; exact hD)
    have ln := nodup_short n nd fun u hu => rng u (mem u hu)
    have n1 := eo.n1
    walk_at "vc"
    refine i_ixL (SqL.of (x.at 0 rfl)) atl ?_
    walk_at "vc"
    refine i_iteN (fun hv => ?_) (fun hv => ?_)
    · refine ⟨fun σ' H' => ∃ m', m' < k.toNat ∧ LW H s0 b Dc D Dw js E d ks m' σ' H', fun _ _ z => z, ?_⟩
      walk_at "vc"
      refine i_ixL (SqL.of (x.at 0 rfl)) atl ?_
      walk_at "vc"
      refine i_tyL (SqL.of (x.at 0 rfl)) ?_
      walk_at "vc"
      refine i_lockE (x.at 1 rfl) fun od => ?_
      have x : Cxs (del H Dc) [(Dw, .lst ((pre ++ [v]).map V.int)), (Dc, .frz od (.dT js))] _ := x.turn 1 rfl (.frz od (.dT js))
      walk_at "vc"
      refine ⟨Dc, od, js, rfl, x.at 1 rfl, fun Dn nN => ?_⟩
      have c0 := x.push (.lst []) nN
      refine lc_it walk_itemsT (fun i H' => Cxs (del H Dc) [(Dn, .lst ((((E.take i).filter (nxB d v k)).map (·.2.1)).map V.int)), (Dw, .lst ((pre ++ [v]).map V.int)), (Dc, .frz od (.dT js))] H') c0 (fun i H' _ c => c.at 2 rfl) (fun i p H2 H3 hi c y => ?_) fun H' c => ?_
      · obtain ⟨T1, k1, v1, q1, hk, rfl, hq, nT, rfl⟩ := y
        have hi' : i < E.length := by omega
        have hu : E[i]? = some E[i] := List.getElem?_eq_getElem hi'
        obtain ⟨v', hv', pv⟩ := hj.at hu
        rw [hk] at hv'
        cases hv'
        rw [filter_step hu]
        generalize E[i] = ed at hq pv
        obtain ⟨s_, t_, c_⟩ := ed
        have pv : v1 = .int c_ := pv
        subst pv
        have c := c.fresh (.tup [.ref q1, .int c_]) nT
        have hq : SqT K (upd H2 T1 (.tup [.ref q1, .int c_])) q1 [.int s_, .int t_] := SqT.of (same_new nT _ _ hq)
        have no : nxB d v k (s_, t_, c_) = false → Cxs (del H Dc) [(Dn, .lst (((((E.take i).filter (nxB d v k)) ++ (if nxB d v k (s_, t_, c_) = true then [(s_, t_, c_)] else [])).map (·.2.1)).map V.int)), (Dw, .lst ((pre ++ [v]).map V.int)), (Dc, .frz od (.dT js))] (upd H2 T1 (.tup [.ref q1, .int c_])) := fun z => by
          rw [z, if_neg Bool.false_ne_true, List.append_nil]
          exact c
        have yes : nxB d v k (s_, t_, c_) = true → Cxs (del H Dc) [(Dn, .lst (((((E.take i).filter (nxB d v k)) ++ (if nxB d v k (s_, t_, c_) = true then [(s_, t_, c_)] else [])).map (·.2.1)).map V.int)), (Dw, .lst ((pre ++ [v]).map V.int)), (Dc, .frz od (.dT js))] (upd (upd H2 T1 (.tup [.ref q1, .int c_])) Dn (.lst ((((E.take i).filter (nxB d v k)).map (·.2.1)).map V.int ++ [.int t_]))) := fun z => by
          rw [z, if_pos rfl, List.map_append, List.map_append]
          exact c.turn 0 rfl _
        have la : ((((E.take i).filter (nxB d v k)).map (·.2.1)).map V.int).length < sizeLine := by
          refine lenB' ?_
          rw [List.length_map, List.length_map]
          have := List.length_filter_le (nxB d v k) (E.take i)
          rw [List.length_take] at this
          have := eo.len
          omega
        refine i_gtup (SqT.of upd_same) rfl ?_
        walk_at "vc"
        refine i_iteD (fun hs => ?_) (fun hs => ?_)
        · walk_at "vc"
          have hs : s_ = v := hs
          subst hs
          cases dt : d t_ with
          | none =>
            refine ⟨D, _, rfl, di_get (hD' c.e) hd dt, ?_⟩
            walk_at "vc"
            exact no (by unfold nxB; simp [dt])
          | some h =>
            refine ⟨D, _, rfl, di_get (hD' c.e) hd dt, ?_⟩
            walk_at "vc"
            refine ⟨D, _, rfl, di_get (hD' c.e) hd dt, ?_⟩
            walk_at "vc"
            refine ⟨D, _, rfl, di_get (hD' c.e) hd dv, ?_⟩
            walk_at "vc"
            refine i_iteD (fun hl => ?_) (fun hl => ?_)
            · walk_at "vc"
              exact ⟨_, c.at 0 rfl, la, yes (by unfold nxB; simp [dt, hl])⟩
            · exact no (by unfold nxB; simp [dt, hl])
        · exact no (by
            have hs : ¬ s_ = v := hs
            unfold nxB
            simp [hs])
      · rw [List.take_of_length_le (by omega)] at c
        refine ⟨c.at 2 rfl, ?_⟩
        have c : Cxs (del H Dc) [(Dn, .lst (((E.filter (nxB d v k)).map (·.2.1)).map V.int)), (Dw, .lst ((pre ++ [v]).map V.int)), (Dc, .dT js)] _ := c.turn 2 rfl (.dT js)
        have pos : 0 < ((E.filter (nxB d v k)).map (·.2.1)).length := by
          obtain ⟨t, ht⟩ := S.next dv hv
          exact List.length_pos_of_mem ((nxB_mem dv).mpr ht)
        walk_at "vc"
        refine ⟨Dn, _, rfl, SqL.of (c.at 0 rfl), pos, fun m hm hmin => ?_⟩
        walk_at "vc"
        have nx := (nxB_mem dv).mp hm
        have mn : ∀ u, Next E d v u → m ≤ u := fun u hu => hmin u ((nxB_mem dv).mpr hu)
        have pos1 : ∀ e ∈ E, 1 ≤ e.2.2 := fun e he => (eo.pos e he).1
        obtain ⟨h, k', dm, dv', lt⟩ := nx.falls pos1
        rw [dv] at dv'
        cases dv'
        have h0' : 0 ≤ h := by
          obtain ⟨l, wk⟩ := S.sound m h dm
          exact wk.nonneg pos1
        have fall' : ∀ u ∈ pre ++ [v], ∃ g, d u = some g ∧ h < g := fun u hu => by
          rw [List.mem_append, List.mem_singleton] at hu
          rcases hu with hu | rfl
          · obtain ⟨g, e1, e2⟩ := fall u hu
            exact ⟨g, e1, by omega⟩
          · exact ⟨k, dv, lt⟩
        refine i_append (c.at 1 rfl) (by rw [List.length_map]; omega) ?_
        have x2 : Cxs (del H Dc) [(Dw, .lst ((pre ++ [v] ++ [m]).map V.int)), (Dc, .dT js)] (upd (upd H' Dc (.dT js)) Dw (.lst ((pre ++ [v]).map V.int ++ [.int m]))) := by
          rw [List.map_append (l₁ := pre ++ [v])]
          exact c.drop.turn 0 rfl _
        refine ⟨h.toNat, by omega, pre ++ [v], m, h, _, _, _, _, rfl, x2, dm, ?_, fun u hu => ?_, fall', fun r g => ?_, rfl⟩
        · rw [List.nodup_append]
          refine ⟨nd, by simp, fun u hu z hz e => ?_⟩
          rw [List.mem_singleton] at hz
          obtain ⟨g, e1, e2⟩ := fall' u hu
          rw [e, hz, dm] at e1
          cases e1
          omega
        · rw [List.mem_append, List.mem_singleton] at hu
          rcases hu with hu | rfl
          · exact mem u hu
          · exact (hd.dom u).mpr ⟨h, dm⟩
        · rw [List.append_assoc]
          exact go _ (.go hv nx mn g)
    · walk_at "vc"
      have hv : v = b := hv
      subst hv
      exact q Dw H1 _ (Cxs.back hc (Same.refl _) x (x.at 1 rfl)) nD (x.at 0 rfl) (go _ .stop) ln
end
end K03
set_option maxRecDepth 100000
set_option maxHeartbeats 1000000
namespace K03
open PySem PySem.Spec PyProof.Rows L2 VX Way
local macro_rules | `(tactic| walk_at "ne") => `(tactic| first
  | assumption
  | exact Ne.symm (by assumption)
  | exact ne_of_none (by assumption) (by assumption)
  | exact Ne.symm (ne_of_none (by assumption) (by assumption))
  | ((with_reducible refine' ne_of_none ?n1 ?n2); (case n2 => assumption); (case n1 => walk_at "lk"))
  | ((with_reducible refine' Ne.symm (ne_of_none ?n1 ?n2)); (case n2 => assumption); (case n1 => walk_at "lk")))
local macro_rules | `(tactic| walk_at "lk") => `(tactic| first
  | assumption
  | (with_reducible exact upd_same)
  | ((with_reducible refine' (upd_ne ?nn).trans ?ll); (case nn => walk_at "ne"); (case ll => walk_at "lk"))
  | ((with_reducible refine' VX.same_at ?nn ?ll); (case nn => assumption); (case ll => walk_at "lk")))
local macro_rules | `(tactic| walk_at "dp") => `(tactic| first
  | assumption
  | (with_reducible exact Dp.non)
  | (with_reducible exact Dp.bl _)
  | (with_reducible exact Dp.int _)
  | (with_reducible exact Dp.str _)
  | ((with_reducible refine' VX.Dp.mono' ?dd (same_new ?nn)); (case nn => assumption); (case dd => walk_at "dp"))
  | ((with_reducible refine' VX.Dp.mono' ?dd ?nn); (case nn => assumption); (case dd => walk_at "dp")))
local macro_rules | `(tactic| walk_at "sq") => `(tactic| first
  | assumption
  | (with_reducible exact SqL.of (by assumption))
  | (with_reducible exact SqT.of (by assumption))
  | ((with_reducible refine' Same.seq (same_new ?nn) ?qq); (case nn => assumption); (case qq => walk_at "sq"))
  | ((with_reducible refine' same_sqT (same_new ?nn) ?qq); (case nn => assumption); (case qq => walk_at "sq"))
  | ((with_reducible refine' Same.seq ?nn ?qq); (case nn => assumption); (case qq => walk_at "sq"))
  | ((with_reducible refine' same_sqT ?nn ?qq); (case nn => assumption); (case qq => walk_at "sq"))
  | ((with_reducible refine' SqL.of ?qq); (case qq => walk_at "lk"))
  | ((with_reducible refine' SqT.of ?qq); (case qq => walk_at "lk")))
local macro_rules | `(tactic| walk_at "cc") => `(tactic| first
  | exact ⟨by decide, by decide, by decide⟩
  | (show _ ≠ _; omega)
  | exact ⟨by omega, by omega⟩
  | exact Or.inl ⟨by omega, by omega⟩
  | exact Or.inr ⟨by omega, by omega⟩)
local macro_rules | `(tactic| walk_at "vcA") => `(tactic| repeat (first
  | ((with_reducible refine' VX.i_modA ?v1 ?_); (case v1 => omega); intro r hr0 hr1)
  | ((with_reducible refine' VX.i_divA ?v1 ?v2 ?_); (case v1 => omega); (case v2 => omega); intro r hr0 hr1)
  | walk_at "vc1"))
local macro_rules | `(tactic| walk_at "vc1") => `(tactic| first
  | ((with_reducible refine' VX.i_var ?v1 ?_); (case v1 => rfl))
  | (with_reducible refine' VX.i_c ?_)
  | (with_reducible refine' VX.i_op ?_)
  | (with_reducible refine' VX.i_cons ?_)
  | (with_reducible refine' VX.i_nil ?_)
  | (with_reducible refine' VX.i_seq ?_)
  | (with_reducible refine' VX.i_asg ?_)
  | ((with_reducible refine' VX.i_gname ?v2 ?_); (case v2 => (first | (simp only [List.set_cons_zero, List.set_cons_succ]; done) | (simp only [List.set_cons_zero, List.set_cons_succ]; exact rfl) | exact rfl)))
  | (with_reducible refine' VX.i_ifS ?_)
  | (with_reducible refine' VX.i_test ?_)
  | (with_reducible refine' VX.i_tB ?_)
  | (with_reducible refine' VX.i_bl ?_)
  | (with_reducible refine' VX.i_iteT ?_)
  | (with_reducible refine' VX.i_iteF ?_)
  | (with_reducible refine' VX.i_iteNT ?_)
  | (with_reducible refine' VX.i_iteNF ?_)
  | (with_reducible refine' VX.i_and ?_)
  | (with_reducible refine' VX.i_or ?_)
  | (with_reducible refine' VX.i_not ?_)
  | (with_reducible refine' VX.i_call ?_)
  | (with_reducible refine' VX.i_CB ?_)
  | (with_reducible refine' VX.i_make ?_)
  | (with_reducible refine' VX.i_makeK0 ?_)
  | (with_reducible refine' VX.i_mthK ?_)
  | (with_reducible refine' VX.i_mthS ?_)
  | (with_reducible refine' VX.i_meth ?_)
  | ((with_reducible refine' VX.i_ixL ?v1 ?v2 ?_); (case v1 => walk_at "sq"); (case v2 => first | rfl | assumption))
  | ((with_reducible refine' VX.i_ixT ?v1 ?v2 ?_); (case v1 => walk_at "sq"); (case v2 => first | rfl | assumption))
  | ((with_reducible refine' VX.i_setLU ?v2 ?v3 ?_); (case v2 => rfl); (case v3 => rfl))
  | ((with_reducible refine' VX.i_setL ?v1 ?v2 ?v3 ?_); (case v1 => walk_at "lk"); (case v2 => rfl); (case v3 => rfl))
  | (with_reducible refine' VX.i_rI0 ?_)
  | ((with_reducible refine' VX.i_rI ?v1 ?_); (case v1 => walk_at "cc"))
  | (with_reducible refine' VX.i_int ?_)
  | ((with_reducible refine' VX.i_rEqS ?v1 ?_); (case v1 => rfl))
  | ((with_reducible refine' VX.i_rNeS ?v1 ?_); (case v1 => rfl))
  | (with_reducible refine' VX.i_rEqI ?_)
  | (with_reducible refine' VX.i_rNeI ?_)
  | (with_reducible refine' VX.i_max2 ?_)
  | (with_reducible refine' VX.i_min2 ?_)
  | ((with_reducible refine' VX.i_lenL ?v1 ?_); (case v1 => walk_at "sq"))
  | ((with_reducible refine' VX.i_lenT ?v1 ?_); (case v1 => walk_at "sq"))
  | (with_reducible refine' VX.i_chain ?_)
  | (with_reducible refine' VX.i_gsub ?_)
  | (with_reducible refine' VX.i_ret ?_)
  | (with_reducible refine' VX.i_drop ?_)
  | (with_reducible refine' VX.i_next ?_)
  | (with_reducible refine' VX.i_retN ?_)
  | (with_reducible refine' VX.i_andV ?_)
  | (with_reducible refine' VX.i_orV ?_)
  | (with_reducible refine' VX.i_notV ?_)
  | (with_reducible refine' VX.i_ifE ?_)
  | (with_reducible refine' VX.i_un ?_)
  | (with_reducible refine' VX.i_rU ?_)
  | (with_reducible refine' VX.i_tup ?_)
  | (with_reducible refine' VX.i_lst ?_)
  | ((with_reducible refine' VX.i_fldv ?v1 ?v2 ?v3 ?v4 ?v5 ?_); (case v1 => rfl); (case v2 => walk_at "lk"); (case v3 => walk_at "cl"); (case v4 => walk_at "na"); (case v5 => first | rfl | assumption))
  | (with_reducible refine' VX.i_fld ?_)
  | (with_reducible refine' VX.i_sFld ?_)
  | (with_reducible refine' VX.i_mk1 ?_)
  | (with_reducible refine' VX.i_mk1v ?_)
  | (with_reducible refine' VX.i_gnil ?_)
  | (with_reducible refine' VX.i_lc ?_)
  | (with_reducible refine' VX.i_for ?_)
  | (with_reducible refine' VX.i_lstRg ?_)
  | (with_reducible refine' VX.i_rg2 ?_)
  | (with_reducible refine' VX.i_rg2v ?_)
  | (with_reducible refine' VX.i_yes ?_)
  | (with_reducible refine' VX.i_iList ?_)
  | (with_reducible refine' VX.i_iRng1 ?_)
  | (with_reducible refine' VX.i_iRng2 ?_)
  | (with_reducible refine' VX.i_iEnum ?_)
  | (with_reducible refine' VX.i_iZip ?_)
  | (with_reducible refine' VX.i_iOwn ?_)
  | ((with_reducible refine' VX.i_wipe ?v1 ?_); (case v1 => rfl))
  | (with_reducible refine' VX.i_andN ?_)
  | (with_reducible refine' VX.i_iteNDS ?_)
  | (with_reducible refine' VX.i_bm ?_)
  | ((with_reducible refine' VX.i_tyL ?v1 ?_); (case v1 => walk_at "sq"))
  | ((with_reducible refine' VX.i_append ?v1 ?v2 ?_); (case v1 => walk_at "lk"); (case v2 => (simp only [List.length_map, List.length_cons, List.length_nil, List.length_append]; omega)))
  | ((with_reducible refine' VX.i_iteDT ?v1 ?_); (case v1 => rfl))
  | ((with_reducible refine' VX.i_iteDF ?v1 ?_); (case v1 => intro h; cases h))
  | ((with_reducible refine' VX.i_isiD ?v1 ?v2 ?_); (case v1 => walk_at "dp"); (case v2 => decide))
  | ((with_reducible refine' VX.i_iteBT ?v1 ?_); (case v1 => rfl))
  | ((with_reducible refine' VX.i_iteBF ?v1 ?_); (case v1 => rfl))
  | (with_reducible refine' VX.i_gcons ?_)
  | (with_reducible refine' VX.i_dIn ?_)
  | (with_reducible refine' VX.i_dNotIn ?_)
  | (with_reducible refine' VX.i_dGet ?_)
  | (with_reducible refine' VX.i_items ?_)
  | (with_reducible refine' VX.i_keys ?_)
  | ((with_reducible refine' VX.i_gtup ?v1 ?v2 ?_); (case v1 => walk_at "sq"); (case v2 => rfl)))
local macro_rules | `(tactic| walk_at "vc") => `(tactic| repeat walk_at "vc1")

local macro_rules | `(tactic| walk_at "cl") => `(tactic| exact Txt.cl_Line (by assumption))
local macro_rules | `(tactic| walk_at "na") => `(tactic| first | exact Txt.na_Line_size (by assumption) | exact Txt.na_Line__spans (by assumption) | exact Txt.na_Line__mosts (by assumption))
theorem eok_of {n m : Int} {late : Bool} {us : List W4} (n0 : 0 ≤ n) (n1 : n ≤ 1000) (m0 : 0 ≤ m) (h : WOk n m us) (hl : us.length ≤ 1000) : EOk n.toNat m.toNat (edges late us) := by
  have key : ∀ e ∈ edges late us, ∃ u ∈ us, ∃ g, e = (u.s, u.t, g) ∧ 1 ≤ g ∧ g ≤ m := fun e he => by
    obtain ⟨u, hu, e'⟩ := List.mem_filterMap.mp he
    have q := h.w u hu
    have := q.l0
    have := q.l1
    unfold eOf at e'
    split at e'
    · obtain ⟨g, hg, e'⟩ := Option.map_eq_some_iff.mp e'
      have := q.h g hg
      exact ⟨u, hu, g, e'.symm, by omega, by omega⟩
    · cases e'
      exact ⟨u, hu, u.lo, rfl, by omega, by omega⟩
  refine ⟨fun e he => ?_, fun e he => ?_, ?_, by omega⟩
  · obtain ⟨u, hu, g, rfl, g0, g1⟩ := key e he
    show 1 ≤ g ∧ g ≤ (m.toNat : Int)
    omega
  · obtain ⟨u, hu, g, rfl, _⟩ := key e he
    have q := h.w u hu
    have := q.s0
    have := q.s1
    show 0 ≤ u.s ∧ u.s < (n.toNat : Int)
    omega
  · have := edges_len (late := late) (us := us)
    omega
theorem i_dget1 {td ty : TE} {σ : L2.St} {H : Hp} {Q : VK} (q : td σ H fun x H1 => ∃ a, x = .ref a ∧ IsD H1 a ∧ ty σ H1 fun y H2 => ∃ o, DGet H2 a y o ∧ Q (o.getD .non) H2) : tDGet1 td ty σ H Q := q
section
variable {P : Program} {w : World} {K : PySem.W.Frag} {mg : Str → Option Value} {base : Heap} {A : Adr}
theorem ok_NoWay_init (T : Txt K mg A) : FnOk P w K mg base CX0 1 A.f_NoWay_init A.d_NoWay_init ["self", "source", "target"] (spX2 K "source" "target") := by
  refine T.F_NoWay_init.ok sc_NoWay_init (fun vs H Q E h => ?_) (fun cdv A' outer s H vs Q E hr h => ?_)
  · obtain ⟨a, C, v, u, rfl, _⟩ := h
    rfl
  · obtain ⟨a, C, v, u, rfl, ho, hn, hm, ha, q⟩ := h
    refine ⟨_, pss_cons (ps_ost (pv 0) (pv 1)) (pss_one (ps_ost (pv 0) (pv 2))), ?_⟩
    refine ⟨v, rfl, .ref a, rfl, a, C, rfl, ho, hn, .inl ⟨ha, fun dx n1 n2 => ?_⟩⟩
    refine ⟨u, rfl, .ref a, rfl, a, C, rfl, ho, hm, .inr ⟨dx, [("source", v)], upd_same, (upd_ne n2).trans upd_same, by show 1 ≤ 900; decide, ?_⟩⟩
    have e : upd (upd (upd H dx (exd dx [("source", v)])) a (exo a C (some dx))) dx (exd dx (("target", u) :: [("source", v)])) = upd (upd H dx (exd dx [("target", u), ("source", v)])) a (exo a C (some dx)) := by
      funext b
      by_cases h1 : b = dx
      · subst h1
        rw [upd_same, upd_ne n2, upd_same]
      · rw [upd_ne h1]
        by_cases h2 : b = a
        · subst h2
          rw [upd_same, upd_same]
        · rw [upd_ne h2, upd_ne h1, upd_ne h2, upd_ne h1]
    show Q .non (upd (upd (upd H dx (exd dx [("source", v)])) a (exo a C (some dx))) dx (exd dx (("target", u) :: [("source", v)])))
    rw [e]
    exact q dx _ n1 n2 rfl rfl
def spLag (A : Adr) : Sp := fun vs H Q E => ∃ (x : Addr) (n m s t : Int) (late : Bool) (us : List W4) (cs : List B3), vs = [.ref x, .int s, .int t, .bl late] ∧ IsLine A.c_Line H x n us cs ∧ us.length ≤ 1000 ∧ n ≤ 1000 ∧ 0 ≤ m ∧ WOk n m us ∧
  (0 ≤ s → s < n → 0 ≤ t → t < n → ∀ d, Sums (edges late us) t d → ∀ H', Same H H' → Q (((d s).map V.int).getD .non) H') ∧
  (∀ b, (b = s ∧ (s < 0 ∨ n ≤ s)) ∨ (b = t ∧ 0 ≤ s ∧ s < n ∧ (t < 0 ∨ n ≤ t)) → ∀ d H', H d = none → Same H H' → H' d = some (.xd [("box", .int b)]) → E (.ref A.c_NoBox) (some d) H')
theorem ok_lag (T : Txt K mg A) : FnOk P w K mg base (L2.CX P w) 5 A.f_lag A.d_lag ["line", "source", "target", "late"] (spLag A) := by
  refine T.F_lag.okX sc_lag (fun vs H Q E h => ?_) (fun cdv A' outer s H vs Q E hr h => ?_)
  · obtain ⟨x, n, m, s, t, late, us, cs, rfl, _⟩ := h
    rfl
  · obtain ⟨x, n, m, s, t, late, us, cs, rfl, hl, hz, n1, m0, wo, q, qe⟩ := h
    refine ⟨_, (pss_cons (ps_expr (pe_call (ok_check_box T) (hr.mono (by decide)) (by rfl) T.g_check_box T.F_check_box.kp (b_check_box T) .nil (passes_call (takes_of rfl rfl rfl rfl) (fun _ _ _ _ h => h)) (pa_cons (pv 0) (pa_cons (pv 1) pa_nil))))
      (pss_cons (ps_expr (pe_call (ok_check_box T) (hr.mono (by decide)) (by rfl) T.g_check_box T.F_check_box.kp (b_check_box T) .nil (passes_call (takes_of rfl rfl rfl rfl) (fun _ _ _ _ h => h)) (pa_cons (pv 0) (pa_cons (pv 2) pa_nil))))
      (pss_one (ps_ret (pe_dget1 (hu_of hr) (pe_call (ok_sums_to T) (hr.mono (by decide)) (by rfl) T.g_sums_to T.F_sums_to.kp (b_sums_to T) .nil pass0 (pa_cons (pv 2) (pa_cons (pe_call (ok_costs T) (hr.mono (by decide)) (by rfl) T.g_costs T.F_costs.kp (b_costs T) .nil pass0 (pa_cons (pv 0) (pa_cons (pv 3) pa_nil))) pa_nil))) (pv 1) ⟨rfl, rfl, rfl, rfl⟩))))), ?_⟩
    refine i_start (σ' := [some (V.ref x), some (.int s), some (.int t), some (.bl late)]) rfl ?_
    walk_at "vc"
    refine ⟨x, n, s, rfl, hl.sized, fun s0 s1 => ?_, fun hb d H' nd e hd => qe s (.inl ⟨rfl, hb⟩) d H' nd e hd⟩
    walk_at "vc"
    refine ⟨x, n, t, rfl, hl.sized, fun t0 t1 => ?_, fun hb d H' nd e hd => qe t (.inr ⟨rfl, s0, s1, hb⟩) d H' nd e hd⟩
    replace q := q s0 s1 t0 t1
    clear qe
    have eo := eok_of (late := late) (by omega) n1 m0 wo hz
    walk_at "vc"
    refine i_dget1 ?_
    walk_at "vc"
    refine ⟨x, late, n, us, cs, rfl, hl, hz, wo.nd, fun Dc H1 js e1 n1' h1 k1 => ?_⟩
    walk_at "vc"
    refine ⟨t, Dc, n.toNat, m.toNat, edges late us, js, rfl, t0, by omega, eo, h1, k1, fun D H2 kvs ks d e2 n2 h2 hd S rng => ?_⟩
    walk_at "vc"
    refine ⟨D, rfl, .inl ⟨kvs, .inl h2⟩, ?_⟩
    walk_at "vc"
    exact ⟨_, di_get h2 hd rfl, q d S _ (e1.trans e2)⟩
def spLagW (A : Adr) : Sp := fun vs H Q E => ∃ (x : Addr) (n m s t : Int) (late : Bool) (us : List W4) (cs : List B3), vs = [.ref x, .int s, .int t, .bl late] ∧ IsLine A.c_Line H x n us cs ∧ us.length ≤ 1000 ∧ n ≤ 1000 ∧ 0 ≤ m ∧ WOk n m us ∧
  (0 ≤ s → s < n → 0 ≤ t → t < n → ∀ d, Sums (edges late us) t d → (∀ Dw H' l, Same H H' → H Dw = none → H' Dw = some (.lst (l.map V.int)) → Gr (edges late us) t d s l → l.length ≤ n.toNat → Q (.ref Dw) H') ∧
    (d s = none → ∀ d' H' fs, H d' = none → Same H H' → H' d' = some (.xd fs) → List.lookup ("source" : Str) fs = some (V.int s) → List.lookup ("target" : Str) fs = some (V.int t) → E (.ref A.c_NoWay) (some d') H')) ∧
  (∀ b, (b = s ∧ (s < 0 ∨ n ≤ s)) ∨ (b = t ∧ 0 ≤ s ∧ s < n ∧ (t < 0 ∨ n ≤ t)) → ∀ d H', H d = none → Same H H' → H' d = some (.xd [("box", .int b)]) → E (.ref A.c_NoBox) (some d) H')
theorem ok_lag_way (T : Txt K mg A) : FnOk P w K mg base (L2.CX P w) 5 A.f_lag_way A.d_lag_way ["line", "source", "target", "late"] (spLagW A) := by
  refine T.F_lag_way.okX sc_lag_way (fun vs H Q E h => ?_) (fun cdv A' outer s H vs Q E hr h => ?_)
  · obtain ⟨x, n, m, s, t, late, us, cs, rfl, _⟩ := h
    rfl
  · obtain ⟨x, n, m, s, t, late, us, cs, rfl, hl, hz, n1, m0, wo, q, qe⟩ := h
    refine ⟨_, (pss_cons (ps_expr (pe_call (ok_check_box T) (hr.mono (by decide)) (by rfl) T.g_check_box T.F_check_box.kp (b_check_box T) .nil (passes_call (takes_of rfl rfl rfl rfl) (fun _ _ _ _ h => h)) (pa_cons (pv 0) (pa_cons (pv 1) pa_nil))))
      (pss_cons (ps_expr (pe_call (ok_check_box T) (hr.mono (by decide)) (by rfl) T.g_check_box T.F_check_box.kp (b_check_box T) .nil (passes_call (takes_of rfl rfl rfl rfl) (fun _ _ _ _ h => h)) (pa_cons (pv 0) (pa_cons (pv 2) pa_nil))))
      (pss_cons (ps_set (i := 4) sc_lag_way.nd rfl (Or.inl rfl) (pe_call (ok_costs T) (hr.mono (by decide)) (by rfl) T.g_costs T.F_costs.kp (b_costs T) .nil pass0 (pa_cons (pv 0) (pa_cons (pv 3) pa_nil))))
      (pss_cons (ps_set (i := 5) sc_lag_way.nd rfl (Or.inl rfl) (pe_call (ok_sums_to T) (hr.mono (by decide)) (by rfl) T.g_sums_to T.F_sums_to.kp (b_sums_to T) .nil pass0 (pa_cons (pv 2) (pa_cons (pv 4) pa_nil))))
      (pss_cons (ps_if (pt_cmp (pc_dnotin (hu_of hr) (pv 1) (pv 5))) (pss_one (ps_raise rfl (takes_of rfl rfl rfl rfl) (pmk2 T.oex_NoWay T.ini_NoWay T.tI_NoWay T.nb_NoWay_source T.nb_NoWay_target (ok_NoWay_init T) (hr.mono (by decide)) (b_NoWay_init T) (by rfl) T.g_NoWay (pa_cons (pv 1) (pa_cons (pv 2) pa_nil))))) pss_nil)
      (pss_one (ps_ret (pe_call (ok_least_way T) (hr.mono (by decide)) (by rfl) T.g_least_way T.F_least_way.kp (b_least_way T) .nil pass0 (pa_cons (pv 1) (pa_cons (pv 2) (pa_cons (pv 4) (pa_cons (pv 5) pa_nil)))))))))))), ?_⟩
    refine i_start (σ' := [some (V.ref x), some (.int s), some (.int t), some (.bl late), none, none]) rfl ?_
    walk_at "vc"
    refine ⟨x, n, s, rfl, hl.sized, fun s0 s1 => ?_, fun hb d H' nd e hd => qe s (.inl ⟨rfl, hb⟩) d H' nd e hd⟩
    walk_at "vc"
    refine ⟨x, n, t, rfl, hl.sized, fun t0 t1 => ?_, fun hb d H' nd e hd => qe t (.inr ⟨rfl, s0, s1, hb⟩) d H' nd e hd⟩
    replace q := q s0 s1 t0 t1
    clear qe
    have eo := eok_of (late := late) (by omega) n1 m0 wo hz
    walk_at "vc"
    refine ⟨x, late, n, us, cs, rfl, hl, hz, wo.nd, fun Dc H1 js e1 n1' h1 k1 => ?_⟩
    walk_at "vc"
    refine ⟨t, Dc, n.toNat, m.toNat, edges late us, js, rfl, t0, by omega, eo, h1, k1, fun D H2 kvs ks d e2 n2 h2 hd S rng => ?_⟩
    have h1 := e2 _ _ h1
    obtain ⟨qs, qn⟩ := q d S
    walk_at "vc"
    cases ds : d s with
    | none =>
      refine ⟨D, _, rfl, di_get h2 hd ds, ?_⟩
      walk_at "vc"
      refine i_mk2 ?_
      walk_at "vc"
      exact ⟨_, _, rfl, fun d' H' fs nd e l1 l2 hd' => qn ds d' H' fs ((e1.trans e2).free nd) ((e1.trans e2).trans e) hd' l1 l2⟩
    | some h0 =>
      refine ⟨D, _, rfl, di_get h2 hd ds, ?_⟩
      walk_at "vc"
      refine ⟨s, t, h0, Dc, D, n.toNat, m.toNat, edges late us, js, kvs, ks, d, rfl, eo, h1, k1, h2, hd, S, rng, ds, fun Dw H6 l e6 n6 h6 g ln => ?_⟩
      walk_at "vc"
      exact qs Dw H6 l (e1.trans (e2.trans e6)) ((e1.trans e2).free n6) h6 g ln
end
end K03
set_option maxRecDepth 100000
set_option maxHeartbeats 1000000
namespace K03
open PySem PySem.Spec PyProof.Rows L2 VX Way
local macro_rules | `(tactic| walk_at "ne") => `(tactic| first
  | assumption
  | exact Ne.symm (by assumption)
  | exact ne_of_none (by assumption) (by assumption)
  | exact Ne.symm (ne_of_none (by assumption) (by assumption))
  | ((with_reducible refine' ne_of_none ?n1 ?n2); (case n2 => assumption); (case n1 => walk_at "lk"))
  | ((with_reducible refine' Ne.symm (ne_of_none ?n1 ?n2)); (case n2 => assumption); (case n1 => walk_at "lk")))
local macro_rules | `(tactic| walk_at "lk") => `(tactic| first
  | assumption
  | (with_reducible exact upd_same)
  | ((with_reducible refine' (upd_ne ?nn).trans ?ll); (case nn => walk_at "ne"); (case ll => walk_at "lk"))
  | ((with_reducible refine' VX.same_at ?nn ?ll); (case nn => assumption); (case ll => walk_at "lk")))
local macro_rules | `(tactic| walk_at "dp") => `(tactic| first
  | assumption
  | (with_reducible exact Dp.non)
  | (with_reducible exact Dp.bl _)
  | (with_reducible exact Dp.int _)
  | (with_reducible exact Dp.str _)
  | ((with_reducible refine' VX.Dp.mono' ?dd (same_new ?nn)); (case nn => assumption); (case dd => walk_at "dp"))
  | ((with_reducible refine' VX.Dp.mono' ?dd ?nn); (case nn => assumption); (case dd => walk_at "dp")))
local macro_rules | `(tactic| walk_at "sq") => `(tactic| first
  | assumption
  | (with_reducible exact SqL.of (by assumption))
  | (with_reducible exact SqT.of (by assumption))
  | ((with_reducible refine' Same.seq (same_new ?nn) ?qq); (case nn => assumption); (case qq => walk_at "sq"))
  | ((with_reducible refine' same_sqT (same_new ?nn) ?qq); (case nn => assumption); (case qq => walk_at "sq"))
  | ((with_reducible refine' Same.seq ?nn ?qq); (case nn => assumption); (case qq => walk_at "sq"))
  | ((with_reducible refine' same_sqT ?nn ?qq); (case nn => assumption); (case qq => walk_at "sq"))
  | ((with_reducible refine' SqL.of ?qq); (case qq => walk_at "lk"))
  | ((with_reducible refine' SqT.of ?qq); (case qq => walk_at "lk")))
local macro_rules | `(tactic| walk_at "cc") => `(tactic| first
  | exact ⟨by decide, by decide, by decide⟩
  | (show _ ≠ _; omega)
  | exact ⟨by omega, by omega⟩
  | exact Or.inl ⟨by omega, by omega⟩
  | exact Or.inr ⟨by omega, by omega⟩)
local macro_rules | `(tactic| walk_at "vcA") => `(tactic| repeat (first
  | ((with_reducible refine' VX.i_modA ?v1 ?_); (case v1 => omega); intro r hr0 hr1)
  | ((with_reducible refine' VX.i_divA ?v1 ?v2 ?_); (case v1 => omega); (case v2 => omega); intro r hr0 hr1)
  | walk_at "vc1"))
local macro_rules | `(tactic| walk_at "vc1") => `(tactic| first
  | ((with_reducible refine' VX.i_var ?v1 ?_); (case v1 => rfl))
  | (with_reducible refine' VX.i_c ?_)
  | (with_reducible refine' VX.i_op ?_)
  | (with_reducible refine' VX.i_cons ?_)
  | (with_reducible refine' VX.i_nil ?_)
  | (with_reducible refine' VX.i_seq ?_)
  | (with_reducible refine' VX.i_asg ?_)
  | ((with_reducible refine' VX.i_gname ?v2 ?_); (case v2 => (first | (simp only [List.set_cons_zero, List.set_cons_succ]; done) | (simp only [List.set_cons_zero, List.set_cons_succ]; exact rfl) | exact rfl)))
  | (with_reducible refine' VX.i_ifS ?_)
  | (with_reducible refine' VX.i_test ?_)
  | (with_reducible refine' VX.i_tB ?_)
  | (with_reducible refine' VX.i_bl ?_)
  | (with_reducible refine' VX.i_iteT ?_)
  | (with_reducible refine' VX.i_iteF ?_)
  | (with_reducible refine' VX.i_iteNT ?_)
  | (with_reducible refine' VX.i_iteNF ?_)
  | (with_reducible refine' VX.i_and ?_)
  | (with_reducible refine' VX.i_or ?_)
  | (with_reducible refine' VX.i_not ?_)
  | (with_reducible refine' VX.i_call ?_)
  | (with_reducible refine' VX.i_CB ?_)
  | (with_reducible refine' VX.i_make ?_)
  | (with_reducible refine' VX.i_makeK0 ?_)
  | (with_reducible refine' VX.i_mthK ?_)
  | (with_reducible refine' VX.i_mthS ?_)
  | (with_reducible refine' VX.i_meth ?_)
  | ((with_reducible refine' VX.i_ixL ?v1 ?v2 ?_); (case v1 => walk_at "sq"); (case v2 => first | rfl | assumption))
  | ((with_reducible refine' VX.i_ixT ?v1 ?v2 ?_); (case v1 => walk_at "sq"); (case v2 => first | rfl | assumption))
  | ((with_reducible refine' VX.i_setLU ?v2 ?v3 ?_); (case v2 => rfl); (case v3 => rfl))
  | ((with_reducible refine' VX.i_setL ?v1 ?v2 ?v3 ?_); (case v1 => walk_at "lk"); (case v2 => rfl); (case v3 => rfl))
  | (with_reducible refine' VX.i_rI0 ?_)
  | ((with_reducible refine' VX.i_rI ?v1 ?_); (case v1 => walk_at "cc"))
  | (with_reducible refine' VX.i_int ?_)
  | ((with_reducible refine' VX.i_rEqS ?v1 ?_); (case v1 => rfl))
  | ((with_reducible refine' VX.i_rNeS ?v1 ?_); (case v1 => rfl))
  | (with_reducible refine' VX.i_rEqI ?_)
  | (with_reducible refine' VX.i_rNeI ?_)
  | (with_reducible refine' VX.i_max2 ?_)
  | (with_reducible refine' VX.i_min2 ?_)
  | ((with_reducible refine' VX.i_lenL ?v1 ?_); (case v1 => walk_at "sq"))
  | ((with_reducible refine' VX.i_lenT ?v1 ?_); (case v1 => walk_at "sq"))
  | (with_reducible refine' VX.i_chain ?_)
  | (with_reducible refine' VX.i_gsub ?_)
  | (with_reducible refine' VX.i_ret ?_)
  | (with_reducible refine' VX.i_drop ?_)
  | (with_reducible refine' VX.i_next ?_)
  | (with_reducible refine' VX.i_retN ?_)
  | (with_reducible refine' VX.i_andV ?_)
  | (with_reducible refine' VX.i_orV ?_)
  | (with_reducible refine' VX.i_notV ?_)
  | (with_reducible refine' VX.i_ifE ?_)
  | (with_reducible refine' VX.i_un ?_)
  | (with_reducible refine' VX.i_rU ?_)
  | (with_reducible refine' VX.i_tup ?_)
  | (with_reducible refine' VX.i_lst ?_)
  | ((with_reducible refine' VX.i_fldv ?v1 ?v2 ?v3 ?v4 ?v5 ?_); (case v1 => rfl); (case v2 => walk_at "lk"); (case v3 => walk_at "cl"); (case v4 => walk_at "na"); (case v5 => first | rfl | assumption))
  | (with_reducible refine' VX.i_fld ?_)
  | (with_reducible refine' VX.i_sFld ?_)
  | (with_reducible refine' VX.i_mk1 ?_)
  | (with_reducible refine' VX.i_mk1v ?_)
  | (with_reducible refine' VX.i_gnil ?_)
  | (with_reducible refine' VX.i_lc ?_)
  | (with_reducible refine' VX.i_for ?_)
  | (with_reducible refine' VX.i_lstRg ?_)
  | (with_reducible refine' VX.i_rg2 ?_)
  | (with_reducible refine' VX.i_rg2v ?_)
  | (with_reducible refine' VX.i_yes ?_)
  | (with_reducible refine' VX.i_iList ?_)
  | (with_reducible refine' VX.i_iRng1 ?_)
  | (with_reducible refine' VX.i_iRng2 ?_)
  | (with_reducible refine' VX.i_iEnum ?_)
  | (with_reducible refine' VX.i_iZip ?_)
  | (with_reducible refine' VX.i_iOwn ?_)
  | ((with_reducible refine' VX.i_wipe ?v1 ?_); (case v1 => rfl))
  | (with_reducible refine' VX.i_andN ?_)
  | (with_reducible refine' VX.i_iteNDS ?_)
  | (with_reducible refine' VX.i_bm ?_)
  | ((with_reducible refine' VX.i_tyL ?v1 ?_); (case v1 => walk_at "sq"))
  | ((with_reducible refine' VX.i_append ?v1 ?v2 ?_); (case v1 => walk_at "lk"); (case v2 => (simp only [List.length_map, List.length_cons, List.length_nil, List.length_append]; omega)))
  | ((with_reducible refine' VX.i_iteDT ?v1 ?_); (case v1 => rfl))
  | ((with_reducible refine' VX.i_iteDF ?v1 ?_); (case v1 => intro h; cases h))
  | ((with_reducible refine' VX.i_isiD ?v1 ?v2 ?_); (case v1 => walk_at "dp"); (case v2 => decide))
  | ((with_reducible refine' VX.i_iteBT ?v1 ?_); (case v1 => rfl))
  | ((with_reducible refine' VX.i_iteBF ?v1 ?_); (case v1 => rfl))
  | (with_reducible refine' VX.i_gcons ?_)
  | (with_reducible refine' VX.i_dIn ?_)
  | (with_reducible refine' VX.i_dNotIn ?_)
  | (with_reducible refine' VX.i_dGet ?_)
  | (with_reducible refine' VX.i_items ?_)
  | (with_reducible refine' VX.i_keys ?_)
  | ((with_reducible refine' VX.i_gtup ?v1 ?v2 ?_); (case v1 => walk_at "sq"); (case v2 => rfl)))
local macro_rules | `(tactic| walk_at "vc") => `(tactic| repeat walk_at "vc1")

local macro_rules | `(tactic| walk_at "cl") => `(tactic| exact Txt.cl_Line (by assumption))
local macro_rules | `(tactic| walk_at "na") => `(tactic| first | exact Txt.na_Line_size (by assumption) | exact Txt.na_Line__spans (by assumption) | exact Txt.na_Line__mosts (by assumption))
/-- an answer that the law may spoil: since H; a tuple whose second item, if it is told and a list, is a new one -/
def Sp1 (H F' : Hp) (x : V) : Prop := ∃ T s b rest, x = .ref T ∧ F' T = some (.tup (.str s :: b :: rest)) ∧ (s = "NoBox" ∨ s = "NoWay" ∨ (s = "told" ∧ b = .non) ∨ (s = "told" ∧ ∃ i, b = .int i) ∨ s = "told" ∧ ∃ l xs, b = .ref l ∧ H l = none ∧ F' l = some (.lst xs) ∧ 0 < xs.length ∧ xs.length ≤ 1000)
def dNoBox (b : Int) : PyData := .tuple [.str "NoBox", .tuple [.int b], .bool true]
def dNoWay (p q : Int) : PyData := .tuple [.str "NoWay", .tuple [.int p, .int q], .bool true]
def dNum (o : Option Int) : PyData := .tuple [.str "told", oD o]
def dWay (l : List Int) : PyData := .tuple [.str "told", .list (l.map PyData.int)]
/-- the first of two numbers that is no box -/
def Wrong (n p q b : Int) : Prop := (b = p ∧ (p < 0 ∨ n ≤ p)) ∨ (b = q ∧ 0 ≤ p ∧ p < n ∧ (q < 0 ∨ n ≤ q))
def AnsL (E : List Ed) (n p q : Int) (d : PyData) : Prop := (0 ≤ p ∧ p < n ∧ 0 ≤ q ∧ q < n ∧ ∃ s, Sums E q s ∧ d = dNum (s p)) ∨ ∃ b, Wrong n p q b ∧ d = dNoBox b
def AnsW (E : List Ed) (n p q : Int) (d : PyData) : Prop := (0 ≤ p ∧ p < n ∧ 0 ≤ q ∧ q < n ∧ ∃ s, Sums E q s ∧ ((∃ l, Gr E q s p l ∧ d = dWay l) ∨ (s p = none ∧ d = dNoWay p q))) ∨ ∃ b, Wrong n p q b ∧ d = dNoBox b
theorem i_callNS {n : Nat} {sp : Sp} {gV : List V → List V → List V} {E : L2.St → XK} {tk : TA} {σ : L2.St} {H : Hp} {Q : VK} (q : tk σ H fun zs H2 => zs.length = n ∧ sp (gV [] zs) H2 Q (E σ)) : tCallNS n sp gV E tk σ H Q := q
theorem i_callSD {sp : Sp} {dvs : List V} {E : L2.St → XK} {t : TA} {σ : L2.St} {H : Hp} {Q : VK} (q : t σ H fun vs H1 => sp (vs ++ dvs) H1 Q (E σ)) : tCallSD sp dvs E t σ H Q := q
section
variable {P : Program} {w : World} {K : PySem.W.Frag} {mg : Str → Option Value} {base : Heap} {A : Adr}
theorem b0_lag (T : Txt K mg A) : ∃ ds, Vals [V.bl false] ds ∧ Binds K A.d_lag ["line", "source", "target", "late"] ds :=
  T.D_lag.binds0 3 (by intro h; cases h) rfl fun D doc pm an cdv ct us ks h1 h2 => match us, ks, h1, h2 with | [_, _, _], [_], _, _ => ⟨_, _, _, _, _, _, rfl, rfl, rfl⟩
theorem b0_lag_way (T : Txt K mg A) : ∃ ds, Vals [V.bl false] ds ∧ Binds K A.d_lag_way ["line", "source", "target", "late"] ds :=
  T.D_lag_way.binds0 3 (by intro h; cases h) rfl fun D doc pm an cdv ct us ks h1 h2 => match us, ks, h1, h2 with | [_, _, _], [_], _, _ => ⟨_, _, _, _, _, _, rfl, rfl, rfl⟩
theorem kb_lag (T : Txt K mg A) : KBn K A.d_lag ["line", "source", "target", "late"] 0 ["line", "source", "target", "late"] (fun us ws => us ++ ws) (fun us ws => us ++ ws) := kbn_of T.F_lag fun _ _ _ _ _ _ us ws h1 h2 => match us, ws, h1, h2 with | [], [_, _, _, _], _, _ => rfl
theorem kb_lag_way (T : Txt K mg A) : KBn K A.d_lag_way ["line", "source", "target", "late"] 0 ["line", "source", "target", "late"] (fun us ws => us ++ ws) (fun us ws => us ++ ws) := kbn_of T.F_lag_way fun _ _ _ _ _ _ us ws h1 h2 => match us, ws, h1, h2 with | [], [_, _, _, _], _, _ => rfl
def spAsk (A : Adr) (K : PySem.W.Frag) (Ans : List Ed → Int → Int → Int → PyData → Prop) : Sp := fun vs H Q _ => ∃ (F : Hp) (x : Addr) (n m p t k : Int) (us : List W4) (cs : List B3), vs = [.ref x, .int p, .int t, .int k] ∧ Same F H ∧ IsLine A.c_Line F x n us cs ∧ us.length ≤ 1000 ∧ n ≤ 900 ∧ 0 ≤ m ∧ WOk n m us ∧
  ∀ v H' d, Ans (edges (decide (k = 2)) us) n p t d → Same H H' → Dp K (grow F H H') v d → Sp1 H (grow F H H') v → Q v H'
theorem ok_ask_lag (T : Txt K mg A) : FnOk P w K mg base CX0 6 A.f_ask_lag A.d_ask_lag ["_law_line_here", "_law_point", "_law_other", "_law_kind"] (spAsk A K AnsL) := by
  refine T.F_ask_lag.ok sc_ask_lag (fun vs H Q E h => ?_) (fun cdv A' outer s H vs Q E hr h => ?_)
  · obtain ⟨F, x, n, m, p, t, k, us, cs, rfl, _⟩ := h
    rfl
  · obtain ⟨F, x, n, m, p, t, k, us, cs, rfl, e0, hl, hz, n9, m0, wo, q⟩ := h
    obtain ⟨dsL, hdL, hbL⟩ := b0_lag T
    refine ⟨_, pss_one (ps_try_as2 (i := 4) (tb := _) (Wout := fun _ _ _ _ => False) rfl rfl sc_ask_lag.nd rfl rfl takes0
      (fun W pn xe tk _ => pss_cons (ps_if (pt_cmpR op_eq (pv 3) pe_int (nomark _)) (pss_one (ps_ret (pe_tup (pa_cons pe_str (pa_cons (pe_callSD (ok_lag T) (hr.mono (by decide)) (by rfl) T.g_lag T.F_lag.kp hbL hdL (fun σ => passAt tk σ) (pa_cons (pv 0) (pa_cons (pv 1) (pa_cons (pv 2) pa_nil)))) pa_nil))))) pss_nil)
        (pss_one (ps_ret (pe_tup (pa_cons pe_str (pa_cons (pe_callNS (ok_lag T) (hr.mono (by decide)) (by rfl) T.g_lag T.F_lag.kp (kb_lag T) (fun σ => passAt tk σ) (pk_cons (pv 0) (pk_cons (pv 1) (pk_cons (pv 2) (pk_cons (pe_cmpR op_eq (pv 3) pe_int (nomark _)) pk_nil))))) pa_nil))))))
      (.cons ⟨rfl, by decide, Or.inl T.g_NoBox⟩ (fun a oe cls d pn hz hf => pss_one (ps_ret (pe_tup (pa_cons pe_str (pa_cons (pe_tup (pa_cons (pe_xf T.xf_NoBox T.nb_NoBox_box hz hf (pv 4)) pa_nil)) (pa_cons (pe_and (pe_callB (call_isD T.xd_NoBox hz hf) (by rfl) T.n_isinstance (by decide +kernel) (pa_cons (pv 4) (pa_cons (pe_glob (v := .ref A.c_RailsError) (by rfl) T.g_RailsError rfl) pa_nil)))
        (pe_one (pe_not (pe_callB (call_isD T.xd_NoBox hz hf) (by rfl) T.n_isinstance (by decide +kernel) (pa_cons (pv 4) (pa_cons (pe_glob (v := .ref A.c_NoWay) (by rfl) T.g_NoWay rfl) pa_nil)))))) pa_nil))))))
      (.cons ⟨rfl, by decide, Or.inl T.g_NoWay⟩ (fun a oe cls d pn hz hf => pss_one (ps_ret (pe_tup (pa_cons pe_str (pa_cons (pe_tup (pa_cons (pe_xf T.xf_NoWay T.nb_NoWay_source hz hf (pv 4)) (pa_cons (pe_xf T.xf_NoWay T.nb_NoWay_target hz hf (pv 4)) pa_nil))) (pa_cons (pe_and (pe_callB (call_isD T.xd_NoWay hz hf) (by rfl) T.n_isinstance (by decide +kernel) (pa_cons (pv 4) (pa_cons (pe_glob (v := .ref A.c_RailsError) (by rfl) T.g_RailsError rfl) pa_nil)))
        (pe_one (pe_not (pe_callB (call_isD T.xd_NoWay hz hf) (by rfl) T.n_isinstance (by decide +kernel) (pa_cons (pv 4) (pa_cons (pe_glob (v := .ref A.c_NoBox) (by rfl) T.g_NoBox rfl) pa_nil)))))) pa_nil)))))) .nil))), ?_⟩
    refine i_start (σ' := [some (V.ref x), some (.int p), some (.int t), some (.int k), none]) rfl ?_
    have told : ∀ s H' T1, 0 ≤ p → p < n → 0 ≤ t → t < n → Sums (edges (decide (k = 2)) us) t s → Same H H' → H' T1 = none → Q (.ref T1) (upd H' T1 (.tup [.str "told", ((s p).map V.int).getD .non])) := fun s H' T1 s0 s1 t0 t1 S e nT => by
      have ev : ((s p).map V.int).getD .non = oV (s p) := by cases s p <;> rfl
      rw [ev]
      have e1 := same_new (o := HO.tup [.str "told", oV (s p)]) nT
      have g1 := (grow_new (F := F) (H' := upd H' T1 (.tup [.str "told", oV (s p)])) (e.free nT)).trans upd_same
      refine q _ _ _ (.inl ⟨s0, s1, t0, t1, s, S, rfl⟩) (e.trans e1) (.tup (SqT.of g1) (.cons (.str _) (.cons oD_dp .nil))) ⟨T1, "told", oV (s p), [], rfl, g1, ?_⟩
      cases s p with
      | none => exact .inr (.inr (.inl ⟨rfl, rfl⟩))
      | some i => exact .inr (.inr (.inr (.inl ⟨rfl, i, rfl⟩)))
    have bad : ∀ b H' T1 T2, Wrong n p t b → Same H H' → H' T1 = none → upd H' T1 (.tup [.int b]) T2 = none → Q (.ref T2) (upd (upd H' T1 (.tup [.int b])) T2 (.tup [.str "NoBox", .ref T1, .bl true])) := fun b H' T1 T2 hb e n1 n2 => by
      have e1 := same_new (o := HO.tup [.int b]) n1
      have e2 := same_new (o := HO.tup [.str "NoBox", .ref T1, .bl true]) n2
      have g2 := (grow_new (F := F) (H' := upd (upd H' T1 (.tup [.int b])) T2 (.tup [.str "NoBox", .ref T1, .bl true])) ((e.trans e1).free n2)).trans upd_same
      have g1 := (grow_new (F := F) (H' := upd (upd H' T1 (.tup [.int b])) T2 (.tup [.str "NoBox", .ref T1, .bl true])) (e.free n1)).trans (e2 _ _ upd_same)
      exact q _ _ _ (.inr ⟨b, hb, rfl⟩) (e.trans (e1.trans e2)) (.tup (SqT.of g2) (.cons (.str _) (.cons (.tup (SqT.of g1) (.cons (.int b) .nil)) (.cons (.bl true) .nil)))) ⟨T2, "NoBox", .ref T1, [.bl true], rfl, g2, .inl rfl⟩
    clear q
    walk_at "vc"
    refine i_iteD (fun hk => ?_) (fun hk => ?_)
    · have hk : k = 0 := hk
      subst hk
      walk_at "vc"
      refine i_callSD ?_
      walk_at "vc"
      refine ⟨x, n, m, p, t, false, us, cs, rfl, hl.mono e0, hz, by omega, m0, wo, fun s0 s1 t0 t1 s S H' e => ?_, fun b hb d H' nd e hd => ?_⟩
      · walk_at "vc"
        exact ⟨lenB rfl, fun T1 nT => told s H' T1 s0 s1 t0 t1 S e nT⟩
      · skip
        refine ⟨true, T.exm_NoBox_NoBox, fun _ y hy => ?_, fun z => Bool.noConfusion z⟩
        walk_at "vc"
        refine i_xf (fs := [("box", .int b)]) rfl hd rfl ?_
        walk_at "vc"
        refine ⟨lenB rfl, fun T1 n1 => ?_⟩
        have hd1 := same_new (o := HO.tup [.int b]) n1 _ _ hd
        walk_at "vc"
        refine i_isD hd1 (fun _ r => r) T.kit_NoBox_RailsError ?_
        refine ⟨true, rfl, ?_⟩
        walk_at "vc"
        refine i_isD hd1 (fun _ r => r) T.kit_NoBox_NoWay ?_
        walk_at "vc"
        exact ⟨lenB rfl, fun T2 n2 => bad b H' T1 T2 hb e n1 n2⟩
    · walk_at "vc"
      refine i_callNS ?_
      walk_at "vc"
      refine ⟨rfl, ?_⟩
      refine ⟨x, n, m, p, t, decide (k = 2), us, cs, rfl, hl.mono e0, hz, by omega, m0, wo, fun s0 s1 t0 t1 s S H' e => ?_, fun b hb d H' nd e hd => ?_⟩
      · walk_at "vc"
        exact ⟨lenB rfl, fun T1 nT => told s H' T1 s0 s1 t0 t1 S e nT⟩
      · skip
        refine ⟨true, T.exm_NoBox_NoBox, fun _ y hy => ?_, fun z => Bool.noConfusion z⟩
        walk_at "vc"
        refine i_xf (fs := [("box", .int b)]) rfl hd rfl ?_
        walk_at "vc"
        refine ⟨lenB rfl, fun T1 n1 => ?_⟩
        have hd1 := same_new (o := HO.tup [.int b]) n1 _ _ hd
        walk_at "vc"
        refine i_isD hd1 (fun _ r => r) T.kit_NoBox_RailsError ?_
        refine ⟨true, rfl, ?_⟩
        walk_at "vc"
        refine i_isD hd1 (fun _ r => r) T.kit_NoBox_NoWay ?_
        walk_at "vc"
        exact ⟨lenB rfl, fun T2 n2 => bad b H' T1 T2 hb e n1 n2⟩
theorem ok_ask_way (T : Txt K mg A) : FnOk P w K mg base CX0 6 A.f_ask_way A.d_ask_way ["_law_line_here", "_law_point", "_law_other", "_law_kind"] (spAsk A K AnsW) := by
  refine T.F_ask_way.ok sc_ask_way (fun vs H Q E h => ?_) (fun cdv A' outer s H vs Q E hr h => ?_)
  · obtain ⟨F, x, n, m, p, t, k, us, cs, rfl, _⟩ := h
    rfl
  · obtain ⟨F, x, n, m, p, t, k, us, cs, rfl, e0, hl, hz, n9, m0, wo, q⟩ := h
    obtain ⟨dsL, hdL, hbL⟩ := b0_lag_way T
    refine ⟨_, pss_one (ps_try_as2 (i := 4) (tb := _) (Wout := fun _ _ _ _ => False) rfl rfl sc_ask_way.nd rfl rfl takes0
      (fun W pn xe tk _ => pss_cons (ps_if (pt_cmpR op_eq (pv 3) pe_int (nomark _)) (pss_one (ps_ret (pe_tup (pa_cons pe_str (pa_cons (pe_callSD (ok_lag_way T) (hr.mono (by decide)) (by rfl) T.g_lag_way T.F_lag_way.kp hbL hdL (fun σ => passAt tk σ) (pa_cons (pv 0) (pa_cons (pv 1) (pa_cons (pv 2) pa_nil)))) pa_nil))))) pss_nil)
        (pss_one (ps_ret (pe_tup (pa_cons pe_str (pa_cons (pe_callNS (ok_lag_way T) (hr.mono (by decide)) (by rfl) T.g_lag_way T.F_lag_way.kp (kb_lag_way T) (fun σ => passAt tk σ) (pk_cons (pv 0) (pk_cons (pv 1) (pk_cons (pv 2) (pk_cons (pe_cmpR op_eq (pv 3) pe_int (nomark _)) pk_nil))))) pa_nil))))))
      (.cons ⟨rfl, by decide, Or.inl T.g_NoBox⟩ (fun a oe cls d pn hz hf => pss_one (ps_ret (pe_tup (pa_cons pe_str (pa_cons (pe_tup (pa_cons (pe_xf T.xf_NoBox T.nb_NoBox_box hz hf (pv 4)) pa_nil)) (pa_cons (pe_and (pe_callB (call_isD T.xd_NoBox hz hf) (by rfl) T.n_isinstance (by decide +kernel) (pa_cons (pv 4) (pa_cons (pe_glob (v := .ref A.c_RailsError) (by rfl) T.g_RailsError rfl) pa_nil)))
        (pe_one (pe_not (pe_callB (call_isD T.xd_NoBox hz hf) (by rfl) T.n_isinstance (by decide +kernel) (pa_cons (pv 4) (pa_cons (pe_glob (v := .ref A.c_NoWay) (by rfl) T.g_NoWay rfl) pa_nil)))))) pa_nil))))))
      (.cons ⟨rfl, by decide, Or.inl T.g_NoWay⟩ (fun a oe cls d pn hz hf => pss_one (ps_ret (pe_tup (pa_cons pe_str (pa_cons (pe_tup (pa_cons (pe_xf T.xf_NoWay T.nb_NoWay_source hz hf (pv 4)) (pa_cons (pe_xf T.xf_NoWay T.nb_NoWay_target hz hf (pv 4)) pa_nil))) (pa_cons (pe_and (pe_callB (call_isD T.xd_NoWay hz hf) (by rfl) T.n_isinstance (by decide +kernel) (pa_cons (pv 4) (pa_cons (pe_glob (v := .ref A.c_RailsError) (by rfl) T.g_RailsError rfl) pa_nil)))
        (pe_one (pe_not (pe_callB (call_isD T.xd_NoWay hz hf) (by rfl) T.n_isinstance (by decide +kernel) (pa_cons (pv 4) (pa_cons (pe_glob (v := .ref A.c_NoBox) (by rfl) T.g_NoBox rfl) pa_nil)))))) pa_nil)))))) .nil))), ?_⟩
    refine i_start (σ' := [some (V.ref x), some (.int p), some (.int t), some (.int k), none]) rfl ?_
    have told : ∀ s l D H' T1, 0 ≤ p → p < n → 0 ≤ t → t < n → Sums (edges (decide (k = 2)) us) t s → Gr (edges (decide (k = 2)) us) t s p l → l.length ≤ 1000 → Same H H' → H D = none → H' D = some (.lst (l.map V.int)) → H' T1 = none → Q (.ref T1) (upd H' T1 (.tup [.str "told", .ref D])) := fun s l D H' T1 s0 s1 t0 t1 S g ll e nD hD nT => by
      have e1 := same_new (o := HO.tup [.str "told", .ref D]) nT
      have g1 := (grow_new (F := F) (H' := upd H' T1 (.tup [.str "told", .ref D])) (e.free nT)).trans upd_same
      have gD := (grow_new (F := F) (H' := upd H' T1 (.tup [.str "told", .ref D])) nD).trans (e1 _ _ hD)
      obtain ⟨r, hr'⟩ := g.head
      refine q _ _ _ (.inl ⟨s0, s1, t0, t1, s, S, .inl ⟨l, g, rfl⟩⟩) (e.trans e1) (.tup (SqT.of g1) (.cons (.str _) (.cons (dp_ints (SqL.of gD)) .nil))) ⟨T1, "told", .ref D, [], rfl, g1, .inr (.inr (.inr (.inr ⟨rfl, D, _, rfl, nD, gD, ?_, ?_⟩)))⟩
      · rw [List.length_map, hr', List.length_cons]
        omega
      · rw [List.length_map]
        exact ll
    have bad : ∀ b H' T1 T2, Wrong n p t b → Same H H' → H' T1 = none → upd H' T1 (.tup [.int b]) T2 = none → Q (.ref T2) (upd (upd H' T1 (.tup [.int b])) T2 (.tup [.str "NoBox", .ref T1, .bl true])) := fun b H' T1 T2 hb e n1 n2 => by
      have e1 := same_new (o := HO.tup [.int b]) n1
      have e2 := same_new (o := HO.tup [.str "NoBox", .ref T1, .bl true]) n2
      have g2 := (grow_new (F := F) (H' := upd (upd H' T1 (.tup [.int b])) T2 (.tup [.str "NoBox", .ref T1, .bl true])) ((e.trans e1).free n2)).trans upd_same
      have g1 := (grow_new (F := F) (H' := upd (upd H' T1 (.tup [.int b])) T2 (.tup [.str "NoBox", .ref T1, .bl true])) (e.free n1)).trans (e2 _ _ upd_same)
      exact q _ _ _ (.inr ⟨b, hb, rfl⟩) (e.trans (e1.trans e2)) (.tup (SqT.of g2) (.cons (.str _) (.cons (.tup (SqT.of g1) (.cons (.int b) .nil)) (.cons (.bl true) .nil)))) ⟨T2, "NoBox", .ref T1, [.bl true], rfl, g2, .inl rfl⟩
    have now : ∀ H' T1 T2, 0 ≤ p → p < n → 0 ≤ t → t < n → ∀ s, Sums (edges (decide (k = 2)) us) t s → s p = none → Same H H' → H' T1 = none → upd H' T1 (.tup [.int p, .int t]) T2 = none → Q (.ref T2) (upd (upd H' T1 (.tup [.int p, .int t])) T2 (.tup [.str "NoWay", .ref T1, .bl true])) := fun H' T1 T2 s0 s1 t0 t1 s S sn e n1 n2 => by
      have e1 := same_new (o := HO.tup [.int p, .int t]) n1
      have e2 := same_new (o := HO.tup [.str "NoWay", .ref T1, .bl true]) n2
      have g2 := (grow_new (F := F) (H' := upd (upd H' T1 (.tup [.int p, .int t])) T2 (.tup [.str "NoWay", .ref T1, .bl true])) ((e.trans e1).free n2)).trans upd_same
      have g1 := (grow_new (F := F) (H' := upd (upd H' T1 (.tup [.int p, .int t])) T2 (.tup [.str "NoWay", .ref T1, .bl true])) (e.free n1)).trans (e2 _ _ upd_same)
      exact q _ _ _ (.inl ⟨s0, s1, t0, t1, s, S, .inr ⟨sn, rfl⟩⟩) (e.trans (e1.trans e2)) (.tup (SqT.of g2) (.cons (.str _) (.cons (.tup (SqT.of g1) (.cons (.int _) (.cons (.int _) .nil))) (.cons (.bl true) .nil)))) ⟨T2, "NoWay", .ref T1, [.bl true], rfl, g2, .inr (.inl rfl)⟩
    clear q
    walk_at "vc"
    refine i_iteD (fun hk => ?_) (fun hk => ?_)
    · have hk : k = 0 := hk
      subst hk
      walk_at "vc"
      refine i_callSD ?_
      walk_at "vc"
      refine ⟨x, n, m, p, t, false, us, cs, rfl, hl.mono e0, hz, by omega, m0, wo, fun s0 s1 t0 t1 s S => ⟨fun D H' l e nD hD g ll => ?_, fun sn d H' fs nd e hd l1 l2 => ?_⟩, fun b hb d H' nd e hd => ?_⟩
      · walk_at "vc"
        exact ⟨lenB rfl, fun T1 nT => told s l D H' T1 s0 s1 t0 t1 S g (by omega) e nD hD nT⟩
      · skip
        refine ⟨false, T.exm_NoWay_NoBox, fun z => Bool.noConfusion z, fun _ => ⟨true, T.exm_NoWay_NoWay, fun _ y hy => ?_, fun z => Bool.noConfusion z⟩⟩
        walk_at "vc"
        refine i_xf (fs := fs) rfl hd l1 ?_
        walk_at "vc"
        refine i_xf (fs := fs) rfl hd l2 ?_
        walk_at "vc"
        refine ⟨lenB rfl, fun T1 n1 => ?_⟩
        have hd1 := same_new (o := HO.tup [.int p, .int t]) n1 _ _ hd
        walk_at "vc"
        refine i_isD hd1 (fun _ r => r) T.kit_NoWay_RailsError ?_
        refine ⟨true, rfl, ?_⟩
        walk_at "vc"
        refine i_isD hd1 (fun _ r => r) T.kit_NoWay_NoBox ?_
        walk_at "vc"
        exact ⟨lenB rfl, fun T2 n2 => now H' T1 T2 s0 s1 t0 t1 s S sn e n1 n2⟩
      · skip
        refine ⟨true, T.exm_NoBox_NoBox, fun _ y hy => ?_, fun z => Bool.noConfusion z⟩
        walk_at "vc"
        refine i_xf (fs := [("box", .int b)]) rfl hd rfl ?_
        walk_at "vc"
        refine ⟨lenB rfl, fun T1 n1 => ?_⟩
        have hd1 := same_new (o := HO.tup [.int b]) n1 _ _ hd
        walk_at "vc"
        refine i_isD hd1 (fun _ r => r) T.kit_NoBox_RailsError ?_
        refine ⟨true, rfl, ?_⟩
        walk_at "vc"
        refine i_isD hd1 (fun _ r => r) T.kit_NoBox_NoWay ?_
        walk_at "vc"
        exact ⟨lenB rfl, fun T2 n2 => bad b H' T1 T2 hb e n1 n2⟩
    · walk_at "vc"
      refine i_callNS ?_
      walk_at "vc"
      refine ⟨rfl, ?_⟩
      refine ⟨x, n, m, p, t, decide (k = 2), us, cs, rfl, hl.mono e0, hz, by omega, m0, wo, fun s0 s1 t0 t1 s S => ⟨fun D H' l e nD hD g ll => ?_, fun sn d H' fs nd e hd l1 l2 => ?_⟩, fun b hb d H' nd e hd => ?_⟩
      · walk_at "vc"
        exact ⟨lenB rfl, fun T1 nT => told s l D H' T1 s0 s1 t0 t1 S g (by omega) e nD hD nT⟩
      · skip
        refine ⟨false, T.exm_NoWay_NoBox, fun z => Bool.noConfusion z, fun _ => ⟨true, T.exm_NoWay_NoWay, fun _ y hy => ?_, fun z => Bool.noConfusion z⟩⟩
        walk_at "vc"
        refine i_xf (fs := fs) rfl hd l1 ?_
        walk_at "vc"
        refine i_xf (fs := fs) rfl hd l2 ?_
        walk_at "vc"
        refine ⟨lenB rfl, fun T1 n1 => ?_⟩
        have hd1 := same_new (o := HO.tup [.int p, .int t]) n1 _ _ hd
        walk_at "vc"
        refine i_isD hd1 (fun _ r => r) T.kit_NoWay_RailsError ?_
        refine ⟨true, rfl, ?_⟩
        walk_at "vc"
        refine i_isD hd1 (fun _ r => r) T.kit_NoWay_NoBox ?_
        walk_at "vc"
        exact ⟨lenB rfl, fun T2 n2 => now H' T1 T2 s0 s1 t0 t1 s S sn e n1 n2⟩
      · skip
        refine ⟨true, T.exm_NoBox_NoBox, fun _ y hy => ?_, fun z => Bool.noConfusion z⟩
        walk_at "vc"
        refine i_xf (fs := [("box", .int b)]) rfl hd rfl ?_
        walk_at "vc"
        refine ⟨lenB rfl, fun T1 n1 => ?_⟩
        have hd1 := same_new (o := HO.tup [.int b]) n1 _ _ hd
        walk_at "vc"
        refine i_isD hd1 (fun _ r => r) T.kit_NoBox_RailsError ?_
        refine ⟨true, rfl, ?_⟩
        walk_at "vc"
        refine i_isD hd1 (fun _ r => r) T.kit_NoBox_NoWay ?_
        walk_at "vc"
        exact ⟨lenB rfl, fun T2 n2 => bad b H' T1 T2 hb e n1 n2⟩
end
end K03
set_option maxRecDepth 100000
set_option maxHeartbeats 1000000
namespace K03
open PySem PySem.Spec PyProof.Rows L2 VX Way
local macro_rules | `(tactic| walk_at "ne") => `(tactic| first
  | assumption
  | exact Ne.symm (by assumption)
  | exact ne_of_none (by assumption) (by assumption)
  | exact Ne.symm (ne_of_none (by assumption) (by assumption))
  | ((with_reducible refine' ne_of_none ?n1 ?n2); (case n2 => assumption); (case n1 => walk_at "lk"))
  | ((with_reducible refine' Ne.symm (ne_of_none ?n1 ?n2)); (case n2 => assumption); (case n1 => walk_at "lk")))
local macro_rules | `(tactic| walk_at "lk") => `(tactic| first
  | assumption
  | (with_reducible exact upd_same)
  | ((with_reducible refine' (upd_ne ?nn).trans ?ll); (case nn => walk_at "ne"); (case ll => walk_at "lk"))
  | ((with_reducible refine' VX.same_at ?nn ?ll); (case nn => assumption); (case ll => walk_at "lk")))
local macro_rules | `(tactic| walk_at "dp") => `(tactic| first
  | assumption
  | (with_reducible exact Dp.non)
  | (with_reducible exact Dp.bl _)
  | (with_reducible exact Dp.int _)
  | (with_reducible exact Dp.str _)
  | ((with_reducible refine' VX.Dp.mono' ?dd (same_new ?nn)); (case nn => assumption); (case dd => walk_at "dp"))
  | ((with_reducible refine' VX.Dp.mono' ?dd ?nn); (case nn => assumption); (case dd => walk_at "dp")))
local macro_rules | `(tactic| walk_at "sq") => `(tactic| first
  | assumption
  | (with_reducible exact SqL.of (by assumption))
  | (with_reducible exact SqT.of (by assumption))
  | ((with_reducible refine' Same.seq (same_new ?nn) ?qq); (case nn => assumption); (case qq => walk_at "sq"))
  | ((with_reducible refine' same_sqT (same_new ?nn) ?qq); (case nn => assumption); (case qq => walk_at "sq"))
  | ((with_reducible refine' Same.seq ?nn ?qq); (case nn => assumption); (case qq => walk_at "sq"))
  | ((with_reducible refine' same_sqT ?nn ?qq); (case nn => assumption); (case qq => walk_at "sq"))
  | ((with_reducible refine' SqL.of ?qq); (case qq => walk_at "lk"))
  | ((with_reducible refine' SqT.of ?qq); (case qq => walk_at "lk")))
local macro_rules | `(tactic| walk_at "cc") => `(tactic| first
  | exact ⟨by decide, by decide, by decide⟩
  | (show _ ≠ _; omega)
  | exact ⟨by omega, by omega⟩
  | exact Or.inl ⟨by omega, by omega⟩
  | exact Or.inr ⟨by omega, by omega⟩)
local macro_rules | `(tactic| walk_at "vcA") => `(tactic| repeat (first
  | ((with_reducible refine' VX.i_modA ?v1 ?_); (case v1 => omega); intro r hr0 hr1)
  | ((with_reducible refine' VX.i_divA ?v1 ?v2 ?_); (case v1 => omega); (case v2 => omega); intro r hr0 hr1)
  | walk_at "vc1"))
local macro_rules | `(tactic| walk_at "vc1") => `(tactic| first
  | ((with_reducible refine' VX.i_var ?v1 ?_); (case v1 => rfl))
  | (with_reducible refine' VX.i_c ?_)
  | (with_reducible refine' VX.i_op ?_)
  | (with_reducible refine' VX.i_cons ?_)
  | (with_reducible refine' VX.i_nil ?_)
  | (with_reducible refine' VX.i_seq ?_)
  | (with_reducible refine' VX.i_asg ?_)
  | ((with_reducible refine' VX.i_gname ?v2 ?_); (case v2 => (first | (simp only [List.set_cons_zero, List.set_cons_succ]; done) | (simp only [List.set_cons_zero, List.set_cons_succ]; exact rfl) | exact rfl)))
  | (with_reducible refine' VX.i_ifS ?_)
  | (with_reducible refine' VX.i_test ?_)
  | (with_reducible refine' VX.i_tB ?_)
  | (with_reducible refine' VX.i_bl ?_)
  | (with_reducible refine' VX.i_iteT ?_)
  | (with_reducible refine' VX.i_iteF ?_)
  | (with_reducible refine' VX.i_iteNT ?_)
  | (with_reducible refine' VX.i_iteNF ?_)
  | (with_reducible refine' VX.i_and ?_)
  | (with_reducible refine' VX.i_or ?_)
  | (with_reducible refine' VX.i_not ?_)
  | (with_reducible refine' VX.i_call ?_)
  | (with_reducible refine' VX.i_CB ?_)
  | (with_reducible refine' VX.i_make ?_)
  | (with_reducible refine' VX.i_makeK0 ?_)
  | (with_reducible refine' VX.i_mthK ?_)
  | (with_reducible refine' VX.i_mthS ?_)
  | (with_reducible refine' VX.i_meth ?_)
  | ((with_reducible refine' VX.i_ixL ?v1 ?v2 ?_); (case v1 => walk_at "sq"); (case v2 => first | rfl | assumption))
  | ((with_reducible refine' VX.i_ixT ?v1 ?v2 ?_); (case v1 => walk_at "sq"); (case v2 => first | rfl | assumption))
  | ((with_reducible refine' VX.i_setLU ?v2 ?v3 ?_); (case v2 => rfl); (case v3 => rfl))
  | ((with_reducible refine' VX.i_setL ?v1 ?v2 ?v3 ?_); (case v1 => walk_at "lk"); (case v2 => rfl); (case v3 => rfl))
  | (with_reducible refine' VX.i_rI0 ?_)
  | ((with_reducible refine' VX.i_rI ?v1 ?_); (case v1 => walk_at "cc"))
  | (with_reducible refine' VX.i_int ?_)
  | ((with_reducible refine' VX.i_rEqS ?v1 ?_); (case v1 => rfl))
  | ((with_reducible refine' VX.i_rNeS ?v1 ?_); (case v1 => rfl))
  | (with_reducible refine' VX.i_rEqI ?_)
  | (with_reducible refine' VX.i_rNeI ?_)
  | (with_reducible refine' VX.i_max2 ?_)
  | (with_reducible refine' VX.i_min2 ?_)
  | ((with_reducible refine' VX.i_lenL ?v1 ?_); (case v1 => walk_at "sq"))
  | ((with_reducible refine' VX.i_lenT ?v1 ?_); (case v1 => walk_at "sq"))
  | (with_reducible refine' VX.i_chain ?_)
  | (with_reducible refine' VX.i_gsub ?_)
  | (with_reducible refine' VX.i_ret ?_)
  | (with_reducible refine' VX.i_drop ?_)
  | (with_reducible refine' VX.i_next ?_)
  | (with_reducible refine' VX.i_retN ?_)
  | (with_reducible refine' VX.i_andV ?_)
  | (with_reducible refine' VX.i_orV ?_)
  | (with_reducible refine' VX.i_notV ?_)
  | (with_reducible refine' VX.i_ifE ?_)
  | (with_reducible refine' VX.i_un ?_)
  | (with_reducible refine' VX.i_rU ?_)
  | (with_reducible refine' VX.i_tup ?_)
  | (with_reducible refine' VX.i_lst ?_)
  | ((with_reducible refine' VX.i_fldv ?v1 ?v2 ?v3 ?v4 ?v5 ?_); (case v1 => rfl); (case v2 => walk_at "lk"); (case v3 => walk_at "cl"); (case v4 => walk_at "na"); (case v5 => first | rfl | assumption))
  | (with_reducible refine' VX.i_fld ?_)
  | (with_reducible refine' VX.i_sFld ?_)
  | (with_reducible refine' VX.i_mk1 ?_)
  | (with_reducible refine' VX.i_mk1v ?_)
  | (with_reducible refine' VX.i_gnil ?_)
  | (with_reducible refine' VX.i_lc ?_)
  | (with_reducible refine' VX.i_for ?_)
  | (with_reducible refine' VX.i_lstRg ?_)
  | (with_reducible refine' VX.i_rg2 ?_)
  | (with_reducible refine' VX.i_rg2v ?_)
  | (with_reducible refine' VX.i_yes ?_)
  | (with_reducible refine' VX.i_iList ?_)
  | (with_reducible refine' VX.i_iRng1 ?_)
  | (with_reducible refine' VX.i_iRng2 ?_)
  | (with_reducible refine' VX.i_iEnum ?_)
  | (with_reducible refine' VX.i_iZip ?_)
  | (with_reducible refine' VX.i_iOwn ?_)
  | ((with_reducible refine' VX.i_wipe ?v1 ?_); (case v1 => rfl))
  | (with_reducible refine' VX.i_andN ?_)
  | (with_reducible refine' VX.i_iteNDS ?_)
  | (with_reducible refine' VX.i_bm ?_)
  | ((with_reducible refine' VX.i_tyL ?v1 ?_); (case v1 => walk_at "sq"))
  | ((with_reducible refine' VX.i_append ?v1 ?v2 ?_); (case v1 => walk_at "lk"); (case v2 => (simp only [List.length_map, List.length_cons, List.length_nil, List.length_append]; omega)))
  | ((with_reducible refine' VX.i_iteDT ?v1 ?_); (case v1 => rfl))
  | ((with_reducible refine' VX.i_iteDF ?v1 ?_); (case v1 => intro h; cases h))
  | ((with_reducible refine' VX.i_isiD ?v1 ?v2 ?_); (case v1 => walk_at "dp"); (case v2 => decide))
  | ((with_reducible refine' VX.i_iteBT ?v1 ?_); (case v1 => rfl))
  | ((with_reducible refine' VX.i_iteBF ?v1 ?_); (case v1 => rfl))
  | (with_reducible refine' VX.i_gcons ?_)
  | (with_reducible refine' VX.i_dIn ?_)
  | (with_reducible refine' VX.i_dNotIn ?_)
  | (with_reducible refine' VX.i_dGet ?_)
  | (with_reducible refine' VX.i_items ?_)
  | (with_reducible refine' VX.i_keys ?_)
  | ((with_reducible refine' VX.i_gtup ?v1 ?v2 ?_); (case v1 => walk_at "sq"); (case v2 => rfl)))
local macro_rules | `(tactic| walk_at "vc") => `(tactic| repeat walk_at "vc1")

local macro_rules | `(tactic| walk_at "cl") => `(tactic| exact Txt.cl_Line (by assumption))
local macro_rules | `(tactic| walk_at "na") => `(tactic| first | exact Txt.na_Line_size (by assumption) | exact Txt.na_Line__spans (by assumption) | exact Txt.na_Line__mosts (by assumption))
abbrev pts (n : Int) : Nat := (n + 1 - -1).toNat
abbrev Pl := Int × Int × Int
def rowP (k p : Int) (j : Nat) : List Pl := (List.range j).map fun (i : Nat) => (k, p, -1 + (i : Int))
def blkP (n k : Int) (i : Nat) : List Pl := (List.range i).flatMap fun (i' : Nat) => rowP k (-1 + (i' : Int)) (pts n)
def allP (n : Int) (ks : List Int) : List Pl := ks.flatMap fun k => blkP n k (pts n)
theorem rowP_succ {k p : Int} {j : Nat} : rowP k p (j + 1) = rowP k p j ++ [(k, p, -1 + (j : Int))] := by
  unfold rowP
  rw [List.range_succ, List.map_append]
  rfl
theorem blkP_succ {n k : Int} {i : Nat} : blkP n k (i + 1) = blkP n k i ++ rowP k (-1 + (i : Int)) (pts n) := by
  unfold blkP
  rw [List.range_succ, List.flatMap_append]
  simp
theorem allP_succ {n : Int} {ks : List Int} {i : Nat} {k : Int} (h : ks[i]? = some k) : allP n (ks.take (i + 1)) = allP n (ks.take i) ++ blkP n k (pts n) := by
  unfold allP
  rw [List.take_add_one, h, List.flatMap_append]
  simp
theorem rowP_len {k p : Int} {j : Nat} : (rowP k p j).length = j := by
  unfold rowP
  rw [List.length_map, List.length_range]
theorem flat_len2 {α β : Type} {f : α → List β} {n : Nat} : ∀ l : List α, (∀ a ∈ l, (f a).length ≤ n) → (l.flatMap f).length ≤ l.length * n
  | [], _ => Nat.zero_le _
  | a :: l, h => by
    rw [List.flatMap_cons, List.length_append, List.length_cons, Nat.succ_mul]
    have := flat_len2 l fun x hx => h x (List.mem_cons_of_mem _ hx)
    have := h a List.mem_cons_self
    omega
theorem blkP_len {n k : Int} {i : Nat} (hn : pts n ≤ 8) : (blkP n k i).length ≤ i * 8 := by
  have := flat_len2 (f := fun (i' : Nat) => rowP k (-1 + (i' : Int)) (pts n)) (n := 8) (List.range i) fun a _ => by rw [rowP_len]; exact hn
  rwa [List.length_range] at this
theorem allP_len {n : Int} {ks : List Int} (hn : pts n ≤ 8) : (allP n ks).length ≤ ks.length * 64 :=
  flat_len2 (f := fun k => blkP n k (pts n)) ks fun k _ => by
    have := blkP_len (n := n) (k := k) (i := pts n) hn
    omega
/-- the answers at a place -/
def AnsP (us : List W4) (n : Int) (i : Pl) (x y : PyData) : Prop := AnsL (edges (decide (i.1 = 2)) us) n i.2.1 i.2.2 x ∧ AnsW (edges (decide (i.1 = 2)) us) n i.2.1 i.2.2 y
theorem Sp1.lift {H0 H F F' : Hp} {v : V} (h : Sp1 H F v) (e0 : Same H0 H) (e : Same F F') : Sp1 H0 F' v := by
  obtain ⟨T, s, b, rest, rfl, hT, h⟩ := h
  refine ⟨T, s, b, rest, rfl, e _ _ hT, ?_⟩
  rcases h with h | h | h | h | ⟨hs, l, xs, rfl, n, hl, l0, l1⟩
  · exact .inl h
  · exact .inr (.inl h)
  · exact .inr (.inr (.inl h))
  · exact .inr (.inr (.inr (.inl h)))
  · exact .inr (.inr (.inr (.inr ⟨hs, l, xs, rfl, e0.free n, e _ _ hl, l0, l1⟩)))
theorem Sp1.snoc {H F F' : Hp} {xs : List V} {v : V} (h : ∀ u ∈ xs, Sp1 H F u) (e : Same F F') (hv : Sp1 H F' v) : ∀ u ∈ xs ++ [v], Sp1 H F' u := fun u hu => by
  rcases List.mem_append.mp hu with hu | hu
  · exact (h u hu).lift (Same.refl _) e
  · rw [List.mem_singleton] at hu
    subst hu
    exact hv
section
variable {P : Program} {w : World} {K : PySem.W.Frag} {mg : Str → Option Value} {base : Heap} {A : Adr}
def spAns (A : Adr) (K : PySem.W.Frag) : Sp := fun vs H Q _ => ∃ (x a : Addr) (n m : Int) (ks : List Int) (us : List W4) (cs : List B3), vs = [.ref x, .int n, .ref a] ∧ SqL K H a (ks.map V.int) ∧ ks.length ≤ 2 ∧ IsLine A.c_Line H x n us cs ∧ us.length ≤ 1000 ∧ 1 ≤ n ∧ n ≤ 6 ∧ 0 ≤ m ∧ WOk n m us ∧
  ∀ D xs F' H' ds, Same H F' → Cxs F' [(D, .lst xs)] H' → DpAll K F' xs ds → F2 (AnsP us n) (allP n ks) ds → (∀ v ∈ xs, Sp1 H F' v) → Q (.ref D) H'
theorem ok_answers (T : Txt K mg A) : FnOk P w K mg base CX0 7 A.f_answers A.d_answers ["_law_line_here", "_law_size_here", "_law_kinds"] (spAns A K) := by
  refine T.F_answers.ok sc_answers (fun vs H Q E h => ?_) (fun cdv A' outer s H vs Q E hr h => ?_)
  · obtain ⟨x, a, n, m, ks, us, cs, rfl, _⟩ := h
    rfl
  · obtain ⟨x, a, n, m, ks, us, cs, rfl, hk, lk, hl, hz, n1, n6, m0, wo, q⟩ := h
    have hi2 : pts n ≤ 8 := by show (n + 1 - -1).toNat ≤ 8; omega
    refine ⟨_, (pss_cons (ps_set (i := 3) sc_answers.nd rfl (Or.inl rfl) (pe_lst pa_nil))
      (pss_cons (ps_for PassesOwn.never rfl (pi_list (pv 2)) (pg_name (i := 4) sc_answers.nd rfl (Or.inl rfl))
      (pss_one (ps_for PassesOwn.never rfl (pi_range2 (by rfl) T.n_range (pa_cons (pe_un un_neg pe_int) (pa_cons (pe_op op_add (pv 1) pe_int) pa_nil))) (pg_name (i := 5) sc_answers.nd rfl (Or.inl rfl))
      (pss_one (ps_for PassesOwn.never rfl (pi_range2 (by rfl) T.n_range (pa_cons (pe_un un_neg pe_int) (pa_cons (pe_op op_add (pv 1) pe_int) pa_nil))) (pg_name (i := 6) sc_answers.nd rfl (Or.inl rfl))
      (pss_cons (ps_expr (pe_bm PySem.F.plainAttrs_list PySem.F.slot_list_append PySem.F.type_list_append mt_append (pv 3) (pa_cons (pe_call (ok_ask_lag T) (hr.mono (by decide)) (by rfl) T.g_ask_lag T.F_ask_lag.kp (b_ask_lag T) .nil pass0 (pa_cons (pv 0) (pa_cons (pv 5) (pa_cons (pv 6) (pa_cons (pv 4) pa_nil))))) pa_nil)))
      (pss_one (ps_expr (pe_bm PySem.F.plainAttrs_list PySem.F.slot_list_append PySem.F.type_list_append mt_append (pv 3) (pa_cons (pe_call (ok_ask_way T) (hr.mono (by decide)) (by rfl) T.g_ask_way T.F_ask_way.kp (b_ask_way T) .nil pass0 (pa_cons (pv 0) (pa_cons (pv 5) (pa_cons (pv 6) (pa_cons (pv 4) pa_nil))))) pa_nil))))))))))
      (pss_one (ps_ret (pv 3))))), ?_⟩
    refine i_start (σ' := [some (V.ref x), some (.int n), some (.ref a), none, none, none, none]) rfl ?_
    walk_at "vc"
    refine ⟨lenB rfl, fun D nD => ?_⟩
    have c := (Cxs.start H).push (.lst []) nD
    generalize upd H D (.lst []) = H3 at c ⊢
    walk_at "vc"
    refine ⟨a, rfl, ⟨ks.map V.int, c.e.seq hk⟩, ?_⟩
    refine for_it (walk_list (K := K) (a := a) (xs := ks.map V.int)) (fun i σ' H' => ∃ y4 y5 y6 F xs ds, σ' = [some (V.ref x), some (.int n), some (.ref a), some (.ref D), y4, y5, y6] ∧ Same H F ∧ Cxs F [(D, .lst xs)] H' ∧ DpAll K F xs ds ∧ F2 (AnsP us n) (allP n (ks.take i)) ds ∧ ∀ v ∈ xs, Sp1 H F v)
      ⟨_, _, _, H, [], [], rfl, Same.refl _, c, .nil, .nil, fun v h => nomatch h⟩ (fun i σ' H' _ pv => ?_) (fun i y σ' H' H'' hi pv hy => ?_) fun σ' H' pv => ?_
    · obtain ⟨y4, y5, y6, F, xs, ds, rfl, eF, c, _⟩ := pv
      exact (eF.trans c.e).seq hk
    · clear c
      obtain ⟨y4, y5, y6, F, xs, ds, rfl, eF, c, hp, ff, hs⟩ := pv
      obtain ⟨rfl, hv⟩ := hy
      have hi' : i < ks.length := by rwa [List.length_map] at hi
      have hki : ks[i]? = some ks[i] := List.getElem?_eq_getElem hi'
      rw [List.getElem?_map, hki] at hv
      cases hv
      have stp := allP_succ (n := n) hki
      generalize ks[i] = k at hki stp
      have lal : (allP n (ks.take i)).length ≤ 64 := by
        have := allP_len (n := n) (ks := ks.take i) hi2
        rw [List.length_take] at this
        omega
      rw [stp]
      clear stp
      generalize allP n (ks.take i) = al at ff lal ⊢
      walk_at "vc"
      refine ⟨-1, n + 1, rfl, ⟨by omega, by omega, by omega, by omega⟩, ?_⟩
      refine for_it (walk_range (lo := -1) (n := pts n)) (fun j σ' H' => ∃ y5 y6 F xs ds, σ' = [some (V.ref x), some (.int n), some (.ref a), some (.ref D), some (.int k), y5, y6] ∧ Same H F ∧ Cxs F [(D, .lst xs)] H' ∧ DpAll K F xs ds ∧ F2 (AnsP us n) (al ++ blkP n k j) ds ∧ ∀ v ∈ xs, Sp1 H F v)
        ⟨_, _, F, xs, ds, rfl, eF, c, hp, by rw [show blkP n k 0 = [] from rfl, List.append_nil]; exact ff, hs⟩ (fun _ _ _ _ _ => trivial) (fun j y σ' H1 H2 hj pv hy => ?_) fun σ' H' pv => ?_
      · clear c hp ff hs eF
        obtain ⟨y5, y6, F, xs, ds, rfl, eF, c, hp, ff, hs⟩ := pv
        obtain ⟨rfl, rfl⟩ := hy
        rw [blkP_succ, ← List.append_assoc]
        have lbl : (al ++ blkP n k j).length ≤ 128 := by
          have := blkP_len (n := n) (k := k) (i := j) hi2
          rw [List.length_append]
          omega
        generalize al ++ blkP n k j = al at ff lbl ⊢
        generalize hp' : (-1 + (j : Int)) = p
        walk_at "vc"
        rw [hp']
        refine ⟨-1, n + 1, rfl, ⟨by omega, by omega, by omega, by omega⟩, ?_⟩
        refine for_it (walk_range (lo := -1) (n := pts n)) (fun t σ' H' => ∃ y6 F xs ds, σ' = [some (V.ref x), some (.int n), some (.ref a), some (.ref D), some (.int k), some (.int p), y6] ∧ Same H F ∧ Cxs F [(D, .lst xs)] H' ∧ DpAll K F xs ds ∧ F2 (AnsP us n) (al ++ rowP k p t) ds ∧ ∀ v ∈ xs, Sp1 H F v)
          ⟨_, F, xs, ds, rfl, eF, c, hp, by rw [show rowP k p 0 = [] from rfl, List.append_nil]; exact ff, hs⟩ (fun _ _ _ _ _ => trivial) (fun t y σ' H4 H5 ht pv hy => ?_) fun σ' H' pv => ?_
        · clear c hp ff hs eF
          obtain ⟨y6, F, xs, ds, rfl, eF, c, hp, ff, hs⟩ := pv
          obtain ⟨rfl, rfl⟩ := hy
          rw [rowP_succ, ← List.append_assoc]
          have lx : xs.length ≤ 300 := by
            have := ff.len
            rw [List.length_append, rowP_len] at this
            have := dpa_len hp
            omega
          generalize al ++ rowP k p t = al at ff ⊢
          generalize hq' : (-1 + (t : Int)) = o
          walk_at "vc"
          rw [hq']
          refine i_tyL (SqL.of (c.at 0 rfl)) ?_
          walk_at "vc"
          refine ⟨F, x, n, m, p, o, k, us, cs, rfl, c.e, hl.mono eF, hz, by omega, m0, wo, fun v H6 d1 a1 e6 dv sv => ?_⟩
          have g := grow_same c.e e6
          have sv := sv.lift (eF.trans c.e) (Same.refl _)
          have c := c.grown e6
          have hp := (hp.mono g).snoc dv
          have hs := Sp1.snoc hs g sv
          have eF := eF.trans g
          generalize VX.grow F H5 H6 = F at c hp hs eF
          clear g dv sv
          walk_at "vc"
          refine i_append (xs := xs) (c.at 0 rfl) (by omega) ?_
          have c : Cxs F [(D, .lst (xs ++ [v]))] (upd H6 D (.lst (xs ++ [v]))) := c.turn 0 rfl _
          generalize upd H6 D (.lst (xs ++ [v])) = H7 at c ⊢
          walk_at "vc"
          refine i_tyL (SqL.of (c.at 0 rfl)) ?_
          walk_at "vc"
          refine ⟨F, x, n, m, p, o, k, us, cs, rfl, c.e, hl.mono eF, hz, by omega, m0, wo, fun v2 H8 d2 a2 e8 dv sv => ?_⟩
          have g := grow_same c.e e8
          have sv := sv.lift (eF.trans c.e) (Same.refl _)
          have c := c.grown e8
          have hp := (hp.mono g).snoc dv
          have hs := Sp1.snoc hs g sv
          have eF := eF.trans g
          generalize VX.grow F H7 H8 = F at c hp hs eF
          clear g dv sv
          walk_at "vc"
          refine i_append (xs := xs ++ [v]) (c.at 0 rfl) (by rw [List.length_append, List.length_singleton]; omega) ?_
          have c : Cxs F [(D, .lst (xs ++ [v] ++ [v2]))] (upd H8 D (.lst (xs ++ [v] ++ [v2]))) := c.turn 0 rfl _
          generalize upd H8 D (.lst (xs ++ [v] ++ [v2])) = H9 at c ⊢
          walk_at "vc"
          exact ⟨_, F, xs ++ [v] ++ [v2], ds ++ [d1] ++ [d2], rfl, eF, c, hp, ff.snoc (i := (k, p, o)) ⟨a1, a2⟩, hs⟩
        · obtain ⟨y6, F, xs, ds, rfl, eF, c, hp, ff, hs⟩ := pv
          walk_at "vc"
          exact ⟨_, _, F, xs, ds, rfl, eF, c, hp, ff, hs⟩
      · obtain ⟨y5, y6, F, xs, ds, rfl, eF, c, hp, ff, hs⟩ := pv
        walk_at "vc"
        exact ⟨_, _, _, F, xs, ds, rfl, eF, c, hp, ff, hs⟩
    · obtain ⟨y4, y5, y6, F, xs, ds, rfl, eF, c, hp, ff, hs⟩ := pv
      rw [List.length_map, List.take_length] at ff
      walk_at "vc"
      exact q D xs F H' ds eF c hp ff hs
end
end K03
set_option maxRecDepth 100000
set_option maxHeartbeats 1000000
namespace K03
open PySem PySem.Spec PyProof.Rows L2 VX Way
local macro_rules | `(tactic| walk_at "ne") => `(tactic| first
  | assumption
  | exact Ne.symm (by assumption)
  | exact ne_of_none (by assumption) (by assumption)
  | exact Ne.symm (ne_of_none (by assumption) (by assumption))
  | ((with_reducible refine' ne_of_none ?n1 ?n2); (case n2 => assumption); (case n1 => walk_at "lk"))
  | ((with_reducible refine' Ne.symm (ne_of_none ?n1 ?n2)); (case n2 => assumption); (case n1 => walk_at "lk")))
local macro_rules | `(tactic| walk_at "lk") => `(tactic| first
  | assumption
  | (with_reducible exact upd_same)
  | ((with_reducible refine' (upd_ne ?nn).trans ?ll); (case nn => walk_at "ne"); (case ll => walk_at "lk"))
  | ((with_reducible refine' VX.same_at ?nn ?ll); (case nn => assumption); (case ll => walk_at "lk")))
local macro_rules | `(tactic| walk_at "dp") => `(tactic| first
  | assumption
  | (with_reducible exact Dp.non)
  | (with_reducible exact Dp.bl _)
  | (with_reducible exact Dp.int _)
  | (with_reducible exact Dp.str _)
  | ((with_reducible refine' VX.Dp.mono' ?dd (same_new ?nn)); (case nn => assumption); (case dd => walk_at "dp"))
  | ((with_reducible refine' VX.Dp.mono' ?dd ?nn); (case nn => assumption); (case dd => walk_at "dp")))
local macro_rules | `(tactic| walk_at "sq") => `(tactic| first
  | assumption
  | (with_reducible exact SqL.of (by assumption))
  | (with_reducible exact SqT.of (by assumption))
  | ((with_reducible refine' Same.seq (same_new ?nn) ?qq); (case nn => assumption); (case qq => walk_at "sq"))
  | ((with_reducible refine' same_sqT (same_new ?nn) ?qq); (case nn => assumption); (case qq => walk_at "sq"))
  | ((with_reducible refine' Same.seq ?nn ?qq); (case nn => assumption); (case qq => walk_at "sq"))
  | ((with_reducible refine' same_sqT ?nn ?qq); (case nn => assumption); (case qq => walk_at "sq"))
  | ((with_reducible refine' SqL.of ?qq); (case qq => walk_at "lk"))
  | ((with_reducible refine' SqT.of ?qq); (case qq => walk_at "lk")))
local macro_rules | `(tactic| walk_at "cc") => `(tactic| first
  | exact ⟨by decide, by decide, by decide⟩
  | (show _ ≠ _; omega)
  | exact ⟨by omega, by omega⟩
  | exact Or.inl ⟨by omega, by omega⟩
  | exact Or.inr ⟨by omega, by omega⟩)
local macro_rules | `(tactic| walk_at "vcA") => `(tactic| repeat (first
  | ((with_reducible refine' VX.i_modA ?v1 ?_); (case v1 => omega); intro r hr0 hr1)
  | ((with_reducible refine' VX.i_divA ?v1 ?v2 ?_); (case v1 => omega); (case v2 => omega); intro r hr0 hr1)
  | walk_at "vc1"))
local macro_rules | `(tactic| walk_at "vc1") => `(tactic| first
  | ((with_reducible refine' VX.i_var ?v1 ?_); (case v1 => rfl))
  | (with_reducible refine' VX.i_c ?_)
  | (with_reducible refine' VX.i_op ?_)
  | (with_reducible refine' VX.i_cons ?_)
  | (with_reducible refine' VX.i_nil ?_)
  | (with_reducible refine' VX.i_seq ?_)
  | (with_reducible refine' VX.i_asg ?_)
  | ((with_reducible refine' VX.i_gname ?v2 ?_); (case v2 => (first | (simp only [List.set_cons_zero, List.set_cons_succ]; done) | (simp only [List.set_cons_zero, List.set_cons_succ]; exact rfl) | exact rfl)))
  | (with_reducible refine' VX.i_ifS ?_)
  | (with_reducible refine' VX.i_test ?_)
  | (with_reducible refine' VX.i_tB ?_)
  | (with_reducible refine' VX.i_bl ?_)
  | (with_reducible refine' VX.i_iteT ?_)
  | (with_reducible refine' VX.i_iteF ?_)
  | (with_reducible refine' VX.i_iteNT ?_)
  | (with_reducible refine' VX.i_iteNF ?_)
  | (with_reducible refine' VX.i_and ?_)
  | (with_reducible refine' VX.i_or ?_)
  | (with_reducible refine' VX.i_not ?_)
  | (with_reducible refine' VX.i_call ?_)
  | (with_reducible refine' VX.i_CB ?_)
  | (with_reducible refine' VX.i_make ?_)
  | (with_reducible refine' VX.i_makeK0 ?_)
  | (with_reducible refine' VX.i_mthK ?_)
  | (with_reducible refine' VX.i_mthS ?_)
  | (with_reducible refine' VX.i_meth ?_)
  | ((with_reducible refine' VX.i_ixL ?v1 ?v2 ?_); (case v1 => walk_at "sq"); (case v2 => first | rfl | assumption))
  | ((with_reducible refine' VX.i_ixT ?v1 ?v2 ?_); (case v1 => walk_at "sq"); (case v2 => first | rfl | assumption))
  | ((with_reducible refine' VX.i_setLU ?v2 ?v3 ?_); (case v2 => rfl); (case v3 => rfl))
  | ((with_reducible refine' VX.i_setL ?v1 ?v2 ?v3 ?_); (case v1 => walk_at "lk"); (case v2 => rfl); (case v3 => rfl))
  | (with_reducible refine' VX.i_rI0 ?_)
  | ((with_reducible refine' VX.i_rI ?v1 ?_); (case v1 => walk_at "cc"))
  | (with_reducible refine' VX.i_int ?_)
  | ((with_reducible refine' VX.i_rEqS ?v1 ?_); (case v1 => rfl))
  | ((with_reducible refine' VX.i_rNeS ?v1 ?_); (case v1 => rfl))
  | (with_reducible refine' VX.i_rEqI ?_)
  | (with_reducible refine' VX.i_rNeI ?_)
  | (with_reducible refine' VX.i_max2 ?_)
  | (with_reducible refine' VX.i_min2 ?_)
  | ((with_reducible refine' VX.i_lenL ?v1 ?_); (case v1 => walk_at "sq"))
  | ((with_reducible refine' VX.i_lenT ?v1 ?_); (case v1 => walk_at "sq"))
  | (with_reducible refine' VX.i_chain ?_)
  | (with_reducible refine' VX.i_gsub ?_)
  | (with_reducible refine' VX.i_ret ?_)
  | (with_reducible refine' VX.i_drop ?_)
  | (with_reducible refine' VX.i_next ?_)
  | (with_reducible refine' VX.i_retN ?_)
  | (with_reducible refine' VX.i_andV ?_)
  | (with_reducible refine' VX.i_orV ?_)
  | (with_reducible refine' VX.i_notV ?_)
  | (with_reducible refine' VX.i_ifE ?_)
  | (with_reducible refine' VX.i_un ?_)
  | (with_reducible refine' VX.i_rU ?_)
  | (with_reducible refine' VX.i_tup ?_)
  | (with_reducible refine' VX.i_lst ?_)
  | ((with_reducible refine' VX.i_fldv ?v1 ?v2 ?v3 ?v4 ?v5 ?_); (case v1 => rfl); (case v2 => walk_at "lk"); (case v3 => walk_at "cl"); (case v4 => walk_at "na"); (case v5 => first | rfl | assumption))
  | (with_reducible refine' VX.i_fld ?_)
  | (with_reducible refine' VX.i_sFld ?_)
  | (with_reducible refine' VX.i_mk1 ?_)
  | (with_reducible refine' VX.i_mk1v ?_)
  | (with_reducible refine' VX.i_gnil ?_)
  | (with_reducible refine' VX.i_lc ?_)
  | (with_reducible refine' VX.i_for ?_)
  | (with_reducible refine' VX.i_lstRg ?_)
  | (with_reducible refine' VX.i_rg2 ?_)
  | (with_reducible refine' VX.i_rg2v ?_)
  | (with_reducible refine' VX.i_yes ?_)
  | (with_reducible refine' VX.i_iList ?_)
  | (with_reducible refine' VX.i_iRng1 ?_)
  | (with_reducible refine' VX.i_iRng2 ?_)
  | (with_reducible refine' VX.i_iEnum ?_)
  | (with_reducible refine' VX.i_iZip ?_)
  | (with_reducible refine' VX.i_iOwn ?_)
  | ((with_reducible refine' VX.i_wipe ?v1 ?_); (case v1 => rfl))
  | (with_reducible refine' VX.i_andN ?_)
  | (with_reducible refine' VX.i_iteNDS ?_)
  | (with_reducible refine' VX.i_bm ?_)
  | ((with_reducible refine' VX.i_tyL ?v1 ?_); (case v1 => walk_at "sq"))
  | ((with_reducible refine' VX.i_append ?v1 ?v2 ?_); (case v1 => walk_at "lk"); (case v2 => (simp only [List.length_map, List.length_cons, List.length_nil, List.length_append]; omega)))
  | ((with_reducible refine' VX.i_iteDT ?v1 ?_); (case v1 => rfl))
  | ((with_reducible refine' VX.i_iteDF ?v1 ?_); (case v1 => intro h; cases h))
  | ((with_reducible refine' VX.i_isiD ?v1 ?v2 ?_); (case v1 => walk_at "dp"); (case v2 => decide))
  | ((with_reducible refine' VX.i_iteBT ?v1 ?_); (case v1 => rfl))
  | ((with_reducible refine' VX.i_iteBF ?v1 ?_); (case v1 => rfl))
  | (with_reducible refine' VX.i_gcons ?_)
  | (with_reducible refine' VX.i_dIn ?_)
  | (with_reducible refine' VX.i_dNotIn ?_)
  | (with_reducible refine' VX.i_dGet ?_)
  | (with_reducible refine' VX.i_items ?_)
  | (with_reducible refine' VX.i_keys ?_)
  | ((with_reducible refine' VX.i_gtup ?v1 ?v2 ?_); (case v1 => walk_at "sq"); (case v2 => rfl)))
local macro_rules | `(tactic| walk_at "vc") => `(tactic| repeat walk_at "vc1")

local macro_rules | `(tactic| walk_at "cl") => `(tactic| exact Txt.cl_Line (by assumption))
local macro_rules | `(tactic| walk_at "na") => `(tactic| first | exact Txt.na_Line_size (by assumption) | exact Txt.na_Line__spans (by assumption) | exact Txt.na_Line__mosts (by assumption))
/-- the edges on which a way goes on -/
def gB (p : Int × List Int) (e : Ed) : Bool := decide (p.2.getLast? = some e.1 ∧ e.2.1 ∉ p.2)
def g1 (E : List Ed) (p : Int × List Int) : List (Int × List Int) := (E.filter (gB p)).map fun e => (p.1 + e.2.2, p.2 ++ [e.2.1])
theorem grown_eq (E : List Ed) (last : List (Int × List Int)) : grown E last = last.flatMap (g1 E) := rfl
/-- at most n edges leave one box -/
theorem out_len {E : List Ed} {n : Nat} (nd : (E.map ek).Nodup) (rng : ∀ e ∈ E, 0 ≤ e.2.1 ∧ e.2.1 < n) {f : Ed → Bool} {s : Int} (hf : ∀ e ∈ E, f e = true → e.1 = s) : (E.filter f).length ≤ n := by
  have h := nodup_short n (l := (E.filter f).map (·.2.1)) ?_ fun x hx => ?_
  · rwa [List.length_map] at h
  · have h1 : ((E.filter f).map ek).Nodup := (List.filter_sublist.map ek).nodup nd
    unfold List.Nodup at h1 ⊢
    rw [List.pairwise_map] at h1 ⊢
    refine h1.imp_of_mem fun {a c} ha hc ne e => ne ?_
    obtain ⟨a1, a2⟩ := List.mem_filter.mp ha
    obtain ⟨c1, c2⟩ := List.mem_filter.mp hc
    unfold ek
    rw [hf a a1 a2, hf c c1 c2, e]
  · obtain ⟨e, he, rfl⟩ := List.mem_map.mp hx
    exact rng e (List.mem_filter.mp he).1
theorem flat_len {α β : Type} {f : α → List β} {n : Nat} (h : ∀ a, (f a).length ≤ n) : ∀ l : List α, (l.flatMap f).length ≤ l.length * n
  | [] => Nat.zero_le _
  | a :: l => by
    rw [List.flatMap_cons, List.length_append, List.length_cons, Nat.succ_mul]
    have := flat_len h l
    have := h a
    omega
theorem g1_len {E : List Ed} {n : Nat} (nd : (E.map ek).Nodup) (rng : ∀ e ∈ E, 0 ≤ e.2.1 ∧ e.2.1 < n) (p : Int × List Int) : (g1 E p).length ≤ n := by
  unfold g1
  rw [List.length_map]
  cases h : p.2.getLast? with
  | none =>
    have : E.filter (gB p) = [] := List.filter_eq_nil_iff.mpr fun e _ he => by
      unfold gB at he
      have he := (of_decide_eq_true he).1
      rw [h] at he
      cases he
    rw [this]
    exact Nat.zero_le _
  | some s =>
    refine out_len nd rng (s := s) fun e _ he => ?_
    unfold gB at he
    have he := (of_decide_eq_true he).1
    rw [h] at he
    exact (Option.some.inj he).symm
theorem level_len {E : List Ed} {n : Nat} (nd : (E.map ek).Nodup) (rng : ∀ e ∈ E, 0 ≤ e.2.1 ∧ e.2.1 < n) (hn : n ≤ 6) (a : Int) : ∀ k : Nat, (level E a k).length ≤ 6 ^ k
  | 0 => Nat.le_refl _
  | k + 1 => by
    rw [level, grown_eq, Nat.pow_succ]
    exact Nat.le_trans (flat_len (fun p => Nat.le_trans (g1_len nd rng p) hn) _) (Nat.mul_le_mul_right 6 (level_len nd rng hn a k))
theorem upTo_len {E : List Ed} {n : Nat} (nd : (E.map ek).Nodup) (rng : ∀ e ∈ E, 0 ≤ e.2.1 ∧ e.2.1 < n) (hn : n ≤ 6) (a : Int) : ∀ k : Nat, (Way.upTo E a k).length ≤ 2 * 6 ^ k
  | 0 => by show (level E a 0).length ≤ 2; exact Nat.le_trans (level_len nd rng hn a 0) (by decide)
  | k + 1 => by
    rw [Way.upTo, List.length_append]
    have h1 := upTo_len nd rng hn a k
    have h2 := level_len nd rng hn a (k + 1)
    rw [Nat.pow_succ] at h2 ⊢
    omega
theorem edges_nd {late : Bool} {us : List W4} (nd : (us.map W4.k).Nodup) : ((edges late us).map ek).Nodup := edges_k.nodup nd
theorem edges_rng {late : Bool} {us : List W4} {n m : Int} (h : WOk n m us) : ∀ e ∈ edges late us, 0 ≤ e.2.1 ∧ e.2.1 < (n.toNat : Int) := fun e he => by
  obtain ⟨u, hu, e'⟩ := List.mem_filterMap.mp he
  have q := h.w u hu
  have k := eOf_k e'
  unfold ek at k
  have k : [e.1, e.2.1] = [u.s, u.t] := k
  simp only [List.cons.injEq, and_true] at k
  have := q.t0
  have := q.t1
  omega
theorem dpa_inv_ints {K : PySem.W.Frag} {H : Hp} : ∀ {ns : List Int} {xs : List V}, DpAll K H xs (ns.map PyData.int) → xs = ns.map V.int
  | [], _, h => by cases h; rfl
  | n :: ns, _, h => by
    cases h with
    | cons h1 h2 =>
      cases h1
      rw [dpa_inv_ints h2]
      rfl
/-- a (hours, way) -/
theorem dp_hl {K : PySem.W.Frag} {H : Hp} {v : V} {p : Int × List Int} (h : Dp K H v (dHL p)) : ∃ t l, v = .ref t ∧ SqT K H t [.int p.1, .ref l] ∧ SqL K H l (p.2.map V.int) := by
  have h : Dp K H v (.tuple [.int p.1, .list (p.2.map PyData.int)]) := h
  cases h with
  | tup hs hp =>
    cases hp with
    | cons h1 hp =>
      cases h1
      cases hp with
      | cons h2 hp =>
        cases hp
        cases h2 with
        | lst hl hq =>
          rw [dpa_inv_ints hq] at hl
          exact ⟨_, _, rfl, hs, hl⟩
theorem hl_dp {K : PySem.W.Frag} {H : Hp} {t l : Addr} {p : Int × List Int} (ht : SqT K H t [.int p.1, .ref l]) (hl : SqL K H l (p.2.map V.int)) : Dp K H (.ref t) (dHL p) := .tup ht (.cons (.int _) (.cons (dp_ints hl) .nil))
theorem in_ints (x : Int) : ∀ l : List Int, inV (.int x) (l.map V.int) = decide (x ∈ l)
  | [] => rfl
  | y :: l => by
    have := in_ints x l
    unfold inV at this ⊢
    rw [List.map_cons, List.any_cons, this]
    have e : eqV (.int y) (.int x) = decide (y = x) := rfl
    rw [e]
    by_cases z : x = y
    · subst z
      simp
    · have z2 : ¬ y = x := fun w => z w.symm
      simp [z, z2]
theorem flat_ints : ∀ l : List Int, (l.map V.int).all flatV = true
  | [] => rfl
  | _ :: l => by
    rw [List.map_cons, List.all_cons, flat_ints l]
    rfl
section
variable {P : Program} {w : World} {K : PySem.W.Frag} {mg : Str → Option Value} {base : Heap} {A : Adr}
def spWays (K : PySem.W.Frag) : Sp := fun vs H Q _ => ∃ (F0 : Hp) (T0 : List (Addr × HO)) (n m b : Int) (a : Addr) (late : Bool) (xs : List V) (ws : List W4), vs = [.int n, .ref a, .int b, .bl late] ∧ Cxs F0 T0 H ∧ SqL K F0 a xs ∧ DpAll K F0 xs (ws.map W4.d) ∧ WOk n m ws ∧ 1 ≤ n ∧ n ≤ 6 ∧
  ∀ D ys F' H', Same F0 F' → Cxs F' T0 H' → F' D = some (.lst ys) → DpAll K F' ys ((Way.upTo (edges late ws) b (n - 1).toNat).map dHL) → Q (.ref D) H'
theorem ok_ways (T : Txt K mg A) : FnOk P w K mg base CX0 1 A.f_ways A.d_ways ["_law_size_here", "_law_wires_here", "_law_point", "_law_slowly"] (spWays K) := by
  refine T.F_ways.ok sc_ways (fun vs H Q E h => ?_) (fun cdv A' outer s H vs Q E hr h => ?_)
  · obtain ⟨F0, T0, n, m, b, a, late, xs, ws, rfl, _⟩ := h
    rfl
  · obtain ⟨F0, T0, n, m, b, a, late, xs, ws, rfl, c, hs, hx, wo, n1, n6, q⟩ := h
    have lx : xs.length = ws.length := by rw [dpa_len hx, List.length_map]
    have nd := edges_nd (late := late) wo.nd
    have rng := edges_rng (late := late) wo
    have n6' : n.toNat ≤ 6 := by omega
    refine ⟨_, (pss_cons (ps_set (i := 4) sc_ways.nd rfl (Or.inl rfl) (pe_lst (pa_cons (pe_tup (pa_cons pe_int (pa_cons (pe_lst (pa_cons (pv 2) pa_nil)) pa_nil))) pa_nil)))
      (pss_cons (ps_set (i := 5) sc_ways.nd rfl (Or.inl rfl) (pe_lst (pa_cons (pe_tup (pa_cons pe_int (pa_cons (pe_lst (pa_cons (pv 2) pa_nil)) pa_nil))) pa_nil)))
      (pss_cons (ps_for PassesOwn.never rfl (pi_range1 (by rfl) T.n_range (pa_cons (pe_op op_sub (pv 0) pe_int) pa_nil)) (pg_name (i := 6) sc_ways.nd rfl (Or.inl rfl))
      (pss_cons (ps_set (i := 7) sc_ways.nd rfl (Or.inl rfl) (pe_lst pa_nil))
      (pss_cons (ps_for PassesOwn.never rfl (pi_list (pv 5)) (pg_tup rfl (pgs_cons (pg_name (i := 8) sc_ways.nd rfl (Or.inl rfl)) (pgs_cons (pg_name (i := 9) sc_ways.nd rfl (Or.inl rfl)) pgs_nil)))
      (pss_one (ps_for PassesOwn.never rfl (pi_list (pv 1)) (pg_tup rfl (pgs_cons (pg_name (i := 10) sc_ways.nd rfl (Or.inl rfl)) (pgs_cons (pg_name (i := 11) sc_ways.nd rfl (Or.inl rfl)) (pgs_cons (pg_name (i := 12) sc_ways.nd rfl (Or.inl rfl)) (pgs_cons (pg_name (i := 13) sc_ways.nd rfl (Or.inl rfl)) pgs_nil)))))
      (pss_cons (ps_set (i := 14) sc_ways.nd rfl (Or.inl rfl) (pv 12))
      (pss_cons (ps_if (pt_val (pv 3)) (pss_one (ps_set (i := 14) sc_ways.nd rfl (Or.inl rfl) (pv 13))) pss_nil)
      (pss_one (ps_if (PW.pt (pw_and (pt_cmpR op_eq (pv 10) (pe_ix (r := rIxL K) ix_list (pv 9) (pe_un un_neg pe_int) (fun _ _ => rfl)) (nomark _)) (pw_and (pt_cmpR op_notIn_seq (pv 11) (pv 9) (by rfl)) (pw_and1 (pt_cmpR op_notN (pv 14) pe_non (nomark _)))))) (pss_one (ps_expr (pe_bm PySem.F.plainAttrs_list PySem.F.slot_list_append PySem.F.type_list_append mt_append (pv 7) (pa_cons (pe_tup (pa_cons (pe_op op_add (pv 8) (pv 14)) (pa_cons (pe_op op_catL (pv 9) (pe_lst (pa_cons (pv 11) pa_nil))) pa_nil))) pa_nil)))) pss_nil)))))))
      (pss_cons (ps_set (i := 4) sc_ways.nd rfl (Or.inl rfl) (pe_op op_cat (pv 4) (pv 7)))
      (pss_one (ps_set (i := 5) sc_ways.nd rfl (Or.inl rfl) (pe_callTy call_listOf (by rfl) T.n_list (by decide +kernel) (pa_cons (pv 7) pa_nil))))))))
      (pss_one (ps_ret (pv 4)))))), ?_⟩
    refine i_start (σ' := [some (V.int n), some (.ref a), some (.int b), some (.bl late), none, none, none, none, none, none, none, none, none, none, none]) rfl ?_
    walk_at "vc"
    refine ⟨lenB rfl, fun L1 m1 => ?_⟩
    walk_at "vc"
    refine ⟨lenB rfl, fun T1 m2 => ?_⟩
    walk_at "vc"
    refine ⟨lenB rfl, fun W m3 => ?_⟩
    have c1 := c.new (.lst [V.int b]) m1
    have c2 := c1.new (.tup [V.int 0, .ref L1]) m2
    have e1 := (c.sub (u := .lst [V.int b]) m1).trans ((c1.sub (u := .tup [V.int 0, .ref L1]) m2).trans (c2.sub (u := .lst [V.ref T1]) m3))
    have dW : DpAll K (upd (upd (upd F0 L1 (.lst [V.int b])) T1 (.tup [V.int 0, .ref L1])) W (.lst [V.ref T1])) [V.ref T1] ((Way.upTo (edges late ws) b 0).map dHL) := .cons (hl_dp (p := (0, [b])) (SqT.of ((c2.sub (u := .lst [V.ref T1]) m3) _ _ upd_same)) (SqL.of ((c2.sub (u := .lst [V.ref T1]) m3) _ _ ((c1.sub (u := .tup [V.int 0, .ref L1]) m2) _ _ upd_same)))) .nil
    have hW : upd (upd (upd F0 L1 (.lst [V.int b])) T1 (.tup [V.int 0, .ref L1])) W (.lst [V.ref T1]) W = some (.lst [V.ref T1]) := upd_same
    have c := c2.new (.lst [V.ref T1]) m3
    generalize upd (upd (upd F0 L1 (.lst [V.int b])) T1 (.tup [V.int 0, .ref L1])) W (.lst [V.ref T1]) = F1 at e1 dW hW c
    generalize upd (upd (upd H L1 (.lst [V.int b])) T1 (.tup [V.int 0, .ref L1])) W (.lst [V.ref T1]) = H1 at c ⊢
    clear c1 c2 m1 m2 m3
    walk_at "vc"
    refine ⟨lenB rfl, fun L1 m1 => ?_⟩
    walk_at "vc"
    refine ⟨lenB rfl, fun T2 m2 => ?_⟩
    walk_at "vc"
    refine ⟨lenB rfl, fun L m3 => ?_⟩
    have c1 := c.new (.lst [V.int b]) m1
    have c2 := c1.new (.tup [V.int 0, .ref L1]) m2
    have e2 := (c.sub (u := .lst [V.int b]) m1).trans ((c1.sub (u := .tup [V.int 0, .ref L1]) m2).trans (c2.sub (u := .lst [V.ref T2]) m3))
    have dL : DpAll K (upd (upd (upd F1 L1 (.lst [V.int b])) T2 (.tup [V.int 0, .ref L1])) L (.lst [V.ref T2])) [V.ref T2] ((level (edges late ws) b 0).map dHL) := .cons (hl_dp (p := (0, [b])) (SqT.of ((c2.sub (u := .lst [V.ref T2]) m3) _ _ upd_same)) (SqL.of ((c2.sub (u := .lst [V.ref T2]) m3) _ _ ((c1.sub (u := .tup [V.int 0, .ref L1]) m2) _ _ upd_same)))) .nil
    have hL : upd (upd (upd F1 L1 (.lst [V.int b])) T2 (.tup [V.int 0, .ref L1])) L (.lst [V.ref T2]) L = some (.lst [V.ref T2]) := upd_same
    have dW := dW.mono e2
    have hW := e2 _ _ hW
    have c := c2.new (.lst [V.ref T2]) m3
    generalize upd (upd (upd F1 L1 (.lst [V.int b])) T2 (.tup [V.int 0, .ref L1])) L (.lst [V.ref T2]) = F2 at e2 dW hW dL hL c
    generalize upd (upd (upd H1 L1 (.lst [V.int b])) T2 (.tup [V.int 0, .ref L1])) L (.lst [V.ref T2]) = H2 at c ⊢
    clear c1 c2 m1 m2 m3
    walk_at "vc"
    refine ⟨n - 1, rfl, by omega, by omega, ?_⟩
    refine for_it (walk_range (lo := 0) (n := (n - 1).toNat)) (fun i σ' H' => ∃ F W L xw xl y6 y7 y8 y9 y10 y11 y12 y13 y14, σ' = [some (V.int n), some (.ref a), some (.int b), some (.bl late), some (.ref W), some (.ref L), y6, y7, y8, y9, y10, y11, y12, y13, y14] ∧ Same F0 F ∧ Cxs F T0 H' ∧ F W = some (.lst xw) ∧ F L = some (.lst xl) ∧
        DpAll K F xw ((Way.upTo (edges late ws) b i).map dHL) ∧ DpAll K F xl ((level (edges late ws) b i).map dHL)) ⟨F2, W, L, _, _, _, _, _, _, _, _, _, _, _, rfl, e1.trans e2, c, hW, hL, dW, dL⟩ (fun _ _ _ _ _ => trivial) (fun i y σ' H0' H' hi pv hy => ?_) fun σ' H' pv => ?_
    · clear hW hL dW dL e1 e2 c
      obtain ⟨F5, W, L, xw, xl, y6, y7, y8, y9, y10, y11, y12, y13, y14, rfl, e, c, hW, hL, dW, dL⟩ := pv
      obtain ⟨rfl, rfl⟩ := hy
      walk_at "vc"
      refine ⟨lenB rfl, fun G nG => ?_⟩
      have c := c.push (.lst []) nG
      generalize upd H' G (.lst []) = H3 at c ⊢
      have ll := level_len nd rng n6' b i
      have hi5 : i ≤ 4 := by omega
      have ll : (level (edges late ws) b i).length ≤ 1296 := Nat.le_trans ll (Nat.pow_le_pow_right (by decide) hi5)
      have lu : (Way.upTo (edges late ws) b i).length ≤ 2592 := Nat.le_trans (upTo_len nd rng n6' b i) (Nat.mul_le_mul_left 2 (Nat.pow_le_pow_right (by decide) hi5))
      have lxl := dpa_len dL
      have lxw := dpa_len dW
      rw [List.length_map] at lxl lxw
      have eup : Way.upTo (edges late ws) b (i + 1) = Way.upTo (edges late ws) b i ++ (level (edges late ws) b i).flatMap (g1 (edges late ws)) := rfl
      have elv : level (edges late ws) b (i + 1) = (level (edges late ws) b i).flatMap (g1 (edges late ws)) := rfl
      have lne : ∀ p ∈ level (edges late ws) b i, p.2 ≠ [] ∧ p.2.length ≤ 6 := fun p hp => by
        obtain ⟨⟨_, w⟩, _, lw⟩ := (level_mem (h := p.1) (l := p.2)).mp hp
        exact ⟨w.ne, by omega⟩
      generalize level (edges late ws) b i = lv at dL ll lxl eup elv lne
      walk_at "vc"
      refine ⟨L, rfl, ⟨xl, SqL.of (c.e _ _ hL)⟩, ?_⟩
      refine for_it (walk_list (K := K) (a := L) (xs := xl)) (fun j σ' H4 => ∃ F acc y8 y9 y10 y11 y12 y13 y14, σ' = [some (V.int n), some (.ref a), some (.int b), some (.bl late), some (.ref W), some (.ref L), some (.int (0 + (i : Nat))), some (.ref G), y8, y9, y10, y11, y12, y13, y14] ∧ Same F5 F ∧ Cxs F ((G, .lst acc) :: T0) H4 ∧
          DpAll K F acc (((lv.take j).flatMap (g1 (edges late ws))).map dHL)) ⟨F5, [], _, _, _, _, _, _, _, rfl, Same.refl _, c, .nil⟩ (fun j σ' H4 _ pv => ?_) (fun j y σ' H4 H5 hj pv hy => ?_) fun σ' H4 pv => ?_
      · obtain ⟨F, acc, y8, y9, y10, y11, y12, y13, y14, rfl, eF, c, _⟩ := pv
        exact SqL.of (c.e _ _ (eF _ _ hL))
      · clear c
        obtain ⟨F, acc, y8, y9, y10, y11, y12, y13, y14, rfl, eF, c, ha⟩ := pv
        obtain ⟨rfl, hv⟩ := hy
        have hj' : j < lv.length := by omega
        have hp : lv[j]? = some lv[j] := List.getElem?_eq_getElem hj'
        have st : lv.take (j + 1) = lv.take j ++ [lv[j]] := by
          rw [List.take_add_one, hp]
          rfl
        obtain ⟨v', hv', dv⟩ := dpa_get (i := j) (d := dHL lv[j]) dL (by rw [List.getElem?_map, hp]; rfl)
        rw [hv] at hv'
        cases hv'
        have lt : (lv.take j).length ≤ 1296 := by rw [List.length_take]; omega
        obtain ⟨pne, pl⟩ := lne lv[j] (List.getElem_mem hj')
        generalize lv[j] = p at dv st pne pl
        generalize lv.take j = tk at ha st lt
        obtain ⟨t, l, rfl, ht, hl⟩ := dp_hl dv
        have la : acc.length ≤ 7776 := by
          rw [dpa_len ha, List.length_map]
          have := flat_len (f := g1 (edges late ws)) (fun p => Nat.le_trans (g1_len nd rng p) n6') tk
          omega
        obtain ⟨hh, way⟩ := p
        refine i_gtup (same_sqT (eF.trans c.e) ht) rfl ?_
        walk_at "vc"
        refine ⟨a, rfl, ⟨xs, (e.trans (eF.trans c.e)).seq hs⟩, ?_⟩
        obtain ⟨pre, v, rfl⟩ : ∃ pre v, way = pre ++ [v] := ⟨way.dropLast, way.getLast pne, (List.dropLast_concat_getLast pne).symm⟩
        refine for_it (walk_list (K := K) (a := a) (xs := xs)) (fun k σ' H6 => ∃ F acc y10 y11 y12 y13 y14, σ' = [some (V.int n), some (.ref a), some (.int b), some (.bl late), some (.ref W), some (.ref L), some (.int (0 + (i : Nat))), some (.ref G), some (.int hh), some (.ref l), y10, y11, y12, y13, y14] ∧ Same F5 F ∧ Cxs F ((G, .lst acc) :: T0) H6 ∧
          DpAll K F acc ((tk.flatMap (g1 (edges late ws)) ++ g1 (edges late (ws.take k)) (hh, pre ++ [v])).map dHL)) ⟨F, acc, _, _, _, _, _, rfl, eF, c, by rw [show g1 (edges late (ws.take 0)) (hh, pre ++ [v]) = [] from rfl, List.append_nil]; exact ha⟩ (fun k σ' H6 _ pv => ?_) (fun k y σ' H6 H7 hk pv hy => ?_) fun σ' H6 pv => ?_
        · obtain ⟨F, acc, y10, y11, y12, y13, y14, rfl, eF, c, _⟩ := pv
          exact (e.trans (eF.trans c.e)).seq hs
        · clear c ha la eF
          obtain ⟨F, acc, y10, y11, y12, y13, y14, rfl, eF, c, ha⟩ := pv
          obtain ⟨rfl, hv⟩ := hy
          have hk' : k < ws.length := by omega
          have hu : ws[k]? = some ws[k] := List.getElem?_eq_getElem hk'
          obtain ⟨v', hv', dv⟩ := dpa_get (i := k) (d := ws[k].d) hx (by rw [List.getElem?_map, hu]; rfl)
          rw [hv] at hv'
          cases hv'
          have ndk := edges_nd (late := late) (us := ws.take k) (((List.take_sublist k ws).map W4.k).nodup wo.nd)
          have rngk : ∀ e ∈ edges late (ws.take k), 0 ≤ e.2.1 ∧ e.2.1 < (n.toNat : Int) := fun e he => rng e (((List.take_sublist k ws).filterMap _).subset he)
          have la : acc.length ≤ 7782 := by
            rw [dpa_len ha, List.length_map, List.length_append]
            have := flat_len (f := g1 (edges late ws)) (fun p => Nat.le_trans (g1_len nd rng p) n6') tk
            have := g1_len ndk rngk (hh, pre ++ [v])
            omega
          have stp := edges_step (late := late) hu
          generalize ws[k] = w4 at dv stp
          obtain ⟨tw, rfl, ht4⟩ := dp_w4 dv
          obtain ⟨s_, t_, l_, h_⟩ := w4
          have ht4 : SqT K F0 tw [.int s_, .int t_, .int l_, oV h_] := ht4
          have hl' := (eF.trans c.e).seq hl
          have no : (∀ ed, eOf late ⟨s_, t_, l_, h_⟩ = some ed → gB (hh, pre ++ [v]) ed = false) → DpAll K F acc ((tk.flatMap (g1 (edges late ws)) ++ g1 (edges late (ws.take (k + 1))) (hh, pre ++ [v])).map dHL) := fun z => by
            have : g1 (edges late (ws.take (k + 1))) (hh, pre ++ [v]) = g1 (edges late (ws.take k)) (hh, pre ++ [v]) := by
              rw [stp]
              unfold g1
              rw [List.filter_append]
              cases q : eOf late ⟨s_, t_, l_, h_⟩ with
              | none => simp
              | some ed => simp [z ed q]
            rw [this]
            exact ha
          have yes : ∀ c_, eOf late ⟨s_, t_, l_, h_⟩ = some (s_, t_, c_) → s_ = v → t_ ∉ pre ++ [v] → ∀ F3 T3, Same F F3 → Dp K F3 (.ref T3) (dHL (hh + c_, pre ++ [v] ++ [t_])) → DpAll K F3 (acc ++ [.ref T3]) ((tk.flatMap (g1 (edges late ws)) ++ g1 (edges late (ws.take (k + 1))) (hh, pre ++ [v])).map dHL) := fun c_ q hs hm F3 T3 e3 dp => by
            have gb : gB (hh, pre ++ [v]) (s_, t_, c_) = true := decide_eq_true ⟨by show (pre ++ [v]).getLast? = some s_; rw [List.getLast?_concat, hs], hm⟩
            have : g1 (edges late (ws.take (k + 1))) (hh, pre ++ [v]) = g1 (edges late (ws.take k)) (hh, pre ++ [v]) ++ [(hh + c_, pre ++ [v] ++ [t_])] := by
              rw [stp, q]
              unfold g1
              rw [List.filter_append, List.map_append]
              congr 1
              show ([(s_, t_, c_)].filter (gB (hh, pre ++ [v]))).map _ = _
              rw [List.filter_cons_of_pos gb]
              rfl
            rw [this, ← List.append_assoc, List.map_append]
            exact (ha.mono e3).snoc dp
          refine i_gtup (same_sqT (e.trans (eF.trans c.e)) ht4) rfl ?_
          walk_at "vc"
          cases late with
          | false =>
            walk_at "vc"
            refine i_ixL hl' atl ?_
            walk_at "vc"
            refine i_iteD (fun hs => ?_) (fun hs => ?_)
            · have hs : s_ = v := hs
              walk_at "vc"
              refine ⟨l, (pre ++ [v]).map V.int, rfl, .inl hl', rfl, flat_ints _, ?_⟩
              rw [in_ints]
              by_cases hm : t_ ∈ pre ++ [v]
              · rw [decide_eq_true hm]
                walk_at "vc"
                exact ⟨F, acc, _, _, _, _, _, rfl, eF, c, no fun ed q => by
                  cases q
                  exact decide_eq_false fun z => z.2 hm⟩
              · rw [decide_eq_false hm]
                walk_at "vc"
                refine i_tyL (SqL.of (c.at 0 rfl)) ?_
                walk_at "vc"
                refine ⟨lenB rfl, fun L2 m1 => ?_⟩
                have c1 := c.new (.lst [.int t_]) m1
                walk_at "vc"
                refine ⟨l, L2, (pre ++ [v]).map V.int, [.int t_], rfl, rfl, (same_new m1).seq hl', SqL.of upd_same, Nat.le_of_lt (lenB' (by rw [List.length_map]; have pl : (pre ++ [v]).length ≤ 6 := pl; show (pre ++ [v]).length + 1 ≤ 1000; omega)), fun L3 m2 => ?_⟩
                have c2 := c1.new (.lst ((pre ++ [v]).map V.int ++ [.int t_])) m2
                walk_at "vc"
                refine ⟨lenB rfl, fun T3 m3 => ?_⟩
                have c3 := c2.new (.tup [.int (hh + l_), .ref L3]) m3
                walk_at "vc"
                refine i_append (c3.at 0 rfl) (by omega) ?_
                walk_at "vc"
                have e3 := (c.sub (u := .lst [.int t_]) m1).trans ((c1.sub (u := .lst ((pre ++ [v]).map V.int ++ [.int t_])) m2).trans (c2.sub (u := .tup [.int (hh + l_), .ref L3]) m3))
                refine ⟨_, acc ++ [V.ref T3], _, _, _, _, _, rfl, eF.trans e3, c3.turn 0 rfl (.lst (acc ++ [V.ref T3])), yes l_ rfl hs hm _ _ e3 (hl_dp (SqT.of upd_same) (SqL.of ?_))⟩
                have em : (pre ++ [v] ++ [t_]).map V.int = (pre ++ [v]).map V.int ++ [V.int t_] := List.map_append
                show _ = some (HO.lst ((pre ++ [v] ++ [t_]).map V.int))
                rw [em]
                exact (c2.sub (u := .tup [.int (hh + l_), .ref L3]) m3) _ _ upd_same
            · walk_at "vc"
              exact ⟨F, acc, _, _, _, _, _, rfl, eF, c, no fun ed q => by
                cases q
                refine decide_eq_false fun z => hs ?_
                have z1 : (pre ++ [v]).getLast? = some s_ := z.1
                rw [List.getLast?_concat] at z1
                exact (Option.some.inj z1).symm⟩
          | true =>
            cases h_ with
            | none =>
              walk_at "vc"
              refine i_ixL hl' atl ?_
              walk_at "vc"
              refine i_iteD (fun hs => ?_) (fun hs => ?_)
              · walk_at "vc"
                refine ⟨l, (pre ++ [v]).map V.int, rfl, .inl hl', rfl, flat_ints _, ?_⟩
                rw [in_ints]
                by_cases hm : t_ ∈ pre ++ [v]
                · rw [decide_eq_true hm]
                  walk_at "vc"
                  exact ⟨F, acc, _, _, _, _, _, rfl, eF, c, no fun ed q => nomatch q⟩
                · rw [decide_eq_false hm]
                  walk_at "vc"
                  exact ⟨F, acc, _, _, _, _, _, rfl, eF, c, no fun ed q => nomatch q⟩
              · walk_at "vc"
                exact ⟨F, acc, _, _, _, _, _, rfl, eF, c, no fun ed q => nomatch q⟩
            | some l_ =>
              rw [show oV (some l_) = V.int l_ from rfl]
              walk_at "vc"
              refine i_ixL hl' atl ?_
              walk_at "vc"
              refine i_iteD (fun hs => ?_) (fun hs => ?_)
              · have hs : s_ = v := hs
                walk_at "vc"
                refine ⟨l, (pre ++ [v]).map V.int, rfl, .inl hl', rfl, flat_ints _, ?_⟩
                rw [in_ints]
                by_cases hm : t_ ∈ pre ++ [v]
                · rw [decide_eq_true hm]
                  walk_at "vc"
                  exact ⟨F, acc, _, _, _, _, _, rfl, eF, c, no fun ed q => by
                    cases q
                    exact decide_eq_false fun z => z.2 hm⟩
                · rw [decide_eq_false hm]
                  walk_at "vc"
                  refine i_tyL (SqL.of (c.at 0 rfl)) ?_
                  walk_at "vc"
                  refine ⟨lenB rfl, fun L2 m1 => ?_⟩
                  have c1 := c.new (.lst [.int t_]) m1
                  walk_at "vc"
                  refine ⟨l, L2, (pre ++ [v]).map V.int, [.int t_], rfl, rfl, (same_new m1).seq hl', SqL.of upd_same, Nat.le_of_lt (lenB' (by rw [List.length_map]; have pl : (pre ++ [v]).length ≤ 6 := pl; show (pre ++ [v]).length + 1 ≤ 1000; omega)), fun L3 m2 => ?_⟩
                  have c2 := c1.new (.lst ((pre ++ [v]).map V.int ++ [.int t_])) m2
                  walk_at "vc"
                  refine ⟨lenB rfl, fun T3 m3 => ?_⟩
                  have c3 := c2.new (.tup [.int (hh + l_), .ref L3]) m3
                  walk_at "vc"
                  refine i_append (c3.at 0 rfl) (by omega) ?_
                  walk_at "vc"
                  have e3 := (c.sub (u := .lst [.int t_]) m1).trans ((c1.sub (u := .lst ((pre ++ [v]).map V.int ++ [.int t_])) m2).trans (c2.sub (u := .tup [.int (hh + l_), .ref L3]) m3))
                  refine ⟨_, acc ++ [V.ref T3], _, _, _, _, _, rfl, eF.trans e3, c3.turn 0 rfl (.lst (acc ++ [V.ref T3])), yes l_ rfl hs hm _ _ e3 (hl_dp (SqT.of upd_same) (SqL.of ?_))⟩
                  have em : (pre ++ [v] ++ [t_]).map V.int = (pre ++ [v]).map V.int ++ [V.int t_] := List.map_append
                  show _ = some (HO.lst ((pre ++ [v] ++ [t_]).map V.int))
                  rw [em]
                  exact (c2.sub (u := .tup [.int (hh + l_), .ref L3]) m3) _ _ upd_same
              · walk_at "vc"
                exact ⟨F, acc, _, _, _, _, _, rfl, eF, c, no fun ed q => by
                  cases q
                  refine decide_eq_false fun z => hs ?_
                  have z1 : (pre ++ [v]).getLast? = some s_ := z.1
                  rw [List.getLast?_concat] at z1
                  exact (Option.some.inj z1).symm⟩
        · clear c ha la eF
          obtain ⟨F, acc, y10, y11, y12, y13, y14, rfl, eF, c, ha⟩ := pv
          rw [List.take_of_length_le (by omega)] at ha
          refine ⟨F, acc, _, _, _, _, _, _, _, rfl, eF, c, ?_⟩
          rw [st, List.flatMap_append, List.flatMap_singleton]
          exact ha
      · clear c
        obtain ⟨F, acc, y8, y9, y10, y11, y12, y13, y14, rfl, eF, c, ha⟩ := pv
        rw [List.take_of_length_le (by omega)] at ha
        have la := flat_len (f := g1 (edges late ws)) (fun p => Nat.le_trans (g1_len nd rng p) n6') lv
        have la2 := dpa_len ha
        rw [List.length_map] at la2
        have kS := c.keepS
        have c := c.keep
        have hW := kS _ _ (eF _ _ hW)
        have hG : upd F G (.lst acc) G = some (.lst acc) := upd_same
        have dW := dW.mono (eF.trans kS)
        have ha := ha.mono kS
        have e := e.trans (eF.trans kS)
        generalize upd F G (.lst acc) = F6 at c hW hG dW ha e
        walk_at "vc"
        refine ⟨W, G, xw, acc, rfl, rfl, c.e _ _ hW, c.e _ _ hG, by rw [sizeLine_eq]; omega, fun W2 m1 => ?_⟩
        have e5 := c.sub (u := .lst (xw ++ acc)) m1
        have c := c.new (.lst (xw ++ acc)) m1
        walk_at "vc"
        refine i_listL (SqL.of (c.e _ _ (e5 _ _ hG))) fun L2 m2 => ?_
        have e6 := c.sub (u := .lst acc) m2
        have c := c.new (.lst acc) m2
        walk_at "vc"
        refine ⟨_, W2, L2, xw ++ acc, acc, _, _, _, _, _, _, _, _, _, rfl, e.trans (e5.trans e6), c, e6 _ _ upd_same, upd_same, ?_, ?_⟩
        · rw [eup, List.map_append]
          exact dpa_app (dW.mono (e5.trans e6)) (ha.mono (e5.trans e6))
        · rw [elv]
          exact ha.mono (e5.trans e6)
    · obtain ⟨F5, W, L, xw, xl, y6, y7, y8, y9, y10, y11, y12, y13, y14, rfl, e, c, hW, hL, dW, dL⟩ := pv
      walk_at "vc"
      exact q W xw F5 H' e c hW dW
end
end K03
set_option maxRecDepth 100000
set_option maxHeartbeats 1000000
namespace K03
open PySem PySem.Spec PyProof.Rows L2 VX Way
local macro_rules | `(tactic| walk_at "ne") => `(tactic| first
  | assumption
  | exact Ne.symm (by assumption)
  | exact ne_of_none (by assumption) (by assumption)
  | exact Ne.symm (ne_of_none (by assumption) (by assumption))
  | ((with_reducible refine' ne_of_none ?n1 ?n2); (case n2 => assumption); (case n1 => walk_at "lk"))
  | ((with_reducible refine' Ne.symm (ne_of_none ?n1 ?n2)); (case n2 => assumption); (case n1 => walk_at "lk")))
local macro_rules | `(tactic| walk_at "lk") => `(tactic| first
  | assumption
  | (with_reducible exact upd_same)
  | ((with_reducible refine' (upd_ne ?nn).trans ?ll); (case nn => walk_at "ne"); (case ll => walk_at "lk"))
  | ((with_reducible refine' VX.same_at ?nn ?ll); (case nn => assumption); (case ll => walk_at "lk")))
local macro_rules | `(tactic| walk_at "dp") => `(tactic| first
  | assumption
  | (with_reducible exact Dp.non)
  | (with_reducible exact Dp.bl _)
  | (with_reducible exact Dp.int _)
  | (with_reducible exact Dp.str _)
  | ((with_reducible refine' VX.Dp.mono' ?dd (same_new ?nn)); (case nn => assumption); (case dd => walk_at "dp"))
  | ((with_reducible refine' VX.Dp.mono' ?dd ?nn); (case nn => assumption); (case dd => walk_at "dp")))
local macro_rules | `(tactic| walk_at "sq") => `(tactic| first
  | assumption
  | (with_reducible exact SqL.of (by assumption))
  | (with_reducible exact SqT.of (by assumption))
  | ((with_reducible refine' Same.seq (same_new ?nn) ?qq); (case nn => assumption); (case qq => walk_at "sq"))
  | ((with_reducible refine' same_sqT (same_new ?nn) ?qq); (case nn => assumption); (case qq => walk_at "sq"))
  | ((with_reducible refine' Same.seq ?nn ?qq); (case nn => assumption); (case qq => walk_at "sq"))
  | ((with_reducible refine' same_sqT ?nn ?qq); (case nn => assumption); (case qq => walk_at "sq"))
  | ((with_reducible refine' SqL.of ?qq); (case qq => walk_at "lk"))
  | ((with_reducible refine' SqT.of ?qq); (case qq => walk_at "lk")))
local macro_rules | `(tactic| walk_at "cc") => `(tactic| first
  | exact ⟨by decide, by decide, by decide⟩
  | (show _ ≠ _; omega)
  | exact ⟨by omega, by omega⟩
  | exact Or.inl ⟨by omega, by omega⟩
  | exact Or.inr ⟨by omega, by omega⟩)
local macro_rules | `(tactic| walk_at "vcA") => `(tactic| repeat (first
  | ((with_reducible refine' VX.i_modA ?v1 ?_); (case v1 => omega); intro r hr0 hr1)
  | ((with_reducible refine' VX.i_divA ?v1 ?v2 ?_); (case v1 => omega); (case v2 => omega); intro r hr0 hr1)
  | walk_at "vc1"))
local macro_rules | `(tactic| walk_at "vc1") => `(tactic| first
  | ((with_reducible refine' VX.i_var ?v1 ?_); (case v1 => rfl))
  | (with_reducible refine' VX.i_c ?_)
  | (with_reducible refine' VX.i_op ?_)
  | (with_reducible refine' VX.i_cons ?_)
  | (with_reducible refine' VX.i_nil ?_)
  | (with_reducible refine' VX.i_seq ?_)
  | (with_reducible refine' VX.i_asg ?_)
  | ((with_reducible refine' VX.i_gname ?v2 ?_); (case v2 => (first | (simp only [List.set_cons_zero, List.set_cons_succ]; done) | (simp only [List.set_cons_zero, List.set_cons_succ]; exact rfl) | exact rfl)))
  | (with_reducible refine' VX.i_ifS ?_)
  | (with_reducible refine' VX.i_test ?_)
  | (with_reducible refine' VX.i_tB ?_)
  | (with_reducible refine' VX.i_bl ?_)
  | (with_reducible refine' VX.i_iteT ?_)
  | (with_reducible refine' VX.i_iteF ?_)
  | (with_reducible refine' VX.i_iteNT ?_)
  | (with_reducible refine' VX.i_iteNF ?_)
  | (with_reducible refine' VX.i_and ?_)
  | (with_reducible refine' VX.i_or ?_)
  | (with_reducible refine' VX.i_not ?_)
  | (with_reducible refine' VX.i_call ?_)
  | (with_reducible refine' VX.i_CB ?_)
  | (with_reducible refine' VX.i_make ?_)
  | (with_reducible refine' VX.i_makeK0 ?_)
  | (with_reducible refine' VX.i_mthK ?_)
  | (with_reducible refine' VX.i_mthS ?_)
  | (with_reducible refine' VX.i_meth ?_)
  | ((with_reducible refine' VX.i_ixL ?v1 ?v2 ?_); (case v1 => walk_at "sq"); (case v2 => first | rfl | assumption))
  | ((with_reducible refine' VX.i_ixT ?v1 ?v2 ?_); (case v1 => walk_at "sq"); (case v2 => first | rfl | assumption))
  | ((with_reducible refine' VX.i_setLU ?v2 ?v3 ?_); (case v2 => rfl); (case v3 => rfl))
  | ((with_reducible refine' VX.i_setL ?v1 ?v2 ?v3 ?_); (case v1 => walk_at "lk"); (case v2 => rfl); (case v3 => rfl))
  | (with_reducible refine' VX.i_rI0 ?_)
  | ((with_reducible refine' VX.i_rI ?v1 ?_); (case v1 => walk_at "cc"))
  | (with_reducible refine' VX.i_int ?_)
  | ((with_reducible refine' VX.i_rEqS ?v1 ?_); (case v1 => rfl))
  | ((with_reducible refine' VX.i_rNeS ?v1 ?_); (case v1 => rfl))
  | (with_reducible refine' VX.i_rEqI ?_)
  | (with_reducible refine' VX.i_rNeI ?_)
  | (with_reducible refine' VX.i_max2 ?_)
  | (with_reducible refine' VX.i_min2 ?_)
  | ((with_reducible refine' VX.i_lenL ?v1 ?_); (case v1 => walk_at "sq"))
  | ((with_reducible refine' VX.i_lenT ?v1 ?_); (case v1 => walk_at "sq"))
  | (with_reducible refine' VX.i_chain ?_)
  | (with_reducible refine' VX.i_gsub ?_)
  | (with_reducible refine' VX.i_ret ?_)
  | (with_reducible refine' VX.i_drop ?_)
  | (with_reducible refine' VX.i_next ?_)
  | (with_reducible refine' VX.i_retN ?_)
  | (with_reducible refine' VX.i_andV ?_)
  | (with_reducible refine' VX.i_orV ?_)
  | (with_reducible refine' VX.i_notV ?_)
  | (with_reducible refine' VX.i_ifE ?_)
  | (with_reducible refine' VX.i_un ?_)
  | (with_reducible refine' VX.i_rU ?_)
  | (with_reducible refine' VX.i_tup ?_)
  | (with_reducible refine' VX.i_lst ?_)
  | ((with_reducible refine' VX.i_fldv ?v1 ?v2 ?v3 ?v4 ?v5 ?_); (case v1 => rfl); (case v2 => walk_at "lk"); (case v3 => walk_at "cl"); (case v4 => walk_at "na"); (case v5 => first | rfl | assumption))
  | (with_reducible refine' VX.i_fld ?_)
  | (with_reducible refine' VX.i_sFld ?_)
  | (with_reducible refine' VX.i_mk1 ?_)
  | (with_reducible refine' VX.i_mk1v ?_)
  | (with_reducible refine' VX.i_gnil ?_)
  | (with_reducible refine' VX.i_lc ?_)
  | (with_reducible refine' VX.i_for ?_)
  | (with_reducible refine' VX.i_lstRg ?_)
  | (with_reducible refine' VX.i_rg2 ?_)
  | (with_reducible refine' VX.i_rg2v ?_)
  | (with_reducible refine' VX.i_yes ?_)
  | (with_reducible refine' VX.i_iList ?_)
  | (with_reducible refine' VX.i_iRng1 ?_)
  | (with_reducible refine' VX.i_iRng2 ?_)
  | (with_reducible refine' VX.i_iEnum ?_)
  | (with_reducible refine' VX.i_iZip ?_)
  | (with_reducible refine' VX.i_iOwn ?_)
  | ((with_reducible refine' VX.i_wipe ?v1 ?_); (case v1 => rfl))
  | (with_reducible refine' VX.i_andN ?_)
  | (with_reducible refine' VX.i_iteNDS ?_)
  | (with_reducible refine' VX.i_bm ?_)
  | ((with_reducible refine' VX.i_tyL ?v1 ?_); (case v1 => walk_at "sq"))
  | ((with_reducible refine' VX.i_append ?v1 ?v2 ?_); (case v1 => walk_at "lk"); (case v2 => (simp only [List.length_map, List.length_cons, List.length_nil, List.length_append]; omega)))
  | ((with_reducible refine' VX.i_iteDT ?v1 ?_); (case v1 => rfl))
  | ((with_reducible refine' VX.i_iteDF ?v1 ?_); (case v1 => intro h; cases h))
  | ((with_reducible refine' VX.i_isiD ?v1 ?v2 ?_); (case v1 => walk_at "dp"); (case v2 => decide))
  | ((with_reducible refine' VX.i_iteBT ?v1 ?_); (case v1 => rfl))
  | ((with_reducible refine' VX.i_iteBF ?v1 ?_); (case v1 => rfl))
  | (with_reducible refine' VX.i_gcons ?_)
  | (with_reducible refine' VX.i_dIn ?_)
  | (with_reducible refine' VX.i_dNotIn ?_)
  | (with_reducible refine' VX.i_dGet ?_)
  | (with_reducible refine' VX.i_items ?_)
  | (with_reducible refine' VX.i_keys ?_)
  | ((with_reducible refine' VX.i_gtup ?v1 ?v2 ?_); (case v1 => walk_at "sq"); (case v2 => rfl)))
local macro_rules | `(tactic| walk_at "vc") => `(tactic| repeat walk_at "vc1")

local macro_rules | `(tactic| walk_at "cl") => `(tactic| exact Txt.cl_Line (by assumption))
local macro_rules | `(tactic| walk_at "na") => `(tactic| first | exact Txt.na_Line_size (by assumption) | exact Txt.na_Line__spans (by assumption) | exact Txt.na_Line__mosts (by assumption))
theorem alike_hl (p q : Int × List Int) : PySem.W.alike (dHL p) (dHL q) = true := by
  show (true && (PySem.W.alikeAll (p.2.map PyData.int) (q.2.map PyData.int) && true)) = true
  rw [alike_ints]
  rfl
theorem filt_step {α : Type} {f : α → Bool} {us : List α} {i : Nat} {u : α} (h : us[i]? = some u) : (us.take (i + 1)).filter f = (us.take i).filter f ++ if f u = true then [u] else [] := by
  rw [List.take_add_one, h, List.filter_append]
  congr 1
  show List.filter f [u] = _
  by_cases hf : f u = true
  · rw [if_pos hf, List.filter_cons_of_pos hf]
    rfl
  · rw [if_neg hf, List.filter_cons_of_neg hf]
    rfl
/-- what the law is due at a place -/
def DueP (ws : List W4) (n : Int) (i : Pl) (x y : PyData) : Prop := (0 ≤ i.2.1 ∧ i.2.1 < n ∧ 0 ≤ i.2.2 ∧ i.2.2 < n ∧
    ((found (edges (decide (i.1 = 2)) ws) i.2.1 i.2.2 (n - 1).toNat = [] ∧ x = dNum none ∧ y = dNoWay i.2.1 i.2.2) ∨
      ∃ z ∈ found (edges (decide (i.1 = 2)) ws) i.2.1 i.2.2 (n - 1).toNat, (∀ w ∈ found (edges (decide (i.1 = 2)) ws) i.2.1 i.2.2 (n - 1).toNat, lexL (w.1 :: w.2) (z.1 :: z.2) = false) ∧ x = dNum (some z.1) ∧ y = dWay z.2)) ∨
  ∃ b, Wrong n i.2.1 i.2.2 b ∧ x = dNoBox b ∧ y = dNoBox b
def wB (n x : Int) : Bool := decide (x < 0 ∨ x ≥ n)
theorem wrongs (n p o : Int) : (∃ b r, [p, o].filter (wB n) = b :: r ∧ Wrong n p o b) ∨ ([p, o].filter (wB n) = [] ∧ 0 ≤ p ∧ p < n ∧ 0 ≤ o ∧ o < n) := by
  by_cases hp : p < 0 ∨ p ≥ n
  · left
    rw [List.filter_cons_of_pos (by unfold wB; exact decide_eq_true hp)]
    exact ⟨p, _, rfl, .inl ⟨rfl, by omega⟩⟩
  · rw [List.filter_cons_of_neg (by unfold wB; rw [decide_eq_true_iff]; exact hp)]
    by_cases ho : o < 0 ∨ o ≥ n
    · left
      rw [List.filter_cons_of_pos (by unfold wB; exact decide_eq_true ho)]
      exact ⟨o, _, rfl, .inr ⟨rfl, by omega, by omega, by omega⟩⟩
    · right
      rw [List.filter_cons_of_neg (by unfold wB; rw [decide_eq_true_iff]; exact ho)]
      exact ⟨rfl, by omega, by omega, by omega, by omega⟩
def fB (o : Int) (x : Int × List Int) : Bool := decide (x.2.getLast? = some o)
theorem found_eq (E : List Ed) (p o : Int) (n : Nat) : found E p o n = (upTo E p n).filter (fB o) := rfl
section
variable {P : Program} {w : World} {K : PySem.W.Frag} {mg : Str → Option Value} {base : Heap} {A : Adr}
def spDue (K : PySem.W.Frag) : Sp := fun vs H Q _ => ∃ (n m : Int) (a kk : Addr) (xs : List V) (ws : List W4) (ks : List Int), vs = [.int n, .ref a, .ref kk] ∧ SqL K H a xs ∧ DpAll K H xs (ws.map W4.d) ∧ SqL K H kk (ks.map V.int) ∧ ks.length ≤ 2 ∧ WOk n m ws ∧ 1 ≤ n ∧ n ≤ 6 ∧
  ∀ D H' ds, Same H H' → Dp K H' (.ref D) (.list ds) → F2 (DueP ws n) (allP n ks) ds → Q (.ref D) H'
theorem ok_due (T : Txt K mg A) : FnOk P w K mg base CX0 2 A.f_due A.d_due ["_law_size_here", "_law_wires_here", "_law_kinds"] (spDue K) := by
  refine T.F_due.ok sc_due (fun vs H Q E h => ?_) (fun cdv A' outer s H vs Q E hr h => ?_)
  · obtain ⟨n, m, a, kk, xs, ws, ks, rfl, _⟩ := h
    rfl
  · obtain ⟨n, m, a, kk, xs, ws, ks, rfl, hs, hx, hk, lk, wo, n1, n6, q⟩ := h
    have hi2 : pts n ≤ 8 := by show (n + 1 - -1).toNat ≤ 8; omega
    refine ⟨_, (pss_cons (ps_set (i := 3) sc_due.nd rfl (Or.inl rfl) (pe_lst pa_nil))
      (pss_cons (ps_for PassesOwn.never rfl (pi_list (pv 2)) (pg_name (i := 4) sc_due.nd rfl (Or.inl rfl))
      (pss_one (ps_for PassesOwn.never rfl (pi_range2 (by rfl) T.n_range (pa_cons (pe_un un_neg pe_int) (pa_cons (pe_op op_add (pv 0) pe_int) pa_nil))) (pg_name (i := 5) sc_due.nd rfl (Or.inl rfl))
      (pss_cons (ps_set (i := 6) sc_due.nd rfl (Or.inl rfl) (pe_lst pa_nil))
      (Evl.pss_cut (ps_if (PW.pt (pw_and (pt_cmpR op_le pe_int (pv 5) (nomark _)) (pw_and1 (pt_cmpR op_lt (pv 5) (pv 0) (nomark _))))) (pss_one (ps_set (i := 6) sc_due.nd rfl (Or.inl rfl) (pe_call (ok_ways T) (hr.mono (by decide)) (by rfl) T.g_ways T.F_ways.kp (b_ways T) .nil pass0 (pa_cons (pv 0) (pa_cons (pv 1) (pa_cons (pv 5) (pa_cons (pe_cmpR op_eq (pv 4) pe_int (nomark _)) pa_nil))))))) pss_nil)
      (pss_one (ps_for PassesOwn.never rfl (pi_range2 (by rfl) T.n_range (pa_cons (pe_un un_neg pe_int) (pa_cons (pe_op op_add (pv 0) pe_int) pa_nil))) (pg_name (i := 7) sc_due.nd rfl (Or.inr rfl))
      (pss_cons (ps_setLc (i := 8) (own := [("_law_pair", 9)]) (g := gName 9) (by rfl) sc_due.nd rfl rfl (sw_true rfl rfl rfl (by decide +kernel)) (pi_list (pv 6)) (blkOk_by (N := N_due) (sc := defScope s_due) (by decide +kernel)) (fun _ _ _ _ _ => (pg_name (i := 9) sc_due.nd rfl (Or.inl rfl))) (fun _ _ _ _ _ => (pts_one (pt_cmpR op_eq (pe_ix (r := rIxL K) ix_list (pe_ix (r := rIxT K) ix_tup (pv 9) pe_int (fun _ _ => rfl)) (pe_un un_neg pe_int) (fun _ _ => rfl)) (pv 7) (nomark _)))) (fun _ _ _ _ _ => (pv 9)))
      (pss_cons (ps_setLc (i := 10) (own := [("_law_number", 11)]) (g := gName 11) (by rfl) sc_due.nd rfl rfl (sw_true rfl rfl rfl (by decide +kernel)) (pi_list (pe_lst (pa_cons (pv 5) (pa_cons (pv 7) pa_nil)))) (blkOk_by (N := N_due) (sc := defScope s_due) (by decide +kernel)) (fun _ _ _ _ _ => (pg_name (i := 11) sc_due.nd rfl (Or.inl rfl))) (fun _ _ _ _ _ => (pts_one (PW.pt (pw_or (pt_cmpR op_lt (pv 11) pe_int (nomark _)) (pw_or1 (pt_cmpR op_ge (pv 11) (pv 0) (nomark _))))))) (fun _ _ _ _ _ => (pv 11)))
      (pss_one (ps_if (pt_cmpR op_gt (pe_callB (r := rLenS K) call_lenS (by rfl) T.n_len PySem.boot_len (pa_cons (pv 10) pa_nil)) pe_int (nomark _)) (pss_cons (ps_expr (pe_bm PySem.F.plainAttrs_list PySem.F.slot_list_append PySem.F.type_list_append mt_append (pv 3) (pa_cons (pe_tup (pa_cons pe_str (pa_cons (pe_tup (pa_cons (pe_ix (r := rIxL K) ix_list (pv 10) pe_int (fun _ _ => rfl)) pa_nil)) (pa_cons pe_bl pa_nil)))) pa_nil)))
      (pss_one (ps_expr (pe_bm PySem.F.plainAttrs_list PySem.F.slot_list_append PySem.F.type_list_append mt_append (pv 3) (pa_cons (pe_tup (pa_cons pe_str (pa_cons (pe_tup (pa_cons (pe_ix (r := rIxL K) ix_list (pv 10) pe_int (fun _ _ => rfl)) pa_nil)) (pa_cons pe_bl pa_nil)))) pa_nil))))) (pss_one (ps_if (pt_cmpR op_eq (pe_callB (r := rLenS K) call_lenS (by rfl) T.n_len PySem.boot_len (pa_cons (pv 8) pa_nil)) pe_int (nomark _)) (pss_cons (ps_expr (pe_bm PySem.F.plainAttrs_list PySem.F.slot_list_append PySem.F.type_list_append mt_append (pv 3) (pa_cons (pe_tup (pa_cons pe_str (pa_cons pe_non pa_nil))) pa_nil)))
      (pss_one (ps_expr (pe_bm PySem.F.plainAttrs_list PySem.F.slot_list_append PySem.F.type_list_append mt_append (pv 3) (pa_cons (pe_tup (pa_cons pe_str (pa_cons (pe_tup (pa_cons (pv 5) (pa_cons (pv 7) pa_nil))) (pa_cons pe_bl pa_nil)))) pa_nil))))) (pss_cons (ps_set (i := 12) sc_due.nd rfl (Or.inl rfl) (pe_callB (cr_minD rfl hr.units) (by rfl) T.n_min (by decide +kernel) (pa_cons (pv 8) pa_nil)))
      (pss_cons (ps_expr (pe_bm PySem.F.plainAttrs_list PySem.F.slot_list_append PySem.F.type_list_append mt_append (pv 3) (pa_cons (pe_tup (pa_cons pe_str (pa_cons (pe_ix (r := rIxT K) ix_tup (pv 12) pe_int (fun _ _ => rfl)) pa_nil))) pa_nil)))
      (pss_one (ps_expr (pe_bm PySem.F.plainAttrs_list PySem.F.slot_list_append PySem.F.type_list_append mt_append (pv 3) (pa_cons (pe_tup (pa_cons pe_str (pa_cons (pe_ix (r := rIxT K) ix_tup (pv 12) pe_int (fun _ _ => rfl)) pa_nil))) pa_nil)))))))))))))))))))
      (pss_one (ps_ret (pv 3))))), ?_⟩
    refine i_start (σ' := [some (V.int n), some (.ref a), some (.ref kk), none, none, none, none, none, none, none, none, none, none]) rfl ?_
    walk_at "vc"
    refine ⟨lenB rfl, fun D nD => ?_⟩
    have c := (Cxs.start H).push (.lst []) nD
    generalize upd H D (.lst []) = H3 at c ⊢
    walk_at "vc"
    refine ⟨kk, rfl, ⟨ks.map V.int, c.e.seq hk⟩, ?_⟩
    refine for_it (walk_list (K := K) (a := kk) (xs := ks.map V.int)) (fun i σ' H' => ∃ y4 y5 y6 y7 y8 y9 y10 y11 y12 F acc ds, σ' = [some (V.int n), some (.ref a), some (.ref kk), some (.ref D), y4, y5, y6, y7, y8, y9, y10, y11, y12] ∧ Same H F ∧ Cxs F [(D, .lst acc)] H' ∧ DpAll K F acc ds ∧ F2 (DueP ws n) (allP n (ks.take i)) ds)
      ⟨_, _, _, _, _, _, _, _, _, H, [], [], rfl, Same.refl _, c, .nil, .nil⟩ (fun i σ' H' _ pv => ?_) (fun i y σ' H' H'' hi pv hy => ?_) fun σ' H' pv => ?_
    · obtain ⟨y4, y5, y6, y7, y8, y9, y10, y11, y12, F, acc, ds, rfl, eF, c, _⟩ := pv
      exact (eF.trans c.e).seq hk
    · clear c
      obtain ⟨y4, y5, y6, y7, y8, y9, y10, y11, y12, F, acc, ds, rfl, eF, c, hd, ff⟩ := pv
      obtain ⟨rfl, hv⟩ := hy
      have hi' : i < ks.length := by rwa [List.length_map] at hi
      have hki : ks[i]? = some ks[i] := List.getElem?_eq_getElem hi'
      rw [List.getElem?_map, hki] at hv
      cases hv
      have stp := allP_succ (n := n) hki
      generalize ks[i] = k at hki stp
      have lal : (allP n (ks.take i)).length ≤ 64 := by
        have := allP_len (n := n) (ks := ks.take i) hi2
        rw [List.length_take] at this
        omega
      rw [stp]
      clear stp
      generalize allP n (ks.take i) = al at ff lal ⊢
      have nd := edges_nd (late := decide (k = 2)) wo.nd
      have rng := edges_rng (late := decide (k = 2)) wo
      have n6' : n.toNat ≤ 6 := by omega
      walk_at "vc"
      refine ⟨-1, n + 1, rfl, ⟨by omega, by omega, by omega, by omega⟩, ?_⟩
      refine for_it (walk_range (lo := -1) (n := pts n)) (fun j σ' H' => ∃ y5 y6 y7 y8 y9 y10 y11 y12 F acc ds, σ' = [some (V.int n), some (.ref a), some (.ref kk), some (.ref D), some (.int k), y5, y6, y7, y8, y9, y10, y11, y12] ∧ Same H F ∧ Cxs F [(D, .lst acc)] H' ∧ DpAll K F acc ds ∧ F2 (DueP ws n) (al ++ blkP n k j) ds)
        ⟨_, _, _, _, _, _, _, _, F, acc, ds, rfl, eF, c, hd, by rw [show blkP n k 0 = [] from rfl, List.append_nil]; exact ff⟩ (fun _ _ _ _ _ => trivial) (fun j y σ' H1 H2 hj pv hy => ?_) fun σ' H' pv => ?_
      · clear c hd ff eF
        obtain ⟨y5, y6, y7, y8, y9, y10, y11, y12, F, acc, ds, rfl, eF, c, hd, ff⟩ := pv
        obtain ⟨rfl, rfl⟩ := hy
        rw [blkP_succ, ← List.append_assoc]
        have lbl : (al ++ blkP n k j).length ≤ 128 := by
          have := blkP_len (n := n) (k := k) (i := j) hi2
          rw [List.length_append]
          omega
        generalize al ++ blkP n k j = al at ff lbl ⊢
        generalize hp' : (-1 + (j : Int)) = p
        walk_at "vc"
        rw [hp']
        refine ⟨lenB rfl, fun Tt nT => ?_⟩
        have s0 := c.sub (u := .lst []) nT
        have c := c.new (.lst []) nT
        have hT : upd F Tt (.lst []) Tt = some (.lst []) := upd_same
        have hd := hd.mono s0
        have eF := eF.trans s0
        generalize upd F Tt (.lst []) = F1 at c hT hd eF
        generalize upd H2 Tt (.lst []) = H4 at c ⊢
        clear s0
        walk_at "vc"
        refine i_cut (M := fun σ' H' => ∃ F Tw ys y7 y8 y9 y10 y11 y12, σ' = [some (V.int n), some (.ref a), some (.ref kk), some (.ref D), some (.int k), some (.int p), some (.ref Tw), y7, y8, y9, y10, y11, y12] ∧ Same F1 F ∧ Cxs F [(D, .lst acc)] H' ∧ F Tw = some (.lst ys) ∧ ∃ lv, DpAll K F ys (lv.map dHL) ∧ lv.length ≤ 15552 ∧ (∀ x ∈ lv, x.2 ≠ []) ∧ (0 ≤ p → p < n → lv = upTo (edges (decide (k = 2)) ws) p (n - 1).toNat)) ?_ fun σ' H' pv => ?_
        · walk_at "vc"
          refine i_iteD (fun p0 => ?_) (fun p0 => ?_)
          · walk_at "vc"
            refine i_iteD (fun p1 => ?_) (fun p1 => ?_)
            · walk_at "vc"
              refine ⟨F1, [(D, .lst acc)], n, m, p, a, decide (k = 2), xs, ws, rfl, c, eF.seq hs, hx.mono eF, wo, n1, n6, fun Dw ys G H3 e2 c hDw dY => ?_⟩
              walk_at "vc"
              refine ⟨G, Dw, ys, _, _, _, _, _, _, rfl, e2, c, hDw, _, dY, ?_, fun x hx => ?_, fun _ _ => rfl⟩
              · exact Nat.le_trans (upTo_len nd rng n6' p _) (Nat.mul_le_mul_left 2 (Nat.pow_le_pow_right (by decide) (show (n - 1).toNat ≤ 5 by omega)))
              · obtain ⟨⟨_, w⟩, _⟩ := (upTo_mem (h := x.1) (l := x.2)).mp hx
                exact w.ne
            · walk_at "vc"
              exact ⟨F1, Tt, [], _, _, _, _, _, _, rfl, Same.refl _, c, hT, [], .nil, by decide, fun x h => by (cases h), fun z0 z1 => absurd z1 p1⟩
          · walk_at "vc"
            exact ⟨F1, Tt, [], _, _, _, _, _, _, rfl, Same.refl _, c, hT, [], .nil, by decide, fun x h => by (cases h), fun z0 z1 => absurd z0 p0⟩
        · clear c hT
          obtain ⟨F, Tw, ys, y7, y8, y9, y10, y11, y12, rfl, e1, c, hT, lv, dY, llv, lne, elv⟩ := pv
          have hd := hd.mono e1
          have eF := eF.trans e1
          clear e1
          have lys := dpa_len dY
          rw [List.length_map] at lys
          walk_at "vc"
          refine ⟨-1, n + 1, rfl, ⟨by omega, by omega, by omega, by omega⟩, ?_⟩
          refine for_it (walk_range (lo := -1) (n := pts n)) (fun t σ' H' => ∃ y7 y8 y9 y10 y11 y12 G acc ds, σ' = [some (V.int n), some (.ref a), some (.ref kk), some (.ref D), some (.int k), some (.int p), some (.ref Tw), y7, y8, y9, y10, y11, y12] ∧ Same F G ∧ Cxs G [(D, .lst acc)] H' ∧ DpAll K G acc ds ∧ F2 (DueP ws n) (al ++ rowP k p t) ds)
            ⟨_, _, _, _, _, _, F, acc, ds, rfl, Same.refl _, c, hd, by rw [show rowP k p 0 = [] from rfl, List.append_nil]; exact ff⟩ (fun _ _ _ _ _ => trivial) (fun t y σ' H5 H6 ht pv hy => ?_) fun σ' H' pv => ?_
          · clear c hd ff
            obtain ⟨y7, y8, y9, y10, y11, y12, G, acc, ds, rfl, e1, c, hd, ff⟩ := pv
            obtain ⟨rfl, rfl⟩ := hy
            rw [rowP_succ, ← List.append_assoc]
            have lacc : acc.length ≤ 300 := by
              have := ff.len
              rw [List.length_append, rowP_len] at this
              have := dpa_len hd
              omega
            generalize al ++ rowP k p t = al at ff ⊢
            generalize hq' : (-1 + (t : Int)) = o
            have hT := e1 _ _ hT
            have dY := dY.mono e1
            walk_at "vc"
            rw [hq']
            refine ⟨Tw, rfl, ⟨ys, SqL.of (c.e _ _ hT)⟩, fun L nL => ?_⟩
            have c1 := c.push (.lst []) nL
            refine lc_it (walk_list (K := K) (a := Tw) (xs := ys)) (fun j H' => ∃ accf, Cxs G [(L, .lst accf), (D, .lst acc)] H' ∧ DpAll K G accf (((lv.take j).filter (fB o)).map dHL)) ⟨[], c1, .nil⟩ (fun j H' _ pv => ?_) (fun j v H7 H8 hj pv y => ?_) fun H' pv => ?_
            · obtain ⟨accf, c, _⟩ := pv
              exact SqL.of (c.e _ _ hT)
            · clear c c1
              obtain ⟨accf, c, ha⟩ := pv
              obtain ⟨rfl, hv⟩ := y
              have hj' : j < lv.length := by omega
              have hp : lv[j]? = some lv[j] := List.getElem?_eq_getElem hj'
              obtain ⟨v', hv', dv⟩ := dpa_get (i := j) (d := dHL lv[j]) dY (by rw [List.getElem?_map, hp]; rfl)
              rw [hv] at hv'
              cases hv'
              have lt : accf.length ≤ 15552 := by
                rw [dpa_len ha, List.length_map]
                have := List.length_filter_le (fB o) (lv.take j)
                rw [List.length_take] at this
                omega
              have pne := lne lv[j] (List.getElem_mem hj')
              have st := filt_step (f := fB o) hp
              rw [st]
              clear st
              generalize lv[j] = z at dv pne ⊢
              obtain ⟨t', l, rfl, ht', hl'⟩ := dp_hl dv
              obtain ⟨hh, way⟩ := z
              obtain ⟨pre, u, rfl⟩ : ∃ pre u, way = pre ++ [u] := ⟨way.dropLast, way.getLast pne, (List.dropLast_concat_getLast pne).symm⟩
              walk_at "vc"
              refine i_ixT (same_sqT c.e ht') (at_of (j := 1) rfl rfl) ?_
              walk_at "vc"
              refine i_ixL (c.e.seq hl') atl ?_
              walk_at "vc"
              refine i_iteD (fun hb => ?_) (fun hb => ?_)
              · have hb : u = o := hb
                walk_at "vc"
                refine ⟨_, c.at 0 rfl, Nat.lt_of_le_of_lt (m := 100000) (by omega) (by decide), accf ++ [V.ref t'], c.turn 0 rfl _, ?_⟩
                rw [if_pos (show fB o (hh, pre ++ [u]) = true from decide_eq_true (by show (pre ++ [u]).getLast? = some o; rw [List.getLast?_concat, hb])), List.map_append]
                exact ha.snoc dv
              · rw [if_neg (show ¬ fB o (hh, pre ++ [u]) = true from fun z => hb (by
                  have z : (pre ++ [u]).getLast? = some o := of_decide_eq_true z
                  rw [List.getLast?_concat] at z
                  exact Option.some.inj z)), List.append_nil]
                exact ⟨accf, c, ha⟩
            · clear c c1
              obtain ⟨accf, c, ha⟩ := pv
              rw [List.take_of_length_le (by omega)] at ha
              have k1 := c.keepS
              have c := c.keep
              have hL : upd G L (.lst accf) L = some (.lst accf) := upd_same
              have ha := ha.mono k1
              have hd := hd.mono k1
              have eG := e1.trans k1
              clear hT dY
              generalize upd G L (.lst accf) = G at c hL ha hd eG
              clear k1 e1
              walk_at "vc"
              refine ⟨lenB rfl, fun L2 m2 => ?_⟩
              have s2 := c.sub (u := .lst [.int p, .int o]) m2
              have c := c.new (.lst [.int p, .int o]) m2
              have h2 : upd G L2 (.lst [.int p, .int o]) L2 = some (.lst [.int p, .int o]) := upd_same
              have ha := ha.mono s2
              have hd := hd.mono s2
              have hL := s2 _ _ hL
              have eG := eG.trans s2
              generalize upd G L2 (.lst [.int p, .int o]) = G at c hL ha hd eG h2
              clear s2
              walk_at "vc"
              refine ⟨L2, rfl, ⟨_, SqL.of (c.e _ _ h2)⟩, fun L3 n3 => ?_⟩
              have c1 := c.push (.lst []) n3
              refine lc_it (walk_list (K := K) (a := L2) (xs := [V.int p, .int o])) (fun j H' => Cxs G [(L3, .lst ((([p, o].take j).filter (wB n)).map V.int)), (D, .lst acc)] H') c1 (fun j H' _ c => SqL.of (c.e _ _ h2)) (fun j v H7 H8 hj c y => ?_) fun H' c => ?_
              · obtain ⟨rfl, hv⟩ := y
                obtain ⟨x, hx, rfl⟩ : ∃ x, [p, o][j]? = some x ∧ v = .int x := by
                  have hv : ([p, o].map V.int)[j]? = some v := hv
                  rw [List.getElem?_map] at hv
                  obtain ⟨x, h1, h2⟩ := Option.map_eq_some_iff.mp hv
                  exact ⟨x, h1, h2.symm⟩
                rw [filt_step hx]
                have lf : ((([p, o].take j).filter (wB n)).map V.int).length ≤ 2 := by
                  rw [List.length_map]
                  refine Nat.le_trans (List.length_filter_le _ _) ?_
                  rw [List.length_take]
                  exact Nat.min_le_right _ _
                walk_at "vc"
                have yes : x < 0 ∨ x ≥ n → wB n x = true := fun z => decide_eq_true z
                refine i_iteD (fun hb => ?_) (fun hb => ?_)
                · walk_at "vc"
                  rw [if_pos (yes (.inl hb)), List.map_append]
                  exact ⟨_, c.at 0 rfl, lenB' (by omega), c.turn 0 rfl _⟩
                · walk_at "vc"
                  refine i_iteD (fun hb2 => ?_) (fun hb2 => ?_)
                  · walk_at "vc"
                    rw [if_pos (yes (.inr hb2)), List.map_append]
                    exact ⟨_, c.at 0 rfl, lenB' (by omega), c.turn 0 rfl _⟩
                  · rw [if_neg (show ¬ wB n x = true from fun z => (of_decide_eq_true z).elim hb hb2), List.append_nil]
                    exact c
              · have c : Cxs G [(L3, .lst (([p, o].filter (wB n)).map V.int)), (D, .lst acc)] H' := by
                  have := c
                  rwa [List.take_of_length_le (show [p, o].length ≤ [V.int p, V.int o].length from Nat.le_refl _)] at this
                have k1 := c.keepS
                have c := c.keep
                have hw : upd G L3 (.lst (([p, o].filter (wB n)).map V.int)) L3 = some (.lst (([p, o].filter (wB n)).map V.int)) := upd_same
                have ha := ha.mono k1
                have hd := hd.mono k1
                have hL := k1 _ _ hL
                have eG := eG.trans k1
                generalize upd G L3 (.lst (([p, o].filter (wB n)).map V.int)) = G at c hL ha hd eG hw
                clear k1 c1 n3 h2
                walk_at "vc"
                refine i_lenL (SqL.of (c.e _ _ hw)) ?_
                walk_at "vc"
                rcases wrongs n p o with ⟨wb, r, hwr, hwrong⟩ | ⟨hwr, p0, p1, o0, o1⟩
                · rw [hwr] at hw ⊢
                  have hw : G L3 = some (HO.lst (V.int wb :: r.map V.int)) := hw
                  refine i_iteD (fun h3 => ?_) (fun h3 => absurd h3 ?_)
                  · clear ha hL elv lne
                    walk_at "vc"
                    refine i_tyL (SqL.of (c.at 0 rfl)) ?_
                    walk_at "vc"
                    refine i_ixL (SqL.of (c.e _ _ hw)) (at_of (j := 0) rfl rfl) ?_
                    walk_at "vc"
                    refine ⟨lenB rfl, fun T1 m1 => ?_⟩
                    have s1 := c.sub (u := .tup [.int wb]) m1
                    have c := c.new (.tup [.int wb]) m1
                    have g1 : upd G T1 (.tup [.int wb]) T1 = some (.tup [.int wb]) := upd_same
                    have hd := hd.mono s1
                    have hw := s1 _ _ hw
                    have eG := eG.trans s1
                    generalize upd G T1 (.tup [.int wb]) = G at c g1 hd hw eG
                    clear s1
                    walk_at "vc"
                    refine ⟨lenB rfl, fun T2 m2 => ?_⟩
                    have s2 := c.sub (u := .tup [.str "NoBox", .ref T1, .bl true]) m2
                    have c := c.new (.tup [.str "NoBox", .ref T1, .bl true]) m2
                    have g2 : upd G T2 (.tup [.str "NoBox", .ref T1, .bl true]) T2 = some (.tup [.str "NoBox", .ref T1, .bl true]) := upd_same
                    have g1 := s2 _ _ g1
                    have hd := hd.mono s2
                    have hw := s2 _ _ hw
                    have eG := eG.trans s2
                    generalize upd G T2 (.tup [.str "NoBox", .ref T1, .bl true]) = G at c g1 g2 hd hw eG
                    clear s2
                    have hd := hd.snoc (d := dNoBox wb) (.tup (SqT.of g2) (.cons (.str _) (.cons (.tup (SqT.of g1) (.cons (.int wb) .nil)) (.cons (.bl true) .nil))))
                    walk_at "vc"
                    refine i_append (c.at 0 rfl) (by omega) ?_
                    have c : Cxs G [(D, .lst (acc ++ [V.ref T2]))] (upd _ D (.lst (acc ++ [V.ref T2]))) := c.turn 0 rfl _
                    clear m1 m2 g1 g2
                    have lacc : (acc ++ [V.ref T2]).length ≤ 301 := by
                      rw [List.length_append]
                      exact Nat.succ_le_succ lacc
                    generalize acc ++ [V.ref T2] = acc at c hd lacc ⊢
                    walk_at "vc"
                    refine i_ixL (SqL.of (c.e _ _ hw)) (at_of (j := 0) rfl rfl) ?_
                    walk_at "vc"
                    refine ⟨lenB rfl, fun T1 m1 => ?_⟩
                    have s1 := c.sub (u := .tup [.int wb]) m1
                    have c := c.new (.tup [.int wb]) m1
                    have g1 : upd G T1 (.tup [.int wb]) T1 = some (.tup [.int wb]) := upd_same
                    have hd := hd.mono s1
                    have hw := s1 _ _ hw
                    have eG := eG.trans s1
                    generalize upd G T1 (.tup [.int wb]) = G at c g1 hd hw eG
                    clear s1
                    walk_at "vc"
                    refine ⟨lenB rfl, fun T2 m2 => ?_⟩
                    have s2 := c.sub (u := .tup [.str "NoBox", .ref T1, .bl true]) m2
                    have c := c.new (.tup [.str "NoBox", .ref T1, .bl true]) m2
                    have g2 : upd G T2 (.tup [.str "NoBox", .ref T1, .bl true]) T2 = some (.tup [.str "NoBox", .ref T1, .bl true]) := upd_same
                    have g1 := s2 _ _ g1
                    have hd := hd.mono s2
                    have hw := s2 _ _ hw
                    have eG := eG.trans s2
                    generalize upd G T2 (.tup [.str "NoBox", .ref T1, .bl true]) = G at c g1 g2 hd hw eG
                    clear s2
                    have hd := hd.snoc (d := dNoBox wb) (.tup (SqT.of g2) (.cons (.str _) (.cons (.tup (SqT.of g1) (.cons (.int wb) .nil)) (.cons (.bl true) .nil))))
                    walk_at "vc"
                    refine i_append (c.at 0 rfl) (by omega) ?_
                    have c : Cxs G [(D, .lst (acc ++ [V.ref T2]))] (upd _ D (.lst (acc ++ [V.ref T2]))) := c.turn 0 rfl _
                    clear m1 m2 g1 g2
                    walk_at "vc"
                    exact ⟨_, _, _, _, _, _, G, _, _, rfl, eG, c, hd, ff.snoc (i := (k, p, o)) (.inr ⟨wb, hwrong, rfl, rfl⟩)⟩
                  · rw [List.length_map, List.length_cons]
                    omega
                · rw [hwr] at hw ⊢
                  clear hw
                  refine i_iteD (fun h3 => absurd h3 ?_) (fun h3 => ?_)
                  · show ¬ (0 : Int) < 0
                    decide
                  · have fe : lv.filter (fB o) = found (edges (decide (k = 2)) ws) p o (n - 1).toNat := by
                      rw [elv p0 p1]
                      rfl
                    rw [fe] at ha
                    have lf := dpa_len ha
                    rw [List.length_map] at lf
                    walk_at "vc"
                    refine i_lenL (SqL.of (c.e _ _ hL)) ?_
                    walk_at "vc"
                    refine i_iteD (fun h4 => ?_) (fun h4 => ?_)
                    · have nf : found (edges (decide (k = 2)) ws) p o (n - 1).toNat = [] := List.eq_nil_of_length_eq_zero (by omega)
                      walk_at "vc"
                      refine i_tyL (SqL.of (c.at 0 rfl)) ?_
                      walk_at "vc"
                      refine ⟨lenB rfl, fun T1 m1 => ?_⟩
                      have s1 := c.sub (u := .tup [.str "told", .non]) m1
                      have c := c.new (.tup [.str "told", .non]) m1
                      have g1 : upd G T1 (.tup [.str "told", .non]) T1 = some (.tup [.str "told", .non]) := upd_same
                      have hd := (hd.mono s1).snoc (d := dNum none) (.tup (SqT.of g1) (.cons (.str _) (.cons .non .nil)))
                      have eG := eG.trans s1
                      generalize upd G T1 (.tup [.str "told", .non]) = G at c hd eG
                      clear s1 g1
                      walk_at "vc"
                      refine i_append (c.at 0 rfl) (by omega) ?_
                      have c : Cxs G [(D, .lst (acc ++ [V.ref T1]))] (upd _ D (.lst (acc ++ [V.ref T1]))) := c.turn 0 rfl _
                      have lacc : (acc ++ [V.ref T1]).length ≤ 301 := by
                        rw [List.length_append]
                        exact Nat.succ_le_succ lacc
                      generalize acc ++ [V.ref T1] = acc at c hd lacc ⊢
                      walk_at "vc"
                      refine ⟨lenB rfl, fun T2 m2 => ?_⟩
                      have s2 := c.sub (u := .tup [.int p, .int o]) m2
                      have c := c.new (.tup [.int p, .int o]) m2
                      have g2 : upd G T2 (.tup [.int p, .int o]) T2 = some (.tup [.int p, .int o]) := upd_same
                      have hd := hd.mono s2
                      have eG := eG.trans s2
                      generalize upd G T2 (.tup [.int p, .int o]) = G at c hd eG g2
                      walk_at "vc"
                      refine ⟨lenB rfl, fun T3 m3 => ?_⟩
                      have s3 := c.sub (u := .tup [.str "NoWay", .ref T2, .bl true]) m3
                      have c := c.new (.tup [.str "NoWay", .ref T2, .bl true]) m3
                      have g3 : upd G T3 (.tup [.str "NoWay", .ref T2, .bl true]) T3 = some (.tup [.str "NoWay", .ref T2, .bl true]) := upd_same
                      have g2 := s3 _ _ g2
                      have hd := (hd.mono s3).snoc (d := dNoWay p o) (.tup (SqT.of g3) (.cons (.str _) (.cons (.tup (SqT.of g2) (.cons (.int _) (.cons (.int _) .nil))) (.cons (.bl true) .nil))))
                      have eG := eG.trans s3
                      generalize upd G T3 (.tup [.str "NoWay", .ref T2, .bl true]) = G at c hd eG
                      walk_at "vc"
                      refine i_append (c.at 0 rfl) (by omega) ?_
                      have c : Cxs G [(D, .lst (acc ++ [V.ref T3]))] (upd _ D (.lst (acc ++ [V.ref T3]))) := c.turn 0 rfl _
                      walk_at "vc"
                      exact ⟨_, _, _, _, _, _, G, _, _, rfl, eG, c, hd, ff.snoc (i := (k, p, o)) (.inl ⟨p0, p1, o0, o1, .inl ⟨nf, rfl, rfl⟩⟩)⟩
                    · walk_at "vc"
                      refine i_minK (d := dHL) (k := fun p => p.1 :: p.2) lt_hl (fun p q => alike_hl p q) (fun _ h => nomatch h) dpt_hl (SqL.of (c.e _ _ hL)) (ha.mono c.e) (fun z => h4 ?_) fun v z hm least hv => ?_
                      · rw [lf, z]
                        rfl
                      have hv := hv G ha
                      obtain ⟨t', l, rfl, ht', hl'⟩ := dp_hl hv
                      clear hv
                      walk_at "vc"
                      refine i_tyL (SqL.of (c.at 0 rfl)) ?_
                      walk_at "vc"
                      refine i_ixT (same_sqT c.e ht') (at_of (j := 0) rfl rfl) ?_
                      walk_at "vc"
                      refine ⟨lenB rfl, fun T1 m1 => ?_⟩
                      have s1 := c.sub (u := .tup [.str "told", .int z.1]) m1
                      have c := c.new (.tup [.str "told", .int z.1]) m1
                      have g1 : upd G T1 (.tup [.str "told", .int z.1]) T1 = some (.tup [.str "told", .int z.1]) := upd_same
                      have hd := (hd.mono s1).snoc (d := dNum (some z.1)) (.tup (SqT.of g1) (.cons (.str _) (.cons (.int _) .nil)))
                      have eG := eG.trans s1
                      have ht' := same_sqT s1 ht'
                      have hl' := s1.seq hl'
                      generalize upd G T1 (.tup [.str "told", .int z.1]) = G at c hd eG ht' hl'
                      clear s1 g1 ha hL
                      walk_at "vc"
                      refine i_append (c.at 0 rfl) (by omega) ?_
                      have c : Cxs G [(D, .lst (acc ++ [V.ref T1]))] (upd _ D (.lst (acc ++ [V.ref T1]))) := c.turn 0 rfl _
                      have lacc : (acc ++ [V.ref T1]).length ≤ 301 := by
                        rw [List.length_append]
                        exact Nat.succ_le_succ lacc
                      generalize acc ++ [V.ref T1] = acc at c hd lacc ⊢
                      walk_at "vc"
                      refine i_ixT (same_sqT c.e ht') (at_of (j := 1) rfl rfl) ?_
                      walk_at "vc"
                      refine ⟨lenB rfl, fun T2 m2 => ?_⟩
                      have s2 := c.sub (u := .tup [.str "told", .ref l]) m2
                      have c := c.new (.tup [.str "told", .ref l]) m2
                      have g2 : upd G T2 (.tup [.str "told", .ref l]) T2 = some (.tup [.str "told", .ref l]) := upd_same
                      have hd := (hd.mono s2).snoc (d := dWay z.2) (.tup (SqT.of g2) (.cons (.str _) (.cons (dp_ints (s2.seq hl')) .nil)))
                      have eG := eG.trans s2
                      generalize upd G T2 (.tup [.str "told", .ref l]) = G at c hd eG
                      walk_at "vc"
                      refine i_append (c.at 0 rfl) (by omega) ?_
                      have c : Cxs G [(D, .lst (acc ++ [V.ref T2]))] (upd _ D (.lst (acc ++ [V.ref T2]))) := c.turn 0 rfl _
                      walk_at "vc"
                      exact ⟨_, _, _, _, _, _, G, _, _, rfl, eG, c, hd, ff.snoc (i := (k, p, o)) (.inl ⟨p0, p1, o0, o1, .inr ⟨z, hm, least, rfl, rfl⟩⟩)⟩
          · obtain ⟨y7, y8, y9, y10, y11, y12, G, acc, ds, rfl, e1, c, hd, ff⟩ := pv
            walk_at "vc"
            exact ⟨_, _, _, _, _, _, _, _, G, acc, ds, rfl, eF.trans e1, c, hd, ff⟩
      · obtain ⟨y5, y6, y7, y8, y9, y10, y11, y12, F, acc, ds, rfl, eF, c, hd, ff⟩ := pv
        walk_at "vc"
        exact ⟨_, _, _, _, _, _, _, _, _, F, acc, ds, rfl, eF, c, hd, ff⟩
    · obtain ⟨y4, y5, y6, y7, y8, y9, y10, y11, y12, F, acc, ds, rfl, eF, c, hd, ff⟩ := pv
      rw [List.length_map, List.take_length] at ff
      walk_at "vc"
      exact q D H' ds (eF.trans c.e) (.lst (SqL.of (c.at 0 rfl)) (hd.mono c.e)) ff
end
end K03
set_option maxRecDepth 100000
set_option maxHeartbeats 1000000
namespace K03
open PySem PySem.Spec PyProof.Rows L2 VX Way
local macro_rules | `(tactic| walk_at "ne") => `(tactic| first
  | assumption
  | exact Ne.symm (by assumption)
  | exact ne_of_none (by assumption) (by assumption)
  | exact Ne.symm (ne_of_none (by assumption) (by assumption))
  | ((with_reducible refine' ne_of_none ?n1 ?n2); (case n2 => assumption); (case n1 => walk_at "lk"))
  | ((with_reducible refine' Ne.symm (ne_of_none ?n1 ?n2)); (case n2 => assumption); (case n1 => walk_at "lk")))
local macro_rules | `(tactic| walk_at "lk") => `(tactic| first
  | assumption
  | (with_reducible exact upd_same)
  | ((with_reducible refine' (upd_ne ?nn).trans ?ll); (case nn => walk_at "ne"); (case ll => walk_at "lk"))
  | ((with_reducible refine' VX.same_at ?nn ?ll); (case nn => assumption); (case ll => walk_at "lk")))
local macro_rules | `(tactic| walk_at "dp") => `(tactic| first
  | assumption
  | (with_reducible exact Dp.non)
  | (with_reducible exact Dp.bl _)
  | (with_reducible exact Dp.int _)
  | (with_reducible exact Dp.str _)
  | ((with_reducible refine' VX.Dp.mono' ?dd (same_new ?nn)); (case nn => assumption); (case dd => walk_at "dp"))
  | ((with_reducible refine' VX.Dp.mono' ?dd ?nn); (case nn => assumption); (case dd => walk_at "dp")))
local macro_rules | `(tactic| walk_at "sq") => `(tactic| first
  | assumption
  | (with_reducible exact SqL.of (by assumption))
  | (with_reducible exact SqT.of (by assumption))
  | ((with_reducible refine' Same.seq (same_new ?nn) ?qq); (case nn => assumption); (case qq => walk_at "sq"))
  | ((with_reducible refine' same_sqT (same_new ?nn) ?qq); (case nn => assumption); (case qq => walk_at "sq"))
  | ((with_reducible refine' Same.seq ?nn ?qq); (case nn => assumption); (case qq => walk_at "sq"))
  | ((with_reducible refine' same_sqT ?nn ?qq); (case nn => assumption); (case qq => walk_at "sq"))
  | ((with_reducible refine' SqL.of ?qq); (case qq => walk_at "lk"))
  | ((with_reducible refine' SqT.of ?qq); (case qq => walk_at "lk")))
local macro_rules | `(tactic| walk_at "cc") => `(tactic| first
  | exact ⟨by decide, by decide, by decide⟩
  | (show _ ≠ _; omega)
  | exact ⟨by omega, by omega⟩
  | exact Or.inl ⟨by omega, by omega⟩
  | exact Or.inr ⟨by omega, by omega⟩)
local macro_rules | `(tactic| walk_at "vcA") => `(tactic| repeat (first
  | ((with_reducible refine' VX.i_modA ?v1 ?_); (case v1 => omega); intro r hr0 hr1)
  | ((with_reducible refine' VX.i_divA ?v1 ?v2 ?_); (case v1 => omega); (case v2 => omega); intro r hr0 hr1)
  | walk_at "vc1"))
local macro_rules | `(tactic| walk_at "vc1") => `(tactic| first
  | ((with_reducible refine' VX.i_var ?v1 ?_); (case v1 => rfl))
  | (with_reducible refine' VX.i_c ?_)
  | (with_reducible refine' VX.i_op ?_)
  | (with_reducible refine' VX.i_cons ?_)
  | (with_reducible refine' VX.i_nil ?_)
  | (with_reducible refine' VX.i_seq ?_)
  | (with_reducible refine' VX.i_asg ?_)
  | ((with_reducible refine' VX.i_gname ?v2 ?_); (case v2 => (first | (simp only [List.set_cons_zero, List.set_cons_succ]; done) | (simp only [List.set_cons_zero, List.set_cons_succ]; exact rfl) | exact rfl)))
  | (with_reducible refine' VX.i_ifS ?_)
  | (with_reducible refine' VX.i_test ?_)
  | (with_reducible refine' VX.i_tB ?_)
  | (with_reducible refine' VX.i_bl ?_)
  | (with_reducible refine' VX.i_iteT ?_)
  | (with_reducible refine' VX.i_iteF ?_)
  | (with_reducible refine' VX.i_iteNT ?_)
  | (with_reducible refine' VX.i_iteNF ?_)
  | (with_reducible refine' VX.i_and ?_)
  | (with_reducible refine' VX.i_or ?_)
  | (with_reducible refine' VX.i_not ?_)
  | (with_reducible refine' VX.i_call ?_)
  | (with_reducible refine' VX.i_CB ?_)
  | (with_reducible refine' VX.i_make ?_)
  | (with_reducible refine' VX.i_makeK0 ?_)
  | (with_reducible refine' VX.i_mthK ?_)
  | (with_reducible refine' VX.i_mthS ?_)
  | (with_reducible refine' VX.i_meth ?_)
  | ((with_reducible refine' VX.i_ixL ?v1 ?v2 ?_); (case v1 => walk_at "sq"); (case v2 => first | rfl | assumption))
  | ((with_reducible refine' VX.i_ixT ?v1 ?v2 ?_); (case v1 => walk_at "sq"); (case v2 => first | rfl | assumption))
  | ((with_reducible refine' VX.i_setLU ?v2 ?v3 ?_); (case v2 => rfl); (case v3 => rfl))
  | ((with_reducible refine' VX.i_setL ?v1 ?v2 ?v3 ?_); (case v1 => walk_at "lk"); (case v2 => rfl); (case v3 => rfl))
  | (with_reducible refine' VX.i_rI0 ?_)
  | ((with_reducible refine' VX.i_rI ?v1 ?_); (case v1 => walk_at "cc"))
  | (with_reducible refine' VX.i_int ?_)
  | ((with_reducible refine' VX.i_rEqS ?v1 ?_); (case v1 => rfl))
  | ((with_reducible refine' VX.i_rNeS ?v1 ?_); (case v1 => rfl))
  | (with_reducible refine' VX.i_rEqI ?_)
  | (with_reducible refine' VX.i_rNeI ?_)
  | (with_reducible refine' VX.i_max2 ?_)
  | (with_reducible refine' VX.i_min2 ?_)
  | ((with_reducible refine' VX.i_lenL ?v1 ?_); (case v1 => walk_at "sq"))
  | ((with_reducible refine' VX.i_lenT ?v1 ?_); (case v1 => walk_at "sq"))
  | (with_reducible refine' VX.i_chain ?_)
  | (with_reducible refine' VX.i_gsub ?_)
  | (with_reducible refine' VX.i_ret ?_)
  | (with_reducible refine' VX.i_drop ?_)
  | (with_reducible refine' VX.i_next ?_)
  | (with_reducible refine' VX.i_retN ?_)
  | (with_reducible refine' VX.i_andV ?_)
  | (with_reducible refine' VX.i_orV ?_)
  | (with_reducible refine' VX.i_notV ?_)
  | (with_reducible refine' VX.i_ifE ?_)
  | (with_reducible refine' VX.i_un ?_)
  | (with_reducible refine' VX.i_rU ?_)
  | (with_reducible refine' VX.i_tup ?_)
  | (with_reducible refine' VX.i_lst ?_)
  | ((with_reducible refine' VX.i_fldv ?v1 ?v2 ?v3 ?v4 ?v5 ?_); (case v1 => rfl); (case v2 => walk_at "lk"); (case v3 => walk_at "cl"); (case v4 => walk_at "na"); (case v5 => first | rfl | assumption))
  | (with_reducible refine' VX.i_fld ?_)
  | (with_reducible refine' VX.i_sFld ?_)
  | (with_reducible refine' VX.i_mk1 ?_)
  | (with_reducible refine' VX.i_mk1v ?_)
  | (with_reducible refine' VX.i_gnil ?_)
  | (with_reducible refine' VX.i_lc ?_)
  | (with_reducible refine' VX.i_for ?_)
  | (with_reducible refine' VX.i_lstRg ?_)
  | (with_reducible refine' VX.i_rg2 ?_)
  | (with_reducible refine' VX.i_rg2v ?_)
  | (with_reducible refine' VX.i_yes ?_)
  | (with_reducible refine' VX.i_iList ?_)
  | (with_reducible refine' VX.i_iRng1 ?_)
  | (with_reducible refine' VX.i_iRng2 ?_)
  | (with_reducible refine' VX.i_iEnum ?_)
  | (with_reducible refine' VX.i_iZip ?_)
  | (with_reducible refine' VX.i_iOwn ?_)
  | ((with_reducible refine' VX.i_wipe ?v1 ?_); (case v1 => rfl))
  | (with_reducible refine' VX.i_andN ?_)
  | (with_reducible refine' VX.i_iteNDS ?_)
  | (with_reducible refine' VX.i_bm ?_)
  | ((with_reducible refine' VX.i_tyL ?v1 ?_); (case v1 => walk_at "sq"))
  | ((with_reducible refine' VX.i_append ?v1 ?v2 ?_); (case v1 => walk_at "lk"); (case v2 => (simp only [List.length_map, List.length_cons, List.length_nil, List.length_append]; omega)))
  | ((with_reducible refine' VX.i_iteDT ?v1 ?_); (case v1 => rfl))
  | ((with_reducible refine' VX.i_iteDF ?v1 ?_); (case v1 => intro h; cases h))
  | ((with_reducible refine' VX.i_isiD ?v1 ?v2 ?_); (case v1 => walk_at "dp"); (case v2 => decide))
  | ((with_reducible refine' VX.i_iteBT ?v1 ?_); (case v1 => rfl))
  | ((with_reducible refine' VX.i_iteBF ?v1 ?_); (case v1 => rfl))
  | (with_reducible refine' VX.i_gcons ?_)
  | (with_reducible refine' VX.i_dIn ?_)
  | (with_reducible refine' VX.i_dNotIn ?_)
  | (with_reducible refine' VX.i_dGet ?_)
  | (with_reducible refine' VX.i_items ?_)
  | (with_reducible refine' VX.i_keys ?_)
  | ((with_reducible refine' VX.i_gtup ?v1 ?v2 ?_); (case v1 => walk_at "sq"); (case v2 => rfl)))
local macro_rules | `(tactic| walk_at "vc") => `(tactic| repeat walk_at "vc1")

local macro_rules | `(tactic| walk_at "cl") => `(tactic| exact Txt.cl_Line (by assumption))
local macro_rules | `(tactic| walk_at "na") => `(tactic| first | exact Txt.na_Line_size (by assumption) | exact Txt.na_Line__spans (by assumption) | exact Txt.na_Line__mosts (by assumption))
theorem key_one {α β : Type} {k : α → β} {ws : List α} (nd : (ws.map k).Nodup) {a b : α} (ha : a ∈ ws) (hb : b ∈ ws) (e : k a = k b) : a = b := by
  obtain ⟨i, hi⟩ := List.mem_iff_getElem?.mp ha
  obtain ⟨j, hj⟩ := List.mem_iff_getElem?.mp hb
  have ki : (ws.map k)[i]? = some (k a) := by rw [List.getElem?_map, hi]; rfl
  have kj : (ws.map k)[j]? = some (k a) := by rw [List.getElem?_map, hj, e]; rfl
  have := (List.getElem?_inj (List.getElem?_eq_some_iff.mp ki).1 nd).mp (ki.trans kj.symm)
  subst this
  rw [hi] at hj
  exact Option.some.inj hj
theorem sorted_one {α : Type} {k : α → List Int} {ws us qs : List α} (nd : (ws.map k).Nodup) (pu : us.Perm ws) (pq : qs.Perm ws) (su : us.Pairwise fun x y => lexL (k y) (k x) = false) (sq : qs.Pairwise fun x y => lexL (k y) (k x) = false) : qs = us :=
  List.Perm.eq_of_pairwise (fun a b ha hb h1 h2 => key_one nd (pq.mem_iff.mp ha) (pu.mem_iff.mp hb) (lexL_eq _ _ h2 h1)) sq su (pq.trans pu.symm)
theorem abs12 {i m : Int} (h0 : -m ≤ i) (h1 : i ≤ m) (hm : m ≤ 1000000000) : i.natAbs < 10 ^ 12 := by
  have : (10 : Nat) ^ 12 = 1000000000000 := by decide
  omega
theorem tm_w4 {n : Int} {w : W4} (hn : n ≤ 6) (h : WOk1 n 1000000000 w) : Tm 1 168 w.d := by
  have h1 := h.s0
  have h2 := h.s1
  have h3 := h.t0
  have h4 := h.t1
  have h5 := h.l0
  have h6 := h.l1
  have hh : Tm 0 41 (oD w.hi) := by
    cases e : w.hi with
    | none => exact .non
    | some i =>
      have := h.h i e
      exact .int (abs12 (m := 1000000000) (by omega) (by omega) (by omega))
  exact Tm.tup 4 (tm_cons (.int (abs12 (m := 6) (by omega) (by omega) (by omega))) (tm_cons (.int (abs12 (m := 6) (by omega) (by omega) (by omega))) (tm_cons (.int (abs12 (m := 1000000000) (by omega) (by omega) (by omega))) (tm_cons hh tm_nil)))) (Nat.le_refl _) (by decide)
theorem tm_b3 {n : Int} {b : B3} (hn : n ≤ 6) (h : BOk1 n 1000000000 b) : Tm 1 126 b.d := by
  have h1 := h.l0
  have h2 := h.l1
  have h3 := h.e0
  have h4 := h.e1
  have h5 := h.m0
  have h6 := h.m1
  exact Tm.tup 3 (tm_cons (.int (abs12 (m := 6) (by omega) (by omega) (by omega))) (tm_cons (.int (abs12 (m := 6) (by omega) (by omega) (by omega))) (tm_cons (.int (abs12 (m := 1000000000) (by omega) (by omega) (by omega))) tm_nil))) (Nat.le_refl _) (by decide)
theorem tm_ws {n : Int} {ws : List W4} (hn : n ≤ 6) (h : WOk n 1000000000 ws) (hl : ws.length ≤ 36) : Tm 2 6084 (.list (ws.map W4.d)) :=
  Tm.list 36 (tm_map fun w hw => tm_w4 hn (h.w w hw)) (by rw [List.length_map]; exact hl) (by decide)
theorem tm_bs {n : Int} {bs : List B3} (hn : n ≤ 6) (h : BOk n 1000000000 bs) (hl : bs.length ≤ 36) : Tm 2 6084 (.list (bs.map B3.d)) :=
  (Tm.list 36 (tm_map fun b hb => tm_b3 hn (h.b b hb)) (by rw [List.length_map]; exact hl) (by decide)).up (Nat.le_refl _) (by decide)
theorem perm_rows {K : PySem.W.Frag} {H : Hp} {α : Type} {d : α → PyData} {xs ys : List V} {ws : List α} (p : ys.Perm xs) (h : DpAll K H xs (ws.map d)) : ∃ us : List α, us.Perm ws ∧ DpAll K H ys (us.map d) := by
  obtain ⟨es, pe, he⟩ := dpa_perm p h
  obtain ⟨us, pu, rfl⟩ := perm_map_inv pe
  exact ⟨us, pu, he⟩
theorem WOk.perm {n m : Int} {us ws : List W4} (h : WOk n m ws) (p : us.Perm ws) : WOk n m us := ⟨fun w hw => h.w w (p.mem_iff.mp hw), (p.map W4.k).nodup_iff.mpr h.nd⟩
theorem BOk.perm {n m : Int} {us ws : List B3} (h : BOk n m ws) (p : us.Perm ws) : BOk n m us := ⟨fun w hw => h.b w (p.mem_iff.mp hw), (p.map B3.k).nodup_iff.mpr h.nd⟩
open Classical in
/-- the heap without what P names -/
noncomputable def wo (P : Addr → Prop) (F : Hp) : Hp := fun b => if P b then none else F b
theorem wo_in {P : Addr → Prop} {F : Hp} {b : Addr} (h : P b) : wo P F b = none := if_pos h
theorem wo_out {P : Addr → Prop} {F : Hp} {b : Addr} (h : ¬ P b) : wo P F b = F b := if_neg h
theorem wo_sub {P : Addr → Prop} {F : Hp} : Same (wo P F) F := fun b o hb => by
  by_cases h : P b
  · rw [wo_in h] at hb
    cases hb
  · rw [wo_out h] at hb
    exact hb
section
variable {P : Program} {w : World} {K : PySem.W.Frag} {mg : Str → Option Value} {base : Heap} {A : Adr}
theorem units61 {A : Around} {k : Nat} (hr : Room k A) : A.units + 61 < cLine := by
  have := hr.units
  omega
def spLBounds (A : Adr) (K : PySem.W.Frag) : Sp := fun vs H Q _ => ∃ (x : Addr) (n : Int) (us : List W4) (cs : List B3), vs = [.ref x] ∧ IsLine A.c_Line H x n us cs ∧ cs.length ≤ 1000 ∧ ∀ D H', NewL K H D H' (cs.map B3.d) → Q (.ref D) H'
theorem ok_Line_bounds (T : Txt K mg A) : FnOk P w K mg base CX0 1 A.f_Line_bounds A.d_Line_bounds ["self"] (spLBounds A K) := by
  refine T.F_Line_bounds.ok sc_Line_bounds (fun vs H Q E h => ?_) (fun cdv A' outer s H vs Q E hr h => ?_)
  · obtain ⟨x, n, us, cs, rfl, _⟩ := h
    rfl
  · obtain ⟨x, n, us, cs, rfl, ⟨dx, d2, d1, ms, js, hx, h2, h1, k2, k1⟩, hz, q⟩ := h
    refine ⟨_, (pss_one (ps_ret (pe_lock (pe_lc (own := [("later", 1), ("earlier", 2), ("most", 3)]) (g := gTup _ 2 (gCons (gTup _ 2 (gCons (gName 1) (gCons (gName 2) gNil))) (gCons (gName 3) gNil))) (tt := tYes) (by rfl) sc_Line_bounds.nd (pi_itemsT (pe_fld (pv 0) rfl)) (blkOk_by (N := N_Line_bounds) (sc := defScope s_Line_bounds) (by decide +kernel)) (fun _ _ _ _ _ => (pg_tup rfl (pgs_cons (pg_tup rfl (pgs_cons (pg_name (i := 1) sc_Line_bounds.nd rfl (Or.inl rfl)) (pgs_cons (pg_name (i := 2) sc_Line_bounds.nd rfl (Or.inl rfl)) pgs_nil))) (pgs_cons (pg_name (i := 3) sc_Line_bounds.nd rfl (Or.inl rfl)) pgs_nil)))) (fun _ _ _ _ _ => pts_nil) (fun _ _ _ _ _ => (pe_tup (pa_cons (pv 1) (pa_cons (pv 2) (pa_cons (pv 3) pa_nil))))))))), ?_⟩
    refine i_start (σ' := [some (V.ref x), none, none, none]) rfl ?_
    walk_at "vc"
    refine i_lockE h1 fun od => ?_
    have xd : x ≠ d1 := fun z => by rw [z, h1] at hx; cases hx
    have hx' := (upd_ne (H := H) (o := .frz od (.dT js)) xd).trans hx
    have hd : upd H d1 (.frz od (.dT js)) d1 = some (.frz od (.dT js)) := upd_same
    have lj := k1.len
    walk_at "vc"
    refine ⟨d1, od, js, rfl, hd, fun D nD => ?_⟩
    refine lc_dp (K := K) walk_itemsT (Same.refl (upd H d1 (.frz od (.dT js)))) nD (by omega) (gt (cs.map B3.d)) (fun H' e => e _ _ hd) (fun i p H1 H2 acc hi e hD y R hR => ?_) fun H' xs e hD hp => ?_
    · obtain ⟨T1, k, v, q1, hk, rfl, hq, nT, rfl⟩ := y
      have hi' : i < cs.length := by omega
      have hu : cs[i]? = some cs[i] := List.getElem?_eq_getElem hi'
      obtain ⟨v', hv', pv⟩ := k1.at hu
      rw [hk] at hv'
      cases hv'
      have pv : v = .int _ := pv
      rw [pv]
      rw [at_gt hu] at hR
      generalize cs[i] = b3 at hR hq
      obtain ⟨l_, e_, m_⟩ := b3
      have hq : SqT K (upd H1 T1 (.tup [.ref q1, .int m_])) q1 [.int l_, .int e_] := SqT.of (same_new nT _ _ hq)
      refine i_gtup (SqT.of upd_same) rfl ?_
      walk_at "vc"
      refine ⟨lenB rfl, fun T2 n2 => ?_⟩
      have eT : Same H1 (upd (upd H1 T1 (.tup [.ref q1, .int m_])) T2 (.tup [.int l_, .int e_, .int m_])) := (same_new nT).trans (same_new n2)
      refine hR _ _ eT (b3_dp (SqT.of (del_of upd_same fun z => ?_)))
      rw [z, same_new nT _ _ hD] at n2
      cases n2
    · have e2 : (List.range js.length).map (gt (cs.map B3.d)) = cs.map B3.d := by
        rw [lj, show cs.length = (cs.map B3.d).length by rw [List.length_map]]
        exact range_gt _
      rw [e2] at hp
      exact ⟨e _ _ hd, q D _ (newL_unlock h1 e nD hD hp)⟩
theorem kb1_Line (T : Txt K mg A) : KBn K A.d_Line_init ["self", "size", "wires", "bounds"] 3 ["bounds"] (fun us ws => us ++ ws) (fun us ws => us ++ ws) := kbn_of T.F_Line_init fun _ _ _ _ _ _ us ws h1 h2 => match us, ws, h1, h2 with | [_, _, _], [_], _, _ => rfl
theorem i_makeK {C : Addr} {n m : Nat} {sp : Sp} {gV : List V → List V → List V} {E : XK} {t tk : TA} {σ : L2.St} {H : Hp} {Q : VK} (q : t σ H fun vs H1 => tk σ H1 fun zs H2 => vs.length = n ∧ zs.length = m ∧ ∀ x dx, H2 x = none → H2 dx = none → dx ≠ x →
    sp (gV (.ref x :: vs) zs) (upd (upd H2 dx (.own x)) x (.ins C dx [])) (fun v H3 => v = .non ∧ Q (.ref x) H3) E) : tMakeK C n m sp gV E t tk σ H Q := q
/-- what stands when a line is made -/
theorem i_lineI {F H : Hp} {Q : VK} {E : XK} {x dx a b : Addr} {n m k : Int} {xs ys : List V} {ws : List W4} {bs : List B3} (nx : H x = none) (nd : H dx = none) (ne : dx ≠ x) (e : Same F H) (n1 : 1 ≤ n) (ha : SqA K F a xs) (hx : DpAll K F xs (ws.map W4.d)) (hw : WOk n m ws) (lw : ws.length ≤ 100)
    (hb : SqA K H b ys) (hy : DpAll K F ys (bs.map B3.d)) (hbo : BOk n k bs) (lb : bs.length ≤ 100)
    (q : ∀ H' us cs, us.Perm ws → us.Pairwise (fun x y => lexL y.k x.k = false) → cs.Perm bs → cs.Pairwise (fun x y => lexL y.k x.k = false) → Same H H' → IsLine A.c_Line H' x n us cs → Q .non H') :
    spLineI A K [.ref x, .int n, .ref a, .ref b] (upd (upd H dx (.own x)) x (.ins A.c_Line dx [])) Q E :=
  ⟨H, x, dx, a, b, n, m, k, xs, ys, ws, bs, rfl, ((Cxs.start H).fresh (.own x) nd).push _ ((upd_ne (Ne.symm ne)).trans nx), n1, ha.mono e, hx.mono e, hw, lw, hb, hy.mono e, hbo, lb, q⟩
theorem i_same {H : Hp} {Q : VK} {E : XK} {x y : V} {d : PyData} {k w : Nat} (hx : Dp K H x d) (hy : Dp K H y d) (t : Tm k w d) (hk : k ≤ 4) (q : ∀ H', Same H H' → Q (.bl true) H') : spS K 5 [x, y] H Q E := ⟨x, y, d, rfl, hx, hy, Nat.lt_of_le_of_lt t.d2 (by omega), t.nr, q⟩
end
/-! ### the answers are tame -/
theorem wk_big {E : List Ed} {M : Int} (h0 : ∀ e ∈ E, 0 ≤ e.2.2 ∧ e.2.2 ≤ M) {a b h : Int} {l : List Int} (w : Wk E a l b h) : 0 ≤ h ∧ h ≤ ((l.length - 1 : Nat) : Int) * M := by
  induction w with
  | one => simp
  | @step a m b c h l he w ih =>
    have hc := h0 _ he
    simp only at hc
    obtain ⟨r, rfl⟩ := w.head
    have e : (((a :: m :: r).length - 1 : Nat) : Int) = (((m :: r).length - 1 : Nat) : Int) + 1 := by
      rw [List.length_cons, List.length_cons]
      omega
    rw [e, Int.add_mul]
    omega
theorem tm_nobox {p : Int} (h0 : -6 ≤ p) (h1 : p ≤ 7) : Tm 2 506 (dNoBox p) :=
  (Tm.tup (k := 1) (w := 42) 3 (tm_cons ((Tm.str (x := "NoBox") (by decide +kernel) (by decide +kernel)).up (by decide) (by decide)) (tm_cons (Tm.tup 1 (tm_cons (.int (abs12 (m := 7) (by omega) (by omega) (by omega))) tm_nil) (Nat.le_refl _) (by decide)) (tm_cons ((Tm.bl true).up (by decide) (by decide)) tm_nil))) (Nat.le_refl _) (by decide)).up (by decide) (by decide)
theorem tm_noway {p q : Int} (h0 : -6 ≤ p) (h1 : p ≤ 7) (h2 : -6 ≤ q) (h3 : q ≤ 7) : Tm 2 506 (dNoWay p q) :=
  (Tm.tup (k := 1) (w := 84) 3 (tm_cons ((Tm.str (x := "NoWay") (by decide +kernel) (by decide +kernel)).up (by decide) (by decide)) (tm_cons (Tm.tup 2 (tm_cons (.int (abs12 (m := 7) (by omega) (by omega) (by omega))) (tm_cons (.int (abs12 (m := 7) (by omega) (by omega) (by omega))) tm_nil)) (Nat.le_refl _) (by decide)) (tm_cons ((Tm.bl true).up (by decide) (by decide)) tm_nil))) (Nat.le_refl _) (by decide)).up (by decide) (by decide)
theorem wrong_rng {n p q b : Int} (hn : n ≤ 6) (p0 : -1 ≤ p) (p1 : p ≤ n) (q0 : -1 ≤ q) (q1 : q ≤ n) (h : Wrong n p q b) : -6 ≤ b ∧ b ≤ 7 := by
  rcases h with ⟨rfl, _⟩ | ⟨rfl, _⟩ <;> omega
theorem tm_told {x : PyData} (h : Tm 1 252 x) : Tm 2 506 (.tuple [.str "told", x]) :=
  (Tm.tup (k := 1) (w := 252) 2 (tm_cons ((Tm.str (x := "told") (by decide +kernel) (by decide +kernel)).up (by decide) (by decide)) (tm_cons h tm_nil)) (Nat.le_refl _) (by decide))
/-- the answers at a place are tame -/
theorem tm_ans {n p q k : Int} {us : List W4} (hn : n ≤ 6) (hu : WOk n 1000000000 us) (hl : us.length ≤ 1000) (p0 : -1 ≤ p) (p1 : p ≤ n) (q0 : -1 ≤ q) (q1 : q ≤ n) {x y : PyData} (h : AnsP us n (k, p, q) x y) : Tm 2 506 x ∧ Tm 2 506 y := by
  obtain ⟨h1, h2⟩ := h
  have rng := edges_rng (late := decide (k = 2)) hu
  have shrt : ∀ {l : List Int} {h : Int}, 0 ≤ p → p < n → Wk (edges (decide (k = 2)) us) p l q h → l.Nodup → l.length ≤ 6 ∧ (∀ i ∈ l, 0 ≤ i ∧ i < (n.toNat : Int)) ∧ 0 ≤ h ∧ h ≤ 5 * 1000000000 := fun {l h} p0 p1 wk nd => by
    have all := Wk.all (P := fun x => 0 ≤ x ∧ x < (n.toNat : Int)) rng (by omega) wk
    have lw := nodup_short n.toNat nd fun x hx => all x hx
    have big := wk_big (M := 1000000000) (fun e he => by
      have := (eok_of (n := n) (m := 1000000000) (by omega) (by omega) (by decide) hu hl).pos e he
      omega) wk
    exact ⟨by omega, all, big.1, Int.le_trans big.2 (Int.mul_le_mul_of_nonneg_right (by omega) (by decide))⟩
  have pos : 0 ≤ n → ∀ e ∈ edges (decide (k = 2)) us, 1 ≤ e.2.2 := fun n0 e he => ((eok_of (n := n) (m := 1000000000) n0 (by omega) (by decide) hu hl).pos e he).1
  constructor
  · rcases h1 with ⟨a0, a1, b0, b1, s, S, rfl⟩ | ⟨b, hb, rfl⟩
    · refine tm_told ?_
      cases e : s p with
      | none => exact Tm.non.up (by decide) (by decide)
      | some h =>
        obtain ⟨l, wk⟩ := S.sound _ _ e
        obtain ⟨_, _, h0, h1⟩ := shrt a0 a1 wk (S.falls (pos (by omega)) wk e).1
        have : (10 : Nat) ^ 12 = 1000000000000 := by decide
        exact (Tm.int (by omega)).up (by decide) (by decide)
    · obtain ⟨c0, c1⟩ := wrong_rng hn p0 p1 q0 q1 hb
      exact tm_nobox c0 c1
  · rcases h2 with ⟨a0, a1, b0, b1, s, S, ⟨l, g, rfl⟩ | ⟨_, rfl⟩⟩ | ⟨b, hb, rfl⟩
    · obtain ⟨nd, gb⟩ := g.nodup (pos (by omega)) S
      obtain ⟨r, hr⟩ := g.head
      obtain ⟨h, kk, e, _, _⟩ := gb p (by rw [hr]; exact List.mem_cons_self)
      obtain ⟨ll, li, _, _⟩ := shrt a0 a1 (g.way S h e) nd
      refine tm_told (Tm.list (k := 0) (w := 41) 6 (tm_map fun i hi => ?_) (by rw [List.length_map]; exact ll) (by decide))
      have := li i hi
      exact .int (abs12 (m := 6) (by omega) (by omega) (by omega))
    · exact tm_noway (by omega) (by omega) (by omega) (by omega)
    · obtain ⟨c0, c1⟩ := wrong_rng hn p0 p1 q0 q1 hb
      exact tm_nobox c0 c1
/-- the places of the law -/
theorem allP_mem {n : Int} (n1 : 1 ≤ n) {ks : List Int} {i : Pl} (h : i ∈ allP n ks) : -1 ≤ i.2.1 ∧ i.2.1 ≤ n ∧ -1 ≤ i.2.2 ∧ i.2.2 ≤ n := by
  obtain ⟨k, _, h⟩ := List.mem_flatMap.mp h
  obtain ⟨a, ha, h⟩ := List.mem_flatMap.mp h
  obtain ⟨b, hb, rfl⟩ := List.mem_map.mp h
  rw [List.mem_range] at ha hb
  have ha : a < (n + 1 - -1).toNat := ha
  have hb : b < (n + 1 - -1).toNat := hb
  refine ⟨?_, ?_, ?_, ?_⟩
  · show (-1 : Int) ≤ -1 + (a : Int)
    omega
  · show -1 + (a : Int) ≤ n
    omega
  · show (-1 : Int) ≤ -1 + (b : Int)
    omega
  · show -1 + (b : Int) ≤ n
    omega
/-- the answers and what is due -/
theorem ans_due {n : Int} {us ws : List W4} {ds es : List PyData} {is : List Pl} (n1 : 1 ≤ n) (n6 : n ≤ 6) (pu : us.Perm ws) {m : Int} (m0 : 0 ≤ m) (hw : WOk n m ws) (hu : WOk n m us) (hl : us.length ≤ 1000) (ha : F2 (AnsP us n) is ds) (hd : F2 (DueP ws n) is es) : ds = es := by
  refine F2.one (R' := DueP ws n) (fun i x y x' y' h1 h2 => ?_) ha hd
  obtain ⟨k, p, q⟩ := i
  obtain ⟨a1, a2⟩ := h1
  have mem : ∀ e, e ∈ edges (decide (k = 2)) us ↔ e ∈ edges (decide (k = 2)) ws := fun e => (pu.filterMap _).mem_iff
  have rng : ∀ e ∈ edges (decide (k = 2)) ws, 0 ≤ e.2.1 ∧ e.2.1 < (((n - 1).toNat : Nat) : Int) + 1 := fun e he => by
    have := edges_rng (late := decide (k = 2)) hw e he
    omega
  have pos : ∀ e ∈ edges (decide (k = 2)) us, 1 ≤ e.2.2 := fun e he => ((eok_of (n := n) (m := m) (by omega) (by omega) m0 hu hl).pos e he).1
  rcases h2 with ⟨p0, p1, q0, q1, h2⟩ | ⟨b, hb, rfl, rfl⟩
  · have p0 : 0 ≤ p := p0
    have p1 : p < n := p1
    have q0 : 0 ≤ q := q0
    have q1 : q < n := q1
    have hp : 0 ≤ p ∧ p < (((n - 1).toNat : Nat) : Int) + 1 := by omega
    have nw : ∀ b, ¬ Wrong n p q b := fun b hb => by rcases hb with ⟨_, h⟩ | ⟨_, _, _, h⟩ <;> omega
    rcases a1 with ⟨_, _, _, _, s, S, rfl⟩ | ⟨b, hb, _⟩
    · rcases a2 with ⟨_, _, _, _, s', S', a2⟩ | ⟨b, hb, _⟩
      · rcases h2 with ⟨hf, rfl, rfl⟩ | ⟨z, hz, least, rfl, rfl⟩
        · have e1 := found_none mem pos rng hp S hf
          have e2 := found_none mem pos rng hp S' hf
          refine ⟨by show dNum (s p) = _; rw [e1], ?_⟩
          rcases a2 with ⟨l, g, rfl⟩ | ⟨_, rfl⟩
          · exfalso
            obtain ⟨r, hr⟩ := g.head
            obtain ⟨h, _, e, _, _⟩ := (g.nodup pos S').2 p (by rw [hr]; exact List.mem_cons_self)
            rw [e2] at e
            cases e
          · rfl
        · have e1 := (found_some mem pos rng hp S hz least).1
          obtain ⟨e2, e3⟩ := found_some mem pos rng hp S' hz least
          refine ⟨by show dNum (s p) = _; rw [e1], ?_⟩
          rcases a2 with ⟨l, g, rfl⟩ | ⟨sn, _⟩
          · rw [e3 l g]
          · rw [e2] at sn
            cases sn
      · exact absurd hb (nw b)
    · exact absurd hb (nw b)
  · have nw : ∀ {b'}, Wrong n p q b' → b' = b := fun {b'} h' => by
      have hb : Wrong n p q b := hb
      rcases hb with ⟨e, h⟩ | ⟨e, h1, h2, h⟩ <;> rcases h' with ⟨e', h'⟩ | ⟨e', h1', h2', h'⟩ <;> omega
    have no : ¬ (0 ≤ p ∧ p < n ∧ 0 ≤ q ∧ q < n) := fun ⟨z1, z2, z3, z4⟩ => by
      have hb : Wrong n p q b := hb
      rcases hb with ⟨_, h⟩ | ⟨_, _, _, h⟩ <;> omega
    constructor
    · rcases a1 with ⟨z1, z2, z3, z4, _⟩ | ⟨b', hb', rfl⟩
      · exact absurd ⟨z1, z2, z3, z4⟩ no
      · rw [nw hb']
    · rcases a2 with ⟨z1, z2, z3, z4, _⟩ | ⟨b', hb', rfl⟩
      · exact absurd ⟨z1, z2, z3, z4⟩ no
      · rw [nw hb']
theorem F2.allM {ι : Type} {R : ι → PyData → PyData → Prop} {is : List ι} {ds : List PyData} {P : PyData → Prop} (u : ∀ i ∈ is, ∀ x y, R i x y → P x ∧ P y) (h : F2 R is ds) : ∀ d ∈ ds, P d := by
  induction h with
  | nil => intro d hd; cases hd
  | cons r _ ih =>
    intro d hd
    rcases List.mem_cons.mp hd with rfl | hd
    · exact (u _ List.mem_cons_self _ _ r).1
    · rcases List.mem_cons.mp hd with rfl | hd
      · exact (u _ List.mem_cons_self _ _ r).2
      · exact ih (fun i hi => u i (List.mem_cons_of_mem _ hi)) d hd
theorem tm_all {n : Int} {us : List W4} {ds : List PyData} {ks : List Int} (n1 : 1 ≤ n) (hn : n ≤ 6) (lk : ks.length ≤ 2) (hu : WOk n 1000000000 us) (hl : us.length ≤ 1000) (ff : F2 (AnsP us n) (allP n ks) ds) : Tm 3 129792 (.list ds) := by
  have hp : pts n ≤ 8 := by show (n + 1 - -1).toNat ≤ 8; omega
  have l1 := ff.len
  have l2 := allP_len (n := n) (ks := ks) hp
  refine Tm.list (k := 2) (w := 506) 256 (F2.allM (fun i hi x y r => ?_) ff) (by omega) (by decide)
  obtain ⟨k, p, q⟩ := i
  obtain ⟨p0, p1, q0, q1⟩ := allP_mem n1 hi
  exact tm_ans hn hu hl p0 p1 q0 q1 r
end K03
set_option maxRecDepth 100000
set_option maxHeartbeats 1000000
namespace K03
open PySem PySem.Spec PyProof.Rows L2 VX Way
local macro_rules | `(tactic| walk_at "ne") => `(tactic| first
  | assumption
  | exact Ne.symm (by assumption)
  | exact ne_of_none (by assumption) (by assumption)
  | exact Ne.symm (ne_of_none (by assumption) (by assumption))
  | ((with_reducible refine' ne_of_none ?n1 ?n2); (case n2 => assumption); (case n1 => walk_at "lk"))
  | ((with_reducible refine' Ne.symm (ne_of_none ?n1 ?n2)); (case n2 => assumption); (case n1 => walk_at "lk")))
local macro_rules | `(tactic| walk_at "lk") => `(tactic| first
  | assumption
  | (with_reducible exact upd_same)
  | ((with_reducible refine' (upd_ne ?nn).trans ?ll); (case nn => walk_at "ne"); (case ll => walk_at "lk"))
  | ((with_reducible refine' VX.same_at ?nn ?ll); (case nn => assumption); (case ll => walk_at "lk")))
local macro_rules | `(tactic| walk_at "dp") => `(tactic| first
  | assumption
  | (with_reducible exact Dp.non)
  | (with_reducible exact Dp.bl _)
  | (with_reducible exact Dp.int _)
  | (with_reducible exact Dp.str _)
  | ((with_reducible refine' VX.Dp.mono' ?dd (same_new ?nn)); (case nn => assumption); (case dd => walk_at "dp"))
  | ((with_reducible refine' VX.Dp.mono' ?dd ?nn); (case nn => assumption); (case dd => walk_at "dp")))
local macro_rules | `(tactic| walk_at "sq") => `(tactic| first
  | assumption
  | (with_reducible exact SqL.of (by assumption))
  | (with_reducible exact SqT.of (by assumption))
  | ((with_reducible refine' Same.seq (same_new ?nn) ?qq); (case nn => assumption); (case qq => walk_at "sq"))
  | ((with_reducible refine' same_sqT (same_new ?nn) ?qq); (case nn => assumption); (case qq => walk_at "sq"))
  | ((with_reducible refine' Same.seq ?nn ?qq); (case nn => assumption); (case qq => walk_at "sq"))
  | ((with_reducible refine' same_sqT ?nn ?qq); (case nn => assumption); (case qq => walk_at "sq"))
  | ((with_reducible refine' SqL.of ?qq); (case qq => walk_at "lk"))
  | ((with_reducible refine' SqT.of ?qq); (case qq => walk_at "lk")))
local macro_rules | `(tactic| walk_at "cc") => `(tactic| first
  | exact ⟨by decide, by decide, by decide⟩
  | (show _ ≠ _; omega)
  | exact ⟨by omega, by omega⟩
  | exact Or.inl ⟨by omega, by omega⟩
  | exact Or.inr ⟨by omega, by omega⟩)
local macro_rules | `(tactic| walk_at "vcA") => `(tactic| repeat (first
  | ((with_reducible refine' VX.i_modA ?v1 ?_); (case v1 => omega); intro r hr0 hr1)
  | ((with_reducible refine' VX.i_divA ?v1 ?v2 ?_); (case v1 => omega); (case v2 => omega); intro r hr0 hr1)
  | walk_at "vc1"))
local macro_rules | `(tactic| walk_at "vc1") => `(tactic| first
  | ((with_reducible refine' VX.i_var ?v1 ?_); (case v1 => rfl))
  | (with_reducible refine' VX.i_c ?_)
  | (with_reducible refine' VX.i_op ?_)
  | (with_reducible refine' VX.i_cons ?_)
  | (with_reducible refine' VX.i_nil ?_)
  | (with_reducible refine' VX.i_seq ?_)
  | (with_reducible refine' VX.i_asg ?_)
  | ((with_reducible refine' VX.i_gname ?v2 ?_); (case v2 => (first | (simp only [List.set_cons_zero, List.set_cons_succ]; done) | (simp only [List.set_cons_zero, List.set_cons_succ]; exact rfl) | exact rfl)))
  | (with_reducible refine' VX.i_ifS ?_)
  | (with_reducible refine' VX.i_test ?_)
  | (with_reducible refine' VX.i_tB ?_)
  | (with_reducible refine' VX.i_bl ?_)
  | (with_reducible refine' VX.i_iteT ?_)
  | (with_reducible refine' VX.i_iteF ?_)
  | (with_reducible refine' VX.i_iteNT ?_)
  | (with_reducible refine' VX.i_iteNF ?_)
  | (with_reducible refine' VX.i_and ?_)
  | (with_reducible refine' VX.i_or ?_)
  | (with_reducible refine' VX.i_not ?_)
  | (with_reducible refine' VX.i_call ?_)
  | (with_reducible refine' VX.i_CB ?_)
  | (with_reducible refine' VX.i_make ?_)
  | (with_reducible refine' VX.i_makeK0 ?_)
  | (with_reducible refine' VX.i_mthK ?_)
  | (with_reducible refine' VX.i_mthS ?_)
  | (with_reducible refine' VX.i_meth ?_)
  | ((with_reducible refine' VX.i_ixL ?v1 ?v2 ?_); (case v1 => walk_at "sq"); (case v2 => first | rfl | assumption))
  | ((with_reducible refine' VX.i_ixT ?v1 ?v2 ?_); (case v1 => walk_at "sq"); (case v2 => first | rfl | assumption))
  | ((with_reducible refine' VX.i_setLU ?v2 ?v3 ?_); (case v2 => rfl); (case v3 => rfl))
  | ((with_reducible refine' VX.i_setL ?v1 ?v2 ?v3 ?_); (case v1 => walk_at "lk"); (case v2 => rfl); (case v3 => rfl))
  | (with_reducible refine' VX.i_rI0 ?_)
  | ((with_reducible refine' VX.i_rI ?v1 ?_); (case v1 => walk_at "cc"))
  | (with_reducible refine' VX.i_int ?_)
  | ((with_reducible refine' VX.i_rEqS ?v1 ?_); (case v1 => rfl))
  | ((with_reducible refine' VX.i_rNeS ?v1 ?_); (case v1 => rfl))
  | (with_reducible refine' VX.i_rEqI ?_)
  | (with_reducible refine' VX.i_rNeI ?_)
  | (with_reducible refine' VX.i_max2 ?_)
  | (with_reducible refine' VX.i_min2 ?_)
  | ((with_reducible refine' VX.i_lenL ?v1 ?_); (case v1 => walk_at "sq"))
  | ((with_reducible refine' VX.i_lenT ?v1 ?_); (case v1 => walk_at "sq"))
  | (with_reducible refine' VX.i_chain ?_)
  | (with_reducible refine' VX.i_gsub ?_)
  | (with_reducible refine' VX.i_ret ?_)
  | (with_reducible refine' VX.i_drop ?_)
  | (with_reducible refine' VX.i_next ?_)
  | (with_reducible refine' VX.i_retN ?_)
  | (with_reducible refine' VX.i_andV ?_)
  | (with_reducible refine' VX.i_orV ?_)
  | (with_reducible refine' VX.i_notV ?_)
  | (with_reducible refine' VX.i_ifE ?_)
  | (with_reducible refine' VX.i_un ?_)
  | (with_reducible refine' VX.i_rU ?_)
  | (with_reducible refine' VX.i_tup ?_)
  | (with_reducible refine' VX.i_lst ?_)
  | ((with_reducible refine' VX.i_fldv ?v1 ?v2 ?v3 ?v4 ?v5 ?_); (case v1 => rfl); (case v2 => walk_at "lk"); (case v3 => walk_at "cl"); (case v4 => walk_at "na"); (case v5 => first | rfl | assumption))
  | (with_reducible refine' VX.i_fld ?_)
  | (with_reducible refine' VX.i_sFld ?_)
  | (with_reducible refine' VX.i_mk1 ?_)
  | (with_reducible refine' VX.i_mk1v ?_)
  | (with_reducible refine' VX.i_gnil ?_)
  | (with_reducible refine' VX.i_lc ?_)
  | (with_reducible refine' VX.i_for ?_)
  | (with_reducible refine' VX.i_lstRg ?_)
  | (with_reducible refine' VX.i_rg2 ?_)
  | (with_reducible refine' VX.i_rg2v ?_)
  | (with_reducible refine' VX.i_yes ?_)
  | (with_reducible refine' VX.i_iList ?_)
  | (with_reducible refine' VX.i_iRng1 ?_)
  | (with_reducible refine' VX.i_iRng2 ?_)
  | (with_reducible refine' VX.i_iEnum ?_)
  | (with_reducible refine' VX.i_iZip ?_)
  | (with_reducible refine' VX.i_iOwn ?_)
  | ((with_reducible refine' VX.i_wipe ?v1 ?_); (case v1 => rfl))
  | (with_reducible refine' VX.i_andN ?_)
  | (with_reducible refine' VX.i_iteNDS ?_)
  | (with_reducible refine' VX.i_bm ?_)
  | ((with_reducible refine' VX.i_tyL ?v1 ?_); (case v1 => walk_at "sq"))
  | ((with_reducible refine' VX.i_append ?v1 ?v2 ?_); (case v1 => walk_at "lk"); (case v2 => (simp only [List.length_map, List.length_cons, List.length_nil, List.length_append]; omega)))
  | ((with_reducible refine' VX.i_iteDT ?v1 ?_); (case v1 => rfl))
  | ((with_reducible refine' VX.i_iteDF ?v1 ?_); (case v1 => intro h; cases h))
  | ((with_reducible refine' VX.i_isiD ?v1 ?v2 ?_); (case v1 => walk_at "dp"); (case v2 => decide))
  | ((with_reducible refine' VX.i_iteBT ?v1 ?_); (case v1 => rfl))
  | ((with_reducible refine' VX.i_iteBF ?v1 ?_); (case v1 => rfl))
  | (with_reducible refine' VX.i_gcons ?_)
  | (with_reducible refine' VX.i_dIn ?_)
  | (with_reducible refine' VX.i_dNotIn ?_)
  | (with_reducible refine' VX.i_dGet ?_)
  | (with_reducible refine' VX.i_items ?_)
  | (with_reducible refine' VX.i_keys ?_)
  | ((with_reducible refine' VX.i_gtup ?v1 ?v2 ?_); (case v1 => walk_at "sq"); (case v2 => rfl)))
local macro_rules | `(tactic| walk_at "vc") => `(tactic| repeat walk_at "vc1")

local macro_rules | `(tactic| walk_at "cl") => `(tactic| exact Txt.cl_Line (by assumption))
local macro_rules | `(tactic| walk_at "na") => `(tactic| first | exact Txt.na_Line_size (by assumption) | exact Txt.na_Line__spans (by assumption) | exact Txt.na_Line__mosts (by assumption))
theorem Cxs.other {F H : Hp} {T : List (Addr × HO)} {l : Addr} {o : HO} (c : Cxs F T H) (nF : F l = none) (nT : ∀ x ∈ T, x.1 ≠ l) : Cxs F T (upd H l o) := by
  refine ⟨fun b u hb => ?_, c.n, fun x hx => ?_, c.d⟩
  · rw [upd_ne (ne_of_none hb nF)]
    exact c.e _ _ hb
  · rw [upd_ne (nT x hx)]
    exact c.h x hx
theorem i_rEqF {x y : V} {H : Hp} {Q : VK} (h : scal x y = true) (ne : x ≠ y) (q : Q (.bl false) H) : rEq x y H Q := by
  refine ⟨h, ?_⟩
  rw [decide_eq_false ne]
  exact q
theorem ne_lst {H : Hp} {p b : Addr} {zs : List V} {o : HO} (hp : H p = some (.lst zs)) (hb : H b = some o) (ho : ∀ ys, o ≠ .lst ys) : b ≠ p := fun z => by
  rw [z, hp] at hb
  cases hb
  exact ho _ rfl
theorem IsLine.cut {C : Addr} {H : Hp} {x p : Addr} {n : Int} {us : List W4} {cs : List B3} {zs : List V} (h : IsLine C H x n us cs) (hp : H p = some (.lst zs)) : IsLine C (del H p) x n us cs := by
  obtain ⟨dx, d1, d2, js, ms, h1, h2, h3, h4, h5⟩ := h
  refine ⟨dx, d1, d2, js, ms, del_of h1 (ne_lst hp h1 fun _ z => nomatch z), del_of h2 (ne_lst hp h2 fun _ z => nomatch z), del_of h3 (ne_lst hp h3 fun _ z => nomatch z), Paired.mapP h4 fun _ _ z => ⟨z.1, ?_⟩, Paired.mapP h5 fun _ _ z => ⟨z.1, z.2⟩⟩
  obtain ⟨q, e1, e2⟩ := z.2
  exact ⟨q, e1, del_of e2 (ne_lst hp e2 fun _ z => nomatch z)⟩
section
variable {P : Program} {w : World} {K : PySem.W.Frag} {mg : Str → Option Value} {base : Heap} {A : Adr}
def spLaw (K : PySem.W.Frag) : Around → Nat → Sp := fun A _ vs H Q _ => A.guards = some [] ∧ ∃ (s : Addr) (ks : List Int), vs = [.ref s] ∧ SqL K H s (ks.map V.int) ∧ ∀ H', Q (.bl true) H'
theorem ok_law (T : Txt K mg A) : FnA P w K mg base CX0 8 A.f_law A.d_law ["_law_script"] (spLaw K) := by
  refine okA T.F_law sc_law (fun A n vs H Q E h => ?_) (fun cdv A' outer s H vs Q E hr h => ?_)
  · obtain ⟨_, a, ks, rfl, _⟩ := h
    rfl
  · obtain ⟨hg, a0, ks, rfl, ha, q⟩ := h
    have hgd := deeper_guards (env := envOfC "law" (defScope s_law) s.heap.objs.size A.f_law cdv) hg
    refine ⟨_, (pss_cons (ps_asg (pe_call (ok_line T) (hr.mono (by decide)) (by rfl) T.g_line T.F_line.kp (b_line T) .nil pass0 (pa_cons (pv 0) pa_nil)) (pg_tup rfl (pgs_cons (pg_name (i := 1) sc_law.nd rfl (Or.inl rfl)) (pgs_cons (pg_name (i := 2) sc_law.nd rfl (Or.inl rfl)) (pgs_cons (pg_name (i := 3) sc_law.nd rfl (Or.inl rfl)) pgs_nil)))))
      (pss_cons (ps_set (i := 4) sc_law.nd rfl (Or.inl rfl) (pe_call (ok_pen T) (hr.mono (by decide)) (by rfl) T.g_pen T.F_pen.kp (b_pen T) .nil pass0 (pa_cons (pv 0) (pa_cons pe_int pa_nil))))
      (pss_cons (ps_set (i := 5) sc_law.nd rfl (Or.inl rfl) (pe_makeK T.M_Line (ok_Line_init T) (hr.mono (by decide)) (by rfl) T.g_Line (kb1_Line T) pass0 (pa_cons (pv 1) (pa_cons (pe_call (ok_mixed T) (hr.mono (by decide)) (by rfl) T.g_mixed T.F_mixed.kp (b_mixed T) .nil pass0 (pa_cons (pv 4) (pa_cons (pv 2) pa_nil))) pa_nil)) (pk_cons (pe_callTy call_listOf (by rfl) T.n_list (by decide +kernel) (pa_cons (pv 3) pa_nil)) pk_nil)))
      (pss_cons (ps_set (i := 6) sc_law.nd rfl (Or.inl rfl) (pe_lst (pa_cons (pe_call (ok_take T) (hr.mono (by decide)) (by rfl) T.g_take T.F_take.kp (b_take T) .nil pass0 (pa_cons (pv 4) (pa_cons pe_int pa_nil))) (pa_cons pe_int pa_nil))))
      (pss_cons (ps_set (i := 7) sc_law.nd rfl (Or.inl rfl) (pe_call (ok_due T) (hr.mono (by decide)) (by rfl) T.g_due T.F_due.kp (b_due T) .nil pass0 (pa_cons (pv 1) (pa_cons (pv 2) (pa_cons (pv 6) pa_nil)))))
      (pss_cons (ps_set (i := 8) sc_law.nd rfl (Or.inl rfl) (pe_call (ok_answers T) (hr.mono (by decide)) (by rfl) T.g_answers T.F_answers.kp (b_answers T) .nil pass0 (pa_cons (pv 5) (pa_cons (pv 1) (pa_cons (pv 6) pa_nil)))))
      (pss_cons (ps_if (pt_not (pt_val (pe_call (ok_same T) (hr.mono (by decide)) (by rfl) T.g_same T.F_same.kp (b_same T) .nil pass0 (pa_cons (pv 8) (pa_cons (pv 7) pa_nil))))) (pss_one (ps_ret pe_bl)) pss_nil)
      (pss_cons (ps_set (i := 9) sc_law.nd rfl (Or.inl rfl) (pe_callB (call_reprD hgd (units61 hr)) (by rfl) T.n_repr (by decide +kernel) (pa_cons (pv 8) pa_nil)))
      (pss_cons (ps_for PassesOwn.never rfl (pi_list (pv 8)) (pg_name (i := 10) sc_law.nd rfl (Or.inl rfl))
      (pss_one (ps_if (PW.pt (pw_and (pt_cmpR op_eq (pe_ix (r := rIxT K) ix_tup (pv 10) pe_int (fun _ _ => rfl)) pe_str (nomark _)) (pw_and1 (pt_val (pe_callB call_isi (by rfl) T.n_isinstance (by decide +kernel) (pa_cons (pe_ix (r := rIxT K) ix_tup (pv 10) pe_int (fun _ _ => rfl)) (pa_cons (pe_bltn (v := .ty "list") (by rfl) T.n_list (by decide +kernel) rfl) pa_nil))))))) (pss_cons (ps_set (i := 11) sc_law.nd rfl (Or.inl rfl) (pe_ix (r := rIxT K) ix_tup (pv 10) pe_int (fun _ _ => rfl)))
      (pss_cons (ps_expr (pe_bm PySem.F.plainAttrs_list PySem.F.slot_list_append PySem.F.type_list_append mt_append (pv 11) (pa_cons pe_int pa_nil)))
      (pss_one (ps_asg pe_int (pg_sub (pv 11) pe_int set_list))))) pss_nil)))
      (pss_cons (ps_set (i := 12) sc_law.nd rfl (Or.inl rfl) (pe_call (ok_answers T) (hr.mono (by decide)) (by rfl) T.g_answers T.F_answers.kp (b_answers T) .nil pass0 (pa_cons (pv 5) (pa_cons (pv 1) (pa_cons (pv 6) pa_nil)))))
      (pss_cons (ps_if (PW.pt (pw_or (pt_cmpR op_ne (pe_callB (call_reprD hgd (units61 hr)) (by rfl) T.n_repr (by decide +kernel) (pa_cons (pv 12) pa_nil)) (pv 9) (nomark _)) (pw_or1 (pt_not (pt_val (pe_call (ok_same T) (hr.mono (by decide)) (by rfl) T.g_same T.F_same.kp (b_same T) .nil pass0 (pa_cons (pv 12) (pa_cons (pv 7) pa_nil)))))))) (pss_one (ps_ret pe_bl)) pss_nil)
      (pss_one (ps_ret (pe_and (pe_cmpR op_eq (pe_fld (pv 5) rfl) (pv 1) (nomark _)) (pe_and (pe_call (ok_same T) (hr.mono (by decide)) (by rfl) T.g_same T.F_same.kp (b_same T) .nil pass0 (pa_cons (pe_meth0 (pv 5) T.cl_Line T.m_Line_wires (ok_Line_wires T) (hr.mono (by decide)) (b_Line_wires T) .nil pass0) (pa_cons (pe_callB (cr_sortK (d := 2) (by decide)) (by rfl) T.n_sorted (by decide +kernel) (pa_cons (pv 2) pa_nil)) pa_nil))) (pe_one (pe_call (ok_same T) (hr.mono (by decide)) (by rfl) T.g_same T.F_same.kp (b_same T) .nil pass0 (pa_cons (pe_meth0 (pv 5) T.cl_Line T.m_Line_bounds (ok_Line_bounds T) (hr.mono (by decide)) (b_Line_bounds T) .nil pass0) (pa_cons (pv 3) pa_nil))))))))))))))))))), ?_⟩
    refine i_start (σ' := [some (V.ref a0), none, none, none, none, none, none, none, none, none, none, none, none]) rfl ?_
    walk_at "vc"
    refine ⟨a0, ks, rfl, ha, fun D a b n ws bs H1 e1 hD dr => ?_⟩
    refine i_gtup (SqT.of hD) rfl ?_
    have n1 := dr.s0
    have n6 := dr.s1
    have lw := dr.wl
    have lb := dr.bl
    obtain ⟨xsw, hw, hxw⟩ := dr.wa
    obtain ⟨xsb, hb, hxb⟩ := dr.ba
    have ha := e1.seq ha
    have lxw : xsw.length = ws.length := by rw [dpa_len hxw, List.length_map]
    have lxb : xsb.length = bs.length := by rw [dpa_len hxb, List.length_map]
    walk_at "vc"
    refine i_penX (Cxs.start H1) ha (by decide) (by decide) fun z p H2 c _ => ?_
    walk_at "vc"
    refine i_makeK ?_
    walk_at "vc"
    refine ⟨H1, p, a, z, 0, z, xsw, rfl, c, SqL.of hw, by omega, fun P1 k1 r1 ys H3 py c => ?_⟩
    have k1e := c.keepS
    have c := c.keep
    have hP1 : upd H1 P1 (.lst ys) P1 = some (.lst ys) := upd_same
    obtain ⟨ws', pw', hys⟩ := perm_rows py hxw
    have hys := hys.mono k1e
    generalize upd H1 P1 (.lst ys) = F1 at c k1e hP1 hys
    walk_at "vc"
    refine i_listL (SqL.of (c.e _ _ (k1e _ _ hb))) fun L1 m1 => ?_
    have s1 := c.sub (u := .lst xsb) m1
    have c := c.new (.lst xsb) m1
    have hL1 : upd F1 L1 (.lst xsb) L1 = some (.lst xsb) := upd_same
    generalize upd H3 L1 (.lst xsb) = H4 at c ⊢
    generalize upd F1 L1 (.lst xsb) = F2 at c s1 hL1
    walk_at "vc"
    refine ⟨rfl, rfl, fun x dx nx ndx ne => ?_⟩
    refine i_lineI (m := 1000000000) (k := 1000000000) nx ndx ne c.e n1 (.inl (SqL.of (s1 _ _ hP1))) (hys.mono s1) (dr.wo.perm pw') (by rw [pw'.length_eq]; omega) (.inl (SqL.of (c.e _ _ hL1))) (hxb.mono (k1e.trans s1)) dr.bo (by omega) fun H5 us cs pu su pc sc e5 hl => ⟨rfl, ?_⟩
    have c := c.grow e5
    have hpen := c.at 0 rfl
    have nP := c.nF 0 rfl
    have e15 : Same H1 (del H5 p) := fun b o hb => del_of (c.e _ _ (s1 _ _ (k1e _ _ hb))) (ne_of_none (s1 _ _ (k1e _ _ hb)) nP)
    have hl := hl.cut hpen
    have c := Cxs.take hpen
    generalize del H5 p = G at c e15 hl
    clear hL1 hP1 hys s1 k1e m1 nx ndx hpen nP
    have hw := e15 _ _ hw
    have hb := e15 _ _ hb
    have hxw := hxw.mono e15
    have hxb := hxb.mono e15
    have puw := pu.trans pw'
    have wo' : WOk n 1000000000 us := dr.wo.perm puw
    have lu : us.length ≤ 1000 := by rw [puw.length_eq]; omega
    obtain rfl : cs = bs := sorted_one dr.bo.nd (List.Perm.refl _) pc dr.bp sc
    walk_at "vc"
    refine i_takeX (size := 2) 0 c rfl (by decide) (by decide) fun d n' r' H6 d0 d1 c => ?_
    walk_at "vc"
    refine ⟨lenB rfl, fun Kk nK => ?_⟩
    have sK := c.sub (u := .lst [.int d, .int 2]) nK
    have c := c.new (.lst [.int d, .int 2]) nK
    have hK : upd G Kk (.lst [.int d, .int 2]) Kk = some (.lst ([d, 2].map V.int)) := upd_same
    have hw := sK _ _ hw
    have hb := sK _ _ hb
    have hxw := hxw.mono sK
    have hxb := hxb.mono sK
    have hl := hl.mono sK
    generalize upd G Kk (.lst [.int d, .int 2]) = G at c hK hw hb hxw hxb hl
    have hw := c.e _ _ hw
    have hb := c.e _ _ hb
    have hxw := hxw.mono c.e
    have hxb := hxb.mono c.e
    have hl := hl.mono c.e
    have hK := c.e _ _ hK
    clear c sK e15
    generalize upd H6 Kk (.lst [.int d, .int 2]) = H7 at hK hw hb hxw hxb hl ⊢
    walk_at "vc"
    refine ⟨n, 1000000000, a, Kk, xsw, ws, [d, 2], rfl, SqL.of hw, hxw, SqL.of hK, Nat.le_refl 2, dr.wo, n1, n6, fun Du H6 es e6 dDu du => ?_⟩
    have hl := hl.mono e6
    have hK := e6 _ _ hK
    walk_at "vc"
    refine ⟨x, Kk, n, 1000000000, [d, 2], us, cs, rfl, SqL.of hK, Nat.le_refl 2, hl, lu, n1, n6, by decide, wo', fun D1 xs1 F H8 ds eF c hp an hs => ?_⟩
    obtain rfl : ds = es := ans_due n1 n6 puw (by decide) dr.wo wo' lu an du
    have tA := tm_all n1 n6 (ks := [d, 2]) (Nat.le_refl 2) wo' lu an
    have dF : Dp K H8 (.ref D1) (.list ds) := .lst (SqL.of (c.at 0 rfl)) (hp.mono c.e)
    walk_at "vc"
    refine i_same dF (Dp.mono' dDu (eF.trans c.e)) tA (by decide) fun H9 e8 => ?_
    have c := c.grow e8
    walk_at "vc"
    refine i_repD (Dp.mono' dF e8) tA (by decide) (by decide) ?_
    walk_at "vc"
    -- what the law spoils: the lists in the answers
    have hW : ∃ W : Hp, Same H6 W ∧ (∀ b o, F b = some o → (∀ ys, o ≠ .lst ys) → W b = some o) ∧ Same W F ∧ ∀ l ys, H6 l = none → F l = some (.lst ys) → W l = none := by
      refine ⟨wo (fun b => H6 b = none ∧ ∃ ys, F b = some (.lst ys)) F, fun b o hb => ?_, fun b o hb ho => ?_, wo_sub, fun l ys h1 h2 => wo_in ⟨h1, ys, h2⟩⟩
      · rw [wo_out]
        · exact eF _ _ hb
        · rintro ⟨h1, _⟩
          rw [hb] at h1
          cases h1
      · rw [wo_out]
        · exact hb
        · rintro ⟨_, ys, h2⟩
          rw [h2] at hb
          cases hb
          exact ho _ rfl
    obtain ⟨W, e6W, hWt, eWF, wl⟩ := hW
    have cW : Cxs W [(D1, .lst xs1)] H9 := c.less eWF
    have nD1 := c.nF 0 rfl
    refine ⟨D1, rfl, ⟨xs1, SqL.of (cW.at 0 rfl)⟩, ?_⟩
    refine for_it (walk_list (K := K) (a := D1) (xs := xs1)) (fun i σ' H' => ∃ y4 y10 y11, σ' = [some (V.ref a0), some (.int n), some (.ref a), some (.ref b), y4, some (.ref x), some (.ref Kk), some (.ref Du), some (.ref D1), some (.str (PyData.list ds).shown), y10, y11, none] ∧
        Cxs W [(D1, .lst xs1)] H' ∧ ∀ l ys, H6 l = none → F l = some (.lst ys) → 0 < ys.length → ys.length ≤ 1000 → ∃ zs, H' l = some (.lst zs) ∧ 0 < zs.length ∧ zs.length ≤ 1000 + i)
      ⟨_, _, _, rfl, cW, fun l ys _ h2 h3 h4 => ⟨ys, c.e _ _ h2, h3, by omega⟩⟩ (fun i σ' H' _ pv => ?_) (fun i y σ' H' H'' hi pv hy => ?_) fun σ' H' pv => ?_
    · obtain ⟨y4, y8, y9, rfl, cW, _⟩ := pv
      exact SqL.of (cW.at 0 rfl)
    · obtain ⟨y4, y8, y9, rfl, cW, sp⟩ := pv
      obtain ⟨rfl, hv⟩ := hy
      obtain ⟨T1, st, bb, rest, rfl, hT, hb'⟩ := hs y (List.mem_of_getElem? hv)
      have hT' := cW.e _ _ (hWt _ _ hT fun ys z => nomatch z)
      have up : ∀ l ys, H6 l = none → F l = some (.lst ys) → 0 < ys.length → ys.length ≤ 1000 → ∃ zs, H'' l = some (.lst zs) ∧ 0 < zs.length ∧ zs.length ≤ 1000 + (i + 1) := fun l ys h1 h2 h3 h4 => let ⟨zs, g1, g2, g3⟩ := sp l ys h1 h2 h3 h4; ⟨zs, g1, g2, by omega⟩
      have li : i < 100000 - 2000 := by
        have := dpa_len hp
        have l1 := an.len
        have l2 := allP_len (n := n) (ks := [d, 2]) (show (n + 1 - -1).toNat ≤ 8 by omega)
        have l3 : [d, 2].length = 2 := rfl
        omega
      walk_at "vc"
      refine i_ixT (SqT.of hT') (at_of (j := 0) rfl rfl) ?_
      walk_at "vc"
      rcases hb' with rfl | rfl | ⟨rfl, rfl⟩ | ⟨rfl, j, rfl⟩ | ⟨rfl, l, xs, rfl, nl, fl, l0, l1⟩
      · refine i_rEqF rfl (fun z => absurd (V.str.inj z) (by decide)) ?_
        walk_at "vc"
        exact ⟨_, _, _, rfl, cW, up⟩
      · refine i_rEqF rfl (fun z => absurd (V.str.inj z) (by decide)) ?_
        walk_at "vc"
        exact ⟨_, _, _, rfl, cW, up⟩
      · walk_at "vc"
        refine i_ixT (SqT.of hT') (at_of (j := 1) rfl rfl) ?_
        walk_at "vc"
        exact ⟨_, _, _, rfl, cW, up⟩
      · walk_at "vc"
        refine i_ixT (SqT.of hT') (at_of (j := 1) rfl rfl) ?_
        walk_at "vc"
        exact ⟨_, _, _, rfl, cW, up⟩
      · obtain ⟨zs, hl0, z0, z1⟩ := sp l xs nl fl l0 l1
        have lD : l ≠ D1 := fun z => by rw [z, nD1] at fl; cases fl
        walk_at "vc"
        refine i_ixT (SqT.of hT') (at_of (j := 1) rfl rfl) ?_
        walk_at "vc"
        refine i_isi (c := "list") (b := true) (.base (.lst hl0)) (kit_dp "list" (by decide) (.list []) (fun _ z => nomatch z)) ?_
        walk_at "vc"
        refine i_ixT (SqT.of hT') (at_of (j := 1) rfl rfl) ?_
        walk_at "vc"
        refine i_append hl0 (by omega) ?_
        walk_at "vc"
        refine i_setL (xs := zs ++ [V.int 0]) (j := 0) (ys := (zs ++ [V.int 0]).set 0 (.int 9)) upd_same ?_ rfl ?_
        · unfold ixN
          rw [if_pos (by decide), if_pos (by rw [List.length_append, List.length_singleton]; omega)]
          rfl
        · walk_at "vc"
          have nT : ∀ x ∈ [(D1, HO.lst xs1)], x.1 ≠ l := fun x hx => by
            rw [List.mem_singleton] at hx
            subst hx
            exact Ne.symm lD
          refine ⟨_, _, _, rfl, Cxs.other (Cxs.other cW (wl l xs nl fl) nT) (wl l xs nl fl) nT, fun m ys m1 m2 m3 m4 => ?_⟩
          by_cases e : m = l
          · subst e
            exact ⟨_, upd_same, by rw [List.length_set, List.length_append]; omega, by rw [List.length_set, List.length_append, List.length_singleton]; omega⟩
          · obtain ⟨zs', h4, h5, h6⟩ := up m ys m1 m2 m3 m4
            exact ⟨zs', by rw [upd_ne e, upd_ne e]; exact h4, h5, h6⟩
    · clear cW
      obtain ⟨y4, y8, y9, rfl, cW, _⟩ := pv
      have eGH := e6W.trans cW.e
      walk_at "vc"
      refine ⟨x, Kk, n, 1000000000, [d, 2], us, cs, rfl, SqL.of (eGH _ _ hK), Nat.le_refl 2, hl.mono eGH, lu, n1, n6, by decide, wo', fun D2 xs2 F2 H10 ds2 eF2 c2 hp2 an2 _ => ?_⟩
      obtain rfl : ds2 = ds := ans_due n1 n6 puw (by decide) dr.wo wo' lu an2 du
      have dF2 : Dp K H10 (.ref D2) (.list ds2) := .lst (SqL.of (c2.at 0 rfl)) (hp2.mono c2.e)
      have eL := eGH.trans (eF2.trans c2.e)
      walk_at "vc"
      refine i_repD dF2 tA (by decide) (by decide) ?_
      walk_at "vc"
      refine i_same dF2 (Dp.mono' dDu eL) tA (by decide) fun H11 e11 => ?_
      have hl := hl.mono (eL.trans e11)
      have eA := eL.trans e11
      have hw := (e6.trans eA) _ _ hw
      have hb := (e6.trans eA) _ _ hb
      have hxw := hxw.mono (e6.trans eA)
      have hxb := hxb.mono (e6.trans eA)
      obtain ⟨dx, d1, d2, hx⟩ := hl.ins
      walk_at "vc"
      refine ⟨x, dx, _, rfl, hx, rfl, ?_⟩
      walk_at "vc"
      refine ⟨x, n, us, cs, rfl, hl, lu, fun D3 H12 ⟨e12, nD3, xs3, hD3, hp3⟩ => ?_⟩
      have hp3 := hp3.mono same_del
      walk_at "vc"
      refine i_sortK (d := W4.d) (k := W4.k) (e12.seq (SqL.of hw)) (Same.refl _) (hxw.mono e12) (fun v u _ h => w4_tupX h) dr.wo.nd fun ys' qs p' pq sq np hy => ?_
      obtain rfl : qs = us := sorted_one dr.wo.nd puw pq su sq
      have e13 := same_new (o := HO.lst ys') np
      walk_at "vc"
      refine i_same (.lst (SqL.of (e13 _ _ hD3)) (hp3.mono e13)) (.lst (SqL.of upd_same) (hy.mono e13)) (tm_ws n6 wo' (by rw [puw.length_eq]; omega)) (by decide) fun H14 e14 => ?_
      have eB := e12.trans (e13.trans e14)
      have hx := eB _ _ hx
      walk_at "vc"
      refine ⟨x, dx, _, rfl, hx, rfl, ?_⟩
      walk_at "vc"
      refine ⟨x, n, qs, cs, rfl, hl.mono eB, by omega, fun D4 H15 ⟨e15', nD4, xs4, hD4, hp4⟩ => ?_⟩
      have hp4 := hp4.mono same_del
      have eC := eB.trans e15'
      walk_at "vc"
      refine i_same (.lst (SqL.of hD4) hp4) (.lst (SqL.of (eC _ _ hb)) (hxb.mono eC)) (tm_bs n6 dr.bo (by omega)) (by decide) fun H16 _ => ?_
      walk_at "vc"
      exact q _
end
end K03
set_option maxRecDepth 100000
namespace K03
open PySem PySem.Spec PyProof.Rows L2 VX
theorem cls_ref {K : PySem.W.Frag} {t : Value} {c : Addr} {b : Bool} (i : PySem.W.isClsIn K c = true) (ty : PySem.W.typeIn K (.ref c) = some (.type "type")) (s : PySem.W.subIn K t (.ref c) = some b) : PySem.W.kitCls K t (.ref c) = some b := by
  unfold PySem.W.kitCls
  have i : (PySem.W.clsIn K c).isSome = true := i
  show (if ((PySem.W.clsIn K c).isSome && PySem.W.typeIn K (.ref c) == some (.type "type")) = true then PySem.W.subIn K t (.ref c) else none) = some b
  rw [i, ty, beq_self_eq_true]
  exact s
theorem exm_ref {K : PySem.W.Frag} {t : Value} {c : Addr} {b : Bool} (e : PySem.W.subIn K (.ref c) (.type "BaseException") = some true) (i : PySem.W.isClsIn K c = true) (ty : PySem.W.typeIn K (.ref c) = some (.type "type")) (s : PySem.W.subIn K t (.ref c) = some b) : PySem.W.exmOne K t (.ref c) = some b := by
  unfold PySem.W.exmOne
  rw [e, beq_self_eq_true]
  exact cls_ref i ty s
theorem kit_refT {K : PySem.W.Frag} {t : Value} {c : Addr} (i : PySem.W.isClsIn K c = true) (ty : PySem.W.typeIn K (.ref c) = some (.type "type")) (s : PySem.W.subIn K t (.ref c) = some true) : PySem.W.kitOne K t (.ref c) = some true := by
  unfold PySem.W.kitOne
  split
  · rfl
  · exact cls_ref i ty s
theorem kit_refF {K : PySem.W.Frag} {n c : Addr} (i : PySem.W.isClsIn K c = true) (ty : PySem.W.typeIn K (.ref c) = some (.type "type")) (s0 : PySem.W.subIn K (.ref n) (.ref n) = some true) (s : PySem.W.subIn K (.ref n) (.ref c) = some false) : PySem.W.kitOne K (.ref n) (.ref c) = some false := by
  unfold PySem.W.kitOne
  split
  · rename_i h
    have e : (Value.ref n) = .ref c := eq_of_beq h
    cases e
    rw [s0] at s
    cases s
  · exact cls_ref i ty s
theorem kit_self {K : PySem.W.Frag} {c : Addr} : PySem.W.kitOne K (.ref c) (.ref c) = some true := by
  unfold PySem.W.kitOne
  rw [beq_self_eq_true]
  rfl
theorem kit_typeT {K : PySem.W.Frag} {n : Addr} {T : String} (m : PySem.W.kitMeta T = true) (s : PySem.W.subIn K (.ref n) (.type T) = some true) : PySem.W.kitOne K (.ref n) (.type T) = some true := by
  unfold PySem.W.kitOne
  split
  · rfl
  · show (if PySem.W.kitMeta T = true then PySem.W.subIn K (.ref n) (.type T) else none) = some true
    rw [if_pos m]
    exact s
theorem kit_tyF {K : PySem.W.Frag} {c : Addr} {T : String} (i : PySem.W.isClsIn K c = true) (ty : PySem.W.typeIn K (.ref c) = some (.type "type")) (s : PySem.W.notFirst K c (.type T) = true) : PySem.W.kitOne K (.type T) (.ref c) = some false := by
  have z : (Value.type T == Value.ref c) = false := rfl
  unfold PySem.W.notFirst at s
  rw [z, Bool.false_or] at s
  unfold PySem.W.kitOne
  rw [z]
  exact cls_ref i ty (eq_of_beq s)
theorem six {p : String → Prop} (h0 : p "list") (h1 : p "tuple") (h2 : p "NoneType") (h3 : p "int") (h4 : p "bool") (h5 : p "str") : ∀ t, t ∈ (["list", "tuple", "NoneType", "int", "bool", "str"] : List String) → p t := fun t ht => by
  simp only [List.mem_cons, List.not_mem_nil, or_false] at ht
  rcases ht with rfl | rfl | rfl | rfl | rfl | rfl <;> assumption
theorem all_mk {P : Program} {w : World} {K : PySem.W.Frag} {h : Heap} {mg : Str → Option Value} {fa c_RailsError c_BadSize c_NoBox c_BadWire c_BadBound c_NoWire c_NoWay c_Line f_wall f_BadSize_init f_NoBox_init f_BadWire_init f_BadBound_init f_NoWire_init f_NoWay_init f_Line_init f_Line_wires f_Line_bounds f_Line_wire f_Line_sources f_Line_targets f_check_box f_is_span f_spans_by_wire f_mosts_by_pair f_lag f_lag_way f_costs f_sums_to f_least_way f_is_int f_cell f_pen f_take f_size f_wires f_told f_plan_wires f_same f_mixed f_wide_hours f_ring_wires f_line f_ways f_ask_lag f_ask_way f_answers f_due f_law : Addr} {d_wall d_BadSize_init d_NoBox_init d_BadWire_init d_BadBound_init d_NoWire_init d_NoWay_init d_Line_init d_Line_wires d_Line_bounds d_Line_wire d_Line_sources d_Line_targets d_check_box d_is_span d_spans_by_wire d_mosts_by_pair d_lag d_lag_way d_costs d_sums_to d_least_way d_is_int d_cell d_pen d_take d_size d_wires d_told d_plan_wires d_same d_mixed d_wide_hours d_ring_wires d_line d_ways d_ask_lag d_ask_way d_answers d_due d_law : FuncData}
    {nm_BadSize q_BadSize : Str} {Nn_BadSize : Addr} {bs_BadSize bm_BadSize : List Value} {sn_BadSize : List Str} {sub_BadSize : List Value} {ab_BadSize : Bool} {col_BadSize : Option Bool} {dd_BadSize : Option Addr} {m0_BadSize m1_BadSize m2_BadSize m3_BadSize m5_BadSize : Option Value}
    {nm_NoBox q_NoBox : Str} {Nn_NoBox : Addr} {bs_NoBox bm_NoBox : List Value} {sn_NoBox : List Str} {sub_NoBox : List Value} {ab_NoBox : Bool} {col_NoBox : Option Bool} {dd_NoBox : Option Addr} {m0_NoBox m1_NoBox m2_NoBox m3_NoBox m5_NoBox : Option Value}
    {nm_BadWire q_BadWire : Str} {Nn_BadWire : Addr} {bs_BadWire bm_BadWire : List Value} {sn_BadWire : List Str} {sub_BadWire : List Value} {ab_BadWire : Bool} {col_BadWire : Option Bool} {dd_BadWire : Option Addr} {m0_BadWire m1_BadWire m2_BadWire m3_BadWire m5_BadWire : Option Value}
    {nm_BadBound q_BadBound : Str} {Nn_BadBound : Addr} {bs_BadBound bm_BadBound : List Value} {sn_BadBound : List Str} {sub_BadBound : List Value} {ab_BadBound : Bool} {col_BadBound : Option Bool} {dd_BadBound : Option Addr} {m0_BadBound m1_BadBound m2_BadBound m3_BadBound m5_BadBound : Option Value}
    {nm_NoWire q_NoWire : Str} {Nn_NoWire : Addr} {bs_NoWire bm_NoWire : List Value} {sn_NoWire : List Str} {sub_NoWire : List Value} {ab_NoWire : Bool} {col_NoWire : Option Bool} {dd_NoWire : Option Addr} {m0_NoWire m1_NoWire m2_NoWire m3_NoWire m5_NoWire : Option Value}
    {nm_NoWay q_NoWay : Str} {Nn_NoWay : Addr} {bs_NoWay bm_NoWay : List Value} {sn_NoWay : List Str} {sub_NoWay : List Value} {ab_NoWay : Bool} {col_NoWay : Option Bool} {dd_NoWay : Option Addr} {m0_NoWay m1_NoWay m2_NoWay m3_NoWay m5_NoWay : Option Value}
    (X : K.In h) (G : h.Ns mainGlobals mg) (hfa : mg "law" = some (.ref fa))
    (GRailsError : PySem.W.nsIn K mainGlobals "RailsError" = some (some (.ref c_RailsError)))
    (GBadSize : PySem.W.nsIn K mainGlobals "BadSize" = some (some (.ref c_BadSize)))
    (GNoBox : PySem.W.nsIn K mainGlobals "NoBox" = some (some (.ref c_NoBox)))
    (GBadWire : PySem.W.nsIn K mainGlobals "BadWire" = some (some (.ref c_BadWire)))
    (GBadBound : PySem.W.nsIn K mainGlobals "BadBound" = some (some (.ref c_BadBound)))
    (GNoWire : PySem.W.nsIn K mainGlobals "NoWire" = some (some (.ref c_NoWire)))
    (GNoWay : PySem.W.nsIn K mainGlobals "NoWay" = some (some (.ref c_NoWay)))
    (GLine : PySem.W.nsIn K mainGlobals "Line" = some (some (.ref c_Line)))
    (a_wall : PySem.W.nsIn K mainGlobals "_wall" = some (some (.ref f_wall)))
    (F_wall : Fun K "_wall" "_wall" s_wall f_wall d_wall)
    (a_BadSize_init : PySem.W.findIn K (.ref c_BadSize) "__init__" = some (some (.ref f_BadSize_init)))
    (F_BadSize_init : Fun K "__init__" "BadSize.__init__" s_BadSize_init f_BadSize_init d_BadSize_init)
    (a_NoBox_init : PySem.W.findIn K (.ref c_NoBox) "__init__" = some (some (.ref f_NoBox_init)))
    (F_NoBox_init : Fun K "__init__" "NoBox.__init__" s_NoBox_init f_NoBox_init d_NoBox_init)
    (a_BadWire_init : PySem.W.findIn K (.ref c_BadWire) "__init__" = some (some (.ref f_BadWire_init)))
    (F_BadWire_init : Fun K "__init__" "BadWire.__init__" s_BadWire_init f_BadWire_init d_BadWire_init)
    (a_BadBound_init : PySem.W.findIn K (.ref c_BadBound) "__init__" = some (some (.ref f_BadBound_init)))
    (F_BadBound_init : Fun K "__init__" "BadBound.__init__" s_BadBound_init f_BadBound_init d_BadBound_init)
    (a_NoWire_init : PySem.W.findIn K (.ref c_NoWire) "__init__" = some (some (.ref f_NoWire_init)))
    (F_NoWire_init : Fun K "__init__" "NoWire.__init__" s_NoWire_init f_NoWire_init d_NoWire_init)
    (a_NoWay_init : PySem.W.findIn K (.ref c_NoWay) "__init__" = some (some (.ref f_NoWay_init)))
    (F_NoWay_init : Fun K "__init__" "NoWay.__init__" s_NoWay_init f_NoWay_init d_NoWay_init)
    (a_Line_init : PySem.W.findIn K (.ref c_Line) "__init__" = some (some (.ref f_Line_init)))
    (F_Line_init : Fun K "__init__" "Line.__init__" s_Line_init f_Line_init d_Line_init)
    (a_Line_wires : PySem.W.findIn K (.ref c_Line) "wires" = some (some (.ref f_Line_wires)))
    (F_Line_wires : Fun K "wires" "Line.wires" s_Line_wires f_Line_wires d_Line_wires)
    (a_Line_bounds : PySem.W.findIn K (.ref c_Line) "bounds" = some (some (.ref f_Line_bounds)))
    (F_Line_bounds : Fun K "bounds" "Line.bounds" s_Line_bounds f_Line_bounds d_Line_bounds)
    (a_Line_wire : PySem.W.findIn K (.ref c_Line) "wire" = some (some (.ref f_Line_wire)))
    (F_Line_wire : Fun K "wire" "Line.wire" s_Line_wire f_Line_wire d_Line_wire)
    (a_Line_sources : PySem.W.findIn K (.ref c_Line) "sources" = some (some (.ref f_Line_sources)))
    (F_Line_sources : Fun K "sources" "Line.sources" s_Line_sources f_Line_sources d_Line_sources)
    (a_Line_targets : PySem.W.findIn K (.ref c_Line) "targets" = some (some (.ref f_Line_targets)))
    (F_Line_targets : Fun K "targets" "Line.targets" s_Line_targets f_Line_targets d_Line_targets)
    (a_check_box : PySem.W.nsIn K mainGlobals "check_box" = some (some (.ref f_check_box)))
    (F_check_box : Fun K "check_box" "check_box" s_check_box f_check_box d_check_box)
    (a_is_span : PySem.W.nsIn K mainGlobals "is_span" = some (some (.ref f_is_span)))
    (F_is_span : Fun K "is_span" "is_span" s_is_span f_is_span d_is_span)
    (a_spans_by_wire : PySem.W.nsIn K mainGlobals "_spans_by_wire" = some (some (.ref f_spans_by_wire)))
    (F_spans_by_wire : Fun K "_spans_by_wire" "_spans_by_wire" s_spans_by_wire f_spans_by_wire d_spans_by_wire)
    (a_mosts_by_pair : PySem.W.nsIn K mainGlobals "_mosts_by_pair" = some (some (.ref f_mosts_by_pair)))
    (F_mosts_by_pair : Fun K "_mosts_by_pair" "_mosts_by_pair" s_mosts_by_pair f_mosts_by_pair d_mosts_by_pair)
    (a_lag : PySem.W.nsIn K mainGlobals "lag" = some (some (.ref f_lag)))
    (F_lag : Fun K "lag" "lag" s_lag f_lag d_lag)
    (a_lag_way : PySem.W.nsIn K mainGlobals "lag_way" = some (some (.ref f_lag_way)))
    (F_lag_way : Fun K "lag_way" "lag_way" s_lag_way f_lag_way d_lag_way)
    (a_costs : PySem.W.nsIn K mainGlobals "_costs" = some (some (.ref f_costs)))
    (F_costs : Fun K "_costs" "_costs" s_costs f_costs d_costs)
    (a_sums_to : PySem.W.nsIn K mainGlobals "_sums_to" = some (some (.ref f_sums_to)))
    (F_sums_to : Fun K "_sums_to" "_sums_to" s_sums_to f_sums_to d_sums_to)
    (a_least_way : PySem.W.nsIn K mainGlobals "_least_way" = some (some (.ref f_least_way)))
    (F_least_way : Fun K "_least_way" "_least_way" s_least_way f_least_way d_least_way)
    (a_is_int : PySem.W.nsIn K mainGlobals "_law_is_int" = some (some (.ref f_is_int)))
    (F_is_int : Fun K "_law_is_int" "_law_is_int" s_is_int f_is_int d_is_int)
    (a_cell : PySem.W.nsIn K mainGlobals "_law_cell" = some (some (.ref f_cell)))
    (F_cell : Fun K "_law_cell" "_law_cell" s_cell f_cell d_cell)
    (a_pen : PySem.W.nsIn K mainGlobals "_law_pen" = some (some (.ref f_pen)))
    (F_pen : Fun K "_law_pen" "_law_pen" s_pen f_pen d_pen)
    (a_take : PySem.W.nsIn K mainGlobals "_law_take" = some (some (.ref f_take)))
    (F_take : Fun K "_law_take" "_law_take" s_take f_take d_take)
    (a_size : PySem.W.nsIn K mainGlobals "_law_size" = some (some (.ref f_size)))
    (F_size : Fun K "_law_size" "_law_size" s_size f_size d_size)
    (a_wires : PySem.W.nsIn K mainGlobals "_law_wires" = some (some (.ref f_wires)))
    (F_wires : Fun K "_law_wires" "_law_wires" s_wires f_wires d_wires)
    (a_told : PySem.W.nsIn K mainGlobals "_law_told" = some (some (.ref f_told)))
    (F_told : Fun K "_law_told" "_law_told" s_told f_told d_told)
    (a_plan_wires : PySem.W.nsIn K mainGlobals "_law_plan_wires" = some (some (.ref f_plan_wires)))
    (F_plan_wires : Fun K "_law_plan_wires" "_law_plan_wires" s_plan_wires f_plan_wires d_plan_wires)
    (a_same : PySem.W.nsIn K mainGlobals "_law_same" = some (some (.ref f_same)))
    (F_same : Fun K "_law_same" "_law_same" s_same f_same d_same)
    (a_mixed : PySem.W.nsIn K mainGlobals "_law_mixed" = some (some (.ref f_mixed)))
    (F_mixed : Fun K "_law_mixed" "_law_mixed" s_mixed f_mixed d_mixed)
    (a_wide_hours : PySem.W.nsIn K mainGlobals "_law_wide_hours" = some (some (.ref f_wide_hours)))
    (F_wide_hours : Fun K "_law_wide_hours" "_law_wide_hours" s_wide_hours f_wide_hours d_wide_hours)
    (a_ring_wires : PySem.W.nsIn K mainGlobals "_law_ring_wires" = some (some (.ref f_ring_wires)))
    (F_ring_wires : Fun K "_law_ring_wires" "_law_ring_wires" s_ring_wires f_ring_wires d_ring_wires)
    (a_line : PySem.W.nsIn K mainGlobals "_law_line" = some (some (.ref f_line)))
    (F_line : Fun K "_law_line" "_law_line" s_line f_line d_line)
    (a_ways : PySem.W.nsIn K mainGlobals "_law_ways" = some (some (.ref f_ways)))
    (F_ways : Fun K "_law_ways" "_law_ways" s_ways f_ways d_ways)
    (a_ask_lag : PySem.W.nsIn K mainGlobals "_law_ask_lag" = some (some (.ref f_ask_lag)))
    (F_ask_lag : Fun K "_law_ask_lag" "_law_ask_lag" s_ask_lag f_ask_lag d_ask_lag)
    (a_ask_way : PySem.W.nsIn K mainGlobals "_law_ask_way" = some (some (.ref f_ask_way)))
    (F_ask_way : Fun K "_law_ask_way" "_law_ask_way" s_ask_way f_ask_way d_ask_way)
    (a_answers : PySem.W.nsIn K mainGlobals "_law_answers" = some (some (.ref f_answers)))
    (F_answers : Fun K "_law_answers" "_law_answers" s_answers f_answers d_answers)
    (a_due : PySem.W.nsIn K mainGlobals "_law_due" = some (some (.ref f_due)))
    (F_due : Fun K "_law_due" "_law_due" s_due f_due d_due)
    (a_law : PySem.W.nsIn K mainGlobals "law" = some (some (.ref f_law)))
    (F_law : Fun K "law" "law" s_law f_law d_law)
    (z_ValueError : PySem.W.nsIn K mainGlobals "ValueError" = some none)
    (z_abs : PySem.W.nsIn K mainGlobals "abs" = some none)
    (z_bool : PySem.W.nsIn K mainGlobals "bool" = some none)
    (z_int : PySem.W.nsIn K mainGlobals "int" = some none)
    (z_isinstance : PySem.W.nsIn K mainGlobals "isinstance" = some none)
    (z_len : PySem.W.nsIn K mainGlobals "len" = some none)
    (z_list : PySem.W.nsIn K mainGlobals "list" = some none)
    (z_min : PySem.W.nsIn K mainGlobals "min" = some none)
    (z_range : PySem.W.nsIn K mainGlobals "range" = some none)
    (z_repr : PySem.W.nsIn K mainGlobals "repr" = some none)
    (z_sorted : PySem.W.nsIn K mainGlobals "sorted" = some none)
    (z_str : PySem.W.nsIn K mainGlobals "str" = some none)
    (z_tuple : PySem.W.nsIn K mainGlobals "tuple" = some none)
    (ic_RailsError : PySem.W.isClsIn K c_RailsError = true)
    (xty_RailsError : PySem.W.typeIn K (.ref c_RailsError) = some (.type "type"))
    (xex_RailsError : PySem.W.subIn K (.ref c_RailsError) (.type "BaseException") = some true)
    (ic_BadSize : PySem.W.isClsIn K c_BadSize = true)
    (xty_BadSize : PySem.W.typeIn K (.ref c_BadSize) = some (.type "type"))
    (xex_BadSize : PySem.W.subIn K (.ref c_BadSize) (.type "BaseException") = some true)
    (ic_NoBox : PySem.W.isClsIn K c_NoBox = true)
    (xty_NoBox : PySem.W.typeIn K (.ref c_NoBox) = some (.type "type"))
    (xex_NoBox : PySem.W.subIn K (.ref c_NoBox) (.type "BaseException") = some true)
    (ic_BadWire : PySem.W.isClsIn K c_BadWire = true)
    (xty_BadWire : PySem.W.typeIn K (.ref c_BadWire) = some (.type "type"))
    (xex_BadWire : PySem.W.subIn K (.ref c_BadWire) (.type "BaseException") = some true)
    (ic_BadBound : PySem.W.isClsIn K c_BadBound = true)
    (xty_BadBound : PySem.W.typeIn K (.ref c_BadBound) = some (.type "type"))
    (xex_BadBound : PySem.W.subIn K (.ref c_BadBound) (.type "BaseException") = some true)
    (ic_NoWire : PySem.W.isClsIn K c_NoWire = true)
    (xty_NoWire : PySem.W.typeIn K (.ref c_NoWire) = some (.type "type"))
    (xex_NoWire : PySem.W.subIn K (.ref c_NoWire) (.type "BaseException") = some true)
    (ic_NoWay : PySem.W.isClsIn K c_NoWay = true)
    (xty_NoWay : PySem.W.typeIn K (.ref c_NoWay) = some (.type "type"))
    (xex_NoWay : PySem.W.subIn K (.ref c_NoWay) (.type "BaseException") = some true)
    (xL_BadSize : K.lookup c_BadSize = some (excClassObj nm_BadSize q_BadSize c_BadSize Nn_BadSize bs_BadSize bm_BadSize true sn_BadSize sub_BadSize ab_BadSize col_BadSize dd_BadSize m0_BadSize m1_BadSize m2_BadSize m3_BadSize m5_BadSize "ValueError.__new__"))
    (xB_BadSize : PySem.HandSPX.refsVE bm_BadSize = true)
    (xsa_BadSize : PySem.W.findIn K (.ref c_BadSize) "__setattr__" = some (some (.builtin "object.__setattr__")))
    (xk_BadSize : PySem.W.keepIn K (.ref c_BadSize) = true)
    (tI_BadSize : PySem.W.typeIn K (.ref f_BadSize_init) = some (.type "function"))
    (nb_BadSize_size : PySem.W.findIn K (.ref c_BadSize) "size" = some none)
    (xga_BadSize : PySem.W.findIn K (.ref c_BadSize) "__getattribute__" = some (some (.builtin "BaseException.__getattribute__")))
    (xgg_BadSize : PySem.W.findIn K (.ref c_BadSize) "__getattr__" = some none)
    (xhd_BadSize : PySem.W.hasDictIn K c_BadSize = true)
    (xca_BadSize : PySem.W.findIn K (.ref c_BadSize) "__class__" = some (some (.builtin "object.__class__")))
    (xhm_BadSize : PySem.W.mroIn K c_BadSize (.type "object") = some true)
    (xhn : PySem.W.specialIn K (.builtin "object.__class__") "__get__" = some (some (.builtin "getset_descriptor.__get__")))
    (xht : PySem.W.takesIn K (.builtin "object.__class__") = some true)
    (sub_BadSize_BadSize : PySem.W.subIn K (.ref c_BadSize) (.ref c_BadSize) = some true)
    (sub_BadSize_VE : PySem.W.subIn K (.ref c_BadSize) (.type "ValueError") = some true)
    (sub_BadSize_RailsError : PySem.W.subIn K (.ref c_BadSize) (.ref c_RailsError) = some true)
    (sub_BadSize_NoBox : PySem.W.subIn K (.ref c_BadSize) (.ref c_NoBox) = some false)
    (sub_BadSize_BadWire : PySem.W.subIn K (.ref c_BadSize) (.ref c_BadWire) = some false)
    (sub_BadSize_BadBound : PySem.W.subIn K (.ref c_BadSize) (.ref c_BadBound) = some false)
    (sub_BadSize_NoWire : PySem.W.subIn K (.ref c_BadSize) (.ref c_NoWire) = some false)
    (sub_BadSize_NoWay : PySem.W.subIn K (.ref c_BadSize) (.ref c_NoWay) = some false)
    (xL_NoBox : K.lookup c_NoBox = some (excClassObj nm_NoBox q_NoBox c_NoBox Nn_NoBox bs_NoBox bm_NoBox true sn_NoBox sub_NoBox ab_NoBox col_NoBox dd_NoBox m0_NoBox m1_NoBox m2_NoBox m3_NoBox m5_NoBox "ValueError.__new__"))
    (xB_NoBox : PySem.HandSPX.refsVE bm_NoBox = true)
    (xsa_NoBox : PySem.W.findIn K (.ref c_NoBox) "__setattr__" = some (some (.builtin "object.__setattr__")))
    (xk_NoBox : PySem.W.keepIn K (.ref c_NoBox) = true)
    (tI_NoBox : PySem.W.typeIn K (.ref f_NoBox_init) = some (.type "function"))
    (nb_NoBox_box : PySem.W.findIn K (.ref c_NoBox) "box" = some none)
    (xga_NoBox : PySem.W.findIn K (.ref c_NoBox) "__getattribute__" = some (some (.builtin "BaseException.__getattribute__")))
    (xgg_NoBox : PySem.W.findIn K (.ref c_NoBox) "__getattr__" = some none)
    (xhd_NoBox : PySem.W.hasDictIn K c_NoBox = true)
    (xca_NoBox : PySem.W.findIn K (.ref c_NoBox) "__class__" = some (some (.builtin "object.__class__")))
    (xhm_NoBox : PySem.W.mroIn K c_NoBox (.type "object") = some true)
    (sub_NoBox_NoBox : PySem.W.subIn K (.ref c_NoBox) (.ref c_NoBox) = some true)
    (sub_NoBox_VE : PySem.W.subIn K (.ref c_NoBox) (.type "ValueError") = some true)
    (sub_NoBox_RailsError : PySem.W.subIn K (.ref c_NoBox) (.ref c_RailsError) = some true)
    (sub_NoBox_BadSize : PySem.W.subIn K (.ref c_NoBox) (.ref c_BadSize) = some false)
    (sub_NoBox_BadWire : PySem.W.subIn K (.ref c_NoBox) (.ref c_BadWire) = some false)
    (sub_NoBox_BadBound : PySem.W.subIn K (.ref c_NoBox) (.ref c_BadBound) = some false)
    (sub_NoBox_NoWire : PySem.W.subIn K (.ref c_NoBox) (.ref c_NoWire) = some false)
    (sub_NoBox_NoWay : PySem.W.subIn K (.ref c_NoBox) (.ref c_NoWay) = some false)
    (xL_BadWire : K.lookup c_BadWire = some (excClassObj nm_BadWire q_BadWire c_BadWire Nn_BadWire bs_BadWire bm_BadWire true sn_BadWire sub_BadWire ab_BadWire col_BadWire dd_BadWire m0_BadWire m1_BadWire m2_BadWire m3_BadWire m5_BadWire "ValueError.__new__"))
    (xB_BadWire : PySem.HandSPX.refsVE bm_BadWire = true)
    (xsa_BadWire : PySem.W.findIn K (.ref c_BadWire) "__setattr__" = some (some (.builtin "object.__setattr__")))
    (xk_BadWire : PySem.W.keepIn K (.ref c_BadWire) = true)
    (tI_BadWire : PySem.W.typeIn K (.ref f_BadWire_init) = some (.type "function"))
    (nb_BadWire_source : PySem.W.findIn K (.ref c_BadWire) "source" = some none)
    (nb_BadWire_target : PySem.W.findIn K (.ref c_BadWire) "target" = some none)
    (xga_BadWire : PySem.W.findIn K (.ref c_BadWire) "__getattribute__" = some (some (.builtin "BaseException.__getattribute__")))
    (xgg_BadWire : PySem.W.findIn K (.ref c_BadWire) "__getattr__" = some none)
    (xhd_BadWire : PySem.W.hasDictIn K c_BadWire = true)
    (xca_BadWire : PySem.W.findIn K (.ref c_BadWire) "__class__" = some (some (.builtin "object.__class__")))
    (xhm_BadWire : PySem.W.mroIn K c_BadWire (.type "object") = some true)
    (sub_BadWire_BadWire : PySem.W.subIn K (.ref c_BadWire) (.ref c_BadWire) = some true)
    (sub_BadWire_VE : PySem.W.subIn K (.ref c_BadWire) (.type "ValueError") = some true)
    (sub_BadWire_RailsError : PySem.W.subIn K (.ref c_BadWire) (.ref c_RailsError) = some true)
    (sub_BadWire_BadSize : PySem.W.subIn K (.ref c_BadWire) (.ref c_BadSize) = some false)
    (sub_BadWire_NoBox : PySem.W.subIn K (.ref c_BadWire) (.ref c_NoBox) = some false)
    (sub_BadWire_BadBound : PySem.W.subIn K (.ref c_BadWire) (.ref c_BadBound) = some false)
    (sub_BadWire_NoWire : PySem.W.subIn K (.ref c_BadWire) (.ref c_NoWire) = some false)
    (sub_BadWire_NoWay : PySem.W.subIn K (.ref c_BadWire) (.ref c_NoWay) = some false)
    (xL_BadBound : K.lookup c_BadBound = some (excClassObj nm_BadBound q_BadBound c_BadBound Nn_BadBound bs_BadBound bm_BadBound true sn_BadBound sub_BadBound ab_BadBound col_BadBound dd_BadBound m0_BadBound m1_BadBound m2_BadBound m3_BadBound m5_BadBound "ValueError.__new__"))
    (xB_BadBound : PySem.HandSPX.refsVE bm_BadBound = true)
    (xsa_BadBound : PySem.W.findIn K (.ref c_BadBound) "__setattr__" = some (some (.builtin "object.__setattr__")))
    (xk_BadBound : PySem.W.keepIn K (.ref c_BadBound) = true)
    (tI_BadBound : PySem.W.typeIn K (.ref f_BadBound_init) = some (.type "function"))
    (nb_BadBound_later : PySem.W.findIn K (.ref c_BadBound) "later" = some none)
    (nb_BadBound_earlier : PySem.W.findIn K (.ref c_BadBound) "earlier" = some none)
    (xga_BadBound : PySem.W.findIn K (.ref c_BadBound) "__getattribute__" = some (some (.builtin "BaseException.__getattribute__")))
    (xgg_BadBound : PySem.W.findIn K (.ref c_BadBound) "__getattr__" = some none)
    (xhd_BadBound : PySem.W.hasDictIn K c_BadBound = true)
    (xca_BadBound : PySem.W.findIn K (.ref c_BadBound) "__class__" = some (some (.builtin "object.__class__")))
    (xhm_BadBound : PySem.W.mroIn K c_BadBound (.type "object") = some true)
    (sub_BadBound_BadBound : PySem.W.subIn K (.ref c_BadBound) (.ref c_BadBound) = some true)
    (sub_BadBound_VE : PySem.W.subIn K (.ref c_BadBound) (.type "ValueError") = some true)
    (sub_BadBound_RailsError : PySem.W.subIn K (.ref c_BadBound) (.ref c_RailsError) = some true)
    (sub_BadBound_BadSize : PySem.W.subIn K (.ref c_BadBound) (.ref c_BadSize) = some false)
    (sub_BadBound_NoBox : PySem.W.subIn K (.ref c_BadBound) (.ref c_NoBox) = some false)
    (sub_BadBound_BadWire : PySem.W.subIn K (.ref c_BadBound) (.ref c_BadWire) = some false)
    (sub_BadBound_NoWire : PySem.W.subIn K (.ref c_BadBound) (.ref c_NoWire) = some false)
    (sub_BadBound_NoWay : PySem.W.subIn K (.ref c_BadBound) (.ref c_NoWay) = some false)
    (xL_NoWire : K.lookup c_NoWire = some (excClassObj nm_NoWire q_NoWire c_NoWire Nn_NoWire bs_NoWire bm_NoWire true sn_NoWire sub_NoWire ab_NoWire col_NoWire dd_NoWire m0_NoWire m1_NoWire m2_NoWire m3_NoWire m5_NoWire "ValueError.__new__"))
    (xB_NoWire : PySem.HandSPX.refsVE bm_NoWire = true)
    (xsa_NoWire : PySem.W.findIn K (.ref c_NoWire) "__setattr__" = some (some (.builtin "object.__setattr__")))
    (xk_NoWire : PySem.W.keepIn K (.ref c_NoWire) = true)
    (tI_NoWire : PySem.W.typeIn K (.ref f_NoWire_init) = some (.type "function"))
    (nb_NoWire_source : PySem.W.findIn K (.ref c_NoWire) "source" = some none)
    (nb_NoWire_target : PySem.W.findIn K (.ref c_NoWire) "target" = some none)
    (xga_NoWire : PySem.W.findIn K (.ref c_NoWire) "__getattribute__" = some (some (.builtin "BaseException.__getattribute__")))
    (xgg_NoWire : PySem.W.findIn K (.ref c_NoWire) "__getattr__" = some none)
    (xhd_NoWire : PySem.W.hasDictIn K c_NoWire = true)
    (xca_NoWire : PySem.W.findIn K (.ref c_NoWire) "__class__" = some (some (.builtin "object.__class__")))
    (xhm_NoWire : PySem.W.mroIn K c_NoWire (.type "object") = some true)
    (sub_NoWire_NoWire : PySem.W.subIn K (.ref c_NoWire) (.ref c_NoWire) = some true)
    (sub_NoWire_VE : PySem.W.subIn K (.ref c_NoWire) (.type "ValueError") = some true)
    (sub_NoWire_RailsError : PySem.W.subIn K (.ref c_NoWire) (.ref c_RailsError) = some true)
    (sub_NoWire_BadSize : PySem.W.subIn K (.ref c_NoWire) (.ref c_BadSize) = some false)
    (sub_NoWire_NoBox : PySem.W.subIn K (.ref c_NoWire) (.ref c_NoBox) = some false)
    (sub_NoWire_BadWire : PySem.W.subIn K (.ref c_NoWire) (.ref c_BadWire) = some false)
    (sub_NoWire_BadBound : PySem.W.subIn K (.ref c_NoWire) (.ref c_BadBound) = some false)
    (sub_NoWire_NoWay : PySem.W.subIn K (.ref c_NoWire) (.ref c_NoWay) = some false)
    (xL_NoWay : K.lookup c_NoWay = some (excClassObj nm_NoWay q_NoWay c_NoWay Nn_NoWay bs_NoWay bm_NoWay true sn_NoWay sub_NoWay ab_NoWay col_NoWay dd_NoWay m0_NoWay m1_NoWay m2_NoWay m3_NoWay m5_NoWay "ValueError.__new__"))
    (xB_NoWay : PySem.HandSPX.refsVE bm_NoWay = true)
    (xsa_NoWay : PySem.W.findIn K (.ref c_NoWay) "__setattr__" = some (some (.builtin "object.__setattr__")))
    (xk_NoWay : PySem.W.keepIn K (.ref c_NoWay) = true)
    (tI_NoWay : PySem.W.typeIn K (.ref f_NoWay_init) = some (.type "function"))
    (nb_NoWay_source : PySem.W.findIn K (.ref c_NoWay) "source" = some none)
    (nb_NoWay_target : PySem.W.findIn K (.ref c_NoWay) "target" = some none)
    (xga_NoWay : PySem.W.findIn K (.ref c_NoWay) "__getattribute__" = some (some (.builtin "BaseException.__getattribute__")))
    (xgg_NoWay : PySem.W.findIn K (.ref c_NoWay) "__getattr__" = some none)
    (xhd_NoWay : PySem.W.hasDictIn K c_NoWay = true)
    (xca_NoWay : PySem.W.findIn K (.ref c_NoWay) "__class__" = some (some (.builtin "object.__class__")))
    (xhm_NoWay : PySem.W.mroIn K c_NoWay (.type "object") = some true)
    (sub_NoWay_NoWay : PySem.W.subIn K (.ref c_NoWay) (.ref c_NoWay) = some true)
    (sub_NoWay_VE : PySem.W.subIn K (.ref c_NoWay) (.type "ValueError") = some true)
    (sub_NoWay_RailsError : PySem.W.subIn K (.ref c_NoWay) (.ref c_RailsError) = some true)
    (sub_NoWay_BadSize : PySem.W.subIn K (.ref c_NoWay) (.ref c_BadSize) = some false)
    (sub_NoWay_NoBox : PySem.W.subIn K (.ref c_NoWay) (.ref c_NoBox) = some false)
    (sub_NoWay_BadWire : PySem.W.subIn K (.ref c_NoWay) (.ref c_BadWire) = some false)
    (sub_NoWay_BadBound : PySem.W.subIn K (.ref c_NoWay) (.ref c_BadBound) = some false)
    (sub_NoWay_NoWire : PySem.W.subIn K (.ref c_NoWay) (.ref c_NoWire) = some false)
    (pg_Line : PySem.W.plainGet K c_Line Str.empty = true)
    (hd_Line : PySem.W.hasDictIn K c_Line = true)
    (po_Line : PySem.W.plainOver K c_Line = true)
    (sa_Line : PySem.W.findIn K (.ref c_Line) "__setattr__" = some (some (.builtin "object.__setattr__")))
    (mk_Line : PySem.W.makesIn K c_Line = true)
    (kC_Line : PySem.W.keepIn K (.ref c_Line) = true)
    (na_Line_size : PySem.W.findIn K (.ref c_Line) "size" = some none)
    (na_Line__spans : PySem.W.findIn K (.ref c_Line) "_spans" = some none)
    (na_Line__mosts : PySem.W.findIn K (.ref c_Line) "_mosts" = some none)
    (i_Line_init : PySem.W.isFn K (.ref f_Line_init) = true)
    (i_Line_wires : PySem.W.isFn K (.ref f_Line_wires) = true)
    (i_Line_bounds : PySem.W.isFn K (.ref f_Line_bounds) = true)
    (i_Line_wire : PySem.W.isFn K (.ref f_Line_wire) = true)
    (i_Line_sources : PySem.W.isFn K (.ref f_Line_sources) = true)
    (i_Line_targets : PySem.W.isFn K (.ref f_Line_targets) = true)
    (D_lag : FunD K "lag" "lag" (defArgs s_lag) (defBody s_lag) (defScope s_lag) [] [("late", .bl false)] f_lag d_lag)
    (D_lag_way : FunD K "lag_way" "lag_way" (defArgs s_lag_way) (defBody s_lag_way) (defScope s_lag_way) [] [("late", .bl false)] f_lag_way d_lag_way)
    : ∃ fd : FuncData, (∀ (s : Shared) (v : Value), BindsTo s fd ⟨[v], []⟩ [("_law_script", v)]) ∧ ∀ base : Heap, K.In base → base.Ns mainGlobals mg → FnA P w K mg base CX0 8 fa fd ["_law_script"] (spLaw K) := by
  have e := hfa.symm.trans (PySem.W.mg_of X G a_law)
  cases e
  have T : Txt K mg ⟨c_RailsError, c_BadSize, c_NoBox, c_BadWire, c_BadBound, c_NoWire, c_NoWay, c_Line, f_wall, f_BadSize_init, f_NoBox_init, f_BadWire_init, f_BadBound_init, f_NoWire_init, f_NoWay_init, f_Line_init, f_Line_wires, f_Line_bounds, f_Line_wire, f_Line_sources, f_Line_targets, f_check_box, f_is_span, f_spans_by_wire, f_mosts_by_pair, f_lag, f_lag_way, f_costs, f_sums_to, f_least_way, f_is_int, f_cell, f_pen, f_take, f_size, f_wires, f_told, f_plan_wires, f_same, f_mixed, f_wide_hours, f_ring_wires, f_line, f_ways, f_ask_lag, f_ask_way, f_answers, f_due, fa, d_wall, d_BadSize_init, d_NoBox_init, d_BadWire_init, d_BadBound_init, d_NoWire_init, d_NoWay_init, d_Line_init, d_Line_wires, d_Line_bounds, d_Line_wire, d_Line_sources, d_Line_targets, d_check_box, d_is_span, d_spans_by_wire, d_mosts_by_pair, d_lag, d_lag_way, d_costs, d_sums_to, d_least_way, d_is_int, d_cell, d_pen, d_take, d_size, d_wires, d_told, d_plan_wires, d_same, d_mixed, d_wide_hours, d_ring_wires, d_line, d_ways, d_ask_lag, d_ask_way, d_answers, d_due, d_law⟩ :=
    { F_wall := F_wall,
      g_wall := PySem.W.mg_of X G a_wall,
      F_BadSize_init := F_BadSize_init,
      F_NoBox_init := F_NoBox_init,
      F_BadWire_init := F_BadWire_init,
      F_BadBound_init := F_BadBound_init,
      F_NoWire_init := F_NoWire_init,
      F_NoWay_init := F_NoWay_init,
      F_Line_init := F_Line_init,
      F_Line_wires := F_Line_wires,
      F_Line_bounds := F_Line_bounds,
      F_Line_wire := F_Line_wire,
      F_Line_sources := F_Line_sources,
      F_Line_targets := F_Line_targets,
      F_check_box := F_check_box,
      g_check_box := PySem.W.mg_of X G a_check_box,
      F_is_span := F_is_span,
      g_is_span := PySem.W.mg_of X G a_is_span,
      F_spans_by_wire := F_spans_by_wire,
      g_spans_by_wire := PySem.W.mg_of X G a_spans_by_wire,
      F_mosts_by_pair := F_mosts_by_pair,
      g_mosts_by_pair := PySem.W.mg_of X G a_mosts_by_pair,
      F_lag := F_lag,
      g_lag := PySem.W.mg_of X G a_lag,
      F_lag_way := F_lag_way,
      g_lag_way := PySem.W.mg_of X G a_lag_way,
      F_costs := F_costs,
      g_costs := PySem.W.mg_of X G a_costs,
      F_sums_to := F_sums_to,
      g_sums_to := PySem.W.mg_of X G a_sums_to,
      F_least_way := F_least_way,
      g_least_way := PySem.W.mg_of X G a_least_way,
      F_is_int := F_is_int,
      g_is_int := PySem.W.mg_of X G a_is_int,
      F_cell := F_cell,
      g_cell := PySem.W.mg_of X G a_cell,
      F_pen := F_pen,
      g_pen := PySem.W.mg_of X G a_pen,
      F_take := F_take,
      g_take := PySem.W.mg_of X G a_take,
      F_size := F_size,
      g_size := PySem.W.mg_of X G a_size,
      F_wires := F_wires,
      g_wires := PySem.W.mg_of X G a_wires,
      F_told := F_told,
      g_told := PySem.W.mg_of X G a_told,
      F_plan_wires := F_plan_wires,
      g_plan_wires := PySem.W.mg_of X G a_plan_wires,
      F_same := F_same,
      g_same := PySem.W.mg_of X G a_same,
      F_mixed := F_mixed,
      g_mixed := PySem.W.mg_of X G a_mixed,
      F_wide_hours := F_wide_hours,
      g_wide_hours := PySem.W.mg_of X G a_wide_hours,
      F_ring_wires := F_ring_wires,
      g_ring_wires := PySem.W.mg_of X G a_ring_wires,
      F_line := F_line,
      g_line := PySem.W.mg_of X G a_line,
      F_ways := F_ways,
      g_ways := PySem.W.mg_of X G a_ways,
      F_ask_lag := F_ask_lag,
      g_ask_lag := PySem.W.mg_of X G a_ask_lag,
      F_ask_way := F_ask_way,
      g_ask_way := PySem.W.mg_of X G a_ask_way,
      F_answers := F_answers,
      g_answers := PySem.W.mg_of X G a_answers,
      F_due := F_due,
      g_due := PySem.W.mg_of X G a_due,
      F_law := F_law,
      g_law := PySem.W.mg_of X G a_law,
      g_RailsError := PySem.W.mg_of X G GRailsError,
      g_BadSize := PySem.W.mg_of X G GBadSize,
      g_NoBox := PySem.W.mg_of X G GNoBox,
      g_BadWire := PySem.W.mg_of X G GBadWire,
      g_BadBound := PySem.W.mg_of X G GBadBound,
      g_NoWire := PySem.W.mg_of X G GNoWire,
      g_NoWay := PySem.W.mg_of X G GNoWay,
      g_Line := PySem.W.mg_of X G GLine,
      n_ValueError := PySem.W.mg_none_of X G z_ValueError,
      n_abs := PySem.W.mg_none_of X G z_abs,
      n_bool := PySem.W.mg_none_of X G z_bool,
      n_int := PySem.W.mg_none_of X G z_int,
      n_isinstance := PySem.W.mg_none_of X G z_isinstance,
      n_len := PySem.W.mg_none_of X G z_len,
      n_list := PySem.W.mg_none_of X G z_list,
      n_min := PySem.W.mg_none_of X G z_min,
      n_range := PySem.W.mg_none_of X G z_range,
      n_repr := PySem.W.mg_none_of X G z_repr,
      n_sorted := PySem.W.mg_none_of X G z_sorted,
      n_str := PySem.W.mg_none_of X G z_str,
      n_tuple := PySem.W.mg_none_of X G z_tuple,
      oex_BadSize := ⟨⟨_, _, _, _, _, _, _, _, _, _, _, _, _, _, _, xL_BadSize, xB_BadSize⟩, xsa_BadSize, xex_BadSize, xty_BadSize, xk_BadSize⟩,
      ini_BadSize := a_BadSize_init,
      tI_BadSize := tI_BadSize,
      nb_BadSize_size := nb_BadSize_size,
      xd_BadSize := ⟨⟨xga_BadSize, xgg_BadSize, xex_BadSize, xhd_BadSize, xca_BadSize, xhn, xht, xhm_BadSize⟩, ic_BadSize⟩,
      xf_BadSize := ⟨xga_BadSize, xgg_BadSize, xex_BadSize, xhd_BadSize⟩,
      exm_BadSize_RailsError := exm_ref xex_RailsError ic_RailsError xty_RailsError sub_BadSize_RailsError,
      kit_BadSize_RailsError := kit_refT ic_RailsError xty_RailsError sub_BadSize_RailsError,
      exm_BadSize_BadSize := exm_ref xex_BadSize ic_BadSize xty_BadSize sub_BadSize_BadSize,
      kit_BadSize_BadSize := kit_refT ic_BadSize xty_BadSize sub_BadSize_BadSize,
      exm_BadSize_NoBox := exm_ref xex_NoBox ic_NoBox xty_NoBox sub_BadSize_NoBox,
      kit_BadSize_NoBox := kit_refF ic_NoBox xty_NoBox sub_BadSize_BadSize sub_BadSize_NoBox,
      exm_BadSize_BadWire := exm_ref xex_BadWire ic_BadWire xty_BadWire sub_BadSize_BadWire,
      kit_BadSize_BadWire := kit_refF ic_BadWire xty_BadWire sub_BadSize_BadSize sub_BadSize_BadWire,
      exm_BadSize_BadBound := exm_ref xex_BadBound ic_BadBound xty_BadBound sub_BadSize_BadBound,
      kit_BadSize_BadBound := kit_refF ic_BadBound xty_BadBound sub_BadSize_BadSize sub_BadSize_BadBound,
      exm_BadSize_NoWire := exm_ref xex_NoWire ic_NoWire xty_NoWire sub_BadSize_NoWire,
      kit_BadSize_NoWire := kit_refF ic_NoWire xty_NoWire sub_BadSize_BadSize sub_BadSize_NoWire,
      exm_BadSize_NoWay := exm_ref xex_NoWay ic_NoWay xty_NoWay sub_BadSize_NoWay,
      kit_BadSize_NoWay := kit_refF ic_NoWay xty_NoWay sub_BadSize_BadSize sub_BadSize_NoWay,
      kit_BadSize_VE := kit_typeT (by decide +kernel) sub_BadSize_VE,
      oex_NoBox := ⟨⟨_, _, _, _, _, _, _, _, _, _, _, _, _, _, _, xL_NoBox, xB_NoBox⟩, xsa_NoBox, xex_NoBox, xty_NoBox, xk_NoBox⟩,
      ini_NoBox := a_NoBox_init,
      tI_NoBox := tI_NoBox,
      nb_NoBox_box := nb_NoBox_box,
      xd_NoBox := ⟨⟨xga_NoBox, xgg_NoBox, xex_NoBox, xhd_NoBox, xca_NoBox, xhn, xht, xhm_NoBox⟩, ic_NoBox⟩,
      xf_NoBox := ⟨xga_NoBox, xgg_NoBox, xex_NoBox, xhd_NoBox⟩,
      exm_NoBox_RailsError := exm_ref xex_RailsError ic_RailsError xty_RailsError sub_NoBox_RailsError,
      kit_NoBox_RailsError := kit_refT ic_RailsError xty_RailsError sub_NoBox_RailsError,
      exm_NoBox_BadSize := exm_ref xex_BadSize ic_BadSize xty_BadSize sub_NoBox_BadSize,
      kit_NoBox_BadSize := kit_refF ic_BadSize xty_BadSize sub_NoBox_NoBox sub_NoBox_BadSize,
      exm_NoBox_NoBox := exm_ref xex_NoBox ic_NoBox xty_NoBox sub_NoBox_NoBox,
      kit_NoBox_NoBox := kit_refT ic_NoBox xty_NoBox sub_NoBox_NoBox,
      exm_NoBox_BadWire := exm_ref xex_BadWire ic_BadWire xty_BadWire sub_NoBox_BadWire,
      kit_NoBox_BadWire := kit_refF ic_BadWire xty_BadWire sub_NoBox_NoBox sub_NoBox_BadWire,
      exm_NoBox_BadBound := exm_ref xex_BadBound ic_BadBound xty_BadBound sub_NoBox_BadBound,
      kit_NoBox_BadBound := kit_refF ic_BadBound xty_BadBound sub_NoBox_NoBox sub_NoBox_BadBound,
      exm_NoBox_NoWire := exm_ref xex_NoWire ic_NoWire xty_NoWire sub_NoBox_NoWire,
      kit_NoBox_NoWire := kit_refF ic_NoWire xty_NoWire sub_NoBox_NoBox sub_NoBox_NoWire,
      exm_NoBox_NoWay := exm_ref xex_NoWay ic_NoWay xty_NoWay sub_NoBox_NoWay,
      kit_NoBox_NoWay := kit_refF ic_NoWay xty_NoWay sub_NoBox_NoBox sub_NoBox_NoWay,
      kit_NoBox_VE := kit_typeT (by decide +kernel) sub_NoBox_VE,
      oex_BadWire := ⟨⟨_, _, _, _, _, _, _, _, _, _, _, _, _, _, _, xL_BadWire, xB_BadWire⟩, xsa_BadWire, xex_BadWire, xty_BadWire, xk_BadWire⟩,
      ini_BadWire := a_BadWire_init,
      tI_BadWire := tI_BadWire,
      nb_BadWire_source := nb_BadWire_source,
      nb_BadWire_target := nb_BadWire_target,
      xd_BadWire := ⟨⟨xga_BadWire, xgg_BadWire, xex_BadWire, xhd_BadWire, xca_BadWire, xhn, xht, xhm_BadWire⟩, ic_BadWire⟩,
      xf_BadWire := ⟨xga_BadWire, xgg_BadWire, xex_BadWire, xhd_BadWire⟩,
      exm_BadWire_RailsError := exm_ref xex_RailsError ic_RailsError xty_RailsError sub_BadWire_RailsError,
      kit_BadWire_RailsError := kit_refT ic_RailsError xty_RailsError sub_BadWire_RailsError,
      exm_BadWire_BadSize := exm_ref xex_BadSize ic_BadSize xty_BadSize sub_BadWire_BadSize,
      kit_BadWire_BadSize := kit_refF ic_BadSize xty_BadSize sub_BadWire_BadWire sub_BadWire_BadSize,
      exm_BadWire_NoBox := exm_ref xex_NoBox ic_NoBox xty_NoBox sub_BadWire_NoBox,
      kit_BadWire_NoBox := kit_refF ic_NoBox xty_NoBox sub_BadWire_BadWire sub_BadWire_NoBox,
      exm_BadWire_BadWire := exm_ref xex_BadWire ic_BadWire xty_BadWire sub_BadWire_BadWire,
      kit_BadWire_BadWire := kit_refT ic_BadWire xty_BadWire sub_BadWire_BadWire,
      exm_BadWire_BadBound := exm_ref xex_BadBound ic_BadBound xty_BadBound sub_BadWire_BadBound,
      kit_BadWire_BadBound := kit_refF ic_BadBound xty_BadBound sub_BadWire_BadWire sub_BadWire_BadBound,
      exm_BadWire_NoWire := exm_ref xex_NoWire ic_NoWire xty_NoWire sub_BadWire_NoWire,
      kit_BadWire_NoWire := kit_refF ic_NoWire xty_NoWire sub_BadWire_BadWire sub_BadWire_NoWire,
      exm_BadWire_NoWay := exm_ref xex_NoWay ic_NoWay xty_NoWay sub_BadWire_NoWay,
      kit_BadWire_NoWay := kit_refF ic_NoWay xty_NoWay sub_BadWire_BadWire sub_BadWire_NoWay,
      kit_BadWire_VE := kit_typeT (by decide +kernel) sub_BadWire_VE,
      oex_BadBound := ⟨⟨_, _, _, _, _, _, _, _, _, _, _, _, _, _, _, xL_BadBound, xB_BadBound⟩, xsa_BadBound, xex_BadBound, xty_BadBound, xk_BadBound⟩,
      ini_BadBound := a_BadBound_init,
      tI_BadBound := tI_BadBound,
      nb_BadBound_later := nb_BadBound_later,
      nb_BadBound_earlier := nb_BadBound_earlier,
      xd_BadBound := ⟨⟨xga_BadBound, xgg_BadBound, xex_BadBound, xhd_BadBound, xca_BadBound, xhn, xht, xhm_BadBound⟩, ic_BadBound⟩,
      xf_BadBound := ⟨xga_BadBound, xgg_BadBound, xex_BadBound, xhd_BadBound⟩,
      exm_BadBound_RailsError := exm_ref xex_RailsError ic_RailsError xty_RailsError sub_BadBound_RailsError,
      kit_BadBound_RailsError := kit_refT ic_RailsError xty_RailsError sub_BadBound_RailsError,
      exm_BadBound_BadSize := exm_ref xex_BadSize ic_BadSize xty_BadSize sub_BadBound_BadSize,
      kit_BadBound_BadSize := kit_refF ic_BadSize xty_BadSize sub_BadBound_BadBound sub_BadBound_BadSize,
      exm_BadBound_NoBox := exm_ref xex_NoBox ic_NoBox xty_NoBox sub_BadBound_NoBox,
      kit_BadBound_NoBox := kit_refF ic_NoBox xty_NoBox sub_BadBound_BadBound sub_BadBound_NoBox,
      exm_BadBound_BadWire := exm_ref xex_BadWire ic_BadWire xty_BadWire sub_BadBound_BadWire,
      kit_BadBound_BadWire := kit_refF ic_BadWire xty_BadWire sub_BadBound_BadBound sub_BadBound_BadWire,
      exm_BadBound_BadBound := exm_ref xex_BadBound ic_BadBound xty_BadBound sub_BadBound_BadBound,
      kit_BadBound_BadBound := kit_refT ic_BadBound xty_BadBound sub_BadBound_BadBound,
      exm_BadBound_NoWire := exm_ref xex_NoWire ic_NoWire xty_NoWire sub_BadBound_NoWire,
      kit_BadBound_NoWire := kit_refF ic_NoWire xty_NoWire sub_BadBound_BadBound sub_BadBound_NoWire,
      exm_BadBound_NoWay := exm_ref xex_NoWay ic_NoWay xty_NoWay sub_BadBound_NoWay,
      kit_BadBound_NoWay := kit_refF ic_NoWay xty_NoWay sub_BadBound_BadBound sub_BadBound_NoWay,
      kit_BadBound_VE := kit_typeT (by decide +kernel) sub_BadBound_VE,
      oex_NoWire := ⟨⟨_, _, _, _, _, _, _, _, _, _, _, _, _, _, _, xL_NoWire, xB_NoWire⟩, xsa_NoWire, xex_NoWire, xty_NoWire, xk_NoWire⟩,
      ini_NoWire := a_NoWire_init,
      tI_NoWire := tI_NoWire,
      nb_NoWire_source := nb_NoWire_source,
      nb_NoWire_target := nb_NoWire_target,
      xd_NoWire := ⟨⟨xga_NoWire, xgg_NoWire, xex_NoWire, xhd_NoWire, xca_NoWire, xhn, xht, xhm_NoWire⟩, ic_NoWire⟩,
      xf_NoWire := ⟨xga_NoWire, xgg_NoWire, xex_NoWire, xhd_NoWire⟩,
      exm_NoWire_RailsError := exm_ref xex_RailsError ic_RailsError xty_RailsError sub_NoWire_RailsError,
      kit_NoWire_RailsError := kit_refT ic_RailsError xty_RailsError sub_NoWire_RailsError,
      exm_NoWire_BadSize := exm_ref xex_BadSize ic_BadSize xty_BadSize sub_NoWire_BadSize,
      kit_NoWire_BadSize := kit_refF ic_BadSize xty_BadSize sub_NoWire_NoWire sub_NoWire_BadSize,
      exm_NoWire_NoBox := exm_ref xex_NoBox ic_NoBox xty_NoBox sub_NoWire_NoBox,
      kit_NoWire_NoBox := kit_refF ic_NoBox xty_NoBox sub_NoWire_NoWire sub_NoWire_NoBox,
      exm_NoWire_BadWire := exm_ref xex_BadWire ic_BadWire xty_BadWire sub_NoWire_BadWire,
      kit_NoWire_BadWire := kit_refF ic_BadWire xty_BadWire sub_NoWire_NoWire sub_NoWire_BadWire,
      exm_NoWire_BadBound := exm_ref xex_BadBound ic_BadBound xty_BadBound sub_NoWire_BadBound,
      kit_NoWire_BadBound := kit_refF ic_BadBound xty_BadBound sub_NoWire_NoWire sub_NoWire_BadBound,
      exm_NoWire_NoWire := exm_ref xex_NoWire ic_NoWire xty_NoWire sub_NoWire_NoWire,
      kit_NoWire_NoWire := kit_refT ic_NoWire xty_NoWire sub_NoWire_NoWire,
      exm_NoWire_NoWay := exm_ref xex_NoWay ic_NoWay xty_NoWay sub_NoWire_NoWay,
      kit_NoWire_NoWay := kit_refF ic_NoWay xty_NoWay sub_NoWire_NoWire sub_NoWire_NoWay,
      kit_NoWire_VE := kit_typeT (by decide +kernel) sub_NoWire_VE,
      oex_NoWay := ⟨⟨_, _, _, _, _, _, _, _, _, _, _, _, _, _, _, xL_NoWay, xB_NoWay⟩, xsa_NoWay, xex_NoWay, xty_NoWay, xk_NoWay⟩,
      ini_NoWay := a_NoWay_init,
      tI_NoWay := tI_NoWay,
      nb_NoWay_source := nb_NoWay_source,
      nb_NoWay_target := nb_NoWay_target,
      xd_NoWay := ⟨⟨xga_NoWay, xgg_NoWay, xex_NoWay, xhd_NoWay, xca_NoWay, xhn, xht, xhm_NoWay⟩, ic_NoWay⟩,
      xf_NoWay := ⟨xga_NoWay, xgg_NoWay, xex_NoWay, xhd_NoWay⟩,
      exm_NoWay_RailsError := exm_ref xex_RailsError ic_RailsError xty_RailsError sub_NoWay_RailsError,
      kit_NoWay_RailsError := kit_refT ic_RailsError xty_RailsError sub_NoWay_RailsError,
      exm_NoWay_BadSize := exm_ref xex_BadSize ic_BadSize xty_BadSize sub_NoWay_BadSize,
      kit_NoWay_BadSize := kit_refF ic_BadSize xty_BadSize sub_NoWay_NoWay sub_NoWay_BadSize,
      exm_NoWay_NoBox := exm_ref xex_NoBox ic_NoBox xty_NoBox sub_NoWay_NoBox,
      kit_NoWay_NoBox := kit_refF ic_NoBox xty_NoBox sub_NoWay_NoWay sub_NoWay_NoBox,
      exm_NoWay_BadWire := exm_ref xex_BadWire ic_BadWire xty_BadWire sub_NoWay_BadWire,
      kit_NoWay_BadWire := kit_refF ic_BadWire xty_BadWire sub_NoWay_NoWay sub_NoWay_BadWire,
      exm_NoWay_BadBound := exm_ref xex_BadBound ic_BadBound xty_BadBound sub_NoWay_BadBound,
      kit_NoWay_BadBound := kit_refF ic_BadBound xty_BadBound sub_NoWay_NoWay sub_NoWay_BadBound,
      exm_NoWay_NoWire := exm_ref xex_NoWire ic_NoWire xty_NoWire sub_NoWay_NoWire,
      kit_NoWay_NoWire := kit_refF ic_NoWire xty_NoWire sub_NoWay_NoWay sub_NoWay_NoWire,
      exm_NoWay_NoWay := exm_ref xex_NoWay ic_NoWay xty_NoWay sub_NoWay_NoWay,
      kit_NoWay_NoWay := kit_refT ic_NoWay xty_NoWay sub_NoWay_NoWay,
      kit_NoWay_VE := kit_typeT (by decide +kernel) sub_NoWay_VE,
      cl_Line := ⟨pg_Line, hd_Line, po_Line, sa_Line⟩,
      na_Line_size := na_Line_size,
      na_Line__spans := na_Line__spans,
      na_Line__mosts := na_Line__mosts,
      M_Line := ⟨mk_Line, a_Line_init, i_Line_init, kC_Line⟩,
      m_Line_wires := ⟨a_Line_wires, i_Line_wires, F_Line_wires.kp⟩,
      m_Line_bounds := ⟨a_Line_bounds, i_Line_bounds, F_Line_bounds.kp⟩,
      m_Line_wire := ⟨a_Line_wire, i_Line_wire, F_Line_wire.kp⟩,
      m_Line_sources := ⟨a_Line_sources, i_Line_sources, F_Line_sources.kp⟩,
      m_Line_targets := ⟨a_Line_targets, i_Line_targets, F_Line_targets.kp⟩,
      D_lag := D_lag,
      D_lag_way := D_lag_way }
  obtain ⟨oc, od, kV, dc, pm, an, cd, ct, sl, hfd, lk, hc⟩ := id F_law.ex
  refine ⟨d_law, fun s v => ?_, fun base _ _ => ok_law T⟩
  subst hfd
  exact .of_eq rfl
end K03
open PySem PySem.W PyProof.Rows in
set_option maxRecDepth 100000 in
set_option maxHeartbeats 0 in
theorem PySem.Challenge.cw_surerails_k03_least_lags_holds : PySem.Challenge.rw_surerails_k03_least_lags.Holds := by
  w_on; o_law; k_head; (case hw => w_witness2)
  k_fill
  refine VX.walk_ofA (l := PySem.Challenge.rw_surerails_k03_least_lags) (n := 63) (k := 8) (x := "_law_script") (sp := fun w => K03.spLaw (PySem.Challenge.cw_surerails_k03_least_lags_holds.heap_39 w.params)) rfl (by decide) rfl ⟨rfl, by decide, by decide⟩ (fun w h Y => PySem.W.kIn_of Y) ?F ?S
  case S =>
    intro w m H a ns hl _ hS
    exact ⟨rfl, a, ns, rfl, hS, fun _ => rfl⟩
  case F =>
    intro w mg fa h KX G hmg
    refine' K03.all_mk KX G hmg ?GRailsError ?GBadSize ?GNoBox ?GBadWire ?GBadBound ?GNoWire ?GNoWay ?GLine ?a_wall ?F_wall ?a_BadSize_init ?F_BadSize_init ?a_NoBox_init ?F_NoBox_init ?a_BadWire_init ?F_BadWire_init ?a_BadBound_init ?F_BadBound_init ?a_NoWire_init ?F_NoWire_init ?a_NoWay_init ?F_NoWay_init ?a_Line_init ?F_Line_init ?a_Line_wires ?F_Line_wires ?a_Line_bounds ?F_Line_bounds ?a_Line_wire ?F_Line_wire ?a_Line_sources ?F_Line_sources ?a_Line_targets ?F_Line_targets ?a_check_box ?F_check_box ?a_is_span ?F_is_span ?a_spans_by_wire ?F_spans_by_wire ?a_mosts_by_pair ?F_mosts_by_pair ?a_lag ?F_lag ?a_lag_way ?F_lag_way ?a_costs ?F_costs ?a_sums_to ?F_sums_to ?a_least_way ?F_least_way ?a_is_int ?F_is_int ?a_cell ?F_cell ?a_pen ?F_pen ?a_take ?F_take ?a_size ?F_size ?a_wires ?F_wires ?a_told ?F_told ?a_plan_wires ?F_plan_wires ?a_same ?F_same ?a_mixed ?F_mixed ?a_wide_hours ?F_wide_hours ?a_ring_wires ?F_ring_wires ?a_line ?F_line ?a_ways ?F_ways ?a_ask_lag ?F_ask_lag ?a_ask_way ?F_ask_way ?a_answers ?F_answers ?a_due ?F_due ?a_law ?F_law ?z_ValueError ?z_abs ?z_bool ?z_int ?z_isinstance ?z_len ?z_list ?z_min ?z_range ?z_repr ?z_sorted ?z_str ?z_tuple ?ic_RailsError ?xty_RailsError ?xex_RailsError ?ic_BadSize ?xty_BadSize ?xex_BadSize ?ic_NoBox ?xty_NoBox ?xex_NoBox ?ic_BadWire ?xty_BadWire ?xex_BadWire ?ic_BadBound ?xty_BadBound ?xex_BadBound ?ic_NoWire ?xty_NoWire ?xex_NoWire ?ic_NoWay ?xty_NoWay ?xex_NoWay ?xL_BadSize ?xB_BadSize ?xsa_BadSize ?xk_BadSize ?tI_BadSize ?nb_BadSize_size ?xga_BadSize ?xgg_BadSize ?xhd_BadSize ?xca_BadSize ?xhm_BadSize ?xhn ?xht ?sub_BadSize_BadSize ?sub_BadSize_VE ?sub_BadSize_RailsError ?sub_BadSize_NoBox ?sub_BadSize_BadWire ?sub_BadSize_BadBound ?sub_BadSize_NoWire ?sub_BadSize_NoWay ?xL_NoBox ?xB_NoBox ?xsa_NoBox ?xk_NoBox ?tI_NoBox ?nb_NoBox_box ?xga_NoBox ?xgg_NoBox ?xhd_NoBox ?xca_NoBox ?xhm_NoBox ?sub_NoBox_NoBox ?sub_NoBox_VE ?sub_NoBox_RailsError ?sub_NoBox_BadSize ?sub_NoBox_BadWire ?sub_NoBox_BadBound ?sub_NoBox_NoWire ?sub_NoBox_NoWay ?xL_BadWire ?xB_BadWire ?xsa_BadWire ?xk_BadWire ?tI_BadWire ?nb_BadWire_source ?nb_BadWire_target ?xga_BadWire ?xgg_BadWire ?xhd_BadWire ?xca_BadWire ?xhm_BadWire ?sub_BadWire_BadWire ?sub_BadWire_VE ?sub_BadWire_RailsError ?sub_BadWire_BadSize ?sub_BadWire_NoBox ?sub_BadWire_BadBound ?sub_BadWire_NoWire ?sub_BadWire_NoWay ?xL_BadBound ?xB_BadBound ?xsa_BadBound ?xk_BadBound ?tI_BadBound ?nb_BadBound_later ?nb_BadBound_earlier ?xga_BadBound ?xgg_BadBound ?xhd_BadBound ?xca_BadBound ?xhm_BadBound ?sub_BadBound_BadBound ?sub_BadBound_VE ?sub_BadBound_RailsError ?sub_BadBound_BadSize ?sub_BadBound_NoBox ?sub_BadBound_BadWire ?sub_BadBound_NoWire ?sub_BadBound_NoWay ?xL_NoWire ?xB_NoWire ?xsa_NoWire ?xk_NoWire ?tI_NoWire ?nb_NoWire_source ?nb_NoWire_target ?xga_NoWire ?xgg_NoWire ?xhd_NoWire ?xca_NoWire ?xhm_NoWire ?sub_NoWire_NoWire ?sub_NoWire_VE ?sub_NoWire_RailsError ?sub_NoWire_BadSize ?sub_NoWire_NoBox ?sub_NoWire_BadWire ?sub_NoWire_BadBound ?sub_NoWire_NoWay ?xL_NoWay ?xB_NoWay ?xsa_NoWay ?xk_NoWay ?tI_NoWay ?nb_NoWay_source ?nb_NoWay_target ?xga_NoWay ?xgg_NoWay ?xhd_NoWay ?xca_NoWay ?xhm_NoWay ?sub_NoWay_NoWay ?sub_NoWay_VE ?sub_NoWay_RailsError ?sub_NoWay_BadSize ?sub_NoWay_NoBox ?sub_NoWay_BadWire ?sub_NoWay_BadBound ?sub_NoWay_NoWire ?pg_Line ?hd_Line ?po_Line ?sa_Line ?mk_Line ?kC_Line ?na_Line_size ?na_Line__spans ?na_Line__mosts ?i_Line_init ?i_Line_wires ?i_Line_bounds ?i_Line_wire ?i_Line_sources ?i_Line_targets ?D_lag ?D_lag_way
    (case GRailsError => k_is)
    (case GBadSize => k_is)
    (case GNoBox => k_is)
    (case GBadWire => k_is)
    (case GBadBound => k_is)
    (case GNoWire => k_is)
    (case GNoWay => k_is)
    (case GLine => k_is)
    (case a_wall => k_is)
    (case F_wall => refine' L2.fun_mk ?l ?c ?k; (case l => k_is); (case c => k_is); (case k => k_is))
    (case a_BadSize_init => k_is)
    (case F_BadSize_init => refine' L2.fun_mk ?l ?c ?k; (case l => k_is); (case c => k_is); (case k => k_is))
    (case a_NoBox_init => k_is)
    (case F_NoBox_init => refine' L2.fun_mk ?l ?c ?k; (case l => k_is); (case c => k_is); (case k => k_is))
    (case a_BadWire_init => k_is)
    (case F_BadWire_init => refine' L2.fun_mk ?l ?c ?k; (case l => k_is); (case c => k_is); (case k => k_is))
    (case a_BadBound_init => k_is)
    (case F_BadBound_init => refine' L2.fun_mk ?l ?c ?k; (case l => k_is); (case c => k_is); (case k => k_is))
    (case a_NoWire_init => k_is)
    (case F_NoWire_init => refine' L2.fun_mk ?l ?c ?k; (case l => k_is); (case c => k_is); (case k => k_is))
    (case a_NoWay_init => k_is)
    (case F_NoWay_init => refine' L2.fun_mk ?l ?c ?k; (case l => k_is); (case c => k_is); (case k => k_is))
    (case a_Line_init => k_is)
    (case F_Line_init => refine' L2.fun_mk ?l ?c ?k; (case l => k_is); (case c => k_is); (case k => k_is))
    (case a_Line_wires => k_is)
    (case F_Line_wires => refine' L2.fun_mk ?l ?c ?k; (case l => k_is); (case c => k_is); (case k => k_is))
    (case a_Line_bounds => k_is)
    (case F_Line_bounds => refine' L2.fun_mk ?l ?c ?k; (case l => k_is); (case c => k_is); (case k => k_is))
    (case a_Line_wire => k_is)
    (case F_Line_wire => refine' L2.fun_mk ?l ?c ?k; (case l => k_is); (case c => k_is); (case k => k_is))
    (case a_Line_sources => k_is)
    (case F_Line_sources => refine' L2.fun_mk ?l ?c ?k; (case l => k_is); (case c => k_is); (case k => k_is))
    (case a_Line_targets => k_is)
    (case F_Line_targets => refine' L2.fun_mk ?l ?c ?k; (case l => k_is); (case c => k_is); (case k => k_is))
    (case a_check_box => k_is)
    (case F_check_box => refine' L2.fun_mk ?l ?c ?k; (case l => k_is); (case c => k_is); (case k => k_is))
    (case a_is_span => k_is)
    (case F_is_span => refine' L2.fun_mk ?l ?c ?k; (case l => k_is); (case c => k_is); (case k => k_is))
    (case a_spans_by_wire => k_is)
    (case F_spans_by_wire => refine' L2.fun_mk ?l ?c ?k; (case l => k_is); (case c => k_is); (case k => k_is))
    (case a_mosts_by_pair => k_is)
    (case F_mosts_by_pair => refine' L2.fun_mk ?l ?c ?k; (case l => k_is); (case c => k_is); (case k => k_is))
    (case a_lag => k_is)
    (case F_lag => refine' L2.fun_mk ?l ?c ?k; (case l => k_is); (case c => k_is); (case k => k_is))
    (case a_lag_way => k_is)
    (case F_lag_way => refine' L2.fun_mk ?l ?c ?k; (case l => k_is); (case c => k_is); (case k => k_is))
    (case a_costs => k_is)
    (case F_costs => refine' L2.fun_mk ?l ?c ?k; (case l => k_is); (case c => k_is); (case k => k_is))
    (case a_sums_to => k_is)
    (case F_sums_to => refine' L2.fun_mk ?l ?c ?k; (case l => k_is); (case c => k_is); (case k => k_is))
    (case a_least_way => k_is)
    (case F_least_way => refine' L2.fun_mk ?l ?c ?k; (case l => k_is); (case c => k_is); (case k => k_is))
    (case a_is_int => k_is)
    (case F_is_int => refine' L2.fun_mk ?l ?c ?k; (case l => k_is); (case c => k_is); (case k => k_is))
    (case a_cell => k_is)
    (case F_cell => refine' L2.fun_mk ?l ?c ?k; (case l => k_is); (case c => k_is); (case k => k_is))
    (case a_pen => k_is)
    (case F_pen => refine' L2.fun_mk ?l ?c ?k; (case l => k_is); (case c => k_is); (case k => k_is))
    (case a_take => k_is)
    (case F_take => refine' L2.fun_mk ?l ?c ?k; (case l => k_is); (case c => k_is); (case k => k_is))
    (case a_size => k_is)
    (case F_size => refine' L2.fun_mk ?l ?c ?k; (case l => k_is); (case c => k_is); (case k => k_is))
    (case a_wires => k_is)
    (case F_wires => refine' L2.fun_mk ?l ?c ?k; (case l => k_is); (case c => k_is); (case k => k_is))
    (case a_told => k_is)
    (case F_told => refine' L2.fun_mk ?l ?c ?k; (case l => k_is); (case c => k_is); (case k => k_is))
    (case a_plan_wires => k_is)
    (case F_plan_wires => refine' L2.fun_mk ?l ?c ?k; (case l => k_is); (case c => k_is); (case k => k_is))
    (case a_same => k_is)
    (case F_same => refine' L2.fun_mk ?l ?c ?k; (case l => k_is); (case c => k_is); (case k => k_is))
    (case a_mixed => k_is)
    (case F_mixed => refine' L2.fun_mk ?l ?c ?k; (case l => k_is); (case c => k_is); (case k => k_is))
    (case a_wide_hours => k_is)
    (case F_wide_hours => refine' L2.fun_mk ?l ?c ?k; (case l => k_is); (case c => k_is); (case k => k_is))
    (case a_ring_wires => k_is)
    (case F_ring_wires => refine' L2.fun_mk ?l ?c ?k; (case l => k_is); (case c => k_is); (case k => k_is))
    (case a_line => k_is)
    (case F_line => refine' L2.fun_mk ?l ?c ?k; (case l => k_is); (case c => k_is); (case k => k_is))
    (case a_ways => k_is)
    (case F_ways => refine' L2.fun_mk ?l ?c ?k; (case l => k_is); (case c => k_is); (case k => k_is))
    (case a_ask_lag => k_is)
    (case F_ask_lag => refine' L2.fun_mk ?l ?c ?k; (case l => k_is); (case c => k_is); (case k => k_is))
    (case a_ask_way => k_is)
    (case F_ask_way => refine' L2.fun_mk ?l ?c ?k; (case l => k_is); (case c => k_is); (case k => k_is))
    (case a_answers => k_is)
    (case F_answers => refine' L2.fun_mk ?l ?c ?k; (case l => k_is); (case c => k_is); (case k => k_is))
    (case a_due => k_is)
    (case F_due => refine' L2.fun_mk ?l ?c ?k; (case l => k_is); (case c => k_is); (case k => k_is))
    (case a_law => k_is)
    (case F_law => refine' L2.fun_mk ?l ?c ?k; (case l => k_is); (case c => k_is); (case k => k_is))
    (case z_ValueError => k_is)
    (case z_abs => k_is)
    (case z_bool => k_is)
    (case z_int => k_is)
    (case z_isinstance => k_is)
    (case z_len => k_is)
    (case z_list => k_is)
    (case z_min => k_is)
    (case z_range => k_is)
    (case z_repr => k_is)
    (case z_sorted => k_is)
    (case z_str => k_is)
    (case z_tuple => k_is)
    (case ic_RailsError => k_is)
    (case xty_RailsError => k_is)
    (case xex_RailsError => k_is)
    (case ic_BadSize => k_is)
    (case xty_BadSize => k_is)
    (case xex_BadSize => k_is)
    (case ic_NoBox => k_is)
    (case xty_NoBox => k_is)
    (case xex_NoBox => k_is)
    (case ic_BadWire => k_is)
    (case xty_BadWire => k_is)
    (case xex_BadWire => k_is)
    (case ic_BadBound => k_is)
    (case xty_BadBound => k_is)
    (case xex_BadBound => k_is)
    (case ic_NoWire => k_is)
    (case xty_NoWire => k_is)
    (case xex_NoWire => k_is)
    (case ic_NoWay => k_is)
    (case xty_NoWay => k_is)
    (case xex_NoWay => k_is)
    (case xL_BadSize => k_is)
    (case xB_BadSize => decide +kernel)
    (case xsa_BadSize => k_is)
    (case xk_BadSize => k_is)
    (case tI_BadSize => k_is)
    (case nb_BadSize_size => k_is)
    (case xga_BadSize => k_is)
    (case xgg_BadSize => k_is)
    (case xhd_BadSize => k_is)
    (case xca_BadSize => k_is)
    (case xhm_BadSize => k_is)
    (case xhn => k_is)
    (case xht => k_is)
    (case sub_BadSize_BadSize => first | rfl | k_is)
    (case sub_BadSize_VE => k_is)
    (case sub_BadSize_RailsError => k_is)
    (case sub_BadSize_NoBox => k_is)
    (case sub_BadSize_BadWire => k_is)
    (case sub_BadSize_BadBound => k_is)
    (case sub_BadSize_NoWire => k_is)
    (case sub_BadSize_NoWay => k_is)
    (case xL_NoBox => k_is)
    (case xB_NoBox => decide +kernel)
    (case xsa_NoBox => k_is)
    (case xk_NoBox => k_is)
    (case tI_NoBox => k_is)
    (case nb_NoBox_box => k_is)
    (case xga_NoBox => k_is)
    (case xgg_NoBox => k_is)
    (case xhd_NoBox => k_is)
    (case xca_NoBox => k_is)
    (case xhm_NoBox => k_is)
    (case sub_NoBox_NoBox => first | rfl | k_is)
    (case sub_NoBox_VE => k_is)
    (case sub_NoBox_RailsError => k_is)
    (case sub_NoBox_BadSize => k_is)
    (case sub_NoBox_BadWire => k_is)
    (case sub_NoBox_BadBound => k_is)
    (case sub_NoBox_NoWire => k_is)
    (case sub_NoBox_NoWay => k_is)
    (case xL_BadWire => k_is)
    (case xB_BadWire => decide +kernel)
    (case xsa_BadWire => k_is)
    (case xk_BadWire => k_is)
    (case tI_BadWire => k_is)
    (case nb_BadWire_source => k_is)
    (case nb_BadWire_target => k_is)
    (case xga_BadWire => k_is)
    (case xgg_BadWire => k_is)
    (case xhd_BadWire => k_is)
    (case xca_BadWire => k_is)
    (case xhm_BadWire => k_is)
    (case sub_BadWire_BadWire => first | rfl | k_is)
    (case sub_BadWire_VE => k_is)
    (case sub_BadWire_RailsError => k_is)
    (case sub_BadWire_BadSize => k_is)
    (case sub_BadWire_NoBox => k_is)
    (case sub_BadWire_BadBound => k_is)
    (case sub_BadWire_NoWire => k_is)
    (case sub_BadWire_NoWay => k_is)
    (case xL_BadBound => k_is)
    (case xB_BadBound => decide +kernel)
    (case xsa_BadBound => k_is)
    (case xk_BadBound => k_is)
    (case tI_BadBound => k_is)
    (case nb_BadBound_later => k_is)
    (case nb_BadBound_earlier => k_is)
    (case xga_BadBound => k_is)
    (case xgg_BadBound => k_is)
    (case xhd_BadBound => k_is)
    (case xca_BadBound => k_is)
    (case xhm_BadBound => k_is)
    (case sub_BadBound_BadBound => first | rfl | k_is)
    (case sub_BadBound_VE => k_is)
    (case sub_BadBound_RailsError => k_is)
    (case sub_BadBound_BadSize => k_is)
    (case sub_BadBound_NoBox => k_is)
    (case sub_BadBound_BadWire => k_is)
    (case sub_BadBound_NoWire => k_is)
    (case sub_BadBound_NoWay => k_is)
    (case xL_NoWire => k_is)
    (case xB_NoWire => decide +kernel)
    (case xsa_NoWire => k_is)
    (case xk_NoWire => k_is)
    (case tI_NoWire => k_is)
    (case nb_NoWire_source => k_is)
    (case nb_NoWire_target => k_is)
    (case xga_NoWire => k_is)
    (case xgg_NoWire => k_is)
    (case xhd_NoWire => k_is)
    (case xca_NoWire => k_is)
    (case xhm_NoWire => k_is)
    (case sub_NoWire_NoWire => first | rfl | k_is)
    (case sub_NoWire_VE => k_is)
    (case sub_NoWire_RailsError => k_is)
    (case sub_NoWire_BadSize => k_is)
    (case sub_NoWire_NoBox => k_is)
    (case sub_NoWire_BadWire => k_is)
    (case sub_NoWire_BadBound => k_is)
    (case sub_NoWire_NoWay => k_is)
    (case xL_NoWay => k_is)
    (case xB_NoWay => decide +kernel)
    (case xsa_NoWay => k_is)
    (case xk_NoWay => k_is)
    (case tI_NoWay => k_is)
    (case nb_NoWay_source => k_is)
    (case nb_NoWay_target => k_is)
    (case xga_NoWay => k_is)
    (case xgg_NoWay => k_is)
    (case xhd_NoWay => k_is)
    (case xca_NoWay => k_is)
    (case xhm_NoWay => k_is)
    (case sub_NoWay_NoWay => first | rfl | k_is)
    (case sub_NoWay_VE => k_is)
    (case sub_NoWay_RailsError => k_is)
    (case sub_NoWay_BadSize => k_is)
    (case sub_NoWay_NoBox => k_is)
    (case sub_NoWay_BadWire => k_is)
    (case sub_NoWay_BadBound => k_is)
    (case sub_NoWay_NoWire => k_is)
    (case pg_Line => k_is)
    (case hd_Line => k_is)
    (case po_Line => k_is)
    (case sa_Line => k_is)
    (case mk_Line => k_is)
    (case kC_Line => k_is)
    (case na_Line_size => k_is)
    (case na_Line__spans => k_is)
    (case na_Line__mosts => k_is)
    (case i_Line_init => k_is)
    (case i_Line_wires => k_is)
    (case i_Line_bounds => k_is)
    (case i_Line_wire => k_is)
    (case i_Line_sources => k_is)
    (case i_Line_targets => k_is)
    (case D_lag => refine' VX.fund_mkV ?rv ?l ?c ?k ?b; (case rv => exact rfl); (case l => k_is); (case c => k_is); (case k => k_is); (case b => k_is))
    (case D_lag_way => refine' VX.fund_mkV ?rv ?l ?c ?k ?b; (case rv => exact rfl); (case l => k_is); (case c => k_is); (case k => k_is); (case b => k_is))

import PyProof.Rows.All
import Wide.All
import OpenK.AllK
import Wide.FinOn
import HandS.ForMost
import HandS.ForExc
import HandS.IsInst
import HandS.Conv
import HandS.IterNext
import HandS.IterVal
import HandS.OwnIter
import HandS.ExcIs
import HandS.ExcField
import HandS.MakeKw
import HandS.OwnEq
import HandS.ExcInit
import KE.KExcIs
import HandS.MakeKwOnly
import PyProof.ReprRoads
import HandS.Ends
import HandS.FStr
import KE.KExcSuper
import HandS.Walk
import HandS.Evl
import HandS.TupSets
import HandS.SortOrd
import HandS.SortRule
import HandS.Deep
import HandS.SortInts
import HandS.More
import HandS.DictComp
import HandS.Dict
import HandS.Iter
import HandS.DictTup
import HandS.Small
import HandS.Defaults
import HandS.List
import PyProof.Rows.SeqMore
import HandS.TupAny
import HandS.Style
import HandS.Flow
import HandS.Zip
import HandS.Comp
import PyProof.FString2
import HandS.FStrTup
import HandS.Exc
import HandS.TryMany
import PySem.Challenge.RW_surerails_k63_whole_quickening_is_least
set_option Elab.async false
set_option linter.all false
set_option maxRecDepth 100000
set_option maxHeartbeats 4000000
/-! My own words over HandS: one introduction lemma a construct's reading, for a walk by head symbols. -/
namespace VX
open PySem PySem.Spec PyProof.Rows L2
/-- what was tracked stays -/
abbrev Ex (H H' : Hp) : Prop := Same H H'
theorem same_at {H H' : Hp} {a : Addr} {o : HO} (e : Same H H') (h : H a = some o) : H' a = some o := e a o h
theorem same_new {H : Hp} {p : Addr} {o : HO} (h : H p = none) : Same H (upd H p o) := fun b x e => by
  rw [upd_ne (ne_of_none e h)]
  exact e
section
variable {D : Ends} {σ σ' : L2.St} {H H' : Hp} {Q : VK} {te ta tb tc : TE} {t u : TS} {g : TG} {i : Nat} {v x y : V} {r r' : R2} {K : PySem.W.Frag} {f : Str}
theorem i_seq (q : t { D with nx := u D } σ H) : tSeq t u D σ H := q
theorem i_next (q : D.nx σ H) : tNext D σ H := q
theorem i_asg (q : te σ H fun x H1 => g x σ H1 D.nx) : tAsg te g D σ H := q
theorem i_ret (q : te σ H D.rt) : tRet te D σ H := q
theorem i_retN (q : D.rt .non H) : tRetN D σ H := q
theorem i_drop (q : te σ H fun _ H1 => D.nx σ H1) : tDrop te D σ H := q
theorem i_ifS {c : TT} (q : c σ H fun b H1 => if b = true then t D σ H1 else u D σ H1) : tIfS c t u D σ H := q
theorem i_gname {Q : L2.St → Hp → Prop} (e : σ.set i (some v) = σ') (q : Q σ' H) : gName i v σ H Q := by
  subst e
  exact q
theorem i_gnil {Q : L2.St → Hp → Prop} (q : Q σ H) : gNil [] σ H Q := ⟨rfl, q⟩
theorem i_gcons {g : TG} {gs : TGs} {vs : List V} {Q : L2.St → Hp → Prop} (q : g v σ H fun σ' H' => gs vs σ' H' Q) : gCons g gs (v :: vs) σ H Q := ⟨v, vs, rfl, q⟩
theorem i_gtup {n : Nat} {gs : TGs} {a : Addr} {xs : List V} {Q : L2.St → Hp → Prop} (h : SqT K H a xs) (hl : xs.length = n) (q : gs xs σ H Q) : gTup K n gs (.ref a) σ H Q := ⟨a, xs, rfl, h, hl, q⟩
theorem i_gsub {t : TSet} {Q : L2.St → Hp → Prop} (q : ta σ H fun o H1 => tb σ H1 fun i H2 => t o i v H2 fun H3 => Q σ H3) : gSub ta tb t v σ H Q := q
theorem i_setL {p : Addr} {xs : List V} {k : Int} {j : Nat} {ys : List V} {Q : Hp → Prop} (h : H p = some (.lst xs)) (hk : ixN xs.length k = some j) (e : xs.set j v = ys) (q : Q (upd H p (.lst ys))) : rSetL (.ref p) (.int k) v H Q := by
  subst e
  exact ⟨p, xs, k, j, rfl, rfl, h, hk, q⟩
theorem i_setLU {p : Addr} {xs : List V} {k : Int} {j : Nat} {ys : List V} {Q : Hp → Prop} (hk : ixN xs.length k = some j) (e : xs.set j v = ys) (q : Q (upd H p (.lst ys))) : rSetL (.ref p) (.int k) v (upd H p (.lst xs)) Q := by
  subst e
  refine ⟨p, xs, k, j, rfl, rfl, upd_same, hk, ?_⟩
  rw [upd_upd]
  exact q
/-- a remainder, its value forgotten -/
theorem i_modA {i m : Int} (hm : 0 < m) (q : ∀ r : Int, 0 ≤ r → r < m → Q (.int r) H) : rI (fun _ j => j ≠ 0) (fun i j => .int (i.fmod j)) (.int i) (.int m) H Q :=
  ⟨i, m, rfl, rfl, by omega, q _ (Int.fmod_nonneg_of_pos _ hm) (Int.fmod_lt_of_pos _ hm)⟩
theorem i_divA {i m : Int} (hm : 0 < m) (hb : m < 1073741824) (q : ∀ r : Int, (0 ≤ i → 0 ≤ r) → (0 ≤ i → r ≤ i) → Q (.int r) H) : rI CDiv (fun i j => .int (i / j)) (.int i) (.int m) H Q :=
  ⟨i, m, rfl, rfl, ⟨hm, hb⟩, q _ (fun h => Int.ediv_nonneg h (by omega)) (fun h => Int.ediv_le_self _ h)⟩
theorem i_var (h : σ[i]? = some (some v)) (q : Q v H) : tVar i σ H Q := ⟨v, h, q⟩
theorem i_c (q : Q v H) : tC v σ H Q := q
theorem i_op (q : ta σ H fun x H1 => tb σ H1 fun y H2 => r x y H2 Q) : tOp r ta tb σ H Q := q
theorem i_un {r : V → Hp → VK → Prop} (q : ta σ H fun x H1 => r x H1 Q) : tUn r ta σ H Q := q
theorem i_rI {C : Int → Int → Prop} {g : Int → Int → V} {i j : Int} (c : C i j) (q : Q (g i j) H) : rI C g (.int i) (.int j) H Q := ⟨i, j, rfl, rfl, c, q⟩
theorem i_rI0 {g : Int → Int → V} {i j : Int} (q : Q (g i j) H) : rI0 g (.int i) (.int j) H Q := ⟨i, j, rfl, rfl, q⟩
theorem i_rU {g : Int → V} {i : Int} (q : Q (g i) H) : rU g (.int i) H Q := ⟨i, rfl, q⟩
theorem i_rEqI {i j : Int} (q : Q (.bl (decide (i = j))) H) : rEq (.int i) (.int j) H Q := by
  refine ⟨rfl, ?_⟩
  have e : decide (V.int i = V.int j) = decide (i = j) := by
    by_cases h : i = j
    · rw [decide_eq_true h, decide_eq_true (congrArg V.int h)]
    · rw [decide_eq_false h, decide_eq_false fun z => h (V.int.inj z)]
  rw [e]
  exact q
theorem i_rNeI {i j : Int} (q : Q (.bl (!decide (i = j))) H) : rNe (.int i) (.int j) H Q := by
  refine ⟨rfl, ?_⟩
  have e : decide (V.int i = V.int j) = decide (i = j) := by
    by_cases h : i = j
    · rw [decide_eq_true h, decide_eq_true (congrArg V.int h)]
    · rw [decide_eq_false h, decide_eq_false fun z => h (V.int.inj z)]
  rw [e]
  exact q
theorem i_rEqS (h : scal x x = true) (q : Q (.bl true) H) : rEq x x H Q := by
  refine ⟨h, ?_⟩
  rw [decide_eq_true rfl]
  exact q
theorem i_rNeS (h : scal x x = true) (q : Q (.bl false) H) : rNe x x H Q := by
  refine ⟨h, ?_⟩
  rw [decide_eq_true rfl]
  exact q
theorem i_ixL {p : Addr} {xs : List V} {i : Int} (h : SqL K H p xs) (hi : atI xs i = some v) (q : Q v H) : rIxL K (.ref p) (.int i) H Q := ⟨p, xs, i, v, rfl, rfl, h, hi, q⟩
theorem i_ixT {p : Addr} {xs : List V} {i : Int} (h : SqT K H p xs) (hi : atI xs i = some v) (q : Q v H) : rIxT K (.ref p) (.int i) H Q := ⟨p, xs, i, v, rfl, rfl, h, hi, q⟩
theorem i_test {Q : Bool → Hp → Prop} (q : te σ H fun x H' => ∃ k, x = .bl k ∧ Q k H') : tTest te σ H Q := q
theorem i_tB {Q : Bool → Hp → Prop} (q : te σ H fun x H' => ∃ k, x = .bl k ∧ Q k H') : tB te σ H Q := q
/-- the answer of a test -/
theorem i_bl {b : Bool} {Q : Bool → Prop} (q : Q b) : ∃ k, V.bl b = .bl k ∧ Q k := ⟨b, rfl, q⟩
theorem i_and {t u : TT} {Q : Bool → Hp → Prop} (q : t σ H fun c H1 => if c = true then u σ H1 Q else Q false H1) : tAnd t u σ H Q := q
theorem i_or {t u : TT} {Q : Bool → Hp → Prop} (q : t σ H fun c H1 => if c = true then Q true H1 else u σ H1 Q) : tOr t u σ H Q := q
theorem i_not {t : TT} {Q : Bool → Hp → Prop} (q : t σ H fun c H1 => Q (!c) H1) : tNot t σ H Q := q
theorem i_andV (q : ta σ H fun x H1 => ∃ c, x = .bl c ∧ if c = true then tb σ H1 Q else Q (.bl false) H1) : tAndV ta tb σ H Q := q
theorem i_orV (q : ta σ H fun x H1 => ∃ c, x = .bl c ∧ if c = true then Q (.bl true) H1 else tb σ H1 Q) : tOrV ta tb σ H Q := q
theorem i_notV (q : ta σ H fun x H1 => ∃ c, x = .bl c ∧ Q (.bl (!c)) H1) : tNotV ta σ H Q := q
theorem i_ifE {c : TT} (q : c σ H fun b H1 => if b = true then ta σ H1 Q else tb σ H1 Q) : tIf c ta tb σ H Q := q
theorem i_chain (q : ta σ H fun x H1 => tb σ H1 fun y H2 => r x y H2 fun z H3 => ∃ k, z = .bl k ∧ (if k = true then tc σ H3 fun w' H4 => r' y w' H4 Q else Q (.bl false) H3)) : tChain r r' ta tb tc σ H Q := q
theorem i_nil {Q : List V → Hp → Prop} (q : Q [] H) : tNil σ H Q := q
theorem i_cons {tr : TA} {Q : List V → Hp → Prop} (q : ta σ H fun x H1 => tr σ H1 fun xs H2 => Q (x :: xs) H2) : tCons ta tr σ H Q := q
theorem i_tup {t : TA} (q : t σ H fun xs H1 => xs.length ≤ sizeLine ∧ ∀ p, H1 p = none → Q (.ref p) (upd H1 p (.tup xs))) : tTup t σ H Q := q
theorem i_lst {t : TA} (q : t σ H fun xs H1 => xs.length ≤ sizeLine ∧ ∀ p, H1 p = none → Q (.ref p) (upd H1 p (.lst xs))) : tLst t σ H Q := q
theorem i_call {sp : Sp} {E : XK} {t : TA} (q : t σ H fun vs H1 => sp vs H1 Q E) : tCall sp [] E t σ H Q := by
  show t σ H fun vs H1 => sp (vs ++ []) H1 Q E
  have e : (fun (vs : List V) (H1 : Hp) => sp (vs ++ []) H1 Q E) = fun vs H1 => sp vs H1 Q E := by
    funext vs H1
    rw [List.append_nil]
  rw [e]
  exact q
theorem i_make {C : Addr} {sp : Sp} {E : XK} {t : TA} (q : t σ H fun vs H1 => ∀ x dx, H1 x = none → H1 dx = none → dx ≠ x → sp (.ref x :: vs) (upd (upd H1 dx (.own x)) x (.ins C dx [])) (fun v H2 => v = .non ∧ Q (.ref x) H2) E) : tMake C sp [] E t σ H Q := by
  show t σ H fun vs H1 => ∀ x dx, H1 x = none → H1 dx = none → dx ≠ x → sp (.ref x :: (vs ++ [])) (upd (upd H1 dx (.own x)) x (.ins C dx [])) (fun v H2 => v = .non ∧ Q (.ref x) H2) E
  simp only [List.append_nil]
  exact q
theorem i_meth {C : Addr} {m : Str} {sp : Sp} {E : XK} {t : TA} (q : ta σ H fun x H1 => ∃ a dx fs, x = V.ref a ∧ H1 a = some (.ins C dx fs) ∧ fs.lookup m = none ∧ t σ H1 fun vs H2 => sp (x :: vs) H2 Q E) : tMeth C m sp [] E ta t σ H Q := by
  show ta σ H fun x H1 => ∃ a dx fs, x = V.ref a ∧ H1 a = some (.ins C dx fs) ∧ fs.lookup m = none ∧ t σ H1 fun vs H2 => sp (x :: (vs ++ [])) H2 Q E
  simp only [List.append_nil]
  exact q
theorem i_CB {r : List V → Hp → VK → Prop} {t : TA} (q : t σ H fun vs H1 => r vs H1 Q) : tCB r t σ H Q := q
theorem i_fld (q : ta σ H fun x H1 => ∃ a C dx fs v, x = .ref a ∧ H1 a = some (.ins C dx fs) ∧ Cls K C ∧ NoAttr K C f ∧ fs.lookup f = some v ∧ Q v H1) : tFld K ta f σ H Q := q
theorem i_fldv {a C dx : Addr} {fs : List (Str × V)} (hv : σ[i]? = some (some (.ref a))) (ho : H a = some (.ins C dx fs)) (hc : Cls K C) (hn : NoAttr K C f) (hl : fs.lookup f = some v) (q : Q v H) : tFld K (tVar i) f σ H Q :=
  ⟨.ref a, hv, a, C, dx, fs, v, rfl, ho, hc, hn, hl, q⟩
theorem i_fld1 {a C dx : Addr} {fs : List (Str × V)} (ho : H a = some (.ins C dx fs)) (hc : Cls K C) (hn : NoAttr K C f) (hl : fs.lookup f = some v) (q : Q v H) :
    ∃ a' C dx fs v, V.ref a = .ref a' ∧ H a' = some (.ins C dx fs) ∧ Cls K C ∧ NoAttr K C f ∧ fs.lookup f = some v ∧ Q v H := ⟨a, C, dx, fs, v, rfl, ho, hc, hn, hl, q⟩
theorem i_sFld {tv : TE} (q : tv σ H fun y H1 => ta σ H1 fun x H2 => ∃ a C dx fs, x = V.ref a ∧ H2 a = some (.ins C dx fs) ∧ Cls K C ∧ NoAttr K C f ∧ fs.length < 1000 ∧ D.nx σ (upd H2 a (.ins C dx (putF f y fs)))) : sFld K ta tv f D σ H := q
theorem i_sFld1 {a C dx : Addr} {fs gs : List (Str × V)} {R : Hp → Prop} (ho : H a = some (.ins C dx fs)) (hc : Cls K C) (hn : NoAttr K C f) (hl : fs.length < 1000) (e : putF f y fs = gs) (q : R (upd H a (.ins C dx gs))) :
    ∃ a' C dx fs, V.ref a = .ref a' ∧ H a' = some (.ins C dx fs) ∧ Cls K C ∧ NoAttr K C f ∧ fs.length < 1000 ∧ R (upd H a' (.ins C dx (putF f y fs))) := by
  subst e
  exact ⟨a, C, dx, fs, rfl, ho, hc, hn, hl, q⟩
theorem i_iteT {A B : Prop} (h : A) : if true = true then A else B := by
  rw [if_pos rfl]
  exact h
theorem i_iteF {A B : Prop} (h : B) : if false = true then A else B := by
  rw [if_neg Bool.false_ne_true]
  exact h
theorem i_iteNT {A B : Prop} (h : B) : if (!true) = true then A else B := i_iteF h
theorem i_iteNF {A B : Prop} (h : A) : if (!false) = true then A else B := i_iteT h
theorem i_iteDF {p A B : Prop} {d : Decidable p} (h : ¬ p) (q : B) : if @decide p d = true then A else B := by
  rw [decide_eq_false h, if_neg Bool.false_ne_true]
  exact q
theorem i_iteDT {p A B : Prop} {d : Decidable p} (h : p) (q : A) : if @decide p d = true then A else B := by
  rw [decide_eq_true h, if_pos rfl]
  exact q
theorem i_iteBT {b : Bool} {A B : Prop} (h : b = true) (q : A) : if b = true then A else B := by
  rw [if_pos h]
  exact q
theorem i_iteBF {b : Bool} {A B : Prop} (h : b = false) (q : B) : if b = true then A else B := by
  subst h
  exact i_iteF q
theorem i_iteNDS {α : Type} {a : α} {A B : Prop} {d : Decidable (a = a)} (q : B) : if (!@decide (a = a) d) = true then A else B := by
  rw [decide_eq_true rfl]
  exact i_iteF q
theorem i_bm {T : String} {r : V → List V → Hp → VK → Prop} {t : TA} (q : ta σ H fun x H1 => tyV K T x H1 ∧ t σ H1 fun xs H2 => r x xs H2 Q) : tBM K T r ta t σ H Q := q
theorem i_tyL {l : Addr} {xs : List V} {R : Prop} (h : SqL K H l xs) (q : R) : tyV K "list" (.ref l) H ∧ R := ⟨.inl ⟨rfl, _, h⟩, q⟩
theorem i_append {l : Addr} {xs : List V} {y : V} (h : H l = some (.lst xs)) (hz : xs.length ≤ 100000) (q : Q .non (upd H l (.lst (xs ++ [y])))) : rAppend (.ref l) [y] H Q := ⟨l, xs, y, rfl, rfl, h, Nat.lt_of_le_of_lt hz (by decide), q⟩
theorem i_andN {R : Prop} (q : R) : V.non = V.non ∧ R := ⟨rfl, q⟩
theorem i_iteD {p A B : Prop} {d : Decidable p} (h1 : p → A) (h2 : ¬ p → B) : if @decide p d = true then A else B := by
  by_cases h : p
  · rw [decide_eq_true h, if_pos rfl]
    exact h1 h
  · rw [decide_eq_false h, if_neg Bool.false_ne_true]
    exact h2 h
theorem i_iteN {p A B : Prop} {d : Decidable p} (h1 : ¬ p → A) (h2 : p → B) : if (!@decide p d) = true then A else B := by
  by_cases h : p
  · rw [decide_eq_true h]
    exact i_iteF (h2 h)
  · rw [decide_eq_false h]
    exact i_iteT (h1 h)
theorem i_iteB {b : Bool} {A B : Prop} (h1 : b = true → A) (h2 : b = false → B) : if b = true then A else B := by
  cases b
  · exact i_iteF (h2 rfl)
  · exact i_iteT (h1 rfl)
end
/-! named readings of built-ins -/
section
variable {X : Cx} {H : Hp} {Q : VK} {K : PySem.W.Frag}
def rLenS (K : PySem.W.Frag) : List V → Hp → VK → Prop := fun xs H Q => ∃ p ys, xs = [.ref p] ∧ (SqL K H p ys ∨ SqT K H p ys) ∧ Q (.int ys.length) H
theorem call_lenS : CallR X (.builtin "len") (rLenS X.K) := call_len_seq
theorem i_lenL {p : Addr} {ys : List V} (h : SqL K H p ys) (q : Q (.int ys.length) H) : rLenS K [.ref p] H Q := ⟨p, ys, rfl, .inl h, q⟩
theorem i_lenT {p : Addr} {ys : List V} (h : SqT K H p ys) (q : Q (.int ys.length) H) : rLenS K [.ref p] H Q := ⟨p, ys, rfl, .inr h, q⟩
def rInt : List V → Hp → VK → Prop := fun xs H Q => (∃ i, xs = [.int i] ∧ Q (.int i) H) ∨ ∃ k, xs = [.bl k] ∧ Q (.int (if k then 1 else 0)) H
theorem call_int : CallR X (.type "int") rInt := call_int1
theorem i_int {i : Int} (q : Q (.int i) H) : rInt [.int i] H Q := .inl ⟨i, rfl, q⟩
def rMax2 : List V → Hp → VK → Prop := fun xs H Q => ∃ i j, xs = [.int i, .int j] ∧ Q (.int (if j > i then j else i)) H
def rMin2 : List V → Hp → VK → Prop := fun xs H Q => ∃ i j, xs = [.int i, .int j] ∧ Q (.int (if j < i then j else i)) H
theorem call_mx2 (hc : X.calm = true) : CallR X (.builtin "max") rMax2 := call_max2 hc
theorem call_mn2 (hc : X.calm = true) : CallR X (.builtin "min") rMin2 := call_min2 hc
theorem i_max2 {i j : Int} (q : Q (.int (max i j)) H) : rMax2 [.int i, .int j] H Q := by
  refine ⟨i, j, rfl, ?_⟩
  have e : (if j > i then j else i) = max i j := by
    rw [Int.max_def]
    split <;> split <;> omega
  rw [e]
  exact q
theorem i_min2 {i j : Int} (q : Q (.int (min i j)) H) : rMin2 [.int i, .int j] H Q := by
  refine ⟨i, j, rfl, ?_⟩
  have e : (if j < i then j else i) = min i j := by
    rw [Int.min_def]
    split <;> split <;> omega
  rw [e]
  exact q
def rListOf (K : PySem.W.Frag) : List V → Hp → VK → Prop := fun xs H Q => ∃ p ys, xs = [.ref p] ∧ (SqL K H p ys ∨ SqT K H p ys) ∧ ∀ l, H l = none → Q (.ref l) (upd H l (.lst ys))
theorem call_listOf : CallR X (.type "list") (rListOf X.K) := call_list_of
theorem i_listL {p : Addr} {ys : List V} (h : SqL K H p ys) (q : ∀ l, H l = none → Q (.ref l) (upd H l (.lst ys))) : rListOf K [.ref p] H Q := ⟨p, ys, rfl, .inl h, q⟩
theorem i_rAll {p : Addr} {bs : List Bool} (h : SqL K H p (bs.map V.bl)) (q : Q (.bl (bs.all id)) H) : rAll K [.ref p] H Q := ⟨p, bs, rfl, h, q⟩
end
theorem i_start {N : List Str} {vs : List V} {D : Ends} {σ' : L2.St} {H : Hp} {t : TS} (e : L2.start N vs = σ') (q : t D σ' H) : t D (L2.start N vs) H := by
  rw [e]
  exact q
theorem lenB {xs : List V} (h : Nat.ble xs.length 1000 = true) : xs.length ≤ sizeLine := Nat.le_of_lt (small1000 (Nat.le_of_ble_eq_true h))
theorem lenL {n : Nat} (h : n ≤ 1000) : n ≤ sizeLine := Nat.le_of_lt (small1000 h)
theorem len_le {n : Nat} (h : n ≤ 1000) : n ≤ sizeLine := Nat.le_of_lt (small1000 h)
end VX
set_option maxRecDepth 100000
set_option maxHeartbeats 4000000
/-! Own operators of an own class: in, |, &, ==, iteration; a method called by keywords; a promise that knows the heap's size at the call. -/
namespace VX
open PySem PySem.Spec PyProof.Rows L2
/-! ### a promise that knows how large the heap was at the call -/
structure FnN (P : Program) (w : World) (K : PySem.W.Frag) (mg : Str → Option Value) (base : Heap) (CX : CXT) (k : Nat) (f : Addr) (fd : FuncData) (ps : List Str) (sp : Nat → Sp) : Prop where
  len : ∀ n vs H Q E, sp n vs H Q E → vs.length = ps.length
  run : ∀ (A : Around) (outer : List Env) (s : Shared) (H : Hp) (args : Args) (us : List Value) (vs : List V) (Q : VK) (E : XK), Room k A → Env0 P w K mg base A outer s H → BindsTo s fd args (ps.zip us) → Vals vs us → sp s.heap.objs.size vs H Q E →
    codeAny (model P w) A (.call (.ref f) args) (CR CX outer P w H s Q E) s
theorem fn_ofN {CX : CXT} {P : Program} {w : World} {K : PySem.W.Frag} {mg : Str → Option Value} {base : Heap} {k : Nat} {f : Addr} {name qual : Str} {params : Arguments} {body : List Stmt} {scope : Scope} {dV kV doc pm cdv ct oc : Value} {an od : Option Addr}
    {osl : Array (Option Value)} {N ps : List Str} {sp : Nat → Sp} (lk : K.lookup f = some ⟨oc, od, .func (PySem.W.fnOf name qual params body scope dV kV doc pm an cdv ct), osl⟩) (hcd : PySem.W.codeIn K cdv qual = true) (S : FnScope N ps scope)
    (len : ∀ n vs H Q E, sp n vs H Q E → vs.length = ps.length)
    (hbody : ∀ (A : Around) (outer : List Env) (s : Shared) (H : Hp) (vs : List V) (Q : VK) (E : XK), Room k (A.deeper (envOfC qual scope s.heap.objs.size f cdv)) → sp s.heap.objs.size vs H Q E →
      ∃ t, PSs (cxOf CX P w K mg base N qual scope f cdv A outer s H E) body t ∧ t { nx := fun _ H' => Q .non H', rt := Q } (L2.start N vs) H) :
    FnN P w K mg base CX (k + 1) f (PySem.W.fnOf name qual params body scope dV kV doc pm an cdv ct) ps sp := by
  refine ⟨len, fun A outer s H args us vs Q E hr e0 hb r hsp => ?_⟩
  have hl := len _ _ _ _ _ hsp
  have KX : K.In s.heap := e0.mod.kin.keeps fun b o e => (e0.bs b o e).1
  have lim : s.heap.NoLimit := e0.mod.nolimit.keeps fun b o e => (e0.bs b o e).1
  have hkind : ∀ y ∈ ps.zip us, scope.names.lookup y.1 = some .local ∨ (scope.names.lookup y.1 = some .cell ∧ ((cellsFrom (s.heap.objs.size + 1) scope.names []).lookup y.1).isSome = true) := fun ⟨n, v⟩ hy => by
    rcases S.par n (List.of_mem_zip hy).1 with q | q
    · exact .inl q
    · exact .inr ⟨q, PySem.W.cellsFrom_some _ _ _ (.inl q)⟩
  refine codeAny_call_function hr.depth (KX _ _ lk) rfl S.co S.gen rfl (PySem.W.codeRec_of KX hcd) (hb _ _ _ _ ?_)
  refine wpAny_newFunctionEnv_cells S.kind hkind fun env he s1 x => ?_
  subst he
  refine ⟨lim.keeps x.toInCall.keep, codeAny_func ?_⟩
  obtain ⟨t, ht, hq⟩ := hbody A outer s H vs Q E (hr.deeper _) hsp
  have I : Inv (cxOf CX P w K mg base N qual scope f cdv A outer s H E) [] (L2.start N vs) H s1 := inv_start S hr.hd e0 hl r x
  refine wpAny_mono (ht.run [] s1 (L2.start N vs) H _ I hq) (fun fl s' hs => ?_) fun e s' hs => hs
  have fin : ∀ {σ' : L2.St} {H' : Hp} {v : V} {u : Value}, Inv (cxOf CX P w K mg base N qual scope f cdv A outer s H E) [] σ' H' s' → RelV v u → Q v H' → CE outer P w H s Q u s' :=
    fun {σ' H' v u} J rv q => ⟨v, H', J.os, J.bare, J.base, J.hok, rv, q⟩
  cases fl with
  | ret u =>
    obtain ⟨v, σ', H', J, rv, q⟩ := hs
    exact fin J rv q
  | next =>
    obtain ⟨σ', H', J, q⟩ := hs
    exact fin (v := V.non) (u := Value.none) J rfl q
  | brk =>
    obtain ⟨_, _, _, q⟩ := hs
    exact False.elim q
  | cont =>
    obtain ⟨_, _, _, q⟩ := hs
    exact False.elim q
theorem okN {P : Program} {w : World} {K : PySem.W.Frag} {mg : Str → Option Value} {base : Heap} {x qual : Str} {st : Stmt} {f : Addr} {fd : FuncData} {N ps : List Str} {k : Nat} {sp : Nat → Sp} (F : Fun K x qual st f fd) (S : FnScope N ps (defScope st)) (len : ∀ n vs H Q E, sp n vs H Q E → vs.length = ps.length)
    (hbody : ∀ (cdv : Value) (A : Around) (outer : List Env) (s : Shared) (H : Hp) (vs : List V) (Q : VK) (E : XK), Room k (A.deeper (envOfC qual (defScope st) s.heap.objs.size f cdv)) → sp s.heap.objs.size vs H Q E →
      ∃ t, PSs (cxOf CX0 P w K mg base N qual (defScope st) f cdv A outer s H E).nox (defBody st) t ∧ t { nx := fun _ H' => Q .non H', rt := Q } (L2.start N vs) H) : FnN P w K mg base CX0 (k + 1) f fd ps sp := by
  obtain ⟨oc, od, kV, doc, pm, an, cdv, ct, osl, rfl, lk, hcd⟩ := F.ex
  refine fn_ofN lk hcd S len fun A outer s H vs Q E hr hsp => ?_
  obtain ⟨t, h, q⟩ := hbody cdv A outer s H vs Q E hr hsp
  exact ⟨t, h.nox, q⟩
section
variable {X : Cx} {pins : List (Addr × Obj)} {σ : L2.St} {H : Hp} {s : Shared} {CX : CXT} {k : Nat} {f C : Addr} {fd : FuncData} {ps : List Str} {E : XK} {nm : Str}
/-! ### iteration: __iter__ gives iter(xs), xs a list -/
def spIter (K : PySem.W.Frag) (C : Addr) (nm : Str) (n : Nat) : Sp := fun vs H Q _ => ∃ a dx fs l zs, vs = [.ref a] ∧ H a = some (.ins C dx fs) ∧ fs.lookup nm = some (V.ref l) ∧ SqL K H l zs ∧
  ∀ it, H it = none → n ≤ it → Q (.ref it) (upd H it (ItO l it 0))
/-- what the walk over such an instance must have -/
structure OwnI (K : PySem.W.Frag) (C f : Addr) : Prop where
  it : PySem.W.findIn K (.ref C) "__iter__" = some (some (.ref f))
  itF : PySem.W.isFn K (.ref f) = true
/-- pyIter of an own instance: a new list iterator, forgotten -/
theorem own_iter {A1 : Around} {Q : Value → Shared → Prop} {a dx l : Addr} {fs : List (Str × V)} {zs : List V} (sb : Sub X k A1) (T : OwnI X.K C f) (F : FnN X.prog X.w X.K X.mg X.base CX0 k f fd ps (spIter X.K C nm)) (hb : Binds X.K fd ps [])
    (I : Inv X pins σ H s) (ha : H a = some (.ins C dx fs)) (hl : fs.lookup nm = some (V.ref l)) (hz : SqL X.K H l zs)
    (h : ∀ it s', Inv X pins σ H s' → s'.heap.IsListIter it l 0 → FpOk X pins H it → Q (.ref it) s') :
    wpAny (model X.prog X.w) A1 (pyIter (.ref a)) Q X.xe s := by
  obtain ⟨mA, J, _⟩ := ins_get I.hok ha
  obtain ⟨od, J, _⟩ := J.look
  obtain ⟨m, hF⟩ := I.fr
  refine PySem.W.owit_iter hF I.ok.mod.kin J T.it T.itF ?_
  have e0 : Env0 X.prog X.w X.K X.mg X.base A1 X.stack s H := by
    have e := I.env0
    exact ⟨by rw [sb.fr]; exact e.frames, e.mod, e.bs, e.bsz, e.funs, e.frf, e.hok, e.bare⟩
  have hsp : spIter X.K C nm s.heap.objs.size [.ref a] H (fun v H' => ∃ it, v = .ref it ∧ H it = none ∧ s.heap.objs.size ≤ it ∧ H' = upd H it (ItO l it 0)) E0 :=
    ⟨a, dx, fs, l, zs, rfl, ha, hl, hz, fun it hn hs => ⟨it, rfl, hn, hs, rfl⟩⟩
  have hlen := F.len _ _ _ _ _ hsp
  have r2 : Vals [V.ref a] [Value.ref a] := .cons rfl .nil
  refine wpAny_call (codeAny_mono (F.run A1 X.stack s H ⟨[.ref a], []⟩ [.ref a] [.ref a] _ E0 sb.room e0 (by
    have := hb s [.ref a] I.kIn (by simpa using hlen)
    simpa using this) r2 hsp) fun r s' hq => ?_)
  cases r with
  | error e => exact hq.elim
  | ok fl =>
    cases fl with
    | next => exact False.elim hq
    | brk => exact False.elim hq
    | cont => exact False.elim hq
    | ret u =>
      obtain ⟨v, H', I', rv, it, rfl, hn, hs, rfl⟩ := I.after hq
      cases rv
      have eo := itO_get I' upd_same
      have st : s'.heap.IsListIter it l 0 := ⟨_, eo, rfl, rfl⟩
      have e1 : upd H it (ItO l it 0) it = some (ItO l it 0) := upd_same
      have fp := ItX.inv_fp I' e1 (Nat.le_trans I.sz hs)
      have I2 := ItX.inv_drop I' (by unfold ItO at e1; exact e1)
      rw [ItX.dropH_upd hn] at fp I2
      unfold PySem.W.OwitIt
      exact wpAny_specialOf (name := Str.ofString "__next__") st.typeIs slot_listiter_next.lookup (h it s' I2 st fp)
/-- for x in o, [.. for x in o]: o such an instance -/
def iOwn (K : PySem.W.Frag) (C : Addr) (nm : Str) (te : TE) : TI := fun σ H R => te σ H fun x H1 => ∃ a dx fs l zs, x = V.ref a ∧ H1 a = some (.ins C dx fs) ∧ fs.lookup nm = some (V.ref l) ∧ SqL K H1 l zs ∧ R (Itl K l) H1
theorem pi_own {tg e : Expr} {te : TE} (hr : Room k X.A) (T : OwnI X.K C f) (F : FnN X.prog X.w X.K X.mg X.base CX0 k f fd ps (spIter X.K C nm)) (hb : Binds X.K fd ps []) (he : PE X e te) : PI X tg e (iOwn X.K C nm te) := by
  refine ⟨fun pins s σ H R I h => ?_⟩
  refine thn (he.run pins s σ H _ I h) fun u s1 ⟨x, H1, I1, r1, a, dx, fs, l, zs, ex, ha, hl, hz, q⟩ => ?_
  subst ex
  cases r1
  refine own_iter ⟨hr, rfl⟩ T F hb I1 ha hl hz fun it s' I' st fp => ?_
  refine ⟨it, [it], _, _, H1, rfl, I', turn_list l it, st, fun b hb => ?_, q⟩
  have e : b = it := by simpa using hb
  rw [e]
  exact fp
theorem hint_own {M : Model} {A : Around} {E : Value → Shared → Prop} {Q : Bool → Shared → Prop} {K : PySem.W.Frag} {ox : Obj} {od : Option Obj} {a : Addr} (n1 : PySem.W.findIn K (.ref C) "__len__" = some none) (n2 : PySem.W.findIn K (.ref C) "__length_hint__" = some none) (hK : K.In s.heap) (J : PySem.W.InstAt s.heap a ox C od) (h : Q true s) :
    wpAny M A (Builtin.List.listLengthHint (.ref a)) Q E s := by
  unfold Builtin.List.listLengthHint
  refine wpAny_bind (wpAny_bind (J.type.here ((PySem.W.looks_findIn hK n1).here ?_)))
  refine PySem.W.KFB.if_not rfl ?_
  refine PySem.W.KFB.if_not rfl ?_
  refine wpAny_bind (wpAny_bind (J.type.here ((PySem.W.looks_findIn hK n2).here ?_)))
  exact wpAny_pure h
theorem fp_upd {q it : Addr} {o : HO} (fp : FpOk X pins H it) (h : it ≠ q) : FpOk X pins (upd H q o) it :=
  ⟨by rw [upd_ne h]; exact fp.1, fp.2.1, fp.2.2.1, fp.2.2.2.1, fp.2.2.2.2.1, fp.2.2.2.2.2⟩
theorem li_loop {Rs : Result → Shared → Prop} {A1 : Around} {q it l : Addr} {zs : List V} (hh : A1.in1.handled = none) (hq : H q = none) (hl : SqL X.K H l zs) (hne : it ≠ q)
    (hdone : ∀ s, Inv X pins σ (upd H q (.lst zs)) s → Rs (.ok (.ret .none)) s) : ∀ (m i : Nat) (s : Shared), m = zs.length - i → i ≤ zs.length → Inv X pins σ (upd H q (.lst (zs.take i))) s → FpOk X pins H it → s.heap.IsListIter it l i →
      codeAny (model X.prog X.w) A1 (.builtin "list.extend.loop" ⟨[.ref q, .ref it, .none], []⟩) Rs s := by
  intro m
  induction m with
  | zero =>
    intro i s hm hi I fp st
    have e : i = zs.length := by omega
    subst e
    rw [List.take_length] at I
    refine codeAny_builtin PySem.F.entry_extend_loop ?_
    rw [Around.under_plainId PySem.F.plain_extend_loop _]
    show wpAny _ A1.in1 (pyNext (.ref it) >>= _) _ _ s
    have sq : SqL X.K (upd H q (.lst zs)) l zs := (same_new hq).seq hl
    obtain ⟨its, rv, pl, hz⟩ := I.list sq
    have hlen := rv.length
    have fp' := fp_upd (o := .lst zs) fp hne
    refine wpAny_bind (wpAny_pyNext_list_end hh st pl.isList (by simp; omega) fun h' eb => ?_)
    exact wpAny_pure (hdone _ (I.turned (t' := s.toks) (fun b o hb e => eb b o hb e) fp'.1 fp'.2.1 fp'.2.2.2.1 fp'.2.2.2.2.1 fp'.2.2.2.2.2))
  | succ m ih =>
    intro i s hm hi I fp st
    have hlt : i < zs.length := by omega
    refine codeAny_builtin PySem.F.entry_extend_loop ?_
    rw [Around.under_plainId PySem.F.plain_extend_loop _]
    show wpAny _ A1.in1 (pyNext (.ref it) >>= _) _ _ s
    have sq : SqL X.K (upd H q (.lst (zs.take i))) l zs := (same_new hq).seq hl
    obtain ⟨its, rv, pl, hz⟩ := I.list sq
    obtain ⟨u, hu, ru⟩ := rv.get (List.getElem?_eq_getElem hlt)
    have fp' := fp_upd (o := .lst (zs.take i)) fp hne
    refine wpAny_bind (wpAny_pyNext_list_item st pl.isList (x := u) (by simpa using hu) fun h' st' sb => ?_)
    have I1 : Inv X pins σ (upd H q (.lst (zs.take i))) { s with heap := h' } := I.turned (t' := s.toks) (fun b o hb e => (sb.2 b hb).trans e) fp'.1 fp'.2.1 fp'.2.2.2.1 fp'.2.2.2.2.1 fp'.2.2.2.2.2
    show wpAny _ A1.in1 (updateSeq q (·.push u) >>= _) _ _ _
    obtain ⟨z, its2, k2, r2, hl2, e2⟩ := I1.lstM upd_same
    have hsz : (zs.take i).length < sizeLine := by
      rw [List.length_take]
      omega
    refine wpAny_bind (wpAny_updateSeq e2 rfl (wpAny_pure ⟨plainId_quiet PySem.F.plain_extend_loop _, ?_⟩) (by rw [List.size_toArray]; omega) (by show (its2.toArray.push u).size ≤ sizeLine + 1; rw [Array.size_push, List.size_toArray]; omega))
    have I2 := I1.lset (f := (·.push u)) (its' := its2 ++ [u]) (t' := s.toks) upd_same e2 (by simp) (r2.append (.cons ru .nil)) (by rw [List.length_append, List.length_singleton]; omega)
    rw [upd_upd] at I2
    have et : zs.take i ++ [zs[i]] = zs.take (i + 1) := by
      rw [List.take_add_one, List.getElem?_eq_getElem hlt]
      rfl
    rw [et] at I2
    refine ih (i + 1) _ (by omega) (by omega) I2 fp ?_
    obtain ⟨o, ho, hc, hd⟩ := st'
    refine ⟨o, ?_, hc, hd⟩
    show (h'.update q _).get? it = some o
    rw [Heap.get?_update_ne _ _ _ _ hne]
    exact ho
/-- list(o) -/
def rListOwn (K : PySem.W.Frag) (C : Addr) (nm : Str) : List V → Hp → VK → Prop := fun xs H Q => ∃ a dx fs l zs, xs = [V.ref a] ∧ H a = some (.ins C dx fs) ∧ fs.lookup nm = some (V.ref l) ∧ SqL K H l zs ∧ ∀ q, H q = none → Q (.ref q) (upd H q (.lst zs))
theorem call_listOwn2 (hc : X.calm = true) (hr : Room (k + 2) X.A) (T : OwnI X.K C f) (n1 : PySem.W.findIn X.K (.ref C) "__len__" = some none) (n2 : PySem.W.findIn X.K (.ref C) "__length_hint__" = some none)
    (F : FnN X.prog X.w X.K X.mg X.base CX0 k f fd ps (spIter X.K C nm)) (hb : Binds X.K fd ps []) : CallR X (.type "list") (rListOwn X.K C nm) := by
  intro pins s σ H xs us Q I rv h
  obtain ⟨a, dx, fs, l, zs, rfl, ha, hl, hz, q⟩ := h
  obtain ⟨u, rfl, ru⟩ := rv.one
  cases ru
  have sb : Sub X k X.A.in1.in1 := (Sub.in1 (Sub.in1 (⟨hr, rfl⟩ : Sub X (k + 2) X.A)))
  refine callType_codes (Q₁ := fun obj s₁ => obj = .ref s.heap.objs.size ∧ s₁ = { s with heap := s.heap.push { cls := .type "list", data := .seq #[] } }) PySem.F.called_list (PySem.F.typeCall_list_1 _) PySem.F.entry_list_init
    (code_list_new _ ⟨rfl, rfl⟩) fun obj s₁ h₁ => ?_
  obtain ⟨rfl, rfl⟩ := h₁
  have hS : (s.heap.push { cls := .type "list", data := .seq #[] }).get? s.heap.objs.size = some { cls := .type "list", data := .seq #[] } := Heap.get?_push_size _ rfl
  refine ⟨⟨_, hS, rfl⟩, PySem.F.args_list_init_2 _ _, ?_⟩
  have fr : H s.heap.objs.size = none := I.hok.fresh (Nat.le_refl _)
  have I1 : Inv X pins σ (upd H s.heap.objs.size (.lst [])) { s with heap := s.heap.push { cls := .type "list", data := .seq #[] } } := I.lnew (its := []) (t' := s.toks) .nil (Nat.zero_le _)
  show wpAny _ _ (do let old ← Builtin.List.listItems (.ref s.heap.objs.size); Builtin.List.listUpdate (.ref s.heap.objs.size) (fun _ => #[]); letGo old.toList.reverse; Builtin.List.listExtendWith (.ref s.heap.objs.size) (.ref a) .none) _ _ _
  refine wpAny_bind ?_
  unfold Builtin.List.listItems
  refine wpAny_bind (wpAny_seqItems hS rfl (wpAny_pure ?_))
  show wpAny _ _ (updateSeq s.heap.objs.size (fun _ => #[]) >>= fun _ => letGo (#[] : Array Value).toList.reverse >>= fun _ => Builtin.List.listExtendWith (.ref s.heap.objs.size) (.ref a) .none) _ _ _
  refine wpAny_bind (wpAny_updateSeq hS rfl ?_)
  have I2 := I1.lset (f := fun _ => #[]) (its := []) (its' := []) (ys := []) (t' := s.toks) upd_same hS rfl .nil (Nat.zero_le _)
  rw [upd_upd] at I2
  refine wpAny_bind (wpAny_letGo ?_)
  generalize hp : s.heap.objs.size = p at fr I2 ⊢
  have ha2 : upd H p (.lst []) a = some (.ins C dx fs) := (same_new fr) _ _ ha
  have hz2 : SqL X.K (upd H p (.lst [])) l zs := (same_new fr).seq hz
  have hne : p ≠ a := fun e => by rw [e, ha] at fr; cases fr
  obtain ⟨mA, J, _⟩ := ins_get I2.hok ha2
  obtain ⟨od, J, _⟩ := J.look
  unfold Builtin.List.listExtendWith
  refine wpAny_bind (J.type.here ?_)
  have h1 : Builtin.List.listSameRef (.ref p) (.ref a) = false := by simp [Builtin.List.listSameRef, hne]
  have h2 : (Value.ref C == Value.type "list") = false := rfl
  have h3 : (Value.ref C == Value.type "tuple") = false := rfl
  simp only [h1, h2, h3, Bool.or_false, Bool.false_eq_true, if_false]
  refine wpAny_bind (own_iter sb T F hb I2 ha2 hl hz2 fun it s' I' st fp => ?_)
  have hitp : it ≠ p := fun e => by rw [e] at fp; have z := fp.1; rw [upd_same] at z; cases z
  obtain ⟨mA', J', _⟩ := ins_get I'.hok ha2
  obtain ⟨od', J', _⟩ := J'.look
  have fpH : FpOk X pins H it := ⟨by have z := fp.1; rw [upd_ne hitp] at z; exact z, fp.2.1, fp.2.2.1, fp.2.2.2.1, fp.2.2.2.2.1, fp.2.2.2.2.2⟩
  have loop : ∀ s2 : Shared, Inv X pins σ (upd H p (.lst [])) s2 → s2.heap.IsListIter it l 0 → codeAny (model X.prog X.w) X.A.in1 (.builtin "list.extend.loop" ⟨[.ref p, .ref it, .none], []⟩) (wants (fun r s₂ => r = .none ∧ EP X pins σ Q (.ref p) s₂) X.xe) s2 :=
    fun s2 J2 st2 => li_loop (A1 := X.A.in1) (zs := zs) (by exact I.ok.hd hc) fr hz hitp (fun s3 I3 => ⟨rfl, .ref p, _, I3, rfl, q p fr⟩) zs.length 0 s2 rfl (Nat.zero_le _) J2 fpH st2
  refine wpAny_bind (wpAny_holding (hint_own n1 n2 I'.kIn J' ?_))
  obtain ⟨z, its, k2, r3, hl3, e3⟩ := I'.lstM upd_same
  cases r3
  refine wpAny_ite_split (fun _ => ?_) (fun _ => wpAny_pure ⟨plainId_quiet PySem.F.plain_extend_loop _, loop _ I' st⟩)
  refine wpAny_bind (wpAny_rule ?_)
  refine wpAny_bind ?_
  show wpAny _ _ (updateSeq p (·.push .none) >>= fun _ => updateSeq p (·.pop)) _ _ _
  refine wpAny_bind (wpAny_updateSeq e3 rfl ?_)
  have I4 := I'.lset (f := (·.push Value.none)) (its' := [Value.none]) (ys := [.non]) (t' := s'.toks) upd_same e3 (by simp) (.cons rfl .nil) (by rw [List.length_singleton, sizeLine_eq]; decide)
  obtain ⟨z4, its4, k4, r4, hl4, e4⟩ := I4.lstM upd_same
  obtain ⟨u4, rfl, ru4⟩ := r4.one
  refine wpAny_updateSeq e4 rfl ?_ (by show 1 ≤ sizeLine; rw [sizeLine_eq]; decide) (by show 0 ≤ sizeLine + 1; exact Nat.zero_le _)
  refine wpAny_pure ⟨plainId_quiet PySem.F.plain_extend_loop _, loop _ ?_ ?_⟩
  · have I5 := I4.lset (f := (·.pop)) (its := [u4]) (its' := []) (ys := []) (t' := s'.toks) upd_same e4 (by rfl) .nil (Nat.zero_le _)
    rw [upd_upd, upd_upd] at I5
    exact I5
  · obtain ⟨o, ho, hc', hd⟩ := st
    refine ⟨o, ?_, hc', hd⟩
    show ((s'.heap.update p _).update p _).get? it = some o
    rw [Heap.get?_update_ne _ _ _ _ hitp, Heap.get?_update_ne _ _ _ _ hitp]
    exact ho
/-! ### in, |, &, == by the class's own methods -/
def rInOwn (C : Addr) (sp : Sp) (E : XK) : R2 := fun x y H Q => ∃ a dx fs, y = V.ref a ∧ H a = some (.ins C dx fs) ∧ sp [.ref a, x] H (fun v H' => ∃ b, v = .bl b ∧ Q (.bl b) H') E
theorem op_inOwn {sp : Sp} (hs : PySem.W.findIn X.K (.ref C) "__contains__" = some (some (.ref f))) (hf : PySem.W.isFn X.K (.ref f) = true) (F : FnOk X.prog X.w X.K X.mg X.base CX k f fd ps sp) (hr : Room k X.A) (hb : Binds X.K fd ps []) (hx : Passes CX X E) :
    OpR X (compareOp .In) (rInOwn C sp E) := by
  intro pins s σ H x y v u Q I rx ry h
  obtain ⟨a, dx, fs, rfl, ha, hsp⟩ := h
  cases ry
  obtain ⟨mA, J, _⟩ := ins_get I.hok ha
  obtain ⟨od, J, _⟩ := J.look
  obtain ⟨m, hF⟩ := I.fr
  refine PySem.W.in_K hF I.ok.mod.kin J hs hf ?_
  refine thn (run_fn (us := [.ref a, v]) (vs := [.ref a, x]) (dvs := []) (ds := []) F hr hb .nil hx I (.cons rfl (.cons rx .nil)) hsp) fun r s' hq => ?_
  obtain ⟨z, H', I', rz, b, rfl, q⟩ := hq
  cases rz
  exact wpAny_truthy_bool ⟨.bl b, H', I', rfl, q⟩
def rBinOwn (C : Addr) (sp : Sp) (E : XK) : R2 := fun x y H Q => ∃ a b dx dy fs gs, x = V.ref a ∧ y = V.ref b ∧ H a = some (.ins C dx fs) ∧ H b = some (.ins C dy gs) ∧ sp [.ref a, .ref b] H Q E
theorem op_binOwn {op : Operator} {sp : Sp} (hc : PySem.W.selfFirst X.K C = true) (hs : PySem.W.findIn X.K (.ref C) (PySem.dunder op.info.2) = some (some (.ref f))) (hf : PySem.W.isFn X.K (.ref f) = true) (F : FnOk X.prog X.w X.K X.mg X.base CX k f fd ps sp) (hr : Room k X.A) (hb : Binds X.K fd ps []) (hx : Passes CX X E) :
    OpR X (binaryOp op) (rBinOwn C sp E) := by
  intro pins s σ H x y v u Q I rx ry h
  obtain ⟨a, b, dx, dy, fs, gs, rfl, rfl, ha, hb', hsp⟩ := h
  cases rx
  cases ry
  obtain ⟨mA, J, _⟩ := ins_get I.hok ha
  obtain ⟨od, J, _⟩ := J.look
  obtain ⟨mB, J', _⟩ := ins_get I.hok hb'
  obtain ⟨od', J', _⟩ := J'.look
  obtain ⟨m, hF⟩ := I.fr
  refine PySem.W.binop_K hF I.ok.mod.kin J J'.type hc hs hf ?_
  refine thn (run_fn (us := [.ref a, .ref b]) (vs := [.ref a, .ref b]) (dvs := []) (ds := []) F hr hb .nil hx I (.cons rfl (.cons rfl .nil)) hsp) fun r s' hq => ?_
  obtain ⟨z, H', I', rz, q⟩ := id hq
  cases z <;> first
    | (cases rz; exact hq)
    | (obtain ⟨t, rfl⟩ := rz; exact hq)
/-- o == v, v anything whose type is told -/
def rEqOwn (K : PySem.W.Frag) (C : Addr) (sp : Sp) (E : XK) : R2 := fun x y H Q => ∃ a dx fs t, x = V.ref a ∧ H a = some (.ins C dx fs) ∧ TyX K H y t ∧ PySem.W.notFirst K C t = true ∧ sp [.ref a, y] H Q E
theorem op_eqOwn {sp : Sp} (hs : PySem.W.findIn X.K (.ref C) "__eq__" = some (some (.ref f))) (hf : PySem.W.isFn X.K (.ref f) = true) (F : FnOk X.prog X.w X.K X.mg X.base CX k f fd ps sp) (hr : Room k X.A) (hb : Binds X.K fd ps []) (hx : Passes CX X E)
    (hty : ∀ {pins σ H s y u t}, Inv X pins σ H s → RelV y u → TyX X.K H y t → PySem.W.Looks (model X.prog X.w) s.heap (typeOf u) t) : OpR X (compareOp .Eq) (rEqOwn X.K C sp E) := by
  intro pins s σ H x y v u Q I rx ry h
  obtain ⟨a, dx, fs, t, rfl, ha, ty, hn, hsp⟩ := h
  cases rx
  obtain ⟨mA, J, _⟩ := ins_get I.hok ha
  obtain ⟨od, J, _⟩ := J.look
  obtain ⟨m, hF⟩ := I.fr
  show wpAny (model X.prog X.w) X.A (richCompare .Eq (.ref a) u) (EP X pins σ Q) X.xe s
  refine PySem.W.cmp_K (op := .Eq) (tb := t) hr.units0 hF I.ok.mod.kin J (hty I ry ty) hn hs hf ?_
  refine thn (run_fn (us := [.ref a, u]) (vs := [.ref a, y]) (dvs := []) (ds := []) F hr hb .nil hx I (.cons rfl (.cons ry .nil)) hsp) fun r s' hq => ?_
  obtain ⟨z, H', I', rz, q⟩ := id hq
  cases z <;> first
    | (cases rz; exact hq)
    | (obtain ⟨t, rfl⟩ := rz; exact hq)
end
end VX
set_option maxRecDepth 100000
set_option maxHeartbeats 4000000
/-! Errors with fields: made, raised, caught, asked; methods that may raise, called by place and by keyword. -/
namespace VX
open PySem PySem.Spec PyProof.Rows L2
/-! ### isinstance of a caught error that has fields -/
structure ExcD (K : PySem.W.Frag) (D : Addr) : Prop where
  c : ExcC K D
  cls : (PySem.W.clsIn K D).isSome = true
def rIsD (K : PySem.W.Frag) (D a : Addr) (cls : Value) (d : Option Addr) : List V → Hp → VK → Prop := fun xs H Q => ∃ (c : V) (cv : Value) (b : Bool) (dd : Addr) (fs : List (Str × V)), xs = [.ref a, c] ∧ cls = .ref D ∧ d = some dd ∧ H dd = some (.xd fs) ∧ (∀ u, RelV c u → u = cv) ∧ PySem.W.kitOne K (.ref D) cv = some b ∧ Q (.bl b) H
theorem call_isD {X : Cx} {a D : Addr} {oe : Obj} {cls : Value} {d : Option Addr} {pn : List (Addr × Obj)} (C : ExcD X.K D) (hz : Zc cls d oe) (hf : ∃ vs, oe.data = .fields vs) :
    CallR (X.suite a ((a, oe) :: pn)) (.builtin "isinstance") (rIsD X.K D a cls d) := by
  intro pins s σ H xs us Q I r h
  obtain ⟨c, cv, b, dd, fs, rfl, rfl, ed, hdd, hcv, e, q⟩ := h
  obtain ⟨u1, u2, rfl, rx, rt⟩ := vals2 r
  cases rx
  have ec := hcv _ rt
  subst ec
  obtain ⟨hget, _⟩ := I.pin (a, oe) (List.mem_append.mpr (.inl List.mem_cons_self))
  obtain ⟨vs, hv⟩ := hf
  have ho : ObjOk X.prog X.w H s.heap dd (.xd fs) := I.hok dd _ hdd
  obtain ⟨mA, hns, _⟩ := ho
  obtain ⟨od, ho, hl⟩ := lookIn_ns hns
  have J : PySem.W.InstAt s.heap a oe D (some od) := ⟨hget, hz.1, by unfold PySem.W.notCls; rw [hv] <;> rfl, by rw [hz.2, ed]; exact ho⟩
  exact PySem.W.kia_one (PySem.W.kitx_exc C.cls C.c.hg C.c.hk C.c.hs C.c.ha C.c.hn C.c.ht C.c.hm) I.kIn J e (fun z => nomatch z) fun tk => ⟨.bl b, H, I.kept (t' := tk) fun _ _ z => z, rfl, q⟩
theorem i_isD {K : PySem.W.Frag} {D a dd : Addr} {fs : List (Str × V)} {H : Hp} {Q : VK} {c : V} {cv : Value} {b : Bool} (hd : H dd = some (.xd fs)) (hc : ∀ u, RelV c u → u = cv) (e : PySem.W.kitOne K (.ref D) cv = some b) (q : Q (.bl b) H) :
    rIsD K D a (.ref D) (some dd) [.ref a, c] H Q := ⟨c, cv, b, dd, fs, rfl, rfl, rfl, hd, hc, e, q⟩
theorem i_xf {a C dd : Addr} {n : Str} {fs : List (Str × V)} {v : V} {σ : L2.St} {H : Hp} {Q : VK} {i : Nat} (hv : σ[i]? = some (some (.ref a))) (hd : H dd = some (.xd fs)) (hl : fs.lookup n = some v) (q : Q v H) :
    tXf a (.ref C) (some dd) C n (tVar i) σ H Q := ⟨.ref a, hv, rfl, rfl, dd, fs, v, rfl, hd, hl, q⟩
theorem kbn_of {K : PySem.W.Frag} {x qual : Str} {st : Stmt} {f : Addr} {fd : FuncData} {ps ks : List Str} {n : Nat} (F : Fun K x qual st f fd)
    (h : ∀ (kV doc pm : Value) (an : Option Addr) (cdv ct : Value) (us ws : List Value), us.length = n → ws.length = ks.length → bindArgs (PySem.W.fnOf x qual (defArgs st) (defBody st) (defScope st) .none kV doc pm an cdv ct) ⟨us, ks.zip ws⟩ = pure (ps.zip (us ++ ws))) :
    KBn K fd ps n ks (fun us ws => us ++ ws) (fun us ws => us ++ ws) := by
  obtain ⟨oc, od, kV, doc, pm, an, cdv, ct, osl, rfl, lk, hcd⟩ := F.ex
  exact ⟨fun s us ws _ l1 l2 => .of_eq (h kV doc pm an cdv ct us ws l1 l2), fun r rz => r.append rz⟩
/-! ### an error's making -/
section
variable {P : Program} {w : World} {K : PySem.W.Frag} {mg : Str → Option Value} {base : Heap}
/-- def __init__(self, x): self.x = x -/
def spX1 (K : PySem.W.Frag) (n : Str) : Sp := fun vs H Q _ => ∃ a C v, vs = [.ref a, v] ∧ OexC K C ∧ PySem.W.findIn K (.ref C) n = some none ∧ H a = some (exo a C none) ∧
  ∀ dx, H dx = none → dx ≠ a → Q .non (upd (upd H dx (exd dx [(n, v)])) a (exo a C (some dx)))
end
section
variable {X : Cx} {CX : CXT} {k : Nat} {f C : Addr} {fd : FuncData} {ps : List Str} {e : Expr} {es : List Expr} {ta : TA} {x n : Str} {p pos : Pos}
/-- a reading of arguments, closed under weaker ends -/
def tUp (ta : TA) : TA := fun σ H R => ∃ S : List V → Hp → Prop, ta σ H S ∧ ∀ vs H1, S vs H1 → R vs H1
theorem pa_up (ha : PA X es ta) : PA X es (tUp ta) := by
  refine ⟨fun pos pins s σ H R I h => ?_⟩
  obtain ⟨S, h1, h2⟩ := h
  exact thn (ha.run pos pins s σ H S I h1) fun us s1 ⟨vs, H1, I1, r, q⟩ => ⟨vs, H1, I1, r, h2 _ _ q⟩
/-- C(v), one field -/
def tMk1 (C : Addr) (n : Str) (ta : TA) : L2.St → Hp → XK → Prop := fun σ H Q => ta σ H fun vs H1 => ∃ v, vs = [v] ∧ ∀ d H', H1 d = none → Same H1 H' → H' d = some (.xd [(n, v)]) → Q (.ref C) (some d) H'
theorem pmk1 (T : OexC X.K C) (iC : PySem.W.findIn X.K (.ref C) "__init__" = some (some (.ref f))) (tI : PySem.W.typeIn X.K (.ref f) = some (.type "function")) (hn : PySem.W.findIn X.K (.ref C) n = some none)
    (F : FnOk X.prog X.w X.K X.mg X.base CX0 k f fd ps (spX1 X.K n)) (hr : Room (k + 1) X.A) (hb : Binds X.K fd ps []) (hg : Gl X x) (hm : X.mg x = some (.ref C)) (ha : PA X (e :: es) ta)
    (hdb : (x == ("__debug__" : Str)) = false := by decide) (he : starEach (e :: es) X.env = (false, eval e X.env) :: starEach es X.env := by rfl) (hpl : (backTo pos (starEach es X.env)).any (·.1) = false := by rfl) :
    PMk X (.Call (.Name x p) (e :: es) [] pos) (tMk1 C n ta) := by
  intro pins s σ H Q I h
  refine pmk_oex T iC tI F hr hb .nil pass0 hg hm (pa_up ha) hdb he hpl pins s σ H Q I ⟨_, h, ?_⟩
  rintro vs H1 ⟨v, rfl, q⟩
  refine ⟨by show 1 ≤ 1000; decide, fun a na => ⟨a, C, v, rfl, T, hn, upd_same, fun dx nd ne => ⟨rfl, dx, [(n, v)], upd_same, ?_, ?_, ?_⟩⟩⟩
  · rw [upd_ne ne, upd_same]
  · rw [upd_ne ne] at nd
    exact nd
  · rw [upd_ne ne] at nd
    refine q dx _ nd (fun b o hb => ?_) upd_same
    have b1 : b ≠ dx := ne_of_none hb nd
    have b2 : b ≠ a := ne_of_none hb na
    rw [upd_ne b1, del_ne b2, upd_ne b2, upd_ne b1, upd_ne b2]
    exact hb
theorem i_mk1 {σ : L2.St} {H : Hp} {Q : XK} (q : ta σ H fun vs H1 => ∃ v, vs = [v] ∧ ∀ d H', H1 d = none → Same H1 H' → H' d = some (.xd [(n, v)]) → Q (.ref C) (some d) H') : tMk1 C n ta σ H Q := q
theorem i_mk1v {v : V} {R : V → Prop} (q : R v) : ∃ u, [v] = [u] ∧ R u := ⟨v, rfl, q⟩
/-! ### methods that may raise, and by keyword -/
variable {sp : Sp} {E : L2.St → XK} {m : Str} {apos : Pos} {o : Expr} {to : TE} {tk : TA} {kws : List Keyword} {ks : List Str} {g : List Value → List Value → List Value} {gV : List V → List V → List V} {pl : Sem Bool}
/-- o.m(e, ..), what is raised is wished for at the slots -/
def tMthS (C : Addr) (m : Str) (sp : Sp) (E : L2.St → XK) (to : TE) (t : TA) : TE := fun σ H Q => to σ H fun x H1 => ∃ a dx fs, x = V.ref a ∧ H1 a = some (.ins C dx fs) ∧ fs.lookup m = none ∧ t σ H1 fun vs H2 => sp (.ref a :: vs) H2 Q (E σ)
theorem pe_mthS (he : PE X o to) (c : Cls X.K C) (hm : Meth X.K C m f) (F : FnOk X.prog X.w X.K X.mg X.base CX k f fd ps sp) (hr : Room k X.A) (hb : Binds X.K fd ps []) (hx : ∀ σ, PassesAt CX X σ (E σ)) (ha : PA X (e :: es) ta)
    (hst : starEach (e :: es) X.env = (false, eval e X.env) :: starEach es X.env := by rfl) (hpl : (backTo pos (starEach es X.env)).any (·.1) = false := by rfl)
    (ht : eval (.Call (.Attribute o m apos) (e :: es) [] pos) X.env = (do
      let ov ← eval o X.env
      standAt apos.atName
      let (f, first) ← holding [ov] (getMethod ov m pl)
      callWith pos f first (backTo pos (starEach (e :: es) X.env)) (backToKw pos (keywordEach [] X.env))) := by rfl) :
    PE X (.Call (.Attribute o m apos) (e :: es) [] pos) (tMthS C m sp E to ta) := by
  refine ⟨fun pins s σ H Q I h => ?_⟩
  refine PySem.W.methodCall_KW (pl := pl) (thn (he.run pins s σ H _ I h) fun u s1 hu => ?_) ht
  obtain ⟨x, H1, I1, rx, a, dx, fs, rfl, ea, l, q⟩ := hu
  cases rx
  refine getmeth_ok I1 ea c hm l ?_
  refine PySem.W.callWith_K (first := [.ref a]) (h₀ := X.base) I.ok.mod.kin hm.kp (thn (ha.run pos pins s1 σ H1 _ I1 q) fun us s2 hu2 => ?_) hst hpl
  obtain ⟨vs, H2, I2, r, q2⟩ := hu2
  exact ⟨I2.kIn, run_fnS (us := .ref a :: us) (vs := .ref a :: vs) F hr hb (hx σ) I2 (.cons rfl r) q2⟩
/-- o.m(k = v, ..) -/
def tMthK (C : Addr) (m : Str) (n : Nat) (sp : Sp) (gV : List V → List V → List V) (E : L2.St → XK) (to : TE) (tk : TA) : TE := fun σ H Q => to σ H fun x H1 => ∃ a dx fs, x = V.ref a ∧ H1 a = some (.ins C dx fs) ∧ fs.lookup m = none ∧
  tk σ H1 fun zs H2 => zs.length = n ∧ sp (gV [.ref a] zs) H2 Q (E σ)
theorem pe_mthK (he : PE X o to) (c : Cls X.K C) (hm : Meth X.K C m f) (F : FnOk X.prog X.w X.K X.mg X.base CX k f fd ps sp) (hr : Room k X.A) (hb : KBn X.K fd ps 1 ks g gV) (hx : ∀ σ, PassesAt CX X σ (E σ)) (hkw : PK X kws tk)
    (hall : (backToKw pos (keywordEach kws X.env)).all (·.1.isSome) = true := by rfl) (hks : (backToKw pos (keywordEach kws X.env)).filterMap (·.1) = ks := by rfl)
    (hpl : ((backTo pos (starEach [] X.env)).any (·.1) || (backToKw pos (keywordEach kws X.env)).any (·.1.isNone)) = false := by rfl)
    (ht : eval (.Call (.Attribute o m apos) [] kws pos) X.env = (do
      let ov ← eval o X.env
      standAt apos.atName
      let (f, first) ← holding [ov] (getMethod ov m pl)
      callWith pos f first (backTo pos (starEach [] X.env)) (backToKw pos (keywordEach kws X.env))) := by rfl) :
    PE X (.Call (.Attribute o m apos) [] kws pos) (tMthK C m ks.length sp gV E to tk) := by
  refine ⟨fun pins s σ H Q I h => ?_⟩
  refine PySem.W.methodCall_KW (pl := pl) (thn (he.run pins s σ H _ I h) fun u s1 hu => ?_) ht
  obtain ⟨x, H1, I1, rx, a, dx, fs, rfl, ea, l, q⟩ := hu
  cases rx
  refine getmeth_ok I1 ea c hm l ?_
  refine PySem.W.callWith_KW0 (first := [.ref a]) (h₀ := X.base) I.ok.mod.kin hm.kp hall (thn (hkw.run pos pins s1 σ H1 _ I1 q) fun ws s2 hu2 => ?_) hpl
  obtain ⟨zs, H2, I2, rz, l2, q2⟩ := hu2
  refine ⟨I2.kIn, ?_⟩
  rw [hks]
  have r2 := hb.rel (.cons rfl .nil : Vals [V.ref a] [Value.ref a]) rz
  refine wpAny_call (codeAny_mono (F.run X.A X.stack s2 H2 ⟨[.ref a] ++ [], ks.zip ws⟩ (g [.ref a] ws) (gV [.ref a] zs) Q (E σ) hr I2.env0 (hb.to s2 [.ref a] ws I2.kIn rfl (rz.length.symm.trans l2)) r2 q2) fun r s' hq => ?_)
  cases r with
  | error e => exact hx σ pins H2 s2 e s' I2 hq
  | ok fl =>
    cases fl with
    | ret u => exact I2.after hq
    | next => exact False.elim hq
    | brk => exact False.elim hq
    | cont => exact False.elim hq
end
section
variable {C : Addr} {m n : Nat} {sp : Sp} {gV : List V → List V → List V} {E : XK} {tk ta : TA} {σ : L2.St} {H : Hp} {Q : VK} {to : TE} {f : Str}
theorem i_makeK0 (q : tk σ H fun zs H2 => zs.length = m ∧ ∀ x dx, H2 x = none → H2 dx = none → dx ≠ x → sp (gV [.ref x] zs) (upd (upd H2 dx (.own x)) x (.ins C dx [])) (fun v H3 => v = .non ∧ Q (.ref x) H3) E) : tMakeK C 0 m sp gV E tNil tk σ H Q := by
  show tk σ H fun zs H2 => ([] : List V).length = 0 ∧ zs.length = m ∧ ∀ x dx, H2 x = none → H2 dx = none → dx ≠ x → sp (gV [.ref x] zs) (upd (upd H2 dx (.own x)) x (.ins C dx [])) (fun v H3 => v = .non ∧ Q (.ref x) H3) E
  simp only [List.length_nil, true_and]
  exact q
theorem i_len1 {v : V} {R : Prop} (q : R) : [v].length = (1 : Nat) ∧ R := ⟨rfl, q⟩
theorem i_mthK {E : L2.St → XK} (q : to σ H fun x H1 => ∃ a dx fs, x = V.ref a ∧ H1 a = some (.ins C dx fs) ∧ fs.lookup f = none ∧ tk σ H1 fun zs H2 => zs.length = n ∧ sp (gV [.ref a] zs) H2 Q (E σ)) : tMthK C f n sp gV E to tk σ H Q := q
theorem i_mthS {E : L2.St → XK} (q : to σ H fun x H1 => ∃ a dx fs, x = V.ref a ∧ H1 a = some (.ins C dx fs) ∧ fs.lookup f = none ∧ ta σ H1 fun vs H2 => sp (.ref a :: vs) H2 Q (E σ)) : tMthS C f sp E to ta σ H Q := q
end
end VX
set_option maxRecDepth 100000
set_option maxHeartbeats 4000000
/-! Data on the heap: what stays, of which type it is, how deep and wide. -/
namespace VX
open PySem PySem.Spec PyProof.Rows L2
theorem same_sqT {K : PySem.W.Frag} {H H' : Hp} {a : Addr} {xs : List V} (e : Same H H') (h : SqT K H a xs) : SqT K H' a xs := by
  rcases h with (h | ⟨o, h⟩) | h
  · exact .inl (.inl (e _ _ h))
  · exact .inl (.inr ⟨o, e _ _ h⟩)
  · exact .inr h
mutual
theorem dp_mono {K : PySem.W.Frag} {H H' : Hp} (e : Same H H') : ∀ (d : PyData) (v : V), Dp K H v d → Dp K H' v d
  | .none, _, h => by cases h; exact .non
  | .bool b, _, h => by cases h; exact .bl b
  | .int i, _, h => by cases h; exact .int i
  | .str x, _, h => by cases h; exact .str x
  | .list ds, _, h => by
    cases h with
    | lst hs ha => exact .lst (e.seq hs) (dpa_mono e ds _ ha)
  | .tuple ds, _, h => by
    cases h with
    | tup hs ha => exact .tup (same_sqT e hs) (dpa_mono e ds _ ha)
  | .dict _, _, h => by cases h
theorem dpa_mono {K : PySem.W.Frag} {H H' : Hp} (e : Same H H') : ∀ (ds : List PyData) (vs : List V), DpAll K H vs ds → DpAll K H' vs ds
  | [], _, h => by cases h; exact .nil
  | d :: ds, _, h => by
    cases h with
    | cons h1 h2 => exact .cons (dp_mono e d _ h1) (dpa_mono e ds _ h2)
end
theorem Dp.mono' {K : PySem.W.Frag} {H H' : Hp} {v : V} {d : PyData} (h : Dp K H v d) (e : Same H H') : Dp K H' v d := dp_mono e d v h
theorem dpa_len {K : PySem.W.Frag} {H : Hp} : ∀ {vs : List V} {ds : List PyData}, DpAll K H vs ds → vs.length = ds.length
  | _, _, .nil => rfl
  | _, _, .cons _ t => by rw [List.length_cons, List.length_cons, dpa_len t]
theorem dpa_get {K : PySem.W.Frag} {H : Hp} : ∀ {vs : List V} {ds : List PyData} {i : Nat} {d : PyData}, DpAll K H vs ds → ds[i]? = some d → ∃ v, vs[i]? = some v ∧ Dp K H v d
  | _, _, _, _, .nil, e => by simp at e
  | _, _, 0, _, .cons h _, e => by
    simp at e
    subst e
    exact ⟨_, rfl, h⟩
  | _, _, i + 1, d, .cons _ t, e => by
    obtain ⟨v, h1, h2⟩ := dpa_get (i := i) (d := d) t (by simpa using e)
    exact ⟨v, by simpa using h1, h2⟩
theorem dpa_ints {K : PySem.W.Frag} {H : Hp} : ∀ ns : List Int, DpAll K H (ns.map V.int) (ns.map PyData.int)
  | [] => .nil
  | n :: ns => .cons (.int n) (dpa_ints ns)
theorem dp_ints {K : PySem.W.Frag} {H : Hp} {a : Addr} {ns : List Int} (h : SqL K H a (ns.map V.int)) : Dp K H (.ref a) (.list (ns.map PyData.int)) := .lst h (dpa_ints ns)
/-- a datum's type -/
def tn : PyData → String
  | .none => "NoneType"
  | .bool _ => "bool"
  | .int _ => "int"
  | .str _ => "str"
  | .list _ => "list"
  | .tuple _ => "tuple"
  | .dict _ => "dict"
theorem dp_ty {K : PySem.W.Frag} {H : Hp} {v : V} {d : PyData} (h : Dp K H v d) : TyX K H v (.type (tn d)) := by
  cases h with
  | non => exact .base .non
  | bl b => exact .base (.bl b)
  | int i => exact .base (.int i)
  | str x => exact .base (.str x)
  | lst hs _ =>
    rcases hs with (h | ⟨o, h⟩) | ⟨o, its, n, hk, hc, _⟩
    · exact .base (.lst h)
    · exact .base (.frz h)
    · exact .kList hk hc
  | tup hs _ =>
    rcases hs with (h | ⟨o, h⟩) | hk
    · exact .base (.tup h)
    · exact .fTuple h
    · obtain ⟨o, its, n, hk, hc, _⟩ := hk
      exact .kTuple hk hc
/-- isinstance of a datum and a built-in class -/
def isS (c a : String) : Bool := decide (a = c) || (decide (c = "int") && decide (a = "bool"))
def isB (c : String) (d : PyData) : Bool := isS c (tn d)
theorem kit_all : ∀ a ∈ (["NoneType", "bool", "int", "str", "list", "tuple"] : List String), ∀ c ∈ (["bool", "int", "str", "list", "tuple"] : List String), kitB a c = some (isS c a) := by decide +kernel
theorem tn_mem (d : PyData) (hd : ∀ k, d ≠ .dict k) : tn d ∈ (["NoneType", "bool", "int", "str", "list", "tuple"] : List String) := by
  cases d <;> first | (exfalso; exact hd _ rfl) | (simp only [tn, List.mem_cons, true_or, or_true])
theorem kit_dp {K : PySem.W.Frag} (c : String) (hc : c ∈ (["bool", "int", "str", "list", "tuple"] : List String)) (d : PyData) (hd : ∀ k, d ≠ .dict k) : PySem.W.kitOne K (.type (tn d)) (.type c) = some (isB c d) :=
  kit_ty (kit_all _ (tn_mem d hd) c hc)
theorem dp_nodict {K : PySem.W.Frag} {H : Hp} {v : V} {d : PyData} (h : Dp K H v d) : ∀ k, d ≠ .dict k := fun k e => by
  subst e
  cases h
theorem ty_looks {X : Cx} {pins : List (Addr × Obj)} {σ : L2.St} {H : Hp} {s : Shared} {y : V} {u t : Value} (I : Inv X pins σ H s) (r : RelV y u) (ty : TyX X.K H y t) : PySem.W.Looks (model X.prog X.w) s.heap (typeOf u) t := by
  obtain ⟨P, Z, p, _⟩ := kit_of I r ty
  exact Z.ty _ _ I.kIn p
/-! isinstance, read -/
section
variable {H : Hp} {Q : VK} {K : PySem.W.Frag}
theorem i_isi {x : V} {t : Value} {c : String} {b : Bool} (ty : TyX K H x t) (e : PySem.W.kitOne K t (.type c) = some b) (q : Q (.bl b) H) : rIsi K [x, .ty c] H Q := ⟨x, .ty c, t, .type c, b, rfl, .ty c, ty, e, q⟩
theorem i_isiD {x : V} {d : PyData} {c : String} (h : Dp K H x d) (hc : c ∈ (["bool", "int", "str", "list", "tuple"] : List String)) (q : Q (.bl (isB c d)) H) : rIsi K [x, .ty c] H Q := i_isi (dp_ty h) (kit_dp c hc d (dp_nodict h)) q
theorem kitAny_dp (d : PyData) (hd : ∀ k, d ≠ .dict k) : ∀ cs : List String, (∀ c ∈ cs, c ∈ (["bool", "int", "str", "list", "tuple"] : List String)) → PySem.W.kitAny K (.type (tn d)) (cs.map Value.type) = some (cs.any fun c => isB c d)
  | [], _ => rfl
  | c :: cs, h => by
    have h1 := kit_dp (K := K) c (h c List.mem_cons_self) d hd
    have h2 := kitAny_dp d hd cs fun x hx => h x (List.mem_cons_of_mem _ hx)
    refine kitAny_cons (b := isB c d) h1 (fun e => ?_) fun e => ?_
    · rw [List.any_cons, e, Bool.false_or]
      exact h2
    · rw [List.any_cons, e, Bool.true_or]
theorem clsv_all : ∀ cs : List String, Paired ClsV (cs.map V.ty) (cs.map Value.type)
  | [] => .nil
  | c :: cs => .cons (.ty c) (clsv_all cs)
theorem i_isiTD {x : V} {d : PyData} {tp : Addr} (cs : List String) (h : Dp K H x d) (ht : H tp = some (.tup (cs.map V.ty))) (hc : ∀ c ∈ cs, c ∈ (["bool", "int", "str", "list", "tuple"] : List String)) (q : Q (.bl (cs.any fun c => isB c d)) H) : rIsiT K [x, .ref tp] H Q :=
  ⟨x, tp, cs.map V.ty, .type (tn d), cs.map Value.type, _, rfl, ht, clsv_all cs, dp_ty h, kitAny_dp d (dp_nodict h) cs hc, q⟩
end
/-! depth and width of data -/
mutual
def dep : PyData → Nat
  | .list ds => depAll ds + 1
  | .tuple ds => depAll ds + 1
  | _ => 0
def depAll : List PyData → Nat
  | [] => 0
  | d :: ds => max (dep d) (depAll ds)
end
theorem dep_get : ∀ {ds : List PyData} {i : Nat} {d : PyData}, ds[i]? = some d → dep d ≤ depAll ds
  | [], _, _, e => by simp at e
  | x :: xs, 0, d, e => by
    simp at e
    subst e
    rw [depAll]
    exact Nat.le_max_left _ _
  | x :: xs, i + 1, d, e => by
    have h := dep_get (ds := xs) (i := i) (d := d) (by simpa using e)
    rw [depAll]
    exact Nat.le_trans h (Nat.le_max_right _ _)
/-! every list and tuple in it has at most n items -/
mutual
def nar (n : Nat) : PyData → Bool
  | .list ds => decide (ds.length ≤ n) && narAll n ds
  | .tuple ds => decide (ds.length ≤ n) && narAll n ds
  | _ => true
def narAll (n : Nat) : List PyData → Bool
  | [] => true
  | d :: ds => nar n d && narAll n ds
end
theorem nar_get {n : Nat} : ∀ {ds : List PyData} {i : Nat} {d : PyData}, narAll n ds = true → ds[i]? = some d → nar n d = true
  | [], _, _, _, e => by simp at e
  | x :: xs, 0, d, h, e => by
    simp at e
    subst e
    rw [narAll] at h
    exact (Bool.and_eq_true_iff.mp h).1
  | x :: xs, i + 1, d, h, e => by
    rw [narAll] at h
    exact nar_get (ds := xs) (i := i) (Bool.and_eq_true_iff.mp h).2 (by simpa using e)
theorem nar_ints {n : Nat} : ∀ ns : List Int, narAll n (ns.map PyData.int) = true
  | [] => rfl
  | k :: ns => by
    show (nar n (.int k) && narAll n (ns.map PyData.int)) = true
    rw [nar_ints ns]
    rfl
theorem dep_ints : ∀ ns : List Int, depAll (ns.map PyData.int) = 0
  | [] => rfl
  | k :: ns => by
    show max (dep (.int k)) (depAll (ns.map PyData.int)) = 0
    rw [dep_ints ns]
    rfl
theorem lay_ints : ∀ ns : List Int, PyData.canLayAll0 (ns.map PyData.int) = true
  | [] => rfl
  | k :: ns => by
    show (PyData.canLay0 (.int k) && PyData.canLayAll0 (ns.map PyData.int)) = true
    rw [lay_ints ns]
    rfl
theorem depth_ints : ∀ ns : List Int, PyData.depthAll (ns.map PyData.int) = 0
  | [] => rfl
  | k :: ns => by
    show max (PyData.depth (.int k)) (PyData.depthAll (ns.map PyData.int)) = 0
    rw [depth_ints ns]
    rfl
theorem shaped_ints (ns : List Int) : SeqAt.shaped (.list (ns.map PyData.int)) = true := by
  have h1 : PyData.canLay0 (.list (ns.map PyData.int)) = true := lay_ints ns
  have h2 : PyData.depth (.list (ns.map PyData.int)) ≤ 64 := by
    show PyData.depthAll (ns.map PyData.int) + 1 ≤ 64
    rw [depth_ints ns]
    decide
  exact Bool.and_eq_true_iff.mpr ⟨h1, decide_eq_true h2⟩
theorem eqvAll_ints : ∀ ns ms : List Int, PyData.eqvAll (ns.map PyData.int) (ms.map PyData.int) = decide (ns = ms)
  | [], [] => rfl
  | [], m :: ms => rfl
  | n :: ns, [] => rfl
  | n :: ns, m :: ms => by
    show (PyData.eqv (.int n) (.int m) && PyData.eqvAll (ns.map PyData.int) (ms.map PyData.int)) = _
    rw [eqvAll_ints ns ms]
    show ((n == m) && decide (ns = ms)) = decide (n :: ns = m :: ms)
    by_cases h : n = m
    · subst h
      by_cases h2 : ns = ms
      · subst h2
        simp
      · simp [h2]
    · simp [h]
theorem eqv_ints (ns ms : List Int) : PyData.eqv (.list (ns.map PyData.int)) (.list (ms.map PyData.int)) = decide (ns = ms) := eqvAll_ints ns ms
theorem i_eqInts {H : Hp} {Q : VK} {K : PySem.W.Frag} {a b : Addr} {ns ms : List Int} (ha : SqL K H a (ns.map V.int)) (hb : SqL K H b (ms.map V.int)) (q : Q (.bl (decide (ns = ms))) H) : rEqD K (.ref a) (.ref b) H Q :=
  ⟨_, _, dp_ints ha, dp_ints hb, shaped_ints ns, shaped_ints ms, by rw [eqv_ints]; exact q⟩
theorem i_neInts {H : Hp} {Q : VK} {K : PySem.W.Frag} {a b : Addr} {ns ms : List Int} (ha : SqL K H a (ns.map V.int)) (hb : SqL K H b (ms.map V.int)) (q : Q (.bl (!decide (ns = ms))) H) : rNeD K (.ref a) (.ref b) H Q :=
  ⟨_, _, dp_ints ha, dp_ints hb, shaped_ints ns, shaped_ints ms, by rw [eqv_ints]; exact q⟩
/-- a part of the heap with one thing left out -/
theorem same_del {H : Hp} {p : Addr} : Same (del H p) H := fun b o e => by
  by_cases hb : b = p
  · rw [hb, del_same] at e
    cases e
  · rw [del_ne hb] at e
    exact e
theorem del_of {H : Hp} {p a : Addr} {o : HO} (h : H a = some o) (n : a ≠ p) : del H p a = some o := by
  rw [del_ne n]
  exact h
/-- F is what stays; p turns -/
structure Ctx (F : Hp) (p : Addr) (o : HO) (H : Hp) : Prop where
  e : Same F H
  n : F p = none
  h : H p = some o
theorem Ctx.turn {F H : Hp} {p : Addr} {o o' : HO} (c : Ctx F p o H) : Ctx F p o' (upd H p o') := ⟨fun b u hb => by
  rw [upd_ne (ne_of_none hb c.n)]
  exact c.e b u hb, c.n, upd_same⟩
theorem Ctx.start {H : Hp} {p : Addr} {o : HO} (h : H p = some o) : Ctx (del H p) p o H := ⟨same_del, del_same, h⟩
theorem Ctx.new {F H : Hp} {p q : Addr} {o u : HO} (c : Ctx F p o H) (hq : H q = none) : Ctx (upd F q u) p o (upd H q u) := by
  have hqp : q ≠ p := fun z => by
    rw [z, c.h] at hq
    cases hq
  refine ⟨fun b x hb => ?_, by rw [upd_ne hqp.symm]; exact c.n, by rw [upd_ne hqp.symm]; exact c.h⟩
  by_cases z : b = q
  · subst z
    rw [upd_same] at hb ⊢
    exact hb
  · rw [upd_ne z] at hb ⊢
    exact c.e b x hb
theorem Ctx.grow {F H H' : Hp} {p : Addr} {o : HO} (c : Ctx F p o H) (e : Same H H') : Ctx F p o H' := ⟨c.e.trans e, c.n, e _ _ c.h⟩
theorem Ctx.newF {F H : Hp} {p q : Addr} {o : HO} (c : Ctx F p o H) (hq : H q = none) : F q = none := c.e.free hq
theorem Ctx.drop {F H : Hp} {p q : Addr} {o u : HO} (c : Ctx (upd F q u) p o H) (n : F q = none) : Ctx F p o H := by
  refine ⟨(same_new n).trans c.e, ?_, c.h⟩
  have z := c.n
  by_cases e : p = q
  · rw [e]
    exact n
  · rw [upd_ne e] at z
    exact z
theorem Ctx.put {F H : Hp} {p l : Addr} {o u : HO} (c : Ctx F p o H) (n : F l = none) (ne : l ≠ p) : Ctx F p o (upd H l u) := ⟨fun b x hb => by
  rw [upd_ne (ne_of_none hb n)]
  exact c.e b x hb, c.n, by rw [upd_ne ne.symm]; exact c.h⟩
theorem Ctx.ne {F H : Hp} {p q : Addr} {o : HO} (c : Ctx F p o H) (hq : H q = none) : q ≠ p := fun z => by
  rw [z, c.h] at hq
  cases hq
theorem Ctx.fresh {F H : Hp} {p q : Addr} {o u : HO} (c : Ctx F p o H) (hq : H q = none) : Ctx F p o (upd H q u) := (c.new hq).drop (c.newF hq)
/-- all but p, as it stands, may be kept -/
theorem Ctx.all {F H : Hp} {p : Addr} {o : HO} (c : Ctx F p o H) : Same F (del H p) := fun b u hb => del_of (c.e b u hb) (ne_of_none hb c.n)
theorem Ctx.to {F H H' : Hp} {p : Addr} {o o' : HO} (c : Ctx F p o H) (e : Same (del H p) H') (h : H' p = some o') : Ctx F p o' H' := ⟨c.all.trans e, c.n, h⟩
end VX
set_option maxRecDepth 100000
set_option maxHeartbeats 4000000
/-! repr of data. -/
namespace VX
open PySem PySem.Spec PyProof.Rows L2
section
variable {X : Cx}
def rRepD (K : PySem.W.Frag) : List V → Hp → VK → Prop := fun xs H Q => ∃ (a : Addr) (d : PyData), xs = [.ref a] ∧ Dp K H (.ref a) d ∧ d.showable = true ∧ d.hasDict = false ∧ d.depth ≤ 60 ∧ d.shown.length ≤ sizeLine ∧ Q (.str d.shown) H
theorem call_reprD (hg : X.A.guards = some []) (hu : X.A.units + 61 < cLine) : CallR X (.builtin "repr") (rRepD X.K) := by
  intro pins s σ H xs us Q I r h
  obtain ⟨a, d, rfl, hd, h1, h2, h3, h4, q⟩ := h
  rw [Vals.ref1 r]
  obtain ⟨as, hr⟩ := Dp.reads I d _ _ hd rfl
  refine repr_of_reads' hr h1 (PyData.noDict_hsm h2) hg (by omega) (fun b o e => e) (fun h' u tk hk => ?_) h4
  exact ⟨.str d.shown, H, I.kept (t' := tk) hk, ⟨u, rfl⟩, q⟩
end
end VX
set_option maxRecDepth 100000
set_option maxHeartbeats 4000000
/-! A def's promise that knows where it is called from and how large the heap is; the law's end for it. -/
namespace VX
open PySem PySem.Spec PyProof.Rows L2
structure FnA (P : Program) (w : World) (K : PySem.W.Frag) (mg : Str → Option Value) (base : Heap) (CX : CXT) (k : Nat) (f : Addr) (fd : FuncData) (ps : List Str) (sp : Around → Nat → Sp) : Prop where
  len : ∀ A n vs H Q E, sp A n vs H Q E → vs.length = ps.length
  run : ∀ (A : Around) (outer : List Env) (s : Shared) (H : Hp) (args : Args) (us : List Value) (vs : List V) (Q : VK) (E : XK), Room k A → Env0 P w K mg base A outer s H → BindsTo s fd args (ps.zip us) → Vals vs us → sp A s.heap.objs.size vs H Q E →
    codeAny (model P w) A (.call (.ref f) args) (CR CX outer P w H s Q E) s
theorem fn_ofA {CX : CXT} {P : Program} {w : World} {K : PySem.W.Frag} {mg : Str → Option Value} {base : Heap} {k : Nat} {f : Addr} {name qual : Str} {params : Arguments} {body : List Stmt} {scope : Scope} {dV kV doc pm cdv ct oc : Value} {an od : Option Addr}
    {osl : Array (Option Value)} {N ps : List Str} {sp : Around → Nat → Sp} (lk : K.lookup f = some ⟨oc, od, .func (PySem.W.fnOf name qual params body scope dV kV doc pm an cdv ct), osl⟩) (hcd : PySem.W.codeIn K cdv qual = true) (S : FnScope N ps scope)
    (len : ∀ A n vs H Q E, sp A n vs H Q E → vs.length = ps.length)
    (hbody : ∀ (A : Around) (outer : List Env) (s : Shared) (H : Hp) (vs : List V) (Q : VK) (E : XK), Room k (A.deeper (envOfC qual scope s.heap.objs.size f cdv)) → sp A s.heap.objs.size vs H Q E →
      ∃ t, PSs (cxOf CX P w K mg base N qual scope f cdv A outer s H E) body t ∧ t { nx := fun _ H' => Q .non H', rt := Q } (L2.start N vs) H) :
    FnA P w K mg base CX (k + 1) f (PySem.W.fnOf name qual params body scope dV kV doc pm an cdv ct) ps sp := by
  refine ⟨len, fun A outer s H args us vs Q E hr e0 hb r hsp => ?_⟩
  have hl := len _ _ _ _ _ _ hsp
  have KX : K.In s.heap := e0.mod.kin.keeps fun b o e => (e0.bs b o e).1
  have lim : s.heap.NoLimit := e0.mod.nolimit.keeps fun b o e => (e0.bs b o e).1
  have hkind : ∀ y ∈ ps.zip us, scope.names.lookup y.1 = some .local ∨ (scope.names.lookup y.1 = some .cell ∧ ((cellsFrom (s.heap.objs.size + 1) scope.names []).lookup y.1).isSome = true) := fun ⟨n, v⟩ hy => by
    rcases S.par n (List.of_mem_zip hy).1 with q | q
    · exact .inl q
    · exact .inr ⟨q, PySem.W.cellsFrom_some _ _ _ (.inl q)⟩
  refine codeAny_call_function hr.depth (KX _ _ lk) rfl S.co S.gen rfl (PySem.W.codeRec_of KX hcd) (hb _ _ _ _ ?_)
  refine wpAny_newFunctionEnv_cells S.kind hkind fun env he s1 x => ?_
  subst he
  refine ⟨lim.keeps x.toInCall.keep, codeAny_func ?_⟩
  obtain ⟨t, ht, hq⟩ := hbody A outer s H vs Q E (hr.deeper _) hsp
  have I : Inv (cxOf CX P w K mg base N qual scope f cdv A outer s H E) [] (L2.start N vs) H s1 := inv_start S hr.hd e0 hl r x
  refine wpAny_mono (ht.run [] s1 (L2.start N vs) H _ I hq) (fun fl s' hs => ?_) fun e s' hs => hs
  have fin : ∀ {σ' : L2.St} {H' : Hp} {v : V} {u : Value}, Inv (cxOf CX P w K mg base N qual scope f cdv A outer s H E) [] σ' H' s' → RelV v u → Q v H' → CE outer P w H s Q u s' :=
    fun {σ' H' v u} J rv q => ⟨v, H', J.os, J.bare, J.base, J.hok, rv, q⟩
  cases fl with
  | ret u =>
    obtain ⟨v, σ', H', J, rv, q⟩ := hs
    exact fin J rv q
  | next =>
    obtain ⟨σ', H', J, q⟩ := hs
    exact fin (v := V.non) (u := Value.none) J rfl q
  | brk =>
    obtain ⟨_, _, _, q⟩ := hs
    exact False.elim q
  | cont =>
    obtain ⟨_, _, _, q⟩ := hs
    exact False.elim q
theorem okA {P : Program} {w : World} {K : PySem.W.Frag} {mg : Str → Option Value} {base : Heap} {x qual : Str} {st : Stmt} {f : Addr} {fd : FuncData} {N ps : List Str} {k : Nat} {sp : Around → Nat → Sp} (F : Fun K x qual st f fd) (S : FnScope N ps (defScope st)) (len : ∀ A n vs H Q E, sp A n vs H Q E → vs.length = ps.length)
    (hbody : ∀ (cdv : Value) (A : Around) (outer : List Env) (s : Shared) (H : Hp) (vs : List V) (Q : VK) (E : XK), Room k (A.deeper (envOfC qual (defScope st) s.heap.objs.size f cdv)) → sp A s.heap.objs.size vs H Q E →
      ∃ t, PSs (cxOf CX0 P w K mg base N qual (defScope st) f cdv A outer s H E).nox (defBody st) t ∧ t { nx := fun _ H' => Q .non H', rt := Q } (L2.start N vs) H) : FnA P w K mg base CX0 (k + 1) f fd ps sp := by
  obtain ⟨oc, od, kV, doc, pm, an, cdv, ct, osl, rfl, lk, hcd⟩ := F.ex
  refine fn_ofA lk hcd S len fun A outer s H vs Q E hr hsp => ?_
  obtain ⟨t, h, q⟩ := hbody cdv A outer s H vs Q E hr hsp
  exact ⟨t, h.nox, q⟩
theorem deeper_guards {A : Around} {env : Env} (h : A.guards = some []) : (A.deeper env).guards = some [] := h
/-- the law's own def, called from the top: nothing but the script stands in the tracked heap -/
theorem law_callA {P : Program} {w : World} {K : PySem.W.Frag} {mg mb : Str → Option Value} {k : Nat} {fa a : Addr} {fd : FuncData} {x : Str} {sp : Around → Nat → Sp} {s₁ : Shared} {vs : List Value} {ns : List Int}
    (KX : K.In s₁.heap) (hns : s₁.heap.Ns mainGlobals mg) (hb : s₁.heap.Ns builtinsNs mb) (hbb : ∀ x : Str, x ≠ "__name__" → mb x = bootBuiltins x) (hlim : s₁.heap.NoLimit) (hg : s₁.gens = #[])
    (ha : s₁.heap.get? a = some { cls := .type "list", data := .seq vs.toArray }) (hi : IntsAre vs ns) (hl : ns.length ≤ sizeLine) (hr : Room k callerA)
    (F : ∀ base : Heap, K.In base → base.Ns mainGlobals mg → FnA P w K mg base CX0 k fa fd [x] sp) (hbind : ∀ (s : Shared) (u : Value), BindsTo s fd ⟨[u], []⟩ [(x, u)])
    (hsp : ∀ H : Hp, Only H → SqL K H a (ns.map V.int) → sp callerA s₁.heap.objs.size [.ref a] H (fun v _ => v = .bl true) fun _ _ _ => False) :
    codeAny (model P w) callerA (.call (.ref fa) ⟨[.ref a], []⟩) (fun r s' => r = .ok (.ret (.bool true)) ∧ OldK s₁.heap s'.heap ∧ s'.os = s₁.os ∧ AllBare s'.gens) s₁ := by
  have rv := vals_ints hi
  have lenV := hi.length
  -- over any tracked heap that holds the script and nothing else
  suffices core : ∀ H : Hp, Only H → SqL K H a (ns.map V.int) → HOk P w H s₁.heap → (∀ b u, H b = some u → b = a ∧ K.lookup a = none) →
      codeAny (model P w) callerA (.call (.ref fa) ⟨[.ref a], []⟩) (fun r s' => r = .ok (.ret (.bool true)) ∧ OldK s₁.heap s'.heap ∧ s'.os = s₁.os ∧ AllBare s'.gens) s₁ by
    cases hk : K.lookup a with
    | some o =>
      cases ha.symm.trans (KX a o hk)
      exact core (fun _ => none) (fun _ => .inl rfl) (.inr ⟨_, vs.toArray, _, hk, rfl, rfl, rfl, by rw [List.size_toArray, lenV]; exact hl, by simpa using rv⟩) (fun b u z => nomatch z) fun b u z => nomatch z
    | none =>
      let H : Hp := fun b => if b = a then some (.frz { cls := .type "list", data := .seq vs.toArray } (.lst (ns.map V.int))) else none
      have only : ∀ b u, H b = some u → b = a ∧ u = .frz { cls := .type "list", data := .seq vs.toArray } (.lst (ns.map V.int)) := fun b u z => by
        by_cases e : b = a
        · exact ⟨e, (Option.some.inj ((if_pos e).symm.trans z)).symm⟩
        · exact nomatch (if_neg e).symm.trans z
      refine core H (fun b => ?_) (.inl (.inr ⟨_, if_pos rfl⟩)) (fun b u z => ?_) fun b u z => ⟨(only b u z).1, hk⟩
      · cases z : H b with
        | none => exact .inl rfl
        | some u => exact .inr ⟨_, _, by rw [(only b u z).2]⟩
      · obtain ⟨rfl, rfl⟩ := only b u z
        exact ⟨ha, by rw [List.length_map]; exact hl, vs, _, rv, ha⟩
  intro H hO hS hok hA
  have base_of : ∀ {b : Addr} {o : Obj}, s₁.heap.get? b = some o → H b = none → (hidT s₁.heap H).get? b = some o := fun e n => hidT_get e n
  have free : ∀ {b : Addr} {o : Obj}, s₁.heap.get? b = some o → (b = a → o.data ≠ .seq vs.toArray 0 ∨ K.lookup b ≠ none) → H b = none := fun {b o} e d => by
    cases q : H b with
    | none => rfl
    | some u =>
      obtain ⟨rfl, z⟩ := hA b u q
      rcases d rfl with d | d
      · cases ha.symm.trans e
        exact absurd rfl d
      · exact absurd z d
  have nsK : ∀ {b : Addr} {m : Str → Option Value}, s₁.heap.Ns b m → (hidT s₁.heap H).Ns b m := fun {b m} ⟨o, es, ep, e, d, r⟩ => ⟨o, es, ep, base_of e (free e fun _ => .inl fun z => nomatch d.symm.trans z), d, r⟩
  have hKb : K.In (hidT s₁.heap H) := fun b o e => base_of (KX b o e) (free (KX b o e) fun _ => .inr (by rw [e]; exact fun z => nomatch z))
  have hM : Mod K mg (hidT s₁.heap H) := ⟨hKb, nsK hns, ⟨mb, nsK hb, hbb⟩, let ⟨mc, h1, h2⟩ := hlim; ⟨mc, nsK h1, h2⟩⟩
  have e0 : Env0 P w K mg (hidT s₁.heap H) callerA [] s₁ H := ⟨rfl, hM, fun b o e => of_hidT e, Nat.le_of_eq (hidT_size _ _), trivial, fun b hb => (nomatch (show b ∈ ([] : List Addr) from hb)), hok, .of_eq hg⟩
  refine codeAny_mono ((F _ hKb (nsK hns)).run callerA [] s₁ H ⟨[.ref a], []⟩ [.ref a] [.ref a] _ _ hr e0 (hbind s₁ (.ref a)) (.cons rfl .nil) (hsp H hO hS)) fun r s' h => ?_
  cases r with
  | error e => exact False.elim h
  | ok fl =>
    cases fl with
    | next => exact False.elim h
    | brk => exact False.elim h
    | cont => exact False.elim h
    | ret u =>
      obtain ⟨v, H', os, bare, un, hok', r', rfl⟩ := h
      obtain rfl : u = Value.bool true := r'
      refine ⟨rfl, OldK.of_keep fun b o e => ?_, os, bare⟩
      cases q : H b with
      | none => exact un.keep b o e q (fun z => nomatch (show b ∈ ([] : List Addr) from z)) (by simp)
      | some u =>
        rcases hO b with z | ⟨ob, xs, z⟩
        · exact nomatch q.symm.trans z
        · obtain ⟨e1, _⟩ := hok b _ z
          cases e.symm.trans e1
          exact (hok' b _ (un.frzs b _ _ z)).1
/-- the end, for such a promise -/
theorem walk_ofA {l : PySem.W.OpenLaw} {n k : Nat} {q : Program} {loose : List Str} {XP : (Str → Option Value) → Heap → Prop} {YP : World → Heap → Prop} {d : DefRec} {K : Params → PySem.W.Frag} {sp : World → Around → Nat → Sp} {x : Str}
    (hn : l.most = some n) (hn2 : n ≤ sizeLine) (hdf : d.params.defaults = []) (hr : Room k callerA) (hY : ∀ (w : World) (h : Heap), YP w h → (K w.params).In h)
    (F : ∀ (w : World) (mg : Str → Option Value) (fa : Addr) (h : Heap), (K w.params).In h → h.Ns mainGlobals mg → mg d.name = some (.ref fa) →
      ∃ fd : FuncData, (∀ (s : Shared) (u : Value), BindsTo s fd ⟨[u], []⟩ [(x, u)]) ∧ ∀ base : Heap, (K w.params).In base → base.Ns mainGlobals mg → FnA l.prog w (K w.params) mg base CX0 k fa fd [x] (sp w))
    (hsp : ∀ (w : World) (m : Nat) (H : Hp) (a : Addr) (ns : List Int), ns.length ≤ n → Only H → SqL (K w.params) H a (ns.map V.int) → sp w callerA m [.ref a] H (fun v _ => v = .bl true) fun _ _ _ => False) :
    PySem.W.WalkO q loose XP YP l.row.toRowW d [] (fun f vs => PySem.call f vs) := by
  refine Att.attach_call hn hdf fun w s₀ s₁ mg mb fa o pm cd doc a vs ns G Y ho hd hcd hmg hobj hints hlen hg => ?_
  obtain ⟨fd, hb, hF⟩ := F w mg fa _ (hY w _ Y) G.T.g hmg
  exact law_callA (hY w _ Y) G.T.g G.T.b G.T.builtins G.T.nolimit hg hobj hints (Nat.le_trans hlen hn2) hr hF hb fun H hO hS => hsp w _ H a ns hlen hO hS
end VX
set_option maxRecDepth 100000
set_option maxHeartbeats 4000000
/-! A list of numbers in an f-string: some text, whatever is under way. -/
namespace VX
open PySem PySem.Spec PyProof.Rows L2
section
variable {a : Addr} {o : Obj} {items : Array Value} {n b : Nat}
theorem lr_head {M : Model} {A : Around} {E : Value → Shared → Prop} {s : Shared} {Q : Fin → Shared → Prop} (ha : s.heap.get? a = some o) (hd : o.data = .seq items n)
    (h0 : ∀ (z : Str) u tk, z.length ≤ 5 → Q (.done (.ret (.str z u))) { s with toks := tk })
    (h : wpAny M A (newList [] >>= fun l => again (.builtin "list.__repr__.loop" ⟨[.ref a, rawInt 0, l, rawInt b], []⟩)) Q E s) : wpAny M A (Builtin.listReprAt b ⟨[.ref a], []⟩) Q E s := by
  intro Γ p hΓ
  have h1 := h Γ p hΓ
  unfold Builtin.listReprAt
  simp [slotArgs, Builtin.List.listItems, seqItems?, Sem.wp_load_of (h := ha), hd, stack]
  split
  · exact h0 _ _ _ (by decide +kernel)
  · show Sem.wp M Γ (if (Γ.below.any _) = true then _ else _) _ _ p s
    split
    · exact h0 _ _ _ (by decide +kernel)
    · exact h1
variable {prog : Program} {w : World} {A : Around} {E : Value → Shared → Prop} {s : Shared} {ts : List Str}
theorem lr_call {Q : Value → Shared → Prop} (ha : s.heap.get? a = some o) (hc : o.cls = .type "list") (hd : o.data = .seq items n) (hlen : ts.length = items.size)
    (hT : ∀ (i : Nat) (x : Value), items[i]? = some x → ∃ t, ts[i]? = some t ∧ ReprIs prog w x t) (hz : (listText ts).length ≤ sizeLine)
    (hQ : ∀ (z : Str) h' u tk, (∀ b ob, s.heap.get? b = some ob → h'.get? b = some ob) → Q (.str z u) { s with heap := h', toks := tk }) : wpAny (model prog w) A (call (.builtin "list.__repr__") [.ref a]) Q E s := by
  have hT' : s.TypeIs (.ref a) "list" := ⟨o, ha, hc⟩
  refine wpAny_call (codeAny_call_builtin F.slot_list_repr.plain F.entry_list_repr (F.slot_list_repr.check _ _ _ _ _ _ _ _ hT' (F.args_list_repr_1 _) ?body))
  refine lr_head (b := 0) ha hd (fun z u tk _ => hQ z s.heap u tk fun b ob e => e) (wpAny_bind (m := newList []) (wpAny_newObj_type ?_))
  refine wpAny_pure ⟨F.quiet_list_repr_loop _, codeAny_list_repr_start (P := s.heap.objs.size) (Nat.ne_of_lt (Heap.lt_size ha)) hlen hT (Heap.get?_push_of_some _ ha) hd (Heap.get?_push_size _ rfl) (fun h' u tk hk => ?last) (by omega)⟩
  exact hQ _ h' u tk fun b ob e => hk b ob (Nat.ne_of_lt (Heap.lt_size e)) (Heap.get?_push_of_some _ e)
theorem lr_fmt {Q : Value → Shared → Prop} (hu : A.units + 2 < cLine) (ha : s.heap.get? a = some o) (hc : o.cls = .type "list") (hd : o.data = .seq items n) (hlen : ts.length = items.size)
    (hT : ∀ (i : Nat) (x : Value), items[i]? = some x → ∃ t, ts[i]? = some t ∧ ReprIs prog w x t) (hz : (listText ts).length ≤ sizeLine)
    (hQ : ∀ (z : Str) h' u tk, (∀ b ob, s.heap.get? b = some ob → h'.get? b = some ob) → Q (.str z u) { s with heap := h', toks := tk }) : wpAny (model prog w) A (formatField (.ref a) Str.empty) Q E s :=
  wpAny_formatField_slot (fun _ _ => nofun) hu ⟨o, ha, hc⟩ F.slot_list_format F.slot_list_str F.slot_list_repr.toG (lr_call (s := { s with toks := s.toks + 1 }) ha hc hd hlen hT hz fun z h' u tk hk => ⟨z, u, rfl, hQ z h' u tk hk⟩)
end
/-! texts of small numbers -/
theorem lt_len : ∀ (ts : List Str) (k : Nat) (acc : Str), (textFrom k acc ts).length ≤ acc.length + piled ts
  | [], _, _ => Nat.le_refl _
  | t :: r, k, acc => by
    have ih := lt_len r (k + 1) (acc ++ (if k > 0 then ", " else "" : String) ++ t)
    have e : (acc ++ (if k > 0 then ", " else "" : String) ++ t).length ≤ acc.length + 2 + t.length := by
      rw [strLen_append, strLen_append]
      split
      · exact Nat.le_refl _
      · show acc.length + 0 + t.length ≤ _
        omega
    rw [piled_cons]
    show (textFrom (k + 1) (acc ++ (if k > 0 then ", " else "" : String) ++ t) r).length ≤ _
    omega
theorem piled_small {m : Nat} : ∀ ts : List Str, (∀ t ∈ ts, t.length ≤ m) → piled ts ≤ ts.length * (m + 2)
  | [], _ => Nat.zero_le _
  | t :: r, h => by
    have := piled_small r fun u hu => h u (List.mem_cons_of_mem _ hu)
    have h1 := h t List.mem_cons_self
    rw [piled_cons, List.length_cons, Nat.add_mul]
    omega
theorem listText_small {m : Nat} {ts : List Str} (h : ∀ t ∈ ts, t.length ≤ m) : (listText ts).length ≤ ts.length * (m + 2) + 2 := by
  have h1 := lt_len ts 0 "["
  have h2 := piled_small ts h
  have e1 : ((("[" : String) : Str)).length = 1 := rfl
  show (textFrom 0 "[" ts ++ "]").length ≤ _
  rw [strLen_append]
  have e2 : ((("]" : String) : Str)).length = 1 := rfl
  rw [e2]
  omega
theorem ReprsI {prog : Program} {w : World} {is : List Int} {its : List Value} (r : Vals (is.map V.int) its) (hb : ∀ i ∈ is, i.natAbs < 10 ^ 40) (hs : ∀ i : Int, i.natAbs < 10 ^ 40 → i.natAbs.log2 < 1920) :
    ∀ (i : Nat) (x : Value), its.toArray[i]? = some x → ∃ t, (is.map fun i => Str.ofString (toString i))[i]? = some t ∧ ReprIs prog w x t := fun i x hx => by
  have hx : its[i]? = some x := by simpa using hx
  have hi : i < is.length := by
    have h1 := (List.getElem?_eq_some_iff.mp hx).1
    have h2 := Paired.length r
    rw [List.length_map] at h2
    omega
  have h3 : (is.map V.int)[i]? = some (.int is[i]) := by rw [List.getElem?_map, List.getElem?_eq_getElem hi]; rfl
  obtain ⟨u, hu, rv⟩ := r.get h3
  rw [hx] at hu
  cases hu
  obtain ⟨t, rfl⟩ := rv
  exact ⟨_, by rw [List.getElem?_map, List.getElem?_eq_getElem hi]; rfl, .int t (hs _ (hb _ (List.getElem_mem hi)))⟩
theorem log40 (i : Int) (h : i.natAbs < 10 ^ 40) : i.natAbs.log2 < 1920 := by
  by_cases h0 : i.natAbs = 0
  · rw [h0]; decide
  · exact (Nat.log2_lt h0).mpr (Nat.lt_of_lt_of_le h (by decide +kernel))
/-- {xs}, xs a list of numbers: some text -/
def tFmtL (K : PySem.W.Frag) (te : TE) : TE := fun σ H Q => te σ H fun x H1 => ∃ (a : Addr) (is : List Int), x = .ref a ∧ SqL K H1 a (is.map V.int) ∧ is.length ≤ 1000 ∧ (∀ i ∈ is, i.natAbs < 10 ^ 40) ∧ ∀ m : Str, Q (.str m) H1
theorem pe_fmtL {X : Cx} {e : Expr} {te : TE} {pos : Pos} {k : Nat} (hr : Room k X.A) (he : PE X e te) : PE X (.FormattedValue e (-1) none pos) (tFmtL X.K te) := by
  refine ⟨fun pins s σ H Q I h => wpAny_FormattedValue_plain (thn (he.run pins s σ H _ I h) fun v s1 hv => ?_)⟩
  obtain ⟨x, H1, I1, r1, a, is, rfl, hl, h9, hb, q⟩ := hv
  cases r1
  obtain ⟨its, rv, ⟨o, n, ho, hcl, _, hd⟩, _⟩ := I1.list hl
  have hu := hr.units
  have hln := Paired.length rv
  rw [List.length_map] at hln
  refine lr_fmt (ts := is.map fun i => Str.ofString (toString i)) (by omega) ho hcl hd (by rw [List.length_map, hln]; simp) (ReprsI rv hb log40) ?_ fun z h' u tk hk => ⟨.str z, H1, I1.kept (t' := tk) hk, ⟨u, rfl⟩, q z⟩
  refine Nat.le_trans (listText_small (m := 41) fun t ht => ?_) ?_
  · obtain ⟨i, hi, rfl⟩ := List.mem_map.mp ht
    rw [PySem.ofString_length]
    exact int_text_length_le10 (by decide) (hb i hi)
  · rw [List.length_map, sizeLine_eq]
    omega
end VX
set_option maxRecDepth 100000
set_option maxHeartbeats 4000000
/-! A def of an own error that begins with super().__init__(..). -/
namespace VX
open PySem PySem.Spec PyProof.Rows L2
/-- what is known of such a def: D the class that it stands in -/
structure FunS (P : Program) (K : PySem.W.Frag) (x qual : Str) (st : Stmt) (D f : Addr) (fd : FuncData) : Prop where
  ex : ∃ (oc : Value) (od : Option Addr) (kV doc pm : Value) (an : Option Addr) (cda cc : Addr) (ct : Value) (osl : Array (Option Value)) (ccl cl : Value) (cdd cld : Option Addr) (vs : Array Value) (ccs csl : Array (Option Value)) (file : Str) (tf : Tok),
    fd = PySem.W.fnX x qual (defArgs st) (defBody st) (defScope st) [("__class__", cc)] .none kV doc pm an (.ref cda) ct ∧ K.lookup f = some ⟨oc, od, .func fd, osl⟩ ∧ PySem.W.codeIn K (.ref cda) qual = true ∧
      K.lookup cda = some ⟨ccl, cdd, .fields vs, ccs⟩ ∧ vs[2]? = some (.str file tf) ∧ ((P.main.file : Str) == file) = true ∧ K.lookup cc = some ⟨cl, cld, .cell (some (.ref D)), csl⟩
  kp : PySem.W.keepIn K (.ref f) = true
  top : (P.main.scope.names.lookup ("super" : Str)).isSome = false
/-- the class: its error's __init__ is ValueError's -/
structure SupC (K : PySem.W.Frag) (C : Addr) : Prop where
  oex : OexC K C
  ini : PySem.W.ks_superIn K C C "__init__" = some (some (.builtin "ValueError.__init__"))
  sub : PySem.W.subIn K (.ref C) (.type "ValueError") = some true
  own : PySem.W.mroIn K C (.ref C) = some true
  tp : PySem.W.nsIn K PySem.cStatics "thirdparty.any" = some none
end VX
namespace VX
open PySem PySem.Spec PyProof.Rows L2
theorem upd_id {H : Hp} {a : Addr} {o : HO} (e : H a = some o) : upd H a o = H := funext fun b => if hb : b = a then by rw [hb, upd_same, e] else upd_ne hb
section
variable {X : Cx} {pins : List (Addr × Obj)} {σ : L2.St} {H : Hp} {s : Shared} {a C : Addr} {E : Value → Shared → Prop}
theorem sup_call {u : Addr} {us : List Value} {Q : Value → Shared → Prop} (T : OexC X.K C) (I : Inv X pins σ H s) (e : H a = some (exo a C none)) (hu : s.heap.get? u = some (PySem.W.kxs_mw "ValueError.__init__" a)) (hl : us.length ≤ sizeLine)
    (h : ∀ s', Inv X pins σ H s' → Q .none s') : wpAny (model X.prog X.w) X.A (call (.ref u) us) Q E s := by
  obtain ⟨nm, q, N, bs, bm, sn, sub, ab, col, dd, k0, k1, k2, k3, k5, hC, hbm⟩ := T.cls
  obtain ⟨t1, ho⟩ := exo_at I.hok e
  have hC' := I.kIn _ _ hC
  obtain ⟨hp, g, d, t, os⟩ := s
  refine wpAny_call (codeAny_of_tree (show wpAny _ X.A.in1 (callAny (.ref u) ⟨us, []⟩) _ _ _ from ?tree))
  simp only [callAny]
  refine wpAny_bind (wpAny_load hu ?got)
  have e1 : (Value.type "method-wrapper" == Value.type "method" || Value.type "method-wrapper" == Value.type "builtin_function_or_method" || Value.type "method-wrapper" == Value.type "method-wrapper") = true := by decide
  simp only [PySem.W.kxs_mw, e1, if_true]
  refine PySem.W.KFB.if_so (by decide) (wpAny_bind (PySem.W.check_bound_init F.excBase_ValueError.toExcCallFacts hC' ho rfl ?chk))
  refine wpAny_bind (wpAny_pure (wpAny_pure ⟨plainId_quiet F.excBase_ValueError.init.plain _, codeAny_builtin F.excBase_ValueError.initEntry ?run⟩))
  refine PySem.W.exc_init_tree (cls := .ref C) (t0 := t1) (dv := none) (c2 := .none) (c3 := .none) (b4 := .bool false) ho hl fun h' k hx _ => ?fin
  have J := I.write (t' := t) (x := a) (e := a) (o := exo a C none) (by rw [e]; exact True.intro) (.inl rfl) k ⟨_, hx⟩ (exo_ok hx)
  rw [upd_id e] at J
  exact h _ J
end
end VX
namespace VX
open PySem PySem.Spec PyProof.Rows L2
/-- names of such a def -/
structure FnScopeS (N P : List Str) (sc : Scope) : Prop where
  kind : sc.kind = .function
  co : sc.isCoroutine = false
  gen : sc.isGenerator = false
  nd : N.Nodup
  pre : N.take P.length = P
  par : ∀ x ∈ P, sc.names.lookup x = some .local
  nocell : ∀ y ∈ sc.names, y.2 ≠ .cell
  free : ∀ y ∈ sc.names, y.2 = .free → y.1 = "__class__"
  sup : sc.names.lookup ("super" : Str) = some .globalImplicit
  cls : sc.names.lookup ("__class__" : Str) = some .free
/-- the context of such a def's body, at its entry; no error leaves it -/
def cxS (P : Program) (w : World) (K : PySem.W.Frag) (mg : Str → Option Value) (base : Heap) (N : List Str) (qual : Str) (scope : Scope) (f cda cc : Addr) (A : Around) (outer : List Env) (s : Shared) (H : Hp) : Cx where
  prog := P
  w := w
  K := K
  mg := mg
  base := base
  A := A.deeper (PySem.W.ksEnv qual scope s.heap.objs.size f (.ref cda) cc)
  N := N
  s_0 := s
  H_0 := H
  env := PySem.W.ksEnv qual scope s.heap.objs.size f (.ref cda) cc
  outer := outer
  stack := PySem.W.ksEnv qual scope s.heap.objs.size f (.ref cda) cc :: outer
  ex := []
  calm := true
  fn := fun x => !(x == ("__class__" : Str))
  pn := []
  xe := fun _ _ => False
theorem zip_rl {x : Str} {u : Value} : ∀ {ps : List Str} {us : List Value} {i : Nat}, ps.Nodup → ps[i]? = some x → us[i]? = some u → (ps.zip us).reverse.lookup x = some u
  | [], _, _, _, h, _ => by simp at h
  | _ :: _, [], _, _, _, h => by simp at h
  | p :: ps, v :: us, 0, nd, h1, h2 => by
    simp at h1 h2
    subst h1
    subst h2
    have hn : (ps.zip us).reverse.lookup p = none := by
      rw [List.lookup_eq_none_iff]
      intro q hq
      have := (List.of_mem_zip (List.mem_reverse.mp hq)).1
      simp only [bne_iff_ne]
      intro z
      rw [← z] at this
      exact (List.nodup_cons.mp nd).1 this
    rw [List.zip_cons_cons, List.reverse_cons, List.lookup_append, hn]
    simp
  | p :: ps, v :: us, i + 1, nd, h1, h2 => by
    have ih := zip_rl (i := i) (List.nodup_cons.mp nd).2 (by simpa using h1) (by simpa using h2)
    rw [List.zip_cons_cons, List.reverse_cons, List.lookup_append, ih]
    rfl
theorem inv_startS {P : Program} {w : World} {K : PySem.W.Frag} {mg : Str → Option Value} {base : Heap} {N ps : List Str} {qual : Str} {scope : Scope} {f cda cc D : Addr} {A : Around} {outer : List Env} {s : Shared} {H : Hp} {us : List Value} {vs : List V} {cl : Value} {cld : Option Addr} {csl : Array (Option Value)} {h₁ : Heap} {tk : Tok}
    (S : FnScopeS N ps scope) (hd : A.handled = none) (e0 : Env0 P w K mg base A outer s H) (hl : vs.length = ps.length) (r : Vals vs us) (lc : K.lookup cc = some ⟨cl, cld, .cell (some (.ref D)), csl⟩)
    (hns : h₁.Ns s.heap.objs.size fun y => (ps.zip us).reverse.lookup y) (hk : ∀ b o, s.heap.get? b = some o → h₁.get? b = some o) :
    Inv (cxS P w K mg base N qual scope f cda cc A outer s H) [] (L2.start N vs) H { s with heap := h₁, toks := tk } := by
  have hpl : ps.length ≤ N.length := by have := congrArg List.length S.pre; rw [List.length_take] at this; omega
  have noA : ∀ b : Addr, b ∉ (cxS P w K mg base N qual scope f cda cc A outer s H).ex := fun b z => absurd (show b ∈ ([] : List Addr) from z) (by simp)
  have one : ∀ y c, (cxS P w K mg base N qual scope f cda cc A outer s H).env.cells.lookup y = some c → y = "__class__" ∧ c = cc := fun y c z => by
    have z : ([("__class__", cc)] : List (Str × Addr)).lookup y = some c := z
    rw [List.lookup_cons] at z
    split at z
    · rename_i hy
      cases z
      exact ⟨by simpa using hy, rfl⟩
    · cases z
  have hcB : base.get? cc = some ⟨cl, cld, .cell (some (.ref D)), csl⟩ := e0.mod.kin _ _ lc
  refine ⟨⟨e0.mod, S.kind, rfl, rfl, Nat.le_refl _, fun y z c h1 h2 => ?_, fun y hy => ?_, fun y c hf h => ?_, fun _ => hd, Around.frames_deeper e0.frames, .inr ⟨rfl, rfl⟩, fun b z => absurd z (noA b), e0.bs, e0.bsz, fun b _ _ => noA b, fun b z => absurd z (noA b), e0.funs, e0.frf⟩,
    rfl, e0.bare, Un.kept hk, ⟨_, hns, fun i y v h1 h2 h3 => ?_⟩, fun y c h => ?_, e0.hok.fresh (Nat.le_refl _), fun y c h => ?_, fun p hp => absurd (show p ∈ ([] : List (Addr × Obj)) from hp) (by simp), e0.hok.kept hk, ?_⟩
  · rw [(one _ _ h1).1, (one _ _ h2).1]
  · have hy : scope.names.lookup y = some .cell ∨ scope.names.lookup y = some .free := hy
    rcases hy with hy | hy
    · exact absurd rfl (S.nocell _ (PySem.mem_of_lookup hy))
    · have := S.free _ (PySem.mem_of_lookup hy) rfl
      subst this
      exact ⟨cc, rfl⟩
  · have hf : (!(y == ("__class__" : Str))) = true := hf
    rw [(one _ _ h).1] at hf
    simp at hf
  · have hi : i < vs.length := by
      unfold L2.start at h2
      by_cases hi : i < vs.length
      · exact hi
      · rw [List.getElem?_append_right (by simpa using hi), List.getElem?_replicate] at h2
        split at h2 <;> cases h2
    have ha : vs[i]? = some v := by
      unfold L2.start at h2
      rw [List.getElem?_append_left (by simpa using hi), List.getElem?_map] at h2
      cases e : vs[i]? with
      | none => rw [e] at h2; cases h2
      | some a => rw [e] at h2; cases h2; rfl
    obtain ⟨u, hu, rv⟩ := r.get ha
    have hp : ps[i]? = some y := by
      rw [← S.pre, List.getElem?_take_of_lt (by omega)]
      exact h1
    have ndP : ps.Nodup := by rw [← S.pre]; exact S.nd.sublist (List.take_sublist _ _)
    exact ⟨u, rv, .inl ⟨S.par y (List.mem_of_getElem? hp), zip_rl ndP hp hu⟩⟩
  · rw [(one _ _ h).2]
    exact ⟨_, _, hk _ _ (e0.bs _ _ hcB).1, rfl⟩
  · rw [(one _ _ h).2]
    exact (e0.bs _ _ hcB).2
  · unfold L2.start
    show _ = N.length
    rw [List.length_append, List.length_map, List.length_replicate]
    omega
end VX
namespace VX
open PySem PySem.Spec PyProof.Rows L2
section
variable {P : Program} {w : World} {K : PySem.W.Frag} {mg : Str → Option Value} {base : Heap}
/-- the statement itself -/
theorem sup_stmt {X : Cx} {pins : List (Addr × Obj)} {σ : L2.St} {H : Hp} {s : Shared} {a D f cda cc : Addr} {body : List Stmt} {p0 p1 p2 p3 p4 : Pos} {e : Expr} {es : List Expr} {ta : TA} {Dn : Ends} {ar : Arg} {fd : FuncData}
    {oc ccl cl : Value} {od cdd cld : Option Addr} {osl ccs csl : Array (Option Value)} {vs : Array Value} {file : Str} {tf : Tok}
    (T : SupC X.K D) (hks : X.env.kindOf "super" = some .globalImplicit) (hkc : X.env.kindOf "__class__" = some .free) (hfu : X.env.func = some f) (hco : X.env.code = .ref cda) (hcc : X.env.cells.lookup ("__class__" : Str) = some cc)
    (lf : X.K.lookup f = some ⟨oc, od, .func fd, osl⟩) (hp : (fd.params.posonlyargs ++ fd.params.args).head? = some ar) (lcd : X.K.lookup cda = some ⟨ccl, cdd, .fields vs, ccs⟩) (hvs : vs[2]? = some (.str file tf)) (hfile : ((X.prog.main.file : Str) == file) = true)
    (htop : (X.prog.main.scope.names.lookup ("super" : Str)).isSome = false) (lcc : X.K.lookup cc = some ⟨cl, cld, .cell (some (.ref D)), csl⟩) (hm : X.mg "super" = none) (hN : X.N[0]? = some ar.arg) (hka : X.env.kindOf ar.arg = some .local)
    (hi : interactive X.env = false) (hs : swapsWith (.Call (.Attribute (.Call (.Name "super" p0) [] [] p1) "__init__" p2) (e :: es) [] p3) none p4.line X.env = pure false) {pl : Sem Bool}
    (hev : eval (.Call (.Attribute (.Call (.Name "super" p0) [] [] p1) "__init__" p2) (e :: es) [] p3) X.env = (do
      let ov ← attributeBase (.Call (.Name "super" p0) [] [] p1) "__init__" X.env (eval (.Call (.Name "super" p0) [] [] p1) X.env)
      standAt p2.atName
      let (f, first) ← holding [ov] (getMethod ov "__init__" pl)
      callWith p3 f first (backTo p3 (starEach (e :: es) X.env)) []))
    (he : starEach (e :: es) X.env = (false, eval e X.env) :: starEach es X.env) (hpl : (backTo p3 (starEach es X.env)).any (·.1) = false)
    (ha : PA X (e :: es) ta) (I : Inv X pins σ H s) (hσ : σ[0]? = some (some (.ref a))) (hH : H a = some (exo a D none))
    (h : ta σ H fun zs H1 => zs.length ≤ 1000 ∧ H1 a = some (exo a D none) ∧ Dn.nx σ H1) :
    _root_.PySem.wpAt (model X.prog X.w) X.A (.func body X.env) (exec (.Expr (.Call (.Attribute (.Call (.Name "super" p0) [] [] p1) "__init__" p2) (e :: es) [] p3) p4) X.env) (SP X pins Dn) X.xe s := by
  obtain ⟨nm, q, N, bs, bm, sn, sub, ab, col, dd, k0, k1, k2, k3, k5, hC, hbm⟩ := T.oex.cls
  refine ks_wpAt_Expr_any (ks_wpAt_MethodCall (pl := pl) ?_ hev) hi hs
  have X0 := I.kIn
  refine ks_wpAt_super_base hks hkc (by decide) hfu (X0 _ _ lf) rfl hp hco (X0 _ _ lcd) rfl hvs hfile htop ?_
  obtain ⟨mb, b1, b2⟩ := I.mod.blt
  refine PySem.W.ks_loadName_global I.ok.kind hks (Calls.loadGlobal_builtin (by rw [I.ok.glob]; exact I.mod.glob.keeps I.bk) hm (by rw [I.ok.blt]; exact b1.keeps I.bk) ((b2 _ (by decide)).trans (show bootBuiltins "super" = some (.type "super") from by rfl)) ⟨rfl, ?_⟩)
  refine wpAny_loadName_free I.ok.kind hkc hcc ⟨_, X0 _ _ lcc, rfl⟩ ?_
  obtain ⟨m, hn, hl⟩ := I.loc
  obtain ⟨u, ru, lk⟩ := hl 0 ar.arg _ hN hσ (.inl hka)
  cases ru
  have hmm : m ar.arg = some (.ref a) := by
    rcases lk with ⟨_, lk⟩ | ⟨lk, _⟩
    · exact lk
    · rw [hka] at lk
      rcases lk with lk | lk <;> cases lk
  refine wpAny_loadName_local I.ok.kind hka hn hmm ?_
  have hD := X0 _ _ hC
  obtain ⟨t1, ho⟩ := exo_at I.hok hH
  refine ks_wpAny_isType_cls hD rfl ⟨rfl, ?_⟩
  obtain ⟨hp0, g, d, t, os⟩ := s
  refine ks_wpAny_call_super hD rfl ho rfl (fun c z => by cases z) (PySem.W.looks_mroIn X0 T.own) fun h1 hso k1' => ?_
  have I1 := I.kept (t' := t) k1'
  have hcl : PySem.W.clsIn X.K D = some { name := nm, bases := bs, mro := .ref D :: bm, ns := N, qualname := q, hasDict := true, slotNames := sn, subclasses := sub, abstract := ab, collection := col, hasDel := false } := by unfold PySem.W.clsIn; rw [hC] <;> rfl
  have hin := T.ini
  unfold PySem.W.ks_superIn at hin
  rw [hcl] at hin
  have hx1 := k1' _ _ ho
  have IA : PySem.W.InstAt h1 a _ D none := ⟨hx1, rfl, rfl, trivial⟩
  refine PySem.W.kxs_getMethod PySem.W.kxs_ValueError hso (PySem.W.looks_opaque I1.kIn T.tp) (l₀ := .ref D :: bm) ?_ rfl I1.kIn hin (IA.type.andThen (PySem.W.looks_subIn I1.kIn T.sub)) (PySem.W.ks_ne I1.kIn IA hcl) (by decide) ?_
  · exact fun A Q E s k q => wpAny_bind ((PySem.W.looks_clsIn I1.kIn hcl) A _ E s k (wpAny_pure q))
  have kp : ∀ b o, h1.get? b = some o → (h1.push (PySem.W.kxs_mw "ValueError.__init__" a)).get? b = some o := fun b o z => Heap.get?_push_of_some _ z
  have I2 := I1.kept (t' := t + 1) kp
  have hu : (h1.push (PySem.W.kxs_mw "ValueError.__init__" a)).get? h1.objs.size = some (PySem.W.kxs_mw "ValueError.__init__" a) := Heap.get?_push_at rfl rfl
  rw [he]
  refine PySem.W.kxs_callWith (i := "ValueError.__init__") (x := a) (by show (false || (backTo p3 (starEach es X.env)).any (·.1)) = false; rw [hpl]; rfl) ?_
  have I3 : Inv X ((h1.objs.size, PySem.W.kxs_mw "ValueError.__init__" a) :: pins) σ H ⟨h1.push (PySem.W.kxs_mw "ValueError.__init__" a), g, d, t + 1, os⟩ := by
    refine I2.pins_of fun p hp => ?_
    rcases List.mem_cons.mp hp with rfl | hp
    · exact ⟨hu, I1.hok.fresh (Nat.le_refl _), fun z => absurd I1.lt (by rw [← z]; exact Nat.lt_irrefl _), I1.nofs (Nat.le_refl _), fun v z => by cases z⟩
    · exact I2.pin p (List.mem_append_right _ hp)
  refine Calls.evalArgs_plain (show wpAny _ _ (spliced ((false, eval e X.env) :: backTo p3 (starEach es X.env))) _ _ _ from ?_)
  have := ha.run p3 _ _ σ H _ I3 h
  rw [he] at this
  refine thn this fun us s2 hv => ?_
  obtain ⟨zs, H1, I4, rz, lz, hH1, hq⟩ := hv
  have hu2 := (I4.pin (h1.objs.size, PySem.W.kxs_mw "ValueError.__init__" a) (by simp)).1
  refine ⟨hu2, sup_call (E := X.xe) T.oex (I4.pins_of fun p hp => I4.pin p (List.mem_append_right _ (List.mem_cons_of_mem _ hp))) hH1 hu2 (by show us.length ≤ _; rw [← Paired.length rz, sizeLine_eq]; omega) fun s' J => ⟨σ, H1, J, hq⟩⟩
/-- THE RULE for such a def -/
theorem FunS.ok {x qual : Str} {st : Stmt} {D f : Addr} {fd : FuncData} {N ps : List Str} {k : Nat} {sp : Sp} {p0 p1 p2 p3 p4 : Pos} {e : Expr} {es : List Expr} {rest : List Stmt} {ar : Arg} (F : FunS P K x qual st D f fd) (T : SupC K D) (S : FnScopeS N ps (defScope st)) (hm : mg "super" = none)
    (hbd : defBody st = .Expr (.Call (.Attribute (.Call (.Name "super" p0) [] [] p1) "__init__" p2) (e :: es) [] p3) p4 :: rest) (har : ((defArgs st).posonlyargs ++ (defArgs st).args).head? = some ar) (h0 : ps[0]? = some ar.arg)
    (hi : ∀ L a cd cc, interactive (PySem.W.ksEnv qual (defScope st) L a cd cc) = false) (hs : ∀ env, swapsWith (.Call (.Attribute (.Call (.Name "super" p0) [] [] p1) "__init__" p2) (e :: es) [] p3) none p4.line env = pure false) {pl : Env → Sem Bool}
    (hev : ∀ env, eval (.Call (.Attribute (.Call (.Name "super" p0) [] [] p1) "__init__" p2) (e :: es) [] p3) env = (do
      let ov ← attributeBase (.Call (.Name "super" p0) [] [] p1) "__init__" env (eval (.Call (.Name "super" p0) [] [] p1) env)
      standAt p2.atName
      let (f, first) ← holding [ov] (getMethod ov "__init__" (pl env))
      callWith p3 f first (backTo p3 (starEach (e :: es) env)) []))
    (he : ∀ env, starEach (e :: es) env = (false, eval e env) :: starEach es env) (hpl : ∀ env, (backTo p3 (starEach es env)).any (·.1) = false)
    (len : ∀ vs H Q E, sp vs H Q E → vs.length = ps.length)
    (hbody : ∀ (cda cc : Addr) (A : Around) (outer : List Env) (s : Shared) (H : Hp) (vs : List V) (Q : VK) (E : XK), Room k (A.deeper (PySem.W.ksEnv qual (defScope st) s.heap.objs.size f (.ref cda) cc)) → sp vs H Q E →
      ∃ ta ts a, PA (cxS P w K mg base N qual (defScope st) f cda cc A outer s H) (e :: es) ta ∧ PSs (cxS P w K mg base N qual (defScope st) f cda cc A outer s H) rest ts ∧ vs[0]? = some (.ref a) ∧ H a = some (exo a D none) ∧
        ta (L2.start N vs) H fun zs H1 => zs.length ≤ 1000 ∧ H1 a = some (exo a D none) ∧ ts { nx := fun _ H' => Q .non H', rt := Q } (L2.start N vs) H1) : FnOk P w K mg base CX0 (k + 1) f fd ps sp := by
  obtain ⟨oc, od, kV, doc, pm, an, cda, cc, ct, osl, ccl, cl, cdd, cld, vs0, ccs, csl, file, tf, rfl, lk, hcd, lcd, hvs, hfile, lcc⟩ := F.ex
  refine ⟨len, fun A outer s H args us vs Q E hr e0 hb r hsp => ?_⟩
  have hl := len _ _ _ _ hsp
  have KX : K.In s.heap := e0.mod.kin.keeps fun b o e => (e0.bs b o e).1
  have lim : s.heap.NoLimit := e0.mod.nolimit.keeps fun b o e => (e0.bs b o e).1
  refine ks_codeAny_call_defAt (fd := PySem.W.fnX x qual (defArgs st) (defBody st) (defScope st) [("__class__", cc)] .none kV doc pm an (.ref cda) ct) (body := defBody st) (binds := ps.zip us) hr.depth (KX _ _ lk) rfl lim (PySem.W.codeRec_of KX hcd) rfl hb S.nocell
    (fun ⟨n, v⟩ hy => S.par n (List.of_mem_zip hy).1) (fun h₁ hns hk => ?_) S.co S.gen S.kind
  obtain ⟨ta, ts, a, hA, hS, hv, hH, hq⟩ := hbody cda cc A outer s H vs Q E (hr.deeper _) hsp
  have I : Inv (cxS P w K mg base N qual (defScope st) f cda cc A outer s H) [] (L2.start N vs) H { s with heap := h₁, toks := s.toks + (ps.zip us).length } := inv_startS S hr.hd e0 hl r lcc hns hk
  have fin : ∀ {s' : Shared} {σ' : L2.St} {H' : Hp} {v : V} {u : Value}, Inv (cxS P w K mg base N qual (defScope st) f cda cc A outer s H) [] σ' H' s' → RelV v u → Q v H' → CE outer P w H s Q u s' :=
    fun {s' σ' H' v u} J rv q => ⟨v, H', J.os, J.bare, J.base, J.hok, rv, q⟩
  have hvl : 0 < vs.length := (List.getElem?_eq_some_iff.mp hv).1
  have hN0 : N[0]? = some ar.arg := by
    rw [← S.pre, List.getElem?_take] at h0
    split at h0
    · exact h0
    · cases h0
  have hσ : (L2.start N vs)[0]? = some (some (.ref a)) := by
    unfold L2.start
    rw [List.getElem?_append_left (by simpa using hvl), List.getElem?_map, hv]
    rfl
  have main := sup_stmt (X := cxS P w K mg base N qual (defScope st) f cda cc A outer s H) (body := defBody st) (Dn := { nx := ts { nx := fun _ H' => Q .non H', rt := Q }, rt := fun _ _ => False }) T S.sup S.cls rfl rfl rfl lk har lcd hvs hfile F.top lcc hm hN0
    (S.par _ (List.mem_of_getElem? h0)) (hi _ _ _ _) (hs _) (hev _) (he _) (hpl _) hA I hσ hH hq
  have ex : execs (defBody st) (PySem.W.ksEnv qual (defScope st) s.heap.objs.size f (.ref cda) cc) = execs (.Expr (.Call (.Attribute (.Call (.Name "super" p0) [] [] p1) "__init__" p2) (e :: es) [] p3) p4 :: rest) (PySem.W.ksEnv qual (defScope st) s.heap.objs.size f (.ref cda) cc) := congrArg (fun b => execs b _) hbd
  show _root_.PySem.wpAt _ (A.deeper (PySem.W.ksEnv qual (defScope st) s.heap.objs.size f (.ref cda) cc)) (.func (defBody st) (PySem.W.ksEnv qual (defScope st) s.heap.objs.size f (.ref cda) cc)) (execs (defBody st) (PySem.W.ksEnv qual (defScope st) s.heap.objs.size f (.ref cda) cc)) _ _ _
  rw [ex]
  refine ks_wpAt_execs_cons (ks_wpAt_mono main (fun fl s1 h1 => ?_) fun _ _ z => False.elim z)
  cases fl with
  | next =>
    obtain ⟨σ', H', J, q⟩ := h1
    refine _root_.PySem.wpAt_of_wpAny (wpAny_mono (hS.run [] s1 σ' H' _ J q) (fun fl s2 h2 => ?_) fun _ _ z => False.elim z)
    cases fl with
    | ret u =>
      obtain ⟨v, σ2, H2, J2, rv, q2⟩ := h2
      exact fin J2 rv q2
    | next =>
      obtain ⟨σ2, H2, J2, q2⟩ := h2
      exact fin (v := V.non) (u := Value.none) J2 rfl q2
    | brk =>
      obtain ⟨_, _, _, z⟩ := h2
      exact False.elim z
    | cont =>
      obtain ⟨_, _, _, z⟩ := h2
      exact False.elim z
  | ret u =>
    obtain ⟨v, σ2, H2, J2, rv, q2⟩ := h1
    exact False.elim q2
  | brk =>
    obtain ⟨_, _, _, z⟩ := h1
    exact False.elim z
  | cont =>
    obtain ⟨_, _, _, z⟩ := h1
    exact False.elim z
end
end VX
namespace VX
open PySem PySem.Spec PyProof.Rows L2
section
variable {P : Program} {K : PySem.W.Frag}
theorem FunS.binds {x qual : Str} {st : Stmt} {D f : Addr} {fd : FuncData} {ps : List Str} (F : FunS P K x qual st D f fd)
    (h : ∀ (kV doc pm : Value) (an : Option Addr) (cda cc : Addr) (ct : Value) (us : List Value), us.length = ps.length → bindArgs (PySem.W.fnX x qual (defArgs st) (defBody st) (defScope st) [("__class__", cc)] .none kV doc pm an (.ref cda) ct) ⟨us, []⟩ = pure (ps.zip us)) : Binds K fd ps [] := by
  obtain ⟨oc, od, kV, doc, pm, an, cda, cc, ct, osl, ccl, cl, cdd, cld, vs0, ccs, csl, file, tf, rfl, _⟩ := F.ex
  exact Binds.all (h kV doc pm an cda cc ct)
theorem funS_mk {x qual : Str} {st : Stmt} {D f cda cc : Addr} {oc ccl cl : Value} {od an cdd cld : Option Addr} {osl ccs csl : Array (Option Value)} {kV doc pm ct : Value} {vs : Array Value} {file : Str} {tf : Tok} (l : K.lookup f = some ⟨oc, od, .func (PySem.W.fnX x qual (defArgs st) (defBody st) (defScope st) [("__class__", cc)] .none kV doc pm an (.ref cda) ct), osl⟩)
    (c : PySem.W.codeIn K (.ref cda) qual = true) (lcd : K.lookup cda = some ⟨ccl, cdd, .fields vs, ccs⟩) (hv : vs[2]? = some (.str file tf)) (hf : ((P.main.file : Str) == file) = true) (lcc : K.lookup cc = some ⟨cl, cld, .cell (some (.ref D)), csl⟩) (k : PySem.W.keepIn K (.ref f) = true) (t : (P.main.scope.names.lookup ("super" : Str)).isSome = false) :
    FunS P K x qual st D f (PySem.W.fnX x qual (defArgs st) (defBody st) (defScope st) [("__class__", cc)] .none kV doc pm an (.ref cda) ct) := ⟨⟨oc, od, kV, doc, pm, an, cda, cc, ct, osl, ccl, cl, cdd, cld, vs, ccs, csl, file, tf, rfl, l, c, lcd, hv, hf, lcc⟩, k, t⟩
end
end VX
set_option maxRecDepth 100000
set_option maxHeartbeats 4000000
/-! An own error as a value: C(..), its attributes, isinstance. -/
namespace VX
open PySem PySem.Spec PyProof.Rows L2
/-- C(e, ..): the error stands at a, its dict at d -/
def tMkV (C : Addr) (sp : Sp) (ta : TA) : TE := fun σ H Q => ta σ H fun vs H1 => vs.length ≤ 1000 ∧ ∀ a, H1 a = none → sp (.ref a :: vs) (upd H1 a (exo a C none)) (fun v H2 => v = .non ∧ Q (.ref a) H2) (fun _ _ _ => False)
section
variable {X : Cx} {CX : CXT} {x : Str} {C fI : Addr} {k : Nat} {fd : FuncData} {ps : List Str} {sp : Sp} {e : Expr} {es : List Expr} {ta : TA} {p pos : Pos}
theorem pe_oex (T : OexC X.K C) (iC : PySem.W.findIn X.K (.ref C) "__init__" = some (some (.ref fI))) (tI : PySem.W.typeIn X.K (.ref fI) = some (.type "function")) (F1 : FnOk X.prog X.w X.K X.mg X.base CX k fI fd ps sp) (hr : Room (k + 1) X.A) (hb : Binds X.K fd ps [])
    (hx : Passes CX X (fun _ _ _ => False)) (hg : Gl X x) (hm : X.mg x = some (.ref C)) (ha : PA X (e :: es) ta) (hdb : (x == ("__debug__" : Str)) = false := by decide) (he : starEach (e :: es) X.env = (false, eval e X.env) :: starEach es X.env := by rfl)
    (hpl : (backTo pos (starEach es X.env)).any (·.1) = false := by rfl) : PE X (.Call (.Name x p) (e :: es) [] pos) (tMkV C sp ta) := by
  refine ⟨fun pins s σ H Q I h => ?_⟩
  obtain ⟨nm, q, N, bs, bm, sn, sub, ab, col, dd, k0, k1, k2, k3, k5, hC, hbm⟩ := T.cls
  refine wpAny_Call_Name_kw (ld_glob I hg hm (PySem.W.callWith_K (h₀ := X.base) I.ok.mod.kin T.kC (thn (ha.run pos pins s σ H _ I h) fun us s1 ⟨vs, H1, I1, r1, hz, q1⟩ => ⟨I1.kIn, ?_⟩) he hpl) hdb)
  show wpAny _ _ (call (.ref C) us) _ _ _
  obtain ⟨hp, g, dr, tk, os⟩ := s1
  have up : hp.objs.size ≤ hp.objs.size + 1 := Nat.le_succ _
  have nn : H1 (hp.objs.size + 1) = none := I1.hok.fresh up
  have qq := q1 (hp.objs.size + 1) nn
  have kp : ∀ b o, hp.get? b = some o → ((hp.push (PySem.W.kdv_tup us)).push (PySem.HandSPX.excO C hp.objs.size)).get? b = some o := fun b o z => Heap.get?_push_of_some _ (Heap.get?_push_of_some _ z)
  have got : ((hp.push (PySem.W.kdv_tup us)).push (PySem.HandSPX.excO C hp.objs.size)).get? (hp.objs.size + 1) = some (PySem.HandSPX.excO C hp.objs.size) := by heap_get
  have I2 := I1.laid (t' := tk) (a := hp.objs.size + 1) (o := exo (hp.objs.size + 1) C none) (h' := (hp.push (PySem.W.kdv_tup us)).push (PySem.HandSPX.excO C hp.objs.size)) kp up (exo_ok got)
  have r2 : Vals (V.ref (hp.objs.size + 1) :: vs) (Value.ref (hp.objs.size + 1) :: us) := .cons rfl r1
  have ll : (Value.ref (hp.objs.size + 1) :: us).length = ps.length := by
    have z := r2.length
    rw [F1.len _ _ _ _ qq] at z
    exact z.symm
  have hus : us.length ≤ sizeLine := by rw [← Paired.length r1, sizeLine_eq]; omega
  have hbd := hb _ (Value.ref (hp.objs.size + 1) :: us) I2.kIn (by rw [List.append_nil]; exact ll)
  rw [List.append_nil] at hbd
  refine wpAny_call (PySem.HandSPX.call_own F.excBase_ValueError (fun Y => PySem.HandSPX.refsVE_contains Y bm hbm) (I1.kIn _ _ hC) (PySem.W.looks_findIn I1.kIn iC) (fun self => PySem.W.bind_fn I1.kIn self tI) hus
    (codeAny_mono (F1.run _ X.stack _ _ ⟨Value.ref (hp.objs.size + 1) :: us, []⟩ (Value.ref (hp.objs.size + 1) :: us) _ _ (fun _ _ _ => False) (hr.make C us []) (I2.env0.make C us []) hbd r2 qq) fun r s' hq' => ?_))
  cases r with
  | error er => exact hx pins σ _ _ er s' I2 hq'
  | ok fl =>
    cases fl with
    | ret u =>
      obtain ⟨v, H2, os2, bare2, un2, hok2, rv, ev, q2⟩ := hq'
      subst ev
      obtain ⟨h2, g2, d2, t2, os'⟩ := s'
      exact ⟨rv, V.ref (hp.objs.size + 1), H2, I2.call' (ch := []) os2 un2 hok2 bare2 (fun b z => absurd z (by simp)), rfl, q2⟩
    | next => exact False.elim hq'
    | brk => exact False.elim hq'
    | cont => exact False.elim hq'
/-- an attribute of such an error -/
def tFldE (K : PySem.W.Frag) (C : Addr) (n : Str) (te : TE) : TE := fun σ H Q => te σ H fun x H1 => ∃ (a d : Addr) (fs : List (Str × V)) (v : V), x = .ref a ∧ H1 a = some (exo a C (some d)) ∧ H1 d = some (exd d fs) ∧ fs.lookup n = some v ∧ Q v H1
theorem exo_inst {pins : List (Addr × Obj)} {σ : L2.St} {H : Hp} {s : Shared} {a d : Addr} {fs : List (Str × V)} (I : Inv X pins σ H s) (ea : H a = some (exo a C (some d))) (ed : H d = some (exd d fs)) :
    ∃ oe od mA, PySem.W.InstAt s.heap a oe C (some od) ∧ s.heap.Ns1 d mA ∧ (∀ f, RelO (fs.lookup f) (mA f)) ∧ oe.dict = some d ∧ (∀ name, PySem.W.lookIn name od = some (mA name)) := by
  obtain ⟨t1, ho⟩ := exo_at I.hok ea
  obtain ⟨mA, hns, hr⟩ := exd_at I.hok ed
  obtain ⟨od, hd, hl⟩ := lookIn_ns hns
  exact ⟨_, od, mA, ⟨ho, rfl, rfl, hd⟩, hns, hr, rfl, hl⟩
theorem pe_fldE {n : Str} {te : TE} (T : XfC X.K C) (hno : PySem.W.findIn X.K (.ref C) n = some none) (he : PE X e te) (hb : attributeBase e n X.env (eval e X.env) = eval e X.env := by rfl) : PE X (.Attribute e n pos) (tFldE X.K C n te) := by
  refine ⟨fun pins s σ H Q I h => attr_of hb (thn (he.run pins s σ H _ I h) fun u s1 hh => ?_)⟩
  obtain ⟨x, H1, I1, rx, a, d, fs, v, rfl, ea, ed, l, q⟩ := hh
  cases rx
  obtain ⟨oe, od, mA, J, _, hr, hd, hl⟩ := exo_inst I1 ea ed
  obtain ⟨u, hu, ru⟩ := RelO.some_of (v := v) (o := mA n) (by rw [← l]; exact hr n)
  exact HandSPX.exc_get I1.kIn J T.ga T.gg T.exC (PySem.W.findObj_own T.hdC hno rfl (by rw [hl, hu])) (handed_of ru) ⟨v, H1, I1.tok _, ru, q⟩
def rIsE (K : PySem.W.Frag) (C : Addr) : List V → Hp → VK → Prop := fun xs H Q => ∃ (a d : Addr) (fs : List (Str × V)) (c : V) (cv : Value) (b : Bool), xs = [.ref a, c] ∧ H a = some (exo a C (some d)) ∧ H d = some (exd d fs) ∧ (∀ u, RelV c u → u = cv) ∧ PySem.W.kitOne K (.ref C) cv = some b ∧ Q (.bl b) H
theorem call_isE (D : ExcD X.K C) : CallR X (.builtin "isinstance") (rIsE X.K C) := by
  intro pins s σ H xs us Q I r h
  obtain ⟨a, d, fs, c, cv, b, rfl, ea, ed, hcv, ek, q⟩ := h
  obtain ⟨u1, u2, rfl, rx, rt⟩ := vals2 r
  cases rx
  have ec := hcv _ rt
  subst ec
  obtain ⟨oe, od, mA, J, _⟩ := exo_inst I ea ed
  exact PySem.W.kia_one (PySem.W.kitx_exc D.cls D.c.hg D.c.hk D.c.hs D.c.ha D.c.hn D.c.ht D.c.hm) I.kIn J ek (fun z => nomatch z) fun tk => ⟨.bl b, H, I.kept (t' := tk) fun _ _ z => z, rfl, q⟩
end
end VX
set_option maxRecDepth 100000
set_option maxHeartbeats 4000000
/-! Comprehensions and loops, read. -/
namespace VX
open PySem PySem.Spec PyProof.Rows L2
section
variable {σ σ' : L2.St} {H : Hp} {Q : VK} {K : PySem.W.Frag} {wi : TI} {g : TG} {tt : TT} {te : TE} {vs : List Nat}
theorem i_lc (q : wi σ H fun J H1 => ∀ D, H1 D = none → ∃ W : Nat → Nat → Hp → Prop, (∃ m, W 0 m (upd H1 D (.lst []))) ∧ ∀ i m H, W i m H →
  (J.stop i H ∧ Q (.ref D) H) ∨ (J.go i H ∧ ∃ Nx : Hp → Prop, (∀ H', Nx H' → ∃ m', m' < m ∧ W (i + 1) m' H') ∧ ∀ x H', J.yld i H x H' → g x (wipe σ vs) H' fun σ2 H2 => wipe σ2 vs = wipe σ vs ∧ tt σ2 H2 fun b H3 =>
    if b = true then te σ2 H3 fun y H4 => ∃ acc, H4 D = some (.lst acc) ∧ acc.length < sizeLine ∧ Nx (upd H4 D (.lst (acc ++ [y]))) else Nx H3)) : tLc wi g tt te vs σ H Q := q
theorem i_rixL {p : Addr} {xs : List V} {i : Int} {v : V} (h : SqL K H p xs) (hi : atI xs i = some v) (q : Q v H) : rIx K (.ref p) (.int i) H Q := .inl ⟨p, xs, i, v, rfl, rfl, h, hi, q⟩
theorem i_rixT {p : Addr} {xs : List V} {i : Int} {v : V} (h : SqT K H p xs) (hi : atI xs i = some v) (q : Q v H) : rIx K (.ref p) (.int i) H Q := .inr (.inl ⟨p, xs, i, v, rfl, rfl, h, hi, q⟩)
theorem i_cut {D : Ends} {t u : TS} {M : L2.St → Hp → Prop} (h : t { D with nx := M } σ H) (k : ∀ σ' H', M σ' H' → u D σ' H') : Evl.tCut t u D σ H := ⟨M, h, k⟩
theorem i_for {D : Ends} {wi : TI} {g : TG} {tb : TS} (q : wi σ H fun J H1 => ∃ W : Nat → Nat → L2.St → Hp → Prop, (∃ m, W 0 m σ H1) ∧ ∀ i m σ H, W i m σ H →
  (J.stop i H ∧ D.nx σ H) ∨ (J.go i H ∧ ∃ N : L2.St → Hp → Prop, (∀ σ' H', N σ' H' → ∃ m', m' < m ∧ W (i + 1) m' σ' H') ∧ ∀ x H', J.yld i H x H' → g x σ H' fun σ2 H2 => tb { D with nx := N, ct := N, bk := D.nx } σ2 H2)) : tFor wi g tb D σ H := q
theorem i_lstRg {te : L2.St → Hp → (Int → Int → Hp → Prop) → Prop} (q : te σ H fun a b H1 => RgOk a b ∧ ∀ q, H1 q = none → Q (.ref q) (upd H1 q (.lst (rgV a b)))) : tLstRg te σ H Q := q
theorem i_rg2 {ta tb : TE} {R : Int → Int → Hp → Prop} (q : ta σ H fun x H1 => tb σ H1 fun y H2 => ∃ i j, x = .int i ∧ y = .int j ∧ R i j H2) : tRg2 ta tb σ H R := q
theorem i_rg2v {i j : Int} {R : Int → Int → Prop} (q : R i j) : ∃ i' j', V.int i = .int i' ∧ V.int j = .int j' ∧ R i' j' := ⟨i, j, rfl, rfl, q⟩
theorem i_yes {Q : Bool → Hp → Prop} (q : Q true H) : tYes σ H Q := q
theorem i_wipe {R : Prop} (e : wipe σ' vs = wipe σ vs) (q : R) : wipe σ' vs = wipe σ vs ∧ R := ⟨e, q⟩
theorem i_iList {tl : TE} {R : It → Hp → Prop} (q : tl σ H fun x H1 => ∃ a, x = .ref a ∧ (∃ xs, SqL K H1 a xs) ∧ R (Itl K a) H1) : iList K tl σ H R := q
theorem i_iRng1 {ta : TA} {R : It → Hp → Prop} (q : ta σ H fun vs H1 => ∃ j : Int, vs = [.int j] ∧ -(2 ^ 62) ≤ j ∧ j < 2 ^ 62 ∧ R (Itr 0 j.toNat) H1) : iRng1 ta σ H R := q
theorem i_iRng2 {ta : TA} {R : It → Hp → Prop} (q : ta σ H fun vs H1 => ∃ i j : Int, vs = [.int i, .int j] ∧ (-(2 ^ 62) ≤ i ∧ i < 2 ^ 62 ∧ -(2 ^ 62) ≤ j ∧ j < 2 ^ 62) ∧ R (Itr i (j - i).toNat) H1) : iRng2 ta σ H R := q
theorem i_iEnum {ta : TA} {R : It → Hp → Prop} (q : ta σ H fun vs H1 => ∃ a xs, vs = [.ref a] ∧ SqL K H1 a xs ∧ R (Ite K a) H1) : iEnum K ta σ H R := q
theorem i_iZip {ta : TA} {R : It → Hp → Prop} (q : ta σ H fun vs H1 => ∃ a b xs ys, vs = [.ref a, .ref b] ∧ SqL K H1 a xs ∧ SqL K H1 b ys ∧ R (Itz K a b) H1) : iZip K ta σ H R := q
theorem i_iOwn {C : Addr} {nm : Str} {R : It → Hp → Prop} (q : te σ H fun x H1 => ∃ a dx fs l zs, x = V.ref a ∧ H1 a = some (.ins C dx fs) ∧ fs.lookup nm = some (V.ref l) ∧ SqL K H1 l zs ∧ R (Itl K l) H1) : iOwn K C nm te σ H R := q
/-- a comprehension without a test whose items are plain values and which changes nothing -/
theorem lc_map {J : It} {n : Nat} {G : Hp → Prop} {Y : Nat → Hp → V → Hp → Prop} (w : Walk J n G Y) {H1 F : Hp} {D : Addr} {Qd : Hp → Prop} (eF : Same F H1) (nD : H1 D = none) (hn : n ≤ 10000) (f : Nat → V) (hG : ∀ H, Same F H → G H)
    (hs : ∀ i x H H', i < n → Same F H → Y i H x H' → Same H H' ∧ ∀ R : VK, (∀ H4, Same H' H4 → R (f i) H4) → g x (wipe σ vs) H' fun σ2 H2 => wipe σ2 vs = wipe σ vs ∧ te σ2 H2 R)
    (hd : ∀ H, Same F H → H D = some (.lst ((List.range n).map f)) → Qd H) :
    ∃ W : Nat → Nat → Hp → Prop, (∃ m, W 0 m (upd H1 D (.lst []))) ∧ ∀ i m H, W i m H →
      (J.stop i H ∧ Qd H) ∨ (J.go i H ∧ ∃ Nx : Hp → Prop, (∀ H', Nx H' → ∃ m', m' < m ∧ W (i + 1) m' H') ∧ ∀ x H', J.yld i H x H' → g x (wipe σ vs) H' fun σ2 H2 => wipe σ2 vs = wipe σ vs ∧ tYes σ2 H2 fun b H3 =>
        if b = true then te σ2 H3 fun y H4 => ∃ acc, H4 D = some (.lst acc) ∧ acc.length < sizeLine ∧ Nx (upd H4 D (.lst (acc ++ [y]))) else Nx H3) := by
  have fD : F D = none := eF.free nD
  refine lc_it w (Qd := Qd) (tt := tYes) (fun i H => Same F H ∧ H D = some (.lst ((List.range i).map f))) ⟨fun b o hb => ?_, upd_same⟩ (fun i H _ p => hG H p.1) (fun i x H H' hi p y => ?_) fun H p => hd H p.1 p.2
  · rw [upd_ne (ne_of_none hb fD)]
    exact eF b o hb
  · obtain ⟨e, q⟩ := hs i x H H' hi p.1 y
    refine q (fun y H4 => ∃ acc, H4 D = some (.lst acc) ∧ acc.length < sizeLine ∧ (Same F (upd H4 D (.lst (acc ++ [y]))) ∧ upd H4 D (.lst (acc ++ [y])) D = some (.lst ((List.range (i + 1)).map f)))) fun H4 e4 => ?_
    have h4 : H4 D = some (.lst ((List.range i).map f)) := e4 _ _ (e _ _ p.2)
    refine ⟨_, h4, ?_, fun b o hb => ?_, ?_⟩
    · rw [List.length_map, List.length_range]
      exact Nat.lt_of_lt_of_le hi (Nat.le_trans hn (by decide))
    · rw [upd_ne (ne_of_none hb fD)]
      exact e4 _ _ (e _ _ (p.1 b o hb))
    · rw [upd_same, List.range_succ, List.map_append]
      rfl
end
theorem range_map_at {α : Type} {f : Nat → α} {xs : List α} (h : ∀ i x, xs[i]? = some x → f i = x) : (List.range xs.length).map f = xs := by
  apply List.ext_getElem?
  intro i
  by_cases hi : i < xs.length
  · rw [List.getElem?_map, List.getElem?_range hi, List.getElem?_eq_getElem hi]
    exact congrArg some (h i _ (List.getElem?_eq_getElem hi))
  · rw [List.getElem?_eq_none (by rw [List.length_map, List.length_range]; omega), List.getElem?_eq_none (by omega)]
end VX
set_option maxRecDepth 100000
set_option maxHeartbeats 4000000
/-! sorted(xs): tuples that begin with d whole numbers, no two with the same beginning. -/
namespace VX
open PySem PySem.Spec PyProof.Rows L2
/-- the order of lists of numbers -/
def lexL : List Int → List Int → Bool
  | [], [] => false
  | [], _ :: _ => true
  | _ :: _, [] => false
  | x :: xs, y :: ys => if x = y then lexL xs ys else decide (x < y)
theorem lexL_same {x : Int} {xs ys : List Int} : lexL (x :: xs) (x :: ys) = lexL xs ys := if_pos rfl
theorem lexL_ne {x y : Int} {xs ys : List Int} (h : x ≠ y) : lexL (x :: xs) (y :: ys) = decide (x < y) := if_neg h
theorem lexL_asym : ∀ xs ys : List Int, lexL xs ys = true → lexL ys xs = false
  | [], [], _ => rfl
  | [], _ :: _, _ => rfl
  | _ :: _, [], h => by cases h
  | x :: xs, y :: ys, h => by
    by_cases e : x = y
    · subst e
      rw [lexL_same] at h ⊢
      exact lexL_asym xs ys h
    · rw [lexL_ne e] at h
      rw [lexL_ne (Ne.symm e)]
      have := of_decide_eq_true h
      exact decide_eq_false (by omega)
theorem lexL_tr : ∀ xs ys zs : List Int, lexL ys xs = false → lexL zs ys = false → lexL zs xs = false
  | [], [], [], _, _ => rfl
  | [], [], _ :: _, _, _ => rfl
  | [], _ :: _, [], _, h => by cases h
  | [], _ :: _, _ :: _, _, _ => rfl
  | _ :: _, [], _, h, _ => by cases h
  | _ :: _, _ :: _, [], _, h => by cases h
  | x :: xs, y :: ys, z :: zs, h1, h2 => by
    by_cases e1 : y = x
    · subst e1
      rw [lexL_same] at h1
      by_cases e2 : z = y
      · subst e2
        rw [lexL_same] at h2 ⊢
        exact lexL_tr xs ys zs h1 h2
      · rw [lexL_ne e2] at h2 ⊢
        exact h2
    · rw [lexL_ne e1] at h1
      by_cases e2 : z = y
      · subst e2
        rw [lexL_ne e1]
        exact h1
      · rw [lexL_ne e2] at h2
        have a1 := of_decide_eq_false h1
        have a2 := of_decide_eq_false h2
        rw [lexL_ne (by omega)]
        exact decide_eq_false (by omega)
theorem lexL_swo {α : Type} (f : α → List Int) : SrtO.Swo (fun x y => lexL (f x) (f y)) := ⟨fun x y h => lexL_asym _ _ h, fun x y z h1 h2 => lexL_tr _ _ _ h1 h2⟩
theorem lexL_self : ∀ xs : List Int, lexL xs xs = false
  | [] => rfl
  | x :: xs => by rw [lexL_same, lexL_self xs]
section
variable {prog : Program} {w : World} {A : Around} {E : Value → Shared → Prop} {s : Shared} {Q : Bool → Shared → Prop}
theorem eqb_self {v : Value} (h : Q true s) : wpAny (model prog w) A (eqBool v v) Q E s := by
  unfold eqBool
  refine wpAny_holding ?_
  rw [if_pos (beq_self_eq_true v)]
  exact wpAny_bind (wpAny_rule (wpAny_pure h))
theorem lex_self {b : Bool} : ∀ (xs : List Value) (i : Nat), Q false s → PySem.W.KatLex prog w A b false Q (xs.zip xs) i s
  | [], _, h => PySem.W.kat_nil h
  | x :: xs, i, h => PySem.W.kat_cons (eqb_self (PySem.W.kat_yes (lex_self xs (i + 1) h)))
theorem lex_pfx {b fin : Bool} {xs ys tx ty : List Value} {ns ms : List Int} (i : Nat) (hx : IntsAre xs ns) (hy : IntsAre ys ms) (hl : ns.length = ms.length) (ne : ns ≠ ms)
    (h : Q (lexL ns ms) s) : PySem.W.KatLex prog w A b fin Q ((xs ++ tx).zip (ys ++ ty)) i s := by
  induction hx generalizing ys ms i with
  | nil =>
    cases hy with
    | nil => exact absurd rfl ne
    | cons q u hy => simp at hl
  | @cons p t xs ns hx ih =>
    cases hy with
    | nil => simp at hl
    | @cons q u ys ms hy =>
      refine PySem.W.kat_cons (wpAny_eqBool_int ?_)
      by_cases e : p = q
      · subst e
        rw [lexL_same] at h
        rw [beq_self_eq_true]
        exact PySem.W.kat_yes (ih (i + 1) hy (by simpa using hl) (fun z => ne (by rw [z])) h)
      · rw [lexL_ne e] at h
        rw [beq_eq_false_iff_ne.mpr e]
        exact PySem.W.kat_no (TS.oneLt_ints _ h)
end
/-- a tuple that begins with these numbers -/
def Pfx (h : Heap) (v : Value) (ns : List Int) : Prop := ∃ a xs vs tx, v = .ref a ∧ IsTup h a xs ∧ xs.toList = vs ++ tx ∧ IntsAre vs ns
theorem Pfx.keeps {h h' : Heap} {v : Value} {ns : List Int} (x : Pfx h v ns) (k : ∀ b o, h.get? b = some o → o.cls = .type "tuple" → h'.get? b = some o) : Pfx h' v ns := by
  obtain ⟨a, xs, vs, tx, e, ⟨o, ho, hc, hd⟩, i⟩ := x
  exact ⟨a, xs, vs, tx, e, ⟨o, k _ _ ho hc, hc, hd⟩, i⟩
theorem ints_uniq : ∀ {vs us tx ty : List Value} {ns ms : List Int}, IntsAre vs ns → IntsAre us ms → ns.length = ms.length → vs ++ tx = us ++ ty → ns = ms
  | _, _, _, _, _, _, .nil, .nil, _, _ => rfl
  | _, _, _, _, _, _, .nil, .cons _ _ _, hl, _ => by simp at hl
  | _, _, _, _, _, _, .cons _ _ _, .nil, hl, _ => by simp at hl
  | _, _, _, _, _, _, .cons n t hx, .cons m u hy, hl, e => by
    have e1 : Value.int n t = Value.int m u := (List.cons.inj e).1
    have e2 := ints_uniq hx hy (by simpa using hl) (List.cons.inj e).2
    cases e1
    rw [e2]
theorem Pfx.uniq {h : Heap} {v : Value} {ns ms : List Int} (x : Pfx h v ns) (y : Pfx h v ms) (hl : ns.length = ms.length) : ns = ms := by
  obtain ⟨a, xs, vs, tx, rfl, ⟨o, ho, hc, n, hd⟩, i1, i2⟩ := x
  obtain ⟨b, ys, us, ty, e, ⟨o', ho', hc', n', hd'⟩, j1, j2⟩ := y
  cases e
  rw [ho] at ho'
  cases ho'
  rw [hd] at hd'
  cases hd'
  exact ints_uniq i2 j2 hl (i1.symm.trans j1)
structure PfxOk (h : Heap) (d : Nat) (vs : List Value) (pr : Value → List Int) : Prop where
  at_ : ∀ v, v ∈ vs → Pfx h v (pr v) ∧ (pr v).length = d
  one : ∀ u v, u ∈ vs → v ∈ vs → pr u = pr v → u = v
theorem pfx_firsts {h : Heap} {d : Nat} (hd : 1 ≤ d) (pr : Value → List Int) : ∀ vs : List Value, (∀ v, v ∈ vs → Pfx h v (pr v) ∧ (pr v).length = d) → ∃ fs, PySem.W.KatTups h vs fs ∧ fs.length = vs.length ∧ ∀ f, f ∈ fs → ∃ n t, f = Value.int n t
  | [], _ => ⟨[], PySem.W.KatTups.nil, rfl, fun f hf => by simp at hf⟩
  | v :: vs, x => by
    obtain ⟨fs, k, hl, hi⟩ := pfx_firsts hd pr vs fun u hu => x u (List.mem_cons_of_mem _ hu)
    obtain ⟨⟨a, xs, us, tx, rfl, ⟨o, ho, hc, n, hdt⟩, e, i⟩, hn⟩ := x v (List.mem_cons_self ..)
    generalize pr (.ref a) = ns at i hn
    cases i with
    | nil =>
      rw [List.length_nil] at hn
      omega
    | @cons m t ys ns i =>
      refine ⟨.int m t :: fs, PySem.W.KatTups.cons ho hc hdt ?_ k, by simp [hl], ?_⟩
      · have z := congrArg (fun l : List Value => l[0]?) e
        simpa using z
      · intro f hf
        rcases List.mem_cons.mp hf with rfl | hf
        · exact ⟨m, t, rfl⟩
        · exact hi f hf
section
variable {prog : Program} {w : World} {A : Around} {E : Value → Shared → Prop} {s : Shared}
theorem pfx_sortable {a : Addr} {vs : List Value} {d : Nat} {pr : Value → List Int} (hd : 1 ≤ d) (h2 : 2 ≤ vs.length) (x : PfxOk s.heap d vs pr) (ha : ∀ o, s.heap.get? a = some o → o.cls ≠ .type "tuple") : SrtO.SortableO prog w A s a vs fun v u => lexL (pr v) (pr u) := by
  intro h' keep
  have y : ∀ v ∈ vs, Pfx h' v (pr v) ∧ (pr v).length = d := fun v m => ⟨(x.at_ v m).1.keeps fun b o e c => keep b o (fun z => ha o (z ▸ e) c) e, (x.at_ v m).2⟩
  obtain ⟨fs, k, hl, hi⟩ := pfx_firsts hd pr vs y
  refine ⟨PyProof.Rows.tuples' true, fun Q E hq => PySem.W.kat_kind (T := .type "int") k (by omega) (fun f m => ?_) rfl hq, fun p q hp hq => ?_⟩
  · obtain ⟨n, t, rfl⟩ := hi f m
    exact PySem.W.Looks.of_pure rfl
  · show wpAny _ _ (keyLt' _ p.1 q.1) (fun r s' => s' = _ ∧ r = lexL (pr p.1) (pr q.1)) _ _
    have hp : p.1 ∈ vs := hp
    have hq : q.1 ∈ vs := hq
    generalize p.1 = u at hp ⊢
    generalize q.1 = v at hq ⊢
    obtain ⟨tp, lp⟩ := y u hp
    obtain ⟨tq, lq⟩ := y v hq
    by_cases e : pr u = pr v
    · cases x.one u v hp hq e
      rw [lexL_self]
      obtain ⟨a, xs, us, tx, rfl, ⟨o, ho, hc, n, hdt⟩, e1, i⟩ := tp
      refine PySem.W.kat_lt ho hdt ho hdt ?_
      rw [decide_eq_false (Nat.lt_irrefl _)]
      exact lex_self _ 0 ⟨rfl, rfl⟩
    · obtain ⟨a, xs, us, tx, rfl, ⟨o, ho, hc, n, hdt⟩, e1, i⟩ := tp
      obtain ⟨a', ys, us', ty, rfl, ⟨o', ho', hc', n', hdt'⟩, e1', i'⟩ := tq
      refine PySem.W.kat_lt ho hdt ho' hdt' ?_
      rw [e1, e1']
      exact lex_pfx 0 i i' (lp.trans lq.symm) e ⟨rfl, rfl⟩
theorem not_tup {a : Addr} {vs : List Value} {n : Nat} {h : Heap} (e : h.get? a = some (seqObj "list" vs.toArray n)) : ∀ o, h.get? a = some o → o.cls ≠ .type "tuple" := fun o e' c => by
  cases e.symm.trans e'
  exact absurd (Value.type.inj c) (by decide)
theorem PfxOk.keeps {h h' : Heap} {d : Nat} {vs : List Value} {pr : Value → List Int} (x : PfxOk h d vs pr) (k : ∀ b o, h.get? b = some o → h'.get? b = some o) : PfxOk h' d vs pr :=
  ⟨fun v m => ⟨(x.at_ v m).1.keeps fun b o e _ => k b o e, (x.at_ v m).2⟩, x.one⟩
end
/-- the tuple x of the tracked heap begins with these numbers -/
def TupX (K : PySem.W.Frag) (H : Hp) (x : V) (ns : List Int) : Prop := ∃ t xs, x = .ref t ∧ SqT K H t (ns.map V.int ++ xs)
section
variable {X : Cx} {pins : List (Addr × Obj)} {σ : L2.St} {H : Hp} {s : Shared}
theorem ints_split : ∀ {ns : List Int} {xs : List V} {us : List Value}, Vals (ns.map V.int ++ xs) us → ∃ vs tx, us = vs ++ tx ∧ IntsAre vs ns
  | [], _, us, _ => ⟨[], us, rfl, .nil⟩
  | n :: ns, xs, _, .cons r t => by
    obtain ⟨vs, tx, e, i⟩ := ints_split (ns := ns) t
    obtain ⟨tk, rfl⟩ := r
    exact ⟨_ :: vs, tx, by rw [e]; rfl, .cons n tk i⟩
theorem tupX_raw (I : Inv X pins σ H s) {t : Addr} {ns : List Int} {xs : List V} (h : SqT X.K H t (ns.map V.int ++ xs)) : Pfx s.heap (.ref t) ns := by
  obtain ⟨its, rv, hT, _⟩ := I.tuple h
  obtain ⟨vs, tx, e, i⟩ := ints_split rv
  exact ⟨t, its.toArray, vs, tx, rfl, hT, by simpa using e, i⟩
/-- sorted(xs), xs a list of tuples that begin with d numbers, no two alike: a new list of the same, ascending -/
def rSortX (K : PySem.W.Frag) (d : Nat) : List V → Hp → VK → Prop := fun vs H Q => ∃ (a : Addr) (xs : List V) (pr : V → List Int), vs = [V.ref a] ∧ SqL K H a xs ∧ (∀ x ∈ xs, TupX K H x (pr x) ∧ (pr x).length = d) ∧
  (∀ x ∈ xs, ∀ y ∈ xs, pr x = pr y → x = y) ∧ ∀ (ys : List V) (p : Addr), ys.Perm xs → ys.Pairwise (fun x y => lexL (pr y) (pr x) = false) → H p = none → Q (.ref p) (upd H p (.lst ys))
theorem cr_sortX {d : Nat} (hd : 1 ≤ d) : CallR X (.builtin "sorted") (rSortX X.K d) := by
  intro pins s σ H vs us Q I r h
  obtain ⟨a, xs, pr, rfl, hs, hx, one, q⟩ := h
  obtain ⟨its, rv, hl, hz⟩ := I.list hs
  rw [Vals.ref1 r]
  obtain ⟨e1, e2⟩ := bkV_refs rv fun x m => let ⟨⟨t, _, e, _⟩, _⟩ := hx x m; ⟨t, e⟩
  have back : ∀ v ∈ its, bkV v ∈ xs := fun v hv => by
    rw [e1]
    exact List.mem_map_of_mem hv
  have ok : PfxOk s.heap d its (fun u => pr (bkV u)) := by
    refine ⟨fun v hv => ?_, fun u v hu hv e => ?_⟩
    · obtain ⟨⟨t, xs', e, ht⟩, hn⟩ := hx _ (back v hv)
      refine ⟨?_, hn⟩
      rw [bkV_ref e]
      have ht : SqT X.K H t ((pr (bkV (.ref t))).map V.int ++ xs') := by rw [← bkV_ref e]; exact ht
      exact tupX_raw I ht
    · obtain ⟨t, rfl⟩ := e2 u hu
      obtain ⟨t', rfl⟩ := e2 v hv
      cases one _ (back _ hu) _ (back _ hv) e
      rfl
  refine SrtO.sorted_ord (lexL_swo fun u => pr (bkV u)) hl.isList (by rw [← rv.length]; exact hz) (fun h2 h₁ c hc kk => pfx_sortable hd h2 (ok.keeps fun b o e => (kk b o e).2) (not_tup hc)) fun out h1 h2 => ?_
  obtain ⟨ep, he⟩ := PyProof.Rows.sortedAll_at s.heap its out.toArray
  have hp : (out.map bkV).Perm xs := by
    rw [e1]
    exact h2.perm.map bkV
  refine ⟨.ref _, upd H (s.heap.objs.size + 1) (.lst (out.map bkV)), I.laid (t' := s.toks) (fun _ _ => PyProof.Rows.sortedAll_old) (Nat.le_succ _) ⟨by rw [hp.length_eq]; exact hz, out, ep, bkV_vals fun u m => e2 u (h2.perm.mem_iff.mp m), he⟩, rfl,
    q _ _ hp (SrtO.srtd_map (lt := fun x y => lexL (pr x) (pr y)) h1) (I.hok.fresh (Nat.le_succ _))⟩
end
end VX
set_option maxRecDepth 100000
set_option maxHeartbeats 4000000
/-! Several cells that turn; lists of tuples. -/
namespace VX
open PySem PySem.Spec PyProof.Rows L2
/-- F is what stays; the cells of T turn -/
structure Cxs (F : Hp) (T : List (Addr × HO)) (H : Hp) : Prop where
  e : Same F H
  n : ∀ x ∈ T, F x.1 = none
  h : ∀ x ∈ T, H x.1 = some x.2
  d : (T.map Prod.fst).Nodup
section
variable {F H H' : Hp} {T : List (Addr × HO)} {i : Nat} {a q : Addr} {o u : HO}
theorem Cxs.start (H : Hp) : Cxs H [] H := ⟨Same.refl _, fun _ h => (nomatch h), fun _ h => (nomatch h), List.nodup_nil⟩
theorem Cxs.of1 (c : Ctx F a o H) : Cxs F [(a, o)] H := ⟨c.e, fun x hx => by
    rw [List.mem_singleton] at hx
    subst hx
    exact c.n, fun x hx => by
    rw [List.mem_singleton] at hx
    subst hx
    exact c.h, by simp⟩
theorem Cxs.one (c : Cxs F [(a, o)] H) : Ctx F a o H := ⟨c.e, c.n (a, o) List.mem_cons_self, c.h (a, o) List.mem_cons_self⟩
theorem Cxs.at (c : Cxs F T H) (i : Nat) (hi : T[i]? = some (a, o)) : H a = some o := c.h (a, o) (List.mem_of_getElem? hi)
theorem Cxs.nF (c : Cxs F T H) (i : Nat) (hi : T[i]? = some (a, o)) : F a = none := c.n (a, o) (List.mem_of_getElem? hi)
theorem Cxs.newF (c : Cxs F T H) (hq : H q = none) : F q = none := c.e.free hq
theorem Cxs.ne (c : Cxs F T H) (hq : H q = none) : ∀ x ∈ T, x.1 ≠ q := fun x hx => ne_of_none (c.h x hx) hq
theorem Cxs.turn (c : Cxs F T H) (i : Nat) (hi : T[i]? = some (a, o)) (u : HO) : Cxs F (T.set i (a, u)) (upd H a u) := by
  have hl : i < T.length := (List.getElem?_eq_some_iff.mp hi).1
  have hv : T[i] = (a, o) := (List.getElem?_eq_some_iff.mp hi).2
  have hm : (T.set i (a, u)).map Prod.fst = T.map Prod.fst := by
    rw [List.map_set]
    apply List.ext_getElem?
    intro j
    rw [List.getElem?_set]
    by_cases e : i = j
    · subst e
      rw [if_pos rfl, List.length_map, if_pos hl, List.getElem?_map, hi]
      rfl
    · rw [if_neg e]
  have hF := c.nF i hi
  refine ⟨fun b x hb => ?_, fun x hx => ?_, fun x hx => ?_, by rw [hm]; exact c.d⟩
  · rw [upd_ne (ne_of_none hb hF)]
    exact c.e b x hb
  · rcases List.mem_or_eq_of_mem_set hx with h | rfl
    · exact c.n x h
    · exact hF
  · rcases List.mem_iff_getElem?.mp hx with ⟨j, hj⟩
    rw [List.getElem?_set] at hj
    by_cases e : i = j
    · rw [if_pos e, if_pos hl] at hj
      cases hj
      exact upd_same
    · rw [if_neg e] at hj
      have hx' : x ∈ T := List.mem_of_getElem? hj
      have nd : x.1 ≠ a := fun z => e (by
        have h1 : (T.map Prod.fst)[j]? = some x.1 := by rw [List.getElem?_map, hj]; rfl
        have h2 : (T.map Prod.fst)[i]? = some a := by rw [List.getElem?_map, hi]; rfl
        rw [z] at h1
        have l2 : i < (T.map Prod.fst).length := (List.getElem?_eq_some_iff.mp h2).1
        exact (List.getElem?_inj l2 c.d).mp (h2.trans h1.symm))
      rw [upd_ne nd]
      exact c.h x hx'
theorem Cxs.push (c : Cxs F T H) (u : HO) (hq : H q = none) : Cxs F ((q, u) :: T) (upd H q u) := by
  refine ⟨fun b x hb => ?_, fun x hx => ?_, fun x hx => ?_, ?_⟩
  · rw [upd_ne (ne_of_none hb (c.newF hq))]
    exact c.e b x hb
  · rcases List.mem_cons.mp hx with rfl | hx
    · exact c.newF hq
    · exact c.n x hx
  · rcases List.mem_cons.mp hx with rfl | hx
    · exact upd_same
    · rw [upd_ne (c.ne hq x hx)]
      exact c.h x hx
  · rw [List.map_cons, List.nodup_cons]
    refine ⟨fun hm => ?_, c.d⟩
    obtain ⟨x, hx, e⟩ := List.mem_map.mp hm
    exact c.ne hq x hx e
theorem Cxs.new (c : Cxs F T H) (u : HO) (hq : H q = none) : Cxs (upd F q u) T (upd H q u) := by
  refine ⟨fun b x hb => ?_, fun x hx => ?_, fun x hx => ?_, c.d⟩
  · by_cases e : b = q
    · subst e
      rw [upd_same] at hb ⊢
      exact hb
    · rw [upd_ne e] at hb ⊢
      exact c.e b x hb
  · rw [upd_ne (c.ne hq x hx)]
    exact c.n x hx
  · rw [upd_ne (c.ne hq x hx)]
    exact c.h x hx
theorem Cxs.sub (c : Cxs F T H) (hq : H q = none) : Same F (upd F q u) := same_new (c.newF hq)
theorem Cxs.keep (c : Cxs F ((q, u) :: T) H) : Cxs (upd F q u) T H := by
  have hd := c.d
  rw [List.map_cons, List.nodup_cons] at hd
  have ne : ∀ x ∈ T, x.1 ≠ q := fun x hx e => hd.1 (List.mem_map.mpr ⟨x, hx, e⟩)
  refine ⟨fun b x hb => ?_, fun x hx => ?_, fun x hx => c.h x (List.mem_cons_of_mem _ hx), hd.2⟩
  · by_cases e : b = q
    · subst e
      rw [upd_same] at hb
      cases hb
      exact c.h (b, u) List.mem_cons_self
    · rw [upd_ne e] at hb
      exact c.e b x hb
  · rw [upd_ne (ne x hx)]
    exact c.n x (List.mem_cons_of_mem _ hx)
theorem Cxs.keepS (c : Cxs F ((q, u) :: T) H) : Same F (upd F q u) := same_new (c.n _ List.mem_cons_self)
theorem Cxs.drop {x : Addr × HO} (c : Cxs F (x :: T) H) : Cxs F T H := ⟨c.e, fun y hy => c.n y (List.mem_cons_of_mem _ hy), fun y hy => c.h y (List.mem_cons_of_mem _ hy), (List.nodup_cons.mp c.d).2⟩
theorem Cxs.perm {T' : List (Addr × HO)} (c : Cxs F T H) (p : T'.Perm T) : Cxs F T' H := ⟨c.e, fun y hy => c.n y ((List.Perm.mem_iff p).mp hy), fun y hy => c.h y ((List.Perm.mem_iff p).mp hy), (List.Perm.map Prod.fst p).nodup_iff.mpr c.d⟩
theorem Cxs.grow (c : Cxs F T H) (e : Same H H') : Cxs F T H' := ⟨c.e.trans e, c.n, fun x hx => e _ _ (c.h x hx), c.d⟩
theorem Cxs.fresh (c : Cxs F T H) (u : HO) (hq : H q = none) : Cxs F T (upd H q u) := c.grow (same_new hq)
theorem Cxs.less {F' : Hp} (c : Cxs F T H) (e : Same F' F) : Cxs F' T H := ⟨e.trans c.e, fun x hx => e.free (c.n x hx), c.h, c.d⟩
end
/-- append to a list that turns -/
theorem i_appC {F H : Hp} {T : List (Addr × HO)} {Q : VK} {D : Addr} {xs : List V} {y : V} (i : Nat) (c : Cxs F T H) (hi : T[i]? = some (D, .lst xs)) (hz : xs.length ≤ 100000) (q : ∀ H', Cxs F (T.set i (D, .lst (xs ++ [y]))) H' → Q .non H') : rAppend (.ref D) [y] H Q :=
  i_append (c.at i hi) hz (q _ (c.turn i hi _))
/-- what stays of H' when it grew out of H and F stayed of H: all but what stood in H beside F -/
def grow (F H H' : Hp) : Hp := fun b => if (F b).isNone && (H b).isSome then none else H' b
theorem grow_new {F H H' : Hp} {b : Addr} (h : H b = none) : grow F H H' b = H' b := by
  unfold grow
  rw [h, Option.isSome_none, Bool.and_false, if_neg Bool.false_ne_true]
theorem grow_old {F H H' : Hp} {b : Addr} {o : HO} (h : F b = some o) : grow F H H' b = H' b := by
  unfold grow
  rw [h, Option.isNone_some, Bool.false_and, if_neg Bool.false_ne_true]
theorem grow_same {F H H' : Hp} (e : Same F H) (e' : Same H H') : Same F (grow F H H') := fun b o hb => by
  rw [grow_old hb]
  exact e' _ _ (e _ _ hb)
theorem grow_sub {F H H' : Hp} : Same (grow F H H') H' := fun b o hb => by
  unfold grow at hb
  split at hb
  · cases hb
  · exact hb
theorem Cxs.grown {F H H' : Hp} {T : List (Addr × HO)} (c : Cxs F T H) (e : Same H H') : Cxs (VX.grow F H H') T H' := ⟨grow_sub, fun x hx => by
  unfold VX.grow
  rw [c.n x hx, c.h x hx]
  rfl, fun x hx => e _ _ (c.h x hx), c.d⟩
/-! wires: (source, target, low, high) -/
structure W4 where
  (s t lo : Int) (hi : Option Int)
def oV : Option Int → V
  | none => .non
  | some i => .int i
def oD : Option Int → PyData
  | none => .none
  | some i => .int i
def W4.v (w : W4) : List V := [.int w.s, .int w.t, .int w.lo, oV w.hi]
def W4.d (w : W4) : PyData := .tuple [.int w.s, .int w.t, .int w.lo, oD w.hi]
def W4.k (w : W4) : List Int := [w.s, w.t]
/-- a triple (later, earlier, most) -/
structure B3 where
  (l e m : Int)
def B3.v (b : B3) : List V := [.int b.l, .int b.e, .int b.m]
def B3.d (b : B3) : PyData := .tuple [.int b.l, .int b.e, .int b.m]
def B3.k (b : B3) : List Int := [b.l, b.e]
section
variable {K : PySem.W.Frag} {H : Hp} {x : V} {t : Addr}
theorem dp_oD {h : Option Int} (hd : Dp K H x (oD h)) : x = oV h := by
  cases h <;> (cases hd; rfl)
theorem oD_dp {h : Option Int} : Dp K H (oV h) (oD h) := by
  cases h with
  | none => exact .non
  | some i => exact .int i
theorem dp_int {n : Int} (h : Dp K H x (.int n)) : x = .int n := by
  cases h
  rfl
theorem dp_tup {ds : List PyData} (h : Dp K H x (.tuple ds)) : ∃ t xs, x = .ref t ∧ SqT K H t xs ∧ DpAll K H xs ds := by
  cases h with
  | tup hs ha => exact ⟨_, _, rfl, hs, ha⟩
theorem dp_lst {ds : List PyData} (h : Dp K H x (.list ds)) : ∃ t xs, x = .ref t ∧ SqL K H t xs ∧ DpAll K H xs ds := by
  cases h with
  | lst hs ha => exact ⟨_, _, rfl, hs, ha⟩
theorem dp_w4 {w : W4} (h : Dp K H x w.d) : ∃ t, x = .ref t ∧ SqT K H t w.v := by
  obtain ⟨t, xs, rfl, hs, ha⟩ := dp_tup h
  cases ha with
  | cons h1 ha =>
  cases ha with
  | cons h2 ha =>
  cases ha with
  | cons h3 ha =>
  cases ha with
  | cons h4 ha =>
  cases ha with
  | nil =>
  rw [dp_int h1, dp_int h2, dp_int h3, dp_oD h4] at hs
  exact ⟨t, rfl, hs⟩
theorem w4_dp {w : W4} (h : SqT K H t w.v) : Dp K H (.ref t) w.d := .tup h (.cons (.int _) (.cons (.int _) (.cons (.int _) (.cons oD_dp .nil))))
theorem dp_b3 {b : B3} (h : Dp K H x b.d) : ∃ t, x = .ref t ∧ SqT K H t b.v := by
  obtain ⟨t, xs, rfl, hs, ha⟩ := dp_tup h
  cases ha with
  | cons h1 ha =>
  cases ha with
  | cons h2 ha =>
  cases ha with
  | cons h3 ha =>
  cases ha with
  | nil =>
  rw [dp_int h1, dp_int h2, dp_int h3] at hs
  exact ⟨t, rfl, hs⟩
theorem b3_dp {b : B3} (h : SqT K H t b.v) : Dp K H (.ref t) b.d := .tup h (.cons (.int _) (.cons (.int _) (.cons (.int _) .nil)))
theorem dpa_snoc : ∀ {xs : List V} {ds : List PyData} {y : V} {d : PyData}, DpAll K H xs ds → Dp K H y d → DpAll K H (xs ++ [y]) (ds ++ [d])
  | _, _, _, _, .nil, h => .cons h .nil
  | _, _, _, _, .cons h t, h' => .cons h (dpa_snoc t h')
theorem dpa_app : ∀ {xs ys : List V} {ds es : List PyData}, DpAll K H xs ds → DpAll K H ys es → DpAll K H (xs ++ ys) (ds ++ es)
  | _, _, _, _, .nil, h => h
  | _, _, _, _, .cons h t, h' => .cons h (dpa_app t h')
theorem _root_.L2.DpAll.snoc {xs : List V} {ds : List PyData} {y : V} {d : PyData} (h : DpAll K H xs ds) (h' : Dp K H y d) : DpAll K H (xs ++ [y]) (ds ++ [d]) := dpa_snoc h h'
theorem _root_.L2.DpAll.app {xs ys : List V} {ds es : List PyData} (h : DpAll K H xs ds) (h' : DpAll K H ys es) : DpAll K H (xs ++ ys) (ds ++ es) := dpa_app h h'
theorem _root_.L2.DpAll.mono {H' : Hp} {xs : List V} {ds : List PyData} (h : DpAll K H xs ds) (e : Same H H') : DpAll K H' xs ds := dpa_mono e ds xs h
/-- a permutation of the values is one of the data -/
theorem dpa_perm {xs ys : List V} (p : ys.Perm xs) : ∀ {ds : List PyData}, DpAll K H xs ds → ∃ es, es.Perm ds ∧ DpAll K H ys es := by
  induction p with
  | nil => intro ds h; cases h; exact ⟨[], .nil, .nil⟩
  | cons x _ ih =>
    intro ds h
    cases h with
    | cons h1 h2 =>
    obtain ⟨es, q, r⟩ := ih h2
    exact ⟨_ :: es, q.cons _, .cons h1 r⟩
  | swap x y l =>
    intro ds h
    cases h with
    | cons h1 h2 =>
    cases h2 with
    | cons h3 h4 => exact ⟨_, .swap _ _ _, .cons h3 (.cons h1 h4)⟩
  | trans _ _ ih1 ih2 =>
    intro ds h
    obtain ⟨es, q, r⟩ := ih2 h
    obtain ⟨fs, q', r'⟩ := ih1 r
    exact ⟨fs, q'.trans q, r'⟩
end
theorem erase_perm {α : Type} : ∀ {l : List α} {i : Nat} {x : α}, l[i]? = some x → (x :: l.eraseIdx i).Perm l
  | [], _, _, h => by simp at h
  | a :: l, 0, x, h => by
    simp at h
    subst h
    exact .refl _
  | a :: l, i + 1, x, h => by
    rw [List.eraseIdx_cons_succ]
    exact (List.Perm.swap _ _ _).trans ((erase_perm (l := l) (i := i) (by simpa using h)).cons a)
theorem perm_map_inv {α β : Type} {f : α → β} : ∀ {l : List α} {m : List β}, m.Perm (l.map f) → ∃ l' : List α, l'.Perm l ∧ m = l'.map f := by
  intro l m p
  generalize hz : l.map f = z at p
  induction p generalizing l with
  | nil => exact ⟨[], by rw [List.map_eq_nil_iff.mp hz], rfl⟩
  | cons x p ih =>
    cases l with
    | nil => cases hz
    | cons a l =>
      obtain ⟨rfl, h2⟩ := List.cons.inj hz
      obtain ⟨l', q, rfl⟩ := ih h2
      exact ⟨a :: l', q.cons a, rfl⟩
  | swap x y m =>
    cases l with
    | nil => cases hz
    | cons a l =>
      cases l with
      | nil => cases (List.cons.inj hz).2
      | cons b l =>
        obtain ⟨rfl, h2⟩ := List.cons.inj hz
        obtain ⟨rfl, rfl⟩ := List.cons.inj h2
        exact ⟨b :: a :: l, .swap _ _ _, rfl⟩
  | trans p q ih1 ih2 =>
    obtain ⟨l1, q1, e1⟩ := ih2 hz
    obtain ⟨l2, q2, e2⟩ := ih1 e1.symm
    exact ⟨l2, q2.trans q1, e2⟩
end VX
set_option maxRecDepth 100000
set_option maxHeartbeats 4000000
/-! sorted over rows told apart by a key; comprehensions whose items have data; pairs of numbers in a list. -/
namespace VX
open PySem PySem.Spec PyProof.Rows L2
theorem zip_get {α β : Type} : ∀ {xs : List α} {ys : List β} {p : α × β}, p ∈ xs.zip ys → ∃ j : Nat, xs[j]? = some p.1 ∧ ys[j]? = some p.2
  | [], _, p, h => by simp at h
  | _ :: _, [], p, h => by simp at h
  | x :: xs, y :: ys, p, h => by
    rw [List.zip_cons_cons] at h
    rcases List.mem_cons.mp h with rfl | h
    · exact ⟨0, rfl, rfl⟩
    · obtain ⟨j, h1, h2⟩ := zip_get h
      exact ⟨j + 1, by simpa using h1, by simpa using h2⟩
theorem get_zip {α β : Type} : ∀ {xs : List α} {ys : List β} {j : Nat} {x : α} {y : β}, xs[j]? = some x → ys[j]? = some y → (x, y) ∈ xs.zip ys
  | [], _, _, _, _, h, _ => by simp at h
  | _ :: _, [], _, _, _, _, h => by simp at h
  | x :: xs, y :: ys, 0, a, b, h1, h2 => by
    simp at h1 h2
    subst h1 h2
    rw [List.zip_cons_cons]
    exact List.mem_cons_self
  | x :: xs, y :: ys, j + 1, a, b, h1, h2 => by
    rw [List.zip_cons_cons]
    exact List.mem_cons_of_mem _ (get_zip (by simpa using h1) (by simpa using h2))
theorem zip_map_fst {α β : Type} : ∀ {xs : List α} {ys : List β}, xs.length = ys.length → (xs.zip ys).map Prod.fst = xs
  | [], [], _ => rfl
  | x :: xs, y :: ys, h => by
    rw [List.zip_cons_cons, List.map_cons, zip_map_fst (by simpa using h)]
theorem zip_map_snd {α β : Type} : ∀ {xs : List α} {ys : List β}, xs.length = ys.length → (xs.zip ys).map Prod.snd = ys
  | [], [], _ => rfl
  | x :: xs, y :: ys, h => by
    rw [List.zip_cons_cons, List.map_cons, zip_map_snd (by simpa using h)]
/-- sorted(xs), the i-th of xs a tuple that begins with the i-th of nss -/
def rSortK (K : PySem.W.Frag) (d : Nat) : List V → Hp → VK → Prop := fun vs H Q => ∃ (a : Addr) (xs : List V) (nss : List (List Int)), vs = [V.ref a] ∧ SqL K H a xs ∧ xs.length = nss.length ∧ (∀ p ∈ xs.zip nss, TupX K H p.1 p.2 ∧ p.2.length = d) ∧
  nss.Nodup ∧ ∀ (zs : List (V × List Int)) (p : Addr), zs.Perm (xs.zip nss) → zs.Pairwise (fun x y => lexL y.2 x.2 = false) → H p = none → Q (.ref p) (upd H p (.lst (zs.map Prod.fst)))
theorem cr_sortK {X : Cx} {d : Nat} (hd : 1 ≤ d) : CallR X (.builtin "sorted") (rSortK X.K d) := by
  intro pins s σ H vs us Q I r h
  obtain ⟨a, xs, nss, rfl, hs, hl, hz, nd, q⟩ := h
  have fn : ∀ x ns ms, (x, ns) ∈ xs.zip nss → (x, ms) ∈ xs.zip nss → ns = ms := fun x ns ms h1 h2 => by
    obtain ⟨⟨t, ys, e, ht⟩, l1⟩ := hz _ h1
    obtain ⟨⟨t', ys', e', ht'⟩, l2⟩ := hz _ h2
    have e : x = V.ref t := e
    have e' : x = V.ref t' := e'
    rw [e] at e'
    cases e'
    exact Pfx.uniq (tupX_raw I ht) (tupX_raw I ht') (l1.trans l2.symm)
  let pr : V → List Int := fun x => ((xs.zip nss).find? fun p => decide (p.1 = x)).elim [] Prod.snd
  have hp : ∀ x ns, (x, ns) ∈ xs.zip nss → pr x = ns := fun x ns hm => by
    show ((xs.zip nss).find? fun p => decide (p.1 = x)).elim [] Prod.snd = ns
    cases e : (xs.zip nss).find? fun p => decide (p.1 = x) with
    | none =>
      have := List.find?_eq_none.mp e _ hm
      simp at this
    | some p =>
      have h1 := List.find?_some e
      have h2 := List.mem_of_find?_eq_some e
      have h1 : p.1 = x := of_decide_eq_true h1
      exact fn x p.2 ns (by rw [← h1]; exact h2) hm
  have mem : ∀ x ∈ xs, ∃ j ns, xs[j]? = some x ∧ nss[j]? = some ns := fun x hx => by
    obtain ⟨j, hj⟩ := List.mem_iff_getElem?.mp hx
    have l : j < nss.length := by rw [← hl]; exact (List.getElem?_eq_some_iff.mp hj).1
    exact ⟨j, _, hj, List.getElem?_eq_getElem l⟩
  have hmap : xs.map (fun x => (x, pr x)) = xs.zip nss := by
    apply List.ext_getElem?
    intro j
    rw [List.getElem?_map]
    cases e : xs[j]? with
    | none =>
      have l := List.getElem?_eq_none_iff.mp e
      rw [List.getElem?_eq_none (by rw [List.length_zip]; omega)]
      rfl
    | some x =>
      have l : j < nss.length := by rw [← hl]; exact (List.getElem?_eq_some_iff.mp e).1
      have e2 := List.getElem?_eq_getElem l
      rw [show (xs.zip nss)[j]? = some (x, nss[j]) from by rw [List.getElem?_zip_eq_some]; exact ⟨e, e2⟩]
      show some (x, pr x) = _
      rw [hp x _ (get_zip e e2)]
  refine cr_sortX hd pins s σ H _ us Q I r ⟨a, xs, pr, rfl, hs, fun x hx => ?_, fun x hx y hy e => ?_, fun ys p perm pw np => ?_⟩
  · obtain ⟨j, ns, h1, h2⟩ := mem x hx
    rw [hp x ns (get_zip h1 h2)]
    exact hz _ (get_zip h1 h2)
  · obtain ⟨j, ns, h1, h2⟩ := mem x hx
    obtain ⟨i, ms, h3, h4⟩ := mem y hy
    rw [hp x ns (get_zip h1 h2), hp y ms (get_zip h3 h4)] at e
    subst e
    have l : j < nss.length := (List.getElem?_eq_some_iff.mp h2).1
    have := (List.getElem?_inj l nd).mp (h2.trans h4.symm)
    subst this
    rw [h1] at h3
    exact Option.some.inj h3
  · have := q (ys.map fun y => (y, pr y)) p (by rw [← hmap]; exact perm.map _) (by rw [List.pairwise_map]; exact pw) np
    rw [List.map_map] at this
    have e : ys.map (Prod.fst ∘ fun y => (y, pr y)) = ys := by
      have : (Prod.fst ∘ fun y => (y, pr y)) = (id : V → V) := rfl
      rw [this, List.map_id]
    rw [e] at this
    exact this
theorem dpa_zip {K : PySem.W.Frag} {H : Hp} {α : Type} {d : α → PyData} {xs : List V} {rs : List α} (h : DpAll K H xs (rs.map d)) : ∀ p ∈ xs.zip rs, Dp K H p.1 (d p.2) := fun p hp => by
  obtain ⟨j, h1, h2⟩ := zip_get hp
  obtain ⟨v, e, q⟩ := dpa_get (i := j) (d := d p.2) h (by rw [List.getElem?_map, h2]; rfl)
  rw [h1] at e
  cases e
  exact q
theorem dpa_of {K : PySem.W.Frag} {H : Hp} {α : Type} {d : α → PyData} : ∀ {zs : List (V × α)}, (∀ p ∈ zs, Dp K H p.1 (d p.2)) → DpAll K H (zs.map Prod.fst) ((zs.map Prod.snd).map d)
  | [], _ => .nil
  | p :: zs, h => .cons (h p List.mem_cons_self) (dpa_of fun q hq => h q (List.mem_cons_of_mem _ hq))
/-- sorted over rows, with their data -/
theorem i_sortK {K : PySem.W.Frag} {F H : Hp} {Q : VK} {α : Type} {d : α → PyData} {k : α → List Int} {a : Addr} {xs : List V} {rs : List α} {m : Nat} (hs : SqL K H a xs) (eF : Same F H) (ha : DpAll K F xs (rs.map d))
    (ht : ∀ x r, r ∈ rs → Dp K H x (d r) → TupX K H x (k r) ∧ (k r).length = m) (nd : (rs.map k).Nodup)
    (q : ∀ (ys : List V) (qs : List α) (p : Addr), qs.Perm rs → qs.Pairwise (fun x y => lexL (k y) (k x) = false) → H p = none → DpAll K F ys (qs.map d) → Q (.ref p) (upd H p (.lst ys))) : rSortK K m [.ref a] H Q := by
  have hl : xs.length = rs.length := by rw [dpa_len ha, List.length_map]
  refine ⟨a, xs, rs.map k, rfl, hs, by rw [hl, List.length_map], fun p hp => ?_, nd, fun zs p perm pw np => ?_⟩
  · obtain ⟨j, h1, h2⟩ := zip_get hp
    rw [List.getElem?_map] at h2
    cases e : rs[j]? with
    | none =>
      rw [e] at h2
      cases h2
    | some r =>
      rw [e] at h2
      have h2 : k r = p.2 := Option.some.inj h2
      obtain ⟨v, e1, q1⟩ := dpa_get (i := j) (d := d r) (ha.mono eF) (by rw [List.getElem?_map, e]; rfl)
      rw [h1] at e1
      cases e1
      rw [← h2]
      exact ht _ r (List.mem_of_getElem? e) q1
  · have e : xs.zip (rs.map k) = (xs.zip rs).map fun p => (p.1, k p.2) := by
      rw [List.zip_map_right]
      rfl
    rw [e] at perm
    obtain ⟨l, pl, rfl⟩ := perm_map_inv perm
    rw [List.map_map]
    rw [List.pairwise_map] at pw
    refine q _ (l.map Prod.snd) p ?_ (by rw [List.pairwise_map]; exact pw) np (dpa_of fun p hp => dpa_zip ha p (pl.mem_iff.mp hp))
    have := pl.map Prod.snd
    rwa [zip_map_snd hl] at this
/-- a comprehension without a test whose items have data; D the new list -/
theorem lc_dp {K : PySem.W.Frag} {σ : L2.St} {g : TG} {te : TE} {vs : List Nat} {J : It} {n : Nat} {G : Hp → Prop} {Y : Nat → Hp → V → Hp → Prop} (w : Walk J n G Y) {H1 F : Hp} {D : Addr} {Qd : Hp → Prop} (eF : Same F H1) (nD : H1 D = none) (hn : n ≤ 10000) (d : Nat → PyData) (hG : ∀ H, Same F H → G H)
    (hs : ∀ i x H H' acc, i < n → Same F H → H D = some (.lst acc) → Y i H x H' → ∀ R : VK, (∀ y H4, Same H H4 → Dp K (del H4 D) y (d i) → R y H4) → g x (wipe σ vs) H' fun σ2 H2 => wipe σ2 vs = wipe σ vs ∧ te σ2 H2 R)
    (hd : ∀ H xs, Same F H → H D = some (.lst xs) → DpAll K (del H D) xs ((List.range n).map d) → Qd H) :
    ∃ W : Nat → Nat → Hp → Prop, (∃ m, W 0 m (upd H1 D (.lst []))) ∧ ∀ i m H, W i m H →
      (J.stop i H ∧ Qd H) ∨ (J.go i H ∧ ∃ Nx : Hp → Prop, (∀ H', Nx H' → ∃ m', m' < m ∧ W (i + 1) m' H') ∧ ∀ x H', J.yld i H x H' → g x (wipe σ vs) H' fun σ2 H2 => wipe σ2 vs = wipe σ vs ∧ tYes σ2 H2 fun b H3 =>
        if b = true then te σ2 H3 fun y H4 => ∃ acc, H4 D = some (.lst acc) ∧ acc.length < sizeLine ∧ Nx (upd H4 D (.lst (acc ++ [y]))) else Nx H3) := by
  have fD : F D = none := eF.free nD
  refine lc_it w (Qd := Qd) (tt := tYes) (fun i H => Same F H ∧ ∃ xs, H D = some (.lst xs) ∧ DpAll K (del H D) xs ((List.range i).map d)) ⟨fun b o hb => ?_, [], upd_same, .nil⟩ (fun i H _ p => hG H p.1) (fun i x H H' hi p y => ?_) fun H p => let ⟨e, xs, h1, h2⟩ := p; hd H xs e h1 h2
  · rw [upd_ne (ne_of_none hb fD)]
    exact eF b o hb
  · obtain ⟨e, xs, hD, ha⟩ := p
    refine hs i x H H' xs hi e hD y (fun y H4 => ∃ acc, H4 D = some (.lst acc) ∧ acc.length < sizeLine ∧ (Same F (upd H4 D (.lst (acc ++ [y]))) ∧ ∃ xs, upd H4 D (.lst (acc ++ [y])) D = some (.lst xs) ∧ DpAll K (del (upd H4 D (.lst (acc ++ [y]))) D) xs ((List.range (i + 1)).map d))) fun y H4 e4 hy => ?_
    have c : Ctx (del H D) D (.lst xs) H4 := (Ctx.start hD).grow e4
    have lx : xs.length = i := by rw [dpa_len ha, List.length_map, List.length_range]
    have ed : Same (del H4 D) (del (upd H4 D (.lst (xs ++ [y]))) D) := fun b o hb => by
      by_cases z : b = D
      · rw [z, del_same] at hb
        cases hb
      · rw [del_ne z] at hb ⊢
        rw [upd_ne z]
        exact hb
    refine ⟨xs, c.h, ?_, fun b o hb => ?_, xs ++ [y], upd_same, ?_⟩
    · rw [lx]
      exact Nat.lt_of_lt_of_le hi (Nat.le_trans hn (by decide))
    · rw [upd_ne (ne_of_none hb fD)]
      exact e4 _ _ (e b o hb)
    · rw [List.range_succ, List.map_append]
      refine DpAll.snoc (ha.mono (c.all.trans ed)) (Dp.mono' hy ed)
theorem units65 {A : Around} {k : Nat} (hr : Room (k + 1) A) : A.units + 65 < cLine := by
  have := hr.un
  omega
/-- the i-th datum -/
def gt (ds : List PyData) (i : Nat) : PyData := ds[i]?.getD .none
theorem gt_of {ds : List PyData} {i : Nat} {d : PyData} (h : ds[i]? = some d) : gt ds i = d := by
  unfold gt
  rw [h]
  rfl
theorem range_gt (ds : List PyData) : (List.range ds.length).map (gt ds) = ds := range_map_at fun i x h => gt_of h
theorem b3_tupX {K : PySem.W.Frag} {H : Hp} {x : V} {r : B3} (h : Dp K H x r.d) : TupX K H x r.k ∧ r.k.length = 2 := by
  obtain ⟨t, rfl, ht⟩ := dp_b3 h
  exact ⟨⟨t, [.int r.m], rfl, ht⟩, rfl⟩
theorem w4_tupX {K : PySem.W.Frag} {H : Hp} {x : V} {r : W4} (h : Dp K H x r.d) : TupX K H x r.k ∧ r.k.length = 2 := by
  obtain ⟨t, rfl, ht⟩ := dp_w4 h
  exact ⟨⟨t, [.int r.lo, oV r.hi], rfl, ht⟩, rfl⟩
theorem lenB' {n : Nat} (h : n ≤ 1000) : n < sizeLine := small1000 h
/-! pairs of numbers -/
theorem eqv_pair (a b c d : Int) : PyData.eqv (.tuple [.int a, .int b]) (.tuple [.int c, .int d]) = decide (a = c ∧ b = d) := by
  show ((a == c) && ((b == d) && true)) = _
  by_cases h1 : a = c <;> by_cases h2 : b = d <;> simp [h1, h2]
def pD (z : Int × Int) : PyData := .tuple [.int z.1, .int z.2]
theorem pD_lay (z : Int × Int) : (pD z).canLay0 = true := by simp [pD, PyData.canLay0, PyData.canLayAll0]
theorem pD_depth (z : Int × Int) : (pD z).depth = 1 := by simp [pD, PyData.depth, PyData.depthAll]
theorem pDs_lay : ∀ zs : List (Int × Int), PyData.canLayAll0 (zs.map pD) = true
  | [] => rfl
  | z :: zs => by
    rw [List.map_cons]
    show ((pD z).canLay0 && PyData.canLayAll0 (zs.map pD)) = true
    rw [pD_lay, pDs_lay zs]
    rfl
theorem pDs_depth : ∀ zs : List (Int × Int), PyData.depthAll (zs.map pD) ≤ 1
  | [] => by decide
  | z :: zs => by
    rw [List.map_cons]
    show max (pD z).depth (PyData.depthAll (zs.map pD)) ≤ 1
    rw [pD_depth]
    have := pDs_depth zs
    omega
theorem pD_shaped (z : Int × Int) : SeqAt.shaped (pD z) = true := Bool.and_eq_true_iff.mpr ⟨pD_lay z, decide_eq_true (by rw [pD_depth]; decide)⟩
theorem pDs_shaped (zs : List (Int × Int)) : SeqAt.shaped (.list (zs.map pD)) = true := by
  refine Bool.and_eq_true_iff.mpr ⟨pDs_lay zs, decide_eq_true ?_⟩
  show PyData.depthAll (zs.map pD) + 1 ≤ 64
  have := pDs_depth zs
  omega
theorem any_pair (zs : List (Int × Int)) (z : Int × Int) : ((zs.map pD).any fun y => PyData.eqv y (pD z)) = decide (z ∈ zs) := by
  induction zs with
  | nil => simp
  | cons y zs ih =>
    rw [List.map_cons, List.any_cons, ih]
    show (PyData.eqv (.tuple [.int y.1, .int y.2]) (.tuple [.int z.1, .int z.2]) || decide (z ∈ zs)) = _
    rw [eqv_pair]
    by_cases h1 : y = z
    · subst h1
      simp
    · have h2 : ¬ (y.1 = z.1 ∧ y.2 = z.2) := fun e => h1 (Prod.ext e.1 e.2)
      rw [decide_eq_false h2, Bool.false_or]
      have h3 : z ≠ y := fun e => h1 e.symm
      simp [h3]
/-- (a, b) not in a list of pairs -/
theorem i_notInP {K : PySem.W.Frag} {H : Hp} {Q : VK} {x y : V} {z : Int × Int} {zs : List (Int × Int)} (hx : Dp K H x (pD z)) (hy : Dp K H y (.list (zs.map pD))) (q : Q (.bl (!decide (z ∈ zs))) H) : rNotInD K x y H Q :=
  ⟨_, _, hx, hy, pD_shaped z, pDs_shaped zs, by rw [any_pair]; exact q⟩
end VX
set_option maxRecDepth 100000
set_option maxHeartbeats 4000000
/-! sorted(d), d a dict whose keys are tuples of numbers in [0, B). -/
namespace VX
open PySem PySem.Spec PyProof.Rows L2
def numV : V → Int
  | .int n => n
  | _ => 0
def prH (H : Hp) : Value → List Int
  | .ref b => match H b with
    | some (.tup xs) => xs.map numV
    | _ => []
  | _ => []
theorem num_ints : ∀ ns : List Int, (ns.map V.int).map numV = ns
  | [] => rfl
  | n :: ns => by
    show n :: (ns.map V.int).map numV = n :: ns
    rw [num_ints ns]
theorem prH_of {H : Hp} {b : Addr} {ns : List Int} (h : H b = some (.tup (ns.map V.int))) : prH H (.ref b) = ns := by
  show (match H b with
    | some (.tup xs) => xs.map numV
    | _ => []) = ns
  rw [h]
  exact num_ints ns
theorem kV_ints : ∀ ns : List Int, (ns.map Sum.inl : List L2.Key).map kV = ns.map V.int
  | [] => rfl
  | n :: ns => by
    show kV (Sum.inl n) :: (ns.map Sum.inl : List L2.Key).map kV = V.int n :: ns.map V.int
    rw [kV_ints ns]
    rfl
section
variable {X : Cx}
theorem keys_pr {H : Hp} : ∀ {kvs : List (List L2.Key × V)} {bs : List Addr} {ns : List (List Int)}, IsKeys H kvs bs → kvs.map (·.1) = ns.map (List.map Sum.inl) → Paired (fun b n => H b = some (.tup (n.map V.int))) bs ns
  | [], _, [], .nil, _ => .nil
  | [], _, _ :: _, .nil, e => by simp at e
  | _ :: _, _, [], .cons _ _, e => by simp at e
  | (k, v) :: kvs, _, n :: ns, .cons h t, e => by
    have e1 : k = n.map Sum.inl := (List.cons.inj e).1
    have h : H _ = some (.tup (k.map kV)) := h
    rw [e1, kV_ints] at h
    exact .cons h (keys_pr t (List.cons.inj e).2)
theorem prs {H : Hp} : ∀ {bs : List Addr} {ns : List (List Int)}, Paired (fun b n => H b = some (.tup (n.map V.int))) bs ns → (bs.map Value.ref).map (prH H) = ns
  | _, _, .nil => rfl
  | _, _, .cons h t => by
    show prH H (.ref _) :: (List.map Value.ref _).map (prH H) = _
    rw [prH_of h, prs t]
theorem prs_mem {H : Hp} {bs : List Addr} {ns : List (List Int)} (h : Paired (fun b n => H b = some (.tup (n.map V.int))) bs ns) : ∀ b ∈ bs, ∃ n ∈ ns, H b = some (.tup (n.map V.int)) := by
  induction h with
  | nil => intro b hb; simp at hb
  | cons h t ih =>
    intro b hb
    rcases List.mem_cons.mp hb with rfl | hb
    · exact ⟨_, List.mem_cons_self, h⟩
    · obtain ⟨n, hn, e⟩ := ih b hb
      exact ⟨n, List.mem_cons_of_mem _ hn, e⟩
theorem inj_on {f : Value → List Int} : ∀ {us : List Value}, (us.map f).Nodup → ∀ u v, u ∈ us → v ∈ us → f u = f v → u = v
  | [], _, u, _, hu, _, _ => by simp at hu
  | x :: us, nd, u, v, hu, hv, e => by
    rw [List.map_cons, List.nodup_cons] at nd
    rcases List.mem_cons.mp hu with hu | hu
    · rcases List.mem_cons.mp hv with hv | hv
      · rw [hu, hv]
      · exact absurd (List.mem_map.mpr ⟨v, hv, by rw [← e, hu]⟩) nd.1
    · rcases List.mem_cons.mp hv with hv | hv
      · exact absurd (List.mem_map.mpr ⟨u, hu, by rw [e, hv]⟩) nd.1
      · exact inj_on nd.2 u v hu hv e
def rSortDT (d : Nat) : List V → Hp → VK → Prop := fun vs H Q => ∃ (a : Addr) (kvs : List (List L2.Key × V)) (ns : List (List Int)), vs = [V.ref a] ∧ Rd H a (.dT kvs) ∧ kvs.map (·.1) = ns.map (List.map Sum.inl) ∧
  (∀ n ∈ ns, n.length = d) ∧ ns.Nodup ∧ ∀ (bs : List Addr) (ns' : List (List Int)) (p : Addr), ns'.Perm ns → ns'.Pairwise (fun n m => lexL m n = false) → Paired (fun b n => H b = some (.tup (n.map V.int))) bs ns' → H p = none → Q (.ref p) (upd H p (.lst (bs.map V.ref)))
theorem cr_sortDT {d : Nat} (hd : 1 ≤ d) (hc : X.calm = true) : CallR X (.builtin "sorted") (rSortDT d) := by
  intro pins s σ H xs us Q I r h
  obtain ⟨a, kvs, ns, rfl, hrd, hk, hns, nd, q⟩ := h
  obtain ⟨u, rfl, rx⟩ := r.one
  cases rx
  obtain ⟨z, hs, ks, pr, o, es, ep, ho, hx, hdt, he, hn⟩ := (show ObjOk X.prog X.w H s.heap a (.dT kvs) from hrd.ok I.hok)
  have l1 : es.size = ks.length := size_of_entries he
  have l2 : kvs.length = ks.length := Paired.length pr
  have l3 : kvs.length = ns.length := by
    have e := congrArg List.length hk
    rw [List.length_map, List.length_map] at e
    exact e
  have pk := keys_pr (isKeys_of pr) hk
  generalize hbs : (ks.map fun x => x.2.1) = bs at pk
  have lb : bs.length = ns.length := Paired.length pk
  refine Calls.call_function_entry PyProof.Rows.kind_sorted PyProof.Rows.plain_sorted PyProof.Rows.entry_sorted (PyProof.Rows.args_sorted1 _) ?_
  unfold Builtin.«sorted»
  refine wpAny_bind (m := checkCount "sorted" 1 1 _) (wpAny_pure ?_)
  refine wpAny_bind (PySem.W.kdu_collect (A := X.A.in1) (kdl_raw hs hx hdt) (I.ok.hd hc) ho (by omega) fun h' tk acc hkp hacc => ?_)
  have ea : acc.toList = bs.map Value.ref := by
    rw [← hbs, List.map_map]
    have hl : acc.toList.length = ks.length := by rw [Array.length_toList, hacc.1]; exact l1
    apply List.ext_getElem?
    intro j
    rw [List.getElem?_map]
    cases hj : acc.toList[j]? with
    | none =>
      have h1 := List.getElem?_eq_none_iff.mp hj
      rw [List.getElem?_eq_none (by omega)]
      all_goals rfl
    | some v =>
      obtain ⟨en, hen, hv⟩ := hacc.2 j v (by rw [← Array.getElem?_toList]; exact hj)
      have qe := entry_at he j
      rw [hen] at qe
      cases hb : ks[j]? with
      | none =>
        rw [hb] at qe
        exact nomatch (show some en = none from qe)
      | some b =>
        rw [hb] at qe
        have e2 : en = entryOfKey (tupleKind (mixKind X.prog X.w)) b := Option.some.inj qe
        rw [hv, e2]
        all_goals rfl
  have I1 : Inv X pins σ H { s with heap := h', toks := tk } := I.kept hkp
  have hmap := prs pk
  rw [ea]
  have hal : (bs.map Value.ref).length = ns.length := by rw [List.length_map, lb]
  refine wpAny_bind (wpAny_newList ?_ (by rw [List.length_map, lb]; omega))
  have hoL : (h'.push (seqObj "list" (bs.map Value.ref).toArray 0)).get? h'.objs.size = some (seqObj "list" (bs.map Value.ref).toArray 0) := Heap.get?_push_size _ rfl
  show wpAny _ _ _ _ _ { s with heap := h'.push (seqObj "list" (bs.map Value.ref).toArray 0), toks := tk }
  have ok : PfxOk (h'.push (seqObj "list" (bs.map Value.ref).toArray 0)) d (bs.map Value.ref) (prH H) := by
    refine ⟨fun v hv => ?_, fun u v hu hv e => inj_on (by rw [hmap]; exact nd) u v hu hv e⟩
    obtain ⟨b, hb, rfl⟩ := List.mem_map.mp hv
    obtain ⟨n, hn, e⟩ := prs_mem pk b hb
    rw [prH_of e]
    exact ⟨Pfx.keeps (tupX_raw (xs := []) I1 (ns := n) (t := b) (by rw [List.append_nil]; exact SqT.of e)) fun c o z _ => Heap.get?_push_of_some _ z, hns n hn⟩
  refine wpAny_bind (wpAny_holding (wpAny_call_entry PyProof.Rows.slot_list_sort ⟨_, hoL, rfl⟩ PyProof.Rows.entry_list_sort
    (SrtO.list_sort_ord (s := { s with heap := h'.push (seqObj "list" (bs.map Value.ref).toArray 0), toks := tk }) (lexL_swo (prH H)) hoL (by rw [List.length_map, lb]; omega) (fun h2 => pfx_sortable hd h2 ok (not_tup hoL)) fun out g1 g2 => ⟨_, rfl, ?_⟩) (PyProof.Rows.args_list_sort _)))
  obtain ⟨e', he'⟩ := PyProof.Rows.sortedHeap_at (vs := bs.map Value.ref) (out := out.toArray) hoL
  have g1' : out.Perm (bs.map Value.ref) := g2.perm
  obtain ⟨bs', hb', hp'⟩ : ∃ bs' : List Addr, out = bs'.map Value.ref ∧ bs'.Perm bs := by
    refine ⟨out.map (fun v => match v with | .ref b => b | _ => 0), ?_, ?_⟩
    · rw [List.map_map]
      have all : ∀ v ∈ out, ∃ b, v = Value.ref b := fun v hv => by
        obtain ⟨b, _, rfl⟩ := List.mem_map.mp (g1'.mem_iff.mp hv)
        exact ⟨b, rfl⟩
      have : ∀ l : List Value, (∀ v ∈ l, ∃ b, v = Value.ref b) → l = l.map (Value.ref ∘ fun v => match v with | .ref b => b | _ => 0) := fun l hl => by
        induction l with
        | nil => rfl
        | cons x l ih =>
          obtain ⟨b, rfl⟩ := hl x List.mem_cons_self
          rw [List.map_cons, ← ih fun v hv => hl v (List.mem_cons_of_mem _ hv)]
          rfl
      exact this _ all
    · have z := g1'.map (fun v : Value => match v with | .ref b => b | _ => 0)
      rw [List.map_map] at z
      have e : bs.map ((fun v : Value => match v with | .ref b => b | _ => 0) ∘ Value.ref) = bs := by
        have : ((fun v : Value => match v with | .ref b => b | _ => 0) ∘ Value.ref) = (id : Addr → Addr) := rfl
        rw [this, List.map_id]
      rw [e] at z
      exact z
  have hlen : (bs'.map V.ref).length ≤ sizeLine := by
    rw [List.length_map, hp'.length_eq, lb]
    omega
  have pk' : Paired (fun b n => H b = some (.tup (n.map V.int))) bs' (out.map (prH H)) := by
    rw [hb']
    have mem : ∀ b ∈ bs', ∃ n ∈ ns, H b = some (.tup (n.map V.int)) := fun b hb => prs_mem pk b (hp'.mem_iff.mp hb)
    clear hb' hp' hlen
    induction bs' with
    | nil => exact .nil
    | cons b bs' ih =>
      obtain ⟨n, _, e⟩ := mem b List.mem_cons_self
      refine .cons ?_ (ih fun c hc => mem c (List.mem_cons_of_mem _ hc))
      rw [prH_of e]
      exact e
  refine wpAny_pure ⟨_, rfl, .ref h'.objs.size, upd H h'.objs.size (.lst (bs'.map V.ref)), I1.laid (t' := tk) (fun b u e => ?_) (Nat.le_refl _)
    (show ObjOk X.prog X.w _ _ _ (.lst (bs'.map V.ref)) from ⟨hlen, out, e', by rw [hb']; exact vals_refs _, he'⟩), rfl, q bs' (out.map (prH H)) _ ?_ ?_ pk' (I1.hok.fresh (Nat.le_refl _))⟩
  · have hb : b < h'.objs.size := Heap.lt_size e
    rw [PyProof.Rows.sortedHeap_old (Nat.ne_of_lt hb) (by rw [size_push']; exact Nat.lt_succ_of_lt hb)]
    exact Heap.get?_push_of_some _ e
  · have z := g1'.map (prH H)
    rw [hmap] at z
    exact z
  · exact SrtO.srtd_map (lt := lexL) (f := prH H) g1
end
end VX
set_option maxRecDepth 100000
set_option maxHeartbeats 4000000
/-! {k: v for x in xs}, the keys tuples. -/
namespace VX
open PySem PySem.Spec PyProof.Rows L2
section
variable {X : Cx} {pins : List (Addr × Obj)} {σ : L2.St} {H : Hp} {s : Shared}
/-- d[k] = v by a comprehension, k a tuple -/
theorem t_dictSet {E : Value → Shared → Prop} {D b : Addr} {kvs : List (List L2.Key × V)} {k : List L2.Key} {v : V} {r : Value} {Q : Unit → Shared → Prop} (hu : (tupleKind (mixKind X.prog X.w)).room X.A) (I : Inv X pins σ H s) (hD : H D = some (.dT kvs)) (hz : kvs.length < sizeLine)
    (hb : H b = some (.tup (k.map kV))) (rv : RelV v r) (h : ∀ s', Inv X pins σ (upd H D (.dT (putK kvs k v))) s' → Q () s') : wpAny (model X.prog X.w) X.A (dictSet D (.ref b) r) Q E s := by
  obtain ⟨_, low, xs, rel, dd⟩ := dt_of I.hok hD
  have len := length_putK kvs k v
  refine wpAny_dictSet_heap (hsz := by rw [← Paired.length rel]; omega) hu (key_of I.hok hb) dd (fun h' dd' same => h _ ?_)
  obtain ⟨q, es, ep, e1, e2, e3, e4, _, e5⟩ := dd'
  refine d_write I (by rw [hD]; exact True.intro) same ⟨q, e1⟩ ⟨by omega, low, _, (rel.put k hb rv).keeps fun c ys ec => ?_, q, es, ep, e1, e2, e3, e4, e5⟩
  rw [upd_ne fun z => by
    rw [z, hD] at ec
    exact nomatch ec]
  exact ec
end
section
variable {X : Cx}
/-- {k: v for x in xs if ..}, the keys tuples: D the new dict -/
def tDcT (wi : TI) (g : TG) (tt : TT) (tk tv : TE) (vs : List Nat) : TE := fun σ H Q => wi σ H fun J H1 => ∀ D, H1 D = none → ∃ W : Nat → Nat → Hp → Prop, (∃ m, W 0 m (upd H1 D (.dT []))) ∧ ∀ i m H, W i m H →
  (J.stop i H ∧ Q (.ref D) H) ∨ (J.go i H ∧ ∃ Nx : Hp → Prop, (∀ H', Nx H' → ∃ m', m' < m ∧ W (i + 1) m' H') ∧ ∀ x H', J.yld i H x H' → g x (wipe σ vs) H' fun σ2 H2 => wipe σ2 vs = wipe σ vs ∧ tt σ2 H2 fun b H3 =>
    if b = true then tk σ2 H3 fun y H4 => tv σ2 H4 fun z H5 => ∃ kvs k q, y = .ref q ∧ H5 q = some (.tup (k.map kV)) ∧ H5 D = some (.dT kvs) ∧ kvs.length < sizeLine ∧ Nx (upd H5 D (.dT (putK kvs k z))) else Nx H3)
theorem pe_dcT {kx vx tg iter : Expr} {ifs : List Expr} {scope : Scope} {own : List (Str × Nat)} {pos : Pos} {wi : TI} {g : TG} {tt : TT} {tk tv : TE} (room : (tupleKind (mixKind X.prog X.w)).room X.A) (hc : X.calm = true) (hN : X.N.Nodup) (hi : PI X tg iter wi) (ok : BlkOk X.N X.env.scope scope own)
    (hg : ∀ (s : Shared) (H : Hp) (C : Addr) (cl : List (Str × Addr)) (fp : List Addr), PG (X.blk s H scope (compEnvC scope cl C X.env) fp) tg g) (ht : ∀ (s : Shared) (H : Hp) (C : Addr) (cl : List (Str × Addr)) (fp : List Addr), PTs (X.blk s H scope (compEnvC scope cl C X.env) fp) ifs tt)
    (hk : ∀ (s : Shared) (H : Hp) (C : Addr) (cl : List (Str × Addr)) (fp : List Addr), PE (X.blk s H scope (compEnvC scope cl C X.env) fp) kx tk) (he : ∀ (s : Shared) (H : Hp) (C : Addr) (cl : List (Str × Addr)) (fp : List Addr), PE (X.blk s H scope (compEnvC scope cl C X.env) fp) vx tv)
    (hs : ∀ x, foldedSetIterable iter X.env x = pure x := by intro _; rfl) : PE X (.DictComp kx vx [⟨tg, iter, ifs, 0⟩] scope pos) (tDcT wi g tt tk tv (own.map (·.2))) := by
  refine ⟨fun pins s σ H Q I h => ?_⟩
  rw [arm_eval_DictComp]
  have free : ∀ y ∈ scope.names, y.2 = .free → ∃ c, X.env.cells.lookup y.1 = some c := fun y hy e => I.ok.has _ (ok.free y hy e)
  refine wpAny_comprehension_free rfl hs (closure_ok free) ok.kind (fun y hy e => by rw [ok.uniq y hy, e]) (thn (hi.run pins s σ H _ I h) fun xv s1 hx => thn hx fun itv s2 ⟨it, fp, tn, J, H2, e, I2, T, st2, f2, q⟩ => ?_)
  subst e
  refine wpAny_newObj_type (newEnv_comp ?_)
  have nD : H2 s2.heap.objs.size = none := I2.hok.fresh (Nat.le_refl _)
  obtain ⟨W, ⟨m0, w0⟩, turn⟩ := q _ nD
  -- the empty dict
  have I3 := I2.laid (t' := s2.toks) (fun b o e => Heap.get?_push_of_some { cls := .type "dict", data := .dict #[] } e) (Nat.le_refl _) (dt_empty (P := X.prog) (w := X.w) (H := upd H2 s2.heap.objs.size (.dT [])) s2.heap I2.big)
  have st3 := T.keep 0 _ _ st2 fun b _ o e => Heap.get?_push_of_some { cls := .type "dict", data := .dict #[] } e
  have f3 : ∀ b ∈ fp, FpOk X pins (upd H2 s2.heap.objs.size (.dT [])) b ∧ b < (s2.heap.push { cls := .type "dict", data := .dict #[] }).objs.size := fun b hb => by
    obtain ⟨o, e, _⟩ := T.obj _ _ st2 b hb
    have lt := Heap.lt_size e
    exact ⟨⟨by rw [upd_ne (Nat.ne_of_lt lt)]; exact (f2 b hb).1, (f2 b hb).2⟩, by rw [Heap.size_push]; exact Nat.lt_succ_of_lt lt⟩
  generalize hD : s2.heap.objs.size = D at nD w0 turn I3 f3 ⊢
  generalize hh3 : s2.heap.push { cls := .type "dict", data := .dict #[] } = h3 at I3 st3 f3 ⊢
  generalize hs3 : ({ s2 with heap := h3 } : Shared) = s3 at I3
  have e3 : h3 = s3.heap := by rw [← hs3]
  generalize hH3 : upd H2 D (.dT []) = H3 at I3 f3 w0
  rw [e3] at st3 f3
  have I4 := block_start I3 ok hN f3
  have pg := hg s3 H3 s3.heap.objs.size (cellsFrom (s3.heap.objs.size + 1) scope.names (cloFrom X.env.cells scope.names [])) fp
  have pt := ht s3 H3 s3.heap.objs.size (cellsFrom (s3.heap.objs.size + 1) scope.names (cloFrom X.env.cells scope.names [])) fp
  have pk := hk s3 H3 s3.heap.objs.size (cellsFrom (s3.heap.objs.size + 1) scope.names (cloFrom X.env.cells scope.names [])) fp
  have pe := he s3 H3 s3.heap.objs.size (cellsFrom (s3.heap.objs.size + 1) scope.names (cloFrom X.env.cells scope.names [])) fp
  have nfp : ∀ b ∈ fp, H3 b = none := fun b hb => (f3 b hb).1.1
  show codeAny _ _ (.compStart _ 0 (.ref it) (.ref D) (compEnvC scope (cellsFrom (s3.heap.objs.size + 1) scope.names (cloFrom X.env.cells scope.names [])) s3.heap.objs.size X.env)) (compPost (model X.prog X.w) X.A X.xe none (EP X pins σ Q) (.ref D) s3.heap.objs.size) { s3 with heap := pushCells (s3.heap.push { cls := .type "dict", data := .dict #[] }) scope.names }
  have locEq : (compEnvC scope (cellsFrom (s3.heap.objs.size + 1) scope.names (cloFrom X.env.cells scope.names [])) s3.heap.objs.size X.env).locals = s3.heap.objs.size := rfl
  have st4 : tn 0 (pushCells (s3.heap.push { cls := .type "dict", data := .dict #[] }) scope.names) := T.keep 0 _ _ st3 fun b _ o e => pushCells_keeps _ _ _ _ (Heap.get?_push_of_some _ e)
  generalize compEnvC scope (cellsFrom (s3.heap.objs.size + 1) scope.names (cloFrom X.env.cells scope.names [])) s3.heap.objs.size X.env = ce at I4 pg pt pk pe locEq ⊢
  generalize hs4 : ({ s3 with heap := pushCells (s3.heap.push { cls := .type "dict", data := .dict #[] }) scope.names } : Shared) = s4 at I4 ⊢
  replace st4 : tn 0 s4.heap := by rw [← hs4]; exact st4
  -- what holds before each turn
  let Tn : Nat → Shared → Prop := fun n s' => ∃ i H', Inv (X.blk s3 H3 scope ce fp) [] (wipe σ (own.map (·.2))) H' s' ∧ tn i s'.heap ∧ (∀ b ∈ fp, H' b = none) ∧ W i n H'
  have stands : ∀ {σ' : L2.St} {H' : Hp} {s' : Shared}, Inv (X.blk s3 H3 scope ce fp) [] σ' H' s' → (∀ b ∈ fp, H' b = none) → ∀ b ∈ fp, FpOk (X.blk s3 H3 scope ce fp) [] H' b := fun {σ' H' s'} I' hn b hb =>
    ⟨hn b hb, (I'.ok.exf b hb).1, I'.ok.exfs b hb, .inl hb, fun x c e => (I'.ok.exf b hb).2 x c e, fun p hp => nomatch (show p ∈ ([] : List (Addr × Obj)) from hp)⟩
  have loop : codeAny (model X.prog X.w) X.A (.compLoop (.DictComp kx vx [⟨tg, iter, ifs, 0⟩] scope pos) 0 (.ref it) (.ref D) ce) (compPost (model X.prog X.w) X.A X.xe none (EP X pins σ Q) (.ref D) s3.heap.objs.size) s4 := by
    refine compLoop_anyD Tn (fun n s5 ⟨i, H5, I5, st5, n5, w5⟩ => ?_) m0 ⟨0, H3, I4, st4, nfp, w0⟩
    rcases turn i n H5 w5 with ⟨stop, fin⟩ | ⟨go, Nx, hNx, step⟩
    · refine thnF (T.done (X.blk s3 H3 scope ce fp) rfl rfl rfl hc i [] s5 _ H5 (fun _ _ => False) I5 (stands I5 n5) st5 stop) fun r s6 ⟨hr, I6⟩ => ?_
      subst hr
      have I7 : Inv X pins σ H5 s6 := I3.call' (ch := fp) I6.os I6.base I6.hok I6.bare fun b hb => let ⟨⟨_, g1, _, g3, g4, g5⟩, _⟩ := f3 b hb; ⟨g3, g1, g4, g5⟩
      have nC : H5 s3.heap.objs.size = none := locEq ▸ I6.free
      obtain ⟨m, hn, _⟩ := I6.loc
      refine ⟨m, locEq ▸ hn, fun h'' sb => ?_⟩
      obtain ⟨z0, z1, _, z3, z4, z5⟩ := I3.fpOk (Nat.le_refl _) nC
      exact ⟨.ref D, H5, I7.turned (t' := s6.toks) (fun b o hb e => (sb.2 b hb).trans e) z0 z1 z3 z4 z5, rfl, fin⟩
    · refine thnF (T.item (X.blk s3 H3 scope ce fp) rfl rfl rfl hc i [] s5 _ H5 (fun _ _ => False) I5 (stands I5 n5) st5 go) fun r s6 ⟨u, hr, h6⟩ => ?_
      subst hr
      refine thnF h6 fun _ s7 ⟨x, H7, I7, r7, y7, st7, n7⟩ => ?_
      refine thnF (pg.run _ s7 _ H7 x u _ (I7.pinned (stands I7 n7) (T.obj _ _ st7)) r7 (step x H7 y7)) fun _ s8 ⟨σ8, H8, I8, hw, q8⟩ => ?_
      refine thnF (pt.run _ s8 σ8 H8 _ I8 q8) fun b s9 ⟨H9, I9, q9⟩ => ?_
      have next : ∀ {s' : Shared} {H' : Hp}, Inv (X.blk s3 H3 scope ce fp) ([] ++ pinsAt fp s7.heap) σ8 H' s' → Nx H' → ∃ m, m < n ∧ Tn m s' := fun {s' H'} I' nx => by
        obtain ⟨m', lt, w'⟩ := hNx H' nx
        have held : ∀ b ∈ fp, ∀ o, s7.heap.get? b = some o → s'.heap.get? b = some o ∧ H' b = none := fun b hb o e =>
          let z := I'.pin (b, o) (List.mem_append_right _ (List.mem_append_right _ (mem_pinsAt hb e)))
          ⟨z.1, z.2.1⟩
        refine ⟨m', lt, i + 1, H', (I'.unpinned (pins := [])).weak (by rw [← hw, wipe_length]) (fun j v e => (wipe_some (hw ▸ e)).1), T.keep _ _ _ st7 fun b hb o e => (held b hb o e).1, fun b hb => ?_, w'⟩
        obtain ⟨o, e, _⟩ := T.obj _ _ st7 b hb
        exact (held b hb o e).2
      cases b with
      | false => exact next I9 q9
      | true =>
        refine thnF (pk.run _ s9 σ8 H9 _ I9 q9) fun z s10 ⟨yk, H10, I10, r10, q10⟩ => thnF (pe.run _ s10 σ8 H10 _ I10 q10) fun z2 s11 ⟨yv, H11, I11, r11, kvs, k, b, ek, hb, hD11, len, nx⟩ => ?_
        subst ek
        cases r10
        exact t_dictSet (X := X.blk s3 H3 scope ce fp) room I11 hD11 len hb r11 fun s12 I12 => next I12 nx
  exact codeAny_compStart_dict loop (T.self X.A 0 _ _ _ st4 loop)
end
end VX
set_option maxRecDepth 100000
set_option maxHeartbeats 4000000
/-! The items of a dict with tuple keys, walked. -/
namespace VX
open PySem PySem.Spec PyProof.Rows L2
section
variable {X : Cx} {pins : List (Addr × Obj)} {σ : L2.St} {H : Hp} {s : Shared} {d : Addr} {o : Obj}
theorem frzT2 {kvs : List (List Key × V)} (I : Inv X pins σ H s) (h : H d = some (.frz o (.dT kvs))) :
    (d == sysModules) = false ∧ s.heap.get? d = some o ∧ o.ExactDict ∧ ∃ (es : Array DictEntry) (ep : Nat), o.data = .dict es ep ∧ es.size = kvs.length ∧
      ∀ (i : Nat) (k : List Key) (v : V), kvs[i]? = some (k, v) → ∃ (en : DictEntry) (q : Addr), es[i]? = some en ∧ en.key = .ref q ∧ H q = some (.tup (k.map kV)) ∧ RelV v en.val := by
  obtain ⟨hd, z, hs, xs, pr, o', es, ep, ho, hx, hdt, he, _⟩ := I.hok d _ h
  rw [hd] at ho
  cases ho
  refine ⟨hs, hd, hx, es, ep, hdt, ?_, fun i k v e => ?_⟩
  · have l1 : es.size = xs.length := size_of_entries he
    have l2 : kvs.length = xs.length := Paired.length pr
    omega
  · obtain ⟨b, hb, e1, e2, e3⟩ := paired_get pr e
    have q := entry_at he i
    rw [hb] at q
    exact ⟨_, b.2.1, q, rfl, e2, e3⟩
end
/-- the pairs, each a new tuple of the key's own tuple and the value -/
def Itit (d : Addr) (o : Obj) (kvs : List (List Key × V)) : It :=
  ⟨fun i H => H d = some (.frz o (.dT kvs)) ∧ i < kvs.length, fun i H x H' => ∃ T k v q, kvs[i]? = some (k, v) ∧ x = .ref T ∧ H q = some (.tup (k.map kV)) ∧ H T = none ∧ H' = upd H T (.tup [.ref q, v]), fun i H => H d = some (.frz o (.dT kvs)) ∧ kvs.length ≤ i⟩
section
variable {P : Program} {w : World} {K : PySem.W.Frag} {d : Addr} {o : Obj} {es : Array DictEntry} {ep : Nat}
theorem turn_itemsT {kvs : List (List Key × V)} {elts : List Expr} {kk : Nat} {tpos : Pos} (it : Addr) (hod : o.data = .dict es ep) :
    Turn P w K (.Tuple elts kk tpos) (Itit d o kvs) [it] it (fun i h => ∃ ok ov, IsItemIter h it d i es.size ep ok ov) where
  mem := by simp
  obj := fun i h st b hb => by
    have e : b = it := by simpa using hb
    subst e
    obtain ⟨ok, ov, e⟩ := st
    exact ⟨_, e, fun v z => nomatch z⟩
  keep := fun i h h' st k => let ⟨ok, ov, e⟩ := st; ⟨ok, ov, k it (by simp) _ e⟩
  item := by
    intro X hP hw hK hc i pins s σ H E I hf st hg
    subst hP hw hK
    obtain ⟨hd, hi⟩ := hg
    obtain ⟨hs, hgd, hx, es', ep', hdt, hsz, ent⟩ := frzT2 I hd
    obtain ⟨rfl, rfl⟩ := dict_ep hod hdt
    obtain ⟨⟨k, v⟩, hkv⟩ : ∃ p, kvs[i]? = some p := ⟨kvs[i], List.getElem?_eq_getElem hi⟩
    obtain ⟨en, q, hen, hkey, hq, hv⟩ := ent i k v hkv
    obtain ⟨ok, ov, he⟩ := st
    have hlt : it < s.heap.objs.size := Heap.lt_size he
    have hi2 : i < es'.size := by omega
    have een : es'[i] = en := by
      rw [Array.getElem?_eq_getElem hi2] at hen
      exact Option.some.inj hen
    refine DT.nextI he ⟨o, hgd, hx, hdt⟩ hi2 fun h' ho hT hz hk => ?_
    rw [een] at ho hT
    refine ⟨_, rfl, wpAny_letOwnedTupleGo_items (s := { s with heap := h' }) ho fun h'' he' sb => ?_⟩
    have hT2 : h''.get? s.heap.objs.size = some { cls := .type "tuple", data := .seq #[en.key, en.val] } := (sb.2 _ (Nat.ne_of_gt hlt)).trans hT
    have new : ObjOk X.prog X.w (upd H s.heap.objs.size (.tup [.ref q, v])) h'' s.heap.objs.size (.tup [.ref q, v]) :=
      ⟨by show 2 ≤ sizeLine; decide, [en.key, en.val], .cons hkey (.cons hv .nil), ⟨_, hT2, rfl, _, rfl⟩⟩
    have I1 : Inv X pins σ (upd H s.heap.objs.size (.tup [.ref q, v])) { s with heap := h'' } :=
      I.turnedNew (t' := s.toks) (ch := [it]) (fun b ob hb e => (sb.2 b (by simpa using hb)).trans (hk b ob (by simpa using hb) e)) hf (Nat.le_refl _) new
    refine ⟨.ref s.heap.objs.size, _, I1, rfl, ⟨_, k, v, q, hkv, rfl, hq, I.hok.fresh (Nat.le_refl _), rfl⟩, ⟨_, _, he'⟩, fun b hb => ?_⟩
    have e : b = it := by simpa using hb
    rw [e, upd_ne (Nat.ne_of_lt hlt)]
    exact (hf it (by simp)).1
  done := by
    intro X hP hw hK hc i pins s σ H E I hf st hg
    subst hP hw hK
    obtain ⟨hd, hi⟩ := hg
    obtain ⟨f0, f1, f2, f3, f4, f5⟩ := hf it (by simp)
    obtain ⟨hs, hgd, hx, es', ep', hdt, hsz, ent⟩ := frzT2 I hd
    obtain ⟨rfl, rfl⟩ := dict_ep hod hdt
    obtain ⟨ok, ov, he⟩ := st
    exact DT.endI (I.ok.hd hc) he ⟨o, hgd, hx, hdt⟩ (by omega) fun h' eb => ⟨rfl, I.turned (t' := s.toks) (fun b ob hb e => eb b ob hb e) f0 f1 f3 f4 f5⟩
  self := fun A i s Q E st h => let ⟨_, _, e⟩ := st; PySem.W.kcp_self e h
end
section
variable {X : Cx} {td : TE} {e : Expr} {apos cpos : Pos}
def iItemsT (td : TE) : TI := fun σ H R => td σ H fun x H1 => ∃ d o kvs, x = .ref d ∧ H1 d = some (.frz o (.dT kvs)) ∧ R (Itit d o kvs) H1
theorem pi_itemsT {elts : List Expr} {kk : Nat} {tpos : Pos} (he : PE X e td) (hbase : attributeBase e "items" X.env (eval e X.env) = eval e X.env := by rfl) (hline : (apos.endLine == cpos.line) = true := by rfl) :
    PI X (.Tuple elts kk tpos) (.Call (.Attribute e "items" apos) [] [] cpos) (iItemsT td) := by
  refine ⟨fun pins s σ H R I h => ?_⟩
  refine wpAny_Call_method (T := "dict") (id := "dict.items") hbase rfl hline F.plainAttrs_dict F.slot_dict_items F.type_dict_items (thn (he.run pins s σ H _ I h) fun u s1 ⟨x, H1, I1, rx, d, o, kvs, ex, hd, q⟩ => ?_)
  subst ex
  obtain rfl : u = Value.ref d := rx
  obtain ⟨hs, hgd, hx, es, ep, hdt, hsz, ent⟩ := frzT2 I1 hd
  have rw1 : DT.Raw s1.heap d es ep := ⟨o, hgd, hx, hdt⟩
  refine ⟨rw1.typeIs, ?_, ?_⟩
  · intro b e
    cases e
    exact ⟨o, hgd, hx.2.1⟩
  have I2 : Inv X pins σ H1 { s1 with heap := s1.heap.push { cls := .type "dict_items", data := .fields #[.ref d] } } := I1.kept (t' := s1.toks) fun b ob q => Heap.get?_push_of_some _ q
  have fin : wpAny (model X.prog X.w) X.A (pyIter (.ref s1.heap.objs.size)) (PIE X pins σ (.Tuple elts kk tpos) R) X.xe { s1 with heap := s1.heap.push { cls := .type "dict_items", data := .fields #[.ref d] } } := by
    refine DT.iterI (d := d) ⟨_, Heap.get?_push_size _ rfl, rfl, rfl⟩ (rw1.push _) (pi_one (tk := s1.toks) I2 _ (turn_itemsT _ hdt) ⟨.none, .none, ?_⟩ q)
    exact Heap.get?_push_size _ rfl
  show wpAny _ _ (callWith cpos (.builtin "dict.items") [.ref d] [] []) _ X.xe s1
  exact method_meetsIn F.slot_dict_items F.entry_dict_items rfl (PySem.evalArgs_none ⟨rfl, rw1.typeIs, F.args_dict_items_1 _, _, DT.meetsItems (es := es) (ep := ep) hs, ⟨rw1, fin⟩⟩)
end
end VX
set_option maxRecDepth 100000
set_option maxHeartbeats 4000000
/-! Dicts by tuples of numbers: their rows in order. -/
namespace VX
open PySem PySem.Spec PyProof.Rows L2
/-- a def with one keyword-only default -/
theorem fund_mk {K : PySem.W.Frag} {x qual : Str} {params : Arguments} {body : List Stmt} {scope : Scope} {f : Addr} {oc : Value} {od an : Option Addr} {osl : Array (Option Value)} {D e : Addr} {n : Str} {doc pm cdv ct : Value}
    (l : K.lookup f = some ⟨oc, od, .func (PySem.W.fnOf x qual params body scope .none (.ref D) doc pm an cdv ct), osl⟩) (c : PySem.W.codeIn K cdv qual = true) (k : PySem.W.keepIn K (.ref f) = true) (b : PySem.W.nsIn K D n = some (some (.ref e))) :
    FunD K x qual params body scope [] [(n, .ref e)] f (PySem.W.fnOf x qual params body scope .none (.ref D) doc pm an cdv ct) := by
  refine ⟨⟨oc, od, .none, .ref D, doc, pm, an, cdv, ct, osl, rfl, l, c, .inl ⟨rfl, rfl⟩, .inr ⟨D, rfl, fun q hq => ?_⟩⟩, k⟩
  rw [List.mem_singleton] at hq
  subst hq
  exact ⟨_, b, rfl⟩
/-! a thing locked for a while -/
/-- what lists and tuples stay -/
structure Sqs (K : PySem.W.Frag) (H H' : Hp) : Prop where
  l : ∀ a xs, SqL K H a xs → SqL K H' a xs
  t : ∀ a xs, SqT K H a xs → SqT K H' a xs
mutual
theorem dp_sqs {K : PySem.W.Frag} {H H' : Hp} (e : Sqs K H H') : ∀ (d : PyData) (v : V), Dp K H v d → Dp K H' v d
  | .none, _, h => by cases h; exact .non
  | .bool b, _, h => by cases h; exact .bl b
  | .int i, _, h => by cases h; exact .int i
  | .str x, _, h => by cases h; exact .str x
  | .list ds, _, h => by
    cases h with
    | lst hs ha => exact .lst (e.l _ _ hs) (dpa_sqs e ds _ ha)
  | .tuple ds, _, h => by
    cases h with
    | tup hs ha => exact .tup (e.t _ _ hs) (dpa_sqs e ds _ ha)
  | .dict _, _, h => by cases h
theorem dpa_sqs {K : PySem.W.Frag} {H H' : Hp} (e : Sqs K H H') : ∀ (ds : List PyData) (vs : List V), DpAll K H vs ds → DpAll K H' vs ds
  | [], _, h => by cases h; exact .nil
  | d :: ds, _, h => by
    cases h with
    | cons h1 h2 => exact .cons (dp_sqs e d _ h1) (dpa_sqs e ds _ h2)
end
/-- d, a dict, is unlocked -/
theorem sqs_unlock {K : PySem.W.Frag} {H : Hp} {d : Addr} {od : Obj} {js : List (List L2.Key × V)} {u : HO} (h : H d = some (.frz od (.dT js))) : Sqs K H (upd H d u) := by
  constructor
  · intro a xs q
    rcases q with (q | ⟨o, q⟩) | q
    · exact .inl (.inl (by rw [upd_ne (fun z => by rw [z, h] at q; cases q)]; exact q))
    · exact .inl (.inr ⟨o, by rw [upd_ne (fun z => by rw [z, h] at q; cases q)]; exact q⟩)
    · exact .inr q
  · intro a xs q
    rcases q with (q | ⟨o, q⟩) | q
    · exact .inl (.inl (by rw [upd_ne (fun z => by rw [z, h] at q; cases q)]; exact q))
    · exact .inl (.inr ⟨o, by rw [upd_ne (fun z => by rw [z, h] at q; cases q)]; exact q⟩)
    · exact .inr q
theorem del_upd {H : Hp} {a b : Addr} {u : HO} (h : a ≠ b) : del (upd H a u) b = upd (del H b) a u := by
  funext c
  by_cases h1 : c = b
  · subst h1
    rw [del_same, upd_ne (Ne.symm h), del_same]
  · rw [del_ne h1]
    by_cases h2 : c = a
    · subst h2
      rw [upd_same, upd_same]
    · rw [upd_ne h2, upd_ne h2, del_ne h1]
/-- behind the lock all stands as before it -/
theorem same_unlock {H H' : Hp} {d : Addr} {u v : HO} (h : H d = some u) (e : Same (upd H d v) H') : Same H (upd H' d u) := fun b o hb => by
  by_cases z : b = d
  · subst z
    rw [upd_same]
    exact h.symm.trans hb
  · rw [upd_ne z]
    exact e b o (by rw [upd_ne z]; exact hb)
theorem walk_itemsT {d : Addr} {o : Obj} {kvs : List (List L2.Key × V)} : Walk (Itit d o kvs) kvs.length (fun H => H d = some (.frz o (.dT kvs)))
    (fun i H x H' => ∃ T k v q, kvs[i]? = some (k, v) ∧ x = .ref T ∧ H q = some (.tup (k.map kV)) ∧ H T = none ∧ H' = upd H T (.tup [.ref q, v])) :=
  ⟨fun _ _ hi q => ⟨q, hi⟩, fun _ q => ⟨q, Nat.le_refl _⟩, fun _ _ _ _ _ _ y => y⟩
theorem i_lockE {t : TE} {σ : L2.St} {H : Hp} {Q : VK} {d : Addr} {js : List (List L2.Key × V)} (h : H d = some (.dT js)) (q : ∀ od, t σ (upd H d (.frz od (.dT js))) fun v H' => H' d = some (.frz od (.dT js)) ∧ Q v (upd H' d (.dT js))) : tLockE t σ H Q :=
  ⟨d, .dT js, h, True.intro, q⟩
theorem i_items {td : TE} {σ : L2.St} {H : Hp} {R : It → Hp → Prop} (q : td σ H fun x H1 => ∃ d o kvs, x = .ref d ∧ H1 d = some (.frz o (.dT kvs)) ∧ R (Itit d o kvs) H1) : iItemsT td σ H R := q
theorem i_keys {td : TE} {σ : L2.St} {H : Hp} {R : It → Hp → Prop} (q : td σ H fun x H1 => ∃ d o, x = .ref d ∧ ((∃ kvs, H1 d = some (.frz o (.dK kvs)) ∧ R (Itk d o kvs) H1) ∨ ∃ kvs, H1 d = some (.frz o (.dT kvs)) ∧ R (Itkt d o kvs) H1)) : iKeys td σ H R := q
theorem i_dIn {ty td : TE} {σ : L2.St} {H : Hp} {Q : VK} (q : ty σ H fun y H1 => td σ H1 fun x H2 => ∃ a o, x = .ref a ∧ DGet H2 a y o ∧ Q (.bl o.isSome) H2) : tDIn ty td σ H Q := q
theorem i_dNotIn {ty td : TE} {σ : L2.St} {H : Hp} {Q : VK} (q : ty σ H fun y H1 => td σ H1 fun x H2 => ∃ a o, x = .ref a ∧ DGet H2 a y o ∧ Q (.bl (!o.isSome)) H2) : tDNotIn ty td σ H Q := q
theorem i_dGet {ty td : TE} {σ : L2.St} {H : Hp} {Q : VK} (q : td σ H fun x H1 => ty σ H1 fun y H2 => ∃ a v, x = .ref a ∧ DGet H2 a y (some v) ∧ Q v H2) : tDGet td ty σ H Q := q
theorem i_dNew {σ : L2.St} {H : Hp} {Q : VK} (q : ∀ p, H p = none → Q (.ref p) (upd H p (.dT []))) : tDNewT σ H Q := q
/-- (a, b) in d -/
theorem dget_in {H : Hp} {a b : Addr} {kvs : List (List L2.Key × V)} {n : List Int} {o : Option V} (e : H a = some (.dT kvs)) (eb : H b = some (.tup (n.map V.int))) (ho : valV kvs (n.map Sum.inl) = o) : DGet H a (.ref b) o := by
  subst ho
  exact DGet.t e (by rw [kV_ints]; exact eb)
theorem i_setD {H : Hp} {Q : Hp → Prop} {a b : Addr} {kvs : List (List L2.Key × V)} {n : List Int} {v : V} (e : H a = some (.dT kvs)) (eb : H b = some (.tup (n.map V.int))) (hl : kvs.length ≤ 1000) (q : Q (upd H a (.dT (putK kvs (n.map Sum.inl) v)))) : rSetD (.ref a) (.ref b) v H Q :=
  ⟨a, _, rfl, DPut.t e (by rw [kV_ints]; exact eb) (lenB' hl), q⟩
/-- a callee that lets nothing out here -/
theorem passF {X : Cx} : Passes (L2.CX X.prog X.w) X E0 := fun _ _ _ _ _ _ _ ⟨_, _, _, _, _, _, _, _, _, _, _, _, h⟩ => h.elim
/-- for x in xs, xs a list or a tuple -/
def iSq (K : PySem.W.Frag) (tl : TE) : TI := fun σ H R => tl σ H fun x H1 => ∃ a, x = .ref a ∧ (((∃ xs, SqL K H1 a xs) ∧ R (Itl K a) H1) ∨ ((∃ xs, SqT K H1 a xs) ∧ R (Itt K a) H1))
theorem pi_seq {X : Cx} {tg l : Expr} {tl : TE} (hl : PE X l tl) : PI X tg l (iSq X.K tl) := by
  refine ⟨fun pins s σ H R I h => ?_⟩
  refine thn (hl.run pins s σ H _ I h) fun v s1 ⟨x, H1, I1, r1, a, e, q⟩ => ?_
  subst e
  cases r1
  rcases q with ⟨⟨xs, hq⟩, q⟩ | ⟨⟨xs, hq⟩, q⟩
  · obtain ⟨its, rv, p, hz⟩ := I1.list hq
    refine wpAny_pyIter_list p.isList ?_
    refine ⟨s1.heap.objs.size, [s1.heap.objs.size], _, _, H1, rfl, I1.kept (t' := s1.toks) fun b o e => Heap.get?_push_of_some _ e, turn_list a _, ⟨_, Heap.get?_push_size _ rfl, rfl, rfl⟩, fun b hb => ?_, q⟩
    have e : b = s1.heap.objs.size := by simpa using hb
    subst e
    exact I1.fpOk (Nat.le_refl _) (I1.hok.fresh (Nat.le_refl _))
  · obtain ⟨its, rv, p, hz⟩ := I1.tuple hq
    refine wpAny_pyIter_tuple (show s1.heap.IsTuple a its.toArray from p) ?_
    refine ⟨s1.heap.objs.size, [s1.heap.objs.size], _, _, H1, rfl, I1.kept (t' := s1.toks) fun b o e => Heap.get?_push_of_some _ e, turn_tuple a _, ⟨_, Heap.get?_push_size _ rfl, rfl, rfl⟩, fun b hb => ?_, q⟩
    have e : b = s1.heap.objs.size := by simpa using hb
    subst e
    exact I1.fpOk (Nat.le_refl _) (I1.hok.fresh (Nat.le_refl _))
theorem i_iSq {tl : TE} {σ : L2.St} {H : Hp} {K : PySem.W.Frag} {R : It → Hp → Prop} (q : tl σ H fun x H1 => ∃ a, x = .ref a ∧ (((∃ xs, SqL K H1 a xs) ∧ R (Itl K a) H1) ∨ ((∃ xs, SqT K H1 a xs) ∧ R (Itt K a) H1))) : iSq K tl σ H R := q
/-- a list or a tuple -/
def SqA (K : PySem.W.Frag) (H : Hp) (a : Addr) (xs : List V) : Prop := SqL K H a xs ∨ SqT K H a xs
theorem SqA.mono {K : PySem.W.Frag} {H H' : Hp} {a : Addr} {xs : List V} (h : SqA K H a xs) (e : Same H H') : SqA K H' a xs := h.elim (fun h => .inl (e.seq h)) fun h => .inr (same_sqT e h)
theorem i_seqV {K : PySem.W.Frag} {σ : L2.St} {i : Nat} {F H : Hp} {a : Addr} {xs : List V} {R : It → Hp → Prop} (hv : σ[i]? = some (some (.ref a))) (e : Same F H) (h : SqA K F a xs) (q : ∀ J (G : Hp → Prop), Walk J xs.length G (YAt xs) → (∀ H', Same F H' → G H') → R J H) :
    iSq K (tVar i) σ H R :=
  ⟨.ref a, hv, a, rfl, h.elim (fun h => .inl ⟨⟨xs, e.seq h⟩, q _ _ walk_list fun _ e => e.seq h⟩) fun h => .inr ⟨⟨xs, same_sqT e h⟩, q _ _ walk_tup fun _ e => same_sqT e h⟩⟩
/-- k a row's key, P what is said of its value -/
def KVs {α : Type} (k : α → List Int) (P : Hp → V → α → Prop) (H : Hp) (kvs : List (List L2.Key × V)) (rs : List α) : Prop := Paired (fun e r => e.1 = (k r).map Sum.inl ∧ P H e.2 r) kvs rs
theorem inl_inj : ∀ {xs ys : List Int}, (xs.map Sum.inl : List L2.Key) = ys.map Sum.inl → xs = ys
  | [], [], _ => rfl
  | [], _ :: _, h => by cases h
  | _ :: _, [], h => by cases h
  | x :: xs, y :: ys, h => by
    obtain ⟨h1, h2⟩ := List.cons.inj h
    rw [Sum.inl.inj h1, inl_inj h2]
section
variable {α : Type} {k : α → List Int} {P : Hp → V → α → Prop} {H H' : Hp}
theorem KVs.mono (m : ∀ H H' v r, Same H H' → P H v r → P H' v r) {kvs : List (List L2.Key × V)} {rs : List α} (h : KVs k P H kvs rs) (e : Same H H') : KVs k P H' kvs rs := Paired.mapP h fun _ _ z => ⟨z.1, m _ _ _ _ e z.2⟩
theorem KVs.len {kvs : List (List L2.Key × V)} {rs : List α} (h : KVs k P H kvs rs) : kvs.length = rs.length := Paired.length h
theorem KVs.keys : ∀ {kvs : List (List L2.Key × V)} {rs : List α}, KVs k P H kvs rs → kvs.map (·.1) = (rs.map k).map (List.map Sum.inl)
  | _, _, .nil => rfl
  | _, _, .cons z t => by
    rw [List.map_cons, List.map_cons, List.map_cons, KVs.keys t, z.1]
theorem KVs.miss {n : List Int} : ∀ {kvs : List (List L2.Key × V)} {rs : List α}, KVs k P H kvs rs → n ∉ rs.map k → valV kvs (n.map Sum.inl) = none
  | _, _, .nil, _ => rfl
  | _, _, .cons z t, h => by
    rw [List.map_cons, List.mem_cons, not_or] at h
    rw [valV_neg (fun e => h.1 (inl_inj (z.1.symm.trans e)).symm)]
    exact KVs.miss t h.2
theorem KVs.get {r : α} : ∀ {kvs : List (List L2.Key × V)} {rs : List α}, KVs k P H kvs rs → (rs.map k).Nodup → r ∈ rs → ∃ v, valV kvs ((k r).map Sum.inl) = some v ∧ P H v r
  | _, _, .nil, _, h => (nomatch h)
  | p :: kvs, r' :: rs, .cons z t, nd, h => by
    rw [List.map_cons, List.nodup_cons] at nd
    rcases List.mem_cons.mp h with rfl | h
    · exact ⟨p.2, valV_pos z.1, z.2⟩
    · have ne : ¬ p.1 = (k r).map Sum.inl := fun e => nd.1 (List.mem_map.mpr ⟨r, h, (inl_inj (z.1.symm.trans e)).symm⟩)
      rw [valV_neg ne]
      exact KVs.get t nd.2 h
theorem KVs.put {kvs : List (List L2.Key × V)} {rs : List α} {r : α} {v : V} (h : KVs k P H kvs rs) (hn : k r ∉ rs.map k) (hv : P H v r) : KVs k P H (putK kvs ((k r).map Sum.inl) v) (rs ++ [r]) := by
  have e : putK kvs ((k r).map Sum.inl) v = kvs ++ [((k r).map Sum.inl, v)] := by
    unfold putK
    rw [valV_any, h.miss hn, if_neg (by simp)]
  rw [e]
  exact Paired.snoc h ⟨rfl, hv⟩
theorem KVs.at {kvs : List (List L2.Key × V)} {rs : List α} (h : KVs k P H kvs rs) {i : Nat} {r : α} (hr : rs[i]? = some r) : ∃ v, kvs[i]? = some ((k r).map Sum.inl, v) ∧ P H v r := by
  have hi : i < kvs.length := by rw [h.len]; exact (List.getElem?_eq_some_iff.mp hr).1
  obtain ⟨b, hb, z⟩ := L2.paired_get h (List.getElem?_eq_getElem hi)
  rw [hr] at hb
  cases hb
  refine ⟨kvs[i].2, ?_, z.2⟩
  rw [List.getElem?_eq_getElem hi, ← z.1]
end
section
variable {J : It} {n : Nat} {G : Hp → Prop} {Y : Nat → Hp → V → Hp → Prop}
/-- a dict comprehension: Pv by the turn and the heap (the new dict at D within) -/
theorem dc_it (w : Walk J n G Y) {g : TG} {tt : TT} {tk tv : TE} {vs : List Nat} {σ : L2.St} {H1 : Hp} {D : Addr} {Qd : Hp → Prop} (Pv : Nat → Hp → Prop) (h0 : Pv 0 (upd H1 D (.dT []))) (hG : ∀ i H, i ≤ n → Pv i H → G H)
    (hs : ∀ i x H H', i < n → Pv i H → Y i H x H' → g x (wipe σ vs) H' fun σ2 H2 => wipe σ2 vs = wipe σ vs ∧ tt σ2 H2 fun b H3 =>
      if b = true then tk σ2 H3 fun y H4 => tv σ2 H4 fun z H5 => ∃ kvs k q, y = .ref q ∧ H5 q = some (.tup (k.map kV)) ∧ H5 D = some (.dT kvs) ∧ kvs.length < sizeLine ∧ Pv (i + 1) (upd H5 D (.dT (putK kvs k z))) else Pv (i + 1) H3) (hd : ∀ H, Pv n H → Qd H) :
    ∃ W : Nat → Nat → Hp → Prop, (∃ m, W 0 m (upd H1 D (.dT []))) ∧ ∀ i m H, W i m H →
      (J.stop i H ∧ Qd H) ∨ (J.go i H ∧ ∃ Nx : Hp → Prop, (∀ H', Nx H' → ∃ m', m' < m ∧ W (i + 1) m' H') ∧ ∀ x H', J.yld i H x H' → g x (wipe σ vs) H' fun σ2 H2 => wipe σ2 vs = wipe σ vs ∧ tt σ2 H2 fun b H3 =>
        if b = true then tk σ2 H3 fun y H4 => tv σ2 H4 fun z H5 => ∃ kvs k q, y = .ref q ∧ H5 q = some (.tup (k.map kV)) ∧ H5 D = some (.dT kvs) ∧ kvs.length < sizeLine ∧ Nx (upd H5 D (.dT (putK kvs k z))) else Nx H3) := by
  refine ⟨fun i m H => m = n - i ∧ i ≤ n ∧ Pv i H, ⟨n, by simp, Nat.zero_le _, h0⟩, ?_⟩
  rintro i m H ⟨rfl, hi, p⟩
  have q := hG i H hi p
  by_cases hlt : i < n
  · refine .inr ⟨w.goes i H hlt q, Pv (i + 1), fun H' p' => ⟨n - (i + 1), by omega, rfl, hlt, p'⟩, fun x H' y => hs i x H H' hlt p (w.yields i H x H' hlt q y)⟩
  · have e : i = n := by omega
    subst e
    exact .inl ⟨w.stops H q, hd H p⟩
end
/-- {x: d[x] for x in sorted(d)} -/
theorem i_dsort {α : Type} {k : α → List Int} {P : Hp → V → α → Prop} {K : PySem.W.Frag} {σ : L2.St} {H : Hp} {Q : VK} {D0 : Addr} {kvs : List (List L2.Key × V)} {rs : List α} {i j d : Nat} (mono : ∀ H H' v r, Same H H' → P H v r → P H' v r) (hD : H D0 = some (.dT kvs)) (hk : KVs k P H kvs rs)
    (hd : ∀ r ∈ rs, (k r).length = d) (nd : (rs.map k).Nodup) (hz : kvs.length ≤ 1000) (s1 : σ[i]? = some (some (.ref D0))) (s2 : ∀ x, ((wipe σ [j]).set j (some x))[i]? = some (some (.ref D0))) (s3 : ∀ x, ((wipe σ [j]).set j (some x))[j]? = some (some x)) (s4 : ∀ x, wipe ((wipe σ [j]).set j (some x)) [j] = wipe σ [j])
    (q : ∀ D H' js us, us.Perm rs → us.Pairwise (fun x y => lexL (k y) (k x) = false) → Same H H' → H D = none → H' D = some (.dT js) → KVs k P H' js us → Q (.ref D) H') :
    tDcT (iList K (tCB (rSortDT d) (tCons (tVar i) tNil))) (gName j) tYes (tVar j) (tDGet (tVar i) (tVar j)) [j] σ H Q := by
  refine i_iList (i_CB (i_cons (i_var s1 (i_nil ⟨D0, kvs, rs.map k, rfl, .inl hD, hk.keys, fun n hn => ?_, nd, fun bs ns' p perm pw pb np => ?_⟩))))
  · obtain ⟨r, hr, rfl⟩ := List.mem_map.mp hn
    exact hd r hr
  refine ⟨p, rfl, ⟨_, SqL.of upd_same⟩, fun D nD => ?_⟩
  obtain ⟨us, pu, rfl⟩ := perm_map_inv perm
  have eH : Same H (upd H p (.lst (bs.map V.ref))) := same_new np
  have hp : upd H p (.lst (bs.map V.ref)) p = some (.lst (bs.map V.ref)) := upd_same
  have nD0 : H D = none := eH.free nD
  generalize upd H p (.lst (bs.map V.ref)) = H1 at eH hp nD ⊢
  have lb : bs.length = us.length := by rw [Paired.length pb, List.length_map]
  have lu : us.length = rs.length := pu.length_eq
  have lk := hk.len
  refine dc_it (walk_list (K := K) (a := p) (xs := bs.map V.ref)) (fun m H' => ∃ js, Cxs H1 [(D, .dT js)] H' ∧ KVs k P H1 js (us.take m)) ⟨[], (Cxs.start H1).push _ nD, .nil⟩ (fun m H' _ pv => ?_) (fun m x H2 H3 hm pv y => ?_) fun H' pv => ?_
  · obtain ⟨js, x, _⟩ := pv
    exact SqL.of (x.e _ _ hp)
  · obtain ⟨js, x, hj⟩ := pv
    obtain ⟨rfl, hx⟩ := y
    rw [List.length_map] at hm
    rw [List.getElem?_map] at hx
    cases hb : bs[m]? with
    | none =>
      rw [hb] at hx
      cases hx
    | some b =>
      rw [hb] at hx
      cases hx
      obtain ⟨n, hn, hbn⟩ := L2.paired_get pb hb
      rw [List.getElem?_map] at hn
      cases hu : us[m]? with
      | none =>
        rw [hu] at hn
        cases hn
      | some u =>
        rw [hu] at hn
        have hn : k u = n := Option.some.inj hn
        subst hn
        obtain ⟨v, hv, pv⟩ := hk.get nd (pu.mem_iff.mp (List.mem_of_getElem? hu))
        refine i_gname rfl ⟨s4 _, i_yes (i_iteT (i_var (s3 _) (i_var (s2 _) (i_var (s3 _) ⟨D0, v, rfl, ?_, ?_⟩))))⟩
        · have g : DGet H3 D0 (.ref b) (valV kvs ((k u).map Sum.inl)) := DGet.t (x.e _ _ (eH _ _ hD)) (by rw [kV_ints]; exact x.e _ _ (eH _ _ hbn))
          rwa [hv] at g
        · have lj : js.length ≤ m := by
            rw [hj.len, List.length_take]
            omega
          refine ⟨js, (k u).map Sum.inl, b, rfl, by rw [kV_ints]; exact x.e _ _ (eH _ _ hbn), x.at 0 rfl, lenB' (by omega), _, x.turn 0 rfl _, ?_⟩
          rw [List.take_add_one, hu]
          refine hj.put (fun hm' => ?_) (mono _ _ _ _ eH pv)
          have ndu : (us.map k).Nodup := (pu.map k).nodup_iff.mpr nd
          rw [List.map_take] at hm'
          obtain ⟨l, hl⟩ := List.mem_iff_getElem?.mp hm'
          rw [List.getElem?_take] at hl
          by_cases hlm : l < m
          · rw [if_pos hlm] at hl
            have hum : (us.map k)[m]? = some (k u) := by rw [List.getElem?_map, hu]; rfl
            have := (List.getElem?_inj (List.getElem?_eq_some_iff.mp hl).1 ndu).mp (hl.trans hum.symm)
            omega
          · rw [if_neg hlm] at hl
            cases hl
  · obtain ⟨js, x, hj⟩ := pv
    rw [List.take_of_length_le (by rw [List.length_map]; omega)] at hj
    exact q D H' js us pu (List.pairwise_map.mp pw) (eH.trans x.e) nD0 (x.at 0 rfl) (hj.mono mono x.e)
end VX
set_option maxRecDepth 100000
set_option maxHeartbeats 4000000
/-! xs + ys of lists that are only read. -/
namespace VX
open PySem PySem.Spec PyProof.Rows L2
def rCatL (K : PySem.W.Frag) : R2 := fun x y H Q => ∃ l b xs zs, x = .ref l ∧ y = .ref b ∧ SqL K H l xs ∧ SqL K H b zs ∧ xs.length + zs.length ≤ sizeLine ∧ ∀ p, H p = none → Q (.ref p) (upd H p (.lst (xs ++ zs)))
theorem op_catL {X : Cx} : OpR X (binaryOp .Add) (rCatL X.K) := by
  intro pins s σ H x y v u Q I rx ry h
  obtain ⟨l, b, xs, zs, rfl, rfl, hH, hB, hz, q⟩ := h
  cases rx
  cases ry
  obtain ⟨vs, r, pl, _⟩ := I.list hH
  obtain ⟨ws, r2, pl2, _⟩ := I.list hB
  obtain ⟨⟨cls, dd, data, sl⟩, ho, hc, n, hd⟩ := pl.isList
  obtain ⟨⟨cls2, dd2, data2, sl2⟩, ho2, hc2, n2, hd2⟩ := pl2.isList
  simp only at hc hd hc2 hd2
  subst hc hd hc2 hd2
  have e : vs.toArray ++ ws.toArray = (vs ++ ws).toArray := by simp
  have l1 := r.length
  have l2 := r2.length
  refine concat_meets ⟨_, ho, rfl⟩ ⟨_, ho2, rfl⟩ noFill_list_add seq_list_add PySem.F.slot_list_add PySem.F.entry_list_add (PySem.F.args_list_add_2 _ _) (list_addW l b vs.toArray ws.toArray n n2 dd dd2 sl sl2 (by rw [List.size_toArray, List.size_toArray]; omega)) ⟨ho, ho2, ?_⟩
  rw [e]
  exact ⟨.ref _, _, I.lnew (t' := s.toks) (r.append r2) (by rw [List.length_append]; omega), rfl, q _ I.fresh⟩
end VX
set_option maxRecDepth 100000
set_option maxHeartbeats 4000000
/-! A mirror: defs over plain data, said without heap or address. -/
namespace MI
open PySem PySem.Spec PyProof.Rows L2 VX
/-- plain values; pen: a list that only draws change; thing: whatever P says of it once and for all -/
inductive X where
  | non | bl (b : Bool) | int (i : Int) | str (s : Str)
  | lst (xs : List X) | tup (xs : List X)
  | dk (kvs : List (Key × X))
  | obj (C : Addr) (fs : List (Str × X))
  | pen
  | thing (P : V → Hp → Prop)
mutual
inductive Rv (K : PySem.W.Frag) (S : Addr → Prop) (F : Hp) : V → X → Prop
  | non : Rv K S F .non .non
  | bl (b : Bool) : Rv K S F (.bl b) (.bl b)
  | int (i : Int) : Rv K S F (.int i) (.int i)
  | str (z : Str) : Rv K S F (.str z) (.str z)
  | lst {a : Addr} {vs : List V} {xs : List X} : SqL K F a vs → RvL K S F vs xs → Rv K S F (.ref a) (.lst xs)
  | tup {a : Addr} {vs : List V} {xs : List X} : SqT K F a vs → RvL K S F vs xs → Rv K S F (.ref a) (.tup xs)
  | dk {a : Addr} {ws : List (Key × V)} {kvs : List (Key × X)} : F a = some (.dK ws) → RvK K S F ws kvs → Rv K S F (.ref a) (.dk kvs)
  | obj {a C dx : Addr} {fs : List (Str × V)} {gs : List (Str × X)} : F a = some (.ins C dx fs) → RvF K S F fs gs → Rv K S F (.ref a) (.obj C gs)
  | pen {a : Addr} : S a → Rv K S F (.ref a) .pen
  | thing {v : V} {P : V → Hp → Prop} : (∀ F', Same F F' → P v F') → Rv K S F v (.thing P)
inductive RvL (K : PySem.W.Frag) (S : Addr → Prop) (F : Hp) : List V → List X → Prop
  | nil : RvL K S F [] []
  | cons {v : V} {vs : List V} {x : X} {xs : List X} : Rv K S F v x → RvL K S F vs xs → RvL K S F (v :: vs) (x :: xs)
inductive RvK (K : PySem.W.Frag) (S : Addr → Prop) (F : Hp) : List (Key × V) → List (Key × X) → Prop
  | nil : RvK K S F [] []
  | cons {f : Key} {v : V} {vs : List (Key × V)} {x : X} {xs : List (Key × X)} : Rv K S F v x → RvK K S F vs xs → RvK K S F ((f, v) :: vs) ((f, x) :: xs)
inductive RvF (K : PySem.W.Frag) (S : Addr → Prop) (F : Hp) : List (Str × V) → List (Str × X) → Prop
  | nil : RvF K S F [] []
  | cons {f : Str} {v : V} {vs : List (Str × V)} {x : X} {xs : List (Str × X)} : Rv K S F v x → RvF K S F vs xs → RvF K S F ((f, v) :: vs) ((f, x) :: xs)
end
section
variable {K : PySem.W.Frag} {S S' : Addr → Prop} {F F' : Hp}
mutual
theorem Rv.mono (hS : ∀ b, S b → S' b) (e : Same F F') : ∀ {v : V} {x : X}, Rv K S F v x → Rv K S' F' v x
  | _, _, .non => .non
  | _, _, .bl b => .bl b
  | _, _, .int b => .int b
  | _, _, .str b => .str b
  | _, _, .lst h t => .lst (e.seq h) (RvL.mono hS e t)
  | _, _, .tup h t => .tup (same_sqT e h) (RvL.mono hS e t)
  | _, _, .dk h t => .dk (e _ _ h) (RvK.mono hS e t)
  | _, _, .obj h t => .obj (e _ _ h) (RvF.mono hS e t)
  | _, _, .pen h => .pen (hS _ h)
  | _, _, .thing h => .thing fun F2 e2 => h F2 (e.trans e2)
theorem RvL.mono (hS : ∀ b, S b → S' b) (e : Same F F') : ∀ {v : List V} {x : List X}, RvL K S F v x → RvL K S' F' v x
  | _, _, .nil => .nil
  | _, _, .cons h t => .cons (Rv.mono hS e h) (RvL.mono hS e t)
theorem RvK.mono (hS : ∀ b, S b → S' b) (e : Same F F') : ∀ {v : List (Key × V)} {x : List (Key × X)}, RvK K S F v x → RvK K S' F' v x
  | _, _, .nil => .nil
  | _, _, .cons h t => .cons (Rv.mono hS e h) (RvK.mono hS e t)
theorem RvF.mono (hS : ∀ b, S b → S' b) (e : Same F F') : ∀ {v : List (Str × V)} {x : List (Str × X)}, RvF K S F v x → RvF K S' F' v x
  | _, _, .nil => .nil
  | _, _, .cons h t => .cons (Rv.mono hS e h) (RvF.mono hS e t)
end
theorem RvL.len : ∀ {vs : List V} {xs : List X}, RvL K S F vs xs → vs.length = xs.length
  | _, _, .nil => rfl
  | _, _, .cons _ t => congrArg (· + 1) (RvL.len t)
theorem RvL.app : ∀ {vs us : List V} {xs ys : List X}, RvL K S F vs xs → RvL K S F us ys → RvL K S F (vs ++ us) (xs ++ ys)
  | _, _, _, _, .nil, h => h
  | _, _, _, _, .cons a t, h => .cons a (RvL.app t h)
theorem RvL.snoc {vs : List V} {xs : List X} {v : V} {x : X} (h : RvL K S F vs xs) (a : Rv K S F v x) : RvL K S F (vs ++ [v]) (xs ++ [x]) := h.app (.cons a .nil)
theorem RvL.get : ∀ {vs : List V} {xs : List X} {i : Nat} {x : X}, RvL K S F vs xs → xs[i]? = some x → ∃ v, vs[i]? = some v ∧ Rv K S F v x
  | _, _, _, _, .nil, h => by simp at h
  | _, _, 0, _, .cons a _, h => by
    simp at h
    subst h
    exact ⟨_, rfl, a⟩
  | _, _, i + 1, _, .cons _ t, h => by
    simp at h
    obtain ⟨v, h1, h2⟩ := RvL.get t h
    exact ⟨v, by simpa using h1, h2⟩
theorem RvL.take : ∀ (k : Nat) {vs : List V} {xs : List X}, RvL K S F vs xs → RvL K S F (vs.take k) (xs.take k)
  | 0, _, _, _ => .nil
  | _ + 1, _, _, .nil => .nil
  | k + 1, _, _, .cons a t => .cons a (RvL.take k t)
theorem RvL.drop : ∀ (k : Nat) {vs : List V} {xs : List X}, RvL K S F vs xs → RvL K S F (vs.drop k) (xs.drop k)
  | 0, _, _, h => h
  | _ + 1, _, _, .nil => .nil
  | k + 1, _, _, .cons _ t => RvL.drop k t
theorem RvL.rev : ∀ {vs : List V} {xs : List X}, RvL K S F vs xs → RvL K S F vs.reverse xs.reverse
  | _, _, .nil => .nil
  | _, _, .cons a t => by
    rw [List.reverse_cons, List.reverse_cons]
    exact (RvL.rev t).snoc a
theorem RvL.set : ∀ {vs : List V} {xs : List X} {i : Nat} {v : V} {x : X}, RvL K S F vs xs → Rv K S F v x → RvL K S F (vs.set i v) (xs.set i x)
  | _, _, _, _, _, .nil, _ => .nil
  | _, _, 0, _, _, .cons _ t, h => .cons h t
  | _, _, i + 1, _, _, .cons a t, h => .cons a (RvL.set t h)
end
/-! ### worlds -/
/-- S: the pens; F: what stays; H: all -/
structure Wd where
  S : Addr → Prop
  F : Hp
  H : Hp
def Wd.Ok (w : Wd) : Prop := Same w.F w.H ∧ ∀ p, w.S p → w.F p = none ∧ ∃ a b c : Int, w.H p = some (.lst [.int a, .int b, .int c])
/-- nothing turns these -/
def Imm : Option HO → Prop
  | none => True
  | some (.tup _) => True
  | some (.dT _) => True
  | _ => False
theorem imm_lst {l : List V} : ¬ Imm (some (.lst l)) := id
structure Ev (w w' : Wd) : Prop where
  f : Same w.F w'.F
  n : ∀ b, w.F b = none → w'.F b ≠ none → Imm (w.H b)
  h : ∀ b o, w.H b = some o → ¬ w.S b → w'.H b = some o
  s : ∀ b, w.S b → w'.S b
  m : ∀ b, w'.S b → ¬ w.S b → w.H b = none
  ok : w'.Ok
abbrev Rd (K : PySem.W.Frag) (w : Wd) : V → X → Prop := Rv K w.S w.F
abbrev RdL (K : PySem.W.Frag) (w : Wd) : List V → List X → Prop := RvL K w.S w.F
section
variable {K : PySem.W.Frag} {w w' w'' : Wd}
theorem Ev.rfl (o : w.Ok) : Ev w w := ⟨Same.refl _, fun b h g => absurd h g, fun _ _ h _ => h, fun _ h => h, fun _ h g => absurd h g, o⟩
theorem Ev.trans (e : Ev w w') (g : Ev w' w'') : Ev w w'' := by
  refine ⟨e.f.trans g.f, fun b h k => ?_, fun b o h k => ?_, fun b h => g.s b (e.s b h), fun b h k => ?_, g.ok⟩
  · by_cases z : w'.F b = none
    · have z2 := g.n b z k
      cases q : w.H b with
      | none => trivial
      | some o =>
        by_cases s : w.S b
        · obtain ⟨_, a, b', c, q⟩ := e.ok.2 b (e.s b s)
          rw [q] at z2
          exact (imm_lst z2).elim
        · rw [e.h b _ q s] at z2
          exact z2
    · exact e.n b h z
  · refine g.h b o (e.h b o h k) fun z => ?_
    have := e.m b z k
    rw [h] at this
    cases this
  · by_cases z : w'.S b
    · exact e.m b z k
    · have z2 := g.m b h z
      cases z3 : w.H b with
      | none => exact _root_.rfl
      | some o =>
        have := e.h b o z3 k
        rw [z2] at this
        cases this
theorem Ev.rd {v : V} {x : X} (e : Ev w w') (h : Rd K w v x) : Rd K w' v x := h.mono e.s e.f
theorem Ev.rdl {v : List V} {x : List X} (e : Ev w w') (h : RdL K w v x) : RdL K w' v x := h.mono e.s e.f
/-- something new that stays -/
def Wd.new (w : Wd) (p : Addr) (o : HO) : Wd := ⟨w.S, upd w.F p o, upd w.H p o⟩
/-- something new that may turn -/
def Wd.cell (w : Wd) (p : Addr) (o : HO) : Wd := ⟨w.S, w.F, upd w.H p o⟩
theorem Wd.Ok.free (k : w.Ok) {p : Addr} (n : w.H p = none) : w.F p = none ∧ ¬ w.S p := by
  refine ⟨k.1.free n, fun s => ?_⟩
  obtain ⟨_, a, b, c, q⟩ := k.2 p s
  rw [n] at q
  cases q
theorem Ev.new {p : Addr} {o : HO} (k : w.Ok) (n : w.H p = none) : Ev w (w.new p o) := by
  have fr := k.free n
  refine ⟨same_new fr.1, fun b h g => ?_, fun b u h _ => same_new n b u h, fun _ h => h, fun _ h g => absurd h g, ⟨fun b u h => ?_, fun q hq => ?_⟩⟩
  · by_cases e : b = p
    · rw [e, n]; exact trivial
    · exact absurd ((upd_ne e).trans h) g
  · show upd w.H p o b = some u
    have h : upd w.F p o b = some u := h
    by_cases e : b = p
    · subst e
      rw [upd_same] at h ⊢
      exact h
    · rw [upd_ne e] at h ⊢
      exact k.1 b u h
  · obtain ⟨h1, a, b, c, h2⟩ := k.2 q hq
    have ne : q ≠ p := fun z => fr.2 (z ▸ hq)
    exact ⟨(upd_ne ne).trans h1, a, b, c, (upd_ne ne).trans h2⟩
theorem Ev.cell {p : Addr} {o : HO} (k : w.Ok) (n : w.H p = none) : Ev w (w.cell p o) := by
  have fr := k.free n
  refine ⟨Same.refl _, fun b h g => absurd h g, fun b u h _ => same_new n b u h, fun _ h => h, fun _ h g => absurd h g, ⟨fun b u h => ?_, fun q hq => ?_⟩⟩
  · exact same_new n b u (k.1 b u h)
  · obtain ⟨h1, a, b, c, h2⟩ := k.2 q hq
    have ne : q ≠ p := fun z => fr.2 (z ▸ hq)
    exact ⟨h1, a, b, c, (upd_ne ne).trans h2⟩
/-- a cell turns that is not of the frame -/
theorem Wd.Ok.turn {p : Addr} {o : HO} (k : w.Ok) (hF : w.F p = none) (hS : ¬ w.S p) : (w.cell p o).Ok := by
  refine ⟨fun b u h => ?_, fun q hq => ?_⟩
  · show upd w.H p o b = some u
    rw [upd_ne (ne_of_none h hF)]
    exact k.1 b u h
  · obtain ⟨h1, a, b, c, h2⟩ := k.2 q hq
    have ne : q ≠ p := fun z => hS (z ▸ hq)
    exact ⟨h1, a, b, c, (upd_ne ne).trans h2⟩
/-- seen from before it was made -/
theorem Ev.turn {p : Addr} {o : HO} (e : Ev w w') (n : w.H p = none) (hF : w'.F p = none) (hS : ¬ w'.S p) : Ev w (w'.cell p o) :=
  ⟨e.f, e.n, fun b u h s => by
    show upd w'.H p o b = some u
    rw [upd_ne (ne_of_none h n)]
    exact e.h b u h s, e.s, e.m, e.ok.turn hF hS⟩
/-- a cell stays from now on -/
def Wd.keep (w : Wd) (p : Addr) (o : HO) : Wd := ⟨w.S, upd w.F p o, w.H⟩
theorem Ev.keep {p : Addr} {o : HO} (e : Ev w w') (n : w.H p = none) (hF : w'.F p = none) (hS : ¬ w'.S p) (hH : w'.H p = some o) : Ev w (w'.keep p o) := by
  refine ⟨fun b u h => ?_, fun b h g => ?_, e.h, e.s, e.m, ⟨fun b u h => ?_, fun q hq => ?_⟩⟩
  · show upd w'.F p o b = some u
    rw [upd_ne (ne_of_none (e.f b u h) hF)]
    exact e.f b u h
  · by_cases z : b = p
    · rw [z, n]; exact trivial
    · exact e.n b h fun k => g ((upd_ne z).trans k)
  · have h : upd w'.F p o b = some u := h
    show w'.H b = some u
    by_cases z : b = p
    · subst z
      rw [upd_same] at h
      rw [hH]
      exact h
    · rw [upd_ne z] at h
      exact e.ok.1 b u h
  · obtain ⟨h1, h2⟩ := e.ok.2 q hq
    have ne : q ≠ p := fun z => hS (z ▸ hq)
    exact ⟨(upd_ne ne).trans h1, h2⟩
theorem keep_f {p : Addr} {o : HO} (hF : w.F p = none) : Same w.F (w.keep p o).F := fun b u h => by
  show upd w.F p o b = some u
  rw [upd_ne (ne_of_none h hF)]
  exact h
end
/-! ### slots -/
inductive Y where
  | u | x (x : X) | o (xs : List X) | d (kvs : List (Key × X))
abbrev Tk := Nat → Option (Addr × HO)
def Yr (K : PySem.W.Frag) (w : Wd) (T : Tk) (i : Nat) (s : Option (Option V)) : Y → Prop
  | .u => True
  | .x d => ∃ v, s = some (some v) ∧ Rd K w v d
  | .o xs => ∃ p vs, s = some (some (.ref p)) ∧ T i = some (p, .lst vs) ∧ RdL K w vs xs
  | .d kvs => ∃ p ws, s = some (some (.ref p)) ∧ T i = some (p, .dK ws) ∧ RvK K w.S w.F ws kvs
structure St (K : PySem.W.Frag) (σ : L2.St) (env : List Y) (T : Tk) (w : Wd) : Prop where
  l : env.length = σ.length
  r : ∀ i y, env[i]? = some y → Yr K w T i (σ[i]?) y
  h : ∀ i p vs, T i = some (p, vs) → w.H p = some vs ∧ w.F p = none ∧ ¬ w.S p
  m : ∀ i p vs, T i = some (p, vs) → ¬ Imm (some vs)
  d : ∀ i j p vs us, T i = some (p, vs) → T j = some (p, us) → i = j
section
variable {K : PySem.W.Frag} {w w' : Wd} {σ : L2.St} {env : List Y} {T : Tk}
theorem Yr.ev {i : Nat} {s : Option (Option V)} (e : Ev w w') : ∀ {y : Y}, Yr K w T i s y → Yr K w' T i s y
  | .u, _ => trivial
  | .x _, h => let ⟨v, a, b⟩ := h; ⟨v, a, e.rd b⟩
  | .o _, h => let ⟨p, vs, a, b, c⟩ := h; ⟨p, vs, a, b, e.rdl c⟩
  | .d _, h => let ⟨p, vs, a, b, c⟩ := h; ⟨p, vs, a, b, c.mono e.s e.f⟩
theorem St.ev (s : St K σ env T w) (e : Ev w w') : St K σ env T w' := by
  refine ⟨s.l, fun i y h => (s.r i y h).ev e, fun i p vs h => ?_, s.m, s.d⟩
  obtain ⟨h1, h2, h3⟩ := s.h i p vs h
  have hm := s.m i p vs h
  refine ⟨e.h _ _ h1 h3, ?_, fun z => ?_⟩
  · cases z : w'.F p with
    | none => rfl
    | some o =>
      exact (hm (h1 ▸ e.n p h2 (by rw [z]; exact fun q => nomatch q))).elim
  · have := e.m p z h3
    rw [h1] at this
    cases this
theorem St.setX (s : St K σ env T w) (i : Nat) {v : V} {x : X} (h : Rd K w v x) : St K (σ.set i (some v)) (env.set i (.x x)) T w := by
  refine ⟨by rw [List.length_set, List.length_set]; exact s.l, fun j y hy => ?_, s.h, s.m, s.d⟩
  rw [List.getElem?_set] at hy ⊢
  by_cases e : i = j
  · rw [if_pos e] at hy ⊢
    by_cases l : i < env.length
    · rw [if_pos l] at hy
      cases hy
      rw [if_pos (s.l ▸ l)]
      exact ⟨v, rfl, h⟩
    · rw [if_neg l] at hy
      cases hy
  · rw [if_neg e] at hy ⊢
    exact s.r j y hy
theorem St.setC (s : St K σ env T w) (i : Nat) {p : Addr} {vs : HO} {y0 : Y} (hH : w.H p = some vs) (hF : w.F p = none) (hS : ¬ w.S p) (hm : ¬ Imm (some vs)) (hd : ∀ j us, T j = some (p, us) → j = i) (h : Yr K w (fun j => if j = i then some (p, vs) else T j) i (some (some (.ref p))) y0) :
    St K (σ.set i (some (.ref p))) (env.set i y0) (fun j => if j = i then some (p, vs) else T j) w := by
  refine ⟨by rw [List.length_set, List.length_set]; exact s.l, fun j y hy => ?_, fun j q us hj => ?_, fun j q us hj => ?_, fun j k q us us' h1 h2 => ?_⟩
  · rw [List.getElem?_set] at hy ⊢
    by_cases e : i = j
    · rw [if_pos e] at hy ⊢
      by_cases l : i < env.length
      · rw [if_pos l] at hy
        cases hy
        rw [if_pos (s.l ▸ l)]
        subst e
        exact h
      · rw [if_neg l] at hy
        cases hy
    · rw [if_neg e] at hy ⊢
      have := s.r j y hy
      cases y with
      | u => trivial
      | x d => exact this
      | o xs' => exact let ⟨q, us, a, b, c⟩ := this; ⟨q, us, a, (if_neg (Ne.symm e)).trans b, c⟩
      | d xs' => exact let ⟨q, us, a, b, c⟩ := this; ⟨q, us, a, (if_neg (Ne.symm e)).trans b, c⟩
  · have hj : (if j = i then some (p, vs) else T j) = some (q, us) := hj
    by_cases e : j = i
    · rw [if_pos e] at hj
      cases hj
      exact ⟨hH, hF, hS⟩
    · rw [if_neg e] at hj
      exact s.h j q us hj
  · have hj : (if j = i then some (p, vs) else T j) = some (q, us) := hj
    by_cases e : j = i
    · rw [if_pos e] at hj
      cases hj
      exact hm
    · rw [if_neg e] at hj
      exact s.m j q us hj
  · have h1 : (if j = i then some (p, vs) else T j) = some (q, us) := h1
    have h2 : (if k = i then some (p, vs) else T k) = some (q, us') := h2
    by_cases e : j = i
    · rw [if_pos e] at h1
      cases h1
      by_cases e2 : k = i
      · rw [e, e2]
      · rw [if_neg e2] at h2
        exact absurd (hd k us' h2) e2
    · rw [if_neg e] at h1
      by_cases e2 : k = i
      · rw [if_pos e2] at h2
        cases h2
        exact absurd (hd j us h1) e
      · rw [if_neg e2] at h2
        exact s.d j k q us us' h1 h2
theorem St.fresh (s : St K σ env T w) {p : Addr} (n : w.H p = none) : ∀ j us, T j ≠ some (p, us) := fun j us h => by
  have := (s.h j p us h).1
  rw [n] at this
  cases this
end
/-! ### what a reading says, and its mirror -/
abbrev ME := List Y → (X → Prop) → Prop
abbrev MEs := List Y → (List X → Prop) → Prop
abbrev MT := List Y → (Bool → Prop) → Prop
structure MD where
  nx : List Y → Prop
  rt : X → Prop
  bk : List Y → Prop
  ct : List Y → Prop
abbrev MS := MD → List Y → Prop
/-- a value that is read: as it stays, or a slot's own list -/
def Rw (K : PySem.W.Frag) (w : Wd) (T : Tk) (v : V) (x : X) : Prop := Rd K w v x ∨ ∃ i p vs xs, T i = some (p, .lst vs) ∧ v = .ref p ∧ x = .lst xs ∧ RdL K w vs xs
def Snd (K : PySem.W.Frag) (t : TE) (m : ME) : Prop := ∀ σ env T w (q : X → Prop) (R : VK), w.Ok → St K σ env T w → m env q → (∀ x v w', q x → Ev w w' → Rd K w' v x → R v w'.H) → t σ w.H R
def SndW (K : PySem.W.Frag) (t : TE) (m : ME) : Prop := ∀ σ env T w (q : X → Prop) (R : VK), w.Ok → St K σ env T w → m env q → (∀ x v w', q x → Ev w w' → Rw K w' T v x → R v w'.H) → t σ w.H R
def SndT (K : PySem.W.Frag) (t : TT) (m : MT) : Prop := ∀ σ env T w (q : Bool → Prop) (R : Bool → Hp → Prop), w.Ok → St K σ env T w → m env q → (∀ b w', q b → Ev w w' → R b w'.H) → t σ w.H R
/-- all arguments as they stay -/
def SndA (K : PySem.W.Frag) (t : TA) (m : MEs) : Prop := ∀ σ env T w (q : List X → Prop) (R : List V → Hp → Prop), w.Ok → St K σ env T w → m env q → (∀ xs vs w', q xs → Ev w w' → RdL K w' vs xs → R vs w'.H) → t σ w.H R
inductive RwL (K : PySem.W.Frag) (w : Wd) (T : Tk) : List V → List X → Prop
  | nil : RwL K w T [] []
  | cons {v : V} {vs : List V} {x : X} {xs : List X} : Rw K w T v x → RwL K w T vs xs → RwL K w T (v :: vs) (x :: xs)
def SndAW (K : PySem.W.Frag) (t : TA) (m : MEs) : Prop := ∀ σ env T w (q : List X → Prop) (R : List V → Hp → Prop), w.Ok → St K σ env T w → m env q → (∀ xs vs w', q xs → Ev w w' → RwL K w' T vs xs → R vs w'.H) → t σ w.H R
/-- a new list -/
def SndN (K : PySem.W.Frag) (t : TE) (m : MEs) : Prop := ∀ σ env T w (q : List X → Prop) (R : VK), w.Ok → St K σ env T w → m env q → (∀ xs p vs w', q xs → Ev w w' → w.H p = none → w'.F p = none → ¬ w'.S p → w'.H p = some (.lst vs) → RdL K w' vs xs → R (.ref p) w'.H) → t σ w.H R
section
variable {K : PySem.W.Frag} {w w' : Wd} {σ : L2.St} {env : List Y} {T : Tk}
theorem Rw.ev {v : V} {x : X} (e : Ev w w') : Rw K w T v x → Rw K w' T v x
  | .inl h => .inl (e.rd h)
  | .inr ⟨i, p, vs, xs, a, b, c, d⟩ => .inr ⟨i, p, vs, xs, a, b, c, e.rdl d⟩
theorem RwL.ev (e : Ev w w') : ∀ {vs : List V} {xs : List X}, RwL K w T vs xs → RwL K w' T vs xs
  | _, _, .nil => .nil
  | _, _, .cons a t => .cons (a.ev e) (RwL.ev e t)
/-- a list that is read -/
theorem Rw.lst {v : V} {xs : List X} (k : w.Ok) (s : St K σ env T w) (h : Rw K w T v (.lst xs)) : ∃ p vs, v = .ref p ∧ SqL K w.H p vs ∧ RdL K w vs xs := by
  rcases h with h | ⟨i, p, vs, ys, a, rfl, c, d⟩
  · cases h with
    | lst h1 h2 => exact ⟨_, _, rfl, k.1.seq h1, h2⟩
  · cases c
    exact ⟨p, vs, rfl, SqL.of (s.h i p (.lst vs) a).1, d⟩
theorem Rw.tup {v : V} {xs : List X} (k : w.Ok) (h : Rw K w T v (.tup xs)) : ∃ p vs, v = .ref p ∧ SqT K w.H p vs ∧ RdL K w vs xs := by
  rcases h with h | ⟨i, p, vs, ys, a, rfl, c, d⟩
  · cases h with
    | tup h1 h2 => exact ⟨_, _, rfl, same_sqT k.1 h1, h2⟩
  · cases c
theorem Rw.int {v : V} {i : Int} (h : Rw K w T v (.int i)) : v = .int i := by
  rcases h with h | ⟨_, p, vs, ys, a, rfl, c, d⟩
  · cases h; rfl
  · cases c
theorem Rw.bl {v : V} {i : Bool} (h : Rw K w T v (.bl i)) : v = .bl i := by
  rcases h with h | ⟨_, p, vs, ys, a, rfl, c, d⟩
  · cases h; rfl
  · cases c
theorem Rw.str {v : V} {i : Str} (h : Rw K w T v (.str i)) : v = .str i := by
  rcases h with h | ⟨_, p, vs, ys, a, rfl, c, d⟩
  · cases h; rfl
  · cases c
theorem Rw.non {v : V} (h : Rw K w T v .non) : v = .non := by
  rcases h with h | ⟨_, p, vs, ys, a, rfl, c, d⟩
  · cases h; rfl
  · cases c
end
section
variable {K : PySem.W.Frag} {t ta tb tc : TE} {m ma mb mc : ME} {mn : MEs} {i : Nat}
theorem snd_w (h : Snd K t m) : SndW K t m := fun σ env T w q R k s hm hr => h σ env T w q R k s hm fun x v w' hq e r => hr x v w' hq e (.inl r)
theorem snd_ofN (h : SndN K t mn) : Snd K t (fun env q => mn env fun xs => q (.lst xs)) := fun σ env T w q R k s hm hr => h σ env T w _ R k s hm fun xs p vs w' hq e n hF hS hH r => by
  exact hr (.lst xs) (.ref p) (w'.keep p (.lst vs)) hq (e.keep n hF hS hH) (.lst (SqL.of (show upd w'.F p (.lst vs) p = some (.lst vs) from upd_same)) (r.mono (fun _ z => z) (keep_f hF)))
/-- a slot that stays -/
def mVar (i : Nat) : ME := fun env q => match env[i]? with
  | some (.x x) => q x
  | _ => False
def mVarW (i : Nat) : ME := fun env q => match env[i]? with
  | some (.x x) => q x
  | some (.o xs) => q (.lst xs)
  | _ => False
theorem snd_var : Snd K (tVar i) (mVar i) := fun σ env T w q R k s hm hr => by
  unfold mVar at hm
  split at hm
  · rename_i x e
    obtain ⟨v, hv, rv⟩ := s.r i _ e
    exact ⟨v, hv, hr x v w hm (Ev.rfl k) rv⟩
  · exact hm.elim
theorem snd_varW : SndW K (tVar i) (mVarW i) := fun σ env T w q R k s hm hr => by
  unfold mVarW at hm
  split at hm
  · rename_i x e
    obtain ⟨v, hv, rv⟩ := s.r i _ e
    exact ⟨v, hv, hr x v w hm (Ev.rfl k) (.inl rv)⟩
  · rename_i xs e
    obtain ⟨p, vs, hv, ht, rv⟩ := s.r i _ e
    exact ⟨_, hv, hr (.lst xs) _ w hm (Ev.rfl k) (.inr ⟨i, p, vs, xs, ht, rfl, rfl, rv⟩)⟩
  · exact hm.elim
def mC (x : X) : ME := fun _ q => q x
theorem snd_int {n : Int} : Snd K (tC (.int n)) (mC (.int n)) := fun σ env T w q R k s hm hr => hr _ _ w hm (Ev.rfl k) (.int n)
theorem snd_bl {b : Bool} : Snd K (tC (.bl b)) (mC (.bl b)) := fun σ env T w q R k s hm hr => hr _ _ w hm (Ev.rfl k) (.bl b)
theorem snd_str {z : Str} : Snd K (tC (.str z)) (mC (.str z)) := fun σ env T w q R k s hm hr => hr _ _ w hm (Ev.rfl k) (.str z)
theorem snd_non : Snd K (tC .non) (mC .non) := fun σ env T w q R k s hm hr => hr _ _ w hm (Ev.rfl k) .non
/-! operators -/
def OpM (K : PySem.W.Frag) (r : R2) (mr : X → X → (X → Prop) → Prop) : Prop := ∀ σ env T w v u x y (q : X → Prop) (R : VK), w.Ok → St K σ env T w → Rw K w T v x → Rw K w T u y → mr x y q → (∀ z v' w', q z → Ev w w' → Rd K w' v' z → R v' w'.H) → r v u w.H R
def mOp (mr : X → X → (X → Prop) → Prop) (ma mb : ME) : ME := fun env q => ma env fun x => mb env fun y => mr x y q
theorem snd_op {r : R2} {mr : X → X → (X → Prop) → Prop} (hr : OpM K r mr) (ha : SndW K ta ma) (hb : SndW K tb mb) : Snd K (tOp r ta tb) (mOp mr ma mb) := fun σ env T w q R k s hm hR =>
  ha σ env T w _ _ k s hm fun x v w1 h1 e1 r1 => hb σ env T w1 _ _ e1.ok (s.ev e1) h1 fun y u w2 h2 e2 r2 =>
    hr σ env T w2 v u x y _ _ e2.ok ((s.ev e1).ev e2) (r1.ev e2) r2 h2 fun z v' w3 h3 e3 r3 => hR z v' w3 h3 (e1.trans (e2.trans e3)) r3
/-- by values, nothing made -/
theorem opm_rI0 {gV : Int → Int → V} {mr : X → X → (X → Prop) → Prop} (h : ∀ x y q, mr x y q → ∃ i j z, x = .int i ∧ y = .int j ∧ q z ∧ ∀ w, Rd K w (gV i j) z) : OpM K (rI0 gV) mr := fun σ env T w v u x y q R k s rx ry hm hR => by
  obtain ⟨i, j, z, rfl, rfl, hq, hv⟩ := h x y q hm
  exact ⟨i, j, rx.int, ry.int, hR _ _ w hq (Ev.rfl k) (hv w)⟩
theorem opm_rI {C : Int → Int → Prop} {gV : Int → Int → V} {mr : X → X → (X → Prop) → Prop} (h : ∀ x y q, mr x y q → ∃ i j z, x = .int i ∧ y = .int j ∧ C i j ∧ q z ∧ ∀ w, Rd K w (gV i j) z) : OpM K (rI C gV) mr := fun σ env T w v u x y q R k s rx ry hm hR => by
  obtain ⟨i, j, z, rfl, rfl, c, hq, hv⟩ := h x y q hm
  exact ⟨i, j, rx.int, ry.int, c, hR _ _ w hq (Ev.rfl k) (hv w)⟩
def mAdd : X → X → (X → Prop) → Prop := fun x y q => match x, y with
  | .int i, .int j => q (.int (i + j))
  | _, _ => False
def mSub : X → X → (X → Prop) → Prop := fun x y q => match x, y with
  | .int i, .int j => q (.int (i - j))
  | _, _ => False
def mLt : X → X → (X → Prop) → Prop := fun x y q => match x, y with
  | .int i, .int j => q (.bl (decide (i < j)))
  | _, _ => False
def mLe : X → X → (X → Prop) → Prop := fun x y q => match x, y with
  | .int i, .int j => q (.bl (decide (i ≤ j)))
  | _, _ => False
def mGt : X → X → (X → Prop) → Prop := fun x y q => match x, y with
  | .int i, .int j => q (.bl (decide (j < i)))
  | _, _ => False
def mGe : X → X → (X → Prop) → Prop := fun x y q => match x, y with
  | .int i, .int j => q (.bl (decide (j ≤ i)))
  | _, _ => False
end
end MI
set_option maxRecDepth 100000
set_option maxHeartbeats 4000000
namespace MI
open PySem PySem.Spec PyProof.Rows L2 VX
section
variable {K : PySem.W.Frag} {t ta tb tc : TE} {m ma mb mc : ME} {mn : MEs} {i : Nat}
theorem opm_add : OpM K (rI0 fun i j => .int (i + j)) mAdd := opm_rI0 fun x y q h => by unfold mAdd at h; split at h <;> first | exact ⟨_, _, _, rfl, rfl, h, fun _ => .int _⟩ | exact h.elim
theorem opm_sub : OpM K (rI0 fun i j => .int (i - j)) mSub := opm_rI0 fun x y q h => by unfold mSub at h; split at h <;> first | exact ⟨_, _, _, rfl, rfl, h, fun _ => .int _⟩ | exact h.elim
theorem opm_lt : OpM K (rI0 fun i j => .bl (decide (i < j))) mLt := opm_rI0 fun x y q h => by unfold mLt at h; split at h <;> first | exact ⟨_, _, _, rfl, rfl, h, fun _ => .bl _⟩ | exact h.elim
theorem opm_le : OpM K (rI0 fun i j => .bl (decide (i ≤ j))) mLe := opm_rI0 fun x y q h => by unfold mLe at h; split at h <;> first | exact ⟨_, _, _, rfl, rfl, h, fun _ => .bl _⟩ | exact h.elim
theorem opm_gt : OpM K (rI0 fun i j => .bl (decide (j < i))) mGt := opm_rI0 fun x y q h => by unfold mGt at h; split at h <;> first | exact ⟨_, _, _, rfl, rfl, h, fun _ => .bl _⟩ | exact h.elim
theorem opm_ge : OpM K (rI0 fun i j => .bl (decide (j ≤ i))) mGe := opm_rI0 fun x y q h => by unfold mGe at h; split at h <;> first | exact ⟨_, _, _, rfl, rfl, h, fun _ => .bl _⟩ | exact h.elim
def mMul : X → X → (X → Prop) → Prop := fun x y q => match x, y with
  | .int i, .int j => CMul i j ∧ q (.int (i * j))
  | _, _ => False
theorem opm_mul : OpM K (rI CMul fun i j => .int (i * j)) mMul := opm_rI fun x y q h => by unfold mMul at h; split at h <;> first | exact ⟨_, _, _, rfl, rfl, h.1, h.2, fun _ => .int _⟩ | exact h.elim
def mMod : X → X → (X → Prop) → Prop := fun x y q => match x, y with
  | .int i, .int j => j ≠ 0 ∧ q (.int (i.fmod j))
  | _, _ => False
theorem opm_mod : OpM K (rI (fun _ j => j ≠ 0) fun i j => .int (i.fmod j)) mMod := opm_rI fun x y q h => by unfold mMod at h; split at h <;> first | exact ⟨_, _, _, rfl, rfl, h.1, h.2, fun _ => .int _⟩ | exact h.elim
def mFdiv : X → X → (X → Prop) → Prop := fun x y q => match x, y with
  | .int i, .int j => CDiv i j ∧ q (.int (i / j))
  | _, _ => False
theorem opm_fdiv : OpM K (rI CDiv fun i j => .int (i / j)) mFdiv := opm_rI fun x y q h => by unfold mFdiv at h; split at h <;> first | exact ⟨_, _, _, rfl, rfl, h.1, h.2, fun _ => .int _⟩ | exact h.elim
def mPow : X → X → (X → Prop) → Prop := fun x y q => match x, y with
  | .int i, .int j => CPow i j ∧ q (.int (i ^ j.toNat))
  | _, _ => False
theorem opm_pow : OpM K (rI CPow fun i j => .int (i ^ j.toNat)) mPow := opm_rI fun x y q h => by unfold mPow at h; split at h <;> first | exact ⟨_, _, _, rfl, rfl, h.1, h.2, fun _ => .int _⟩ | exact h.elim
/-! == of scalars -/
def eqS : X → X → Option Bool
  | .int i, .int j => some (decide (i = j))
  | .str i, .str j => some (decide (i = j))
  | .bl i, .bl j => some (decide (i = j))
  | .non, .non => some true
  | .non, .int _ => some false | .int _, .non => some false | .non, .str _ => some false | .str _, .non => some false
  | .int _, .str _ => some false | .str _, .int _ => some false
  | _, _ => none
theorem eqS_v {w : Wd} {T : Tk} {v u : V} {x y : X} {b : Bool} (rx : Rw K w T v x) (ry : Rw K w T u y) (h : eqS x y = some b) : scal v u = true ∧ decide (v = u) = b := by
  unfold eqS at h
  split at h <;> first
    | (cases h; done)
    | (cases h
       first
         | (cases rx.int; cases ry.int; exact ⟨rfl, by by_cases z : (‹Int› : Int) = ‹Int› <;> simp⟩)
         | (cases rx.str; cases ry.str; exact ⟨rfl, by simp⟩)
         | (cases rx.bl; cases ry.bl; exact ⟨rfl, by simp⟩)
         | (cases rx.non; cases ry.non; exact ⟨rfl, by simp⟩)
         | (cases rx.non; cases ry.int; exact ⟨rfl, by simp⟩)
         | (cases rx.int; cases ry.non; exact ⟨rfl, by simp⟩)
         | (cases rx.non; cases ry.str; exact ⟨rfl, by simp⟩)
         | (cases rx.str; cases ry.non; exact ⟨rfl, by simp⟩)
         | (cases rx.int; cases ry.str; exact ⟨rfl, by simp⟩)
         | (cases rx.str; cases ry.int; exact ⟨rfl, by simp⟩))
def mEq : X → X → (X → Prop) → Prop := fun x y q => match eqS x y with
  | some b => q (.bl b)
  | none => False
def mNe : X → X → (X → Prop) → Prop := fun x y q => match eqS x y with
  | some b => q (.bl (!b))
  | none => False
theorem opm_eq : OpM K rEq mEq := fun σ env T w v u x y q R k s rx ry hm hR => by
  unfold mEq at hm
  split at hm
  · rename_i b e
    obtain ⟨h1, h2⟩ := eqS_v rx ry e
    exact ⟨h1, hR _ _ w hm (Ev.rfl k) (h2 ▸ .bl _)⟩
  · exact hm.elim
theorem opm_ne : OpM K rNe mNe := fun σ env T w v u x y q R k s rx ry hm hR => by
  unfold mNe at hm
  split at hm
  · rename_i b e
    obtain ⟨h1, h2⟩ := eqS_v rx ry e
    exact ⟨h1, hR _ _ w hm (Ev.rfl k) (h2 ▸ .bl _)⟩
  · exact hm.elim
def isNon : X → Option Bool
  | .non => some true
  | .thing _ => none
  | _ => some false
theorem isNon_v {w : Wd} {T : Tk} {v : V} {x : X} {b : Bool} (rx : Rw K w T v x) (e : isNon x = some b) : decide (v = .non) = b := by
  rcases rx with h | ⟨_, p, vs, ys, a, rfl, rfl, d⟩
  · cases h <;> first | (cases e; simp; done) | (cases e; done)
  · cases e
    simp
def mIsN : X → X → (X → Prop) → Prop := fun x y q => match isNon x, y with
  | some b, .non => q (.bl b)
  | _, _ => False
def mNotN : X → X → (X → Prop) → Prop := fun x y q => match isNon x, y with
  | some b, .non => q (.bl (!b))
  | _, _ => False
theorem opm_isN : OpM K (fun x y H Q => y = .non ∧ Q (.bl (decide (x = .non))) H) mIsN := fun σ env T w v u x y q R k s rx ry hm hR => by
  unfold mIsN at hm
  split at hm
  · rename_i b e
    exact ⟨ry.non, hR _ _ w hm (Ev.rfl k) (isNon_v rx e ▸ .bl _)⟩
  · exact hm.elim
theorem opm_notN : OpM K (fun x y H Q => y = .non ∧ Q (.bl (!decide (x = .non))) H) mNotN := fun σ env T w v u x y q R k s rx ry hm hR => by
  unfold mNotN at hm
  split at hm
  · rename_i b e
    exact ⟨ry.non, hR _ _ w hm (Ev.rfl k) (isNon_v rx e ▸ .bl _)⟩
  · exact hm.elim
/-! subscripts -/
theorem RvL.at {S : Addr → Prop} {F : Hp} {vs : List V} {xs : List X} {i : Int} {x : X} (h : RvL K S F vs xs) (e : atI xs i = some x) : ∃ v, atI vs i = some v ∧ Rv K S F v x := by
  unfold atI at e ⊢
  rw [h.len]
  cases z : ixN xs.length i with
  | none => rw [z] at e; cases e
  | some j =>
    rw [z] at e
    exact h.get e
def mIxL : X → X → (X → Prop) → Prop := fun x y q => match x, y with
  | .lst xs, .int i => ∃ z, atI xs i = some z ∧ q z
  | _, _ => False
def mIxT : X → X → (X → Prop) → Prop := fun x y q => match x, y with
  | .tup xs, .int i => ∃ z, atI xs i = some z ∧ q z
  | _, _ => False
theorem opm_ixL : OpM K (rIxL K) mIxL := fun σ env T w v u x y q R k s rx ry hm hR => by
  unfold mIxL at hm
  split at hm
  · obtain ⟨z, hz, hq⟩ := hm
    obtain ⟨p, vs, rfl, h1, h2⟩ := rx.lst k s
    cases ry.int
    obtain ⟨v, hv, rv⟩ := h2.at hz
    exact ⟨p, vs, _, v, rfl, rfl, h1, hv, hR _ _ w hq (Ev.rfl k) rv⟩
  · exact hm.elim
theorem opm_ixT : OpM K (rIxT K) mIxT := fun σ env T w v u x y q R k s rx ry hm hR => by
  unfold mIxT at hm
  split at hm
  · obtain ⟨z, hz, hq⟩ := hm
    obtain ⟨p, vs, rfl, h1, h2⟩ := rx.tup k
    cases ry.int
    obtain ⟨v, hv, rv⟩ := h2.at hz
    exact ⟨p, vs, _, v, rfl, rfl, h1, hv, hR _ _ w hq (Ev.rfl k) rv⟩
  · exact hm.elim
/-! in: flat things -/
def flatX : X → Bool
  | .non => true | .bl _ => true | .int _ => true | .str _ => true
  | _ => false
def eqX : X → X → Bool
  | .non, .non => true
  | .bl a, .bl b => a == b
  | .bl a, .int b => (if a then 1 else 0) == b
  | .int a, .bl b => a == (if b then 1 else 0)
  | .int a, .int b => a == b
  | .str a, .str b => a == b
  | _, _ => false
theorem flat_v {S : Addr → Prop} {F : Hp} {v : V} {x : X} (h : Rv K S F v x) (e : flatX x = true) : flatV v = true := by cases h <;> first | rfl | (cases e)
theorem eq_v {S : Addr → Prop} {F : Hp} {v u : V} {x y : X} (h : Rv K S F v x) (g : Rv K S F u y) (e : flatX x = true) (f : flatX y = true) : eqV v u = eqX x y := by
  cases h <;> first | (cases e; done) | (cases g <;> first | rfl | (cases f; done))
theorem flat_vs {S : Addr → Prop} {F : Hp} : ∀ {vs : List V} {xs : List X}, RvL K S F vs xs → xs.all flatX = true → vs.all flatV = true
  | _, _, .nil, _ => rfl
  | _, _, .cons a t, h => by
    rw [List.all_cons, Bool.and_eq_true] at h ⊢
    exact ⟨flat_v a h.1, flat_vs t h.2⟩
theorem in_vs {S : Addr → Prop} {F : Hp} {v : V} {x : X} (hx : Rv K S F v x) (fx : flatX x = true) : ∀ {vs : List V} {xs : List X}, RvL K S F vs xs → xs.all flatX = true → inV v vs = xs.any (fun y => eqX y x)
  | _, _, .nil, _ => rfl
  | _, _, .cons a t, h => by
    rw [List.all_cons, Bool.and_eq_true] at h
    have := in_vs hx fx t h.2
    unfold inV at this ⊢
    rw [List.any_cons, List.any_cons, this, eq_v a hx h.1 fx]
def mIn (neg : Bool) : X → X → (X → Prop) → Prop := fun x y q => match y with
  | .lst ys => flatX x = true ∧ ys.all flatX = true ∧ q (.bl (if neg then !ys.any (fun y => eqX y x) else ys.any (fun y => eqX y x)))
  | .tup ys => flatX x = true ∧ ys.all flatX = true ∧ q (.bl (if neg then !ys.any (fun y => eqX y x) else ys.any (fun y => eqX y x)))
  | _ => False
theorem Rw.flat {w : Wd} {T : Tk} {v : V} {x : X} (h : Rw K w T v x) (e : flatX x = true) : Rd K w v x := by
  rcases h with h | ⟨_, p, vs, ys, a, rfl, rfl, d⟩
  · exact h
  · cases e
theorem opm_in {neg : Bool} : OpM K (rIn K neg) (mIn neg) := fun σ env T w v u x y q R k s rx ry hm hR => by
  unfold mIn at hm
  split at hm
  · obtain ⟨fx, fy, hq⟩ := hm
    obtain ⟨p, vs, rfl, h1, h2⟩ := ry.lst k s
    refine ⟨p, vs, rfl, .inl h1, flat_v (rx.flat fx) fx, flat_vs h2 fy, ?_⟩
    rw [in_vs (rx.flat fx) fx h2 fy]
    exact hR _ _ w hq (Ev.rfl k) (.bl _)
  · obtain ⟨fx, fy, hq⟩ := hm
    obtain ⟨p, vs, rfl, h1, h2⟩ := ry.tup k
    refine ⟨p, vs, rfl, .inr h1, flat_v (rx.flat fx) fx, flat_vs h2 fy, ?_⟩
    rw [in_vs (rx.flat fx) fx h2 fy]
    exact hR _ _ w hq (Ev.rfl k) (.bl _)
  · exact hm.elim
/-! == and in of deep data -/
mutual
def X.py : X → Option PyData
  | .non => some .none
  | .bl b => some (.bool b)
  | .int i => some (.int i)
  | .str z => some (.str z)
  | .lst xs => (pyL xs).map .list
  | .tup xs => (pyL xs).map .tuple
  | .dk _ => none
  | .obj _ _ => none
  | .pen => none
  | .thing _ => none
def pyL : List X → Option (List PyData)
  | [] => some []
  | x :: xs => match x.py, pyL xs with
    | some d, some ds => some (d :: ds)
    | _, _ => none
end
mutual
theorem Rv.dp {S : Addr → Prop} {F : Hp} : ∀ {v : V} {x : X} {d : PyData}, Rv K S F v x → x.py = some d → Dp K F v d
  | _, _, _, .non, e => by unfold X.py at e; cases e; exact .non
  | _, _, _, .bl b, e => by unfold X.py at e; cases e; exact .bl b
  | _, _, _, .int i, e => by unfold X.py at e; cases e; exact .int i
  | _, _, _, .str z, e => by unfold X.py at e; cases e; exact .str z
  | _, _, _, .lst h t, e => by
    unfold X.py at e
    obtain ⟨ds, h1, rfl⟩ := Option.map_eq_some_iff.mp e
    exact .lst h (RvL.dp t h1)
  | _, _, _, .tup h t, e => by
    unfold X.py at e
    obtain ⟨ds, h1, rfl⟩ := Option.map_eq_some_iff.mp e
    exact .tup h (RvL.dp t h1)
  | _, _, _, .dk h t, e => by unfold X.py at e; cases e
  | _, _, _, .obj h t, e => by unfold X.py at e; cases e
  | _, _, _, .pen h, e => by unfold X.py at e; cases e
  | _, _, _, .thing h, e => by unfold X.py at e; cases e
theorem RvL.dp {S : Addr → Prop} {F : Hp} : ∀ {v : List V} {x : List X} {d : List PyData}, RvL K S F v x → pyL x = some d → DpAll K F v d
  | _, _, _, .nil, e => by unfold pyL at e; cases e; exact .nil
  | _, _, _, .cons a t, e => by
    unfold pyL at e
    split at e
    · rename_i d ds h1 h2
      cases e
      exact .cons (Rv.dp a h1) (RvL.dp t h2)
    · cases e
end
theorem Rw.dp {w : Wd} {σ : L2.St} {env : List Y} {T : Tk} {v : V} {x : X} {d : PyData} (k : w.Ok) (s : St K σ env T w) (h : Rw K w T v x) (e : x.py = some d) : Dp K w.H v d := by
  rcases h with h | ⟨i, p, vs, ys, a, rfl, rfl, r⟩
  · exact Dp.mono' (Rv.dp h e) k.1
  · unfold X.py at e
    obtain ⟨ds, h1, rfl⟩ := Option.map_eq_some_iff.mp e
    exact .lst (SqL.of (s.h i p (.lst vs) a).1) ((RvL.dp r h1).mono k.1)
def mEqD : X → X → (X → Prop) → Prop := fun x y q => match x.py, y.py with
  | some d, some e => SeqAt.shaped d = true ∧ SeqAt.shaped e = true ∧ q (.bl (PyData.eqv d e))
  | _, _ => False
def mNeD : X → X → (X → Prop) → Prop := fun x y q => match x.py, y.py with
  | some d, some e => SeqAt.shaped d = true ∧ SeqAt.shaped e = true ∧ q (.bl (!PyData.eqv d e))
  | _, _ => False
theorem opm_eqD : OpM K (rEqD K) mEqD := fun σ env T w v u x y q R k s rx ry hm hR => by
  unfold mEqD at hm
  split at hm
  · rename_i d e h1 h2
    obtain ⟨s1, s2, hq⟩ := hm
    exact ⟨d, e, rx.dp k s h1, ry.dp k s h2, s1, s2, hR _ _ w hq (Ev.rfl k) (.bl _)⟩
  · exact hm.elim
theorem opm_neD : OpM K (rNeD K) mNeD := fun σ env T w v u x y q R k s rx ry hm hR => by
  unfold mNeD at hm
  split at hm
  · rename_i d e h1 h2
    obtain ⟨s1, s2, hq⟩ := hm
    exact ⟨d, e, rx.dp k s h1, ry.dp k s h2, s1, s2, hR _ _ w hq (Ev.rfl k) (.bl _)⟩
  · exact hm.elim
def mInD (neg : Bool) : X → X → (X → Prop) → Prop := fun x y q => match x.py, y.py with
  | some d, some (.list ds) => SeqAt.shaped d = true ∧ SeqAt.shaped (.list ds) = true ∧ q (.bl (if neg then !ds.any (fun z => PyData.eqv z d) else ds.any (fun z => PyData.eqv z d)))
  | _, _ => False
theorem opm_inD : OpM K (rInD K) (mInD false) := fun σ env T w v u x y q R k s rx ry hm hR => by
  unfold mInD at hm
  split at hm
  · rename_i d e h1 h2
    obtain ⟨s1, s2, hq⟩ := hm
    exact ⟨d, e, rx.dp k s h1, ry.dp k s h2, s1, s2, hR _ _ w hq (Ev.rfl k) (.bl _)⟩
  · exact hm.elim
theorem opm_notInD : OpM K (rNotInD K) (mInD true) := fun σ env T w v u x y q R k s rx ry hm hR => by
  unfold mInD at hm
  split at hm
  · rename_i d e h1 h2
    obtain ⟨s1, s2, hq⟩ := hm
    exact ⟨d, e, rx.dp k s h1, ry.dp k s h2, s1, s2, hR _ _ w hq (Ev.rfl k) (.bl _)⟩
  · exact hm.elim
/-! tests -/
def mB (m : ME) : MT := fun env q => m env fun x => match x with
  | .bl b => q b
  | _ => False
theorem sndT_tB (h : SndW K t m) : SndT K (tB t) (mB m) := fun σ env T w q R k s hm hr => h σ env T w _ _ k s hm fun x v w' hq e r => by
  cases x with
  | bl b => exact ⟨b, r.bl, hr b w' hq e⟩
  | non => exact False.elim hq
  | int _ => exact False.elim hq
  | str _ => exact False.elim hq
  | lst _ => exact False.elim hq
  | tup _ => exact False.elim hq
  | _ => exact False.elim hq
theorem sndT_test (h : SndW K t m) : SndT K (tTest t) (mB m) := sndT_tB h
section
variable {u u' : TT} {n n' : MT}
def mAnd (n n' : MT) : MT := fun env q => n env fun b => if b = true then n' env q else q false
def mOr (n n' : MT) : MT := fun env q => n env fun b => if b = true then q true else n' env q
def mNot (n : MT) : MT := fun env q => n env fun b => q (!b)
theorem sndT_and (h : SndT K u n) (g : SndT K u' n') : SndT K (tAnd u u') (mAnd n n') := fun σ env T w q R k s hm hr => h σ env T w _ _ k s hm fun b w' hq e => by
  cases b with
  | true => exact g σ env T w' _ _ e.ok (s.ev e) hq fun b2 w2 h2 e2 => hr b2 w2 h2 (e.trans e2)
  | false => exact hr false w' hq e
theorem sndT_or (h : SndT K u n) (g : SndT K u' n') : SndT K (tOr u u') (mOr n n') := fun σ env T w q R k s hm hr => h σ env T w _ _ k s hm fun b w' hq e => by
  cases b with
  | true => exact hr true w' hq e
  | false => exact g σ env T w' _ _ e.ok (s.ev e) hq fun b2 w2 h2 e2 => hr b2 w2 h2 (e.trans e2)
theorem sndT_not (h : SndT K u n) : SndT K (tNot u) (mNot n) := fun σ env T w q R k s hm hr => h σ env T w _ _ k s hm fun b w' hq e => hr (!b) w' hq e
def mIf (n : MT) (ma mb : ME) : ME := fun env q => n env fun b => if b = true then ma env q else mb env q
theorem snd_if (h : SndT K u n) (ha : Snd K ta ma) (hb : Snd K tb mb) : Snd K (tIf u ta tb) (mIf n ma mb) := fun σ env T w q R k s hm hr => h σ env T w _ _ k s hm fun b w' hq e => by
  cases b with
  | true => exact ha σ env T w' _ _ e.ok (s.ev e) hq fun x v w2 h2 e2 => hr x v w2 h2 (e.trans e2)
  | false => exact hb σ env T w' _ _ e.ok (s.ev e) hq fun x v w2 h2 e2 => hr x v w2 h2 (e.trans e2)
end
def mAndV (ma mb : ME) : ME := fun env q => ma env fun x => match x with
  | .bl b => if b = true then mb env q else q (.bl false)
  | _ => False
def mOrV (ma mb : ME) : ME := fun env q => ma env fun x => match x with
  | .bl b => if b = true then q (.bl true) else mb env q
  | _ => False
def mNotV (ma : ME) : ME := fun env q => ma env fun x => match x with
  | .bl b => q (.bl (!b))
  | _ => False
theorem bl_of {f : Bool → Prop} {x : X} (h : match x with
  | .bl b => f b
  | _ => False) : ∃ b, x = .bl b ∧ f b := by
  cases x with
  | bl b => exact ⟨b, rfl, h⟩
  | _ => exact False.elim h
theorem snd_andV (ha : SndW K ta ma) (hb : Snd K tb mb) : Snd K (tAndV ta tb) (mAndV ma mb) := fun σ env T w q R k s hm hr => ha σ env T w _ _ k s hm fun x v w' hq e r => by
  obtain ⟨b, rfl, hq⟩ := bl_of hq
  refine ⟨b, r.bl, ?_⟩
  cases b with
  | true => exact hb σ env T w' _ _ e.ok (s.ev e) hq fun x v w2 h2 e2 => hr x v w2 h2 (e.trans e2)
  | false => exact hr _ _ w' hq e (.bl _)
theorem snd_orV (ha : SndW K ta ma) (hb : Snd K tb mb) : Snd K (tOrV ta tb) (mOrV ma mb) := fun σ env T w q R k s hm hr => ha σ env T w _ _ k s hm fun x v w' hq e r => by
  obtain ⟨b, rfl, hq⟩ := bl_of hq
  refine ⟨b, r.bl, ?_⟩
  cases b with
  | true => exact hr _ _ w' hq e (.bl _)
  | false => exact hb σ env T w' _ _ e.ok (s.ev e) hq fun x v w2 h2 e2 => hr x v w2 h2 (e.trans e2)
theorem snd_notV (ha : SndW K ta ma) : Snd K (tNotV ta) (mNotV ma) := fun σ env T w q R k s hm hr => ha σ env T w _ _ k s hm fun x v w' hq e r => by
  obtain ⟨b, rfl, hq⟩ := bl_of hq
  exact ⟨b, r.bl, hr _ _ w' hq e (.bl _)⟩
end
end MI
set_option maxRecDepth 100000
set_option maxHeartbeats 4000000
namespace MI
open PySem PySem.Spec PyProof.Rows L2 VX
section
variable {K : PySem.W.Frag} {t ta tb tc te : TE} {m ma mb mc me : ME} {mn : MEs} {i : Nat}
theorem Ev.none {w w' : Wd} (k : w.Ok) (e : Ev w w') {p : Addr} (h : w'.H p = none) : w.H p = none := by
  cases z : w.H p with
  | none => rfl
  | some o =>
    by_cases s : w.S p
    · obtain ⟨_, a, b, c, q⟩ := e.ok.2 p (e.s p s)
      rw [h] at q
      cases q
    · have := e.h p o z s
      rw [h] at this
      cases this
/-! arguments, displays -/
def mNil : MEs := fun _ q => q []
def mCons (ma : ME) (mr : MEs) : MEs := fun env q => ma env fun x => mr env fun xs => q (x :: xs)
theorem sndA_nil : SndA K tNil mNil := fun σ env T w q R k s hm hr => hr [] [] w hm (Ev.rfl k) .nil
theorem sndA_cons {tr : TA} {mr : MEs} (h : Snd K ta ma) (g : SndA K tr mr) : SndA K (tCons ta tr) (mCons ma mr) := fun σ env T w q R k s hm hr =>
  h σ env T w _ _ k s hm fun x v w1 h1 e1 r1 => g σ env T w1 _ _ e1.ok (s.ev e1) h1 fun xs vs w2 h2 e2 r2 => hr _ _ w2 h2 (e1.trans e2) (.cons (e2.rd r1) r2)
theorem sndAW_nil : SndAW K tNil mNil := fun σ env T w q R k s hm hr => hr [] [] w hm (Ev.rfl k) .nil
theorem sndAW_cons {tr : TA} {mr : MEs} (h : SndW K ta ma) (g : SndAW K tr mr) : SndAW K (tCons ta tr) (mCons ma mr) := fun σ env T w q R k s hm hr =>
  h σ env T w _ _ k s hm fun x v w1 h1 e1 r1 => g σ env T w1 _ _ e1.ok (s.ev e1) h1 fun xs vs w2 h2 e2 r2 => hr _ _ w2 h2 (e1.trans e2) (.cons (r1.ev e2) r2)
def mTup (ma : MEs) : ME := fun env q => ma env fun xs => xs.length ≤ 1000 ∧ q (.tup xs)
theorem snd_tup {ta : TA} {ma : MEs} (h : SndA K ta ma) : Snd K (tTup ta) (mTup ma) := fun σ env T w q R k s hm hr => h σ env T w _ _ k s hm fun xs vs w1 h1 e1 r1 => by
  refine ⟨len_le (by rw [r1.len]; exact h1.1), fun p np => ?_⟩
  have e2 := Ev.new (o := HO.tup vs) e1.ok np
  exact hr (.tup xs) _ (w1.new p (.tup vs)) h1.2 (e1.trans e2) (.tup (SqT.of (show upd w1.F p (.tup vs) p = some (.tup vs) from upd_same)) (e2.rdl r1))
def mLst (ma : MEs) : MEs := fun env q => ma env fun xs => xs.length ≤ 1000 ∧ q xs
theorem newN {w w1 : Wd} {p : Addr} {vs : List V} {xs : List X} {q : List X → Prop} {R : VK} (k : w.Ok) (e1 : Ev w w1) (np : w1.H p = none) (r : RdL K w1 vs xs) (hq : q xs)
    (hr : ∀ xs p vs w', q xs → Ev w w' → w.H p = none → w'.F p = none → ¬ w'.S p → w'.H p = some (.lst vs) → RdL K w' vs xs → R (.ref p) w'.H) : R (.ref p) (upd w1.H p (.lst vs)) := by
  have e2 := Ev.cell (o := HO.lst vs) e1.ok np
  have fr := e1.ok.free np
  exact hr xs p vs (w1.cell p (.lst vs)) hq (e1.trans e2) (e1.none k np) fr.1 fr.2 upd_same (e2.rdl r)
theorem sndN_lst {ta : TA} {ma : MEs} (h : SndA K ta ma) : SndN K (tLst ta) (mLst ma) := fun σ env T w q R k s hm hr => h σ env T w _ _ k s hm fun xs vs w1 h1 e1 r1 =>
  ⟨len_le (by rw [r1.len]; exact h1.1), fun p np => newN k e1 np r1 h1.2 hr⟩
/-- a new list that stays -/
def mFz (mn : MEs) : ME := fun env q => mn env fun xs => q (.lst xs)
theorem snd_fz (h : SndN K t mn) : Snd K t (mFz mn) := snd_ofN h
/-! built-in calls -/
def CbM (K : PySem.W.Frag) (r : List V → Hp → VK → Prop) (mr : List X → (X → Prop) → Prop) : Prop := ∀ σ env T w vs xs (q : X → Prop) (R : VK), w.Ok → St K σ env T w → RwL K w T vs xs → mr xs q → (∀ x v w', q x → Ev w w' → Rd K w' v x → R v w'.H) → r vs w.H R
def CbN (K : PySem.W.Frag) (r : List V → Hp → VK → Prop) (mr : List X → (List X → Prop) → Prop) : Prop := ∀ σ env T w vs xs (q : List X → Prop) (R : VK), w.Ok → St K σ env T w → RwL K w T vs xs → mr xs q → (∀ xs p vs w', q xs → Ev w w' → w.H p = none → w'.F p = none → ¬ w'.S p → w'.H p = some (.lst vs) → RdL K w' vs xs → R (.ref p) w'.H) → r vs w.H R
def mCB (mr : List X → (X → Prop) → Prop) (ma : MEs) : ME := fun env q => ma env fun xs => mr xs q
def mCBN (mr : List X → (List X → Prop) → Prop) (ma : MEs) : MEs := fun env q => ma env fun xs => mr xs q
theorem snd_cb {r : List V → Hp → VK → Prop} {mr : List X → (X → Prop) → Prop} {ta : TA} {ma : MEs} (h : CbM K r mr) (ha : SndAW K ta ma) : Snd K (tCB r ta) (mCB mr ma) := fun σ env T w q R k s hm hr =>
  ha σ env T w _ _ k s hm fun xs vs w1 h1 e1 r1 => h σ env T w1 vs xs _ _ e1.ok (s.ev e1) r1 h1 fun x v w2 h2 e2 r2 => hr x v w2 h2 (e1.trans e2) r2
theorem sndN_cb {r : List V → Hp → VK → Prop} {mr : List X → (List X → Prop) → Prop} {ta : TA} {ma : MEs} (h : CbN K r mr) (ha : SndAW K ta ma) : SndN K (tCB r ta) (mCBN mr ma) := fun σ env T w q R k s hm hr =>
  ha σ env T w _ _ k s hm fun xs vs w1 h1 e1 r1 => h σ env T w1 vs xs _ _ e1.ok (s.ev e1) r1 h1 fun xs p vs w2 h2 e2 n2 f2 s2 g2 r2 => hr xs p vs w2 h2 (e1.trans e2) (e1.none k n2) f2 s2 g2 r2
theorem RwL.one {w : Wd} {T : Tk} {vs : List V} {x : X} (h : RwL K w T vs [x]) : ∃ v, vs = [v] ∧ Rw K w T v x := by
  cases h with
  | cons a t => cases t; exact ⟨_, rfl, a⟩
theorem RwL.two {w : Wd} {T : Tk} {vs : List V} {x y : X} (h : RwL K w T vs [x, y]) : ∃ v u, vs = [v, u] ∧ Rw K w T v x ∧ Rw K w T u y := by
  cases h with
  | cons a t =>
    obtain ⟨u, rfl, b⟩ := t.one
    exact ⟨_, u, rfl, a, b⟩
def mLen : List X → (X → Prop) → Prop := fun xs q => match xs with
  | [.lst ys] => q (.int ys.length)
  | [.tup ys] => q (.int ys.length)
  | _ => False
theorem cb_len : CbM K (rLenS K) mLen := fun σ env T w vs xs q R k s r hm hr => by
  unfold mLen at hm
  split at hm
  · obtain ⟨v, rfl, rv⟩ := r.one
    obtain ⟨p, us, rfl, h1, h2⟩ := rv.lst k s
    exact ⟨p, us, rfl, .inl h1, hr _ _ w hm (Ev.rfl k) (h2.len ▸ .int _)⟩
  · obtain ⟨v, rfl, rv⟩ := r.one
    obtain ⟨p, us, rfl, h1, h2⟩ := rv.tup k
    exact ⟨p, us, rfl, .inr h1, hr _ _ w hm (Ev.rfl k) (h2.len ▸ .int _)⟩
  · exact hm.elim
def mListOf : List X → (List X → Prop) → Prop := fun xs q => match xs with
  | [.lst ys] => q ys
  | [.tup ys] => q ys
  | _ => False
theorem cb_listOf : CbN K (rListOf K) mListOf := fun σ env T w vs xs q R k s r hm hr => by
  unfold mListOf at hm
  split at hm
  · obtain ⟨v, rfl, rv⟩ := r.one
    obtain ⟨p, us, rfl, h1, h2⟩ := rv.lst k s
    exact ⟨p, us, rfl, .inl h1, fun l nl => newN k (Ev.rfl k) nl h2 hm hr⟩
  · obtain ⟨v, rfl, rv⟩ := r.one
    obtain ⟨p, us, rfl, h1, h2⟩ := rv.tup k
    exact ⟨p, us, rfl, .inr h1, fun l nl => newN k (Ev.rfl k) nl h2 hm hr⟩
  · exact hm.elim
def mTupOf : List X → (X → Prop) → Prop := fun xs q => match xs with
  | [.lst ys] => q (.tup ys)
  | [.tup ys] => q (.tup ys)
  | _ => False
theorem cb_tupOf : CbM K (fun xs H Q => ∃ p ys, xs = [.ref p] ∧ ((SqL K H p ys ∧ ∀ l, H l = none → Q (.ref l) (upd H l (.tup ys))) ∨ (SqT K H p ys ∧ Q (.ref p) H))) mTupOf := fun σ env T w vs xs q R k s r hm hr => by
  unfold mTupOf at hm
  split at hm
  · obtain ⟨v, rfl, rv⟩ := r.one
    obtain ⟨p, us, rfl, h1, h2⟩ := rv.lst k s
    refine ⟨p, us, rfl, .inl ⟨h1, fun l nl => ?_⟩⟩
    have e2 := Ev.new (o := HO.tup us) k nl
    exact hr _ _ (w.new l (.tup us)) hm e2 (.tup (SqT.of (show upd w.F l (.tup us) l = some (.tup us) from upd_same)) (e2.rdl h2))
  · obtain ⟨v, rfl, rv⟩ := r.one
    rcases rv with rv | ⟨_, _, _, _, _, _, z, _⟩
    · cases rv with
      | tup h1 h2 => exact ⟨_, _, rfl, .inr ⟨same_sqT k.1 h1, hr _ _ w hm (Ev.rfl k) (.tup h1 h2)⟩⟩
    · cases z
  · exact hm.elim
def mIntOf : List X → (X → Prop) → Prop := fun xs q => match xs with
  | [.int i] => q (.int i)
  | [.bl b] => q (.int (if b then 1 else 0))
  | _ => False
theorem cb_int : CbM K rInt mIntOf := fun σ env T w vs xs q R k s r hm hr => by
  unfold mIntOf at hm
  split at hm
  · obtain ⟨v, rfl, rv⟩ := r.one
    cases rv.int
    exact .inl ⟨_, rfl, hr _ _ w hm (Ev.rfl k) (.int _)⟩
  · obtain ⟨v, rfl, rv⟩ := r.one
    cases rv.bl
    exact .inr ⟨_, rfl, hr _ _ w hm (Ev.rfl k) (.int _)⟩
  · exact hm.elim
def mMax2 : List X → (X → Prop) → Prop := fun xs q => match xs with
  | [.int i, .int j] => q (.int (if j > i then j else i))
  | _ => False
def mMin2 : List X → (X → Prop) → Prop := fun xs q => match xs with
  | [.int i, .int j] => q (.int (if j < i then j else i))
  | _ => False
def mAbs : List X → (X → Prop) → Prop := fun xs q => match xs with
  | [.int i] => q (.int (if i < 0 then -i else i))
  | _ => False
theorem cb_max2 : CbM K rMax2 mMax2 := fun σ env T w vs xs q R k s r hm hr => by
  unfold mMax2 at hm
  split at hm
  · obtain ⟨v, u, rfl, rv, ru⟩ := r.two
    cases rv.int
    cases ru.int
    exact ⟨_, _, rfl, hr _ _ w hm (Ev.rfl k) (.int _)⟩
  · exact hm.elim
theorem cb_min2 : CbM K rMin2 mMin2 := fun σ env T w vs xs q R k s r hm hr => by
  unfold mMin2 at hm
  split at hm
  · obtain ⟨v, u, rfl, rv, ru⟩ := r.two
    cases rv.int
    cases ru.int
    exact ⟨_, _, rfl, hr _ _ w hm (Ev.rfl k) (.int _)⟩
  · exact hm.elim
theorem cb_abs : CbM K (fun xs H Q => ∃ i, xs = [.int i] ∧ Q (.int (if i < 0 then -i else i)) H) mAbs := fun σ env T w vs xs q R k s r hm hr => by
  unfold mAbs at hm
  split at hm
  · obtain ⟨v, rfl, rv⟩ := r.one
    cases rv.int
    exact ⟨_, rfl, hr _ _ w hm (Ev.rfl k) (.int _)⟩
  · exact hm.elim
theorem bls_v {S : Addr → Prop} {F : Hp} : ∀ {vs : List V} {bs : List Bool}, RvL K S F vs (bs.map X.bl) → vs = bs.map V.bl
  | [], [], _ => rfl
  | _, _ :: _, .cons a t => by cases a; rw [bls_v t]; rfl
theorem ints_v {S : Addr → Prop} {F : Hp} : ∀ {vs : List V} {bs : List Int}, RvL K S F vs (bs.map X.int) → vs = bs.map V.int
  | [], [], _ => rfl
  | _, _ :: _, .cons a t => by cases a; rw [ints_v t]; rfl
def mAll : List X → (X → Prop) → Prop := fun xs q => match xs with
  | [.lst ys] => ∃ bs : List Bool, ys = bs.map .bl ∧ q (.bl (bs.all id))
  | _ => False
def mAny : List X → (X → Prop) → Prop := fun xs q => match xs with
  | [.lst ys] => ∃ bs : List Bool, ys = bs.map .bl ∧ q (.bl (bs.any id))
  | _ => False
theorem cb_all : CbM K (rAll K) mAll := fun σ env T w vs xs q R k s r hm hr => by
  unfold mAll at hm
  split at hm
  · obtain ⟨bs, rfl, hq⟩ := hm
    obtain ⟨v, rfl, rv⟩ := r.one
    obtain ⟨p, us, rfl, h1, h2⟩ := rv.lst k s
    cases bls_v h2
    exact ⟨p, bs, rfl, h1, hr _ _ w hq (Ev.rfl k) (.bl _)⟩
  · exact hm.elim
theorem cb_any : CbM K (rAny K) mAny := fun σ env T w vs xs q R k s r hm hr => by
  unfold mAny at hm
  split at hm
  · obtain ⟨bs, rfl, hq⟩ := hm
    obtain ⟨v, rfl, rv⟩ := r.one
    obtain ⟨p, us, rfl, h1, h2⟩ := rv.lst k s
    cases bls_v h2
    exact ⟨p, bs, rfl, h1, hr _ _ w hq (Ev.rfl k) (.bl _)⟩
  · exact hm.elim
/-! slices, lists joined, turned about -/
def MO := List Y → (Option Int → Prop) → Prop
def SndO (K : PySem.W.Frag) (t : TO) (m : MO) : Prop := ∀ σ env T w (q : Option Int → Prop) (R : Option Int → Hp → Prop), w.Ok → St K σ env T w → m env q → (∀ o w', q o → Ev w w' → R o w'.H) → t σ w.H R
def mNoPart : MO := fun _ q => q none
def mPart (m : ME) : MO := fun env q => m env fun x => match x with
  | .int i => q (some i)
  | _ => False
theorem sndO_no : SndO K tNoPart mNoPart := fun σ env T w q R k s hm hr => hr _ w hm (Ev.rfl k)
theorem sndO_part (h : SndW K t m) : SndO K (tPart t) (mPart m) := fun σ env T w q R k s hm hr => h σ env T w _ _ k s hm fun x v w' hq e r => by
  cases x with
  | int i => exact ⟨i, r.int, hr _ w' hq e⟩
  | _ => exact False.elim hq
def cutX (xs : List X) (lo hi : Option Int) : List X := (xs.drop (HT.sIx xs.length 0 lo)).take (HT.sIx xs.length xs.length hi - HT.sIx xs.length 0 lo)
theorem cut_v {S : Addr → Prop} {F : Hp} {vs : List V} {xs : List X} {lo hi : Option Int} (h : RvL K S F vs xs) : RvL K S F (cutV vs lo hi) (cutX xs lo hi) := by
  unfold cutV cutX
  rw [h.len]
  exact (h.drop _).take _
def mSlL (m : ME) (ml mh : MO) : MEs := fun env q => m env fun x => ml env fun lo => mh env fun hi => match x with
  | .lst xs => q (cutX xs lo hi)
  | _ => False
theorem sndN_sl {tl th : TO} {ml mh : MO} (h : SndW K t m) (hl : SndO K tl ml) (hh : SndO K th mh) : SndN K (tSl (rSlL K) t tl th) (mSlL m ml mh) := fun σ env T w q R k s hm hr =>
  h σ env T w _ _ k s hm fun x v w1 h1 e1 r1 => hl σ env T w1 _ _ e1.ok (s.ev e1) h1 fun lo w2 h2 e2 => hh σ env T w2 _ _ e2.ok ((s.ev e1).ev e2) h2 fun hi w3 h3 e3 => by
    have s3 := ((s.ev e1).ev e2).ev e3
    have e13 := e1.trans (e2.trans e3)
    cases x with
    | lst xs =>
      obtain ⟨p, vs, rfl, a, b⟩ := ((r1.ev e2).ev e3).lst e3.ok s3
      exact ⟨p, vs, rfl, a, fun l nl => newN k e13 nl (cut_v b) h3 hr⟩
    | _ => exact False.elim h3
def mRev (m : ME) : MEs := fun env q => m env fun x => match x with
  | .lst xs => q xs.reverse
  | _ => False
theorem sndN_rev (h : SndW K t m) : SndN K (tRevL K t) (mRev m) := fun σ env T w q R k s hm hr => h σ env T w _ _ k s hm fun x v w1 h1 e1 r1 => by
  cases x with
  | lst xs =>
    obtain ⟨p, vs, rfl, a, b⟩ := r1.lst e1.ok (s.ev e1)
    exact ⟨p, vs, rfl, a, fun l nl => newN k e1 nl b.rev h1 hr⟩
  | _ => exact False.elim h1
def mCat (ma mb : ME) : MEs := fun env q => ma env fun x => mb env fun y => match x, y with
  | .lst xs, .lst ys => xs.length + ys.length ≤ 1000 ∧ q (xs ++ ys)
  | _, _ => False
theorem sndN_cat (ha : SndW K ta ma) (hb : SndW K tb mb) : SndN K (tOp (rCatL K) ta tb) (mCat ma mb) := fun σ env T w q R k s hm hr =>
  ha σ env T w _ _ k s hm fun x v w1 h1 e1 r1 => hb σ env T w1 _ _ e1.ok (s.ev e1) h1 fun y u w2 h2 e2 r2 => by
    have s2 := (s.ev e1).ev e2
    split at h2
    · obtain ⟨p, vs, rfl, a1, b1⟩ := (r1.ev e2).lst e2.ok s2
      obtain ⟨p', us, rfl, a2, b2⟩ := r2.lst e2.ok s2
      exact ⟨p, p', vs, us, rfl, rfl, a1, a2, len_le (by rw [b1.len, b2.len]; exact h2.1), fun l nl => newN k (e1.trans e2) nl (b1.app b2) h2.2 hr⟩
    · exact h2.elim
def mCatT : X → X → (X → Prop) → Prop := fun x y q => match x, y with
  | .tup xs, .tup ys => xs.length + ys.length ≤ 1000 ∧ q (.tup (xs ++ ys))
  | _, _ => False
end
end MI
set_option maxRecDepth 100000
set_option maxHeartbeats 4000000
namespace MI
open PySem PySem.Spec PyProof.Rows L2 VX
section
variable {K : PySem.W.Frag} {t ta tb tc te : TE} {m ma mb mc me : ME} {mn : MEs} {i : Nat}
theorem Rw.lstE {w : Wd} {σ : L2.St} {env : List Y} {T : Tk} {v : V} {xs : List X} (k : w.Ok) (s : St K σ env T w) (h : Rw K w T v (.lst xs)) : ∃ p vs, v = .ref p ∧ RdL K w vs xs ∧ ∀ w', Ev w w' → SqL K w'.H p vs := by
  rcases h with h | ⟨i, p, vs, ys, a, rfl, c, d⟩
  · cases h with
    | lst h1 h2 => exact ⟨_, _, rfl, h2, fun w' e => e.ok.1.seq (e.f.seq h1)⟩
  · cases c
    exact ⟨p, vs, rfl, d, fun w' e => SqL.of (e.h _ _ (s.h i p (.lst vs) a).1 (s.h i p (.lst vs) a).2.2)⟩
theorem opm_catT : OpM K (rCatA K) mCatT := fun σ env T w v u x y q R k s rx ry hm hR => by
  unfold mCatT at hm
  split at hm
  · rename_i xs ys
    rcases rx with rx | ⟨_, _, _, _, _, _, z, _⟩
    rcases ry with ry | ⟨_, _, _, _, _, _, z, _⟩
    cases rx with
    | @tup ad us _ a1 b1 =>
      cases ry with
      | @tup ad' vs' _ a2 b2 =>
        refine ⟨_, _, _, _, rfl, rfl, same_sqT k.1 a1, same_sqT k.1 a2, len_le (by rw [b1.len, b2.len]; exact hm.1), fun z => ?_, fun z1 z => ?_, fun z1 z2 p np => ?_⟩
        · subst z
          cases b1
          exact hR _ _ w hm.2 (Ev.rfl k) (.tup a2 b2)
        · subst z
          cases b2
          refine hR _ _ w hm.2 (Ev.rfl k) ?_
          rw [List.append_nil]
          exact .tup a1 b1
        · have e2 := Ev.new (o := HO.tup (us ++ vs')) k np
          exact hR _ _ (w.new p (.tup (us ++ vs'))) hm.2 e2 (.tup (SqT.of (show upd w.F p (.tup (us ++ vs')) p = some (.tup (us ++ vs')) from upd_same)) (e2.rdl (b1.app b2)))
    · cases z
    · cases z
  · exact hm.elim
/-! targets -/
abbrev MG := X → List Y → (List Y → Prop) → Prop
def wipeY (env : List Y) : List Nat → List Y
  | [] => env
  | v :: vs => (wipeY env vs).set v .u
/-- binds slots of vs alone -/
def SndG (K : PySem.W.Frag) (vs : List Nat) (g : TG) (mg : MG) : Prop := ∀ σ env T w v x (q : List Y → Prop) (R : L2.St → Hp → Prop), w.Ok → St K σ env T w → Rd K w v x → mg x env q → (∀ env' σ', q env' → St K σ' env' T w → wipe σ' vs = wipe σ vs → R σ' w.H) → g v σ w.H R
theorem wipe_set {σ : L2.St} {i : Nat} {v : Option V} : ∀ {vs : List Nat}, i ∈ vs → wipe (σ.set i v) vs = wipe σ vs
  | [], h => by cases h
  | u :: vs, h => by
    show (wipe (σ.set i v) vs).set u none = (wipe σ vs).set u none
    by_cases e : i ∈ vs
    · rw [wipe_set e]
    · have e2 : i = u := by
        rcases List.mem_cons.mp h with h | h
        · exact h
        · exact absurd h e
      subst e2
      have : ∀ us : List Nat, i ∉ us → wipe (σ.set i v) us = (wipe σ us).set i v := fun us => by
        induction us with
        | nil => intro _; rfl
        | cons a us ih =>
          intro hn
          rw [List.mem_cons, not_or] at hn
          show (wipe (σ.set i v) us).set a none = ((wipe σ us).set a none).set i v
          rw [ih hn.2, List.set_comm _ _ hn.1]
      rw [this vs e, List.set_set]
theorem wipe_wipe {σ : L2.St} {vs : List Nat} : wipe (wipe σ vs) vs = wipe σ vs := by
  have h1 : ∀ (us : List Nat) (σ : L2.St), (∀ u ∈ us, u ∈ vs) → wipe (wipe σ us) vs = wipe σ vs := fun us => by
    induction us with
    | nil => intro σ _; rfl
    | cons a us ih =>
      intro σ h
      show wipe ((wipe σ us).set a none) vs = _
      rw [wipe_set (h a List.mem_cons_self)]
      exact ih σ fun u hu => h u (List.mem_cons_of_mem _ hu)
  exact h1 vs σ fun u h => h
theorem st_u {σ : L2.St} {env : List Y} {T : Tk} {w : Wd} (s : St K σ env T w) (i : Nat) (v : Option V) : St K (σ.set i v) (env.set i .u) T w := by
  refine ⟨by rw [List.length_set, List.length_set]; exact s.l, fun j y hy => ?_, s.h, s.m, s.d⟩
  rw [List.getElem?_set] at hy ⊢
  by_cases e : i = j
  · rw [if_pos e] at hy ⊢
    by_cases l : i < env.length
    · rw [if_pos l] at hy
      cases hy
      trivial
    · rw [if_neg l] at hy
      cases hy
  · rw [if_neg e] at hy ⊢
    exact s.r j y hy
theorem st_wipe {σ : L2.St} {env : List Y} {T : Tk} {w : Wd} (s : St K σ env T w) : ∀ vs : List Nat, St K (wipe σ vs) (wipeY env vs) T w
  | [] => s
  | v :: vs => st_u (st_wipe s vs) v none
def mGn (i : Nat) : MG := fun x env q => q (env.set i (.x x))
theorem sndG_name {vs : List Nat} (h : i ∈ vs) : SndG K vs (gName i) (mGn i) := fun σ env T w v x q R k s r hm hr => hr _ _ hm (s.setX i r) (wipe_set h)
abbrev MGs := List X → List Y → (List Y → Prop) → Prop
def SndGs (K : PySem.W.Frag) (vs : List Nat) (g : TGs) (mg : MGs) : Prop := ∀ σ env T w us xs (q : List Y → Prop) (R : L2.St → Hp → Prop), w.Ok → St K σ env T w → RdL K w us xs → mg xs env q → (∀ env' σ', q env' → St K σ' env' T w → wipe σ' vs = wipe σ vs → R σ' w.H) → g us σ w.H R
def mGnil : MGs := fun xs env q => match xs with
  | [] => q env
  | _ => False
def mGcons (g : MG) (gs : MGs) : MGs := fun xs env q => match xs with
  | x :: r => g x env fun env' => gs r env' q
  | [] => False
def mGtup (n : Nat) (gs : MGs) : MG := fun x env q => match x with
  | .tup xs => xs.length = n ∧ gs xs env q
  | _ => False
theorem sndGs_nil {vs : List Nat} : SndGs K vs gNil mGnil := fun σ env T w us xs q R k s r hm hr => by
  cases r with
  | nil => exact ⟨rfl, hr _ _ hm s rfl⟩
  | cons _ _ => exact False.elim hm
theorem sndGs_cons {vs : List Nat} {g : TG} {gs : TGs} {mg : MG} {mgs : MGs} (h : SndG K vs g mg) (hs : SndGs K vs gs mgs) : SndGs K vs (gCons g gs) (mGcons mg mgs) := fun σ env T w us xs q R k s r hm hr => by
  cases r with
  | nil => exact False.elim hm
  | cons a r => exact ⟨_, _, rfl, h σ env T w _ _ _ _ k s a hm fun env' σ' hq s' e => hs σ' env' T w _ _ _ _ k s' r hq fun env2 σ2 hq2 s2 e2 => hr _ _ hq2 s2 (e2.trans e)⟩
theorem sndG_tup {vs : List Nat} {n : Nat} {gs : TGs} {mgs : MGs} (h : SndGs K vs gs mgs) : SndG K vs (gTup K n gs) (mGtup n mgs) := fun σ env T w v x q R k s r hm hr => by
  cases r with
  | tup a b => exact ⟨_, _, rfl, same_sqT k.1 a, b.len.trans hm.1, h σ env T w _ _ _ _ k s b hm.2 hr⟩
  | _ => exact False.elim hm
/-! what is walked -/
abbrev MI' := List Y → (List X → Prop) → Prop
/-- the items, in any world behind w that P admits -/
def ItM (K : PySem.W.Frag) (P : Wd → Prop) (J : It) (items : List X) : Prop := ∀ w', P w' → w'.Ok →
  (∀ i, i < items.length → J.go i w'.H) ∧ J.stop items.length w'.H ∧ ∀ i v H', i < items.length → J.yld i w'.H v H' → ∃ w'' x, w''.H = H' ∧ Ev w' w'' ∧ items[i]? = some x ∧ Rd K w'' v x
/-- strict: the walked thing stays -/
def SndI (K : PySem.W.Frag) (wi : TI) (mi : MI') : Prop := ∀ σ env T w (q : List X → Prop) (R : It → Hp → Prop), w.Ok → St K σ env T w → mi env q → (∀ items J w', q items → Ev w w' → ItM K (fun w2 => Same w'.F w2.F ∧ ∀ b, w'.S b → w2.S b) J items → R J w'.H) → wi σ w.H R
/-- for a comprehension: a slot's own list will do -/
def SndIW (K : PySem.W.Frag) (wi : TI) (mi : MI') : Prop := ∀ σ env T w (q : List X → Prop) (R : It → Hp → Prop), w.Ok → St K σ env T w → mi env q → (∀ items J w', q items → Ev w w' → ItM K (fun w2 => Ev w' w2) J items → R J w'.H) → wi σ w.H R
theorem sndIW_of {wi : TI} {mi : MI'} (h : SndI K wi mi) : SndIW K wi mi := fun σ env T w q R k s hm hr => h σ env T w q R k s hm fun items J w' hq e it => hr items J w' hq e fun w2 e2 k2 => it w2 ⟨e2.f, e2.s⟩ k2
def mItL (m : ME) : MI' := fun env q => m env fun x => match x with
  | .lst xs => q xs
  | _ => False
def mItT (m : ME) : MI' := fun env q => m env fun x => match x with
  | .tup xs => q xs
  | _ => False
theorem itM_at {P : Wd → Prop} {J : It} {vs : List V} {xs : List X} {G : Hp → Prop} (wk : Walk J vs.length G (YAt vs)) (hG : ∀ w', P w' → w'.Ok → G w'.H ∧ RdL K w' vs xs) : ItM K P J xs := fun w' p k => by
  obtain ⟨g, r⟩ := hG w' p k
  have l := r.len
  refine ⟨fun i hi => wk.goes i w'.H (l ▸ hi) g, l ▸ wk.stops w'.H g, fun i v H' hi y => ?_⟩
  obtain ⟨rfl, hv⟩ := wk.yields i w'.H v H' (l ▸ hi) g y
  obtain ⟨u, hu, ru⟩ := r.get (i := i) (x := xs[i]) (List.getElem?_eq_getElem hi)
  rw [hv] at hu
  cases hu
  exact ⟨w', xs[i], rfl, Ev.rfl k, List.getElem?_eq_getElem hi, ru⟩
theorem sndI_list (h : Snd K t m) : SndI K (iList K t) (mItL m) := fun σ env T w q R k s hm hr => h σ env T w _ _ k s hm fun x v w1 h1 e1 r1 => by
  cases r1 with
  | lst a b => exact ⟨_, rfl, ⟨_, e1.ok.1.seq a⟩, hr _ _ w1 h1 e1 (itM_at walk_list fun w' p k' => ⟨k'.1.seq (p.1.seq a), b.mono p.2 p.1⟩)⟩
  | _ => exact False.elim h1
theorem sndIW_list (h : SndW K t m) : SndIW K (iList K t) (mItL m) := fun σ env T w q R k s hm hr => h σ env T w _ _ k s hm fun x v w1 h1 e1 r1 => by
  cases x with
  | lst xs =>
    obtain ⟨p, vs, rfl, b, a⟩ := r1.lstE e1.ok (s.ev e1)
    exact ⟨p, rfl, ⟨_, a w1 (Ev.rfl e1.ok)⟩, hr _ _ w1 h1 e1 (itM_at (walk_list (K := K) (a := p) (xs := vs)) fun w' e2 k' => ⟨a w' e2, e2.rdl b⟩)⟩
  | _ => exact False.elim h1
end
end MI
set_option maxRecDepth 100000
set_option maxHeartbeats 4000000
namespace MI
open PySem PySem.Spec PyProof.Rows L2 VX
section
variable {K : PySem.W.Frag} {t ta tb tc te : TE} {m ma mb mc me : ME} {mn : MEs} {i : Nat}
theorem sndIW_tup (h : SndW K t m) : SndIW K (iTup K t) (mItT m) := fun σ env T w q R k s hm hr => h σ env T w _ _ k s hm fun x v w1 h1 e1 r1 => by
  rcases r1 with r1 | ⟨_, _, _, _, _, _, z, _⟩
  · cases r1 with
    | @tup p vs xs a b => exact ⟨_, rfl, ⟨_, same_sqT e1.ok.1 a⟩, hr _ _ w1 h1 e1 (itM_at (walk_tup (K := K) (a := p) (xs := vs)) fun w' e2 k' => ⟨same_sqT k'.1 (same_sqT e2.f a), e2.rdl b⟩)⟩
    | _ => exact False.elim h1
  · subst z
    exact False.elim h1
theorem sndI_tup (h : Snd K t m) : SndI K (iTup K t) (mItT m) := fun σ env T w q R k s hm hr => h σ env T w _ _ k s hm fun x v w1 h1 e1 r1 => by
  cases r1 with
  | @tup p vs xs a b => exact ⟨_, rfl, ⟨_, same_sqT e1.ok.1 a⟩, hr _ _ w1 h1 e1 (itM_at (walk_tup (K := K) (a := p) (xs := vs)) fun w' e2 k' => ⟨same_sqT k'.1 (same_sqT e2.1 a), b.mono e2.2 e2.1⟩)⟩
  | _ => exact False.elim h1
def rgX (lo : Int) (n : Nat) : List X := (List.range n).map fun i => X.int (lo + (i : Nat))
theorem itM_rg {P : Wd → Prop} {lo : Int} {n : Nat} : ItM K P (Itr lo n) (rgX lo n) := fun w' p k => by
  have l : (rgX lo n).length = n := by unfold rgX; rw [List.length_map, List.length_range]
  refine ⟨fun i hi => l ▸ hi, Nat.le_of_eq l.symm, fun i v H' hi y => ?_⟩
  obtain ⟨rfl, rfl⟩ := y
  refine ⟨w', .int (lo + (i : Nat)), rfl, Ev.rfl k, ?_, .int _⟩
  unfold rgX
  rw [List.getElem?_map, List.getElem?_range (l ▸ hi)]
  rfl
def mRg1 (m : MEs) : MI' := fun env q => m env fun xs => match xs with
  | [.int j] => -(2 ^ 62) ≤ j ∧ j < 2 ^ 62 ∧ q (rgX 0 j.toNat)
  | _ => False
def mRg2 (m : MEs) : MI' := fun env q => m env fun xs => match xs with
  | [.int i, .int j] => (-(2 ^ 62) ≤ i ∧ i < 2 ^ 62 ∧ -(2 ^ 62) ≤ j ∧ j < 2 ^ 62) ∧ q (rgX i (j - i).toNat)
  | _ => False
theorem sndI_rg1 {ta : TA} {ma : MEs} (h : SndAW K ta ma) : SndI K (iRng1 ta) (mRg1 ma) := fun σ env T w q R k s hm hr => h σ env T w _ _ k s hm fun xs vs w1 h1 e1 r1 => by
  split at h1
  · obtain ⟨v, rfl, rv⟩ := r1.one
    cases rv.int
    exact ⟨_, rfl, h1.1, h1.2.1, hr _ _ w1 h1.2.2 e1 itM_rg⟩
  · exact h1.elim
theorem sndI_rg2 {ta : TA} {ma : MEs} (h : SndAW K ta ma) : SndI K (iRng2 ta) (mRg2 ma) := fun σ env T w q R k s hm hr => h σ env T w _ _ k s hm fun xs vs w1 h1 e1 r1 => by
  split at h1
  · obtain ⟨v, u, rfl, rv, ru⟩ := r1.two
    cases rv.int
    cases ru.int
    exact ⟨_, _, rfl, h1.1, hr _ _ w1 h1.2 e1 itM_rg⟩
  · exact h1.elim
/-- pairs that the walk makes -/
theorem itM_pair {P : Wd → Prop} {J : It} {xs : List X} {us vs : Nat → Option V} {f g : Nat → Option X} {G : Hp → Prop} {n : Nat} (wk : Walk J n G (YPair us vs)) (l : xs.length = n) (hx : ∀ i, i < n → ∃ a b, f i = some a ∧ g i = some b ∧ xs[i]? = some (.tup [a, b]))
    (hG : ∀ w', P w' → w'.Ok → G w'.H ∧ ∀ i v u a b, i < n → us i = some v → vs i = some u → f i = some a → g i = some b → Rd K w' v a ∧ Rd K w' u b) : ItM K P J xs := fun w' p k => by
  obtain ⟨gg, r⟩ := hG w' p k
  refine ⟨fun i hi => wk.goes i w'.H (l ▸ hi) gg, l ▸ wk.stops w'.H gg, fun i v H' hi y => ?_⟩
  obtain ⟨T, x, y', rfl, nT, rfl, h1, h2⟩ := wk.yields i w'.H v H' (l ▸ hi) gg y
  obtain ⟨a, b, fa, gb, e⟩ := hx i (l ▸ hi)
  obtain ⟨r1, r2⟩ := r i _ _ a b (l ▸ hi) h1 h2 fa gb
  have e2 := Ev.new (o := HO.tup [x, y']) k nT
  exact ⟨w'.new T (.tup [x, y']), _, rfl, e2, e, .tup (SqT.of (show upd w'.F T (.tup [x, y']) T = some (.tup [x, y']) from upd_same)) (.cons (e2.rd r1) (.cons (e2.rd r2) .nil))⟩
def enX (xs : List X) : List X := (List.range xs.length).map fun i => X.tup [.int (i : Nat), xs.getD i .non]
def mEnum (m : MEs) : MI' := fun env q => m env fun xs => match xs with
  | [.lst ys] => q (enX ys)
  | _ => False
theorem en_at (xs : List X) (i : Nat) (hi : i < xs.length) : (enX xs)[i]? = some (.tup [.int (i : Nat), xs[i]]) := by
  unfold enX
  rw [List.getElem?_map, List.getElem?_range hi, Option.map_some, List.getD_eq_getElem?_getD, List.getElem?_eq_getElem hi]
  rfl
theorem sndIW_enum {ta : TA} {ma : MEs} (h : SndAW K ta ma) : SndIW K (iEnum K ta) (mEnum ma) := fun σ env T w q R k s hm hr => h σ env T w _ _ k s hm fun xs vs w1 h1 e1 r1 => by
  split at h1
  · rename_i ys
    obtain ⟨v, rfl, rv⟩ := r1.one
    obtain ⟨p, us, rfl, b, a⟩ := rv.lstE e1.ok (s.ev e1)
    refine ⟨p, us, rfl, a w1 (Ev.rfl e1.ok), hr _ _ w1 h1 e1 (itM_pair (f := fun i => some (.int (i : Nat))) (g := fun i => ys[i]?) (walk_enum (K := K) (a := p) (xs := us)) ?_ (fun i hi => ?_) fun w' e2 k' => ⟨a w' e2, fun i v u x y hi h1 h2 h3 h4 => ?_⟩)⟩
    · unfold enX
      rw [List.length_map, List.length_range, b.len]
    · have hi' : i < ys.length := b.len ▸ hi
      exact ⟨_, _, rfl, List.getElem?_eq_getElem hi', en_at _ i hi'⟩
    · cases h1
      cases h3
      obtain ⟨u', h5, r5⟩ := (e2.rdl b).get h4
      rw [h2] at h5
      cases h5
      exact ⟨.int _, r5⟩
  · exact h1.elim
theorem sndI_enum {ta : TA} {ma : MEs} (h : SndA K ta ma) : SndI K (iEnum K ta) (mEnum ma) := fun σ env T w q R k s hm hr => h σ env T w _ _ k s hm fun xs vs w1 h1 e1 r1 => by
  split at h1
  · rename_i ys
    cases r1 with
    | cons r0 rn =>
    cases rn with
    | nil =>
    cases r0 with
    | @lst p us _ a b =>
    refine ⟨p, us, rfl, e1.ok.1.seq a, hr _ _ w1 h1 e1 (itM_pair (f := fun i => some (.int (i : Nat))) (g := fun i => ys[i]?) (walk_enum (K := K) (a := p) (xs := us)) ?_ (fun i hi => ?_) fun w' e2 k' => ⟨k'.1.seq (e2.1.seq a), fun i v u x y hi h1 h2 h3 h4 => ?_⟩)⟩
    · unfold enX
      rw [List.length_map, List.length_range, b.len]
    · have hi' : i < ys.length := b.len ▸ hi
      exact ⟨_, _, rfl, List.getElem?_eq_getElem hi', en_at _ i hi'⟩
    · cases h1
      cases h3
      obtain ⟨u', h5, r5⟩ := (b.mono e2.2 e2.1).get h4
      rw [h2] at h5
      cases h5
      exact ⟨.int _, r5⟩
  · exact h1.elim
/-! comprehensions -/
def lcL (g : MG) (n : MT) (m : ME) (env : List Y) : List X → List X → (List X → Prop) → Prop
  | [], acc, q => q acc
  | x :: r, acc, q => g x env fun env' => n env' fun b => if b = true then m env' fun y => acc.length < 100000 ∧ lcL g n m env r (acc ++ [y]) q else lcL g n m env r acc q
def mLc (mi : MI') (g : MG) (n : MT) (m : ME) (vs : List Nat) : MEs := fun env q => mi env fun items => lcL g n m (wipeY env vs) items [] q
theorem snd_size {n : Nat} (h : n < 100000) : n < sizeLine := by
  rw [sizeLine_eq]
  omega
theorem sndN_lc {wi : TI} {mi : MI'} {g : TG} {mg : MG} {tt : TT} {n : MT} {vs : List Nat} (hi : SndIW K wi mi) (hg : SndG K vs g mg) (ht : SndT K tt n) (he : Snd K te me) : SndN K (tLc wi g tt te vs) (mLc mi mg n me vs) := fun σ env T w q R k s hm hr =>
  hi σ env T w _ _ k s hm fun items J w1 h1 e1 it D nD => by
    have ec := Ev.cell (o := HO.lst []) e1.ok nD
    have fr := e1.ok.free nD
    let W : Nat → Nat → Hp → Prop := fun i mm H => mm = items.length - i ∧ i ≤ items.length ∧ ∃ w2 us acc, H = w2.H ∧ Ev w1 w2 ∧ w2.H D = some (.lst us) ∧ w2.F D = none ∧ ¬ w2.S D ∧ RdL K w2 us acc ∧ lcL mg n me (wipeY env vs) (items.drop i) acc q
    refine ⟨W, ⟨items.length, by simp, Nat.zero_le _, w1.cell D (.lst []), [], [], rfl, ec, upd_same, fr.1, fr.2, .nil, h1⟩, ?_⟩
    rintro i mm H ⟨rfl, hi, w2, us, acc, rfl, e2, hD, hF, hS, ha, hl⟩
    obtain ⟨go, stop, yld⟩ := it w2 e2 e2.ok
    by_cases hlt : i < items.length
    · refine .inr ⟨go i hlt, fun H => ∃ mm, mm < items.length - i ∧ W (i + 1) mm H, fun H' z => z, fun v H' y => ?_⟩
      obtain ⟨w3, x, rfl, e3, hx, rx⟩ := yld i v H' hlt y
      have hd : items.drop i = x :: items.drop (i + 1) := by
        rw [List.drop_eq_getElem_cons hlt]
        rw [List.getElem?_eq_getElem hlt] at hx
        cases hx
        rfl
      rw [hd] at hl
      have s3 := st_wipe (((s.ev e1).ev e2).ev e3) vs
      refine hg (wipe σ vs) (wipeY env vs) T w3 v x _ _ e3.ok s3 rx hl fun env' σ' hq s' ew => ⟨ew.trans wipe_wipe, ?_⟩
      have hD3 := e3.h _ _ hD hS
      have live : ∀ {w4 : Wd}, Ev w2 w4 → w4.F D = none ∧ ¬ w4.S D := fun {w4} e => by
        refine ⟨?_, fun z => ?_⟩
        · cases z : w4.F D with
          | none => rfl
          | some o => exact (imm_lst (hD ▸ e.n D hF (by rw [z]; exact fun q => nomatch q))).elim
        · have := e.m D z hS
          rw [hD] at this
          cases this
      refine ht σ' env' T w3 _ _ e3.ok s' hq fun b w4 hb e4 => ?_
      have e34 := e3.trans e4
      cases b with
      | false =>
        rw [if_neg Bool.false_ne_true] at hb ⊢
        have l4 := live e34
        exact ⟨items.length - (i + 1), by omega, rfl, hlt, w4, us, acc, rfl, e2.trans e34, e34.h _ _ hD hS, l4.1, l4.2, e34.rdl ha, hb⟩
      | true =>
        rw [if_pos rfl] at hb ⊢
        refine he σ' env' T w4 _ _ e4.ok (s'.ev e4) hb fun y u w5 hy e5 ry => ?_
        have e35 := e34.trans e5
        have l5 := live e35
        have hD5 := e35.h _ _ hD hS
        have n1 : w1.H D = none := nD
        refine ⟨us, hD5, snd_size (by rw [ha.len]; exact hy.1), items.length - (i + 1), by omega, rfl, hlt, w5.cell D (.lst (us ++ [u])), us ++ [u], acc ++ [y], rfl, (e2.trans e35).turn n1 l5.1 l5.2, upd_same, l5.1, l5.2, (e35.rdl ha).snoc ry, hy.2⟩
    · have e : i = items.length := by omega
      subst e
      rw [List.drop_length] at hl
      exact .inl ⟨stop, hr acc D us w2 hl (e1.trans e2) (e1.none k nD) hF hS hD ha⟩
def mYes : MT := fun _ q => q true
theorem sndT_yes : SndT K tYes mYes := fun σ env T w q R k s hm hr => hr true w hm (Ev.rfl k)
end
end MI
set_option maxRecDepth 100000
set_option maxHeartbeats 4000000
namespace MI
open PySem PySem.Spec PyProof.Rows L2 VX
/-! ### statements -/
structure Sw (K : PySem.W.Frag) (w0 : Wd) (σ : L2.St) (env : List Y) (T : Tk) (w : Wd) : Prop where
  e : Ev w0 w
  s : St K σ env T w
  n : ∀ i p vs, T i = some (p, vs) → w0.H p = none
structure Gr (w w' : Wd) : Prop where
  f : Same w.F w'.F
  s : ∀ b, w.S b → w'.S b
theorem Gr.trans {w w' w'' : Wd} (a : Gr w w') (b : Gr w' w'') : Gr w w'' := ⟨a.f.trans b.f, fun x h => b.s x (a.s x h)⟩
theorem Gr.rfl {w : Wd} : Gr w w := ⟨Same.refl _, fun _ h => h⟩
theorem Ev.gr {w w' : Wd} (e : Ev w w') : Gr w w' := ⟨e.f, e.s⟩
structure EndR (K : PySem.W.Frag) (w0 wl : Wd) (D : Ends) (M : MD) : Prop where
  nx : ∀ σ env T w, Sw K w0 σ env T w → Gr wl w → M.nx env → D.nx σ w.H
  rt : ∀ v x w, Ev w0 w → Rd K w v x → M.rt x → D.rt v w.H
  bk : ∀ σ env T w, Sw K w0 σ env T w → Gr wl w → M.bk env → D.bk σ w.H
  ct : ∀ σ env T w, Sw K w0 σ env T w → Gr wl w → M.ct env → D.ct σ w.H
theorem EndR.up {K : PySem.W.Frag} {w0 wl w : Wd} {D : Ends} {M : MD} (R : EndR K w0 wl D M) (g : Gr wl w) : EndR K w0 w D M :=
  ⟨fun σ env T w' s h => R.nx σ env T w' s (g.trans h), R.rt, fun σ env T w' s h => R.bk σ env T w' s (g.trans h), fun σ env T w' s h => R.ct σ env T w' s (g.trans h)⟩
def SndS (K : PySem.W.Frag) (t : TS) (m : MS) : Prop := ∀ w0 D M σ env T w, EndR K w0 w D M → Sw K w0 σ env T w → m M env → t D σ w.H
section
variable {K : PySem.W.Frag} {t u : TS} {a b : MS} {te ti to : TE} {m mi mv : ME} {mn : MEs} {i : Nat} {w0 w w' : Wd} {σ : L2.St} {env : List Y} {T : Tk}
theorem Sw.ok (h : Sw K w0 σ env T w) : w.Ok := h.e.ok
theorem Sw.ev (h : Sw K w0 σ env T w) (e : Ev w w') : Sw K w0 σ env T w' := ⟨h.e.trans e, h.s.ev e, h.n⟩
theorem Sw.setX (h : Sw K w0 σ env T w) (i : Nat) {v : V} {x : X} (r : Rd K w v x) : Sw K w0 (σ.set i (some v)) (env.set i (.x x)) T w := ⟨h.e, h.s.setX i r, h.n⟩
theorem ev_none {w w' : Wd} (e : Ev w w') {p : Addr} (h : w'.H p = Option.none) : w.H p = Option.none := by
  cases z : w.H p with
  | none => exact _root_.rfl
  | some o =>
    by_cases s : w.S p
    · obtain ⟨_, a, b, c, q⟩ := e.ok.2 p (e.s p s)
      rw [h] at q
      cases q
    · have := e.h p o z s
      rw [h] at this
      cases this
def mSeq (a b : MS) : MS := fun D env => a { D with nx := b D } env
theorem snd_seq (ha : SndS K t a) (hb : SndS K u b) : SndS K (tSeq t u) (mSeq a b) := fun w0 D M σ env T w R s h =>
  ha w0 { D with nx := u D } { M with nx := b M } σ env T w ⟨fun σ' env' T' w' s' g h' => hb w0 D M σ' env' T' w' (R.up g) s' h', R.rt, R.bk, R.ct⟩ s h
def mNext : MS := fun D env => D.nx env
theorem snd_next : SndS K tNext mNext := fun w0 D M σ env T w R s h => R.nx σ env T w s Gr.rfl h
def mRet (m : ME) : MS := fun D env => m env D.rt
theorem snd_ret (h : Snd K te m) : SndS K (tRet te) (mRet m) := fun w0 D M σ env T w R s hm => h σ env T w _ _ s.ok s.s hm fun x v w' hq e r => R.rt v x w' (s.e.trans e) r hq
def mRetN : MS := fun D _ => D.rt .non
theorem snd_retN : SndS K tRetN mRetN := fun w0 D M σ env T w R s hm => R.rt .non .non w s.e .non hm
def mDrop (m : ME) : MS := fun D env => m env fun _ => D.nx env
theorem snd_drop (h : Snd K te m) : SndS K (tDrop te) (mDrop m) := fun w0 D M σ env T w R s hm => h σ env T w _ _ s.ok s.s hm fun x v w' hq e r => R.nx _ _ T w' (s.ev e) e.gr hq
def mSet (i : Nat) (m : ME) : MS := fun D env => m env fun x => D.nx (env.set i (.x x))
theorem snd_set (h : Snd K te m) : SndS K (tAsg te (gName i)) (mSet i m) := fun w0 D M σ env T w R s hm => h σ env T w _ _ s.ok s.s hm fun x v w' hq e r => R.nx _ _ T w' ((s.ev e).setX i r) e.gr hq
/-- a list of the slot's own -/
def mOwn (i : Nat) (m : MEs) : MS := fun D env => m env fun xs => D.nx (env.set i (.o xs))
theorem snd_own (h : SndN K te mn) : SndS K (tAsg te (gName i)) (mOwn i mn) := fun w0 D M σ env T w R s hm => h σ env T w _ _ s.ok s.s hm fun xs p vs w' hq e n hF hS hH r => by
  have s' := s.ev e
  have fr : ∀ j us, T j = some (p, us) → j = i := fun j us hj => absurd hj (s.s.fresh n j us)
  refine R.nx _ _ _ w' ⟨s'.e, s'.s.setC (y0 := .o xs) i hH hF hS imm_lst fr ⟨p, vs, rfl, if_pos rfl, r⟩, fun j q us hj => ?_⟩ e.gr hq
  have hj : (if j = i then some (p, HO.lst vs) else T j) = some (q, us) := hj
  by_cases z : j = i
  · rw [if_pos z] at hj
    cases hj
    exact ev_none s.e n
  · rw [if_neg z] at hj
    exact s.n j q us hj
def mAsg (m : ME) (g : MG) : MS := fun D env => m env fun x => g x env D.nx
theorem snd_asg {g : TG} {mg : MG} {vs : List Nat} (h : Snd K te m) (hg : SndG K vs g mg) : SndS K (tAsg te g) (mAsg m mg) := fun w0 D M σ env T w R s hm => h σ env T w _ _ s.ok s.s hm fun x v w' hq e r =>
  hg σ env T w' v x _ _ e.ok (s.s.ev e) r hq fun env' σ' hq' s' _ => R.nx σ' env' T w' ⟨s.e.trans e, s', s.n⟩ e.gr hq'
def mIfS (n : MT) (a b : MS) : MS := fun D env => n env fun c => if c = true then a D env else b D env
theorem snd_ifS {c : TT} {n : MT} (hc : SndT K c n) (ha : SndS K t a) (hb : SndS K u b) : SndS K (tIfS c t u) (mIfS n a b) := fun w0 D M σ env T w R s hm => hc σ env T w _ _ s.ok s.s hm fun c w' hq e => by
  cases c with
  | true => exact ha w0 D M σ env T w' (R.up e.gr) (s.ev e) hq
  | false => exact hb w0 D M σ env T w' (R.up e.gr) (s.ev e) hq
theorem snd_break : SndS K tBreak (fun D env => D.bk env) := fun w0 D M σ env T w R s h => R.bk σ env T w s Gr.rfl h
theorem snd_cont : SndS K tCont (fun D env => D.ct env) := fun w0 D M σ env T w R s h => R.ct σ env T w s Gr.rfl h
def mBreak : MS := fun D env => D.bk env
def mCont : MS := fun D env => D.ct env
def mNever : MS := fun _ _ => False
theorem snd_never : SndS K tNever mNever := fun w0 D M σ env T w R s h => h
/-- from here on a slot's own list stays as it is -/
def frzY (env : List Y) (i : Nat) : List Y := match env[i]? with
  | some (.o xs) => env.set i (.x (.lst xs))
  | _ => env
def mFrz (i : Nat) (a : MS) : MS := fun D env => a D (frzY env i)
theorem snd_frz (h : SndS K t a) : SndS K t (mFrz i a) := fun w0 D M σ env T w R s hm => by
  unfold mFrz frzY at hm
  split at hm
  · rename_i xs e
    obtain ⟨p, vs, hσ, hT, r⟩ := s.s.r i _ e
    obtain ⟨hH, hF, hS⟩ := s.s.h i p (.lst vs) hT
    have n0 := s.n i p (.lst vs) hT
    have ek := s.e.keep n0 hF hS hH
    have hil : i < σ.length := (List.getElem?_eq_some_iff.mp hσ).1
    refine h w0 D M σ _ (fun j => if j = i then none else T j) (w.keep p (.lst vs)) (R.up ⟨keep_f hF, fun _ z => z⟩) ⟨ek, ⟨?_, fun j y hy => ?_, fun j q us hj => ?_, fun j q us hj => ?_, fun j k q us us' h1 h2 => ?_⟩, fun j q us hj => ?_⟩ hm
    · rw [List.length_set]
      exact s.s.l
    · rw [List.getElem?_set] at hy
      by_cases z : i = j
      · subst z
        rw [if_pos rfl, if_pos (s.s.l ▸ hil)] at hy
        cases hy
        exact ⟨_, hσ, .lst (SqL.of (show upd w.F p (.lst vs) p = some (.lst vs) from upd_same)) (r.mono (fun _ z => z) (keep_f hF))⟩
      · rw [if_neg z] at hy
        have := s.s.r j y hy
        cases y with
        | u => trivial
        | x d => exact let ⟨v, a, b⟩ := this; ⟨v, a, b.mono (fun _ z => z) (keep_f hF)⟩
        | o xs' => exact let ⟨q, us, a, b, c⟩ := this; ⟨q, us, a, (if_neg (Ne.symm z)).trans b, c.mono (fun _ z => z) (keep_f hF)⟩
        | d xs' => exact let ⟨q, us, a, b, c⟩ := this; ⟨q, us, a, (if_neg (Ne.symm z)).trans b, c.mono (fun _ z => z) (keep_f hF)⟩
    · have hj : (if j = i then none else T j) = some (q, us) := hj
      by_cases z : j = i
      · rw [if_pos z] at hj
        cases hj
      · rw [if_neg z] at hj
        obtain ⟨h1, h2, h3⟩ := s.s.h j q us hj
        refine ⟨h1, ?_, h3⟩
        have ne : q ≠ p := fun y => z (by subst y; exact s.s.d j i q us (.lst vs) hj hT)
        exact (upd_ne ne).trans h2
    · have hj : (if j = i then none else T j) = some (q, us) := hj
      by_cases z : j = i
      · rw [if_pos z] at hj
        cases hj
      · rw [if_neg z] at hj
        exact s.s.m j q us hj
    · have h1 : (if j = i then none else T j) = some (q, us) := h1
      have h2 : (if k = i then none else T k) = some (q, us') := h2
      by_cases z : j = i
      · rw [if_pos z] at h1
        cases h1
      · by_cases z2 : k = i
        · rw [if_pos z2] at h2
          cases h2
        · rw [if_neg z] at h1
          rw [if_neg z2] at h2
          exact s.s.d j k q us us' h1 h2
    · have hj : (if j = i then none else T j) = some (q, us) := hj
      by_cases z : j = i
      · rw [if_pos z] at hj
        cases hj
      · rw [if_neg z] at hj
        exact s.n j q us hj
  · exact h w0 D M σ env T w R s hm
/-- a slot's own list turns -/
theorem Sw.turnC {p : Addr} {vs us : HO} {y0 : Y} (s : Sw K w0 σ env T w) (hT : T i = some (p, vs)) (hσ : σ[i]? = some (some (.ref p))) (hm : ¬ Imm (some us)) (r : Yr K (w.cell p us) (fun j => if j = i then some (p, us) else T j) i (some (some (.ref p))) y0) : Sw K w0 σ (env.set i y0) (fun j => if j = i then some (p, us) else T j) (w.cell p us) := by
  obtain ⟨hH, hF, hS⟩ := s.s.h i p _ hT
  have n0 := s.n i p vs hT
  refine ⟨s.e.turn n0 hF hS, ⟨by rw [List.length_set]; exact s.s.l, fun j y hy => ?_, fun j q us' hj => ?_, fun j q us' hj => ?_, fun j k q us' us2 h1 h2 => ?_⟩, fun j q us' hj => ?_⟩
  · rw [List.getElem?_set] at hy
    by_cases z : i = j
    · subst z
      have hil : i < σ.length := (List.getElem?_eq_some_iff.mp hσ).1
      rw [if_pos rfl, if_pos (s.s.l ▸ hil)] at hy
      cases hy
      rw [hσ]
      exact r
    · rw [if_neg z] at hy
      have := s.s.r j y hy
      cases y with
      | u => trivial
      | x d => exact this
      | o xs' => exact let ⟨q, us', a, b, c⟩ := this; ⟨q, us', a, (if_neg (Ne.symm z)).trans b, c⟩
      | d xs' => exact let ⟨q, us', a, b, c⟩ := this; ⟨q, us', a, (if_neg (Ne.symm z)).trans b, c⟩
  · have hj : (if j = i then some (p, us) else T j) = some (q, us') := hj
    by_cases z : j = i
    · rw [if_pos z] at hj
      cases hj
      exact ⟨upd_same, hF, hS⟩
    · rw [if_neg z] at hj
      obtain ⟨h1, h2, h3⟩ := s.s.h j q us' hj
      have ne : q ≠ p := fun y => z (s.s.d j i q us' vs hj (by rw [y]; exact hT))
      exact ⟨(upd_ne ne).trans h1, h2, h3⟩
  · have hj : (if j = i then some (p, us) else T j) = some (q, us') := hj
    by_cases z : j = i
    · rw [if_pos z] at hj
      cases hj
      exact hm
    · rw [if_neg z] at hj
      exact s.s.m j q us' hj
  · have h1 : (if j = i then some (p, us) else T j) = some (q, us') := h1
    have h2 : (if k = i then some (p, us) else T k) = some (q, us2) := h2
    by_cases z : j = i
    · by_cases z2 : k = i
      · rw [z, z2]
      · rw [if_pos z] at h1
        rw [if_neg z2] at h2
        cases h1
        exact absurd (s.s.d k i p us2 vs h2 hT) z2
    · rw [if_neg z] at h1
      by_cases z2 : k = i
      · rw [if_pos z2] at h2
        cases h2
        exact absurd (s.s.d j i p us' vs h1 hT) z
      · rw [if_neg z2] at h2
        exact s.s.d j k q us' us2 h1 h2
  · have hj : (if j = i then some (p, us) else T j) = some (q, us') := hj
    by_cases z : j = i
    · rw [if_pos z] at hj
      cases hj
      exact n0
    · rw [if_neg z] at hj
      exact s.n j q us' hj
theorem Sw.turn {p : Addr} {vs us : List V} {ys : List X} (s : Sw K w0 σ env T w) (hT : T i = some (p, .lst vs)) (hσ : σ[i]? = some (some (.ref p))) (r : RdL K w us ys) : Sw K w0 σ (env.set i (.o ys)) (fun j => if j = i then some (p, .lst us) else T j) (w.cell p (.lst us)) :=
  s.turnC (y0 := .o ys) hT hσ imm_lst ⟨p, us, rfl, if_pos rfl, r⟩
def mApp (i : Nat) (m : ME) : MS := fun D env => match env[i]? with
  | some (.o xs) => m env fun x => xs.length < 100000 ∧ D.nx (env.set i (.o (xs ++ [x])))
  | _ => False
theorem snd_app (h : Snd K te m) : SndS K (tDrop (tBM K "list" rAppend (tVar i) (tCons te tNil))) (mApp i m) := fun w0 D M σ env T w R s hm => by
  unfold mApp at hm
  split at hm
  · rename_i xs e
    obtain ⟨p, vs, hσ, hT, r⟩ := s.s.r i _ e
    obtain ⟨hH, hF, hS⟩ := s.s.h i p _ hT
    refine ⟨.ref p, hσ, .inl ⟨rfl, vs, SqL.of hH⟩, ?_⟩
    refine h σ env T w _ _ s.ok s.s hm fun x v w' hq e' rx => ?_
    have hH' := ((s.ev e').s.h i p _ hT).1
    refine ⟨p, vs, v, rfl, rfl, hH', snd_size (by rw [r.len]; exact hq.1), ?_⟩
    exact R.nx _ _ _ _ ((s.ev e').turn hT hσ ((e'.rdl r).snoc rx)) ⟨e'.f, e'.s⟩ hq.2
  · exact hm.elim
/-- xs[k] = e of a slot's own list -/
def mSetIx (i : Nat) (mi mv : ME) : MS := fun D env => match env[i]? with
  | some (.o xs) => mv env fun x => mi env fun y => match y with
    | .int k => ∃ j, ixN xs.length k = some j ∧ D.nx (env.set i (.o (xs.set j x)))
    | _ => False
  | _ => False
theorem snd_setIx (hv : Snd K te mv) (hi : SndW K ti mi) : SndS K (tAsg te (gSub (tVar i) ti rSetL)) (mSetIx i mi mv) := fun w0 D M σ env T w R s hm => by
  unfold mSetIx at hm
  split at hm
  · rename_i xs e
    obtain ⟨p, vs, hσ, hT, r⟩ := s.s.r i _ e
    refine hv σ env T w _ _ s.ok s.s hm fun x v w1 h1 e1 r1 => ⟨.ref p, hσ, ?_⟩
    have s1 := s.ev e1
    refine hi σ env T w1 _ _ e1.ok s1.s h1 fun y u w2 h2 e2 r2 => ?_
    have s2 := s1.ev e2
    cases y with
    | int k =>
      obtain ⟨j, hj, hq⟩ := h2
      have r' := e2.rdl (e1.rdl r)
      exact ⟨p, vs, k, j, rfl, r2.int, (s2.s.h i p _ hT).1, by rw [r'.len]; exact hj, R.nx _ _ _ _ (s2.turn hT hσ (r'.set (e2.rd r1))) ⟨(e1.trans e2).f, (e1.trans e2).s⟩ hq⟩
    | _ => exact False.elim h2
  · exact hm.elim
/-! loops -/
def forL (g : MG) (b : MS) (D : MD) : List X → List Y → Prop
  | [], env => D.nx env
  | x :: r, env => g x env fun env' => b ⟨forL g b D r, D.rt, D.nx, forL g b D r⟩ env'
def mFor (mi : MI') (g : MG) (b : MS) : MS := fun D env => mi env fun items => forL g b D items env
theorem snd_for {wi : TI} {mi : MI'} {g : TG} {mg : MG} {vs : List Nat} (hi : SndI K wi mi) (hg : SndG K vs g mg) (hb : SndS K t b) : SndS K (tFor wi g t) (mFor mi mg b) := fun w0 D M σ env T w R s hm =>
  hi σ env T w _ _ s.ok s.s hm fun items J w1 h1 e1 it => by
    let W : Nat → Nat → L2.St → Hp → Prop := fun i mm σ' H => mm = items.length - i ∧ i ≤ items.length ∧ ∃ env' T' w2, H = w2.H ∧ Gr w1 w2 ∧ Sw K w0 σ' env' T' w2 ∧ forL mg b M (items.drop i) env'
    refine ⟨W, ⟨items.length, by simp, Nat.zero_le _, env, T, w1, rfl, Gr.rfl, s.ev e1, h1⟩, ?_⟩
    rintro i mm σ' H ⟨rfl, hi, env', T', w2, rfl, sG, s2, hl⟩
    obtain ⟨go, stop, yld⟩ := it w2 ⟨sG.f, sG.s⟩ s2.ok
    by_cases hlt : i < items.length
    · refine .inr ⟨go i hlt, fun σ' H => ∃ mm, mm < items.length - i ∧ W (i + 1) mm σ' H, fun σ' H' z => z, fun v H' y => ?_⟩
      obtain ⟨w3, x, rfl, e3, hx, rx⟩ := yld i v H' hlt y
      have hd : items.drop i = x :: items.drop (i + 1) := by
        rw [List.drop_eq_getElem_cons hlt]
        rw [List.getElem?_eq_getElem hlt] at hx
        cases hx
        rfl
      rw [hd] at hl
      have s3 := s2.ev e3
      have g3 := sG.trans e3.gr
      refine hg σ' env' T' w3 v x _ _ e3.ok s3.s rx hl fun env2 σ2 hq s' _ => ?_
      refine hb w0 _ ⟨forL mg b M (items.drop (i + 1)), M.rt, M.nx, forL mg b M (items.drop (i + 1))⟩ σ2 env2 T' w3 ⟨fun σ4 env4 T4 w4 s4 g4 h4 => ?_, R.rt, fun σ4 env4 T4 w4 s4 g4 h4 => ?_, fun σ4 env4 T4 w4 s4 g4 h4 => ?_⟩ ⟨s3.e, s', s3.n⟩ hq
      · exact ⟨_, by omega, rfl, hlt, env4, T4, w4, rfl, g3.trans g4, s4, h4⟩
      · exact R.nx σ4 env4 T4 w4 s4 (e1.gr.trans (g3.trans g4)) h4
      · exact ⟨_, by omega, rfl, hlt, env4, T4, w4, rfl, g3.trans g4, s4, h4⟩
    · have e : i = items.length := by omega
      subst e
      rw [List.drop_length] at hl
      exact .inl ⟨stop, R.nx _ _ _ _ s2 (e1.gr.trans sG) hl⟩
end
end MI
set_option maxRecDepth 100000
set_option maxHeartbeats 4000000
namespace MI
open PySem PySem.Spec PyProof.Rows L2 VX
section
variable {K : PySem.W.Frag} {t u : TS} {a b : MS} {te ti to : TE} {m mi mv : ME} {mn : MEs} {i : Nat} {w0 w w' : Wd} {σ : L2.St} {env : List Y} {T : Tk}
def mWhile (n : MT) (b : MS) : MS := fun D env => ∃ W : Nat → List Y → Prop, (∃ k, W k env) ∧ ∀ k env, W k env → n env fun c => if c = true then b ⟨fun e => ∃ k', k' < k ∧ W k' e, D.rt, D.nx, fun e => ∃ k', k' < k ∧ W k' e⟩ env else D.nx env
theorem snd_while {c : TT} {n : MT} (hc : SndT K c n) (hb : SndS K t b) : SndS K (tWhile c t) (mWhile n b) := fun w0 D M σ env T w R s ⟨W, ⟨k, hk⟩, hw⟩ => by
  refine ⟨fun mm σ' H => ∃ env' T' w2, H = w2.H ∧ Gr w w2 ∧ Sw K w0 σ' env' T' w2 ∧ W mm env', ⟨k, env, T, w, rfl, Gr.rfl, s, hk⟩, ?_⟩
  rintro mm σ' H ⟨env', T', w2, rfl, g2, s2, hW⟩
  refine hc σ' env' T' w2 _ _ s2.ok s2.s (hw mm env' hW) fun c w3 h3 e3 => ?_
  have g3 := g2.trans e3.gr
  cases c with
  | false => exact R.nx _ _ _ _ (s2.ev e3) g3 h3
  | true =>
    refine ⟨fun σ4 H4 => ∃ k', k' < mm ∧ ∃ env4 T4 w4, H4 = w4.H ∧ Gr w w4 ∧ Sw K w0 σ4 env4 T4 w4 ∧ W k' env4, fun σ4 H4 z => z, ?_⟩
    refine hb w0 _ ⟨fun e => ∃ k', k' < mm ∧ W k' e, M.rt, M.nx, fun e => ∃ k', k' < mm ∧ W k' e⟩ σ' env' T' w3 ⟨fun σ4 env4 T4 w4 s4 g4 h4 => ?_, R.rt, fun σ4 env4 T4 w4 s4 g4 h4 => ?_, fun σ4 env4 T4 w4 s4 g4 h4 => ?_⟩ (s2.ev e3) h3
    · obtain ⟨k', l, h⟩ := h4
      exact ⟨k', l, env4, T4, w4, rfl, g3.trans g4, s4, h⟩
    · exact R.nx _ _ _ _ s4 (g3.trans g4) h4
    · obtain ⟨k', l, h⟩ := h4
      exact ⟨k', l, env4, T4, w4, rfl, g3.trans g4, s4, h⟩
/-! ### a def -/
/-- what a mirrored def gives -/
def Mrun (N : Nat) (m : MS) (xs : List X) (q : X → Prop) : Prop := m ⟨fun _ => q .non, q, fun _ => False, fun _ => False⟩ (xs.map .x ++ List.replicate (N - xs.length) .u)
/-- n parameters, N names -/
def spM (K : PySem.W.Frag) (n N : Nat) (m : MS) : Sp := fun vs H Q _ => ∃ (w : Wd) (xs : List X) (q : X → Prop), w.H = H ∧ w.Ok ∧ RdL K w vs xs ∧ xs.length = n ∧ Mrun N m xs q ∧ ∀ x v w', q x → Ev w w' → Rd K w' v x → Q v w'.H
theorem spM_len {n N : Nat} {vs : List V} {H : Hp} {Q : VK} {E : XK} {ps : List Str} (h : spM K n N m' vs H Q E) (e : ps.length = n) : vs.length = ps.length := by
  obtain ⟨w, xs, q, _, _, r, l, _⟩ := h
  rw [r.len, l, e]
theorem st_start {N : List Str} {vs : List V} {xs : List X} (r : RdL K w vs xs) : St K (L2.start N vs) (xs.map .x ++ List.replicate (N.length - xs.length) .u) (fun _ => none) w := by
  have hl := r.len
  refine ⟨?_, fun j y hy => ?_, fun j p us h => (nomatch h), fun j p us h => (nomatch h), fun j k p us us' h => (nomatch h)⟩
  · unfold L2.start
    rw [List.length_append, List.length_append, List.length_map, List.length_map, List.length_replicate, List.length_replicate, hl]
  · by_cases z : j < xs.length
    · rw [List.getElem?_append_left (by rw [List.length_map]; exact z), List.getElem?_map] at hy
      obtain ⟨x, hx, rfl⟩ := Option.map_eq_some_iff.mp hy
      obtain ⟨v, hv, rv⟩ := r.get hx
      refine ⟨v, ?_, rv⟩
      unfold L2.start
      rw [List.getElem?_append_left (by rw [List.length_map, hl]; exact z), List.getElem?_map, hv]
      rfl
    · rw [List.getElem?_append_right (by rw [List.length_map]; omega)] at hy
      have := List.mem_of_getElem? hy
      rw [List.mem_replicate] at this
      rw [this.2]
      trivial
theorem mir_body {n : Nat} {N : List Str} {m : MS} {vs : List V} {H : Hp} {Q : VK} {E : XK} (h : spM K n N.length m vs H Q E) (hs : SndS K t m) : t { nx := fun _ H' => Q .non H', rt := Q } (L2.start N vs) H := by
  obtain ⟨w, xs, q, rfl, k, r, l, hm, hq⟩ := h
  exact hs w _ ⟨fun _ => q .non, q, fun _ => False, fun _ => False⟩ _ _ (fun _ => none) w ⟨fun σ env T w' s g h => hq _ _ w' h s.e .non, fun v x w' e r h => hq x v w' h e r, fun _ _ _ _ _ _ h => h.elim, fun _ _ _ _ _ _ h => h.elim⟩ ⟨Ev.rfl k, st_start r, fun i p us h => (nomatch h)⟩ hm
/-- a call of a mirrored def -/
def mCall (n N : Nat) (m : MS) (ma : MEs) : ME := fun env q => ma env fun xs => xs.length = n ∧ Mrun N m xs q
theorem snd_call {n N : Nat} {m : MS} {E : XK} {ta : TA} {ma : MEs} (h : SndA K ta ma) : Snd K (tCall (spM K n N m) [] E ta) (mCall n N m ma) := fun σ env T w q R k s hm hr => h σ env T w _ _ k s hm fun xs vs w1 h1 e1 r1 => by
  show spM K n N m (vs ++ []) w1.H R E
  rw [List.append_nil]
  exact ⟨w1, xs, q, rfl, e1.ok, r1, h1.1, h1.2, fun x v w' hq e r => hr x v w' hq (e1.trans e) r⟩
/-- a call of a def whose promise was written by hand -/
def SpP (K : PySem.W.Frag) (sp : Sp) (mr : List X → (X → Prop) → Prop) : Prop := ∀ w vs xs (q : X → Prop) (R : VK) (E : XK), w.Ok → RdL K w vs xs → mr xs q → (∀ x v w', q x → Ev w w' → Rd K w' v x → R v w'.H) → sp vs w.H R E
def mCallP (mr : List X → (X → Prop) → Prop) (ma : MEs) : ME := fun env q => ma env fun xs => mr xs q
theorem snd_callP {sp : Sp} {mr : List X → (X → Prop) → Prop} {E : XK} {ta : TA} {ma : MEs} (hp : SpP K sp mr) (h : SndA K ta ma) : Snd K (tCall sp [] E ta) (mCallP mr ma) := fun σ env T w q R k s hm hr => h σ env T w _ _ k s hm fun xs vs w1 h1 e1 r1 => by
  show sp (vs ++ []) w1.H R E
  rw [List.append_nil]
  exact hp w1 vs xs q R E e1.ok r1 h1 fun x v w' hq e r => hr x v w' hq (e1.trans e) r
end
end MI
set_option maxRecDepth 100000
set_option maxHeartbeats 4000000
namespace MI
open PySem PySem.Spec PyProof.Rows L2 VX
def rOr (r1 r2 : R2) : R2 := fun x y H Q => r1 x y H Q ∨ r2 x y H Q
theorem op_or2 {X : Cx} {f : Value → Value → Sem Value} {r1 r2 : R2} (h1 : OpR X f r1) (h2 : OpR X f r2) : OpR X f (rOr r1 r2) := fun pins s σ H x y v u Q I rx ry h => by
  rcases h with h | h
  · exact h1 pins s σ H x y v u Q I rx ry h
  · exact h2 pins s σ H x y v u Q I rx ry h
section
variable {K : PySem.W.Frag} {t u ta tb tc te : TE} {m ma mb mc me : ME} {mn : MEs} {i : Nat}
def mOr2 (m1 m2 : X → X → (X → Prop) → Prop) : X → X → (X → Prop) → Prop := fun x y q => m1 x y q ∨ m2 x y q
theorem opm_or {r1 r2 : R2} {m1 m2 : X → X → (X → Prop) → Prop} (h1 : OpM K r1 m1) (h2 : OpM K r2 m2) : OpM K (rOr r1 r2) (mOr2 m1 m2) := fun σ env T w v u x y q R k s rx ry hm hR => by
  rcases hm with h | h
  · exact .inl (h1 σ env T w v u x y q R k s rx ry h hR)
  · exact .inr (h2 σ env T w v u x y q R k s rx ry h hR)
def mIx : X → X → (X → Prop) → Prop := fun x y q => match x, y with
  | .lst xs, .int i => ∃ z, atI xs i = some z ∧ q z
  | .tup xs, .int i => ∃ z, atI xs i = some z ∧ q z
  | _, _ => False
theorem opm_ix : OpM K (rIx K) mIx := fun σ env T w v u x y q R k s rx ry hm hR => by
  unfold mIx at hm
  split at hm
  · exact .inl (opm_ixL σ env T w v u _ _ q R k s rx ry hm hR)
  · exact .inr (.inl (opm_ixT σ env T w v u _ _ q R k s rx ry hm hR))
  · exact hm.elim
def mEqU : X → X → (X → Prop) → Prop := fun x y q => match eqS x y with
  | some b => q (.bl b)
  | none => mEqD x y q
def mNeU : X → X → (X → Prop) → Prop := fun x y q => match eqS x y with
  | some b => q (.bl (!b))
  | none => mNeD x y q
theorem opm_eqU : OpM K (rOr rEq (rEqD K)) mEqU := fun σ env T w v u x y q R k s rx ry hm hR => by
  unfold mEqU at hm
  split at hm
  · rename_i b e
    exact .inl (opm_eq σ env T w v u _ _ q R k s rx ry (by unfold mEq; rw [e]; exact hm) hR)
  · exact .inr (opm_eqD σ env T w v u _ _ q R k s rx ry hm hR)
theorem opm_neU : OpM K (rOr rNe (rNeD K)) mNeU := fun σ env T w v u x y q R k s rx ry hm hR => by
  unfold mNeU at hm
  split at hm
  · rename_i b e
    exact .inl (opm_ne σ env T w v u _ _ q R k s rx ry (by unfold mNe; rw [e]; exact hm) hR)
  · exact .inr (opm_neD σ env T w v u _ _ q R k s rx ry hm hR)
theorem opm_inU : OpM K (rOr (rIn K false) (rInD K)) (mOr2 (mIn false) (mInD false)) := opm_or opm_in opm_inD
theorem opm_notInU : OpM K (rOr (rIn K true) (rNotInD K)) (mOr2 (mIn true) (mInD true)) := opm_or opm_in opm_notInD
def mCatL : X → X → (X → Prop) → Prop := fun x y q => match x, y with
  | .lst xs, .lst ys => xs.length + ys.length ≤ 1000 ∧ q (.lst (xs ++ ys))
  | _, _ => False
theorem opm_catL : OpM K (rCatL K) mCatL := fun σ env T w v u x y q R k s rx ry hm hR => by
  unfold mCatL at hm
  split at hm
  · obtain ⟨p, vs, rfl, a1, b1⟩ := rx.lst k s
    obtain ⟨p', us, rfl, a2, b2⟩ := ry.lst k s
    refine ⟨p, p', vs, us, rfl, rfl, a1, a2, len_le (by rw [b1.len, b2.len]; exact hm.1), fun l nl => ?_⟩
    have e2 := Ev.new (o := HO.lst (vs ++ us)) k nl
    exact hR _ _ (w.new l (.lst (vs ++ us))) hm.2 e2 (.lst (SqL.of (show upd w.F l (.lst (vs ++ us)) l = some (.lst (vs ++ us)) from upd_same)) (e2.rdl (b1.app b2)))
  · exact hm.elim
/-- +: numbers, lists, tuples -/
def mAddU : X → X → (X → Prop) → Prop := fun x y q => match x, y with
  | .int i, .int j => q (.int (i + j))
  | .lst xs, .lst ys => xs.length + ys.length ≤ 1000 ∧ q (.lst (xs ++ ys))
  | .tup xs, .tup ys => xs.length + ys.length ≤ 1000 ∧ q (.tup (xs ++ ys))
  | _, _ => False
theorem opm_addU : OpM K (rOr (rI0 fun i j => .int (i + j)) (rOr (rCatL K) (rCatA K))) mAddU := fun σ env T w v u x y q R k s rx ry hm hR => by
  unfold mAddU at hm
  split at hm
  · exact .inl (opm_add σ env T w v u _ _ q R k s rx ry hm hR)
  · exact .inr (.inl (opm_catL σ env T w v u _ _ q R k s rx ry hm hR))
  · exact .inr (.inr (opm_catT σ env T w v u _ _ q R k s rx ry hm hR))
  · exact hm.elim
/-! what is walked: a list or a tuple -/
def mItS (m : ME) : MI' := fun env q => m env fun x => match x with
  | .lst xs => q xs
  | .tup xs => q xs
  | _ => False
theorem sndI_seq (h : Snd K t m) : SndI K (iSq K t) (mItS m) := fun σ env T w q R k s hm hr => h σ env T w _ _ k s hm fun x v w1 h1 e1 r1 => by
  cases r1 with
  | @lst p vs xs a b => exact ⟨_, rfl, .inl ⟨⟨_, e1.ok.1.seq a⟩, hr _ _ w1 h1 e1 (itM_at (walk_list (K := K) (a := p) (xs := vs)) fun w' p k' => ⟨k'.1.seq (p.1.seq a), b.mono p.2 p.1⟩)⟩⟩
  | @tup p vs xs a b => exact ⟨_, rfl, .inr ⟨⟨_, same_sqT e1.ok.1 a⟩, hr _ _ w1 h1 e1 (itM_at (walk_tup (K := K) (a := p) (xs := vs)) fun w' e2 k' => ⟨same_sqT k'.1 (same_sqT e2.1 a), b.mono e2.2 e2.1⟩)⟩⟩
  | _ => exact False.elim h1
theorem sndIW_seq (h : SndW K t m) : SndIW K (iSq K t) (mItS m) := fun σ env T w q R k s hm hr => h σ env T w _ _ k s hm fun x v w1 h1 e1 r1 => by
  cases x with
  | lst xs =>
    obtain ⟨p, vs, rfl, b, a⟩ := r1.lstE e1.ok (s.ev e1)
    exact ⟨p, rfl, .inl ⟨⟨_, a w1 (Ev.rfl e1.ok)⟩, hr _ _ w1 h1 e1 (itM_at (walk_list (K := K) (a := p) (xs := vs)) fun w' e2 k' => ⟨a w' e2, e2.rdl b⟩)⟩⟩
  | tup xs =>
    rcases r1 with r1 | ⟨_, _, _, _, _, _, z, _⟩
    · cases r1 with
      | @tup p vs _ a b => exact ⟨_, rfl, .inr ⟨⟨_, same_sqT e1.ok.1 a⟩, hr _ _ w1 h1 e1 (itM_at (walk_tup (K := K) (a := p) (xs := vs)) fun w' e2 k' => ⟨same_sqT k'.1 (same_sqT e2.f a), e2.rdl b⟩)⟩⟩
    · cases z
  | _ => exact False.elim h1
/-! one number -/
def mUn (f : X → (X → Prop) → Prop) (m : ME) : ME := fun env q => m env fun x => f x q
def mNeg : X → (X → Prop) → Prop := fun x q => match x with
  | .int i => q (.int (-i))
  | _ => False
theorem snd_neg (h : SndW K t m) : Snd K (tUn (rU fun i => .int (-i)) t) (mUn mNeg m) := fun σ env T w q R k s hm hr => h σ env T w _ _ k s hm fun x v w1 h1 e1 r1 => by
  cases x with
  | int i => exact ⟨i, r1.int, hr _ _ w1 h1 e1 (.int _)⟩
  | _ => exact False.elim h1
/-! a < b < c -/
def mChain (r r' : X → X → (X → Prop) → Prop) (ma mb mc : ME) : ME := fun env q => ma env fun x => mb env fun y => r x y fun z => match z with
  | .bl b => if b = true then mc env fun w => r' y w q else q (.bl false)
  | _ => False
theorem snd_chain {r r' : R2} {n n' : X → X → (X → Prop) → Prop} (hr1 : OpM K r n) (hr2 : OpM K r' n') (ha : SndW K ta ma) (hb : SndW K tb mb) (hc : SndW K tc mc) : Snd K (tChain r r' ta tb tc) (mChain n n' ma mb mc) := fun σ env T w q R k s hm hr =>
  ha σ env T w _ _ k s hm fun x v w1 h1 e1 r1 => hb σ env T w1 _ _ e1.ok (s.ev e1) h1 fun y u w2 h2 e2 r2 =>
    hr1 σ env T w2 v u x y _ _ e2.ok ((s.ev e1).ev e2) (r1.ev e2) r2 h2 fun z v' w3 h3 e3 r3 => by
      obtain ⟨b, rfl, h3⟩ := bl_of h3
      cases r3
      refine ⟨b, rfl, ?_⟩
      cases b with
      | true => exact hc σ env T w3 _ _ e3.ok (((s.ev e1).ev e2).ev e3) h3 fun z4 v4 w4 h4 e4 r4 => hr2 σ env T w4 u v4 y z4 _ _ e4.ok ((((s.ev e1).ev e2).ev e3).ev e4) ((r2.ev e3).ev e4) r4 h4 fun z5 v5 w5 h5 e5 r5 => hr z5 v5 w5 h5 (e1.trans (e2.trans (e3.trans (e4.trans e5)))) r5
      | false => exact hr _ _ w3 h3 (e1.trans (e2.trans e3)) (.bl _)
/-! isinstance -/
def tnX : X → String
  | .non => "NoneType" | .bl _ => "bool" | .int _ => "int" | .str _ => "str" | .lst _ => "list" | .tup _ => "tuple"
  | .dk _ => "dict" | .obj _ _ => "" | .pen => "list" | .thing _ => ""
def plainX : X → Bool
  | .dk _ => false
  | .obj _ _ => false
  | .pen => false
  | .thing _ => false
  | _ => true
theorem tnX_mem {x : X} (h : plainX x = true) : tnX x ∈ (["NoneType", "bool", "int", "str", "list", "tuple"] : List String) := by
  cases x <;> first | (cases h; done) | (simp only [tnX, List.mem_cons, true_or, or_true])
theorem ty_v {w : Wd} {σ : L2.St} {env : List Y} {T : Tk} {v : V} {x : X} (k : w.Ok) (s : St K σ env T w) (h : Rw K w T v x) (p : plainX x = true) : TyX K w.H v (.type (tnX x)) := by
  cases x with
  | non => cases h.non; exact .base .non
  | bl b => cases h.bl; exact .base (.bl b)
  | int b => cases h.int; exact .base (.int b)
  | str b => cases h.str; exact .base (.str b)
  | lst xs =>
    obtain ⟨p, vs, rfl, a, _⟩ := h.lst k s
    rcases a with (h | ⟨o, h⟩) | ⟨o, its, n, hk, hc, _⟩
    · exact .base (.lst h)
    · exact .base (.frz h)
    · exact .kList hk hc
  | tup xs =>
    obtain ⟨p, vs, rfl, a, _⟩ := h.tup k
    rcases a with (h | ⟨o, h⟩) | ⟨o, its, n, hk, hc, _⟩
    · exact .base (.tup h)
    · exact .fTuple h
    · exact .kTuple hk hc
  | _ => cases p
def mIsi (c : String) (m : ME) : ME := fun env q => m env fun x => plainX x = true ∧ q (.bl (isS c (tnX x)))
theorem snd_isi {c : String} (hc : c ∈ (["bool", "int", "str", "list", "tuple"] : List String)) (h : SndW K t m) : Snd K (tCB (rIsi K) (tCons t (tCons (tC (.ty c)) tNil))) (mIsi c m) := fun σ env T w q R k s hm hr => h σ env T w _ _ k s hm fun x v w1 h1 e1 r1 =>
  i_isi (ty_v e1.ok (s.ev e1) r1 h1.1) (kit_ty (kit_all _ (tnX_mem h1.1) c hc)) (hr _ _ w1 h1.2 e1 (.bl _))
/-! objects that stay -/
def mFld (C : Addr) (f : Str) (m : ME) : ME := fun env q => m env fun x => match x with
  | .obj C' gs => C' = C ∧ ∃ y, gs.lookup f = some y ∧ q y
  | _ => False
theorem RvF.look {S : Addr → Prop} {F : Hp} {f : Str} {y : X} : ∀ {fs : List (Str × V)} {gs : List (Str × X)}, RvF K S F fs gs → gs.lookup f = some y → ∃ v, fs.lookup f = some v ∧ Rv K S F v y
  | _, _, .nil, h => by cases h
  | _, _, .cons (f := g) a t, h => by
    rw [List.lookup_cons] at h ⊢
    cases e : f == g with
    | true => rw [e] at h; cases h; exact ⟨_, rfl, a⟩
    | false => rw [e] at h; exact RvF.look t h
theorem snd_fld {C : Addr} {f : Str} (hc : Cls K C) (hn : NoAttr K C f) (h : SndW K t m) : Snd K (tFld K t f) (mFld C f m) := fun σ env T w q R k s hm hr => h σ env T w _ _ k s hm fun x v w1 h1 e1 r1 => by
  cases x with
  | obj C' gs =>
    obtain ⟨rfl, y, hy, hq⟩ := h1
    rcases r1 with r1 | ⟨_, _, _, _, _, _, z, _⟩
    · cases r1 with
      | @obj a C' dx fs _ h2 h3 =>
        obtain ⟨v, hv, rv⟩ := h3.look hy
        exact ⟨a, C', dx, fs, v, rfl, e1.ok.1 _ _ h2, hc, hn, hv, hr _ _ w1 hq e1 rv⟩
    · cases z
  | _ => exact False.elim h1
/-- a method that was mirrored -/
def mMeth (C : Addr) (n N : Nat) (f : Str) (mm : MS) (mo : ME) (ma : MEs) : ME := fun env q => mo env fun o => match o with
  | .obj C' gs => ma env fun xs => C' = C ∧ gs.lookup f = none ∧ xs.length + 1 = n ∧ Mrun N mm (o :: xs) q
  | _ => False
theorem RvF.none {S : Addr → Prop} {F : Hp} {f : Str} : ∀ {fs : List (Str × V)} {gs : List (Str × X)}, RvF K S F fs gs → gs.lookup f = Option.none → fs.lookup f = Option.none
  | _, _, .nil, h => rfl
  | _, _, .cons (f := g) a t, h => by
    rw [List.lookup_cons] at h ⊢
    cases e : f == g with
    | true => rw [e] at h; cases h
    | false => rw [e] at h; exact RvF.none t h
end
theorem pi_seqK {X : Cx} {K : PySem.W.Frag} (e : X.K = K) {tg l : Expr} {tl : TE} (hl : PE X l tl) : PI X tg l (iSq K tl) := e ▸ pi_seq hl
theorem sndN_lcE {K : PySem.W.Frag} {te : TE} {me : ME} {wi : TI} {mi : MI'} {g : TG} {mg : MG} {tt : TT} {n : MT} {vs vs' : List Nat} (e : vs' = vs) (hi : SndIW K wi mi) (hg : SndG K vs g mg) (ht : SndT K tt n) (he : Snd K te me) : SndN K (tLc wi g tt te vs') (mLc mi mg n me vs) := by
  subst e
  exact sndN_lc hi hg ht he
theorem sndG_tupE {K : PySem.W.Frag} {vs : List Nat} {n n' : Nat} (e : n' = n) {gs : TGs} {mgs : MGs} (h : SndGs K vs gs mgs) : SndG K vs (gTup K n' gs) (mGtup n mgs) := e ▸ sndG_tup h
/-- the mirror's rules, by a reading's head -/
theorem sndS_fin {K : PySem.W.Frag} {t : TS} {m : MS} (h : SndS K t m) : SndS K t m := h
end MI
set_option maxRecDepth 100000
set_option maxHeartbeats 4000000
/-! sorted(t), t a tuple. -/
namespace VX
open PySem PySem.Spec PyProof.Rows L2
section
variable {prog : Program} {w : World} {A : Around} {E : Value → Shared → Prop} {s : Shared}
theorem gatherT {t : Addr} {us : List Value} {R : List Value → Shared → Prop} (isT : s.heap.IsTuple t us.toArray) (le : us.length ≤ sizeLine)
    (k : R us { s with heap := (s.heap.push (seqObj "list" #[] 0)).update s.heap.objs.size (Obj.mapSeq (· ++ us.toArray)) }) : wpAny (model prog w) A (collect (.ref t)) R E s := by
  obtain ⟨ob, g1, g2, m, g3⟩ := id isT
  have g1' : (s.heap.push (seqObj "list" #[] 0)).get? t = some ob := Heap.get?_push_of_some _ g1
  have nu : (s.heap.push (seqObj "list" #[] 0)).get? s.heap.objs.size = some (seqObj "list" #[] 0) := Heap.get?_push_size _ rfl
  have sz : (#[] ++ us.toArray).size ≤ sizeLine + 1 := by
    simp only [Array.size_append, List.size_toArray, List.length_nil]
    omega
  unfold collect
  refine wpAny_bind (wpAny_runValue (codeAny_builtin entry_proto_collect' (wpAny_bind (wpAny_newList (wpAny_pure ⟨Code.quiet_builtin _ (by decide +kernel), codeAny_builtin entry_list_iadd' (?_ : wpAny _ _ (Builtin.List.listExtendWith (.ref s.heap.objs.size) (.ref t) (.ref s.heap.objs.size)) _ _ { s with heap := s.heap.push (seqObj "list" #[] 0) })⟩)))))
  unfold Builtin.List.listExtendWith
  refine wpAny_bind (wpAny_typeOf (T := "tuple") ⟨ob, g1', g2⟩ ?_)
  rw [if_pos (by rw [show (Value.type "tuple" == Value.type "tuple") = true from rfl, Bool.or_true])]
  refine wpAny_bind (listItems_at g1' g3 (wpAny_bind (listItems_at (xs := #[]) (n := 0) nu rfl ?_)))
  rw [if_neg (by simp)]
  refine wpAny_bind (listUpdate_at (xs := #[]) (n := 0) nu rfl (wpAny_pure (?_ : wpAny (model prog w) A _ R E { s with heap := (s.heap.push (seqObj "list" #[] 0)).update s.heap.objs.size (Obj.mapSeq (· ++ us.toArray)) })) (Nat.zero_le _) sz)
  refine wpAny_bind (wpAny_load (get?_update_seq nu _) (?_ : wpAny _ _ (pure ((#[] : Array Value) ++ us.toArray).toList) R E _))
  rw [show ((#[] : Array Value) ++ us.toArray).toList = us by simp]
  exact wpAny_pure k
open SrtO Srt in
theorem sortT_ord {t : Addr} {us : List Value} {lt : Value → Value → Bool} {R : Value → Shared → Prop} (O : Swo lt) (isT : s.heap.IsTuple t us.toArray) (le : us.length ≤ sizeLine)
    (ok : 2 ≤ us.length → ∀ (g : Heap) (c : Addr), g.get? c = some (seqObj "list" us.toArray 0) → (∀ b o, s.heap.get? b = some o → b ≠ c ∧ g.get? b = some o) → SortableO prog w A.in1.in1 { s with heap := g } c us lt)
    (k : ∀ out : List Value, Srtd lt out → Stb lt out us → R (.ref (s.heap.objs.size + 1)) { s with heap := sortedAll s.heap us out.toArray }) : wpAny (model prog w) A (call (.builtin "sorted") [.ref t]) R E s := by
  refine Calls.call_function_entry kind_sorted plain_sorted entry_sorted (args_sorted1 _) ?_
  unfold Builtin.«sorted»
  refine wpAny_bind (m := checkCount "sorted" 1 1 _) (wpAny_pure (wpAny_bind (gatherT isT le (wpAny_bind (wpAny_newList ?_ le)))))
  generalize hG : (s.heap.push (seqObj "list" #[] 0)).update s.heap.objs.size (Obj.mapSeq (· ++ us.toArray)) = G
  have zG : G.objs.size = s.heap.objs.size + 1 := by rw [← hG, Heap.size_update, size_push']
  have gG : ∀ b o, s.heap.get? b = some o → G.get? b = some o := fun b o q => by
    rw [← hG, Heap.get?_update_ne _ _ _ _ (Nat.ne_of_lt (Heap.lt_size q))]
    exact Heap.get?_push_of_some _ q
  have at1 : (G.push (seqObj "list" us.toArray 0)).get? (s.heap.objs.size + 1) = some (seqObj "list" us.toArray 0) := by
    rw [← zG]
    exact Heap.get?_push_size _ rfl
  have old : ∀ b o, s.heap.get? b = some o → b ≠ s.heap.objs.size + 1 ∧ (G.push (seqObj "list" us.toArray 0)).get? b = some o := fun b o q =>
    ⟨Nat.ne_of_lt (Nat.lt_succ_of_lt (Heap.lt_size q)), Heap.get?_push_of_some _ (gG b o q)⟩
  show wpAny _ _ _ _ _ { s with heap := G.push (seqObj "list" us.toArray 0) }
  rw [zG]
  have fin : ∀ out : List Value, Srtd lt out → Stb lt out us → R (.ref (s.heap.objs.size + 1)) { s with heap := sortedHeap (G.push (seqObj "list" us.toArray 0)) (s.heap.objs.size + 1) us out.toArray } := fun out x y => by
    rw [← hG]
    exact k out x y
  exact wpAny_bind (wpAny_holding (wpAny_call_entry slot_list_sort ⟨_, at1, rfl⟩ entry_list_sort (list_sort_ord O at1 le (fun two => ok two _ _ at1 old) fun out x y => ⟨_, rfl, wpAny_pure ⟨_, rfl, fin out x y⟩⟩) (args_list_sort _)))
end
section
variable {X : Cx} {pins : List (Addr × Obj)} {σ : L2.St} {H : Hp} {s : Shared}
/-- sorted(xs), xs a tuple of tuples that begin with d numbers, no two alike: a new list of the same, ascending -/
def rSortXT (K : PySem.W.Frag) (d : Nat) : List V → Hp → VK → Prop := fun vs H Q => ∃ (a : Addr) (xs : List V) (pr : V → List Int), vs = [V.ref a] ∧ SqT K H a xs ∧ (∀ x ∈ xs, TupX K H x (pr x) ∧ (pr x).length = d) ∧
  (∀ x ∈ xs, ∀ y ∈ xs, pr x = pr y → x = y) ∧ ∀ (ys : List V) (p : Addr), ys.Perm xs → ys.Pairwise (fun x y => lexL (pr y) (pr x) = false) → H p = none → Q (.ref p) (upd H p (.lst ys))
theorem cr_sortXT {d : Nat} (hd : 1 ≤ d) : CallR X (.builtin "sorted") (rSortXT X.K d) := by
  intro pins s σ H vs us Q I r h
  obtain ⟨a, xs, pr, rfl, hs, hx, one, q⟩ := h
  obtain ⟨its, rv, hl, hz⟩ := I.tuple hs
  rw [Vals.ref1 r]
  obtain ⟨e1, e2⟩ := bkV_refs rv fun x m => let ⟨⟨t, _, e, _⟩, _⟩ := hx x m; ⟨t, e⟩
  have back : ∀ v ∈ its, bkV v ∈ xs := fun v hv => by
    rw [e1]
    exact List.mem_map_of_mem hv
  have ok : PfxOk s.heap d its (fun u => pr (bkV u)) := by
    refine ⟨fun v hv => ?_, fun u v hu hv e => ?_⟩
    · obtain ⟨⟨t, xs', e, ht⟩, hn⟩ := hx _ (back v hv)
      refine ⟨?_, hn⟩
      rw [bkV_ref e]
      have ht : SqT X.K H t ((pr (bkV (.ref t))).map V.int ++ xs') := by rw [← bkV_ref e]; exact ht
      exact tupX_raw I ht
    · obtain ⟨t, rfl⟩ := e2 u hu
      obtain ⟨t', rfl⟩ := e2 v hv
      cases one _ (back _ hu) _ (back _ hv) e
      rfl
  refine sortT_ord (lexL_swo fun u => pr (bkV u)) hl (by rw [← rv.length]; exact hz) (fun h2 h₁ c hc kk => pfx_sortable hd h2 (ok.keeps fun b o e => (kk b o e).2) (not_tup hc)) fun out h1 h2 => ?_
  obtain ⟨ep, he⟩ := PyProof.Rows.sortedAll_at s.heap its out.toArray
  have hp : (out.map bkV).Perm xs := by
    rw [e1]
    exact h2.perm.map bkV
  refine ⟨.ref _, upd H (s.heap.objs.size + 1) (.lst (out.map bkV)), I.laid (t' := s.toks) (fun _ _ => PyProof.Rows.sortedAll_old) (Nat.le_succ _) ⟨by rw [hp.length_eq]; exact hz, out, ep, bkV_vals fun u m => e2 u (h2.perm.mem_iff.mp m), he⟩, rfl,
    q _ _ hp (SrtO.srtd_map (lt := fun x y => lexL (pr x) (pr y)) h1) (I.hok.fresh (Nat.le_succ _))⟩
end
def rSortKT (K : PySem.W.Frag) (d : Nat) : List V → Hp → VK → Prop := fun vs H Q => ∃ (a : Addr) (xs : List V) (nss : List (List Int)), vs = [V.ref a] ∧ SqT K H a xs ∧ xs.length = nss.length ∧ (∀ p ∈ xs.zip nss, TupX K H p.1 p.2 ∧ p.2.length = d) ∧
  nss.Nodup ∧ ∀ (zs : List (V × List Int)) (p : Addr), zs.Perm (xs.zip nss) → zs.Pairwise (fun x y => lexL y.2 x.2 = false) → H p = none → Q (.ref p) (upd H p (.lst (zs.map Prod.fst)))
theorem cr_sortKT {X : Cx} {d : Nat} (hd : 1 ≤ d) : CallR X (.builtin "sorted") (rSortKT X.K d) := by
  intro pins s σ H vs us Q I r h
  obtain ⟨a, xs, nss, rfl, hs, hl, hz, nd, q⟩ := h
  have fn : ∀ x ns ms, (x, ns) ∈ xs.zip nss → (x, ms) ∈ xs.zip nss → ns = ms := fun x ns ms h1 h2 => by
    obtain ⟨⟨t, ys, e, ht⟩, l1⟩ := hz _ h1
    obtain ⟨⟨t', ys', e', ht'⟩, l2⟩ := hz _ h2
    have e : x = V.ref t := e
    have e' : x = V.ref t' := e'
    rw [e] at e'
    cases e'
    exact Pfx.uniq (tupX_raw I ht) (tupX_raw I ht') (l1.trans l2.symm)
  let pr : V → List Int := fun x => ((xs.zip nss).find? fun p => decide (p.1 = x)).elim [] Prod.snd
  have hp : ∀ x ns, (x, ns) ∈ xs.zip nss → pr x = ns := fun x ns hm => by
    show ((xs.zip nss).find? fun p => decide (p.1 = x)).elim [] Prod.snd = ns
    cases e : (xs.zip nss).find? fun p => decide (p.1 = x) with
    | none =>
      have := List.find?_eq_none.mp e _ hm
      simp at this
    | some p =>
      have h1 := List.find?_some e
      have h2 := List.mem_of_find?_eq_some e
      have h1 : p.1 = x := of_decide_eq_true h1
      exact fn x p.2 ns (by rw [← h1]; exact h2) hm
  have mem : ∀ x ∈ xs, ∃ j ns, xs[j]? = some x ∧ nss[j]? = some ns := fun x hx => by
    obtain ⟨j, hj⟩ := List.mem_iff_getElem?.mp hx
    have l : j < nss.length := by rw [← hl]; exact (List.getElem?_eq_some_iff.mp hj).1
    exact ⟨j, _, hj, List.getElem?_eq_getElem l⟩
  have hmap : xs.map (fun x => (x, pr x)) = xs.zip nss := by
    apply List.ext_getElem?
    intro j
    rw [List.getElem?_map]
    cases e : xs[j]? with
    | none =>
      have l := List.getElem?_eq_none_iff.mp e
      rw [List.getElem?_eq_none (by rw [List.length_zip]; omega)]
      rfl
    | some x =>
      have l : j < nss.length := by rw [← hl]; exact (List.getElem?_eq_some_iff.mp e).1
      have e2 := List.getElem?_eq_getElem l
      rw [show (xs.zip nss)[j]? = some (x, nss[j]) from by rw [List.getElem?_zip_eq_some]; exact ⟨e, e2⟩]
      show some (x, pr x) = _
      rw [hp x _ (get_zip e e2)]
  refine cr_sortXT hd pins s σ H _ us Q I r ⟨a, xs, pr, rfl, hs, fun x hx => ?_, fun x hx y hy e => ?_, fun ys p perm pw np => ?_⟩
  · obtain ⟨j, ns, h1, h2⟩ := mem x hx
    rw [hp x ns (get_zip h1 h2)]
    exact hz _ (get_zip h1 h2)
  · obtain ⟨j, ns, h1, h2⟩ := mem x hx
    obtain ⟨i, ms, h3, h4⟩ := mem y hy
    rw [hp x ns (get_zip h1 h2), hp y ms (get_zip h3 h4)] at e
    subst e
    have l : j < nss.length := (List.getElem?_eq_some_iff.mp h2).1
    have := (List.getElem?_inj l nd).mp (h2.trans h4.symm)
    subst this
    rw [h1] at h3
    exact Option.some.inj h3
  · have := q (ys.map fun y => (y, pr y)) p (by rw [← hmap]; exact perm.map _) (by rw [List.pairwise_map]; exact pw) np
    rw [List.map_map] at this
    have e : ys.map (Prod.fst ∘ fun y => (y, pr y)) = ys := by
      have : (Prod.fst ∘ fun y => (y, pr y)) = (id : V → V) := rfl
      rw [this, List.map_id]
    rw [e] at this
    exact this
theorem i_sortKT {K : PySem.W.Frag} {F H : Hp} {Q : VK} {α : Type} {d : α → PyData} {k : α → List Int} {a : Addr} {xs : List V} {rs : List α} {m : Nat} (hs : SqT K H a xs) (eF : Same F H) (ha : DpAll K F xs (rs.map d))
    (ht : ∀ x r, r ∈ rs → Dp K H x (d r) → TupX K H x (k r) ∧ (k r).length = m) (nd : (rs.map k).Nodup)
    (q : ∀ (ys : List V) (qs : List α) (p : Addr), qs.Perm rs → qs.Pairwise (fun x y => lexL (k y) (k x) = false) → H p = none → DpAll K F ys (qs.map d) → Q (.ref p) (upd H p (.lst ys))) : rSortKT K m [.ref a] H Q := by
  have hl : xs.length = rs.length := by rw [dpa_len ha, List.length_map]
  refine ⟨a, xs, rs.map k, rfl, hs, by rw [hl, List.length_map], fun p hp => ?_, nd, fun zs p perm pw np => ?_⟩
  · obtain ⟨j, h1, h2⟩ := zip_get hp
    rw [List.getElem?_map] at h2
    cases e : rs[j]? with
    | none =>
      rw [e] at h2
      cases h2
    | some r =>
      rw [e] at h2
      have h2 : k r = p.2 := Option.some.inj h2
      obtain ⟨v, e1, q1⟩ := dpa_get (i := j) (d := d r) (ha.mono eF) (by rw [List.getElem?_map, e]; rfl)
      rw [h1] at e1
      cases e1
      rw [← h2]
      exact ht _ r (List.mem_of_getElem? e) q1
  · have e : xs.zip (rs.map k) = (xs.zip rs).map fun p => (p.1, k p.2) := by
      rw [List.zip_map_right]
      rfl
    rw [e] at perm
    obtain ⟨l, pl, rfl⟩ := perm_map_inv perm
    rw [List.map_map]
    rw [List.pairwise_map] at pw
    refine q _ (l.map Prod.snd) p ?_ (by rw [List.pairwise_map]; exact pw) np (dpa_of fun p hp => dpa_zip ha p (pl.mem_iff.mp hp))
    have := pl.map Prod.snd
    rwa [zip_map_snd hl] at this
end VX
set_option maxRecDepth 100000
set_option maxHeartbeats 4000000
/-! Proving over mirrors: loops, comprehensions, data. -/
namespace MI
open PySem PySem.Spec PyProof.Rows L2 VX
/-- a for by its invariant: the body is walked for whatever follows a turn -/
theorem forL_inv {g : MG} {b : MS} {D : MD} {items : List X} {env0 : List Y} (P : Nat → List Y → Prop) (h0 : P 0 env0)
    (hs : ∀ i x env (N : List Y → Prop), items[i]? = some x → P i env → (∀ env', P (i + 1) env' → N env') → g x env fun env' => b ⟨N, D.rt, D.nx, N⟩ env') (hd : ∀ env, P items.length env → D.nx env) : forL g b D items env0 := by
  have key : ∀ (k i : Nat) (env : List Y), items.length - i = k → i ≤ items.length → P i env → forL g b D (items.drop i) env := fun k => by
    induction k with
    | zero =>
      intro i env h1 h2 hp
      have e : i = items.length := by omega
      subst e
      rw [List.drop_length]
      exact hd env hp
    | succ k ih =>
      intro i env h1 h2 hp
      have hlt : i < items.length := by omega
      rw [List.drop_eq_getElem_cons hlt]
      exact hs i _ env (forL g b D (items.drop (i + 1))) (List.getElem?_eq_getElem hlt) hp fun env' h' => ih (i + 1) env' (by omega) hlt h'
  have := key _ 0 env0 rfl (Nat.zero_le _) h0
  rwa [List.drop_zero] at this
/-- the same over a mapped list -/
theorem forL_map {α : Type} {g : MG} {b : MS} {D : MD} {f : α → X} {as : List α} {env0 : List Y} (P : Nat → List Y → Prop) (h0 : P 0 env0)
    (hs : ∀ i a env (N : List Y → Prop), as[i]? = some a → P i env → (∀ env', P (i + 1) env' → N env') → g (f a) env fun env' => b ⟨N, D.rt, D.nx, N⟩ env') (hd : ∀ env, P as.length env → D.nx env) : forL g b D (as.map f) env0 :=
  forL_inv P h0 (fun i x env N hx hp hn => by
    rw [List.getElem?_map] at hx
    obtain ⟨a, ha, rfl⟩ := Option.map_eq_some_iff.mp hx
    exact hs i a env N ha hp hn) fun env hp => hd env (by rwa [List.length_map] at hp)
theorem rgX_map (lo : Int) (n : Nat) : rgX lo n = (List.range n).map fun i => X.int (lo + (i : Nat)) := rfl
/-- over range(n) -/
theorem forL_rg {g : MG} {b : MS} {D : MD} {lo : Int} {n : Nat} {env0 : List Y} (P : Nat → List Y → Prop) (h0 : P 0 env0)
    (hs : ∀ i env (N : List Y → Prop), i < n → P i env → (∀ env', P (i + 1) env' → N env') → g (.int (lo + (i : Nat))) env fun env' => b ⟨N, D.rt, D.nx, N⟩ env') (hd : ∀ env, P n env → D.nx env) : forL g b D (rgX lo n) env0 := by
  rw [rgX_map]
  refine forL_map P h0 (fun i a env N ha hp hn => ?_) fun env hp => hd env (by rwa [List.length_range] at hp)
  have hi : i < n := by
    have := (List.getElem?_eq_some_iff.mp ha).1
    rwa [List.length_range] at this
  rw [List.getElem?_range hi] at ha
  cases ha
  exact hs i env N hi hp hn
/-- a comprehension that keeps and maps -/
theorem lcL_fm {α : Type} {g : MG} {n : MT} {m : ME} {env : List Y} {q : List X → Prop} {f : α → X} {h : α → Option X} {as : List α} {acc : List X} (hl : acc.length + as.length ≤ 100000)
    (hs : ∀ a ∈ as, ∀ (A : X → Prop) (B : Prop), (match h a with
      | some y => A y
      | none => B) → g (f a) env fun env' => n env' fun b => if b = true then m env' A else B) (hq : q (acc ++ as.filterMap h)) : lcL g n m env (as.map f) acc q := by
  induction as generalizing acc with
  | nil => simpa [lcL] using hq
  | cons a as ih =>
    rw [List.map_cons]
    rw [List.length_cons] at hl
    unfold lcL
    have := hs a List.mem_cons_self (fun y => acc.length < 100000 ∧ lcL g n m env (as.map f) (acc ++ [y]) q) (lcL g n m env (as.map f) acc q)
    refine this ?_
    have ih' := fun acc hl hq => ih (acc := acc) hl (fun a ha => hs a (List.mem_cons_of_mem _ ha)) hq
    cases e : h a with
    | none =>
      rw [List.filterMap_cons_none e] at hq
      exact ih' acc (by omega) hq
    | some y =>
      rw [List.filterMap_cons_some e] at hq
      refine ⟨by omega, ih' _ ?_ ?_⟩
      · rw [List.length_append, List.length_singleton]
        omega
      · rwa [List.append_assoc]
theorem lcL_map {α : Type} {g : MG} {n : MT} {m : ME} {env : List Y} {q : List X → Prop} {f h : α → X} {as : List α} (hl : as.length ≤ 100000)
    (hs : ∀ a ∈ as, ∀ (A : X → Prop) (B : Prop), A (h a) → g (f a) env fun env' => n env' fun b => if b = true then m env' A else B) (hq : q (as.map h)) : lcL g n m env (as.map f) [] q :=
  lcL_fm (h := fun a => some (h a)) (by simpa using hl) hs (by
    have : as.filterMap (fun a => some (h a)) = as.map h := by rw [List.filterMap_eq_map']
    rw [this]
    exact hq)
/-- a comprehension by an invariant (draws in it) -/
theorem lcL_inv {g : MG} {n : MT} {m : ME} {env : List Y} {q : List X → Prop} {items : List X} (P : Nat → List X → Prop) (h0 : P 0 []) (hl : items.length ≤ 100000)
    (hs : ∀ i x acc (A : X → Prop) (B : Prop), items[i]? = some x → P i acc → (∀ y, P (i + 1) (acc ++ [y]) → A y) → (P (i + 1) acc → B) → g x env fun env' => n env' fun b => if b = true then m env' A else B)
    (hlen : ∀ i acc, P i acc → acc.length ≤ i) (hq : ∀ acc, P items.length acc → q acc) : lcL g n m env items [] q := by
  have key : ∀ (k i : Nat) (acc : List X), items.length - i = k → i ≤ items.length → P i acc → lcL g n m env (items.drop i) acc q := fun k => by
    induction k with
    | zero =>
      intro i acc h1 h2 hp
      have e : i = items.length := by omega
      subst e
      rw [List.drop_length]
      exact hq acc hp
    | succ k ih =>
      intro i acc h1 h2 hp
      have hlt : i < items.length := by omega
      rw [List.drop_eq_getElem_cons hlt]
      have := hlen i acc hp
      exact hs i _ acc _ _ (List.getElem?_eq_getElem hlt) hp (fun y hy => ⟨by omega, ih (i + 1) _ (by omega) hlt hy⟩) fun hy => ih (i + 1) acc (by omega) hlt hy
  have := key _ 0 [] rfl (Nat.zero_le _) h0
  rwa [List.drop_zero] at this
/-! data -/
mutual
def X.of : PyData → X
  | .none => .non
  | .bool b => .bl b
  | .int i => .int i
  | .str z => .str z
  | .list ds => .lst (ofL ds)
  | .tuple ds => .tup (ofL ds)
  | .dict _ => .pen
def ofL : List PyData → List X
  | [] => []
  | d :: ds => X.of d :: ofL ds
end
theorem ofL_map : ∀ ds : List PyData, ofL ds = ds.map X.of
  | [] => rfl
  | d :: ds => by unfold ofL; rw [ofL_map ds]; rfl
section
variable {K : PySem.W.Frag} {S : Addr → Prop} {F : Hp}
mutual
theorem Rv_of : ∀ {v : V} {d : PyData}, Dp K F v d → Rv K S F v (X.of d)
  | _, _, .non => .non
  | _, _, .bl b => .bl b
  | _, _, .int b => .int b
  | _, _, .str b => .str b
  | _, _, .lst h t => .lst h (RvL_of t)
  | _, _, .tup h t => .tup h (RvL_of t)
theorem RvL_of : ∀ {v : List V} {d : List PyData}, DpAll K F v d → RvL K S F v (ofL d)
  | _, _, .nil => .nil
  | _, _, .cons a t => .cons (Rv_of a) (RvL_of t)
end
end
/-- a draw -/
def mTake : List X → (X → Prop) → Prop := fun xs q => match xs with
  | [.pen, .int n] => 0 < n ∧ n < 1073741824 ∧ ∀ d, 0 ≤ d → d < n → q (.int d)
  | _ => False
/-! eqS by cases -/
theorem eqS_ii (i j : Int) : eqS (.int i) (.int j) = some (decide (i = j)) := rfl
theorem eqS_ss (i j : Str) : eqS (.str i) (.str j) = some (decide (i = j)) := rfl
theorem eqS_bb (i j : Bool) : eqS (.bl i) (.bl j) = some (decide (i = j)) := rfl
theorem eqS_nn : eqS .non .non = some true := rfl
theorem eqS_ni (j : Int) : eqS .non (.int j) = some false := rfl
theorem eqS_in (j : Int) : eqS (.int j) .non = some false := rfl
theorem eqS_ll (a b : List X) : eqS (.lst a) (.lst b) = none := rfl
theorem eqS_tt (a b : List X) : eqS (.tup a) (.tup b) = none := rfl
theorem isNon_n : isNon .non = some true := rfl
theorem isNon_i (i : Int) : isNon (.int i) = some false := rfl
theorem isNon_b (i : Bool) : isNon (.bl i) = some false := rfl
theorem isNon_s (i : Str) : isNon (.str i) = some false := rfl
theorem isNon_l (i : List X) : isNon (.lst i) = some false := rfl
theorem isNon_t (i : List X) : isNon (.tup i) = some false := rfl
theorem atI_nat {α : Type} {xs : List α} {i : Int} {x : α} (h0 : 0 ≤ i) (h : xs[i.toNat]? = some x) : atI xs i = some x := by
  have hl := (List.getElem?_eq_some_iff.mp h).1
  unfold atI ixN
  rw [if_pos h0, if_pos (by omega)]
  exact h
theorem atI_mapn {α β : Type} {xs : List α} {f : α → β} {i : Int} {x : α} (h0 : 0 ≤ i) (h : xs[i.toNat]? = some x) : atI (xs.map f) i = some (f x) := atI_nat h0 (by rw [List.getElem?_map, h]; rfl)
theorem at0 {α : Type} {a : α} {l : List α} : atI (a :: l) 0 = some a := by
  unfold atI ixN
  rw [if_pos (by decide), if_pos (by simp only [List.length_cons]; omega)]
  rfl
theorem at1 {α : Type} {a b : α} {l : List α} : atI (a :: b :: l) 1 = some b := by
  unfold atI ixN
  rw [if_pos (by decide), if_pos (by simp only [List.length_cons]; omega)]
  rfl
theorem at2 {α : Type} {a b c : α} {l : List α} : atI (a :: b :: c :: l) 2 = some c := by
  unfold atI ixN
  rw [if_pos (by decide), if_pos (by simp only [List.length_cons]; omega)]
  rfl
theorem at3 {α : Type} {a b c d : α} {l : List α} : atI (a :: b :: c :: d :: l) 3 = some d := by
  unfold atI ixN
  rw [if_pos (by decide), if_pos (by simp only [List.length_cons]; omega)]
  rfl
theorem at4 {α : Type} {a b c d e : α} {l : List α} : atI (a :: b :: c :: d :: e :: l) 4 = some e := by
  unfold atI ixN
  rw [if_pos (by decide), if_pos (by simp only [List.length_cons]; omega)]
  rfl
theorem ex_some {α : Type} {x : α} {P : α → Prop} : (∃ z, some x = some z ∧ P z) = P x := propext ⟨fun ⟨_, h, p⟩ => by cases h; exact p, fun p => ⟨x, rfl, p⟩⟩
theorem s_fr : (("free" : Str) = "ride") = False := eq_false (by decide)
theorem s_fa : (("free" : Str) = "act") = False := eq_false (by decide)
theorem s_ra : (("ride" : Str) = "act") = False := eq_false (by decide)
theorem s_ar : (("act" : Str) = "ride") = False := eq_false (by decide)
def xO : Option Int → X
  | none => .non
  | some i => .int i
def xW (u : W4) : X := .tup [.int u.s, .int u.t, .int u.lo, xO u.hi]
def xB (b : B3) : X := .tup [.int b.l, .int b.e, .int b.m]
def xP (p : Int × Int) : X := .tup [.int p.1, .int p.2]
end MI
set_option maxRecDepth 100000
set_option maxHeartbeats 4000000
/-! sorted over tuples told apart by their first numbers -/
namespace MI
open PySem PySem.Spec PyProof.Rows L2 VX
theorem perm_lift {α β : Type} {f : α → β} {m : List α} {l : List β} (h : l.Perm (m.map f)) : ∃ m' : List α, m'.Perm m ∧ m'.map f = l := by
  have key : ∀ {l k : List β}, l.Perm k → ∀ m : List α, m.map f = k → ∃ m' : List α, m'.Perm m ∧ m'.map f = l := fun {l k} h => by
    induction h with
    | nil => intro m hm; exact ⟨m, .refl _, hm⟩
    | cons x _ ih =>
      intro m hm
      obtain ⟨a, m1, rfl, rfl, hm1⟩ := List.map_eq_cons_iff.mp hm
      obtain ⟨m', p, e⟩ := ih m1 hm1
      exact ⟨a :: m', p.cons a, by rw [List.map_cons, e]⟩
    | swap x y l =>
      intro m hm
      obtain ⟨a, m1, rfl, rfl, hm1⟩ := List.map_eq_cons_iff.mp hm
      obtain ⟨b, m2, rfl, rfl, hm2⟩ := List.map_eq_cons_iff.mp hm1
      exact ⟨b :: a :: m2, .swap _ _ _, by rw [List.map_cons, List.map_cons, hm2]⟩
    | trans _ _ ih1 ih2 =>
      intro m hm
      obtain ⟨m1, p1, e1⟩ := ih2 m hm
      obtain ⟨m2, p2, e2⟩ := ih1 m1 e1
      exact ⟨m2, p2.trans p1, e2⟩
  exact key h m rfl
/-- begins with these numbers -/
def KeyX (d : Nat) (x : X) (ns : List Int) : Prop := ns.length = d ∧ ∃ r, x = .tup (ns.map .int ++ r)
theorem key_tupX {K : PySem.W.Frag} {S : Addr → Prop} {F : Hp} {d : Nat} {v : V} {x : X} {ns : List Int} (h : Rv K S F v x) (k : KeyX d x ns) : TupX K F v ns ∧ ns.length = d := by
  obtain ⟨l, r, rfl⟩ := k
  refine ⟨?_, l⟩
  cases h with
  | tup a b =>
    have split : ∀ {ns : List Int} {vs : List V} {r : List X}, RvL K S F vs (ns.map X.int ++ r) → ∃ us, vs = ns.map V.int ++ us := fun {ns} => by
      induction ns with
      | nil => intro vs r h; exact ⟨vs, rfl⟩
      | cons n ns ih =>
        intro vs r h
        cases h with
        | cons a t =>
          cases a
          obtain ⟨us, e⟩ := ih t
          exact ⟨us, by rw [e]; rfl⟩
    obtain ⟨us, rfl⟩ := split b
    exact ⟨_, us, rfl, a⟩
theorem TupX.mono {K : PySem.W.Frag} {F H : Hp} {v : V} {ns : List Int} (e : Same F H) (h : TupX K F v ns) : TupX K H v ns := let ⟨t, xs, a, b⟩ := h; ⟨t, xs, a, same_sqT e b⟩
/-- sorted: any list of the items in the order of their beginnings -/
def sortQ (d : Nat) (xs : List X) (q : List X → Prop) : Prop := ∃ key : X → List Int, (∀ x ∈ xs, KeyX d x (key x)) ∧ (xs.map key).Nodup ∧ ∀ ys : List X, ys.Perm xs → ys.Pairwise (fun x y => lexL (key y) (key x) = false) → q ys
def mSortL (d : Nat) : List X → (List X → Prop) → Prop := fun xs q => match xs with
  | [.lst ys] => sortQ d ys q
  | _ => False
def mSortT (d : Nat) : List X → (List X → Prop) → Prop := fun xs q => match xs with
  | [.tup ys] => sortQ d ys q
  | _ => False
theorem RvL.zip {K : PySem.W.Frag} {S : Addr → Prop} {F : Hp} : ∀ {vs : List V} {xs : List X}, RvL K S F vs xs → ∀ p ∈ vs.zip xs, Rv K S F p.1 p.2
  | _, _, .nil, p, h => by cases h
  | _, _, .cons a t, p, h => by
    rcases List.mem_cons.mp h with rfl | h
    · exact a
    · exact RvL.zip t p h
theorem RvL.of_zip {K : PySem.W.Frag} {S : Addr → Prop} {F : Hp} : ∀ {ps : List (V × X)}, (∀ p ∈ ps, Rv K S F p.1 p.2) → RvL K S F (ps.map Prod.fst) (ps.map Prod.snd)
  | [], _ => .nil
  | p :: ps, h => .cons (h p List.mem_cons_self) (RvL.of_zip fun q hq => h q (List.mem_cons_of_mem _ hq))
/-- what the rule asks and gives, over the pairs of values and data -/
theorem sort_core {K : PySem.W.Frag} {w : Wd} {d : Nat} {vs : List V} {xs : List X} {q : List X → Prop} (k : w.Ok) (r : RdL K w vs xs) (h : sortQ d xs q) :
    ∃ nss : List (List Int), vs.length = nss.length ∧ (∀ p ∈ vs.zip nss, TupX K w.H p.1 p.2 ∧ p.2.length = d) ∧ nss.Nodup ∧
      ∀ zs : List (V × List Int), zs.Perm (vs.zip nss) → zs.Pairwise (fun x y => lexL y.2 x.2 = false) → ∃ ys, q ys ∧ RdL K w (zs.map Prod.fst) ys := by
  obtain ⟨key, hk, nd, hq⟩ := h
  have l := r.len
  have ez : vs.zip (xs.map key) = (vs.zip xs).map fun p => (p.1, key p.2) := by
    rw [List.zip_map_right]
    rfl
  refine ⟨xs.map key, by rw [List.length_map]; exact l, fun p hp => ?_, nd, fun zs pz sz => ?_⟩
  · rw [ez] at hp
    obtain ⟨⟨v, x⟩, hm, rfl⟩ := List.mem_map.mp hp
    obtain ⟨a, b⟩ := key_tupX (RvL.zip r _ hm) (hk x (List.of_mem_zip hm).2)
    exact ⟨TupX.mono k.1 a, b⟩
  · rw [ez] at pz
    obtain ⟨ps, pp, rfl⟩ := perm_lift pz
    have e2 : ps.map Prod.snd = (ps.map fun p => (p.1, p.2)).map Prod.snd := by simp
    refine ⟨ps.map Prod.snd, hq _ ?_ ?_, ?_⟩
    · have := pp.map Prod.snd
      rwa [show (vs.zip xs).map Prod.snd = xs from List.map_snd_zip (by omega)] at this
    · rw [List.pairwise_map] at sz ⊢
      exact sz
    · rw [List.map_map]
      exact RvL.of_zip fun p hp => RvL.zip r p (pp.mem_iff.mp hp)
theorem cbN_sortL {K : PySem.W.Frag} {d : Nat} : CbN K (rSortK K d) (mSortL d) := fun σ env T w vs xs q R k s r hm hr => by
  unfold mSortL at hm
  split at hm
  · obtain ⟨v, rfl, rv⟩ := r.one
    obtain ⟨p, us, rfl, h1, h2⟩ := rv.lst k s
    obtain ⟨nss, a, b, c, e⟩ := sort_core k h2 hm
    refine ⟨p, us, nss, rfl, h1, a, b, c, fun zs l pz sz nl => ?_⟩
    obtain ⟨ys, hq, ry⟩ := e zs pz sz
    exact newN k (Ev.rfl k) nl ry hq hr
  · exact hm.elim
theorem cbN_sortT {K : PySem.W.Frag} {d : Nat} : CbN K (rSortKT K d) (mSortT d) := fun σ env T w vs xs q R k s r hm hr => by
  unfold mSortT at hm
  split at hm
  · obtain ⟨v, rfl, rv⟩ := r.one
    obtain ⟨p, us, rfl, h1, h2⟩ := rv.tup k
    obtain ⟨nss, a, b, c, e⟩ := sort_core k h2 hm
    refine ⟨p, us, nss, rfl, h1, a, b, c, fun zs l pz sz nl => ?_⟩
    obtain ⟨ys, hq, ry⟩ := e zs pz sz
    exact newN k (Ev.rfl k) nl ry hq hr
  · exact hm.elim
def intsOf : Nat → List X → List Int
  | 0, _ => []
  | d + 1, .int i :: r => i :: intsOf d r
  | _ + 1, _ => []
def keyN (d : Nat) : X → List Int
  | .tup xs => intsOf d xs
  | _ => []
theorem intsOf_at : ∀ (ns : List Int) (r : List X), intsOf ns.length (ns.map .int ++ r) = ns
  | [], _ => rfl
  | n :: ns, r => by
    show n :: intsOf ns.length (ns.map .int ++ r) = n :: ns
    rw [intsOf_at ns r]
theorem keyN_at {d : Nat} {x : X} {ns : List Int} (h : KeyX d x ns) : keyN d x = ns := by
  obtain ⟨rfl, r, rfl⟩ := h
  exact intsOf_at ns r
theorem sortQ_map {α : Type} {d : Nat} {f : α → X} {k : α → List Int} {as : List α} {q : List X → Prop} (hk : ∀ a, KeyX d (f a) (k a)) (nd : (as.map k).Nodup)
    (h : ∀ bs : List α, bs.Perm as → bs.Pairwise (fun x y => lexL (k y) (k x) = false) → q (bs.map f)) : sortQ d (as.map f) q := by
  have e : ∀ a, keyN d (f a) = k a := fun a => keyN_at (hk a)
  refine ⟨keyN d, fun x hx => ?_, ?_, fun ys py sy => ?_⟩
  · obtain ⟨a, _, rfl⟩ := List.mem_map.mp hx
    rw [e a]
    exact hk a
  · rw [List.map_map, show (keyN d ∘ f) = k from funext e]
    exact nd
  · obtain ⟨bs, pb, rfl⟩ := perm_lift py
    refine h bs pb ?_
    rw [List.pairwise_map] at sy
    exact sy.imp fun {a b} z => by rwa [e a, e b] at z
/-! in, of numbers and of pairs -/
theorem eqX_any (i : Int) : ∀ is : List Int, ((is.map X.int).any fun y => eqX y (.int i)) = decide (i ∈ is)
  | [] => rfl
  | j :: is => by
    rw [List.map_cons, List.any_cons, eqX_any i is]
    show ((j == i) || decide (i ∈ is)) = decide (i ∈ j :: is)
    by_cases h : i = j
    · subst h
      simp
    · have : (j == i) = false := beq_eq_false_iff_ne.mpr (Ne.symm h)
      rw [this, Bool.false_or]
      simp [h]
theorem flat_ints (is : List Int) : (is.map X.int).all flatX = true := by
  rw [List.all_eq_true]
  intro x hx
  obtain ⟨i, _, rfl⟩ := List.mem_map.mp hx
  rfl
theorem inI {neg : Bool} {i : Int} {is : List Int} {q : X → Prop} (h : q (.bl (if neg then !decide (i ∈ is) else decide (i ∈ is)))) : mOr2 (mIn neg) (mInD neg) (.int i) (.lst (is.map .int)) q := by
  refine .inl ⟨rfl, flat_ints is, ?_⟩
  rw [eqX_any]
  exact h
def dP (p : Int × Int) : PyData := .tuple [.int p.1, .int p.2]
theorem pyL_prs : ∀ ps : List (Int × Int), pyL (ps.map xP) = some (ps.map dP)
  | [] => rfl
  | p :: ps => by
    show (match X.py (xP p), pyL (ps.map xP) with
      | some d, some ds => some (d :: ds)
      | _, _ => none) = _
    rw [pyL_prs ps]
    rfl
theorem eqv_dP (p q : Int × Int) : PyData.eqv (dP p) (dP q) = decide (p = q) := by
  show ((p.1 == q.1) && ((p.2 == q.2) && true)) = decide (p = q)
  rw [Bool.and_true, Bool.eq_iff_iff]
  simp [Prod.ext_iff]
theorem lay_dPs : ∀ ps : List (Int × Int), PyData.canLayAll0 (ps.map dP) = true
  | [] => rfl
  | p :: ps => by
    show ((true && (true && true)) && PyData.canLayAll0 (ps.map dP)) = true
    rw [lay_dPs ps]
    rfl
theorem depth_dPs : ∀ ps : List (Int × Int), PyData.depthAll (ps.map dP) ≤ 1
  | [] => Nat.zero_le _
  | p :: ps => by
    show max (max 0 (max 0 0) + 1) (PyData.depthAll (ps.map dP)) ≤ 1
    have := depth_dPs ps
    omega
theorem shaped_dPs (ps : List (Int × Int)) : SeqAt.shaped (.list (ps.map dP)) = true := by
  refine Bool.and_eq_true_iff.mpr ⟨lay_dPs ps, decide_eq_true ?_⟩
  show PyData.depthAll (ps.map dP) + 1 ≤ 64
  have := depth_dPs ps
  omega
theorem shaped_dP (p : Int × Int) : SeqAt.shaped (dP p) = true := rfl
theorem any_dP (p : Int × Int) : ∀ ps : List (Int × Int), ((ps.map dP).any fun z => PyData.eqv z (dP p)) = decide (p ∈ ps)
  | [] => rfl
  | r :: ps => by
    rw [List.map_cons, List.any_cons, any_dP p ps, eqv_dP]
    by_cases h : r = p
    · subst h
      simp
    · rw [decide_eq_false h, Bool.false_or]
      have h' : ¬ p = r := fun e => h e.symm
      simp [h']
theorem inP {neg : Bool} {a b : Int} {ps : List (Int × Int)} {q : X → Prop} (h : q (.bl (if neg then !decide ((a, b) ∈ ps) else decide ((a, b) ∈ ps)))) : mOr2 (mIn neg) (mInD neg) (.tup [.int a, .int b]) (.lst (ps.map xP)) q := by
  refine .inr ?_
  unfold mInD
  rw [show X.py (.tup [.int a, .int b]) = some (dP (a, b)) from rfl, show X.py (.lst (ps.map xP)) = some (.list (ps.map dP)) by unfold X.py; rw [pyL_prs]; rfl]
  refine ⟨shaped_dP _, shaped_dPs _, ?_⟩
  rw [any_dP]
  exact h
/-! comprehensions that pick -/
theorem lc_fst {k : Nat} {env : List Y} {ds : List (Int × Int)} {q : List X → Prop} (hk : k < env.length) (hl : ds.length ≤ 100000) (hq : q ((ds.map (·.1)).map .int)) : lcL (mGn k) mYes (mOp mIx (mVarW k) (mC (.int 0))) env (ds.map xP) [] q := by
  refine lcL_map (h := fun p => .int p.1) hl (fun p _ A B hA => ?_) (by rwa [List.map_map] at hq)
  show (if true = true then mOp mIx (mVarW k) (mC (.int 0)) (env.set k (.x (xP p))) A else B)
  rw [if_pos rfl]
  unfold mOp mVarW
  rw [List.getElem?_set_self hk]
  exact ⟨_, at0, hA⟩
end MI
set_option maxRecDepth 100000
set_option maxHeartbeats 4000000
namespace MI
open PySem PySem.Spec PyProof.Rows L2 VX
/-! ### promises written by hand over worlds -/
/-- all that is new stays -/
def Wd.grown (w : Wd) (H' : Hp) : Wd := ⟨w.S, VX.grow w.F w.H H', H'⟩
theorem ev_grown {w : Wd} {H' : Hp} (k : w.Ok) (e : Same w.H H') : Ev w (w.grown H') := by
  refine ⟨fun b o h => ?_, fun b h g => ?_, fun b o h _ => (e b o h : H' b = some o), fun _ h => h, fun _ h g => absurd h g, ⟨fun b o h => ?_, fun p hp => ?_⟩⟩
  · have z : VX.grow w.F w.H H' b = H' b := by
      unfold VX.grow
      rw [h]
      exact if_neg Bool.false_ne_true
    exact z.trans (e b o (k.1 b o h))
  · have g : VX.grow w.F w.H H' b ≠ none := g
    cases z : w.H b with
    | none => trivial
    | some o =>
      exfalso
      apply g
      unfold VX.grow
      rw [h, z]
      rfl
  · have h : VX.grow w.F w.H H' b = some o := h
    show H' b = some o
    unfold VX.grow at h
    split at h
    · cases h
    · exact h
  · obtain ⟨h1, a, b, c, h2⟩ := k.2 p hp
    refine ⟨?_, a, b, c, e _ _ h2⟩
    have z : VX.grow w.F w.H H' p = none := by
      unfold VX.grow
      rw [h1, h2]
      exact if_pos rfl
    exact z
def spOf (K : PySem.W.Frag) (n : Nat) (mr : List X → (X → Prop) → Prop) : Sp := fun vs H Q _ => ∃ (w : Wd) (xs : List X) (q : X → Prop), w.H = H ∧ w.Ok ∧ RdL K w vs xs ∧ xs.length = n ∧ mr xs q ∧ ∀ x v w', q x → Ev w w' → Rd K w' v x → Q v w'.H
theorem spOf_p {K : PySem.W.Frag} {n : Nat} {mr : List X → (X → Prop) → Prop} (hn : ∀ xs q, mr xs q → xs.length = n) : SpP K (spOf K n mr) mr := fun w vs xs q R E k r hm hr => ⟨w, xs, q, rfl, k, r, hn xs q hm, hm, hr⟩
theorem spOf_len {K : PySem.W.Frag} {n : Nat} {mr : List X → (X → Prop) → Prop} {vs : List V} {H : Hp} {Q : VK} {E : XK} {ps : List Str} (h : spOf K n mr vs H Q E) (e : ps.length = n) : vs.length = ps.length := by
  obtain ⟨w, xs, q, _, _, r, l, _⟩ := h
  rw [r.len, l, e]
section
variable {K : PySem.W.Frag} {t ta tb tc te to : TE} {m ma mb mc me mo : ME} {mn : MEs} {i : Nat}
/-! objects by what is known of them -/
/-- P x y: x has the field y -/
def FldP (K : PySem.W.Frag) (f : Str) (P : X → X → Prop) : Prop := ∀ w v x y, w.Ok → Rd K w v x → P x y → ∃ a C dx fs u, v = .ref a ∧ w.H a = some (.ins C dx fs) ∧ Cls K C ∧ NoAttr K C f ∧ fs.lookup f = some u ∧ Rd K w u y
def mFldP (P : X → X → Prop) (m : ME) : ME := fun env q => m env fun x => ∃ y, P x y ∧ q y
theorem snd_fldP {f : Str} {P : X → X → Prop} (hp : FldP K f P) (h : Snd K t m) : Snd K (tFld K t f) (mFldP P m) := fun σ env T w q R k s hm hr => h σ env T w _ _ k s hm fun x v w1 h1 e1 r1 => by
  obtain ⟨y, hP, hq⟩ := h1
  obtain ⟨a, C, dx, fs, u, rfl, h2, h3, h4, h5, h6⟩ := hp w1 v x y e1.ok r1 hP
  exact ⟨a, C, dx, fs, u, rfl, h2, h3, h4, h5, hr y u w1 hq e1 h6⟩
/-- x is an object of the class C without a field m -/
def ObjP (K : PySem.W.Frag) (C : Addr) (m : Str) (P : X → Prop) : Prop := ∀ w v x, w.Ok → Rd K w v x → P x → ∃ a dx fs, v = .ref a ∧ w.H a = some (.ins C dx fs) ∧ fs.lookup m = none
def mMethP (P : X → Prop) (mr : List X → (X → Prop) → Prop) (mo : ME) (ma : MEs) : ME := fun env q => mo env fun o => P o ∧ ma env fun xs => mr (o :: xs) q
theorem snd_methP {C : Addr} {f : Str} {P : X → Prop} {sp : Sp} {E : XK} {mr : List X → (X → Prop) → Prop} {ta : TA} {ma : MEs} (hp : ObjP K C f P) (hs : SpP K sp mr) (ho : Snd K to mo) (ha : SndA K ta ma) : Snd K (tMeth C f sp [] E to ta) (mMethP P mr mo ma) := fun σ env T w q R k s hm hr => ho σ env T w _ _ k s hm fun o v w1 h1 e1 r1 => by
  obtain ⟨a, dx, fs, rfl, h2, h3⟩ := hp w1 v o e1.ok r1 h1.1
  refine ⟨a, dx, fs, rfl, h2, h3, ha σ env T w1 _ _ e1.ok (s.ev e1) h1.2 fun xs vs w2 hq2 e2 r2 => ?_⟩
  rw [List.append_nil]
  exact hs w2 _ _ q R E e2.ok (.cons (e2.rd r1) r2) hq2 fun x v w' hq e r => hr x v w' hq (e1.trans (e2.trans e)) r
/-! ### two fors in one comprehension -/
def lcIn (g1 : MG) (n1 : MT) (m : ME) (env : List Y) : List X → List X → (List X → Prop) → Prop := lcL g1 n1 m env
def lcO (g : MG) (n : MT) (mi1 : MI') (g1 : MG) (n1 : MT) (m : ME) (env : List Y) (vs1 : List Nat) : List X → List X → (List X → Prop) → Prop
  | [], acc, q => q acc
  | x :: r, acc, q => g x env fun env2 => n env2 fun b => if b = true then mi1 env2 fun items1 => lcL g1 n1 m (wipeY env2 vs1) items1 acc fun acc' => lcO g n mi1 g1 n1 m env vs1 r acc' q else lcO g n mi1 g1 n1 m env vs1 r acc q
def mLc2 (mi : MI') (g : MG) (n : MT) (mi1 : MI') (g1 : MG) (n1 : MT) (m : ME) (vs vs1 : List Nat) : MEs := fun env q => mi env fun items => lcO g n mi1 g1 n1 m (wipeY env vs) vs1 items [] q
theorem sndN_lc2 {wi wi1 : TI} {mi mi1 : MI'} {g g1 : TG} {mg mg1 : MG} {tt tt1 : TT} {n n1 : MT} {vs vs1 : List Nat} (hi : SndIW K wi mi) (hg : SndG K vs g mg) (ht : SndT K tt n) (hi1 : SndI K wi1 mi1) (hg1 : SndG K vs1 g1 mg1) (ht1 : SndT K tt1 n1) (he : Snd K te me) (vsub : ∀ i ∈ vs1, i ∈ vs) :
    SndN K (tLc2 wi g tt wi1 g1 tt1 te vs vs1) (mLc2 mi mg n mi1 mg1 n1 me vs vs1) := fun σ env T w q R k s hm hr =>
  hi σ env T w _ _ k s hm fun items J w1 h1 e1 it D nD => by
    have ec := Ev.cell (o := HO.lst []) e1.ok nD
    have fr := e1.ok.free nD
    let Z : Wd → List X → (List X → Prop) → Prop := fun w2 acc q' => ∃ us, Ev w1 w2 ∧ w2.H D = some (.lst us) ∧ w2.F D = none ∧ ¬ w2.S D ∧ RdL K w2 us acc
    let W : Nat → Nat → Hp → Prop := fun i mm H => mm = items.length - i ∧ i ≤ items.length ∧ ∃ w2 us acc, H = w2.H ∧ Ev w1 w2 ∧ w2.H D = some (.lst us) ∧ w2.F D = none ∧ ¬ w2.S D ∧ RdL K w2 us acc ∧ lcO mg n mi1 mg1 n1 me (wipeY env vs) vs1 (items.drop i) acc q
    refine ⟨W, ⟨items.length, by simp, Nat.zero_le _, w1.cell D (.lst []), [], [], rfl, ec, upd_same, fr.1, fr.2, .nil, h1⟩, ?_⟩
    rintro i mm H ⟨rfl, hi', w2, us, acc, rfl, e2, hD, hF, hS, ha, hl⟩
    obtain ⟨go, stop, yld⟩ := it w2 e2 e2.ok
    have liveG : ∀ {w2 w4 : Wd} {us : List V}, w2.H D = some (.lst us) → w2.F D = none → ¬ w2.S D → Ev w2 w4 → w4.F D = none ∧ ¬ w4.S D := fun {w2 w4 us} hD hF hS e => by
      refine ⟨?_, fun z => ?_⟩
      · cases z : w4.F D with
        | none => rfl
        | some o => exact (imm_lst (hD ▸ e.n D hF (by rw [z]; exact fun q => nomatch q))).elim
      · have := e.m D z hS
        rw [hD] at this
        cases this
    by_cases hlt : i < items.length
    · refine .inr ⟨go i hlt, fun H => ∃ mm, mm < items.length - i ∧ W (i + 1) mm H, fun H' z => z, fun v H' y => ?_⟩
      obtain ⟨w3, x, rfl, e3, hx, rx⟩ := yld i v H' hlt y
      have hd : items.drop i = x :: items.drop (i + 1) := by
        rw [List.drop_eq_getElem_cons hlt]
        rw [List.getElem?_eq_getElem hlt] at hx
        cases hx
        rfl
      rw [hd] at hl
      have s3 := st_wipe (((s.ev e1).ev e2).ev e3) vs
      refine hg (wipe σ vs) (wipeY env vs) T w3 v x _ _ e3.ok s3 rx hl fun env2 σ2 hq s' ew => ⟨ew.trans wipe_wipe, ?_⟩
      refine ht σ2 env2 T w3 _ _ e3.ok s' hq fun b w4 hb e4 => ?_
      have e34 := e3.trans e4
      have e24 := e2.trans e34
      have hD4 := e34.h _ _ hD hS
      have l4 := liveG hD hF hS e34
      have ha4 := e34.rdl ha
      cases b with
      | false =>
        rw [if_neg Bool.false_ne_true] at hb ⊢
        exact ⟨items.length - (i + 1), by omega, rfl, hlt, w4, us, acc, rfl, e24, hD4, l4.1, l4.2, ha4, hb⟩
      | true =>
        rw [if_pos rfl] at hb ⊢
        have s4 := s'.ev e4
        refine hi1 σ2 env2 T w4 _ _ e4.ok s4 hb fun items1 J1 w5 h5 e5 it1 => ?_
        have e25 := e24.trans e5
        have hD5 := e5.h _ _ hD4 l4.2
        have l5 := liveG hD4 l4.1 l4.2 e5
        have n1' : w1.H D = none := nD
        have stG : ∀ {σ' : L2.St} {env' : List Y} {w4 w6 : Wd}, St K σ' env' T w4 → Gr w4 w6 → Ev w1 w6 → St K σ' env' T w6 := fun {σ' env' w4 w6} s4 gr e => by
          have s6 := (s.ev e1).ev e
          refine ⟨s4.l, fun i y hy => ?_, s6.h, s6.m, s6.d⟩
          have := s4.r i y hy
          cases y with
          | u => trivial
          | x d => exact let ⟨v, a, b⟩ := this; ⟨v, a, b.mono gr.s gr.f⟩
          | o xs => exact let ⟨p, us, a, b, c⟩ := this; ⟨p, us, a, b, c.mono gr.s gr.f⟩
          | d xs => exact let ⟨p, us, a, b, c⟩ := this; ⟨p, us, a, b, c.mono gr.s gr.f⟩
        have sw := st_wipe s4 vs1
        refine ⟨fun j kk H => kk = items1.length - j ∧ j ≤ items1.length ∧ ∃ w6 us acc, H = w6.H ∧ Ev w1 w6 ∧ w6.H D = some (.lst us) ∧ w6.F D = none ∧ ¬ w6.S D ∧ RdL K w6 us acc ∧ Gr w5 w6 ∧ lcL mg1 n1 me (wipeY env2 vs1) (items1.drop j) acc fun acc' => lcO mg n mi1 mg1 n1 me (wipeY env vs) vs1 (items.drop (i + 1)) acc' q,
          ⟨items1.length, by simp, Nat.zero_le _, w5, us, acc, rfl, e25, hD5, l5.1, l5.2, e5.rdl ha4, Gr.rfl, h5⟩, ?_⟩
        rintro j kk H ⟨rfl, hj, w6, us6, acc6, rfl, e6, hD6, hF6, hS6, ha6, g6, hl6⟩
        obtain ⟨go1, stop1, yld1⟩ := it1 w6 ⟨g6.f, g6.s⟩ e6.ok
        by_cases hlt1 : j < items1.length
        · refine .inr ⟨go1 j hlt1, fun H => ∃ kk, kk < items1.length - j ∧ (kk = items1.length - (j + 1) ∧ j + 1 ≤ items1.length ∧ ∃ w6 us acc, H = w6.H ∧ Ev w1 w6 ∧ w6.H D = some (.lst us) ∧ w6.F D = none ∧ ¬ w6.S D ∧ RdL K w6 us acc ∧ Gr w5 w6 ∧ lcL mg1 n1 me (wipeY env2 vs1) (items1.drop (j + 1)) acc fun acc' => lcO mg n mi1 mg1 n1 me (wipeY env vs) vs1 (items.drop (i + 1)) acc' q), fun H' z => z, fun v1 H1 y1 => ?_⟩
          obtain ⟨w7, x1, rfl, e7, hx1, rx1⟩ := yld1 j v1 H1 hlt1 y1
          have hd1 : items1.drop j = x1 :: items1.drop (j + 1) := by
            rw [List.drop_eq_getElem_cons hlt1]
            rw [List.getElem?_eq_getElem hlt1] at hx1
            cases hx1
            rfl
          rw [hd1] at hl6
          have e17 := e6.trans e7
          have s7 := stG sw (e5.gr.trans (g6.trans e7.gr)) e17
          refine hg1 (wipe σ2 vs1) (wipeY env2 vs1) T w7 v1 x1 _ _ e7.ok s7 rx1 hl6 fun env3 σ3 hq3 s3' ew3 => ⟨ew3.trans wipe_wipe, ?_⟩
          refine ht1 σ3 env3 T w7 _ _ e7.ok s3' hq3 fun b w8 hb8 e8 => ?_
          have e78 := e7.trans e8
          have hD8 := e78.h _ _ hD6 hS6
          have l8 := liveG hD6 hF6 hS6 e78
          cases b with
          | false =>
            rw [if_neg Bool.false_ne_true] at hb8 ⊢
            exact ⟨items1.length - (j + 1), by omega, rfl, hlt1, w8, us6, acc6, rfl, e6.trans e78, hD8, l8.1, l8.2, e78.rdl ha6, g6.trans e78.gr, hb8⟩
          | true =>
            rw [if_pos rfl] at hb8 ⊢
            refine he σ3 env3 T w8 _ _ e8.ok (s3'.ev e8) hb8 fun z u w9 hz e9 rz => ?_
            have e69 := e78.trans e9
            have l9 := liveG hD6 hF6 hS6 e69
            refine ⟨us6, e69.h _ _ hD6 hS6, snd_size (by rw [ha6.len]; exact hz.1), items1.length - (j + 1), by omega, rfl, hlt1, w9.cell D (.lst (us6 ++ [u])), us6 ++ [u], acc6 ++ [z], rfl, (e6.trans e69).turn n1' l9.1 l9.2, upd_same, l9.1, l9.2, (e69.rdl ha6).snoc rz, ⟨(g6.trans e69.gr).f, (g6.trans e69.gr).s⟩, hz.2⟩
        · have e : j = items1.length := by omega
          subst e
          rw [List.drop_length] at hl6
          exact .inl ⟨stop1, items.length - (i + 1), by omega, rfl, hlt, w6, us6, acc6, rfl, e6, hD6, hF6, hS6, ha6, hl6⟩
    · have e : i = items.length := by omega
      subst e
      rw [List.drop_length] at hl
      exact .inl ⟨stop, hr acc D us w2 hl (e1.trans e2) (e1.none k nD) hF hS hD ha⟩
end
/-! not x, x a list -/
def mNotT (m : ME) : ME := fun env q => m env fun x => ∃ l, x = .lst l ∧ q (.bl l.isEmpty)
theorem snd_notT {K : PySem.W.Frag} {t : TE} {m : ME} (h : Snd K t m) : Snd K (tNotT K t) (mNotT m) := fun σ env T w q R k s hm hr => h σ env T w _ _ k s hm fun x v w1 h1 e1 r1 => by
  obtain ⟨l, rfl, hq⟩ := h1
  cases r1 with
  | @lst a vs _ hs hl =>
  refine ⟨!vs.isEmpty, .inl ⟨_, e1.ok.1.seq hs, rfl⟩, ?_⟩
  refine hr _ _ w1 hq e1 ?_
  have : (!(!vs.isEmpty)) = l.isEmpty := by
    cases hl <;> rfl
  rw [this]
  exact .bl _
end MI
set_option maxRecDepth 100000
set_option maxHeartbeats 4000000
/-! len(set(xs)) of any list of numbers -/
namespace VX
open PySem PySem.Spec PyProof.Rows L2
theorem fm_len {ns : List Int} : ∀ i, i ≤ ns.length → (firstMet (fun i => ns.getD i 0) i).length ≤ i ∧ ((firstMet (fun i => ns.getD i 0) i).length = i ↔ (ns.take i).Nodup)
  | 0, _ => ⟨Nat.le_refl _, by simp [firstMet_zero]⟩
  | i + 1, hi => by
    obtain ⟨l1, l2⟩ := fm_len (ns := ns) i (Nat.le_of_lt hi)
    have ht : ns.take (i + 1) = ns.take i ++ [ns[i]] := by rw [List.take_add_one, List.getElem?_eq_getElem hi]; rfl
    have hv : ns.getD i 0 = ns[i] := by rw [List.getD_eq_getElem?_getD, List.getElem?_eq_getElem hi]; rfl
    have ha : (firstMet (fun i => ns.getD i 0) i).any (· == ns[i]) = (ns.take i).any (· == ns[i]) := by
      rw [firstMet_any]
      congr 1
      apply List.ext_getElem?
      intro j
      rw [List.getElem?_map, List.getElem?_take]
      by_cases h : j < i
      · rw [if_pos h, List.getElem?_range h]
        show some (ns.getD j 0) = _
        rw [List.getD_eq_getElem?_getD, List.getElem?_eq_getElem (by omega)]
        rfl
      · rw [if_neg h, List.getElem?_eq_none (by rw [List.length_range]; omega)]
        rfl
    rw [firstMet_succ, ht, hv]
    have e : step_dedup (firstMet (fun i => ns.getD i 0) i) ns[i] = if (ns.take i).any (· == ns[i]) then firstMet (fun i => ns.getD i 0) i else firstMet (fun i => ns.getD i 0) i ++ [ns[i]] := by
      rw [← ha]
      rfl
    rw [e]
    have nd : (ns.take i ++ [ns[i]]).Nodup ↔ (ns.take i).Nodup ∧ ns[i] ∉ ns.take i := by
      rw [List.nodup_append]
      constructor
      · rintro ⟨a, _, c⟩
        exact ⟨a, fun z => c _ z _ (List.mem_singleton.mpr rfl) rfl⟩
      · rintro ⟨a, c⟩
        refine ⟨a, by simp, fun x hx y hy z => c ?_⟩
        rw [List.mem_singleton] at hy
        rw [← hy, ← z]
        exact hx
    rw [nd]
    by_cases h : ns[i] ∈ ns.take i
    · have : (ns.take i).any (· == ns[i]) = true := List.any_eq_true.mpr ⟨_, h, by simp⟩
      rw [if_pos this]
      exact ⟨by omega, ⟨fun z => by omega, fun z => absurd h z.2⟩⟩
    · have : (ns.take i).any (· == ns[i]) = false := by
        rw [Bool.eq_false_iff]
        intro z
        obtain ⟨y, hy, ey⟩ := List.any_eq_true.mp z
        rw [eq_of_beq ey] at hy
        exact h hy
      rw [this, if_neg Bool.false_ne_true, List.length_append, List.length_singleton]
      exact ⟨by omega, ⟨fun z => ⟨l2.mp (by omega), h⟩, fun z => by rw [l2.mpr z.1]⟩⟩
/-- len(set(xs)) -/
def tLenSetG (K : PySem.W.Frag) (ta : TE) : TE := fun σ H Q => ta σ H fun x H1 => ∃ (l : Addr) (ns : List Int), x = .ref l ∧ SqL K H1 l (ns.map V.int) ∧ ns.length ≤ 4000 ∧ ∀ k : Nat, k ≤ ns.length → (k = ns.length ↔ ns.Nodup) → Q (.int k) H1
theorem pe_lenSetG {X : Cx} {a : Expr} {ta : TE} {p p2 q pos : Pos} (hg : Gl X "len") (hm : X.mg "len" = none) (hg2 : Gl X "set") (hm2 : X.mg "set" = none) (ha : PE X a ta) (hc : X.calm = true := by rfl)
    (na : starEach [a] X.env = (false, eval a X.env) :: starEach [] X.env := by rfl) : PE X (.Call (.Name "len" p) [.Call (.Name "set" p2) [a] [] q] [] pos) (tLenSetG X.K ta) := by
  refine ⟨fun pins s σ H Q I h => Call_ (ld_blt I hg hm boot_len (callWith_builtin1 (args_cons (Call_ (ld_blt I hg2 hm2 boot_set (callWith_type1 (args_cons (thn (ha.run pins s σ H _ I h) fun v s1 ⟨x, H1, I1, r1, q1⟩ => args_nil ?_) na) na rfl))) rfl) rfl rfl))⟩
  obtain ⟨l, ns, rfl, hq, hl, q1⟩ := q1
  cases r1
  obtain ⟨its, r, pl, hz⟩ := I1.list hq
  have ln : its.toArray.size = ns.length := by rw [List.size_toArray, ← r.length, List.length_map]
  refine call_set_list (I1.ok.hd hc) pl.isList (by simpa using RZ.intsAre_vals r) (by rw [ln]; unfold scanBound; omega) fun h' tk hS hk => args_nil ?_
  obtain ⟨f1, f2⟩ := fm_len (ns := ns) ns.length (Nat.le_refl _)
  rw [List.take_length] at f2
  rw [ln] at hS
  obtain ⟨o, es, ep, t, ho, hex, hd, _, _, _, hf, hn⟩ := hS
  have I2 : Inv X pins σ H1 { s1 with heap := h', toks := tk } := I1.kept fun b o e => hk b o (Heap.lt_size e) e
  exact call_len_set ho hex hd hf (by rw [hn]; omega) ⟨.int (firstMet (fun i => ns.getD i 0) ns.length).length, H1, I2.tok _, ⟨_, by rw [hn]⟩, q1 _ f1 f2⟩
end VX
set_option maxRecDepth 100000
set_option maxHeartbeats 4000000
/-! Mirrors: zip in a comprehension, list.index, len(set(..)), the truth of a list. -/
namespace MI
open PySem PySem.Spec PyProof.Rows L2 VX
section
variable {K : PySem.W.Frag} {t ta tb tc te : TE} {m ma mb mc me : ME} {mn : MEs} {i : Nat}
def zpX (xs ys : List X) : List X := List.zipWith (fun a b => .tup [a, b]) xs ys
def mZip (m : MEs) : MI' := fun env q => m env fun zs => match zs with
  | [.lst xs, .lst ys] => q (zpX xs ys)
  | _ => False
theorem sndIW_zip {ta : TA} {ma : MEs} (h : SndAW K ta ma) : SndIW K (iZip K ta) (mZip ma) := fun σ env T w q R k s hm hr => h σ env T w _ _ k s hm fun zs vs w1 h1 e1 r1 => by
  split at h1
  · rename_i xs ys
    obtain ⟨v, u, rfl, rv, ru⟩ := r1.two
    obtain ⟨p, us, rfl, b, a⟩ := rv.lstE e1.ok (s.ev e1)
    obtain ⟨p', us', rfl, b', a'⟩ := ru.lstE e1.ok (s.ev e1)
    have lx : (zpX xs ys).length = min us.length us'.length := by
      unfold zpX
      rw [List.length_zipWith, b.len, b'.len]
    refine ⟨p, p', us, us', rfl, a w1 (Ev.rfl e1.ok), a' w1 (Ev.rfl e1.ok), hr _ _ w1 h1 e1 (itM_pair (f := fun i => xs[i]?) (g := fun i => ys[i]?) (walk_zip (K := K) (a := p) (b := p') (xs := us) (ys := us') rfl) lx (fun i hi => ?_) fun w' e2 k' => ⟨⟨a w' e2, a' w' e2⟩, fun i v u x y hi h1 h2 h3 h4 => ?_⟩)⟩
    · have l1 : i < xs.length := by have := b.len; omega
      have l2 : i < ys.length := by have := b'.len; omega
      refine ⟨xs[i], ys[i], List.getElem?_eq_getElem l1, List.getElem?_eq_getElem l2, ?_⟩
      unfold zpX
      rw [List.getElem?_zipWith, List.getElem?_eq_getElem l1, List.getElem?_eq_getElem l2]
    · obtain ⟨v', g1, g2⟩ := (e2.rdl b).get h3
      obtain ⟨u', g3, g4⟩ := (e2.rdl b').get h4
      rw [h1] at g1
      rw [h2] at g3
      cases g1
      cases g3
      exact ⟨g2, g4⟩
  · exact h1.elim
/-- xs.index(y), numbers -/
def mIndex (m ma : ME) : ME := fun env q => m env fun x => ∃ is : List Int, x = .lst (is.map .int) ∧ ma env fun y => ∃ (i : Int) (j : Nat), y = .int i ∧ is[j]? = some i ∧ (∀ (k : Nat) (u : Int), k < j → is[k]? = some u → u ≠ i) ∧ q (.int (j : Nat))
theorem flat_intsV (is : List Int) : (is.map V.int).all flatV = true := by
  rw [List.all_eq_true]
  intro x hx
  obtain ⟨i, _, rfl⟩ := List.mem_map.mp hx
  rfl
theorem snd_index (h : SndW K t m) (ha : SndW K ta ma) : Snd K (tBM K "list" (rIndex K) t (tCons ta tNil)) (mIndex m ma) := fun σ env T w q R k s hm hr => h σ env T w _ _ k s hm fun x v w1 h1 e1 r1 => by
  obtain ⟨is, rfl, h1⟩ := h1
  obtain ⟨p, vs, rfl, a, b⟩ := r1.lst e1.ok (s.ev e1)
  refine ⟨.inl ⟨rfl, vs, a⟩, ha σ env T w1 _ _ e1.ok (s.ev e1) h1 fun y u w2 h2 e2 r2 => ?_⟩
  obtain ⟨i, j, rfl, hj, hno, hq⟩ := h2
  obtain ⟨p', vs', ep, a', b'⟩ := (r1.ev e2).lst e2.ok ((s.ev e1).ev e2)
  cases ep
  cases r2.int
  rw [ints_v b'] at a'
  refine ⟨p, _, .int i, j, .int i, rfl, rfl, a', rfl, flat_intsV is, by rw [List.getElem?_map, hj]; rfl, by show (i == i) = true; simp, fun k z hk hz => ?_, hr _ _ w2 hq (e1.trans e2) (.int _)⟩
  rw [List.getElem?_map] at hz
  obtain ⟨u, hu, rfl⟩ := Option.map_eq_some_iff.mp hz
  show (u == i) = false
  simpa using hno k u hk hu
/-- len(set(xs)) -/
def mLenSet (m : ME) : ME := fun env q => m env fun x => ∃ ns : List Int, x = .lst (ns.map .int) ∧ ns.length ≤ 4000 ∧ ∀ k : Nat, k ≤ ns.length → (k = ns.length ↔ ns.Nodup) → q (.int k)
theorem snd_lenSet (h : SndW K t m) : Snd K (tLenSetG K t) (mLenSet m) := fun σ env T w q R k s hm hr => h σ env T w _ _ k s hm fun x v w1 h1 e1 r1 => by
  obtain ⟨ns, rfl, l, hq⟩ := h1
  obtain ⟨p, vs, rfl, a, b⟩ := r1.lst e1.ok (s.ev e1)
  rw [ints_v b] at a
  exact ⟨p, ns, rfl, a, l, fun k hk he => hr _ _ w1 (hq k hk he) e1 (.int _)⟩
/-- the truth of a list -/
def mTru (m : ME) : MT := fun env q => m env fun x => ∃ l, x = .lst l ∧ q (!l.isEmpty)
theorem sndT_tru (h : SndW K t m) : SndT K (fun σ H Q => t σ H fun x H' => ∃ k, TruV K x H' k ∧ Q k H') (mTru m) := fun σ env T w q R k s hm hr => h σ env T w _ _ k s hm fun x v w1 h1 e1 r1 => by
  obtain ⟨l, rfl, hq⟩ := h1
  obtain ⟨p, vs, rfl, a, b⟩ := r1.lst e1.ok (s.ev e1)
  refine ⟨_, .inl ⟨vs, a, rfl⟩, hr _ w1 ?_ e1⟩
  have : (!vs.isEmpty) = (!l.isEmpty) := by cases b <;> rfl
  rw [this]
  exact hq
end
end MI
set_option maxRecDepth 100000
set_option maxHeartbeats 4000000
/-! Mirrors: dicts by numbers. -/
namespace MI
open PySem PySem.Spec PyProof.Rows L2 VX
def valX (kvs : List (Key × X)) (k : Key) : Option X := (kvs.find? fun kv => decide (kv.1 = k)).map (·.2)
def putX (kvs : List (Key × X)) (k : Key) (x : X) : List (Key × X) := if (kvs.any fun kv => decide (kv.1 = k)) = true then kvs.map (fun kv => if kv.1 = k then (kv.1, x) else kv) else kvs ++ [(k, x)]
section
variable {K : PySem.W.Frag} {S : Addr → Prop} {F : Hp}
theorem RvK.len : ∀ {ws : List (Key × V)} {kvs : List (Key × X)}, RvK K S F ws kvs → ws.length = kvs.length
  | _, _, .nil => rfl
  | _, _, .cons _ t => congrArg (· + 1) (RvK.len t)
theorem RvK.val {k : Key} : ∀ {ws : List (Key × V)} {kvs : List (Key × X)}, RvK K S F ws kvs → (∀ x, valX kvs k = some x → ∃ v, valV ws k = some v ∧ Rv K S F v x) ∧ (valX kvs k = none → valV ws k = none)
  | _, _, .nil => ⟨fun x h => (by cases h), fun _ => rfl⟩
  | _, _, .cons (f := f) (v := v) (vs := vs) (x := x) (xs := xs) a t => by
    obtain ⟨h1, h2⟩ := RvK.val (k := k) t
    by_cases e : f = k
    · have e1 : valX ((f, x) :: xs) k = some x := by simp [valX, List.find?_cons, e]
      have e2 : valV ((f, v) :: vs) k = some v := valV_pos e
      rw [e1, e2]
      exact ⟨fun y hy => by cases hy; exact ⟨v, rfl, a⟩, fun h => by cases h⟩
    · have e1 : valX ((f, x) :: xs) k = valX xs k := by simp [valX, List.find?_cons, e]
      have e2 : valV ((f, v) :: vs) k = valV vs k := valV_neg e
      rw [e1, e2]
      exact ⟨h1, h2⟩
theorem RvK.snoc {k : Key} {v : V} {x : X} (a : Rv K S F v x) : ∀ {ws : List (Key × V)} {kvs : List (Key × X)}, RvK K S F ws kvs → RvK K S F (ws ++ [(k, v)]) (kvs ++ [(k, x)])
  | _, _, .nil => .cons a .nil
  | _, _, .cons b t => .cons b (RvK.snoc a t)
theorem RvK.any {k : Key} : ∀ {ws : List (Key × V)} {kvs : List (Key × X)}, RvK K S F ws kvs → (ws.any fun kv => decide (kv.1 = k)) = (kvs.any fun kv => decide (kv.1 = k))
  | _, _, .nil => rfl
  | _, _, .cons b t => by rw [List.any_cons, List.any_cons, RvK.any t]
theorem RvK.mapK {k : Key} {v : V} {x : X} (a : Rv K S F v x) : ∀ {ws : List (Key × V)} {kvs : List (Key × X)}, RvK K S F ws kvs → RvK K S F (ws.map fun kv => if kv.1 = k then (kv.1, v) else kv) (kvs.map fun kv => if kv.1 = k then (kv.1, x) else kv)
  | _, _, .nil => .nil
  | _, _, .cons (f := f) b t => by
    rw [List.map_cons, List.map_cons]
    by_cases e : f = k
    · rw [if_pos e, if_pos e]
      exact .cons a (RvK.mapK a t)
    · rw [if_neg e, if_neg e]
      exact .cons b (RvK.mapK a t)
theorem RvK.put {k : Key} {v : V} {x : X} (a : Rv K S F v x) {ws : List (Key × V)} {kvs : List (Key × X)} (r : RvK K S F ws kvs) : RvK K S F (putK ws k v) (putX kvs k x) := by
  unfold putK putX
  rw [r.any]
  split
  · exact r.mapK a
  · exact r.snoc a
end
/-! a dict that is read -/
abbrev MDx := List Y → (List (Key × X) → Prop) → Prop
def SndD (K : PySem.W.Frag) (t : TE) (m : MDx) : Prop := ∀ σ env T w (q : List (Key × X) → Prop) (R : VK), w.Ok → St K σ env T w → m env q → (∀ kvs p ws w', q kvs → Ev w w' → RvK K w'.S w'.F ws kvs → (∀ w2, Ev w' w2 → w2.H p = some (.dK ws)) → R (.ref p) w'.H) → t σ w.H R
def mDVar (i : Nat) : MDx := fun env q => match env[i]? with
  | some (.d kvs) => q kvs
  | some (.x (.dk kvs)) => q kvs
  | _ => False
def mDVal (m : ME) : MDx := fun env q => m env fun x => match x with
  | .dk kvs => q kvs
  | _ => False
section
variable {K : PySem.W.Frag} {t td tk tv tx : TE} {m mk mv mx : ME} {md : MDx} {i : Nat}
theorem sndD_var : SndD K (tVar i) (mDVar i) := fun σ env T w q R k s hm hr => by
  unfold mDVar at hm
  split at hm
  · rename_i kvs e
    obtain ⟨p, ws, h1, h2, h3⟩ := s.r i _ e
    exact ⟨.ref p, h1, hr kvs p ws w hm (Ev.rfl k) h3 fun w2 e2 => e2.h _ _ (s.h i p (.dK ws) h2).1 (s.h i p (.dK ws) h2).2.2⟩
  · rename_i kvs e
    obtain ⟨v, h1, h2⟩ := s.r i _ e
    cases h2 with
    | @dk a ws _ h3 h4 => exact ⟨.ref a, h1, hr kvs a ws w hm (Ev.rfl k) h4 fun w2 e2 => e2.ok.1 _ _ (e2.f _ _ h3)⟩
  · exact hm.elim
theorem sndD_val (h : Snd K t m) : SndD K t (mDVal m) := fun σ env T w q R k s hm hr => h σ env T w _ _ k s hm fun x v w1 h1 e1 r1 => by
  split at h1
  · rename_i kvs
    cases r1 with
    | @dk a ws _ h3 h4 => exact hr kvs a ws w1 h1 e1 h4 fun w2 e2 => e2.ok.1 _ _ (e2.f _ _ h3)
  · exact h1.elim
def mDGet (md : MDx) (mk : ME) : ME := fun env q => md env fun kvs => mk env fun y => match y with
  | .int i => ∃ x, valX kvs (.inl i) = some x ∧ q x
  | _ => False
theorem snd_dget (hd : SndD K td md) (hk : SndW K tk mk) : Snd K (tDGet td tk) (mDGet md mk) := fun σ env T w q R k s hm hr => hd σ env T w _ _ k s hm fun kvs p ws w1 h1 e1 r1 hp => hk σ env T w1 _ _ e1.ok (s.ev e1) h1 fun y u w2 h2 e2 r2 => by
  split at h2
  · rename_i i
    cases r2.int
    obtain ⟨x, hx, hq⟩ := h2
    obtain ⟨v, hv, rv⟩ := (r1.mono e2.s e2.f).val.1 x hx
    exact ⟨p, v, rfl, .inl ⟨ws, .inl i, .inl (hp w2 e2), rfl, hv.symm⟩, hr x v w2 hq (e1.trans e2) rv⟩
  · exact h2.elim
def mDGet1 (md : MDx) (mk : ME) : ME := fun env q => md env fun kvs => mk env fun y => match y with
  | .int i => q ((valX kvs (.inl i)).getD .non)
  | _ => False
theorem snd_dget1 (hd : SndD K td md) (hk : SndW K tk mk) : Snd K (tDGet1 td tk) (mDGet1 md mk) := fun σ env T w q R k s hm hr => hd σ env T w _ _ k s hm fun kvs p ws w1 h1 e1 r1 hp => ⟨p, rfl, .inl ⟨ws, .inl (hp w1 (Ev.rfl e1.ok))⟩, hk σ env T w1 _ _ e1.ok (s.ev e1) h1 fun y u w2 h2 e2 r2 => by
  split at h2
  · rename_i i
    cases r2.int
    refine ⟨valV ws (.inl i), .inl ⟨ws, .inl i, .inl (hp w2 e2), rfl, rfl⟩, ?_⟩
    have r := (r1.mono e2.s e2.f).val (k := .inl i)
    cases e : valX kvs (.inl i) with
    | none =>
      rw [e] at h2
      rw [r.2 e]
      exact hr _ _ w2 h2 (e1.trans e2) .non
    | some x =>
      rw [e] at h2
      obtain ⟨v, hv, rv⟩ := r.1 x e
      rw [hv]
      exact hr _ _ w2 h2 (e1.trans e2) rv
  · exact h2.elim⟩
def mDGet2 (md : MDx) (mk mx : ME) : ME := fun env q => md env fun kvs => mk env fun y => mx env fun z => match y with
  | .int i => q ((valX kvs (.inl i)).getD z)
  | _ => False
theorem snd_dget2 (hd : SndD K td md) (hk : SndW K tk mk) (hx : Snd K tx mx) : Snd K (tDGet2 td tk tx) (mDGet2 md mk mx) := fun σ env T w q R k s hm hr => hd σ env T w _ _ k s hm fun kvs p ws w1 h1 e1 r1 hp => ⟨p, rfl, .inl ⟨ws, .inl (hp w1 (Ev.rfl e1.ok))⟩, hk σ env T w1 _ _ e1.ok (s.ev e1) h1 fun y u w2 h2 e2 r2 => hx σ env T w2 _ _ e2.ok ((s.ev e1).ev e2) h2 fun z v3 w3 h3 e3 r3 => by
  split at h3
  · rename_i i
    cases r2.int
    have e13 := e1.trans (e2.trans e3)
    refine ⟨valV ws (.inl i), .inl ⟨ws, .inl i, .inl (hp w3 (e2.trans e3)), rfl, rfl⟩, ?_⟩
    have r := (r1.mono (e2.trans e3).s (e2.trans e3).f).val (k := .inl i)
    cases e : valX kvs (.inl i) with
    | none =>
      rw [e] at h3
      rw [r.2 e]
      exact hr _ _ w3 h3 e13 r3
    | some x =>
      rw [e] at h3
      obtain ⟨v, hv, rv⟩ := r.1 x e
      rw [hv]
      exact hr _ _ w3 h3 e13 rv
  · exact h3.elim⟩
theorem RvK.some {S : Addr → Prop} {F : Hp} {ws : List (Key × V)} {kvs : List (Key × X)} {k : Key} (r : RvK K S F ws kvs) : (valV ws k).isSome = (valX kvs k).isSome := by
  cases e : valX kvs k with
  | none => rw [r.val.2 e]; rfl
  | some x =>
    obtain ⟨v, hv, _⟩ := r.val.1 x e
    rw [hv]
    rfl
def mDIn (neg : Bool) (mk : ME) (md : MDx) : ME := fun env q => mk env fun y => md env fun kvs => match y with
  | .int i => q (.bl (if neg then !(valX kvs (.inl i)).isSome else (valX kvs (.inl i)).isSome))
  | _ => False
theorem snd_din (hk : SndW K tk mk) (hd : SndD K td md) : Snd K (tDIn tk td) (mDIn false mk md) := fun σ env T w q R k s hm hr => hk σ env T w _ _ k s hm fun y u w1 h1 e1 r1 => hd σ env T w1 _ _ e1.ok (s.ev e1) h1 fun kvs p ws w2 h2 e2 r2 hp => by
  split at h2
  · rename_i i
    cases (r1.ev e2).int
    refine ⟨p, _, rfl, .inl ⟨ws, .inl i, .inl (hp w2 (Ev.rfl e2.ok)), rfl, rfl⟩, ?_⟩
    rw [r2.some]
    exact hr _ _ w2 h2 (e1.trans e2) (.bl _)
  · exact h2.elim
theorem snd_dnotin (hk : SndW K tk mk) (hd : SndD K td md) : Snd K (tDNotIn tk td) (mDIn true mk md) := fun σ env T w q R k s hm hr => hk σ env T w _ _ k s hm fun y u w1 h1 e1 r1 => hd σ env T w1 _ _ e1.ok (s.ev e1) h1 fun kvs p ws w2 h2 e2 r2 hp => by
  split at h2
  · rename_i i
    cases (r1.ev e2).int
    refine ⟨p, _, rfl, .inl ⟨ws, .inl i, .inl (hp w2 (Ev.rfl e2.ok)), rfl, rfl⟩, ?_⟩
    rw [r2.some]
    exact hr _ _ w2 h2 (e1.trans e2) (.bl _)
  · exact h2.elim
end
section
variable {K : PySem.W.Frag} {t u : TS} {a b : MS} {te ti to tk tv : TE} {m mi mv mk : ME} {i : Nat} {w0 w w' : Wd} {σ : L2.St} {env : List Y} {T : Tk}
theorem imm_dk {l : List (Key × V)} : ¬ Imm (some (.dK l)) := id
/-- d = {} -/
def mDNew (i : Nat) : MS := fun D env => D.nx (env.set i (.d []))
theorem snd_dnew : SndS K (tAsg tDNewK (gName i)) (mDNew i) := fun w0 D M σ env T w R s hm p np => by
  have e := Ev.cell (o := HO.dK []) s.ok np
  have fr := s.ok.free np
  have s' := s.ev e
  have fr2 : ∀ j us, T j = some (p, us) → j = i := fun j us hj => by
    have := (s.s.h j p us hj).1
    rw [np] at this
    cases this
  refine R.nx _ _ _ (w.cell p (.dK [])) ⟨s'.e, s'.s.setC (y0 := .d []) i upd_same fr.1 fr.2 imm_dk fr2 ⟨p, [], rfl, if_pos rfl, .nil⟩, fun j q us hj => ?_⟩ e.gr hm
  have hj : (if j = i then some (p, HO.dK []) else T j) = some (q, us) := hj
  by_cases z : j = i
  · rw [if_pos z] at hj
    cases hj
    exact ev_none s.e np
  · rw [if_neg z] at hj
    exact s.n j q us hj
/-- d = {k: v} -/
def mDOne (i : Nat) (mk mv : ME) : MS := fun D env => mk env fun y => mv env fun x => match y with
  | .int j => D.nx (env.set i (.d [(.inl j, x)]))
  | _ => False
theorem snd_done (hk : SndW K tk mk) (hv : Snd K tv mv) : SndS K (tAsg (tDisp [(tk, tv)]) (gName i)) (mDOne i mk mv) := fun w0 D M σ env T w R s hm p np => by
  have e := Ev.cell (o := HO.dK []) s.ok np
  have fr := s.ok.free np
  have s' := s.ev e
  refine hk σ env T (w.cell p (.dK [])) _ _ e.ok s'.s hm fun y v1 w1 h1 e1 r1 => hv σ env T w1 _ _ e1.ok (s'.s.ev e1) h1 fun x v2 w2 h2 e2 r2 => ?_
  split at h2
  · rename_i j
    cases r1.int
    have e12 := e1.trans e2
    have hp2 : w2.H p = some (.dK []) := e12.h _ _ upd_same fr.2
    have fF : w2.F p = none := by
      cases z : w2.F p with
      | none => rfl
      | some o =>
        have := e12.n p fr.1 (by rw [z]; exact fun q => nomatch q)
        rw [show (w.cell p (.dK [])).H p = some (.dK []) from upd_same] at this
        exact (imm_dk this).elim
    have fS : ¬ w2.S p := fun z => by
      have := e12.m p z fr.2
      rw [show (w.cell p (.dK [])).H p = some (.dK []) from upd_same] at this
      cases this
    have n0 := ev_none s.e np
    have s2 := s'.ev e12
    have s3 : Sw K w0 σ env T (w2.cell p (.dK [(.inl j, v2)])) := ⟨s2.e.turn n0 fF fS, ⟨s2.s.l, fun i y hy => s2.s.r i y hy, fun q pp us hq => by
      obtain ⟨h1, h2, h3⟩ := s2.s.h q pp us hq
      have ne : pp ≠ p := fun z => by
        have := (s.s.h q pp us hq).1
        rw [z, np] at this
        cases this
      exact ⟨(upd_ne ne).trans h1, h2, h3⟩, s2.s.m, s2.s.d⟩, s2.n⟩
    have fr2 : ∀ j us, T j = some (p, us) → j = i := fun j us hj => by
      have := (s.s.h j p us hj).1
      rw [np] at this
      cases this
    refine ⟨hp2, [(.inl j, v2)], rfl, by show 1 ≤ 15; decide, ?_⟩
    refine R.nx _ _ _ (w2.cell p (.dK [(.inl j, v2)])) ⟨s3.e, s3.s.setC (y0 := .d [(.inl j, x)]) i upd_same fF fS imm_dk fr2 ⟨p, [(.inl j, v2)], rfl, if_pos rfl, .cons r2 .nil⟩, fun j' q us hj => ?_⟩ ⟨(e.trans e12).f, (e.trans e12).s⟩ h2
    have hj : (if j' = i then some (p, HO.dK [(.inl j, v2)]) else T j') = some (q, us) := hj
    by_cases z : j' = i
    · rw [if_pos z] at hj
      cases hj
      exact n0
    · rw [if_neg z] at hj
      exact s.n j' q us hj
  · exact h2.elim
/-- d[k] = v, d the slot's own -/
def mDPut (i : Nat) (mk mv : ME) : MS := fun D env => match env[i]? with
  | some (.d kvs) => mv env fun x => mk env fun y => match y with
    | .int j => kvs.length < 100000 ∧ D.nx (env.set i (.d (putX kvs (.inl j) x)))
    | _ => False
  | _ => False
theorem snd_dput (hv : Snd K tv mv) (hk : SndW K tk mk) : SndS K (tAsg tv (gSub (tVar i) tk rSetD)) (mDPut i mk mv) := fun w0 D M σ env T w R s hm => by
  unfold mDPut at hm
  split at hm
  · rename_i kvs e
    obtain ⟨p, ws, hσ, hT, r⟩ := s.s.r i _ e
    refine hv σ env T w _ _ s.ok s.s hm fun x v w1 h1 e1 r1 => ⟨.ref p, hσ, ?_⟩
    have s1 := s.ev e1
    refine hk σ env T w1 _ _ e1.ok s1.s h1 fun y u w2 h2 e2 r2 => ?_
    have s2 := s1.ev e2
    split at h2
    · rename_i j
      cases r2.int
      have r' := r.mono (e1.trans e2).s (e1.trans e2).f
      refine ⟨p, _, rfl, .inl ⟨ws, .inl j, (s2.s.h i p _ hT).1, rfl, snd_size (by rw [r'.len]; exact h2.1), rfl⟩, ?_⟩
      exact R.nx _ _ _ _ (s2.turnC (y0 := .d (putX kvs (.inl j) x)) hT hσ imm_dk ⟨p, putK ws (.inl j) v, rfl, if_pos rfl, r'.put (e2.rd r1)⟩) ⟨(e1.trans e2).f, (e1.trans e2).s⟩ h2.2
    · exact h2.elim
  · exact hm.elim
/-- from here on a slot's own dict stays as it is -/
def frzYD (env : List Y) (i : Nat) : List Y := match env[i]? with
  | some (.d xs) => env.set i (.x (.dk xs))
  | _ => env
def mFrzD (i : Nat) (a : MS) : MS := fun D env => a D (frzYD env i)
theorem snd_frzD (h : SndS K t a) : SndS K t (mFrzD i a) := fun w0 D M σ env T w R s hm => by
  unfold mFrzD frzYD at hm
  split at hm
  · rename_i xs e
    obtain ⟨p, vs, hσ, hT, r⟩ := s.s.r i _ e
    obtain ⟨hH, hF, hS⟩ := s.s.h i p (.dK vs) hT
    have n0 := s.n i p (.dK vs) hT
    have ek := s.e.keep n0 hF hS hH
    have hil : i < σ.length := (List.getElem?_eq_some_iff.mp hσ).1
    refine h w0 D M σ _ (fun j => if j = i then none else T j) (w.keep p (.dK vs)) (R.up ⟨keep_f hF, fun _ z => z⟩) ⟨ek, ⟨?_, fun j y hy => ?_, fun j q us hj => ?_, fun j q us hj => ?_, fun j k q us us' h1 h2 => ?_⟩, fun j q us hj => ?_⟩ hm
    · rw [List.length_set]
      exact s.s.l
    · rw [List.getElem?_set] at hy
      by_cases z : i = j
      · subst z
        rw [if_pos rfl, if_pos (s.s.l ▸ hil)] at hy
        cases hy
        exact ⟨_, hσ, .dk (show upd w.F p (.dK vs) p = some (.dK vs) from upd_same) (r.mono (fun _ z => z) (keep_f hF))⟩
      · rw [if_neg z] at hy
        have := s.s.r j y hy
        cases y with
        | u => trivial
        | x d => exact let ⟨v, a, b⟩ := this; ⟨v, a, b.mono (fun _ z => z) (keep_f hF)⟩
        | o xs' => exact let ⟨q, us, a, b, c⟩ := this; ⟨q, us, a, (if_neg (Ne.symm z)).trans b, c.mono (fun _ z => z) (keep_f hF)⟩
        | d xs' => exact let ⟨q, us, a, b, c⟩ := this; ⟨q, us, a, (if_neg (Ne.symm z)).trans b, c.mono (fun _ z => z) (keep_f hF)⟩
    · have hj : (if j = i then none else T j) = some (q, us) := hj
      by_cases z : j = i
      · rw [if_pos z] at hj
        cases hj
      · rw [if_neg z] at hj
        obtain ⟨h1, h2, h3⟩ := s.s.h j q us hj
        refine ⟨h1, ?_, h3⟩
        have ne : q ≠ p := fun y => z (by subst y; exact s.s.d j i q us (.dK vs) hj hT)
        exact (upd_ne ne).trans h2
    · have hj : (if j = i then none else T j) = some (q, us) := hj
      by_cases z : j = i
      · rw [if_pos z] at hj
        cases hj
      · rw [if_neg z] at hj
        exact s.s.m j q us hj
    · have h1 : (if j = i then none else T j) = some (q, us) := h1
      have h2 : (if k = i then none else T k) = some (q, us') := h2
      by_cases z : j = i
      · rw [if_pos z] at h1
        cases h1
      · by_cases z2 : k = i
        · rw [if_pos z2] at h2
          cases h2
        · rw [if_neg z] at h1
          rw [if_neg z2] at h2
          exact s.s.d j k q us us' h1 h2
    · have hj : (if j = i then none else T j) = some (q, us) := hj
      by_cases z : j = i
      · rw [if_pos z] at hj
        cases hj
      · rw [if_neg z] at hj
        exact s.n j q us hj
  · exact h w0 D M σ env T w R s hm
end
section
variable {K : PySem.W.Frag}
def mMaxL : List X → (X → Prop) → Prop := fun xs q => match xs with
  | [.lst ys] => ∃ ns : List Int, ys = ns.map .int ∧ 0 < ns.length ∧ ∀ m, m ∈ ns → (∀ y, y ∈ ns → y ≤ m) → q (.int m)
  | _ => False
def mMinL : List X → (X → Prop) → Prop := fun xs q => match xs with
  | [.lst ys] => ∃ ns : List Int, ys = ns.map .int ∧ 0 < ns.length ∧ ∀ m, m ∈ ns → (∀ y, y ∈ ns → m ≤ y) → q (.int m)
  | _ => False
theorem cb_maxL : CbM K (rMax K) mMaxL := fun σ env T w vs xs q R k s r hm hr => by
  unfold mMaxL at hm
  split at hm
  · obtain ⟨ns, rfl, h0, hq⟩ := hm
    obtain ⟨v, rfl, rv⟩ := r.one
    obtain ⟨p, us, rfl, h1, h2⟩ := rv.lst k s
    rw [ints_v h2] at h1
    exact ⟨p, ns, rfl, h1, h0, fun m hm hy => hr _ _ w (hq m hm hy) (Ev.rfl k) (.int _)⟩
  · exact hm.elim
theorem cb_minL : CbM K (rMin K) mMinL := fun σ env T w vs xs q R k s r hm hr => by
  unfold mMinL at hm
  split at hm
  · obtain ⟨ns, rfl, h0, hq⟩ := hm
    obtain ⟨v, rfl, rv⟩ := r.one
    obtain ⟨p, us, rfl, h1, h2⟩ := rv.lst k s
    rw [ints_v h2] at h1
    exact ⟨p, ns, rfl, h1, h0, fun m hm hy => hr _ _ w (hq m hm hy) (Ev.rfl k) (.int _)⟩
  · exact hm.elim
end
end MI
set_option maxRecDepth 100000
set_option maxHeartbeats 4000000
/-! Mirrors: insert into an own list. -/
namespace MI
open PySem PySem.Spec PyProof.Rows L2 VX
def rIns : V → List V → Hp → VK → Prop := fun x vs H Q => ∃ (l : Addr) (xs : List V) (i : Int) (y : V), x = .ref l ∧ vs = [.int i, y] ∧ H l = some (.lst xs) ∧ xs.length < sizeLine ∧ 0 ≤ i ∧ i < 2 ^ 63 ∧ Q .non (upd H l (.lst (xs.take i.toNat ++ [y] ++ xs.drop i.toNat)))
theorem mt_ins {X : Cx} : MtR X "list.insert" rIns := mt_insert
section
variable {K : PySem.W.Frag} {tk tv : TE} {mk mv : ME} {i : Nat}
def mIns (i : Nat) (mk mv : ME) : MS := fun D env => match env[i]? with
  | some (.o xs) => mk env fun y => match y with
    | .int k => mv env fun x => 0 ≤ k ∧ k ≤ 1000 ∧ xs.length < 100000 ∧ D.nx (env.set i (.o (xs.take k.toNat ++ [x] ++ xs.drop k.toNat)))
    | _ => False
  | _ => False
theorem snd_ins (hk : SndW K tk mk) (hv : Snd K tv mv) : SndS K (tDrop (tBM K "list" rIns (tVar i) (tCons tk (tCons tv tNil)))) (mIns i mk mv) := fun w0 D M σ env T w R s hm => by
  unfold mIns at hm
  split at hm
  · rename_i xs e
    obtain ⟨p, vs, hσ, hT, r⟩ := s.s.r i _ e
    obtain ⟨hH, hF, hS⟩ := s.s.h i p _ hT
    refine ⟨.ref p, hσ, .inl ⟨rfl, vs, SqL.of hH⟩, ?_⟩
    refine hk σ env T w _ _ s.ok s.s hm fun y u w1 h1 e1 r1 => ?_
    have s1 := s.ev e1
    split at h1
    · rename_i k
      cases r1.int
      refine hv σ env T w1 _ _ e1.ok s1.s h1 fun x v w2 hq e2 rx => ?_
      have s2 := s1.ev e2
      have hH' := (s2.s.h i p _ hT).1
      have e12 := e1.trans e2
      have r2 := e12.rdl r
      refine ⟨p, vs, k, v, rfl, rfl, hH', snd_size (by rw [r.len]; exact hq.2.2.1), hq.1, by have := hq.2.1; omega, ?_⟩
      exact R.nx _ _ _ _ (s2.turn hT hσ (((r2.take k.toNat).snoc rx).app (r2.drop k.toNat))) ⟨e12.f, e12.s⟩ hq.2.2.2
    · exact h1.elim
  · exact hm.elim
end
end MI
set_option maxRecDepth 100000
set_option maxHeartbeats 4000000
/-! sum(list of numbers) in mirrors. -/
namespace MI
open PySem PySem.Spec PyProof.Rows L2 VX
section
variable {K : PySem.W.Frag}
def mSum : List X → (X → Prop) → Prop := fun xs q => match xs with
  | [.lst ys] => ∃ ns : List Int, ys = ns.map .int ∧ q (.int ns.sum)
  | _ => False
theorem cb_sum : CbM K (rSum K) mSum := fun σ env T w vs xs q R k s r hm hr => by
  unfold mSum at hm
  split at hm
  · obtain ⟨ns, rfl, hq⟩ := hm
    obtain ⟨v, rfl, rv⟩ := r.one
    obtain ⟨p, us, rfl, h1, h2⟩ := rv.lst k s
    rw [ints_v h2] at h1
    exact ⟨p, ns, rfl, h1, hr _ _ w hq (Ev.rfl k) (.int _)⟩
  · exact hm.elim
end
end MI
set_option maxRecDepth 100000
set_option maxHeartbeats 4000000
/-! Errors with two attributes. -/
namespace VX
open PySem PySem.Spec PyProof.Rows L2
/-- def __init__(self, x, y): self.x = x; self.y = y (the dict as it stands in the end: fs) -/
def spX2 (K : PySem.W.Frag) (n m : Str) : Sp := fun vs H Q _ => ∃ a C v u, vs = [.ref a, v, u] ∧ OexC K C ∧ PySem.W.findIn K (.ref C) n = some none ∧ PySem.W.findIn K (.ref C) m = some none ∧ H a = some (exo a C none) ∧
  ∀ dx fs, H dx = none → dx ≠ a → fs.lookup n = some v → fs.lookup m = some u → Q .non (upd (upd H dx (exd dx fs)) a (exo a C (some dx)))
section
variable {X : Cx} {CX : CXT} {k : Nat} {f C : Addr} {fd : FuncData} {ps : List Str} {e : Expr} {es : List Expr} {ta : TA} {x n m : Str} {p pos : Pos}
/-- C(v, u), two fields -/
def tMk2 (C : Addr) (n m : Str) (ta : TA) : L2.St → Hp → XK → Prop := fun σ H Q => ta σ H fun vs H1 => ∃ v u, vs = [v, u] ∧ ∀ d H' fs, H1 d = none → Same H1 H' → fs.lookup n = some v → fs.lookup m = some u → H' d = some (.xd fs) → Q (.ref C) (some d) H'
theorem pmk2 (T : OexC X.K C) (iC : PySem.W.findIn X.K (.ref C) "__init__" = some (some (.ref f))) (tI : PySem.W.typeIn X.K (.ref f) = some (.type "function")) (hn : PySem.W.findIn X.K (.ref C) n = some none) (hm' : PySem.W.findIn X.K (.ref C) m = some none)
    (F : FnOk X.prog X.w X.K X.mg X.base CX0 k f fd ps (spX2 X.K n m)) (hr : Room (k + 1) X.A) (hb : Binds X.K fd ps []) (hg : Gl X x) (hm : X.mg x = some (.ref C)) (ha : PA X (e :: es) ta)
    (hdb : (x == ("__debug__" : Str)) = false := by decide) (he : starEach (e :: es) X.env = (false, eval e X.env) :: starEach es X.env := by rfl) (hpl : (backTo pos (starEach es X.env)).any (·.1) = false := by rfl) :
    PMk X (.Call (.Name x p) (e :: es) [] pos) (tMk2 C n m ta) := by
  intro pins s σ H Q I h
  refine pmk_oex T iC tI F hr hb .nil pass0 hg hm (pa_up ha) hdb he hpl pins s σ H Q I ⟨_, h, ?_⟩
  rintro vs H1 ⟨v, u, rfl, q⟩
  refine ⟨by show 2 ≤ 1000; decide, fun a na => ⟨a, C, v, u, rfl, T, hn, hm', upd_same, fun dx fs nd ne l1 l2 => ⟨rfl, dx, fs, upd_same, ?_, ?_, ?_⟩⟩⟩
  · rw [upd_ne ne, upd_same]
  · rw [upd_ne ne] at nd
    exact nd
  · rw [upd_ne ne] at nd
    refine q dx _ fs nd (fun b o hb => ?_) l1 l2 upd_same
    have b1 : b ≠ dx := ne_of_none hb nd
    have b2 : b ≠ a := ne_of_none hb na
    rw [upd_ne b1, del_ne b2, upd_ne b2, upd_ne b1, upd_ne b2]
    exact hb
theorem i_mk2 {σ : L2.St} {H : Hp} {Q : XK} (q : ta σ H fun vs H1 => ∃ v u, vs = [v, u] ∧ ∀ d H' fs, H1 d = none → Same H1 H' → fs.lookup n = some v → fs.lookup m = some u → H' d = some (.xd fs) → Q (.ref C) (some d) H') : tMk2 C n m ta σ H Q := q
end
end VX
set_option maxRecDepth 100000
set_option maxHeartbeats 4000000
/-! Ways over a line whose wires have hours of at least 1: the least sums, and the least list among the ways with the least sum. No Python here. -/
namespace Way
open VX
/-- a wire (source, target, hours) -/
abbrev Ed := Int × Int × Int
/-- a way from a to b (the list of its boxes) and its hours -/
inductive Wk (E : List Ed) : Int → List Int → Int → Int → Prop
  | one (a : Int) : Wk E a [a] a 0
  | step {a m b c h : Int} {l : List Int} : (a, m, c) ∈ E → Wk E m l b h → Wk E a (a :: l) b (c + h)
section
variable {E : List Ed} {a b h : Int} {l : List Int}
theorem Wk.head (w : Wk E a l b h) : ∃ r, l = a :: r := by
  cases w with
  | one => exact ⟨[], rfl⟩
  | step => exact ⟨_, rfl⟩
theorem Wk.ne (w : Wk E a l b h) : l ≠ [] := by
  obtain ⟨r, rfl⟩ := w.head
  simp
theorem Wk.last (w : Wk E a l b h) : l.getLast? = some b := by
  induction w with
  | one => rfl
  | @step a m b c h l _ w ih =>
    obtain ⟨r, rfl⟩ := w.head
    rw [List.getLast?_cons_cons]
    exact ih
theorem Wk.nonneg (pos : ∀ e ∈ E, 1 ≤ e.2.2) (w : Wk E a l b h) : 0 ≤ h := by
  induction w with
  | one => exact Int.le_refl _
  | step he _ ih =>
    have := pos _ he
    simp only at this
    omega
/-- a way of no hours stands still -/
theorem Wk.zero (pos : ∀ e ∈ E, 1 ≤ e.2.2) (w : Wk E a l b h) (h0 : h ≤ 0) : l = [a] ∧ a = b := by
  cases w with
  | one => exact ⟨rfl, rfl⟩
  | step he w =>
    have h1 := pos _ he
    have h2 := w.nonneg pos
    simp only at h1
    omega
/-- at the end one wire more -/
theorem Wk.snoc {m c : Int} (w : Wk E a l b h) (he : (b, m, c) ∈ E) : Wk E a (l ++ [m]) m (h + c) := by
  induction w with
  | one a =>
    have := Wk.step he (Wk.one (E := E) m)
    simpa [Int.add_comm] using this
  | @step a n b c' h l h1 _ ih =>
    have := Wk.step h1 (ih he)
    rw [Int.add_assoc]
    exact this
/-- without its last wire -/
theorem Wk.init (w : Wk E a l b h) : (l = [a] ∧ b = a ∧ h = 0) ∨ ∃ l' m c h', l = l' ++ [b] ∧ Wk E a l' m h' ∧ (m, b, c) ∈ E ∧ h = h' + c := by
  induction w with
  | one => exact .inl ⟨rfl, rfl, rfl⟩
  | @step a m b c h l h1 w ih =>
    refine .inr ?_
    rcases ih with ⟨rfl, rfl, rfl⟩ | ⟨l', m', c', h', rfl, w', he, rfl⟩
    · exact ⟨[a], a, c, 0, rfl, .one a, h1, by omega⟩
    · exact ⟨a :: l', m', c', c + h', rfl, .step h1 w', he, by omega⟩
theorem Wk.all {P : Int → Prop} (hE : ∀ e ∈ E, P e.2.1) (ha : P a) (w : Wk E a l b h) : ∀ x ∈ l, P x := by
  induction w with
  | one =>
    intro x hx
    rw [List.mem_singleton] at hx
    subst hx
    exact ha
  | @step a m b c h l h1 _ ih =>
    intro x hx
    rcases List.mem_cons.mp hx with rfl | hx
    · exact ha
    · exact ih (hE _ h1) x hx
end
/-- sums to the target b: sound, and closed -/
structure Sums (E : List Ed) (b : Int) (d : Int → Option Int) : Prop where
  sound : ∀ v h, d v = some h → ∃ l, Wk E v l b h
  tgt : d b = some 0
  closed : ∀ s t c h, (s, t, c) ∈ E → d t = some h → ∃ h', d s = some h' ∧ h' ≤ h + c
section
variable {E : List Ed} {b : Int} {d : Int → Option Int}
theorem Sums.least (S : Sums E b d) {v h : Int} {l : List Int} (w : Wk E v l b h) : ∃ h', d v = some h' ∧ h' ≤ h := by
  have : ∀ {v x h : Int} {l : List Int}, Wk E v l x h → x = b → ∃ h', d v = some h' ∧ h' ≤ h := by
    intro v x h l w
    induction w with
    | one a =>
      intro e
      subst e
      exact ⟨0, S.tgt, Int.le_refl _⟩
    | @step a m x c h l he _ ih =>
      intro e
      obtain ⟨h1, d1, l1⟩ := ih e
      obtain ⟨h2, d2, l2⟩ := S.closed _ _ _ _ he d1
      exact ⟨h2, d2, by omega⟩
  exact this w rfl
theorem Sums.none (S : Sums E b d) {v : Int} (hv : d v = none) {h : Int} {l : List Int} : ¬ Wk E v l b h := fun w => by
  obtain ⟨h', e, _⟩ := S.least w
  rw [hv] at e
  cases e
theorem Sums.nonneg (S : Sums E b d) (pos : ∀ e ∈ E, 1 ≤ e.2.2) {v h : Int} (hv : d v = some h) : 0 ≤ h := by
  obtain ⟨l, w⟩ := S.sound _ _ hv
  exact w.nonneg pos
theorem Sums.at0 (S : Sums E b d) (pos : ∀ e ∈ E, 1 ≤ e.2.2) {v h : Int} (hv : d v = some h) (h0 : h ≤ 0) : v = b := by
  obtain ⟨l, w⟩ := S.sound _ _ hv
  exact (w.zero pos h0).2
/-- a way with the least sum: its first step leads to a box with just the rest -/
theorem Sums.step (S : Sums E b d) {a m c h : Int} {l : List Int} (he : (a, m, c) ∈ E) (w : Wk E m l b h) (hd : d a = some (c + h)) : d m = some h := by
  obtain ⟨h1, d1, l1⟩ := S.least w
  obtain ⟨h2, d2, l2⟩ := S.closed _ _ _ _ he d1
  rw [hd] at d2
  cases d2
  have : h1 = h := by omega
  rw [d1, this]
/-- and no box stands in it twice: the sums fall from box to box -/
theorem Sums.falls (S : Sums E b d) (pos : ∀ e ∈ E, 1 ≤ e.2.2) {v h : Int} {l : List Int} (w : Wk E v l b h) (hd : d v = some h) : l.Nodup ∧ ∀ x ∈ l, ∃ k, d x = some k ∧ k ≤ h := by
  have : ∀ {v x h : Int} {l : List Int}, Wk E v l x h → x = b → d v = some h → l.Nodup ∧ ∀ y ∈ l, ∃ k, d y = some k ∧ k ≤ h := by
    intro v x h l w
    induction w with
    | one a =>
      intro e hd
      refine ⟨by simp, fun y hy => ?_⟩
      rw [List.mem_singleton] at hy
      subst hy
      exact ⟨0, hd, Int.le_refl _⟩
    | @step a m x c h l he w ih =>
      intro e hd
      have w' : Wk E m l b h := e ▸ w
      have dm := S.step he w' hd
      obtain ⟨n, k⟩ := ih e dm
      have hc := pos _ he
      simp only at hc
      refine ⟨List.nodup_cons.mpr ⟨fun hm => ?_, n⟩, fun y hy => ?_⟩
      · obtain ⟨k', e1, e2⟩ := k a hm
        rw [hd] at e1
        cases e1
        omega
      · rcases List.mem_cons.mp hy with rfl | hy
        · exact ⟨_, hd, Int.le_refl _⟩
        · obtain ⟨k', e1, e2⟩ := k y hy
          exact ⟨k', e1, by omega⟩
  exact this w rfl hd
/-- the boxes to which a way with the least sum may go on -/
def Next (E : List Ed) (d : Int → Option Int) (v t : Int) : Prop := ∃ c h k, (v, t, c) ∈ E ∧ d t = some h ∧ d v = some k ∧ h + c = k
/-- the way that goes on to the least such box each time -/
inductive Gr (E : List Ed) (b : Int) (d : Int → Option Int) : Int → List Int → Prop
  | stop : Gr E b d b [b]
  | go {v t : Int} {l : List Int} : v ≠ b → Next E d v t → (∀ u, Next E d v u → t ≤ u) → Gr E b d t l → Gr E b d v (v :: l)
theorem Gr.head {v : Int} {l : List Int} (g : Gr E b d v l) : ∃ r, l = v :: r := by
  cases g with
  | stop => exact ⟨[], rfl⟩
  | go => exact ⟨_, rfl⟩
/-- it is a way with the least sum -/
theorem Gr.way (S : Sums E b d) {v : Int} {l : List Int} (g : Gr E b d v l) : ∀ h, d v = some h → Wk E v l b h := by
  induction g with
  | stop =>
    intro h hd
    rw [S.tgt] at hd
    cases hd
    exact .one b
  | @go v t l _ nx _ _ ih =>
    intro h hd
    obtain ⟨c, h1, k, he, dt, dv, e⟩ := nx
    rw [hd] at dv
    cases dv
    have := Wk.step he (ih _ dt)
    rwa [show c + h1 = h by omega] at this
/-- no way with the least sum is a lesser list -/
theorem Gr.least (S : Sums E b d) (pos : ∀ e ∈ E, 1 ≤ e.2.2) {v : Int} {l : List Int} (g : Gr E b d v l) : ∀ {h : Int} {l' : List Int}, d v = some h → Wk E v l' b h → lexL l' l = false := by
  induction g with
  | stop =>
    intro h l' hd w
    rw [S.tgt] at hd
    cases hd
    rw [(w.zero pos (Int.le_refl _)).1]
    exact lexL_self _
  | @go v t l nv nx mn gr ih =>
    intro h l' hd w
    cases w with
    | one => exact absurd rfl nv
    | @step _ m _ c h l2 he w =>
      have dm := S.step he w hd
      have hn : Next E d v m := ⟨c, h, c + h, he, dm, hd, by omega⟩
      have hle := mn m hn
      rw [lexL_same]
      obtain ⟨r, rfl⟩ := gr.head
      obtain ⟨r2, rfl⟩ := w.head
      by_cases e : m = t
      · subst e
        exact ih dm w
      · rw [lexL_ne e]
        exact decide_eq_false (by omega)
/-- where there is a way on, there is one (the target has been reached, or the sum is above 0) -/
theorem Sums.next (S : Sums E b d) {v h : Int} (hd : d v = some h) (hv : v ≠ b) : ∃ t, Next E d v t := by
  obtain ⟨l, w⟩ := S.sound _ _ hd
  cases w with
  | one => exact absurd rfl hv
  | @step _ m _ c h l he w => exact ⟨m, c, h, c + h, he, S.step he w hd, hd, by omega⟩
theorem Next.falls (pos : ∀ e ∈ E, 1 ≤ e.2.2) {v t : Int} (n : Next E d v t) : ∃ h k, d t = some h ∧ d v = some k ∧ h < k := by
  obtain ⟨c, h, k, he, dt, dv, e⟩ := n
  have := pos _ he
  simp only at this
  exact ⟨h, k, dt, dv, by omega⟩
end
/-! ### all ways without a box twice, as the law lists them: turn by turn one wire longer -/
/-- (hours, way), one wire on -/
def grown (E : List Ed) (last : List (Int × List Int)) : List (Int × List Int) :=
  last.flatMap fun p => (E.filter fun e => decide (p.2.getLast? = some e.1 ∧ e.2.1 ∉ p.2)).map fun e => (p.1 + e.2.2, p.2 ++ [e.2.1])
def level (E : List Ed) (a : Int) : Nat → List (Int × List Int)
  | 0 => [(0, [a])]
  | k + 1 => grown E (level E a k)
def upTo (E : List Ed) (a : Int) : Nat → List (Int × List Int)
  | 0 => level E a 0
  | k + 1 => upTo E a k ++ level E a (k + 1)
theorem level_mem {E : List Ed} {a : Int} : ∀ {k : Nat} {h : Int} {l : List Int}, (h, l) ∈ level E a k ↔ (∃ b, Wk E a l b h) ∧ l.Nodup ∧ l.length = k + 1
  | 0, h, l => by
    constructor
    · intro hm
      rw [level, List.mem_singleton] at hm
      cases hm
      exact ⟨⟨a, .one a⟩, by simp, rfl⟩
    · rintro ⟨⟨b, w⟩, _, hl⟩
      rcases w.init with ⟨rfl, _, rfl⟩ | ⟨l', m, c, h', rfl, w', _, _⟩
      · exact List.mem_singleton.mpr rfl
      · rw [List.length_append, List.length_singleton] at hl
        exact absurd (List.eq_nil_of_length_eq_zero (by omega)) w'.ne
  | k + 1, h, l => by
    rw [level, grown, List.mem_flatMap]
    constructor
    · rintro ⟨⟨h1, l1⟩, hm, hx⟩
      obtain ⟨⟨b, w⟩, nd, hl⟩ := level_mem.mp hm
      obtain ⟨⟨s, t, c⟩, he, e⟩ := List.mem_map.mp hx
      cases e
      obtain ⟨he, hc⟩ := List.mem_filter.mp he
      obtain ⟨h2, h3⟩ := of_decide_eq_true hc
      rw [w.last] at h2
      cases h2
      refine ⟨⟨t, w.snoc he⟩, ?_, by rw [List.length_append, List.length_singleton, hl]⟩
      rw [List.nodup_append]
      refine ⟨nd, by simp, fun x hx' y hy e => ?_⟩
      rw [List.mem_singleton] at hy
      have hy : y = t := hy
      rw [e, hy] at hx'
      exact h3 hx'
    · rintro ⟨⟨b, w⟩, nd, hl⟩
      rcases w.init with ⟨rfl, _, _⟩ | ⟨l', m, c, h', rfl, w', he, rfl⟩
      · simp at hl
      · rw [List.nodup_append] at nd
        refine ⟨(h', l'), level_mem.mpr ⟨⟨m, w'⟩, nd.1, by rw [List.length_append, List.length_singleton] at hl; omega⟩, ?_⟩
        refine List.mem_map.mpr ⟨(m, b, c), List.mem_filter.mpr ⟨he, decide_eq_true ⟨w'.last, fun hm => nd.2.2 b hm b (by simp) rfl⟩⟩, rfl⟩
theorem upTo_mem {E : List Ed} {a : Int} : ∀ {k : Nat} {h : Int} {l : List Int}, (h, l) ∈ upTo E a k ↔ (∃ b, Wk E a l b h) ∧ l.Nodup ∧ l.length ≤ k + 1
  | 0, h, l => by
    rw [upTo, level_mem]
    constructor
    · rintro ⟨w, n, e⟩
      exact ⟨w, n, by omega⟩
    · rintro ⟨w, n, e⟩
      refine ⟨w, n, ?_⟩
      obtain ⟨b, w⟩ := w
      have : l.length ≠ 0 := fun z => w.ne (List.eq_nil_of_length_eq_zero z)
      omega
  | k + 1, h, l => by
    rw [upTo, List.mem_append, upTo_mem, level_mem]
    constructor
    · rintro (⟨w, n, e⟩ | ⟨w, n, e⟩)
      · exact ⟨w, n, by omega⟩
      · exact ⟨w, n, by omega⟩
    · rintro ⟨w, n, e⟩
      by_cases z : l.length ≤ k + 1
      · exact .inl ⟨w, n, z⟩
      · exact .inr ⟨w, n, by omega⟩
/-- a list of boxes of 0 .. n - 1 without one twice has at most n -/
theorem nodup_short : ∀ (n : Nat) {l : List Int}, l.Nodup → (∀ x ∈ l, 0 ≤ x ∧ x < n) → l.length ≤ n
  | 0, [], _, _ => Nat.le_refl _
  | 0, x :: _, _, h => by
    have := h x List.mem_cons_self
    omega
  | n + 1, l, nd, h => by
    have h2 := nodup_short n (l := l.filter fun x : Int => decide (x ≠ (n : Int))) (nd.filter _) fun x hx => by
      obtain ⟨h1, h2⟩ := List.mem_filter.mp hx
      have := of_decide_eq_true h2
      have := h x h1
      omega
    have h3 : l.length ≤ (l.filter fun x : Int => decide (x ≠ (n : Int))).length + 1 := by
      clear h2 h
      induction l with
      | nil => exact Nat.zero_le _
      | cons x l ih =>
        rw [List.nodup_cons] at nd
        by_cases e : x = (n : Int)
        · have : l.filter (fun x : Int => decide (x ≠ (n : Int))) = l := List.filter_eq_self.mpr fun y hy => decide_eq_true fun z => nd.1 (by rw [e, ← z]; exact hy)
          rw [List.filter_cons_of_neg (by simp [e]), this]
          exact Nat.le_refl _
        · have := ih nd.2
          rw [List.filter_cons_of_pos (by simp [e]), List.length_cons, List.length_cons]
          omega
    omega
end Way
set_option maxRecDepth 100000
set_option maxHeartbeats 4000000
/-! What the search of least sums keeps: a dict by boxes, its keys, its bounds, its measure. -/
namespace VX
open PySem PySem.Spec PyProof.Rows L2 Way
/-- a dict of the boxes is, its values by d -/
structure DI (kvs : List (L2.Key × V)) (ks : List Int) (d : Int → Option Int) : Prop where
  keys : kvs.map (·.1) = ks.map Sum.inl
  val : ∀ v, valV kvs (.inl v) = (d v).map V.int
  nd : ks.Nodup
  dom : ∀ v, v ∈ ks ↔ ∃ h, d v = some h
/-- d with one value put -/
def set1 (d : Int → Option Int) (s h : Int) : Int → Option Int := fun v => if v = s then some h else d v
theorem set1_same {d : Int → Option Int} {s h : Int} : set1 d s h s = some h := if_pos rfl
theorem set1_ne {d : Int → Option Int} {s h v : Int} (e : v ≠ s) : set1 d s h v = d v := if_neg e
theorem any_keys {kvs : List (L2.Key × V)} {ks : List Int} (h : kvs.map (·.1) = ks.map Sum.inl) (s : Int) : (kvs.any fun kv => decide (kv.1 = Sum.inl s)) = decide (s ∈ ks) := by
  induction kvs generalizing ks with
  | nil =>
    cases ks with
    | nil => rfl
    | cons _ _ => cases h
  | cons p kvs ih =>
    cases ks with
    | nil => cases h
    | cons k ks =>
      obtain ⟨h1, h2⟩ := List.cons.inj h
      rw [List.any_cons, ih h2, show p.1 = Sum.inl k from h1]
      by_cases e : s = k
      · subst e
        simp
      · have e2 : (Sum.inl k : L2.Key) ≠ Sum.inl s := fun z => e (Sum.inl.inj z).symm
        simp [e, e2]
theorem DI.put {kvs : List (L2.Key × V)} {ks : List Int} {d : Int → Option Int} (x : DI kvs ks d) (s h : Int) : DI (putK kvs (.inl s) (.int h)) (if s ∈ ks then ks else ks ++ [s]) (set1 d s h) := by
  have hv : ∀ v, valV (putK kvs (.inl s) (.int h)) (.inl v) = (set1 d s h v).map V.int := fun v => by
    rw [valV_put]
    by_cases e : v = s
    · subst e
      rw [if_pos rfl, set1_same]
      rfl
    · rw [if_neg (fun z => e (Sum.inl.inj z)), set1_ne e]
      exact x.val v
  by_cases hs : s ∈ ks
  · rw [if_pos hs]
    refine ⟨?_, hv, x.nd, fun v => ?_⟩
    · unfold putK
      rw [any_keys x.keys, decide_eq_true hs, if_pos rfl, List.map_map]
      rw [← x.keys]
      apply List.map_congr_left
      intro p _
      show (if p.1 = Sum.inl s then (p.1, V.int h) else p).1 = p.1
      split <;> rfl
    · rw [x.dom v]
      by_cases e : v = s
      · subst e
        rw [set1_same]
        exact ⟨fun _ => ⟨h, rfl⟩, fun _ => (x.dom v).mp hs⟩
      · rw [set1_ne e]
  · rw [if_neg hs]
    refine ⟨?_, hv, ?_, fun v => ?_⟩
    · unfold putK
      rw [any_keys x.keys, decide_eq_false hs, if_neg Bool.false_ne_true, List.map_append, List.map_append, x.keys]
      rfl
    · rw [List.nodup_append]
      exact ⟨x.nd, by simp, fun a ha c hc e => hs (by have : c = s := by simpa using hc
                                                      rw [← this, ← e]
                                                      exact ha)⟩
    · rw [List.mem_append, List.mem_singleton, x.dom v]
      by_cases e : v = s
      · subst e
        rw [set1_same]
        exact ⟨fun _ => ⟨h, rfl⟩, fun _ => .inr rfl⟩
      · rw [set1_ne e]
        exact ⟨fun z => z.elim id fun z => absurd z e, .inl⟩
theorem DI.len {kvs : List (L2.Key × V)} {ks : List Int} {d : Int → Option Int} (x : DI kvs ks d) : kvs.length = ks.length := by
  have := congrArg List.length x.keys
  rwa [List.length_map, List.length_map] at this
/-- the measure: over the boxes 0 .. n - 1 -/
def mu (d : Int → Option Int) (B : Nat) (n : Nat) : Nat := ((List.range n).map fun v : Nat => (d (v : Int)).elim (B + 1) Int.toNat).sum
theorem mu_less {d : Int → Option Int} {B : Nat} {s h : Int} (s0 : 0 ≤ s) (hl : h.toNat < (d s).elim (B + 1) Int.toNat) : ∀ n : Nat, (mu (set1 d s h) B n ≤ mu d B n) ∧ (s < n → mu (set1 d s h) B n < mu d B n)
  | 0 => ⟨Nat.le_refl _, fun z => by omega⟩
  | n + 1 => by
    have ih := mu_less s0 hl n
    have e : ∀ f : Int → Option Int, mu f B (n + 1) = mu f B n + (f (n : Int)).elim (B + 1) Int.toNat := fun f => by
      unfold mu
      rw [List.range_succ, List.map_append, List.sum_append]
      simp
    rw [e, e]
    by_cases z : (n : Int) = s
    · rw [z, set1_same]
      constructor
      · have := ih.1
        show _ + h.toNat ≤ _
        omega
      · intro _
        have := ih.1
        show _ + h.toNat < _
        omega
    · rw [set1_ne z]
      constructor
      · have := ih.1
        omega
      · intro hs
        have := ih.2 (by omega)
        omega
/-- what the search keeps, whatever it has found -/
structure SI (E : List Ed) (b : Int) (n : Nat) (M : Nat) (ks : List Int) (d : Int → Option Int) : Prop where
  sound : ∀ v h, d v = some h → ∃ l, Wk E v l b h
  tgt : d b = some 0
  rng : ∀ v ∈ ks, 0 ≤ v ∧ v < n
  big : ∀ v h, d v = some h → 0 ≤ h ∧ h ≤ ((ks.length - 1 : Nat) : Int) * M
/-- one sum more, or a lesser one -/
theorem SI.put {E : List Ed} {b : Int} {n M : Nat} {kvs : List (L2.Key × V)} {ks : List Int} {d : Int → Option Int} (x : SI E b n M ks d) (y : DI kvs ks d) (pos : ∀ e ∈ E, 1 ≤ e.2.2 ∧ e.2.2 ≤ M) (hr : ∀ e ∈ E, (0 ≤ e.1 ∧ e.1 < n)) {s t c k : Int} (he : (s, t, c) ∈ E) (ht : d t = some k) (hs : ∀ h, d s = some h → k + c < h) :
    SI E b n M (if s ∈ ks then ks else ks ++ [s]) (set1 d s (k + c)) ∧ mu (set1 d s (k + c)) (n * M) n < mu d (n * M) n := by
  have p := pos _ he
  have r := hr _ he
  simp only at p r
  have kb := x.big t k ht
  have w : ∃ l, Wk E s l b (k + c) := by
    obtain ⟨l, w⟩ := x.sound t k ht
    exact ⟨s :: l, by rw [Int.add_comm]; exact .step he w⟩
  have lk : ks.length ≤ n := nodup_short n y.nd x.rng
  have kpos : 1 ≤ ks.length := by
    have := (y.dom b).mpr ⟨0, x.tgt⟩
    exact List.length_pos_of_mem this
  have hM : ((ks.length - 1 : Nat) : Int) * M + M = (ks.length : Int) * M := by
    have e : (ks.length : Int) = ((ks.length - 1 : Nat) : Int) + 1 := by omega
    rw [e, Int.add_mul]
    omega
  have hB : ((ks.length : Nat) : Int) * M ≤ ((n * M : Nat) : Int) := by
    rw [Int.natCast_mul]
    exact Int.mul_le_mul_of_nonneg_right (by omega) (by omega)
  have tgt : set1 d s (k + c) b = some 0 := by
    by_cases e : b = s
    · subst e
      have := hs 0 x.tgt
      omega
    · rw [set1_ne e]
      exact x.tgt
  have snd : ∀ v h, set1 d s (k + c) v = some h → ∃ l, Wk E v l b h := fun v h hv => by
    by_cases e : v = s
    · subst e
      rw [set1_same] at hv
      cases hv
      exact w
    · rw [set1_ne e] at hv
      exact x.sound v h hv
  by_cases hm : s ∈ ks
  · rw [if_pos hm]
    obtain ⟨h0, hd⟩ := (y.dom s).mp hm
    have hlt := hs h0 hd
    have hb := x.big s h0 hd
    refine ⟨⟨snd, tgt, x.rng, fun v h hv => ?_⟩, (mu_less r.1 ?_ n).2 r.2⟩
    · by_cases e : v = s
      · subst e
        rw [set1_same] at hv
        cases hv
        exact ⟨by omega, by omega⟩
      · rw [set1_ne e] at hv
        exact x.big v h hv
    · rw [hd]
      show (k + c).toNat < h0.toNat
      omega
  · rw [if_neg hm]
    have hd : d s = none := by
      cases e : d s with
      | none => rfl
      | some h => exact absurd ((y.dom s).mpr ⟨h, e⟩) hm
    have l1 : (ks ++ [s]).length - 1 = ks.length := by
      rw [List.length_append, List.length_singleton]
      omega
    refine ⟨⟨snd, tgt, fun v hv => ?_, fun v h hv => ?_⟩, (mu_less r.1 ?_ n).2 r.2⟩
    · rcases List.mem_append.mp hv with hv | hv
      · exact x.rng v hv
      · rw [List.mem_singleton] at hv
        subst hv
        exact r
    · rw [l1]
      by_cases e : v = s
      · subst e
        rw [set1_same] at hv
        cases hv
        exact ⟨by omega, by omega⟩
      · rw [set1_ne e] at hv
        have := x.big v h hv
        exact ⟨this.1, by omega⟩
    · rw [hd]
      show (k + c).toNat < n * M + 1
      omega
end VX
set_option maxRecDepth 100000
set_option maxHeartbeats 4000000
/-! Shortest ways under bounds of either sign: what the search keeps, a ring of less than nothing. No Python here. -/
namespace SPR
open VX PySem
/-- a bound: the point l is at most m beyond the point e; k says what it is -/
structure Bd where
  l : Int
  e : Int
  m : Int
  k : PyData
abbrev DM := Int → Option (Int × List Bd)
def put (d : DM) (s : Int) (v : Int × List Bd) : DM := fun u => if u = s then some v else d u
theorem put_same {d : DM} {s : Int} {v : Int × List Bd} : put d s v s = some v := if_pos rfl
theorem put_ne {d : DM} {s u : Int} {v : Int × List Bd} (h : u ≠ s) : put d s v u = d u := if_neg h
/-- a way from a to b of bounds in bs, and its sum -/
inductive Ch (bs : List Bd) : Int → List Bd → Int → Int → Prop
  | nil (a : Int) : Ch bs a [] a 0
  | snoc {a b d : Int} {w : List Bd} {s : Bd} : Ch bs a w b d → s ∈ bs → s.e = b → Ch bs a (w ++ [s]) s.l (d + s.m)
def Feas (bs : List Bd) (x : Int → Int) : Prop := ∀ b ∈ bs, x b.l ≤ x b.e + b.m
section
variable {bs : List Bd} {a b d : Int} {w : List Bd}
theorem Ch.pot {x : Int → Int} (hx : Feas bs x) (h : Ch bs a w b d) : x b ≤ x a + d := by
  induction h with
  | nil => omega
  | snoc _ hs he ih =>
    have := hx _ hs
    rw [he] at this
    omega
theorem Ch.mem (h : Ch bs a w b d) : ∀ s ∈ w, s ∈ bs := by
  induction h with
  | nil => exact fun s hs => nomatch hs
  | snoc _ hs _ ih =>
    intro t ht
    rcases List.mem_append.mp ht with ht | ht
    · exact ih t ht
    · rw [List.mem_singleton] at ht
      exact ht ▸ hs
theorem Ch.head (h : Ch bs a w b d) (hw : w ≠ []) : a ∈ w.map Bd.e := by
  induction h with
  | nil => exact absurd rfl hw
  | @snoc b d w s h hs he ih =>
    rw [List.map_append, List.mem_append]
    by_cases z : w = []
    · subst z
      have : a = b := by
        generalize hz : ([] : List Bd) = w0 at h
        cases h with
        | nil => rfl
        | snoc _ _ _ => exact absurd hz.symm (by simp)
      exact .inr (by simp [he, this])
    · exact .inl (ih z)
theorem Ch.nil_eq (h : Ch bs a [] b d) : a = b ∧ d = 0 := by
  generalize hz : ([] : List Bd) = w0 at h
  cases h with
  | nil => exact ⟨rfl, rfl⟩
  | snoc _ _ _ => exact absurd hz.symm (by simp)
/-- the rest of a way behind one of its points -/
theorem Ch.split (h : Ch bs a w b d) : ∀ w1 s w2, w = w1 ++ s :: w2 → ∃ d1 d2, Ch bs a w1 s.e d1 ∧ Ch bs s.e (s :: w2) b d2 ∧ d = d1 + d2 := by
  induction h with
  | nil => exact fun w1 s w2 h => absurd h.symm (by simp)
  | @snoc b d w t h ht he ih =>
    intro w1 s w2 e
    rcases List.eq_nil_or_concat w2 with z | ⟨w3, u, z⟩
    · subst z
      obtain ⟨e1, e2⟩ := List.append_inj' e rfl
      have e2 : t = s := by simpa using e2
      subst e1 e2
      rw [← he] at h
      refine ⟨d, t.m, h, ?_, rfl⟩
      have := Ch.snoc (Ch.nil (bs := bs) t.e) ht rfl
      rw [Int.zero_add] at this
      exact this
    · rw [List.concat_eq_append] at z
      subst z
      have e' : w ++ [t] = (w1 ++ s :: w3) ++ [u] := by rw [e]; simp
      obtain ⟨e1, e2⟩ := List.append_inj' e' rfl
      have e2 : t = u := by simpa using e2
      obtain ⟨d1, d2, c1, c2, e3⟩ := ih w1 s w3 e1
      refine ⟨d1, d2 + t.m, c1, ?_, by omega⟩
      have := Ch.snoc c2 ht he
      rw [e2] at this ⊢
      exact this
/-- a way of distinct points is short -/
theorem Ch.big {n B : Nat} (hb : ∀ s ∈ bs, 0 ≤ s.e ∧ s.e < n ∧ s.m.natAbs ≤ B) (h : Ch bs a w b d) : d.natAbs ≤ w.length * B := by
  induction h with
  | nil => simp
  | snoc _ hs _ ih =>
    have := (hb _ hs).2.2
    rw [List.length_append, List.length_singleton, Nat.add_mul, Nat.one_mul]
    omega
end
/-- what the search keeps -/
structure SW (bs : List Bd) (d : DM) : Prop where
  ch : ∀ b x w, d b = some (x, w) → Ch bs 0 w b x
  pre : ∀ b x w, d b = some (x, w) → ∀ w1 s w2, w = w1 ++ s :: w2 → ∃ y dE wE, Ch bs 0 w1 s.e y ∧ d s.e = some (dE, wE) ∧ dE ≤ y
  nd : ∀ b x w, d b = some (x, w) → (w.map Bd.e).Nodup ∧ b ∉ w.map Bd.e
  zero : d 0 = some (0, [])
def d0 : DM := fun u => if u = 0 then some (0, []) else none
theorem SW.start (bs : List Bd) : SW bs d0 := by
  have h : ∀ {b x w}, d0 b = some (x, w) → b = 0 ∧ x = 0 ∧ w = [] := fun {b x w} h => by
    unfold d0 at h
    split at h
    · cases h
      exact ⟨by assumption, rfl, rfl⟩
    · cases h
  refine ⟨fun b x w e => ?_, fun b x w e w1 s w2 z => ?_, fun b x w e => ?_, if_pos rfl⟩
  · obtain ⟨rfl, rfl, rfl⟩ := h e
    exact .nil 0
  · obtain ⟨rfl, rfl, rfl⟩ := h e
    exact absurd z.symm (by simp)
  · obtain ⟨rfl, rfl, rfl⟩ := h e
    exact ⟨List.nodup_nil, fun z => nomatch z⟩
section
variable {bs : List Bd} {d : DM} {s : Bd} {x : Int} {w : List Bd}
/-- the way through one bound more -/
theorem SW.way (h : SW bs d) (hs : s ∈ bs) (he : d s.e = some (x, w)) : Ch bs 0 (w ++ [s]) s.l (x + s.m) ∧ (∀ w1 t w2, w ++ [s] = w1 ++ t :: w2 → ∃ y dE wE, Ch bs 0 w1 t.e y ∧ d t.e = some (dE, wE) ∧ dE ≤ y) ∧ ((w ++ [s]).map Bd.e).Nodup := by
  refine ⟨.snoc (h.ch _ _ _ he) hs rfl, fun w1 t w2 z => ?_, ?_⟩
  · rcases List.eq_nil_or_concat w2 with q | ⟨w3, u, q⟩
    · subst q
      obtain ⟨e1, e2⟩ := List.append_inj' z rfl
      have e2 : s = t := by simpa using e2
      subst e1 e2
      exact ⟨x, x, w, h.ch _ _ _ he, he, Int.le_refl _⟩
    · rw [List.concat_eq_append] at q
      subst q
      have z' : w ++ [s] = (w1 ++ t :: w3) ++ [u] := by rw [z]; simp
      obtain ⟨e1, _⟩ := List.append_inj' z' rfl
      exact h.pre _ _ _ he w1 t w3 e1
  · obtain ⟨n1, n2⟩ := h.nd _ _ _ he
    rw [List.map_append, List.nodup_append]
    exact ⟨n1, by simp, fun a ha c hc => by
      have : c = s.e := by simpa using hc
      subst this
      exact fun z => n2 (z ▸ ha)⟩
/-- a ring: no hours keep the bounds -/
theorem SW.ring (h : SW bs d) (hs : s ∈ bs) (he : d s.e = some (x, w)) (hl : ∀ y u, d s.l = some (y, u) → x + s.m < y) {w1 w2 : List Bd} {t : Bd} (z : w ++ [s] = w1 ++ t :: w2) (ht : t.e = s.l) : ∀ p, ¬ Feas bs p := by
  obtain ⟨c, pr, _⟩ := h.way hs he
  intro p hp
  obtain ⟨d1, d2, c1, c2, e⟩ := c.split w1 t w2 z
  obtain ⟨y, dE, wE, c3, e3, l3⟩ := pr w1 t w2 z
  rw [ht] at e3 c2 c1 c3
  have l4 := hl dE wE e3
  have q1 := c2.pot hp
  have q2 := c1.pot hp
  have uniq : ∀ {a b y1 y2 : Int} {v : List Bd}, Ch bs a v b y1 → Ch bs a v b y2 → y1 = y2 := fun {a b y1 y2 v} k1 => by
    induction k1 generalizing y2 with
    | nil => exact fun k2 => (k2.nil_eq).2.symm
    | @snoc b1 y1 v1 s1 k1 hs1 he1 ih =>
      intro k2
      generalize hv : v1 ++ [s1] = v2 at k2
      generalize hb : s1.l = b2 at k2
      cases k2 with
      | nil => exact absurd hv (by simp)
      | @snoc b3 y3 v3 s3 k3 hs3 he3 =>
        obtain ⟨e1, e2⟩ := List.append_inj' hv rfl
        have e2 : s1 = s3 := by simpa using e2
        subst e1 e2
        rw [← he3, he1] at k3
        rw [ih k3]
  have := uniq c1 c3
  omega
/-- a lesser way put -/
theorem SW.put (h : SW bs d) (hs : s ∈ bs) (he : d s.e = some (x, w)) (hl : ∀ y u, d s.l = some (y, u) → x + s.m < y) (hn : s.l ∉ (w ++ [s]).map Bd.e) : SW bs (put d s.l (x + s.m, w ++ [s])) := by
  obtain ⟨c, pr, nd⟩ := h.way hs he
  have up : ∀ {v w1 y}, (∃ dE wE, Ch bs 0 w1 v y ∧ d v = some (dE, wE) ∧ dE ≤ y) → ∃ dE wE, Ch bs 0 w1 v y ∧ SPR.put d s.l (x + s.m, w ++ [s]) v = some (dE, wE) ∧ dE ≤ y := fun {v w1 y} ⟨dE, wE, q1, q2, q3⟩ => by
    by_cases z : v = s.l
    · subst z
      have := hl dE wE q2
      exact ⟨_, _, q1, put_same, by omega⟩
    · exact ⟨dE, wE, q1, (put_ne z).trans q2, q3⟩
  refine ⟨fun b y u e => ?_, fun b y u e w1 t w2 z => ?_, fun b y u e => ?_, ?_⟩
  · by_cases z : b = s.l
    · subst z
      rw [put_same] at e
      cases e
      exact c
    · rw [put_ne z] at e
      exact h.ch _ _ _ e
  · have : ∃ y dE wE, Ch bs 0 w1 t.e y ∧ d t.e = some (dE, wE) ∧ dE ≤ y := by
      by_cases q : b = s.l
      · subst q
        rw [put_same] at e
        cases e
        exact pr w1 t w2 z
      · rw [put_ne q] at e
        exact h.pre _ _ _ e w1 t w2 z
    obtain ⟨y, dE, wE, q⟩ := this
    obtain ⟨a, b, q⟩ := up ⟨dE, wE, q⟩
    exact ⟨y, a, b, q⟩
  · by_cases z : b = s.l
    · subst z
      rw [put_same] at e
      cases e
      exact ⟨nd, hn⟩
    · rw [put_ne z] at e
      exact h.nd _ _ _ e
  · rw [put_ne (fun z : (0 : Int) = s.l => hn (by rw [← z]; exact c.head (by simp)))]
    exact h.zero
theorem nodup_short {l : List Int} {n : Nat} (h : l.Nodup) (hr : ∀ x ∈ l, 0 ≤ x ∧ x < n) : l.length ≤ n := by
  have := List.Nodup.length_le_of_subset (l₂ := (List.range n).map fun i : Nat => (i : Int)) h fun x hx => List.mem_map.mpr ⟨x.toNat, List.mem_range.mpr (by have := hr x hx; omega), by have := hr x hx; omega⟩
  rwa [List.length_map, List.length_range] at this
theorem SW.bound {n B : Nat} (hb : ∀ s ∈ bs, 0 ≤ s.e ∧ s.e < n ∧ s.m.natAbs ≤ B) (h : SW bs d) {b : Int} (e : d b = some (x, w)) : x.natAbs ≤ n * B ∧ w.length ≤ n := by
  have c := h.ch _ _ _ e
  have l := nodup_short (n := n) (h.nd _ _ _ e).1 fun y hy => by
    obtain ⟨s, hs, rfl⟩ := List.mem_map.mp hy
    have := hb s (c.mem s hs)
    omega
  rw [List.length_map] at l
  exact ⟨Nat.le_trans (c.big hb) (Nat.mul_le_mul_right _ l), l⟩
/-- how much is left -/
def ms (C : Nat) (n : Nat) (d : DM) : Nat := mu (fun b => (d b).map fun z => z.1 + C) (2 * C) n
theorem ms_less {n B : Nat} (hb : ∀ s ∈ bs, 0 ≤ s.e ∧ s.e < n ∧ s.m.natAbs ≤ B) (hr : 0 ≤ s.l ∧ s.l < n) (h : SW bs d) (hs : s ∈ bs) (he : d s.e = some (x, w)) (hl : ∀ y u, d s.l = some (y, u) → x + s.m < y) (hn : s.l ∉ (w ++ [s]).map Bd.e) :
    ms (n * B) n (SPR.put d s.l (x + s.m, w ++ [s])) < ms (n * B) n d := by
  have h2 := h.put hs he hl hn
  have b2 := (h2.bound hb (b := s.l) put_same).1
  have e : (fun b => (SPR.put d s.l (x + s.m, w ++ [s]) b).map fun z => z.1 + ((n * B : Nat) : Int)) = set1 (fun b => (d b).map fun z => z.1 + ((n * B : Nat) : Int)) s.l (x + s.m + (n * B : Nat)) := by
    funext b
    unfold SPR.put set1
    split <;> rfl
  unfold ms
  rw [e]
  refine (mu_less hr.1 ?_ n).2 hr.2
  cases z : d s.l with
  | none =>
    show (x + s.m + ((n * B : Nat) : Int)).toNat < 2 * (n * B) + 1
    omega
  | some y =>
    obtain ⟨y, u⟩ := y
    have := hl y u z
    have b3 := (h.bound hb z).1
    show (x + s.m + ((n * B : Nat) : Int)).toNat < (y + ((n * B : Nat) : Int)).toNat
    omega
end
end SPR
set_option maxRecDepth 100000
set_option maxHeartbeats 4000000
/-! name = {k: v for x in xs}, the keys numbers, the name a local. -/
namespace VX
open PySem PySem.Spec PyProof.Rows L2
/-- a dict comprehension over a walk: Pv by the turn and the heap (the new dict at D within) -/
theorem dcK_it {J : It} {n : Nat} {G : Hp → Prop} {Y : Nat → Hp → V → Hp → Prop} (w : Walk J n G Y) {g : TG} {tt : TT} {tk tv : TE} {vs : List Nat} {σ : L2.St} {H1 : Hp} {D : Addr} {Qd : Hp → Prop} (Pv : Nat → Hp → Prop) (h0 : Pv 0 (upd H1 D (.dK []))) (hG : ∀ i H, i ≤ n → Pv i H → G H)
    (hs : ∀ i x H H', i < n → Pv i H → Y i H x H' → g x (wipe σ vs) H' fun σ2 H2 => wipe σ2 vs = wipe σ vs ∧ tt σ2 H2 fun b H3 =>
      if b = true then tk σ2 H3 fun y H4 => tv σ2 H4 fun z H5 => ∃ kvs k, y = kV k ∧ H5 D = some (.dK kvs) ∧ kvs.length < sizeLine ∧ Pv (i + 1) (upd H5 D (.dK (putK kvs k z))) else Pv (i + 1) H3) (hd : ∀ H, Pv n H → Qd H) :
    ∃ W : Nat → Nat → Hp → Prop, (∃ m, W 0 m (upd H1 D (.dK []))) ∧ ∀ i m H, W i m H →
      (J.stop i H ∧ Qd H) ∨ (J.go i H ∧ ∃ Nx : Hp → Prop, (∀ H', Nx H' → ∃ m', m' < m ∧ W (i + 1) m' H') ∧ ∀ x H', J.yld i H x H' → g x (wipe σ vs) H' fun σ2 H2 => wipe σ2 vs = wipe σ vs ∧ tt σ2 H2 fun b H3 =>
        if b = true then tk σ2 H3 fun y H4 => tv σ2 H4 fun z H5 => ∃ kvs k, y = kV k ∧ H5 D = some (.dK kvs) ∧ kvs.length < sizeLine ∧ Nx (upd H5 D (.dK (putK kvs k z))) else Nx H3) := by
  refine ⟨fun i m H => m = n - i ∧ i ≤ n ∧ Pv i H, ⟨n, by simp, Nat.zero_le _, h0⟩, ?_⟩
  rintro i m H ⟨rfl, hi, p⟩
  have q := hG i H hi p
  by_cases hlt : i < n
  · refine .inr ⟨w.goes i H hlt q, Pv (i + 1), fun H' p' => ⟨n - (i + 1), by omega, rfl, hlt, p'⟩, fun x H' y => hs i x H H' hlt p (w.yields i H x H' hlt q y)⟩
  · have e : i = n := by omega
    subst e
    exact .inl ⟨w.stops H q, hd H p⟩
theorem i_dcK {wi : TI} {g : TG} {tt : TT} {tk tv : TE} {vs : List Nat} {σ : L2.St} {H : Hp} {Q : VK} (q : wi σ H fun J H1 => ∀ D, H1 D = none → ∃ W : Nat → Nat → Hp → Prop, (∃ m, W 0 m (upd H1 D (.dK []))) ∧ ∀ i m H, W i m H →
  (J.stop i H ∧ Q (.ref D) H) ∨ (J.go i H ∧ ∃ Nx : Hp → Prop, (∀ H', Nx H' → ∃ m', m' < m ∧ W (i + 1) m' H') ∧ ∀ x H', J.yld i H x H' → g x (wipe σ vs) H' fun σ2 H2 => wipe σ2 vs = wipe σ vs ∧ tt σ2 H2 fun b H3 =>
    if b = true then tk σ2 H3 fun y H4 => tv σ2 H4 fun z H5 => ∃ kvs k, y = kV k ∧ H5 D = some (.dK kvs) ∧ kvs.length < sizeLine ∧ Nx (upd H5 D (.dK (putK kvs k z))) else Nx H3)) : tDc wi g tt tk tv vs σ H Q := q
section
variable {X : Cx}
theorem ps_setDc {i : Nat} {y : Str} {py : Pos} {kx vx tg iter : Expr} {ifs : List Expr} {scope : Scope} {own : List (Str × Nat)} {pos spos : Pos} {wi : TI} {g : TG} {tt : TT} {tk tv : TE} (hc : X.calm = true) (hN : X.N.Nodup) (hy : X.N[i]? = some y) (hyl : X.env.scope.names.lookup y = some .local)
    (hsw : swapsWith (.DictComp kx vx [⟨tg, iter, ifs, 0⟩] scope pos) (some (.Name y py)) spos.line X.env = pure true) (hi : PI X tg iter wi) (ok : BlkOk X.N X.env.scope scope own)
    (hg : ∀ (s : Shared) (H : Hp) (C : Addr) (cl : List (Str × Addr)) (fp : List Addr), PG (X.blk s H scope (compEnvC scope cl C X.env) fp) tg g) (ht : ∀ (s : Shared) (H : Hp) (C : Addr) (cl : List (Str × Addr)) (fp : List Addr), PTs (X.blk s H scope (compEnvC scope cl C X.env) fp) ifs tt)
    (hk : ∀ (s : Shared) (H : Hp) (C : Addr) (cl : List (Str × Addr)) (fp : List Addr), PE (X.blk s H scope (compEnvC scope cl C X.env) fp) kx tk) (he : ∀ (s : Shared) (H : Hp) (C : Addr) (cl : List (Str × Addr)) (fp : List Addr), PE (X.blk s H scope (compEnvC scope cl C X.env) fp) vx tv) (hs : ∀ x, foldedSetIterable iter X.env x = pure x := by intro _; rfl) :
    PS X (.Assign [.Name y py] (.DictComp kx vx [⟨tg, iter, ifs, 0⟩] scope pos) spos) (tAsg (tDc wi g tt tk tv (own.map (·.2))) (gName i)) := by
  refine ⟨fun pins s σ H D I h => ?_⟩
  rw [exec_Assign_Name_used _ _ _ _ hsw]
  refine wpAny_bind (wpAny_standAt (wpAny_bind ?_))
  show wpAny _ X.A (do let _ ← comprehension (.DictComp kx vx [⟨tg, iter, ifs, 0⟩] scope pos) scope X.env (firstIterPos [⟨tg, iter, ifs, 0⟩] pos) newDict false (eval iter X.env) (some (assign (.Name y py) X.env))) _ _ s
  have h : tDc wi g tt tk tv (own.map (·.2)) σ H (fun x H1 => gName i x σ H1 D.nx) := h
  refine wpAny_bind (thn (dc_core (Qf := fun _ s' => SP X pins D .next s') hc hN I hi ok hg ht hk he hs h fun L C s' m H' I' q hn f => ?_) fun _ s' hq => wpAny_pure (wpAny_pure hq))
  show wpAny _ _ (assign (.Name y py) X.env (.ref L)) _ _ _
  refine wpAny_assign_Name (store_ok2 (v := V.ref L) I' hN hy (.inl hyl) rfl (fun s2 I2 ⟨a, sb, ha⟩ => ?_) (.inr hyl))
  obtain ⟨f0, f1, f2, f3, f4, f5⟩ := f
  have haC : C ≠ a := by
    rcases ha with z | z
    · rw [z]; exact f1
    · exact fun e => f4 y a z e.symm
  refine ⟨m, hn.sameBut sb haC, fun h3 sb3 => ?_⟩
  exact ⟨_, H', I2.turned (t' := s2.toks) (fun b o hb e => (sb3.2 b hb).trans e) f0 f1 f3 f4 f5, q⟩
end
end VX
set_option maxRecDepth 100000
set_option maxHeartbeats 4000000
/-! name = {k: v for x in xs}, the keys tuples, the name a local. -/
namespace VX
open PySem PySem.Spec PyProof.Rows L2
section
variable {X : Cx}
theorem dcT_core {pins : List (Addr × Obj)} {s : Shared} {σ : L2.St} {H : Hp} {Q : VK} {kx vx tg iter : Expr} {ifs : List Expr} {scope : Scope} {own : List (Str × Nat)} {pos pos' : Pos} {wi : TI} {g : TG} {tt : TT} {tk tv : TE} {use : Option (Value → Sem Unit)} {Qf : Value → Shared → Prop}
    (room : (tupleKind (mixKind X.prog X.w)).room X.A) (hc : X.calm = true) (hN : X.N.Nodup) (I : Inv X pins σ H s) (hi : PI X tg iter wi) (ok : BlkOk X.N X.env.scope scope own)
    (hg : ∀ (s : Shared) (H : Hp) (C : Addr) (cl : List (Str × Addr)) (fp : List Addr), PG (X.blk s H scope (compEnvC scope cl C X.env) fp) tg g) (ht : ∀ (s : Shared) (H : Hp) (C : Addr) (cl : List (Str × Addr)) (fp : List Addr), PTs (X.blk s H scope (compEnvC scope cl C X.env) fp) ifs tt)
    (hk : ∀ (s : Shared) (H : Hp) (C : Addr) (cl : List (Str × Addr)) (fp : List Addr), PE (X.blk s H scope (compEnvC scope cl C X.env) fp) kx tk) (he : ∀ (s : Shared) (H : Hp) (C : Addr) (cl : List (Str × Addr)) (fp : List Addr), PE (X.blk s H scope (compEnvC scope cl C X.env) fp) vx tv) (hs : ∀ x, foldedSetIterable iter X.env x = pure x)
    (h : tDcT wi g tt tk tv (own.map (·.2)) σ H Q)
    (hRR : ∀ D C s' m H', Inv X pins σ H' s' → Q (.ref D) H' → s'.heap.Ns C m → FpOk X pins H' C → compPost (model X.prog X.w) X.A X.xe use Qf (.ref D) C (.ok .next) s') :
    wpAny (model X.prog X.w) X.A (comprehension (.DictComp kx vx [⟨tg, iter, ifs, 0⟩] scope pos) scope X.env pos' newDict false (eval iter X.env) use) Qf X.xe s := by
  have free : ∀ y ∈ scope.names, y.2 = .free → ∃ c, X.env.cells.lookup y.1 = some c := fun y hy e => I.ok.has _ (ok.free y hy e)
  refine wpAny_comprehension_free (use := use) rfl hs (closure_ok free) ok.kind (fun y hy e => by rw [ok.uniq y hy, e]) (thn (hi.run pins s σ H _ I h) fun xv s1 hx => thn hx fun itv s2 ⟨it, fp, tn, J, H2, e, I2, T, st2, f2, q⟩ => ?_)
  subst e
  refine wpAny_newObj_type (newEnv_comp ?_)
  have nD : H2 s2.heap.objs.size = none := I2.hok.fresh (Nat.le_refl _)
  obtain ⟨W, ⟨m0, w0⟩, turn⟩ := q _ nD
  -- the empty dict
  have I3 := I2.laid (t' := s2.toks) (fun b o e => Heap.get?_push_of_some { cls := .type "dict", data := .dict #[] } e) (Nat.le_refl _) (dt_empty (P := X.prog) (w := X.w) (H := upd H2 s2.heap.objs.size (.dT [])) s2.heap I2.big)
  have st3 := T.keep 0 _ _ st2 fun b _ o e => Heap.get?_push_of_some { cls := .type "dict", data := .dict #[] } e
  have f3 : ∀ b ∈ fp, FpOk X pins (upd H2 s2.heap.objs.size (.dT [])) b ∧ b < (s2.heap.push { cls := .type "dict", data := .dict #[] }).objs.size := fun b hb => by
    obtain ⟨o, e, _⟩ := T.obj _ _ st2 b hb
    have lt := Heap.lt_size e
    exact ⟨⟨by rw [upd_ne (Nat.ne_of_lt lt)]; exact (f2 b hb).1, (f2 b hb).2⟩, by rw [Heap.size_push]; exact Nat.lt_succ_of_lt lt⟩
  generalize hD : s2.heap.objs.size = D at nD w0 turn I3 f3 ⊢
  generalize hh3 : s2.heap.push { cls := .type "dict", data := .dict #[] } = h3 at I3 st3 f3 ⊢
  generalize hs3 : ({ s2 with heap := h3 } : Shared) = s3 at I3
  have e3 : h3 = s3.heap := by rw [← hs3]
  generalize hH3 : upd H2 D (.dT []) = H3 at I3 f3 w0
  rw [e3] at st3 f3
  have I4 := block_start I3 ok hN f3
  have pg := hg s3 H3 s3.heap.objs.size (cellsFrom (s3.heap.objs.size + 1) scope.names (cloFrom X.env.cells scope.names [])) fp
  have pt := ht s3 H3 s3.heap.objs.size (cellsFrom (s3.heap.objs.size + 1) scope.names (cloFrom X.env.cells scope.names [])) fp
  have pk := hk s3 H3 s3.heap.objs.size (cellsFrom (s3.heap.objs.size + 1) scope.names (cloFrom X.env.cells scope.names [])) fp
  have pe := he s3 H3 s3.heap.objs.size (cellsFrom (s3.heap.objs.size + 1) scope.names (cloFrom X.env.cells scope.names [])) fp
  have nfp : ∀ b ∈ fp, H3 b = none := fun b hb => (f3 b hb).1.1
  show codeAny _ _ (.compStart _ 0 (.ref it) (.ref D) (compEnvC scope (cellsFrom (s3.heap.objs.size + 1) scope.names (cloFrom X.env.cells scope.names [])) s3.heap.objs.size X.env)) (compPost (model X.prog X.w) X.A X.xe use Qf (.ref D) s3.heap.objs.size) { s3 with heap := pushCells (s3.heap.push { cls := .type "dict", data := .dict #[] }) scope.names }
  have locEq : (compEnvC scope (cellsFrom (s3.heap.objs.size + 1) scope.names (cloFrom X.env.cells scope.names [])) s3.heap.objs.size X.env).locals = s3.heap.objs.size := rfl
  have st4 : tn 0 (pushCells (s3.heap.push { cls := .type "dict", data := .dict #[] }) scope.names) := T.keep 0 _ _ st3 fun b _ o e => pushCells_keeps _ _ _ _ (Heap.get?_push_of_some _ e)
  generalize compEnvC scope (cellsFrom (s3.heap.objs.size + 1) scope.names (cloFrom X.env.cells scope.names [])) s3.heap.objs.size X.env = ce at I4 pg pt pk pe locEq ⊢
  generalize hs4 : ({ s3 with heap := pushCells (s3.heap.push { cls := .type "dict", data := .dict #[] }) scope.names } : Shared) = s4 at I4 ⊢
  replace st4 : tn 0 s4.heap := by rw [← hs4]; exact st4
  -- what holds before each turn
  let Tn : Nat → Shared → Prop := fun n s' => ∃ i H', Inv (X.blk s3 H3 scope ce fp) [] (wipe σ (own.map (·.2))) H' s' ∧ tn i s'.heap ∧ (∀ b ∈ fp, H' b = none) ∧ W i n H'
  have stands : ∀ {σ' : L2.St} {H' : Hp} {s' : Shared}, Inv (X.blk s3 H3 scope ce fp) [] σ' H' s' → (∀ b ∈ fp, H' b = none) → ∀ b ∈ fp, FpOk (X.blk s3 H3 scope ce fp) [] H' b := fun {σ' H' s'} I' hn b hb =>
    ⟨hn b hb, (I'.ok.exf b hb).1, I'.ok.exfs b hb, .inl hb, fun x c e => (I'.ok.exf b hb).2 x c e, fun p hp => nomatch (show p ∈ ([] : List (Addr × Obj)) from hp)⟩
  have loop : codeAny (model X.prog X.w) X.A (.compLoop (.DictComp kx vx [⟨tg, iter, ifs, 0⟩] scope pos) 0 (.ref it) (.ref D) ce) (compPost (model X.prog X.w) X.A X.xe use Qf (.ref D) s3.heap.objs.size) s4 := by
    refine compLoop_anyD Tn (fun n s5 ⟨i, H5, I5, st5, n5, w5⟩ => ?_) m0 ⟨0, H3, I4, st4, nfp, w0⟩
    rcases turn i n H5 w5 with ⟨stop, fin⟩ | ⟨go, Nx, hNx, step⟩
    · refine thnF (T.done (X.blk s3 H3 scope ce fp) rfl rfl rfl hc i [] s5 _ H5 (fun _ _ => False) I5 (stands I5 n5) st5 stop) fun r s6 ⟨hr, I6⟩ => ?_
      subst hr
      have I7 : Inv X pins σ H5 s6 := I3.call' (ch := fp) I6.os I6.base I6.hok I6.bare fun b hb => let ⟨⟨_, g1, _, g3, g4, g5⟩, _⟩ := f3 b hb; ⟨g3, g1, g4, g5⟩
      have nC : H5 s3.heap.objs.size = none := locEq ▸ I6.free
      obtain ⟨m, hn, _⟩ := I6.loc
      exact hRR D s3.heap.objs.size s6 m H5 I7 fin (locEq ▸ hn) (I3.fpOk (Nat.le_refl _) nC)
    · refine thnF (T.item (X.blk s3 H3 scope ce fp) rfl rfl rfl hc i [] s5 _ H5 (fun _ _ => False) I5 (stands I5 n5) st5 go) fun r s6 ⟨u, hr, h6⟩ => ?_
      subst hr
      refine thnF h6 fun _ s7 ⟨x, H7, I7, r7, y7, st7, n7⟩ => ?_
      refine thnF (pg.run _ s7 _ H7 x u _ (I7.pinned (stands I7 n7) (T.obj _ _ st7)) r7 (step x H7 y7)) fun _ s8 ⟨σ8, H8, I8, hw, q8⟩ => ?_
      refine thnF (pt.run _ s8 σ8 H8 _ I8 q8) fun b s9 ⟨H9, I9, q9⟩ => ?_
      have next : ∀ {s' : Shared} {H' : Hp}, Inv (X.blk s3 H3 scope ce fp) ([] ++ pinsAt fp s7.heap) σ8 H' s' → Nx H' → ∃ m, m < n ∧ Tn m s' := fun {s' H'} I' nx => by
        obtain ⟨m', lt, w'⟩ := hNx H' nx
        have held : ∀ b ∈ fp, ∀ o, s7.heap.get? b = some o → s'.heap.get? b = some o ∧ H' b = none := fun b hb o e =>
          let z := I'.pin (b, o) (List.mem_append_right _ (List.mem_append_right _ (mem_pinsAt hb e)))
          ⟨z.1, z.2.1⟩
        refine ⟨m', lt, i + 1, H', (I'.unpinned (pins := [])).weak (by rw [← hw, wipe_length]) (fun j v e => (wipe_some (hw ▸ e)).1), T.keep _ _ _ st7 fun b hb o e => (held b hb o e).1, fun b hb => ?_, w'⟩
        obtain ⟨o, e, _⟩ := T.obj _ _ st7 b hb
        exact (held b hb o e).2
      cases b with
      | false => exact next I9 q9
      | true =>
        refine thnF (pk.run _ s9 σ8 H9 _ I9 q9) fun z s10 ⟨yk, H10, I10, r10, q10⟩ => thnF (pe.run _ s10 σ8 H10 _ I10 q10) fun z2 s11 ⟨yv, H11, I11, r11, kvs, k, b, ek, hb, hD11, len, nx⟩ => ?_
        subst ek
        cases r10
        exact t_dictSet (X := X.blk s3 H3 scope ce fp) room I11 hD11 len hb r11 fun s12 I12 => next I12 nx
  exact codeAny_compStart_dict loop (T.self X.A 0 _ _ _ st4 loop)
theorem sw_trueD {kx vx : Expr} {gs : List Comprehension} {scope : Scope} {pos py : Pos} {y : Str} {l : Nat} {env : Env} (hk : env.scope.kind = .function) (hy : env.scope.names.lookup y = some .local) (hl : (py.line == pos.line) = true)
    (ha : (scope.names.any fun (n, k) => n == y && (k == .local || k == .cell)) = false) : swapsWith (.DictComp kx vx gs scope pos) (some (.Name y py)) l env = pure true := by
  have ky : env.kindOf y = some .local := hy
  have hb : env.blockKind = .function := by unfold Env.blockKind; rw [hk]; rfl
  unfold swapsWith
  simp only [hb, ky, ha, Expr.pos, hl]
  rfl
theorem ps_setDcT {i : Nat} {y : Str} {py : Pos} {kx vx tg iter : Expr} {ifs : List Expr} {scope : Scope} {own : List (Str × Nat)} {pos spos : Pos} {wi : TI} {g : TG} {tt : TT} {tk tv : TE} (room : (tupleKind (mixKind X.prog X.w)).room X.A) (hc : X.calm = true) (hN : X.N.Nodup) (hy : X.N[i]? = some y) (hyl : X.env.scope.names.lookup y = some .local)
    (hsw : swapsWith (.DictComp kx vx [⟨tg, iter, ifs, 0⟩] scope pos) (some (.Name y py)) spos.line X.env = pure true) (hi : PI X tg iter wi) (ok : BlkOk X.N X.env.scope scope own)
    (hg : ∀ (s : Shared) (H : Hp) (C : Addr) (cl : List (Str × Addr)) (fp : List Addr), PG (X.blk s H scope (compEnvC scope cl C X.env) fp) tg g) (ht : ∀ (s : Shared) (H : Hp) (C : Addr) (cl : List (Str × Addr)) (fp : List Addr), PTs (X.blk s H scope (compEnvC scope cl C X.env) fp) ifs tt)
    (hk : ∀ (s : Shared) (H : Hp) (C : Addr) (cl : List (Str × Addr)) (fp : List Addr), PE (X.blk s H scope (compEnvC scope cl C X.env) fp) kx tk) (he : ∀ (s : Shared) (H : Hp) (C : Addr) (cl : List (Str × Addr)) (fp : List Addr), PE (X.blk s H scope (compEnvC scope cl C X.env) fp) vx tv) (hs : ∀ x, foldedSetIterable iter X.env x = pure x := by intro _; rfl) :
    PS X (.Assign [.Name y py] (.DictComp kx vx [⟨tg, iter, ifs, 0⟩] scope pos) spos) (tAsg (tDcT wi g tt tk tv (own.map (·.2))) (gName i)) := by
  refine ⟨fun pins s σ H D I h => ?_⟩
  rw [exec_Assign_Name_used _ _ _ _ hsw]
  refine wpAny_bind (wpAny_standAt (wpAny_bind ?_))
  show wpAny _ X.A (do let _ ← comprehension (.DictComp kx vx [⟨tg, iter, ifs, 0⟩] scope pos) scope X.env (firstIterPos [⟨tg, iter, ifs, 0⟩] pos) newDict false (eval iter X.env) (some (assign (.Name y py) X.env))) _ _ s
  have h : tDcT wi g tt tk tv (own.map (·.2)) σ H (fun x H1 => gName i x σ H1 D.nx) := h
  refine wpAny_bind (thn (dcT_core (Qf := fun _ s' => SP X pins D .next s') room hc hN I hi ok hg ht hk he hs h fun L C s' m H' I' q hn f => ?_) fun _ s' hq => wpAny_pure (wpAny_pure hq))
  show wpAny _ _ (assign (.Name y py) X.env (.ref L)) _ _ _
  refine wpAny_assign_Name (store_ok2 (v := V.ref L) I' hN hy (.inl hyl) rfl (fun s2 I2 ⟨a, sb, ha⟩ => ?_) (.inr hyl))
  obtain ⟨f0, f1, f2, f3, f4, f5⟩ := f
  have haC : C ≠ a := by
    rcases ha with z | z
    · rw [z]; exact f1
    · exact fun e => f4 y a z e.symm
  refine ⟨m, hn.sameBut sb haC, fun h3 sb3 => ?_⟩
  exact ⟨_, H', I2.turned (t' := s2.toks) (fun b o hb e => (sb3.2 b hb).trans e) f0 f1 f3 f4 f5, q⟩
end
end VX
set_option maxRecDepth 100000
set_option maxHeartbeats 4000000
/-! t + u and t[lo:hi] of tuples: one continuation. -/
namespace VX
open PySem PySem.Spec PyProof.Rows L2
theorem i_catA {K : PySem.W.Frag} {H : Hp} {Q : VK} {a b : Addr} {xs ys : List V} (ha : SqT K H a xs) (hb : SqT K H b ys) (hz : xs.length + ys.length ≤ sizeLine) (hy : ys ≠ [])
    (q : ∀ W H', ((H' = H ∧ W = b ∧ xs = []) ∨ (H W = none ∧ H' = upd H W (.tup (xs ++ ys)))) → Q (.ref W) H') : rCatA K (.ref a) (.ref b) H Q :=
  ⟨a, b, xs, ys, rfl, rfl, ha, hb, hz, fun h => q b H (.inl ⟨rfl, rfl, h⟩), fun _ h => absurd h hy, fun _ _ p np => q p _ (.inr ⟨np, rfl⟩)⟩
theorem i_slA {K : PySem.W.Frag} {H : Hp} {Q : VK} {a : Addr} {xs : List V} {lo hi : Option Int} (ha : SqT K H a xs)
    (q : ∀ W H', ((H' = H ∧ W = a ∧ cutV xs lo hi = xs) ∨ (H W = none ∧ H' = upd H W (.tup (cutV xs lo hi)))) → Q (.ref W) H') : rSlA K (.ref a) lo hi H Q :=
  ⟨a, xs, rfl, ha, fun h => q a H (.inl ⟨rfl, rfl, by unfold cutV; rw [h.1, h.2]; simp⟩), fun _ p np => q p _ (.inr ⟨np, rfl⟩)⟩
theorem i_sl {r : V → Option Int → Option Int → Hp → VK → Prop} {te : TE} {tl th : TO} {σ : L2.St} {H : Hp} {Q : VK} (q : te σ H fun x H1 => tl σ H1 fun l H2 => th σ H2 fun u H3 => r x l u H3 Q) : tSl r te tl th σ H Q := q
theorem i_part {te : TE} {σ : L2.St} {H : Hp} {Q : Option Int → Hp → Prop} (q : te σ H fun x H1 => ∃ i, x = .int i ∧ Q (some i) H1) : tPart te σ H Q := q
theorem i_noPart {σ : L2.St} {H : Hp} {Q : Option Int → Hp → Prop} (q : Q none H) : tNoPart σ H Q := q
theorem i_bmL {K : PySem.W.Frag} {r : V → List V → Hp → VK → Prop} {to : TE} {t : TA} {σ : L2.St} {H : Hp} {Q : VK} (q : to σ H fun x H1 => tyV K "list" x H1 ∧ t σ H1 fun xs H2 => r x xs H2 Q) : tBM K "list" r to t σ H Q := q
theorem i_iTup {K : PySem.W.Frag} {tl : TE} {σ : L2.St} {H : Hp} {R : It → Hp → Prop} (q : tl σ H fun x H1 => ∃ a, x = .ref a ∧ (∃ xs, SqT K H1 a xs) ∧ R (Itt K a) H1) : iTup K tl σ H R := q
end VX
set_option maxRecDepth 100000
set_option maxHeartbeats 4000000
/-! A list of tuples in an f-string: some text, whatever is under way. -/
namespace VX
open PySem PySem.Spec PyProof.Rows L2
open Builtin.List Builtin.Tuple in
/-- x's repr: some text of at most m signs; h is what stood, d how deep it goes -/
def SomeR (prog : Program) (w : World) (h : Heap) (d m : Nat) (x : Value) : Prop := ∀ (b : Nat), b + m ≤ sizeLine → ∀ (A : Around) (E : Value → Shared → Prop) (s : Shared) (Q : Str → Shared → Prop), A.units + d < cLine → (∀ c o, h.get? c = some o → s.heap.get? c = some o) →
  (∀ t tk, t.length ≤ m → Q t { s with toks := tk }) → wpAny (model prog w) A (pyReprUnder b x) Q E s
theorem SomeR.of_is {prog : Program} {w : World} {h : Heap} {d m : Nat} {x : Value} {t : Str} (r : ReprIs prog w x t) (ht : t.length ≤ m) : SomeR prog w h d m x :=
  fun b hb A E s Q _ _ q => r b (by omega) A E s Q fun tk => q t tk ht
theorem SomeR.up {prog : Program} {w : World} {h : Heap} {d m m' : Nat} {x : Value} (r : SomeR prog w h d m x) (hm : m ≤ m') : SomeR prog w h d m' x :=
  fun b hb A E s Q hu hk q => r b (by omega) A E s Q hu hk fun t tk ht => q t tk (by omega)
theorem SomeR.upd {prog : Program} {w : World} {h : Heap} {d d' m : Nat} {x : Value} (r : SomeR prog w h d m x) (hd : d ≤ d') : SomeR prog w h d' m x :=
  fun b hb A E s Q hu hk q => r b hb A E s Q (by omega) hk q
section
variable {prog : Program} {w : World} {A : Around} {E : Value → Shared → Prop} {h : Heap} {d m : Nat}
theorem tupFoldS (hu : A.units + d < cLine) : ∀ (l : List Value) (acc : Array Str) (n : Nat) (s : Shared) (Q : (Array Str × Nat) → Shared → Prop), (∀ x ∈ l, SomeR prog w h d m x) → n + l.length * (m + 2) ≤ sizeLine → (∀ c o, h.get? c = some o → s.heap.get? c = some o) →
    (∀ (ts : List Str) tk, ts.length = l.length → (∀ t ∈ ts, t.length ≤ m) → Q ⟨acc ++ ts.toArray, n + piled ts⟩ { s with toks := tk }) → wpAny (model prog w) A (forIn l (⟨acc, n⟩ : (Array Str × Nat)) tupBody) Q E s := by
  intro l
  induction l with
  | nil =>
    intro acc n s Q _ _ _ q
    have h0 := q [] s.toks rfl (fun t ht => nomatch ht)
    simp only [List.forIn_nil]
    exact wpAny_pure (by simpa [piled] using h0)
  | cons x l ih =>
    intro acc n s Q hT hn hk q
    rw [List.length_cons, Nat.add_mul, Nat.one_mul] at hn
    rw [List.forIn_cons]
    refine wpAny_bind (wpAny_bind (hT x List.mem_cons_self (n + 1) (by omega) _ _ _ _ hu hk fun t tk ht => wpAny_pure ?_))
    refine ih (acc.push t) (n + (t.length + 2)) _ Q (fun y hy => hT y (List.mem_cons_of_mem _ hy)) (by omega) hk fun ts tk' hl hm => ?_
    have h1 := q (t :: ts) tk' (by rw [List.length_cons, hl, List.length_cons]) (fun y hy => (List.mem_cons.mp hy).elim (fun e => e ▸ ht) (hm y))
    have e : n + piled (t :: ts) = n + (t.length + 2) + piled ts := by rw [piled_cons]; omega
    rw [e] at h1
    simpa using h1
theorem piledS {m : Nat} : ∀ ts : List Str, (∀ t ∈ ts, t.length ≤ m) → piled ts ≤ ts.length * (m + 2) := piled_small
open Builtin.Tuple in
theorem tupRestS {s : Shared} {a : Addr} {o : Obj} {items : Array Value} {n b : Nat} {Q : Fin → Shared → Prop} (hu : A.units + d < cLine) (ha : s.heap.get? a = some o) (hd : o.data = .seq items n) (hI : ∀ x ∈ items.toList, SomeR prog w h d m x) (hk : ∀ c o, h.get? c = some o → s.heap.get? c = some o)
    (hz : b + (items.size * (m + 2) + 7) ≤ sizeLine) (q : ∀ (t : Str) u tk, t.length ≤ items.size * (m + 2) + 7 → Q (.done (.ret (.str t u))) { s with toks := tk }) : wpAny (model prog w) A (tupleReprRest b (.ref a)) Q E s := by
  unfold tupleReprRest Builtin.Tuple.tupleItemsOf
  refine wpAny_bind (wpAny_bind (wpAny_seqItems ha hd (wpAny_pure ?_)))
  rw [← Array.forIn_toList]
  refine wpAny_bind (tupFoldS hu _ _ _ _ _ hI (by simpa using (by omega : b + items.size * (m + 2) ≤ sizeLine)) hk fun ts tk hl hm => ?_)
  have hl' : ts.length = items.size := by simpa using hl
  have l1 := fmt_text ts
  have l2 := piledS ts hm
  rw [hl'] at l2
  have l3 : (tupleText ts).length ≤ items.size * (m + 2) + 7 := by omega
  refine wpAny_bind (wpAny_mkStr (wpAny_pure ?_) (by simpa [tupleText, hl'] using (by omega : (tupleText ts).length ≤ sizeLine)))
  have h1 := q (tupleText ts) tk (tk + 1) l3
  simpa [tupleText, hl'] using h1
theorem SomeR.tuple {a : Addr} {o : Obj} {items : Array Value} {n : Nat} (ha : h.get? a = some o) (hc : o.cls = .type "tuple") (hd : o.data = .seq items n) (hI : ∀ x ∈ items.toList, SomeR prog w h d m x) : SomeR prog w h (d + 1) (items.size * (m + 2) + 7) (.ref a) := by
  intro b hb A E s Q hu hk q
  refine wpAny_pyReprUnder_ref (by omega) (wpAny_pyReprObjUnder_twin (twin := "tuple.__repr__.under") ⟨o, hk _ _ ha, hc⟩ F.slot_tuple_repr rfl (by omega)
    (call_twin_own (F.quiet_tuple_repr_under _) F.entry_tuple_repr_under F.check_tuple_repr_under ⟨o, hk _ _ ha, hc⟩ F.slot_tuple_repr (F.args_tuple_repr_1 _) (wpOwn_of_wpAny ?_)))
  show wpAny _ _ (Builtin.tupleReprAt b ⟨[.ref a], []⟩) _ _ s
  rw [tuple_repr_tree]
  refine wpAny_bind (fmt_underWay fun bb => ?_)
  cases bb with
  | true =>
    refine PySem.W.KFB.if_so rfl ?_
    refine wpAny_bind (wpAny_rule ?_)
    refine wpAny_bind (wpAny_mkStr (wpAny_pure ?_) (by decide +kernel))
    exact ⟨⟨_, _, rfl⟩, ⟨_, _, rfl, q "(...)" _ (Nat.le_trans fmt_way (by omega))⟩⟩
  | false =>
    refine PySem.W.KFB.if_not rfl ?_
    refine tupRestS (h := h) (d := d) (m := m) (by rw [units_under_tuple_repr_under]; omega) (hk _ _ ha) hd hI hk hb fun t u tk ht => ?_
    exact ⟨⟨_, _, rfl⟩, ⟨_, _, rfl, q t _ ht⟩⟩
end
/-! the list -/
section
variable {prog : Program} {w : World} {A : Around} {R : Result → Shared → Prop}
open Builtin.List in
theorem loopS {a P : Addr} (hne : a ≠ P) {items : Array Value} {h : Heap} {d m b : Nat} (hu : A.units + (d + 1) < cLine) (hP0 : h.get? P = none)
    (hT : ∀ (i : Nat) (x : Value), items[i]? = some x → SomeR prog w h d m x) (hsz : b + (items.size * (m + 2) + 2) ≤ sizeLine) :
    ∀ (k i : Nat) (s : Shared) (oa : Obj) (na : Nat) (acc : Array Value) (c : Nat) (done : List (Str × Tok)), items.size - i = k → i ≤ items.size → (∀ c o, h.get? c = some o → s.heap.get? c = some o) →
    s.heap.get? a = some oa → oa.data = .seq items na →
    s.heap.get? P = some { cls := .type "list", dict := none, data := .seq acc c, slots := #[] } → acc.toList = strValues done → done.length = i → (∀ p ∈ done, p.1.length ≤ m) →
    (∀ t h' u tk, (∀ b o, b ≠ P → s.heap.get? b = some o → h'.get? b = some o) → R (.ok (.ret (.str t u))) { s with heap := h', toks := tk }) →
    codeAny (model prog w) A (.builtin "list.__repr__.loop" ⟨[.ref a, rawInt i, .ref P, rawInt ((b + piled (done.map (·.1)) : Nat) : Int)], []⟩) R s := by
  intro k
  induction k with
  | zero =>
    intro i s oa na acc c done hk hi hkp ha hda hP hacc hdone hm hR
    have hin : i = items.size := by omega
    refine codeAny_builtin F.entry_list_repr_loop ?_
    show wpAny _ _ (Builtin.«list.__repr__.loop» ⟨[.ref a, .int i 0, .ref P, .int ((b + piled (done.map (·.1)) : Nat) : Int) 0], []⟩) _ _ s
    rw [repr_loop_tree]
    refine wpAny_bind (wpAny_listItems ha hda ?_)
    have hnone : items[(i : Int).toNat]? = none := by simp [hin]
    simp only [hnone]
    unfold reprEnd
    refine wpAny_bind (wpAny_listItems hP rfl ?_)
    rw [hacc, repr_fold]
    refine wpAny_bind (wpAny_pure ?_)
    have hs := listText_small (m := m) (ts := done.map (·.1)) fun t ht => by
      obtain ⟨p, hp, rfl⟩ := List.mem_map.mp ht
      exact hm p hp
    rw [List.length_map, hdone, hin] at hs
    refine wpAny_bind (wpAny_mkStr (wpAny_pure ?_) (show (listText (done.map (·.1))).length ≤ sizeLine by omega))
    exact hR _ s.heap _ _ (fun _ _ _ e => e)
  | succ k ih =>
    intro i s oa na acc c done hk hi hkp ha hda hP hacc hdone hm hR
    have hlt : i < items.size := by omega
    have hrep := hT i items[i] (by simp [hlt])
    have hpl := piled_small (m := m) (done.map (·.1)) fun t ht => by
      obtain ⟨p, hp, rfl⟩ := List.mem_map.mp ht
      exact hm p hp
    rw [List.length_map, hdone] at hpl
    have hmul : (i + 1) * (m + 2) ≤ items.size * (m + 2) := Nat.mul_le_mul_right _ hlt
    rw [Nat.add_mul, Nat.one_mul] at hmul
    refine codeAny_builtin F.entry_list_repr_loop ?_
    show wpAny _ _ (Builtin.«list.__repr__.loop» ⟨[.ref a, .int i 0, .ref P, .int ((b + piled (done.map (·.1)) : Nat) : Int) 0], []⟩) _ _ s
    rw [repr_loop_tree]
    refine wpAny_bind (wpAny_listItems ha hda ?_)
    have hsome : items[(i : Int).toNat]? = some items[i] := by simp [hlt]
    simp only [hsome]
    rw [Int.toNat_natCast]
    refine wpAny_bind (wpAny_holding (hrep (b + piled (done.map (·.1)) + 1) (by omega) _ _ _ _ (by rw [units_under_list_loop]; omega) hkp fun t tk ht => ?_))
    refine wpAny_bind (wpAny_mkStr ?_ (by omega))
    refine wpAny_bind ?_
    show wpAny _ _ (updateSeq P _) _ _ _
    have hasz : acc.size ≤ sizeLine := by
      have e1 : acc.toList.length = acc.size := by simp
      have e2 : (strValues done).length = done.length := by simp [strValues]
      have e4 : items.size * 2 ≤ items.size * (m + 2) := Nat.mul_le_mul_left _ (by omega)
      rw [hacc] at e1; omega
    refine wpAny_updateSeq hP rfl (wpAny_pure ⟨F.quiet_list_repr_loop _, ?_⟩) hasz
    have e1 : ((i : Int) + 1) = ((i + 1 : Nat) : Int) := by omega
    have e2 : b + piled (done.map (·.1)) + (t.length + 2) = b + piled ((done ++ [(t, tk)]).map (·.1)) := by
      rw [List.map_append]
      have : ∀ l : List Str, piled (l ++ [t]) = piled l + (t.length + 2) := fun l => by
        induction l with
        | nil => simp [piled]
        | cons x l ih => rw [List.cons_append, piled_cons, piled_cons, ih]; omega
      show _ = b + piled (done.map (·.1) ++ [t])
      rw [this]
      omega
    rw [e1, e2]
    refine ih (i + 1) _ oa na (acc.push (.str t tk)) _ (done ++ [(t, tk)]) (by omega) hlt (fun c o e => ?_) ((Heap.get?_update_other _ _ (fun h : P = a => hne h.symm)).trans ha) hda (Heap.get?_update_self _ hP rfl) (by simp [hacc, strValues]) (by simp [hdone]) (fun p hp => ?_) fun t' h' u tk' hh => ?_
    · exact (Heap.get?_update_other _ _ (fun z : P = c => by rw [← z, hP0] at e; cases e)).trans (hkp c o e)
    · rcases List.mem_append.mp hp with hp | hp
      · exact hm p hp
      · rw [List.mem_singleton] at hp
        rw [hp]
        exact ht
    · exact hR t' h' u tk' fun b o hb e => hh b o hb ((Heap.get?_update_other _ _ (fun h : P = b => hb h.symm)).trans e)
end
section
variable {prog : Program} {w : World} {A : Around} {E : Value → Shared → Prop} {s : Shared} {a : Addr} {o : Obj} {items : Array Value} {n d m : Nat}
theorem lr_callS {Q : Value → Shared → Prop} (hu : A.units + (d + 2) < cLine) (ha : s.heap.get? a = some o) (hc : o.cls = .type "list") (hd : o.data = .seq items n)
    (hT : ∀ (i : Nat) (x : Value), items[i]? = some x → SomeR prog w s.heap d m x) (hz : items.size * (m + 2) + 2 ≤ sizeLine)
    (hQ : ∀ (z : Str) h' u tk, (∀ b ob, s.heap.get? b = some ob → h'.get? b = some ob) → Q (.str z u) { s with heap := h', toks := tk }) : wpAny (model prog w) A (call (.builtin "list.__repr__") [.ref a]) Q E s := by
  have hT' : s.TypeIs (.ref a) "list" := ⟨o, ha, hc⟩
  refine wpAny_call (codeAny_call_builtin F.slot_list_repr.plain F.entry_list_repr (F.slot_list_repr.check _ _ _ _ _ _ _ _ hT' (F.args_list_repr_1 _) ?body))
  refine lr_head (b := 0) ha hd (fun z u tk _ => hQ z s.heap u tk fun b ob e => e) (wpAny_bind (m := newList []) (wpAny_newObj_type ?_))
  refine wpAny_pure ⟨F.quiet_list_repr_loop _, ?_⟩
  have lt := Heap.lt_size ha
  have l := loopS (prog := prog) (w := w) (A := A) (R := fun r s' => callEnd Q E r s') (a := a) (P := s.heap.objs.size) (Nat.ne_of_lt lt) (items := items) (h := s.heap) (d := d) (m := m) (b := 0) (by omega) (Heap.get?_none_of_le (Nat.le_refl _)) hT (by omega)
    items.size 0 { s with heap := s.heap.push { cls := .type "list", data := .seq #[] } } o n #[] _ [] (by omega) (by omega) (fun c ob e => Heap.get?_push_of_some _ e) (Heap.get?_push_of_some _ ha) hd (Heap.get?_push_size _ rfl) rfl rfl (fun p hp => nomatch hp)
    (fun t h' u tk hk => hQ t h' u tk fun b ob e => hk b ob (Nat.ne_of_lt (Heap.lt_size e)) (Heap.get?_push_of_some _ e))
  exact l
theorem lr_fmtS {Q : Value → Shared → Prop} (hu : A.units + (d + 4) < cLine) (ha : s.heap.get? a = some o) (hc : o.cls = .type "list") (hd : o.data = .seq items n)
    (hT : ∀ (i : Nat) (x : Value), items[i]? = some x → SomeR prog w s.heap d m x) (hz : items.size * (m + 2) + 2 ≤ sizeLine)
    (hQ : ∀ (z : Str) h' u tk, (∀ b ob, s.heap.get? b = some ob → h'.get? b = some ob) → Q (.str z u) { s with heap := h', toks := tk }) : wpAny (model prog w) A (formatField (.ref a) Str.empty) Q E s :=
  wpAny_formatField_slot (fun _ _ => nofun) (by omega) ⟨o, ha, hc⟩ F.slot_list_format F.slot_list_str F.slot_list_repr.toG (lr_callS (d := d) (m := m) (s := { s with toks := s.toks + 1 }) (by show A.units + 1 + 1 + (d + 2) < cLine; omega) ha hc hd hT hz fun z h' u tk hk => ⟨z, u, rfl, hQ z h' u tk hk⟩)
end
/-- data of which an f-string makes some text: numbers, truth values, texts, and tuples of them -/
inductive Fl : Nat → Nat → PyData → Prop
  | int {d m : Nat} {i : Int} : i.natAbs < 10 ^ 40 → 41 ≤ m → Fl d m (.int i)
  | bool {d m : Nat} {b : Bool} : 5 ≤ m → Fl d m (.bool b)
  | str {d m : Nat} {t : Str} : (reprText t).length ≤ m → (reprText t).length ≤ sizeLine → Fl d m (.str t)
  | tup {d m k : Nat} {ds : List PyData} : (∀ x ∈ ds, Fl d m x) → ds.length * (m + 2) + 7 ≤ k → Fl (d + 1) k (.tuple ds)
theorem Fl.some {X : Cx} {pins : List (Addr × Obj)} {σ : L2.St} {H : Hp} {s : Shared} (I : Inv X pins σ H s) : ∀ {d m : Nat} {y : PyData}, Fl d m y → ∀ {v : V} {x : Value}, Dp X.K H v y → RelV v x → SomeR X.prog X.w s.heap d m x
  | _, _, _, .int hi hm, v, x, dp, r => by
    cases dp
    obtain ⟨u, rfl⟩ := r
    refine SomeR.of_is (ReprIs.int u (log40 _ hi)) (Nat.le_trans ?_ hm)
    rw [PySem.ofString_length]
    exact int_text_length_le10 (by decide) hi
  | _, _, _, .bool (b := b) hm, v, x, dp, r => by
    cases dp
    cases r
    refine SomeR.of_is (ReprIs.bool b) (Nat.le_trans ?_ hm)
    cases b <;> decide +kernel
  | _, _, _, .str h1 h2, v, x, dp, r => by
    cases dp
    obtain ⟨u, rfl⟩ := r
    exact SomeR.of_is (ReprIs.str _ u h2) h1
  | _, _, _, .tup (m := m) (ds := ds) hd hk, v, x, dp, r => by
    cases dp with
    | tup hs ha =>
    cases r
    obtain ⟨its, rv, ⟨o, ho, hcl, n, hdt⟩, _⟩ := I.tuple hs
    have hl : its.length = ds.length := by rw [← Paired.length rv, dpa_len ha]
    refine (SomeR.tuple ho hcl hdt (m := m) fun y hy => ?_).up (by simp only [List.size_toArray]; rw [hl]; exact hk)
    obtain ⟨i, hi⟩ := List.getElem?_of_mem (show y ∈ its by simpa using hy)
    have hi2 : i < ds.length := by rw [← hl]; exact (List.getElem?_eq_some_iff.mp hi).1
    obtain ⟨v', hv', dv⟩ := dpa_get ha (List.getElem?_eq_getElem hi2)
    obtain ⟨u, hu, ru⟩ := rv.get hv'
    rw [hi] at hu
    cases hu
    exact Fl.some I (hd _ (List.getElem_mem hi2)) dv ru
/-- {xs}, xs a list of such data: some text -/
def tFmtD (K : PySem.W.Frag) (te : TE) : TE := fun σ H Q => te σ H fun x H1 => ∃ (a : Addr) (ds : List PyData) (xs : List V) (d m : Nat), x = .ref a ∧ SqL K H1 a xs ∧ DpAll K H1 xs ds ∧ (∀ y ∈ ds, Fl d m y) ∧ d ≤ 40 ∧ ds.length * (m + 2) + 2 ≤ sizeLine ∧ ∀ z : Str, Q (.str z) H1
theorem pe_fmtD {X : Cx} {e : Expr} {te : TE} {pos : Pos} (hr : X.A.units + 64 < cLine) (he : PE X e te) : PE X (.FormattedValue e (-1) none pos) (tFmtD X.K te) := by
  refine ⟨fun pins s σ H Q I h => wpAny_FormattedValue_plain (thn (he.run pins s σ H _ I h) fun v s1 hv => ?_)⟩
  obtain ⟨x, H1, I1, r1, a, ds, xs, d, m, rfl, hl, ha, hf, h9, hz, q⟩ := hv
  cases r1
  obtain ⟨its, rv, ⟨o, n, ho, hcl, _, hd⟩, _⟩ := I1.list hl
  have hln : its.length = ds.length := by rw [← Paired.length rv, dpa_len ha]
  refine lr_fmtS (d := d) (m := m) (by omega) ho hcl hd (fun i y hy => ?_) (by simp only [List.size_toArray]; rw [hln]; exact hz) fun z h' u tk hk => ⟨.str z, H1, I1.kept (t' := tk) hk, ⟨u, rfl⟩, q z⟩
  have hi : its[i]? = some y := by simpa using hy
  have hi2 : i < ds.length := by rw [← hln]; exact (List.getElem?_eq_some_iff.mp hi).1
  obtain ⟨v', hv', dv⟩ := dpa_get ha (List.getElem?_eq_getElem hi2)
  obtain ⟨u, hu, ru⟩ := rv.get hv'
  rw [hi] at hu
  cases hu
  exact Fl.some I1 (hf _ (List.getElem_mem hi2)) dv ru
/-- {b}, b a truth value -/
def tFmtB (te : TE) : TE := fun σ H Q => te σ H fun x H1 => ∃ b : Bool, x = .bl b ∧ ∀ z : Str, Q (.str z) H1
theorem pe_fmtB {X : Cx} {e : Expr} {te : TE} {pos : Pos} (he : PE X e te) : PE X (.FormattedValue e (-1) none pos) (tFmtB te) := by
  refine ⟨fun pins s σ H Q I h => wpAny_FormattedValue_plain (thn (he.run pins s σ H _ I h) fun v s1 hv => ?_)⟩
  obtain ⟨x, H1, I1, r1, b, rfl, q⟩ := hv
  cases r1
  exact wpAny_formatField_bool ⟨.str _, H1, I1.tok _, ⟨_, rfl⟩, q _⟩
end VX
set_option maxRecDepth 100000
set_option maxHeartbeats 4000000
/-! Several clauses 'except C as n', one name n for all of them. -/
namespace VX
open PySem PySem.Spec PyProof.Rows L2
abbrev Sui := Addr → Value → Option Addr → TS
/-- the ends behind a suite: n is gone -/
def gone (i : Nat) (D : Ends) : Ends := { nx := fun σ' H' => D.nx (σ'.set i none) H', rt := D.rt, bk := fun σ' H' => D.bk (σ'.set i none) H', ct := fun σ' H' => D.ct (σ'.set i none) H' }
def wAs2 (K : PySem.W.Frag) (i : Nat) (Wout : WX) (D : Ends) : List (Value × Sui) → WX
  | [] => Wout
  | (c, ts) :: r => fun cls d σ H => ∃ b, PySem.W.exmOne K cls c = some b ∧ (b = true → ∀ a, H a = none → ts a cls d (gone i D) (σ.set i (some (.ref a))) H) ∧ (b = false → wAs2 K i Wout D r cls d σ H)
inductive HdsAs (X : Cx) (n : Str) : List ExceptHandler → List (Value × Sui) → Prop
  | nil : HdsAs X n [] []
  | cons {x : Str} {c : Value} {ts : Sui} {b₀ : Stmt} {suite : List Stmt} {np pos' : Pos} {hds : List ExceptHandler} {l : List (Value × Sui)} (hc : Names X x c)
      (hsu : ∀ (a : Addr) (oe : Obj) (cls : Value) (d : Option Addr) (pn : List (Addr × Obj)), Zc cls d oe → (∃ vs, oe.data = .fields vs) → PSs (X.suite a ((a, oe) :: pn)) (b₀ :: suite) (ts a cls d)) (r : HdsAs X n hds l) :
      HdsAs X n (.ExceptHandler (some (.Name x np)) (some n) (b₀ :: suite) pos' :: hds) ((c, ts) :: l)
section
variable {X : Cx} {body : List Stmt} {h₀ : ExceptHandler} {hds : List ExceptHandler} {l : List (Value × Sui)} {pos : Pos} {tb : WX → TS} {Wout : WX} {n : Str} {i : Nat}
theorem ps_try_as2 (hs : X.stack = X.env :: X.outer) (hf : X.env.frame = some X.env.locals) (hN : X.N.Nodup) (hi : X.N[i]? = some n) (hln : X.env.kindOf n = some .local) (tk : Takes X Wout)
    (hb : ∀ (W : WX) (pn : List (Addr × Obj)) (xe : Value → Shared → Prop), Takes (X.tr pn xe) W → PassesOwn (model X.prog X.w) X.A X.env xe → PSs (X.tr pn xe) body (tb W))
    (hh : HdsAs X n (h₀ :: hds) l) : PS X (.Try body (h₀ :: hds) [] [] pos) (fun D σ H => tb (wAs2 X.K i Wout D l) D σ H) := by
  refine ⟨fun pins s σ H D I h => wpAny_Try_except ?_⟩
  have ok := I.ok
  let caught : Value → Shared → Prop := fun e s₁ => wpAny (model X.prog X.w) X.A (noteFrame e X.env) (fun _ s₂ => wpAny (model X.prog X.w) X.A (setFlight e none) (fun _ s₃ => wpAny (model X.prog X.w) X.A (handleBy e X.env (h₀ :: hds)) (SP X pins D) X.xe s₃) X.xe s₂) X.xe s₁
  refine wpAny_mono ((hb (wAs2 X.K i Wout D l) (X.pn ++ pins) caught (fun u s' xx => ?_) PassesOwn.looking).run [] s σ H D (I.toTry _) h) (fun f s1 hsp => ?_) (fun e s1 he => he)
  · obtain ⟨a, B, sI, pins', σ', H', cls, d, rfl, J', nb, up, sky, na, os, ag, w⟩ := xx
    have J := J'.ofTry ok
    rw [show (X.tr (X.pn ++ pins) caught).stack = X.env :: X.outer from hs] at sky
    refine Sky.land Zc.steady (by rw [ok.frames, hs]) hf sky fun h3 fl3 up3 => ?_
    have J3 : Inv X pins σ' H' { s' with heap := h3 } := J.landed nb fl3.1 (up.trans up3) os ag
    obtain ⟨oe, vs, e3, z3, d3⟩ := fl3.there
    have out : a ∉ frs (X.env :: X.outer) := fun hm => by
      obtain ⟨_, o', e', no⟩ := fl3.2.2.1.mem hm
      rw [e3] at e'
      cases e'
      exact no _ d3
    have nL : a ≠ X.env.locals := fun z => out (List.mem_filterMap.mpr ⟨X.env, List.mem_cons_self, by rw [hf, z]⟩)
    have nF : a ∉ X.fs := fun hm => let ⟨e, he, q⟩ := List.mem_filterMap.mp hm; out (List.mem_filterMap.mpr ⟨e, List.mem_cons_of_mem _ he, q⟩)
    have S3 := J3.suite e3 d3 na nL nF
    -- clause by clause
    suffices go : ∀ {hds' : List ExceptHandler} {l' : List (Value × Sui)}, HdsAs X n hds' l' → wAs2 X.K i Wout D l' cls d σ' H' → wpAny (model X.prog X.w) X.A (handleBy (.ref a) X.env hds') (SP X pins D) X.xe { s' with heap := h3 } from go hh w
    intro hds' l' hk
    induction hk with
    | nil =>
      intro w
      refine wpAny_handleBy_nil ?_
      obtain ⟨_, _, _, oe', vs', T, oT, ts', g1, _, g2, g3, _⟩ := id fl3
      unfold PySem.passOn
      refine wpAny_bind (wpAny_field g1 g2 g3 ?_)
      rw [if_neg (show ¬ ((Value.ref T == Value.none) = true) from by simp)]
      have fin : wpAny (model X.prog X.w) X.A (setFlight (.ref a) X.env.frame) (fun _ s4 => wpAny (model X.prog X.w) X.A (throw (.ref a) : Sem Flow) (SP X pins D) X.xe s4) X.xe { s' with heap := h3 } := by
        rw [hf]
        exact HandSPX.setFlight_upZ fl3 fun h4 hh4 up4 => wpAny_throw (tk _ _ ⟨a, B, sI, pins, σ', H', cls, d, rfl, J, nb, (up.trans up3).trans up4, .inr (.inr (by rw [hs]; exact hh4)), na, os, ag, w⟩)
      first
        | exact wpAny_bind (wpAny_pure (wpAny_bind fin))
        | exact wpAny_bind fin
    | @cons x c ts b₀ suite np pos' hds2 l2 hc hsu r ih =>
      rintro ⟨b, isB, yes, no⟩
      refine wpAny_handleBy_cons (codeAny_handlers_test ?_) (by intro q; cases q)
      have ty : PySem.W.Looks (model X.prog X.w) h3 (typeOf (.ref a)) cls := fun A Q E s k q => wpAny_typeOf_ref (k _ _ e3) (by rw [z3.1]; exact q)
      have named : ∀ {Q : Value → Shared → Prop} {E : Value → Shared → Prop}, Q c { s' with heap := h3 } → wpAny (model X.prog X.w) (X.A.mark (some (.ref a))) (eval (.Name x np) X.env) Q E { s' with heap := h3 } := fun {Q E} q => by
        obtain ⟨hg, hdbg, hm | ⟨hm, hv, hnn⟩⟩ := hc
        · exact ld_glob (X := X.suite a ((a, oe) :: (X.pn ++ pins))) S3 hg hm q hdbg
        · exact ld_blt (X := X.suite a ((a, oe) :: (X.pn ++ pins))) S3 hg hm hv q hnn hdbg
      refine named ((PySem.W.exm_one (M := model X.prog X.w) J3.kIn ty isB).here ?_)
      cases b with
      | false => exact ih (no rfl)
      | true =>
        refine codeAny_handlers_suite_as (HandSPX.lands_againZ fl3 fun h4 fl4 up4 => ?_)
        have J4 : Inv X pins σ' H' { s' with heap := h4 } := J.landed nb fl4.1 ((up.trans up3).trans up4) os ag
        obtain ⟨oe4, vs4, e4, z4, d4⟩ := fl4.there
        refine store_ok (X := X.suite a ((a, oe4) :: (X.pn ++ pins))) (v := .ref a) (J4.suite e4 d4 na nL nF) hN hi (.inl hln) rfl (fun s5 S5 => ?_) (.inr hln)
        refine wpAny_mono ((hsu a oe4 cls d (X.pn ++ pins) z4 ⟨_, d4⟩).run [] s5 _ H' _ S5 (yes rfl a na)) (fun f s6 hsp => ?_) (fun _ _ z => False.elim z)
        have off : ∀ {σ6 : L2.St} {H6 : Hp} {Q : Shared → Prop}, Inv (X.suite a ((a, oe4) :: (X.pn ++ pins))) [] σ6 H6 s6 → (∀ s7, Inv X pins (σ6.set i none) H6 s7 → Q s7) →
            wpAny (model X.prog X.w) X.A (do bindName X.env n .none; unbindBehindTheSuite X.env n pos') (fun _ s7 => Q s7) X.xe s6 := fun {σ6 H6 Q} S6 hq => gone_ok (S6.unsuite ok) hN hi hln hq
        cases f with
        | ret u =>
          obtain ⟨v6, σ6, H6, S6, r6, q6⟩ := hsp
          exact off S6 fun s7 J7 => ⟨_, _, _, J7, r6, q6⟩
        | next => exact let ⟨_, _, S6, q6⟩ := hsp; off S6 fun s7 J7 => ⟨_, _, J7, q6⟩
        | brk => exact let ⟨_, _, S6, q6⟩ := hsp; off S6 fun s7 J7 => ⟨_, _, J7, q6⟩
        | cont => exact let ⟨_, _, S6, q6⟩ := hsp; off S6 fun s7 J7 => ⟨_, _, J7, q6⟩
  · cases f with
    | next => exact let ⟨σ', H', J', q⟩ := hsp; wpAny_execs_nil ⟨σ', H', J'.ofTry ok, q⟩
    | brk => exact let ⟨σ', H', J', q⟩ := hsp; ⟨σ', H', J'.ofTry ok, q⟩
    | cont => exact let ⟨σ', H', J', q⟩ := hsp; ⟨σ', H', J'.ofTry ok, q⟩
    | ret u => exact let ⟨v, σ', H', J', r, q⟩ := hsp; ⟨v, σ', H', J'.ofTry ok, r, q⟩
end
end VX
set_option maxRecDepth 100000
set_option maxHeartbeats 4000000
/-! isinstance of a caught error whatever its class, against one class or a tuple of classes; an object made within a try. -/
namespace VX
open PySem PySem.Spec PyProof.Rows L2
def rIsX (K : PySem.W.Frag) (a : Addr) (cls : Value) (d : Option Addr) : List V → Hp → VK → Prop := fun xs H Q => ∃ (D : Addr) (c : V) (cv : Value) (b : Bool) (dd : Addr) (fs : List (Str × V)), ExcD K D ∧ xs = [.ref a, c] ∧ cls = .ref D ∧ d = some dd ∧ H dd = some (.xd fs) ∧ (∀ u, RelV c u → u = cv) ∧ PySem.W.kitOne K (.ref D) cv = some b ∧ Q (.bl b) H
theorem call_isX {X : Cx} {a : Addr} {oe : Obj} {cls : Value} {d : Option Addr} {pn : List (Addr × Obj)} (hz : Zc cls d oe) (hf : ∃ vs, oe.data = .fields vs) :
    CallR (X.suite a ((a, oe) :: pn)) (.builtin "isinstance") (rIsX X.K a cls d) := by
  intro pins s σ H xs us Q I r h
  obtain ⟨D, c, cv, b, dd, fs, C, h⟩ := h
  exact call_isD C hz hf pins s σ H xs us Q I r ⟨c, cv, b, dd, fs, h⟩
theorem i_isX {K : PySem.W.Frag} {D a dd : Addr} {fs : List (Str × V)} {H : Hp} {Q : VK} {c : V} {cv : Value} {b : Bool} (C : ExcD K D) (hd : H dd = some (.xd fs)) (hc : ∀ u, RelV c u → u = cv) (e : PySem.W.kitOne K (.ref D) cv = some b) (q : Q (.bl b) H) :
    rIsX K a (.ref D) (some dd) [.ref a, c] H Q := ⟨D, c, cv, b, dd, fs, C, rfl, rfl, rfl, hd, hc, e, q⟩
def rIsXT (K : PySem.W.Frag) (a : Addr) (cls : Value) (d : Option Addr) : List V → Hp → VK → Prop := fun xs H Q => ∃ (D tp : Addr) (cs : List V) (ws : List Value) (b : Bool) (dd : Addr) (fs : List (Str × V)), ExcD K D ∧ xs = [.ref a, .ref tp] ∧ H tp = some (.tup cs) ∧ Paired ClsV cs ws ∧ cls = .ref D ∧ d = some dd ∧ H dd = some (.xd fs) ∧ PySem.W.kitAny K (.ref D) ws = some b ∧ Q (.bl b) H
theorem call_isXT {X : Cx} {a : Addr} {oe : Obj} {cls : Value} {d : Option Addr} {pn : List (Addr × Obj)} (hz : Zc cls d oe) (hf : ∃ vs, oe.data = .fields vs) :
    CallR (X.suite a ((a, oe) :: pn)) (.builtin "isinstance") (rIsXT X.K a cls d) := by
  intro pins s σ H xs us Q I r h
  obtain ⟨D, tp, cs, ws, b, dd, fs, C, rfl, hT, k, rfl, ed, hdd, e, q⟩ := h
  obtain ⟨u1, u2, rfl, rx, r2⟩ := vals2 r
  cases rx
  cases (show u2 = Value.ref tp from r2)
  obtain ⟨hget, _⟩ := I.pin (a, oe) (List.mem_append.mpr (.inl List.mem_cons_self))
  obtain ⟨vs, hv⟩ := hf
  have ho : ObjOk X.prog X.w H s.heap dd (.xd fs) := I.hok dd _ hdd
  obtain ⟨mA, hns, _⟩ := ho
  obtain ⟨od, ho, hl⟩ := lookIn_ns hns
  have J : PySem.W.InstAt s.heap a oe D (some od) := ⟨hget, hz.1, by unfold PySem.W.notCls; rw [hv] <;> rfl, by rw [hz.2, ed]; exact ho⟩
  obtain ⟨_, its, rv, o, h1, h2, n, h3⟩ := (show ObjOk X.prog X.w H s.heap tp (.tup cs) from I.hok tp _ hT)
  have e3 := ClsV.all k rv
  subst e3
  obtain ⟨oc, od2, dt, sl⟩ := o
  simp only at h2 h3
  subst h2 h3
  exact PySem.W.kia_tup (PySem.W.kitx_exc C.cls C.c.hg C.c.hk C.c.hs C.c.ha C.c.hn C.c.ht C.c.hm) I.kIn J h1 e (fun z => nomatch z) fun tk => ⟨.bl b, H, I.kept (t' := tk) fun _ _ z => z, rfl, q⟩
theorem i_isXT {K : PySem.W.Frag} {D a dd tp : Addr} {fs : List (Str × V)} {H : Hp} {Q : VK} {cs : List V} {ws : List Value} {b : Bool} (C : ExcD K D) (ht : H tp = some (.tup cs)) (k : Paired ClsV cs ws) (hd : H dd = some (.xd fs)) (e : PySem.W.kitAny K (.ref D) ws = some b) (q : Q (.bl b) H) :
    rIsXT K a (.ref D) (some dd) [.ref a, .ref tp] H Q := ⟨D, tp, cs, ws, b, dd, fs, C, rfl, ht, k, rfl, rfl, hd, e, q⟩
theorem kitAny_no {K : PySem.W.Frag} {t c : Value} {cs : List Value} (h : PySem.W.kitOne K t c = some false) (hr : PySem.W.kitAny K t cs = some false) : PySem.W.kitAny K t (c :: cs) = some false := kitAny_cons h (fun _ => hr) (fun z => Bool.noConfusion z)
/-! an object made, what is raised is wished for at the slots -/
section
variable {X : Cx} {CX : CXT} {k : Nat} {f C : Addr} {fd : FuncData} {ps : List Str} {sp : Sp} {E : L2.St → XK} {x : Str} {p pos : Pos} {e : Expr} {es : List Expr} {t : TA}
def tMakeS (C : Addr) (sp : Sp) (E : L2.St → XK) (t : TA) : TE := fun σ H Q => t σ H fun vs H1 => ∀ x dx, H1 x = none → H1 dx = none → dx ≠ x →
  sp (.ref x :: vs) (upd (upd H1 dx (.own x)) x (.ins C dx [])) (fun v H2 => v = .non ∧ Q (.ref x) H2) (E σ)
theorem run_makeS {pins : List (Addr × Obj)} {σ : L2.St} {H : Hp} {s : Shared} {Q : VK} {us : List Value} {vs : List V} (M : Mk X.K C f) (F : FnOk X.prog X.w X.K X.mg X.base CX k f fd ps sp) (hr : Room (k + 1) X.A) (hb : Binds X.K fd ps [])
    (hx : PassesAt CX X σ (E σ)) (I : Inv X pins σ H s) (r : Vals vs us)
    (h : ∀ x dx, H x = none → H dx = none → dx ≠ x → sp (.ref x :: vs) (upd (upd H dx (.own x)) x (.ins C dx [])) (fun v H2 => v = .non ∧ Q (.ref x) H2) (E σ)) :
    wpAny (model X.prog X.w) X.A (call (.ref C) us) (EP X pins σ Q) X.xe s := by
  have hq := h (s.heap.objs.size + 1) s.heap.objs.size (I.hok.fresh (Nat.le_succ _)) (I.hok.fresh (Nat.le_refl _)) (Nat.ne_of_lt (Nat.lt_succ_self _))
  have I2 := Inv.made (C := C) I
  have r2 : Vals (V.ref (s.heap.objs.size + 1) :: vs) (Value.ref (s.heap.objs.size + 1) :: us) := .cons rfl r
  have hl : (Value.ref (s.heap.objs.size + 1) :: us).length = ps.length := by
    have e := r2.length
    rw [F.len _ _ _ _ hq] at e
    exact e.symm
  have b := hb _ (Value.ref (s.heap.objs.size + 1) :: us) I2.kIn (by rw [List.append_nil]; exact hl)
  rw [List.append_nil] at b
  refine wpAny_call (make_map (f := f) I.kIn M.makes M.init (beq_iff_eq.mp M.fn) (codeAny_mono (F.run _ X.stack _ _ ⟨Value.ref (s.heap.objs.size + 1) :: us, []⟩ (Value.ref (s.heap.objs.size + 1) :: us) _ _ (E σ) (hr.make C us [])
    (I2.env0.make C us []) b r2 hq) fun r s' hq' => ?_))
  cases r with
  | error e => exact hx pins _ _ e s' I2 hq'
  | ok fl =>
    cases fl with
    | ret u =>
      obtain ⟨v, H', I3, rv, ev, q3⟩ := I2.after hq'
      subst ev
      exact ⟨rv, ⟨V.ref (s.heap.objs.size + 1), H', I3, rfl, q3⟩⟩
    | next => exact False.elim hq'
    | brk => exact False.elim hq'
    | cont => exact False.elim hq'
theorem pe_makeS (M : Mk X.K C f) (F : FnOk X.prog X.w X.K X.mg X.base CX k f fd ps sp) (hr : Room (k + 1) X.A) (hg : Gl X x) (hm : X.mg x = some (.ref C)) (hb : Binds X.K fd ps []) (hx : ∀ σ, PassesAt CX X σ (E σ))
    (ha : PA X (e :: es) t) (hdb : (x == ("__debug__" : Str)) = false := by decide) (he : starEach (e :: es) X.env = (false, eval e X.env) :: starEach es X.env := by rfl) (hpl : (backTo pos (starEach es X.env)).any (·.1) = false := by rfl) :
    PE X (.Call (.Name x p) (e :: es) [] pos) (tMakeS C sp E t) := by
  refine ⟨fun pins s σ H Q I h => ?_⟩
  refine wpAny_Call_Name_kw (ld_glob I hg hm ?_ hdb)
  refine PySem.W.callWith_K (h₀ := X.base) I.ok.mod.kin M.kp (thn (ha.run pos pins s σ H _ I h) fun us s1 ⟨vs, H1, I1, r, q⟩ => ⟨I1.kIn, ?_⟩) he hpl
  exact run_makeS M F hr hb (hx σ) I1 r q
theorem i_makeS {σ : L2.St} {H : Hp} {Q : VK} (q : t σ H fun vs H1 => ∀ x dx, H1 x = none → H1 dx = none → dx ≠ x → sp (.ref x :: vs) (upd (upd H1 dx (.own x)) x (.ins C dx [])) (fun v H2 => v = .non ∧ Q (.ref x) H2) (E σ)) : tMakeS C sp E t σ H Q := q
end
end VX
namespace K63
open PySem PySem.Spec PyProof.Rows L2 VX MI
local macro_rules | `(tactic| walk_at "ne") => `(tactic| first
  | assumption
  | exact Ne.symm (by assumption)
  | exact ne_of_none (by assumption) (by assumption)
  | exact Ne.symm (ne_of_none (by assumption) (by assumption))
  | ((with_reducible refine' ne_of_none ?n1 ?n2); (case n2 => assumption); (case n1 => walk_at "lk"))
  | ((with_reducible refine' Ne.symm (ne_of_none ?n1 ?n2)); (case n2 => assumption); (case n1 => walk_at "lk")))
local macro_rules | `(tactic| walk_at "lk") => `(tactic| first
  | assumption
  | (with_reducible exact upd_same)
  | ((with_reducible refine' (upd_ne ?nn).trans ?ll); (case nn => walk_at "ne"); (case ll => walk_at "lk"))
  | ((with_reducible refine' VX.same_at ?nn ?ll); (case nn => assumption); (case ll => walk_at "lk")))
local macro_rules | `(tactic| walk_at "dp") => `(tactic| first
  | assumption
  | (with_reducible exact Dp.non)
  | (with_reducible exact Dp.bl _)
  | (with_reducible exact Dp.int _)
  | (with_reducible exact Dp.str _)
  | ((with_reducible refine' VX.Dp.mono' ?dd (same_new ?nn)); (case nn => assumption); (case dd => walk_at "dp"))
  | ((with_reducible refine' VX.Dp.mono' ?dd ?nn); (case nn => assumption); (case dd => walk_at "dp")))
local macro_rules | `(tactic| walk_at "sq") => `(tactic| first
  | assumption
  | (with_reducible exact SqL.of (by assumption))
  | (with_reducible exact SqT.of (by assumption))
  | ((with_reducible refine' Same.seq (same_new ?nn) ?qq); (case nn => assumption); (case qq => walk_at "sq"))
  | ((with_reducible refine' same_sqT (same_new ?nn) ?qq); (case nn => assumption); (case qq => walk_at "sq"))
  | ((with_reducible refine' Same.seq ?nn ?qq); (case nn => assumption); (case qq => walk_at "sq"))
  | ((with_reducible refine' same_sqT ?nn ?qq); (case nn => assumption); (case qq => walk_at "sq"))
  | ((with_reducible refine' SqL.of ?qq); (case qq => walk_at "lk"))
  | ((with_reducible refine' SqT.of ?qq); (case qq => walk_at "lk")))
local macro_rules | `(tactic| walk_at "cc") => `(tactic| first
  | exact ⟨by decide, by decide, by decide⟩
  | (show _ ≠ _; omega)
  | exact ⟨by omega, by omega⟩
  | exact Or.inl ⟨by omega, by omega⟩
  | exact Or.inr ⟨by omega, by omega⟩)
local macro_rules | `(tactic| walk_at "vcA") => `(tactic| repeat (first
  | ((with_reducible refine' VX.i_modA ?v1 ?_); (case v1 => omega); intro r hr0 hr1)
  | ((with_reducible refine' VX.i_divA ?v1 ?v2 ?_); (case v1 => omega); (case v2 => omega); intro r hr0 hr1)
  | walk_at "vc1"))
local macro_rules | `(tactic| walk_at "vc1") => `(tactic| first
  | ((with_reducible refine' VX.i_var ?v1 ?_); (case v1 => rfl))
  | (with_reducible refine' VX.i_c ?_)
  | (with_reducible refine' VX.i_op ?_)
  | (with_reducible refine' VX.i_cons ?_)
  | (with_reducible refine' VX.i_nil ?_)
  | (with_reducible refine' VX.i_seq ?_)
  | (with_reducible refine' VX.i_asg ?_)
  | ((with_reducible refine' VX.i_gname ?v2 ?_); (case v2 => (first | (simp only [List.set_cons_zero, List.set_cons_succ]; done) | (simp only [List.set_cons_zero, List.set_cons_succ]; exact rfl) | exact rfl)))
  | (with_reducible refine' VX.i_ifS ?_)
  | (with_reducible refine' VX.i_test ?_)
  | (with_reducible refine' VX.i_tB ?_)
  | (with_reducible refine' VX.i_bl ?_)
  | (with_reducible refine' VX.i_iteT ?_)
  | (with_reducible refine' VX.i_iteF ?_)
  | (with_reducible refine' VX.i_iteNT ?_)
  | (with_reducible refine' VX.i_iteNF ?_)
  | (with_reducible refine' VX.i_and ?_)
  | (with_reducible refine' VX.i_or ?_)
  | (with_reducible refine' VX.i_not ?_)
  | (with_reducible refine' VX.i_call ?_)
  | (with_reducible refine' VX.i_CB ?_)
  | (with_reducible refine' VX.i_make ?_)
  | (with_reducible refine' VX.i_makeK0 ?_)
  | (with_reducible refine' VX.i_mthK ?_)
  | (with_reducible refine' VX.i_mthS ?_)
  | (with_reducible refine' VX.i_meth ?_)
  | ((with_reducible refine' VX.i_ixL ?v1 ?v2 ?_); (case v1 => walk_at "sq"); (case v2 => first | rfl | assumption))
  | ((with_reducible refine' VX.i_ixT ?v1 ?v2 ?_); (case v1 => walk_at "sq"); (case v2 => first | rfl | assumption))
  | ((with_reducible refine' VX.i_setLU ?v2 ?v3 ?_); (case v2 => rfl); (case v3 => rfl))
  | ((with_reducible refine' VX.i_setL ?v1 ?v2 ?v3 ?_); (case v1 => walk_at "lk"); (case v2 => rfl); (case v3 => rfl))
  | (with_reducible refine' VX.i_rI0 ?_)
  | ((with_reducible refine' VX.i_rI ?v1 ?_); (case v1 => walk_at "cc"))
  | (with_reducible refine' VX.i_int ?_)
  | ((with_reducible refine' VX.i_rEqS ?v1 ?_); (case v1 => rfl))
  | ((with_reducible refine' VX.i_rNeS ?v1 ?_); (case v1 => rfl))
  | (with_reducible refine' VX.i_rEqI ?_)
  | (with_reducible refine' VX.i_rNeI ?_)
  | (with_reducible refine' VX.i_max2 ?_)
  | (with_reducible refine' VX.i_min2 ?_)
  | ((with_reducible refine' VX.i_lenL ?v1 ?_); (case v1 => walk_at "sq"))
  | ((with_reducible refine' VX.i_lenT ?v1 ?_); (case v1 => walk_at "sq"))
  | (with_reducible refine' VX.i_chain ?_)
  | (with_reducible refine' VX.i_gsub ?_)
  | (with_reducible refine' VX.i_ret ?_)
  | (with_reducible refine' VX.i_drop ?_)
  | (with_reducible refine' VX.i_next ?_)
  | (with_reducible refine' VX.i_retN ?_)
  | (with_reducible refine' VX.i_andV ?_)
  | (with_reducible refine' VX.i_orV ?_)
  | (with_reducible refine' VX.i_notV ?_)
  | (with_reducible refine' VX.i_ifE ?_)
  | (with_reducible refine' VX.i_un ?_)
  | (with_reducible refine' VX.i_rU ?_)
  | (with_reducible refine' VX.i_tup ?_)
  | (with_reducible refine' VX.i_lst ?_)
  | ((with_reducible refine' VX.i_fldv ?v1 ?v2 ?v3 ?v4 ?v5 ?_); (case v1 => rfl); (case v2 => walk_at "lk"); (case v3 => walk_at "cl"); (case v4 => walk_at "na"); (case v5 => first | rfl | assumption))
  | (with_reducible refine' VX.i_fld ?_)
  | (with_reducible refine' VX.i_sFld ?_)
  | (with_reducible refine' VX.i_mk1 ?_)
  | (with_reducible refine' VX.i_mk1v ?_)
  | (with_reducible refine' VX.i_gnil ?_)
  | (with_reducible refine' VX.i_lc ?_)
  | (with_reducible refine' VX.i_for ?_)
  | (with_reducible refine' VX.i_lstRg ?_)
  | (with_reducible refine' VX.i_rg2 ?_)
  | (with_reducible refine' VX.i_rg2v ?_)
  | (with_reducible refine' VX.i_yes ?_)
  | (with_reducible refine' VX.i_iList ?_)
  | (with_reducible refine' VX.i_iRng1 ?_)
  | (with_reducible refine' VX.i_iRng2 ?_)
  | (with_reducible refine' VX.i_iEnum ?_)
  | (with_reducible refine' VX.i_iZip ?_)
  | (with_reducible refine' VX.i_iOwn ?_)
  | ((with_reducible refine' VX.i_wipe ?v1 ?_); (case v1 => rfl))
  | (with_reducible refine' VX.i_andN ?_)
  | (with_reducible refine' VX.i_iteNDS ?_)
  | (with_reducible refine' VX.i_bm ?_)
  | ((with_reducible refine' VX.i_tyL ?v1 ?_); (case v1 => walk_at "sq"))
  | ((with_reducible refine' VX.i_append ?v1 ?v2 ?_); (case v1 => walk_at "lk"); (case v2 => (simp only [List.length_map, List.length_cons, List.length_nil, List.length_append]; omega)))
  | ((with_reducible refine' VX.i_iteDT ?v1 ?_); (case v1 => rfl))
  | ((with_reducible refine' VX.i_iteDF ?v1 ?_); (case v1 => intro h; cases h))
  | ((with_reducible refine' VX.i_isiD ?v1 ?v2 ?_); (case v1 => walk_at "dp"); (case v2 => decide))
  | ((with_reducible refine' VX.i_iteBT ?v1 ?_); (case v1 => rfl))
  | ((with_reducible refine' VX.i_iteBF ?v1 ?_); (case v1 => rfl))
  | (with_reducible refine' VX.i_gcons ?_)
  | (with_reducible refine' VX.i_dIn ?_)
  | (with_reducible refine' VX.i_dNotIn ?_)
  | (with_reducible refine' VX.i_dGet ?_)
  | (with_reducible refine' VX.i_items ?_)
  | (with_reducible refine' VX.i_keys ?_)
  | ((with_reducible refine' VX.i_gtup ?v1 ?v2 ?_); (case v1 => walk_at "sq"); (case v2 => rfl)))
local macro_rules | `(tactic| walk_at "vc") => `(tactic| repeat walk_at "vc1")
local macro_rules | `(tactic| walk_at "sndP") => `(tactic| fail)
local macro_rules | `(tactic| walk_at "snd1") => `(tactic| first
  | (with_reducible refine' MI.snd_frz ?_)
  | (with_reducible refine' MI.snd_seq ?_ ?_)
  | (with_reducible exact MI.snd_next)
  | (with_reducible refine' MI.snd_ret ?_)
  | (with_reducible exact MI.snd_retN)
  | (with_reducible refine' MI.snd_own ?_)
  | (with_reducible refine' MI.snd_set ?_)
  | (with_reducible refine' MI.snd_setIx ?_ ?_)
  | (with_reducible refine' MI.snd_asg (vs := List.range 60) ?_ ?_)
  | (with_reducible refine' MI.snd_ifS ?_ ?_ ?_)
  | (with_reducible refine' MI.snd_app ?_)
  | (with_reducible refine' MI.snd_ins ?_ ?_)
  | (with_reducible refine' MI.snd_drop ?_)
  | (with_reducible refine' MI.snd_for (vs := List.range 60) ?_ ?_ ?_)
  | (with_reducible refine' MI.snd_while ?_ ?_)
  | (exact MI.snd_break)
  | (exact MI.snd_cont)
  | (with_reducible exact MI.sndT_yes)
  | (with_reducible refine' MI.sndT_and ?_ ?_)
  | (with_reducible refine' MI.sndT_or ?_ ?_)
  | (with_reducible refine' MI.sndT_not ?_)
  | (with_reducible refine' MI.sndT_test ?_)
  | (with_reducible refine' MI.sndT_tB ?_)
  | (with_reducible exact MI.sndO_no)
  | (with_reducible refine' MI.sndO_part ?_)
  | (with_reducible exact MI.sndA_nil)
  | (with_reducible refine' MI.sndA_cons ?_ ?_)
  | (with_reducible exact MI.sndAW_nil)
  | (with_reducible refine' MI.sndAW_cons ?_ ?_)
  | (with_reducible refine' MI.sndG_name (by decide))
  | (with_reducible refine' MI.sndG_tupE rfl ?_)
  | (refine' MI.sndG_tupE rfl ?_)
  | (with_reducible exact MI.sndGs_nil)
  | (with_reducible refine' MI.sndGs_cons ?_ ?_)
  | (with_reducible exact MI.snd_varW)
  | (with_reducible refine' MI.snd_w ?_)
  | (with_reducible exact MI.snd_var)
  | (with_reducible exact MI.snd_int)
  | (with_reducible exact MI.snd_bl)
  | (with_reducible exact MI.snd_str)
  | (with_reducible exact MI.snd_non)
  | (with_reducible refine' MI.snd_fz ?_)
  | (with_reducible refine' MI.sndN_lst ?_)
  | (with_reducible refine' MI.sndN_cb MI.cb_listOf ?_)
  | (with_reducible refine' MI.sndN_cb MI.cbN_sortL ?_)
  | (with_reducible refine' MI.sndN_cb MI.cbN_sortT ?_)
  | (with_reducible refine' MI.sndN_sl ?_ ?_ ?_)
  | (with_reducible refine' MI.sndN_rev ?_)
  | (with_reducible refine' MI.sndN_lcE rfl ?_ ?_ ?_ ?_)
  | (refine' MI.sndN_lc2 ?_ ?_ ?_ ?_ ?_ ?_ ?_ (by decide))
  | (with_reducible refine' MI.snd_notT ?_)
  | (with_reducible refine' MI.snd_index ?_ ?_)
  | (with_reducible refine' MI.snd_frzD ?_)
  | (with_reducible exact MI.snd_dnew)
  | (with_reducible refine' MI.snd_done ?_ ?_)
  | (with_reducible refine' MI.snd_dput ?_ ?_)
  | (with_reducible refine' MI.snd_dget ?_ ?_)
  | (with_reducible refine' MI.snd_dget1 ?_ ?_)
  | (with_reducible refine' MI.snd_dget2 ?_ ?_ ?_)
  | (with_reducible refine' MI.snd_din ?_ ?_)
  | (with_reducible refine' MI.snd_dnotin ?_ ?_)
  | (with_reducible exact MI.sndD_var)
  | (with_reducible refine' MI.sndD_val ?_)
  | (with_reducible refine' MI.snd_cb MI.cb_maxL ?_)
  | (with_reducible refine' MI.snd_cb MI.cb_minL ?_)
  | (with_reducible refine' MI.snd_lenSet ?_)
  | (with_reducible refine' MI.sndT_tru ?_)
  | (with_reducible refine' MI.sndIW_zip ?_)
  | (refine' MI.sndN_lcE rfl ?_ ?_ ?_ ?_)
  | (with_reducible refine' MI.snd_tup ?_)
  | (with_reducible refine' MI.snd_op MI.opm_sub ?_ ?_)
  | (with_reducible refine' MI.snd_op MI.opm_addU ?_ ?_)
  | (with_reducible refine' MI.snd_op MI.opm_ix ?_ ?_)
  | (with_reducible refine' MI.snd_op MI.opm_eqU ?_ ?_)
  | (with_reducible refine' MI.snd_op MI.opm_neU ?_ ?_)
  | (with_reducible refine' MI.snd_op MI.opm_lt ?_ ?_)
  | (with_reducible refine' MI.snd_op MI.opm_le ?_ ?_)
  | (with_reducible refine' MI.snd_op MI.opm_gt ?_ ?_)
  | (with_reducible refine' MI.snd_op MI.opm_ge ?_ ?_)
  | (with_reducible refine' MI.snd_op MI.opm_isN ?_ ?_)
  | (with_reducible refine' MI.snd_op MI.opm_notN ?_ ?_)
  | (with_reducible refine' MI.snd_op MI.opm_inU ?_ ?_)
  | (with_reducible refine' MI.snd_op MI.opm_notInU ?_ ?_)
  | (with_reducible refine' MI.snd_op MI.opm_mul ?_ ?_)
  | (with_reducible refine' MI.snd_op MI.opm_mod ?_ ?_)
  | (with_reducible refine' MI.snd_op MI.opm_fdiv ?_ ?_)
  | (with_reducible refine' MI.snd_op MI.opm_pow ?_ ?_)
  | (with_reducible refine' MI.snd_chain MI.opm_le MI.opm_lt ?_ ?_ ?_)
  | (with_reducible refine' MI.snd_chain MI.opm_le MI.opm_le ?_ ?_ ?_)
  | (with_reducible refine' MI.snd_chain MI.opm_lt MI.opm_lt ?_ ?_ ?_)
  | (with_reducible refine' MI.snd_chain MI.opm_lt MI.opm_le ?_ ?_ ?_)
  | (with_reducible refine' MI.snd_isi (by decide) ?_)
  | (with_reducible refine' MI.snd_cb MI.cb_len ?_)
  | (with_reducible refine' MI.snd_cb MI.cb_tupOf ?_)
  | (with_reducible refine' MI.snd_cb MI.cb_int ?_)
  | (with_reducible refine' MI.snd_cb MI.cb_max2 ?_)
  | (with_reducible refine' MI.snd_cb MI.cb_min2 ?_)
  | (with_reducible refine' MI.snd_cb MI.cb_abs ?_)
  | (with_reducible refine' MI.snd_cb MI.cb_all ?_)
  | (with_reducible refine' MI.snd_cb MI.cb_any ?_)
  | (with_reducible refine' MI.snd_andV ?_ ?_)
  | (with_reducible refine' MI.snd_orV ?_ ?_)
  | (with_reducible refine' MI.snd_notV ?_)
  | (with_reducible refine' MI.snd_if ?_ ?_ ?_)
  | (with_reducible refine' MI.snd_neg ?_)
  | (with_reducible refine' MI.snd_call ?_)
  | (with_reducible refine' MI.sndI_seq ?_)
  | (with_reducible refine' MI.sndIW_seq ?_)
  | (with_reducible refine' MI.sndIW_of (MI.sndI_rg1 ?_))
  | (with_reducible refine' MI.sndIW_of (MI.sndI_rg2 ?_))
  | (with_reducible refine' MI.sndI_rg1 ?_)
  | (with_reducible refine' MI.sndI_rg2 ?_)
  | (with_reducible refine' MI.sndI_enum ?_)
  | (with_reducible refine' MI.sndIW_enum ?_)
  | walk_at "sndP")
local macro_rules | `(tactic| walk_at "snd") => `(tactic| repeat' walk_at "snd1")
local macro_rules | `(tactic| walk_at "mm") => `(tactic| simp only [MI.mFldP, MI.mMethP, MI.mIndex, MI.mLenSet, MI.mDGet, MI.mDGet1, MI.mDGet2, MI.mDIn, MI.mDVar, MI.mDVal, MI.mDNew, MI.mDOne, MI.mDPut, MI.mFrzD, MI.frzYD, MI.mMaxL, MI.mMinL, MI.mTru, MI.mZip, MI.mNotT, MI.mLc2, MI.lcO, MI.mSeq, MI.mNext, MI.mRet, MI.mRetN, MI.mDrop, MI.mSet, MI.mOwn, MI.mAsg, MI.mIfS, MI.mBreak, MI.mCont, MI.mFrz, MI.frzY, MI.mApp, MI.mSetIx, MI.mFor, MI.mVar, MI.mVarW, MI.mC, MI.mOp, MI.mAdd, MI.mSub, MI.mLt, MI.mLe, MI.mGt, MI.mGe, MI.mMul, MI.mMod, MI.mFdiv, MI.mPow, MI.eqS_ii, MI.eqS_ss, MI.eqS_bb, MI.eqS_nn, MI.eqS_ni, MI.eqS_in, MI.eqS_ll, MI.eqS_tt, MI.mEqU, MI.mNeU, MI.mIsN, MI.mNotN, MI.isNon_n, MI.isNon_i, MI.isNon_b, MI.isNon_s, MI.isNon_l, MI.isNon_t, MI.mIx, MI.mAddU, MI.mB, MI.mAnd, MI.mOr, MI.mNot, MI.mIf, MI.mAndV, MI.mOrV, MI.mNotV, MI.mNil, MI.mCons, MI.mTup, MI.mLst, MI.mFz, MI.mCB, MI.mCBN, MI.mLen, MI.mListOf, MI.mTupOf, MI.mIntOf, MI.mMax2, MI.mMin2, MI.mAbs, MI.mNoPart, MI.mPart, MI.mSlL, MI.mRev, MI.mItS, MI.mRg1, MI.mRg2, MI.mEnum, MI.mGn, MI.mGnil, MI.mGcons, MI.mGtup, MI.mYes, MI.mLc, MI.wipeY, MI.mUn, MI.mNeg, MI.mChain, MI.mIsi, MI.mCall, MI.mCallP, MI.mTake, MI.xO, MI.xW, MI.xB, MI.at0, MI.at1, MI.at2, MI.at3, MI.at4, MI.ex_some, MI.s_fr, MI.s_fa, MI.s_ra, MI.s_ar, MI.flatX, MI.plainX, MI.tnX,
  List.getElem?_cons_zero, List.getElem?_cons_succ, List.set_cons_zero, List.set_cons_succ, List.map_cons, List.map_nil, List.length_cons, List.length_nil, List.replicate_succ, List.replicate_zero, List.cons_append, List.nil_append, Nat.sub_zero, Nat.reduceSub, Nat.reduceAdd, Nat.reduceLeDiff, Nat.reduceLT, Nat.zero_add, Nat.add_zero, true_and, and_true, if_true, if_false, Bool.false_eq_true, reduceIte, decide_eq_true_eq, decide_eq_false_iff_not, Bool.not_eq_true', Nat.zero_le, List.length_map, Int.reduceNeg, decide_true, decide_false])
local macro_rules | `(tactic| walk_at "mg") => `(tactic| repeat' (first | (intro _) | (with_reducible refine' And.intro ?mgl ?_; (case mgl => (first | omega | (simp only [List.length_map]; omega)))) | split))
section
set_option maxRecDepth 100000
set_option maxHeartbeats 1000000
open PySem PySem.Spec PyProof.Rows L2 VX
abbrev P : Program := PySem.Challenge.pw_surerails_k63_whole_quickening_is_least
def topS (i : Nat) : Stmt := PySem.Challenge.pw_surerails_k63_whole_quickening_is_least.main.body.getD i (.Pass ⟨0, 0, 0, 0⟩)
-- _wall
abbrev s_wall : Stmt := topS 0
abbrev N_wall : List Str := ["k"]
theorem sc_wall : FnScope ["k"] ["k"] (defScope s_wall) := ⟨rfl, rfl, rfl, by decide +kernel, rfl, by decide +kernel, by decide +kernel⟩
-- BadSize.__init__
abbrev s_BadSize_init : Stmt := inClass (topS 3) 0
abbrev N_BadSize_init : List Str := ["self", "size"]
theorem sc_BadSize_init : FnScope ["self", "size"] ["self", "size"] (defScope s_BadSize_init) := ⟨rfl, rfl, rfl, by decide +kernel, rfl, by decide +kernel, by decide +kernel⟩
-- NoBox.__init__
abbrev s_NoBox_init : Stmt := inClass (topS 4) 0
abbrev N_NoBox_init : List Str := ["self", "box"]
theorem sc_NoBox_init : FnScope ["self", "box"] ["self", "box"] (defScope s_NoBox_init) := ⟨rfl, rfl, rfl, by decide +kernel, rfl, by decide +kernel, by decide +kernel⟩
-- BadWire.__init__
abbrev s_BadWire_init : Stmt := inClass (topS 5) 0
abbrev N_BadWire_init : List Str := ["self", "source", "target"]
theorem sc_BadWire_init : FnScope ["self", "source", "target"] ["self", "source", "target"] (defScope s_BadWire_init) := ⟨rfl, rfl, rfl, by decide +kernel, rfl, by decide +kernel, by decide +kernel⟩
-- BadBound.__init__
abbrev s_BadBound_init : Stmt := inClass (topS 6) 0
abbrev N_BadBound_init : List Str := ["self", "later", "earlier"]
theorem sc_BadBound_init : FnScope ["self", "later", "earlier"] ["self", "later", "earlier"] (defScope s_BadBound_init) := ⟨rfl, rfl, rfl, by decide +kernel, rfl, by decide +kernel, by decide +kernel⟩
-- NoWire.__init__
abbrev s_NoWire_init : Stmt := inClass (topS 7) 0
abbrev N_NoWire_init : List Str := ["self", "source", "target"]
theorem sc_NoWire_init : FnScope ["self", "source", "target"] ["self", "source", "target"] (defScope s_NoWire_init) := ⟨rfl, rfl, rfl, by decide +kernel, rfl, by decide +kernel, by decide +kernel⟩
-- BadWish.__init__
abbrev s_BadWish_init : Stmt := inClass (topS 8) 0
abbrev N_BadWish_init : List Str := ["self", "index"]
theorem sc_BadWish_init : FnScope ["self", "index"] ["self", "index"] (defScope s_BadWish_init) := ⟨rfl, rfl, rfl, by decide +kernel, rfl, by decide +kernel, by decide +kernel⟩
-- NoStretch.__init__
abbrev s_NoStretch_init : Stmt := inClass (topS 9) 0
abbrev N_NoStretch_init : List Str := ["self", "source", "target"]
theorem sc_NoStretch_init : FnScope ["self", "source", "target"] ["self", "source", "target"] (defScope s_NoStretch_init) := ⟨rfl, rfl, rfl, by decide +kernel, rfl, by decide +kernel, by decide +kernel⟩
-- CannotQuicken.__init__
abbrev s_CannotQuicken_init : Stmt := inClass (topS 10) 0
abbrev N_CannotQuicken_init : List Str := ["self", "east", "steps"]
theorem sc_CannotQuicken_init : FnScopeS ["self", "east", "steps"] ["self", "east", "steps"] (defScope s_CannotQuicken_init) := ⟨rfl, rfl, rfl, by decide +kernel, rfl, by decide +kernel, by decide +kernel, by decide +kernel, rfl, rfl⟩
-- Line.__init__
abbrev s_Line_init : Stmt := inClass (topS 12) 0
abbrev N_Line_init : List Str := ["self", "size", "wires", "bounds"]
theorem sc_Line_init : FnScope ["self", "size", "wires", "bounds"] ["self", "size", "wires", "bounds"] (defScope s_Line_init) := ⟨rfl, rfl, rfl, by decide +kernel, rfl, by decide +kernel, by decide +kernel⟩
-- Line.wires
abbrev s_Line_wires : Stmt := inClass (topS 12) 1
abbrev N_Line_wires : List Str := ["self", "source", "target", "low", "high"]
theorem sc_Line_wires : FnScope ["self", "source", "target", "low", "high"] ["self"] (defScope s_Line_wires) := ⟨rfl, rfl, rfl, by decide +kernel, rfl, by decide +kernel, by decide +kernel⟩
-- Line.bounds
abbrev s_Line_bounds : Stmt := inClass (topS 12) 2
abbrev N_Line_bounds : List Str := ["self", "later", "earlier", "most"]
theorem sc_Line_bounds : FnScope ["self", "later", "earlier", "most"] ["self"] (defScope s_Line_bounds) := ⟨rfl, rfl, rfl, by decide +kernel, rfl, by decide +kernel, by decide +kernel⟩
-- Line.wire
abbrev s_Line_wire : Stmt := inClass (topS 12) 3
abbrev N_Line_wire : List Str := ["self", "source", "target"]
theorem sc_Line_wire : FnScope ["self", "source", "target"] ["self", "source", "target"] (defScope s_Line_wire) := ⟨rfl, rfl, rfl, by decide +kernel, rfl, by decide +kernel, by decide +kernel⟩
-- Line.sources
abbrev s_Line_sources : Stmt := inClass (topS 12) 4
abbrev N_Line_sources : List Str := ["self", "box"]
theorem sc_Line_sources : FnScope ["self", "box"] ["self", "box"] (defScope s_Line_sources) := ⟨rfl, rfl, rfl, by decide +kernel, rfl, by decide +kernel, by decide +kernel⟩
-- Line.targets
abbrev s_Line_targets : Stmt := inClass (topS 12) 5
abbrev N_Line_targets : List Str := ["self", "box", "source", "target"]
theorem sc_Line_targets : FnScope ["self", "box", "source", "target"] ["self", "box"] (defScope s_Line_targets) := ⟨rfl, rfl, rfl, by decide +kernel, rfl, by decide +kernel, by decide +kernel⟩
-- check_box
abbrev s_check_box : Stmt := topS 13
abbrev N_check_box : List Str := ["line", "box"]
theorem sc_check_box : FnScope ["line", "box"] ["line", "box"] (defScope s_check_box) := ⟨rfl, rfl, rfl, by decide +kernel, rfl, by decide +kernel, by decide +kernel⟩
-- is_span
abbrev s_is_span : Stmt := topS 14
abbrev N_is_span : List Str := ["low", "high"]
theorem sc_is_span : FnScope ["low", "high"] ["low", "high"] (defScope s_is_span) := ⟨rfl, rfl, rfl, by decide +kernel, rfl, by decide +kernel, by decide +kernel⟩
-- _spans_by_wire
abbrev s_spans_by_wire : Stmt := topS 15
abbrev N_spans_by_wire : List Str := ["line", "wires", "spans", "source", "target", "low", "high", "pair"]
theorem sc_spans_by_wire : FnScope ["line", "wires", "spans", "source", "target", "low", "high", "pair"] ["line", "wires"] (defScope s_spans_by_wire) := ⟨rfl, rfl, rfl, by decide +kernel, rfl, by decide +kernel, by decide +kernel⟩
-- _mosts_by_pair
abbrev s_mosts_by_pair : Stmt := topS 16
abbrev N_mosts_by_pair : List Str := ["line", "bounds", "mosts", "later", "earlier", "most", "pair"]
theorem sc_mosts_by_pair : FnScope ["line", "bounds", "mosts", "later", "earlier", "most", "pair"] ["line", "bounds"] (defScope s_mosts_by_pair) := ⟨rfl, rfl, rfl, by decide +kernel, rfl, by decide +kernel, by decide +kernel⟩
-- spread
abbrev s_spread : Stmt := topS 18
abbrev N_spread : List Str := ["bounds", "starts", "ways", "box", "grown", "bound", "later", "earlier", "most", "_", "way", "passed", "step"]
theorem sc_spread : FnScope ["bounds", "starts", "ways", "box", "grown", "bound", "later", "earlier", "most", "_", "way", "passed", "step"] ["bounds", "starts"] (defScope s_spread) := ⟨rfl, rfl, rfl, by decide +kernel, rfl, by decide +kernel, by decide +kernel⟩
-- quicken
abbrev s_quicken : Stmt := topS 20
abbrev N_quicken : List Str := ["line", "wishes", "index", "source", "target", "hours", "saved", "highs", "walks", "east", "wires", "ways", "bound"]
theorem sc_quicken : FnScope ["line", "wishes", "index", "source", "target", "hours", "saved", "highs", "walks", "east", "wires", "ways", "bound"] ["line", "wishes"] (defScope s_quicken) := ⟨rfl, rfl, rfl, by decide +kernel, rfl, by decide +kernel, by decide +kernel⟩
-- _check_wish
abbrev s_check_wish : Stmt := topS 21
abbrev N_check_wish : List Str := ["line", "index", "source", "target", "hours", "here", "there"]
theorem sc_check_wish : FnScope ["line", "index", "source", "target", "hours", "here", "there"] ["line", "index", "source", "target", "hours"] (defScope s_check_wish) := ⟨rfl, rfl, rfl, by decide +kernel, rfl, by decide +kernel, by decide +kernel⟩
-- _stretch
abbrev s_stretch : Stmt := topS 22
abbrev N_stretch : List Str := ["source", "target", "step", "box"]
theorem sc_stretch : FnScope ["source", "target", "step", "box"] ["source", "target"] (defScope s_stretch) := ⟨rfl, rfl, rfl, by decide +kernel, rfl, by decide +kernel, by decide +kernel⟩
-- _wires_to_save
abbrev s_wires_to_save : Stmt := topS 23
abbrev N_wires_to_save : List Str := ["line", "wishes", "east", "wires", "source", "target", "_", "here", "there", "low", "high"]
theorem sc_wires_to_save : FnScope ["line", "wishes", "east", "wires", "source", "target", "_", "here", "there", "low", "high"] ["line", "wishes", "east"] (defScope s_wires_to_save) := ⟨rfl, rfl, rfl, by decide +kernel, rfl, by decide +kernel, by decide +kernel⟩
-- _ways_by_point
abbrev s_ways_by_point : Stmt := topS 24
abbrev N_ways_by_point : List Str := ["line", "wishes", "wires", "east", "bounds", "box", "_", "low", "high", "index", "source", "target", "hours", "begin", "end", "present", "ways", "ring", "bound"]
theorem sc_ways_by_point : FnScope ["line", "wishes", "wires", "east", "bounds", "box", "_", "low", "high", "index", "source", "target", "hours", "begin", "end", "present", "ways", "ring", "bound"] ["line", "wishes", "wires", "east"] (defScope s_ways_by_point) := ⟨rfl, rfl, rfl, by decide +kernel, rfl, by decide +kernel, by decide +kernel⟩
-- _new_highs
abbrev s_new_highs : Stmt := topS 25
abbrev N_new_highs : List Str := ["wires", "ways", "saved", "box", "source", "target", "_", "high"]
theorem sc_new_highs : FnScope ["wires", "ways", "saved", "box", "source", "target", "_", "high"] ["wires", "ways"] (defScope s_new_highs) := ⟨rfl, rfl, rfl, by decide +kernel, rfl, by decide +kernel, by decide +kernel⟩
-- _law_is_int
abbrev s_is_int : Stmt := topS 27
abbrev N_is_int : List Str := ["_law_value"]
theorem sc_is_int : FnScope ["_law_value"] ["_law_value"] (defScope s_is_int) := ⟨rfl, rfl, rfl, by decide +kernel, rfl, by decide +kernel, by decide +kernel⟩
-- _law_cell
abbrev s_cell : Stmt := topS 28
abbrev N_cell : List Str := ["_law_script", "_law_k"]
theorem sc_cell : FnScope ["_law_script", "_law_k"] ["_law_script", "_law_k"] (defScope s_cell) := ⟨rfl, rfl, rfl, by decide +kernel, rfl, by decide +kernel, by decide +kernel⟩
-- _law_pen
abbrev s_pen : Stmt := topS 29
abbrev N_pen : List Str := ["_law_script", "_law_k", "_law_cell_here"]
theorem sc_pen : FnScope ["_law_script", "_law_k", "_law_cell_here"] ["_law_script", "_law_k"] (defScope s_pen) := ⟨rfl, rfl, rfl, by decide +kernel, rfl, by decide +kernel, by decide +kernel⟩
-- _law_take
abbrev s_take : Stmt := topS 30
abbrev N_take : List Str := ["_law_pen_here", "_law_size", "_law_digit", "_law_mixed"]
theorem sc_take : FnScope ["_law_pen_here", "_law_size", "_law_digit", "_law_mixed"] ["_law_pen_here", "_law_size"] (defScope s_take) := ⟨rfl, rfl, rfl, by decide +kernel, rfl, by decide +kernel, by decide +kernel⟩
-- _law_stretch
abbrev s_lw_stretch : Stmt := topS 31
abbrev N_lw_stretch : List Str := ["_law_pen_here", "_law_size", "_law_room", "_law_wires", "_law_source", "_law_target", "_law_kind", "_law_near", "_law_low", "_law_high"]
theorem sc_lw_stretch : FnScope ["_law_pen_here", "_law_size", "_law_room", "_law_wires", "_law_source", "_law_target", "_law_kind", "_law_near", "_law_low", "_law_high"] ["_law_pen_here", "_law_size"] (defScope s_lw_stretch) := ⟨rfl, rfl, rfl, by decide +kernel, rfl, by decide +kernel, by decide +kernel⟩
-- _law_ways
abbrev s_ways : Stmt := topS 32
abbrev N_ways : List Str := ["_law_wires", "_law_size", "_law_onward", "_law_ways_here", "_law_p", "_law_row"]
theorem sc_ways : FnScope ["_law_wires", "_law_size", "_law_onward", "_law_ways_here", "_law_p", "_law_row"] ["_law_wires", "_law_size", "_law_onward"] (defScope s_ways) := ⟨rfl, rfl, rfl, by decide +kernel, rfl, by decide +kernel, by decide +kernel⟩
-- _law_spans
abbrev s_spans : Stmt := topS 33
abbrev N_spans : List Str := ["_law_wishes_here", "_law_onward", "_law_row"]
theorem sc_spans : FnScope ["_law_wishes_here", "_law_onward", "_law_row"] ["_law_wishes_here", "_law_onward"] (defScope s_spans) := ⟨rfl, rfl, rfl, by decide +kernel, rfl, by decide +kernel, by decide +kernel⟩
-- _law_pairs
abbrev s_pairs : Stmt := topS 34
abbrev N_pairs : List Str := ["_law_pen_here", "_law_size", "_law_middle", "_law_end", "_law_pairs_here", "_law_turn", "_law_first"]
theorem sc_pairs : FnScope ["_law_pen_here", "_law_size", "_law_middle", "_law_end", "_law_pairs_here", "_law_turn", "_law_first"] ["_law_pen_here", "_law_size"] (defScope s_pairs) := ⟨rfl, rfl, rfl, by decide +kernel, rfl, by decide +kernel, by decide +kernel⟩
-- _law_wishes
abbrev s_wishes : Stmt := topS 35
abbrev N_wishes : List Str := ["_law_pen_here", "_law_size", "_law_wires", "_law_course", "_law_hard", "_law_wishes_here", "_law_first", "_law_last", "_law_source", "_law_target", "_law_ways_here", "_law_least_here", "_law_pair", "_law_most", "_law_hours"]
theorem sc_wishes : FnScope ["_law_pen_here", "_law_size", "_law_wires", "_law_course", "_law_hard", "_law_wishes_here", "_law_first", "_law_last", "_law_source", "_law_target", "_law_ways_here", "_law_least_here", "_law_pair", "_law_most", "_law_hours"] ["_law_pen_here", "_law_size", "_law_wires"] (defScope s_wishes) := ⟨rfl, rfl, rfl, by decide +kernel, rfl, by decide +kernel, by decide +kernel⟩
-- _law_is_met
abbrev s_is_met : Stmt := topS 36
abbrev N_is_met : List Str := ["_law_spans_here", "_law_hours", "_law_first", "_law_last", "_law_most"]
theorem sc_is_met : FnScope ["_law_spans_here", "_law_hours", "_law_first", "_law_last", "_law_most"] ["_law_spans_here", "_law_hours"] (defScope s_is_met) := ⟨rfl, rfl, rfl, by decide +kernel, rfl, by decide +kernel, by decide +kernel⟩
-- _law_least
abbrev s_least : Stmt := topS 37
abbrev N_least : List Str := ["_law_ways_here", "_law_spans_here", "_law_rooms", "_law_p", "_law_span", "_law_choices", "_law_room", "_law_whole", "_law_pair", "_law_least_here", "_law_choice", "_law_rest", "_law_hours", "_law_saved"]
theorem sc_least : FnScope ["_law_ways_here", "_law_spans_here", "_law_rooms", "_law_p", "_law_span", "_law_choices", "_law_room", "_law_whole", "_law_pair", "_law_least_here", "_law_choice", "_law_rest", "_law_hours", "_law_saved"] ["_law_ways_here", "_law_spans_here"] (defScope s_least) := ⟨rfl, rfl, rfl, by decide +kernel, rfl, by decide +kernel, by decide +kernel⟩
-- _law_quicken
abbrev s_lw_quicken : Stmt := topS 38
abbrev N_lw_quicken : List Str := ["_law_line", "_law_wishes_here", "e"]
theorem sc_lw_quicken : FnScope ["_law_line", "_law_wishes_here", "e"] ["_law_line", "_law_wishes_here"] (defScope s_lw_quicken) := ⟨rfl, rfl, rfl, by decide +kernel, rfl, by decide +kernel, by decide +kernel⟩
-- _law_with
abbrev s_with : Stmt := topS 39
abbrev N_with : List Str := ["_law_wires", "_law_highs", "_law_rows", "_law_row", "_law_found", "_law_entry"]
theorem sc_with : FnScope ["_law_wires", "_law_highs", "_law_rows", "_law_row", "_law_found", "_law_entry"] ["_law_wires", "_law_highs"] (defScope s_with) := ⟨rfl, rfl, rfl, by decide +kernel, rfl, by decide +kernel, by decide +kernel⟩
-- _law_is_answer
abbrev s_is_answer : Stmt := topS 40
abbrev N_is_answer : List Str := ["_law_size", "_law_wires", "_law_wishes_here", "_law_told", "_law_least_here", "_law_entry", "_law_row", "_law_rows", "_law_onward", "_law_pair", "_law_before"]
theorem sc_is_answer : FnScope ["_law_size", "_law_wires", "_law_wishes_here", "_law_told", "_law_least_here", "_law_entry", "_law_row", "_law_rows", "_law_onward", "_law_pair", "_law_before"] ["_law_size", "_law_wires", "_law_wishes_here", "_law_told", "_law_least_here"] (defScope s_is_answer) := ⟨rfl, rfl, rfl, by decide +kernel, rfl, by decide +kernel, by decide +kernel⟩
-- law
abbrev s_law : Stmt := topS 41
abbrev N_law : List Str := ["_law_script", "_law_pen_here", "_law_size", "_law_wires", "_law_wishes_here", "_law_line", "_law_looser", "_law_row", "_law_asked", "_law_forth", "_law_back", "_law_handed", "_law_actual", "_law_told"]
theorem sc_law : FnScope ["_law_script", "_law_pen_here", "_law_size", "_law_wires", "_law_wishes_here", "_law_line", "_law_looser", "_law_row", "_law_asked", "_law_forth", "_law_back", "_law_handed", "_law_actual", "_law_told"] ["_law_script"] (defScope s_law) := ⟨rfl, rfl, rfl, by decide +kernel, rfl, by decide +kernel, by decide +kernel⟩
structure Adr where
  (c_NoBox c_NoWire c_CannotQuicken c_Line f_NoBox_init f_NoWire_init f_CannotQuicken_init f_Line_init f_Line_wire f_Line_targets f_check_box f_is_span f_spans_by_wire f_mosts_by_pair f_spread f_quicken f_check_wish f_stretch f_wires_to_save f_ways_by_point f_new_highs f_is_int f_cell f_pen f_take f_lw_stretch f_ways f_spans f_pairs f_wishes f_is_met f_least f_lw_quicken f_with f_is_answer f_law e_bounds : Addr)
  (d_NoBox_init d_NoWire_init d_CannotQuicken_init d_Line_init d_Line_wire d_Line_targets d_check_box d_is_span d_spans_by_wire d_mosts_by_pair d_spread d_quicken d_check_wish d_stretch d_wires_to_save d_ways_by_point d_new_highs d_is_int d_cell d_pen d_take d_lw_stretch d_ways d_spans d_pairs d_wishes d_is_met d_least d_lw_quicken d_with d_is_answer d_law : FuncData)
structure Txt (K : PySem.W.Frag) (mg : Str → Option Value) (A : Adr) : Prop where
  F_NoBox_init : Fun K "__init__" "NoBox.__init__" s_NoBox_init A.f_NoBox_init A.d_NoBox_init
  F_NoWire_init : Fun K "__init__" "NoWire.__init__" s_NoWire_init A.f_NoWire_init A.d_NoWire_init
  FS_CannotQuicken_init : FunS P K "__init__" "CannotQuicken.__init__" s_CannotQuicken_init A.c_CannotQuicken A.f_CannotQuicken_init A.d_CannotQuicken_init
  sup_CannotQuicken : SupC K A.c_CannotQuicken
  F_Line_init : Fun K "__init__" "Line.__init__" s_Line_init A.f_Line_init A.d_Line_init
  F_Line_wire : Fun K "wire" "Line.wire" s_Line_wire A.f_Line_wire A.d_Line_wire
  F_Line_targets : Fun K "targets" "Line.targets" s_Line_targets A.f_Line_targets A.d_Line_targets
  F_check_box : Fun K "check_box" "check_box" s_check_box A.f_check_box A.d_check_box
  g_check_box : mg "check_box" = some (.ref A.f_check_box)
  F_is_span : Fun K "is_span" "is_span" s_is_span A.f_is_span A.d_is_span
  g_is_span : mg "is_span" = some (.ref A.f_is_span)
  F_spans_by_wire : Fun K "_spans_by_wire" "_spans_by_wire" s_spans_by_wire A.f_spans_by_wire A.d_spans_by_wire
  g_spans_by_wire : mg "_spans_by_wire" = some (.ref A.f_spans_by_wire)
  F_mosts_by_pair : Fun K "_mosts_by_pair" "_mosts_by_pair" s_mosts_by_pair A.f_mosts_by_pair A.d_mosts_by_pair
  g_mosts_by_pair : mg "_mosts_by_pair" = some (.ref A.f_mosts_by_pair)
  F_spread : Fun K "spread" "spread" s_spread A.f_spread A.d_spread
  g_spread : mg "spread" = some (.ref A.f_spread)
  F_quicken : Fun K "quicken" "quicken" s_quicken A.f_quicken A.d_quicken
  g_quicken : mg "quicken" = some (.ref A.f_quicken)
  F_check_wish : Fun K "_check_wish" "_check_wish" s_check_wish A.f_check_wish A.d_check_wish
  g_check_wish : mg "_check_wish" = some (.ref A.f_check_wish)
  F_stretch : Fun K "_stretch" "_stretch" s_stretch A.f_stretch A.d_stretch
  g_stretch : mg "_stretch" = some (.ref A.f_stretch)
  F_wires_to_save : Fun K "_wires_to_save" "_wires_to_save" s_wires_to_save A.f_wires_to_save A.d_wires_to_save
  g_wires_to_save : mg "_wires_to_save" = some (.ref A.f_wires_to_save)
  F_ways_by_point : Fun K "_ways_by_point" "_ways_by_point" s_ways_by_point A.f_ways_by_point A.d_ways_by_point
  g_ways_by_point : mg "_ways_by_point" = some (.ref A.f_ways_by_point)
  F_new_highs : Fun K "_new_highs" "_new_highs" s_new_highs A.f_new_highs A.d_new_highs
  g_new_highs : mg "_new_highs" = some (.ref A.f_new_highs)
  F_is_int : Fun K "_law_is_int" "_law_is_int" s_is_int A.f_is_int A.d_is_int
  g_is_int : mg "_law_is_int" = some (.ref A.f_is_int)
  F_cell : Fun K "_law_cell" "_law_cell" s_cell A.f_cell A.d_cell
  g_cell : mg "_law_cell" = some (.ref A.f_cell)
  F_pen : Fun K "_law_pen" "_law_pen" s_pen A.f_pen A.d_pen
  g_pen : mg "_law_pen" = some (.ref A.f_pen)
  F_take : Fun K "_law_take" "_law_take" s_take A.f_take A.d_take
  g_take : mg "_law_take" = some (.ref A.f_take)
  F_lw_stretch : Fun K "_law_stretch" "_law_stretch" s_lw_stretch A.f_lw_stretch A.d_lw_stretch
  g_lw_stretch : mg "_law_stretch" = some (.ref A.f_lw_stretch)
  F_ways : Fun K "_law_ways" "_law_ways" s_ways A.f_ways A.d_ways
  g_ways : mg "_law_ways" = some (.ref A.f_ways)
  F_spans : Fun K "_law_spans" "_law_spans" s_spans A.f_spans A.d_spans
  g_spans : mg "_law_spans" = some (.ref A.f_spans)
  F_pairs : Fun K "_law_pairs" "_law_pairs" s_pairs A.f_pairs A.d_pairs
  g_pairs : mg "_law_pairs" = some (.ref A.f_pairs)
  F_wishes : Fun K "_law_wishes" "_law_wishes" s_wishes A.f_wishes A.d_wishes
  g_wishes : mg "_law_wishes" = some (.ref A.f_wishes)
  F_is_met : Fun K "_law_is_met" "_law_is_met" s_is_met A.f_is_met A.d_is_met
  g_is_met : mg "_law_is_met" = some (.ref A.f_is_met)
  F_least : Fun K "_law_least" "_law_least" s_least A.f_least A.d_least
  g_least : mg "_law_least" = some (.ref A.f_least)
  F_lw_quicken : Fun K "_law_quicken" "_law_quicken" s_lw_quicken A.f_lw_quicken A.d_lw_quicken
  g_lw_quicken : mg "_law_quicken" = some (.ref A.f_lw_quicken)
  F_with : Fun K "_law_with" "_law_with" s_with A.f_with A.d_with
  g_with : mg "_law_with" = some (.ref A.f_with)
  F_is_answer : Fun K "_law_is_answer" "_law_is_answer" s_is_answer A.f_is_answer A.d_is_answer
  g_is_answer : mg "_law_is_answer" = some (.ref A.f_is_answer)
  F_law : Fun K "law" "law" s_law A.f_law A.d_law
  g_law : mg "law" = some (.ref A.f_law)
  g_NoBox : mg "NoBox" = some (.ref A.c_NoBox)
  g_NoWire : mg "NoWire" = some (.ref A.c_NoWire)
  g_CannotQuicken : mg "CannotQuicken" = some (.ref A.c_CannotQuicken)
  g_Line : mg "Line" = some (.ref A.c_Line)
  n_abs : mg "abs" = none
  n_bool : mg "bool" = none
  n_enumerate : mg "enumerate" = none
  n_int : mg "int" = none
  n_isinstance : mg "isinstance" = none
  n_len : mg "len" = none
  n_list : mg "list" = none
  n_max : mg "max" = none
  n_min : mg "min" = none
  n_range : mg "range" = none
  n_sorted : mg "sorted" = none
  n_sum : mg "sum" = none
  n_super : mg "super" = none
  n_tuple : mg "tuple" = none
  oex_NoBox : OexC K A.c_NoBox
  ini_NoBox : PySem.W.findIn K (.ref A.c_NoBox) "__init__" = some (some (.ref A.f_NoBox_init))
  tI_NoBox : PySem.W.typeIn K (.ref A.f_NoBox_init) = some (.type "function")
  nb_NoBox_box : PySem.W.findIn K (.ref A.c_NoBox) "box" = some none
  oex_NoWire : OexC K A.c_NoWire
  ini_NoWire : PySem.W.findIn K (.ref A.c_NoWire) "__init__" = some (some (.ref A.f_NoWire_init))
  tI_NoWire : PySem.W.typeIn K (.ref A.f_NoWire_init) = some (.type "function")
  nb_NoWire_source : PySem.W.findIn K (.ref A.c_NoWire) "source" = some none
  nb_NoWire_target : PySem.W.findIn K (.ref A.c_NoWire) "target" = some none
  oex_CannotQuicken : OexC K A.c_CannotQuicken
  ini_CannotQuicken : PySem.W.findIn K (.ref A.c_CannotQuicken) "__init__" = some (some (.ref A.f_CannotQuicken_init))
  tI_CannotQuicken : PySem.W.typeIn K (.ref A.f_CannotQuicken_init) = some (.type "function")
  nb_CannotQuicken_east : PySem.W.findIn K (.ref A.c_CannotQuicken) "east" = some none
  nb_CannotQuicken_steps : PySem.W.findIn K (.ref A.c_CannotQuicken) "steps" = some none
  xf_CannotQuicken : XfC K A.c_CannotQuicken
  exm_CannotQuicken_CannotQuicken : PySem.W.exmOne K (.ref A.c_CannotQuicken) (.ref A.c_CannotQuicken) = some true
  cl_Line : Cls K A.c_Line
  na_Line_size : NoAttr K A.c_Line "size"
  na_Line__spans : NoAttr K A.c_Line "_spans"
  na_Line__mosts : NoAttr K A.c_Line "_mosts"
  M_Line : Mk K A.c_Line A.f_Line_init
  m_Line_wire : Meth K A.c_Line "wire" A.f_Line_wire
  m_Line_targets : Meth K A.c_Line "targets" A.f_Line_targets
  D_Line_init : FunD K "__init__" "Line.__init__" (defArgs s_Line_init) (defBody s_Line_init) (defScope s_Line_init) [] [("bounds", .ref A.e_bounds)] A.f_Line_init A.d_Line_init
  q_bounds : ∃ o n, K.lookup A.e_bounds = some o ∧ o.cls = .type "tuple" ∧ o.data = .seq #[] n
section
variable {w : World} {K : PySem.W.Frag} {mg : Str → Option Value} {base : Heap} {A : Adr}
theorem b_NoBox_init (T : Txt K mg A) : Binds K A.d_NoBox_init ["self", "box"] [] := T.F_NoBox_init.binds fun _ _ _ _ _ _ us hl => match us, hl with | [_, _], _ => rfl
theorem b_NoWire_init (T : Txt K mg A) : Binds K A.d_NoWire_init ["self", "source", "target"] [] := T.F_NoWire_init.binds fun _ _ _ _ _ _ us hl => match us, hl with | [_, _, _], _ => rfl
theorem b_CannotQuicken_init (T : Txt K mg A) : Binds K A.d_CannotQuicken_init ["self", "east", "steps"] [] := T.FS_CannotQuicken_init.binds fun _ _ _ _ _ _ _ us hl => match us, hl with | [_, _, _], _ => rfl
theorem b_Line_wire (T : Txt K mg A) : Binds K A.d_Line_wire ["self", "source", "target"] [] := T.F_Line_wire.binds fun _ _ _ _ _ _ us hl => match us, hl with | [_, _, _], _ => rfl
theorem b_Line_targets (T : Txt K mg A) : Binds K A.d_Line_targets ["self", "box"] [] := T.F_Line_targets.binds fun _ _ _ _ _ _ us hl => match us, hl with | [_, _], _ => rfl
theorem b_check_box (T : Txt K mg A) : Binds K A.d_check_box ["line", "box"] [] := T.F_check_box.binds fun _ _ _ _ _ _ us hl => match us, hl with | [_, _], _ => rfl
theorem b_is_span (T : Txt K mg A) : Binds K A.d_is_span ["low", "high"] [] := T.F_is_span.binds fun _ _ _ _ _ _ us hl => match us, hl with | [_, _], _ => rfl
theorem b_spans_by_wire (T : Txt K mg A) : Binds K A.d_spans_by_wire ["line", "wires"] [] := T.F_spans_by_wire.binds fun _ _ _ _ _ _ us hl => match us, hl with | [_, _], _ => rfl
theorem b_mosts_by_pair (T : Txt K mg A) : Binds K A.d_mosts_by_pair ["line", "bounds"] [] := T.F_mosts_by_pair.binds fun _ _ _ _ _ _ us hl => match us, hl with | [_, _], _ => rfl
theorem b_spread (T : Txt K mg A) : Binds K A.d_spread ["bounds", "starts"] [] := T.F_spread.binds fun _ _ _ _ _ _ us hl => match us, hl with | [_, _], _ => rfl
theorem b_quicken (T : Txt K mg A) : Binds K A.d_quicken ["line", "wishes"] [] := T.F_quicken.binds fun _ _ _ _ _ _ us hl => match us, hl with | [_, _], _ => rfl
theorem b_check_wish (T : Txt K mg A) : Binds K A.d_check_wish ["line", "index", "source", "target", "hours"] [] := T.F_check_wish.binds fun _ _ _ _ _ _ us hl => match us, hl with | [_, _, _, _, _], _ => rfl
theorem b_stretch (T : Txt K mg A) : Binds K A.d_stretch ["source", "target"] [] := T.F_stretch.binds fun _ _ _ _ _ _ us hl => match us, hl with | [_, _], _ => rfl
theorem b_wires_to_save (T : Txt K mg A) : Binds K A.d_wires_to_save ["line", "wishes", "east"] [] := T.F_wires_to_save.binds fun _ _ _ _ _ _ us hl => match us, hl with | [_, _, _], _ => rfl
theorem b_ways_by_point (T : Txt K mg A) : Binds K A.d_ways_by_point ["line", "wishes", "wires", "east"] [] := T.F_ways_by_point.binds fun _ _ _ _ _ _ us hl => match us, hl with | [_, _, _, _], _ => rfl
theorem b_new_highs (T : Txt K mg A) : Binds K A.d_new_highs ["wires", "ways"] [] := T.F_new_highs.binds fun _ _ _ _ _ _ us hl => match us, hl with | [_, _], _ => rfl
theorem b_is_int (T : Txt K mg A) : Binds K A.d_is_int ["_law_value"] [] := T.F_is_int.binds fun _ _ _ _ _ _ us hl => match us, hl with | [_], _ => rfl
theorem b_cell (T : Txt K mg A) : Binds K A.d_cell ["_law_script", "_law_k"] [] := T.F_cell.binds fun _ _ _ _ _ _ us hl => match us, hl with | [_, _], _ => rfl
theorem b_pen (T : Txt K mg A) : Binds K A.d_pen ["_law_script", "_law_k"] [] := T.F_pen.binds fun _ _ _ _ _ _ us hl => match us, hl with | [_, _], _ => rfl
theorem b_take (T : Txt K mg A) : Binds K A.d_take ["_law_pen_here", "_law_size"] [] := T.F_take.binds fun _ _ _ _ _ _ us hl => match us, hl with | [_, _], _ => rfl
theorem b_lw_stretch (T : Txt K mg A) : Binds K A.d_lw_stretch ["_law_pen_here", "_law_size"] [] := T.F_lw_stretch.binds fun _ _ _ _ _ _ us hl => match us, hl with | [_, _], _ => rfl
theorem b_ways (T : Txt K mg A) : Binds K A.d_ways ["_law_wires", "_law_size", "_law_onward"] [] := T.F_ways.binds fun _ _ _ _ _ _ us hl => match us, hl with | [_, _, _], _ => rfl
theorem b_spans (T : Txt K mg A) : Binds K A.d_spans ["_law_wishes_here", "_law_onward"] [] := T.F_spans.binds fun _ _ _ _ _ _ us hl => match us, hl with | [_, _], _ => rfl
theorem b_pairs (T : Txt K mg A) : Binds K A.d_pairs ["_law_pen_here", "_law_size"] [] := T.F_pairs.binds fun _ _ _ _ _ _ us hl => match us, hl with | [_, _], _ => rfl
theorem b_wishes (T : Txt K mg A) : Binds K A.d_wishes ["_law_pen_here", "_law_size", "_law_wires"] [] := T.F_wishes.binds fun _ _ _ _ _ _ us hl => match us, hl with | [_, _, _], _ => rfl
theorem b_is_met (T : Txt K mg A) : Binds K A.d_is_met ["_law_spans_here", "_law_hours"] [] := T.F_is_met.binds fun _ _ _ _ _ _ us hl => match us, hl with | [_, _], _ => rfl
theorem b_least (T : Txt K mg A) : Binds K A.d_least ["_law_ways_here", "_law_spans_here"] [] := T.F_least.binds fun _ _ _ _ _ _ us hl => match us, hl with | [_, _], _ => rfl
theorem b_lw_quicken (T : Txt K mg A) : Binds K A.d_lw_quicken ["_law_line", "_law_wishes_here"] [] := T.F_lw_quicken.binds fun _ _ _ _ _ _ us hl => match us, hl with | [_, _], _ => rfl
theorem b_with (T : Txt K mg A) : Binds K A.d_with ["_law_wires", "_law_highs"] [] := T.F_with.binds fun _ _ _ _ _ _ us hl => match us, hl with | [_, _], _ => rfl
theorem b_is_answer (T : Txt K mg A) : Binds K A.d_is_answer ["_law_size", "_law_wires", "_law_wishes_here", "_law_told", "_law_least_here"] [] := T.F_is_answer.binds fun _ _ _ _ _ _ us hl => match us, hl with | [_, _, _, _, _], _ => rfl
theorem b_law (T : Txt K mg A) : Binds K A.d_law ["_law_script"] [] := T.F_law.binds fun _ _ _ _ _ _ us hl => match us, hl with | [_], _ => rfl
end
end
section
set_option maxRecDepth 100000
set_option maxHeartbeats 1000000
open PySem PySem.Spec PyProof.Rows L2 VX
local macro_rules | `(tactic| walk_at "cl") => `(tactic| exact Txt.cl_Line (by assumption))
local macro_rules | `(tactic| walk_at "na") => `(tactic| first | exact Txt.na_Line_size (by assumption) | exact Txt.na_Line__spans (by assumption) | exact Txt.na_Line__mosts (by assumption))
section
variable {w : World} {K : PySem.W.Frag} {mg : Str → Option Value} {base : Heap} {A : Adr}
/-! ### the law's helpers: cell, pen, take -/
def spCell (K : PySem.W.Frag) : Sp := fun vs H Q _ => ∃ (s : Addr) (k : Int) (ns : List Int), vs = [.ref s, .int k] ∧ SqL K H s (ns.map V.int) ∧ 0 ≤ k ∧ k ≤ 1000 ∧ ∀ z : Int, Q (.int z) H
theorem ok_cell (T : Txt K mg A) : FnOk P w K mg base CX0 1 A.f_cell A.d_cell ["_law_script", "_law_k"] (spCell K) := by
  refine T.F_cell.ok sc_cell (fun vs H Q E h => ?_) (fun cdv A' outer s H vs Q E hr h => ?_)
  · obtain ⟨a, b, ns, rfl, _⟩ := h
    rfl
  · obtain ⟨a, k, ns, rfl, hs, h0, h1, q⟩ := h
    refine ⟨_, (pss_cons (ps_if (pt_cmpR op_lt (pv 1) (pe_callB (r := rLenS K) call_lenS (by rfl) T.n_len PySem.boot_len (pa_cons (pv 0) pa_nil)) (nomark _)) (pss_one (ps_ret (pe_ix (r := rIxL K) ix_list (pv 0) (pv 1) (fun _ _ => rfl)))) pss_nil)
      (pss_one (ps_ret (pe_op op_add (pe_op op_mul pe_int (pv 1)) pe_int)))), ?_⟩
    refine i_start (σ' := [some (V.ref a), some (.int k)]) rfl ?_
    walk_at "vc"
    rw [List.length_map]
    refine i_iteD (fun h2 => ?_) (fun h2 => ?_)
    · walk_at "vc"
      have hb : k.toNat < ns.length := by omega
      have e : ((k.toNat : Nat) : Int) = k := by omega
      refine i_ixL hs (at_of e.symm (j := k.toNat) (v := .int ns[k.toNat]) (by rw [List.getElem?_map, List.getElem?_eq_getElem hb]; rfl)) ?_
      exact q _
    · walk_at "vc"
      exact q _
def spPen (K : PySem.W.Frag) : Sp := fun vs H Q _ => ∃ (s : Addr) (k : Int) (ns : List Int), vs = [.ref s, .int k] ∧ SqL K H s (ns.map V.int) ∧ 0 ≤ k ∧ k ≤ 1000 ∧ ∀ (z : Int) p, H p = none → Q (.ref p) (upd H p (.lst [.int z, .int 0, .int z]))
theorem ok_pen (T : Txt K mg A) : FnOk P w K mg base CX0 2 A.f_pen A.d_pen ["_law_script", "_law_k"] (spPen K) := by
  refine T.F_pen.ok sc_pen (fun vs H Q E h => ?_) (fun cdv A' outer s H vs Q E hr h => ?_)
  · obtain ⟨a, b, ns, rfl, _⟩ := h
    rfl
  · obtain ⟨a, k, ns, rfl, hs, h0, h1, q⟩ := h
    refine ⟨_, (pss_cons (ps_set (i := 2) sc_pen.nd rfl (Or.inl rfl) (pe_call (ok_cell T) (hr.mono (by decide)) (by rfl) T.g_cell T.F_cell.kp (b_cell T) .nil pass0 (pa_cons (pv 0) (pa_cons (pv 1) pa_nil))))
      (pss_one (ps_ret (pe_lst (pa_cons (pv 2) (pa_cons pe_int (pa_cons (pv 2) pa_nil))))))), ?_⟩
    refine i_start (σ' := [some (V.ref a), some (.int k), none]) rfl ?_
    walk_at "vc"
    refine ⟨a, k, ns, rfl, hs, h0, h1, fun z => ?_⟩
    walk_at "vc"
    exact ⟨by show 3 ≤ sizeLine; decide, fun p np => q z p np⟩
def spTake : Sp := fun vs H Q _ => ∃ (p : Addr) (c n r size : Int), vs = [.ref p, .int size] ∧ H p = some (.lst [.int c, .int n, .int r]) ∧ 0 < size ∧ size < 1073741824 ∧ ∀ d n' r', 0 ≤ d → d < size → Q (.int d) (upd H p (.lst [.int c, .int n', .int r']))
theorem ok_take (T : Txt K mg A) : FnOk P w K mg base CX0 1 A.f_take A.d_take ["_law_pen_here", "_law_size"] spTake := by
  refine T.F_take.ok sc_take (fun vs H Q E h => ?_) (fun cdv A' outer s H vs Q E hr h => ?_)
  · obtain ⟨p, c, n, r, size, rfl, _⟩ := h
    rfl
  · obtain ⟨p, c, n, r, size, rfl, hp, h0, h1, q⟩ := h
    refine ⟨_, (pss_cons (ps_asg (pe_op op_add (pe_ix (r := rIxL K) ix_list (pv 0) pe_int (fun _ _ => rfl)) pe_int) (pg_sub (pv 0) pe_int set_list))
      (pss_cons (ps_if (PW.pt (pw_and (pt_cmpR op_ge (pe_ix (r := rIxL K) ix_list (pv 0) pe_int (fun _ _ => rfl)) (pe_op op_pow pe_int pe_int) (nomark _)) (pw_and1 (pt_cmpR op_gt (pe_ix (r := rIxL K) ix_list (pv 0) pe_int (fun _ _ => rfl)) pe_int (nomark _))))) (pss_cons (ps_set (i := 2) sc_take.nd rfl (Or.inl rfl) (pe_op op_modN (pe_callTy call_int (by rfl) T.n_int (by decide +kernel) (pa_cons (pe_ix (r := rIxL K) ix_list (pv 0) pe_int (fun _ _ => rfl)) pa_nil)) (pv 1)))
      (pss_cons (ps_asg (pe_op op_fdiv (pe_callTy call_int (by rfl) T.n_int (by decide +kernel) (pa_cons (pe_ix (r := rIxL K) ix_list (pv 0) pe_int (fun _ _ => rfl)) pa_nil)) (pv 1)) (pg_sub (pv 0) pe_int set_list))
      (pss_one (ps_ret (pv 2))))) pss_nil)
      (pss_cons (ps_set (i := 3) sc_take.nd rfl (Or.inl rfl) (pe_op op_modN (pe_callTy call_int (by rfl) T.n_int (by decide +kernel) (pa_cons (pe_op op_add (pe_op op_add (pe_ix (r := rIxL K) ix_list (pv 0) pe_int (fun _ _ => rfl)) (pe_op op_mul pe_int (pe_ix (r := rIxL K) ix_list (pv 0) pe_int (fun _ _ => rfl)))) pe_int) pa_nil)) pe_int))
      (pss_cons (ps_set (i := 3) sc_take.nd rfl (Or.inl rfl) (pe_op op_modN (pe_callTy call_int (by rfl) T.n_int (by decide +kernel) (pa_cons (pe_op op_mul (pv 3) (pe_op op_add (pv 3) pe_int)) pa_nil)) pe_int))
      (pss_cons (ps_set (i := 3) sc_take.nd rfl (Or.inl rfl) (pe_op op_modN (pe_callTy call_int (by rfl) T.n_int (by decide +kernel) (pa_cons (pe_op op_add (pe_op op_mul (pv 3) (pe_op op_add (pv 3) pe_int)) (pe_op op_mul pe_int (pe_ix (r := rIxL K) ix_list (pv 0) pe_int (fun _ _ => rfl)))) pa_nil)) pe_int))
      (pss_one (ps_ret (pe_op op_modN (pe_callTy call_int (by rfl) T.n_int (by decide +kernel) (pa_cons (pe_op op_fdiv (pv 3) pe_int) pa_nil)) (pv 1))))))))), ?_⟩
    refine i_start (σ' := [some (V.ref p), some (V.int size), none, none]) rfl ?_
    walk_at "vcA"
    refine i_iteD (fun _ => ?_) (fun _ => ?_)
    · walk_at "vcA"
      refine i_iteD (fun _ => ?_) (fun _ => ?_)
      · walk_at "vcA"
        exact q _ _ _ (by assumption) (by assumption)
      · walk_at "vcA"
        exact q _ _ _ (by assumption) (by assumption)
    · walk_at "vcA"
      exact q _ _ _ (by assumption) (by assumption)
/-- a draw, read -/
theorem i_take {H : Hp} {Q : VK} {E : XK} {p : Addr} {c n r size : Int} (hp : H p = some (.lst [.int c, .int n, .int r])) (h0 : 0 < size) (h1 : size < 1073741824)
    (q : ∀ d n' r', 0 ≤ d → d < size → Q (.int d) (upd H p (.lst [.int c, .int n', .int r']))) : spTake [.ref p, .int size] H Q E := ⟨p, c, n, r, size, rfl, hp, h0, h1, q⟩
end
end
section
set_option maxRecDepth 100000
set_option maxHeartbeats 1000000
open PySem PySem.Spec PyProof.Rows L2 VX MI
section
variable {w : World} {K : PySem.W.Frag} {mg : Str → Option Value} {base : Heap} {A : Adr}
theorem Ev.penT {w : Wd} {p : Addr} {a b c : Int} (k : w.Ok) (s : w.S p) : Ev w (w.cell p (.lst [.int a, .int b, .int c])) := by
  refine ⟨Same.refl _, fun b h g => absurd h g, fun b o h n => ?_, fun _ h => h, fun _ h g => absurd h g, ⟨fun b u h => ?_, fun q hq => ?_⟩⟩
  · show upd w.H p _ b = some o
    rw [upd_ne (fun z => n (by rw [z]; exact s))]
    exact h
  · show upd w.H p _ b = some u
    have hp := (k.2 p s).1
    rw [upd_ne (ne_of_none h hp)]
    exact k.1 b u h
  · by_cases z : q = p
    · subst z
      exact ⟨(k.2 q hq).1, a, _, _, upd_same⟩
    · obtain ⟨h1, a', b', c', h2⟩ := k.2 q hq
      exact ⟨h1, a', b', c', (upd_ne z).trans h2⟩
theorem take_p : SpP K spTake mTake := fun w vs xs q R E k r hm hr => by
  unfold mTake at hm
  split at hm
  · obtain ⟨h0, h1, hq⟩ := hm
    cases r with
    | cons a t =>
    cases t with
    | cons b t =>
    cases t
    cases a with
    | pen s =>
    cases b
    obtain ⟨_, c, n, r', hp⟩ := k.2 _ s
    exact ⟨_, c, n, r', _, rfl, hp, h0, h1, fun d n' r'' d0 d1 => hr (.int d) _ _ (hq d d0 d1) (Ev.penT k s) (.int d)⟩
  · exact hm.elim
end
end
section
set_option maxRecDepth 100000
set_option maxHeartbeats 1000000
open PySem PySem.Spec PyProof.Rows L2 VX MI
local macro_rules | `(tactic| walk_at "sndP") => `(tactic| first | (with_reducible refine' MI.snd_callP take_p ?_) | (with_reducible refine' MI.snd_cb MI.cb_sum ?_))
section
variable {w : World} {K : PySem.W.Frag} {mg : Str → Option Value} {base : Heap} {A : Adr}
def m_is_int : MS :=
    (mRet (mAndV (mIsi "int" (mVarW 0)) (mNotV (mIsi "bool" (mVarW 0)))))
theorem om_is_int (T : Txt K mg A) : FnOk P w K mg base CX0 3 A.f_is_int A.d_is_int ["_law_value"] (spM K 1 1 m_is_int) := by
  refine T.F_is_int.ok sc_is_int (fun vs H Q E h => spM_len h rfl) (fun cdv A' outer s H vs Q E hr h => ?_)
  refine ⟨_, (pss_one (ps_ret (pe_and (pe_callB (r := rIsi K) call_isi (by rfl) T.n_isinstance (by decide +kernel) (pa_cons (pv 0) (pa_cons (pe_bltn (v := .ty "int") (by rfl) T.n_int (by decide +kernel) rfl) pa_nil))) (pe_one (pe_not (pe_callB (r := rIsi K) call_isi (by rfl) T.n_isinstance (by decide +kernel) (pa_cons (pv 0) (pa_cons (pe_bltn (v := .ty "bool") (by rfl) T.n_bool (by decide +kernel) rfl) pa_nil)))))))), mir_body (N := N_is_int) h ?_⟩
  unfold m_is_int
  try dsimp only [L2.cxOf, L2.Cx.nox, L2.Cx.wish]
  walk_at "snd"
def m_lw_stretch : MS :=
    (mSeq (mSet 2 (mC (.int 5)))
      (mSeq (mIfS (mB (mOp mGt (mVarW 1) (mC (.int 4)))) (mSet 2 (mC (.int 3))) mNext)
      (mSeq (mOwn 3 (mLst mNil))
      (mSeq (mFor (mRg1 (mCons (mVarW 1) mNil)) (mGn 4)
      (mFor (mRg1 (mCons (mVarW 1) mNil)) (mGn 5)
      (mSeq (mSet 6 (mCallP mTake (mCons (mVar 0) (mCons (mC (.int 12)) mNil))))
      (mSeq (mSet 7 (mOp mEqU (mCB mAbs (mCons (mOp mSub (mVarW 4) (mVarW 5)) mNil)) (mC (.int 1))))
      (mIfS (mOr (mB (mVarW 7)) (mAnd (mB (mOp mNeU (mVarW 4) (mVarW 5))) (mAnd (mB (mOp mLt (mVarW 1) (mC (.int 5)))) (mB (mOp mGt (mVarW 6) (mC (.int 8))))))) (mSeq (mSet 8 (mOp mAddU (mC (.int 1)) (mCallP mTake (mCons (mVar 0) (mCons (mC (.int 3)) mNil)))))
      (mSeq (mSet 9 (mOp mAddU (mVarW 8) (mCallP mTake (mCons (mVar 0) (mCons (mVar 2) mNil)))))
      (mSeq (mIfS (mAnd (mNot (mB (mVarW 7))) (mB (mOp mEqU (mVarW 6) (mC (.int 9))))) (mSet 9 (mC .non)) mNext)
      (mApp 3 (mTup (mCons (mVar 4) (mCons (mVar 5) (mCons (mVar 8) (mCons (mVar 9) mNil))))))))) mNext)))))
      (mFrz 3 (mRet (mVar 3)))))))
theorem om_lw_stretch (T : Txt K mg A) : FnOk P w K mg base CX0 3 A.f_lw_stretch A.d_lw_stretch ["_law_pen_here", "_law_size"] (spM K 2 10 m_lw_stretch) := by
  refine T.F_lw_stretch.ok sc_lw_stretch (fun vs H Q E h => spM_len h rfl) (fun cdv A' outer s H vs Q E hr h => ?_)
  refine ⟨_, (pss_cons (ps_set (i := 2) sc_lw_stretch.nd rfl (Or.inl rfl) pe_int)
      (pss_cons (ps_if (pt_cmpR op_gt (pv 1) pe_int (nomark _)) (pss_one (ps_set (i := 2) sc_lw_stretch.nd rfl (Or.inl rfl) pe_int)) pss_nil)
      (pss_cons (ps_set (i := 3) sc_lw_stretch.nd rfl (Or.inl rfl) (pe_lst pa_nil))
      (pss_cons (ps_for PassesOwn.never rfl (pi_range1 (by rfl) T.n_range (pa_cons (pv 1) pa_nil)) (pg_name (i := 4) sc_lw_stretch.nd rfl (Or.inl rfl))
      (pss_one (ps_for PassesOwn.never rfl (pi_range1 (by rfl) T.n_range (pa_cons (pv 1) pa_nil)) (pg_name (i := 5) sc_lw_stretch.nd rfl (Or.inl rfl))
      (pss_cons (ps_set (i := 6) sc_lw_stretch.nd rfl (Or.inl rfl) (pe_call (ok_take T) (hr.mono (by decide)) (by rfl) T.g_take T.F_take.kp (b_take T) .nil pass0 (pa_cons (pv 0) (pa_cons pe_int pa_nil))))
      (pss_cons (ps_set (i := 7) sc_lw_stretch.nd rfl (Or.inl rfl) (pe_cmpR (op_or2 (r1 := rEq) (r2 := rEqD K) op_eq (op_eqD hr.units)) (pe_callB call_abs (by rfl) T.n_abs (by decide +kernel) (pa_cons (pe_op op_sub (pv 4) (pv 5)) pa_nil)) pe_int (nomark _)))
      (pss_one (ps_if (PW.pt (pw_or (pt_val (pv 7)) (pw_or1 (PW.pt (pw_and (pt_cmpR (op_or2 (r1 := rNe) (r2 := rNeD K) op_ne (op_neD hr.units)) (pv 4) (pv 5) (nomark _)) (pw_and (pt_cmpR op_lt (pv 1) pe_int (nomark _)) (pw_and1 (pt_cmpR op_gt (pv 6) pe_int (nomark _))))))))) (pss_cons (ps_set (i := 8) sc_lw_stretch.nd rfl (Or.inl rfl) (pe_op (op_or2 (r1 := rI0 fun i j => .int (i + j)) (r2 := rOr (rCatL K) (rCatA K)) op_add (op_or2 (r1 := rCatL K) (r2 := rCatA K) op_catL op_catA)) pe_int (pe_call (ok_take T) (hr.mono (by decide)) (by rfl) T.g_take T.F_take.kp (b_take T) .nil pass0 (pa_cons (pv 0) (pa_cons pe_int pa_nil)))))
      (pss_cons (ps_set (i := 9) sc_lw_stretch.nd rfl (Or.inl rfl) (pe_op (op_or2 (r1 := rI0 fun i j => .int (i + j)) (r2 := rOr (rCatL K) (rCatA K)) op_add (op_or2 (r1 := rCatL K) (r2 := rCatA K) op_catL op_catA)) (pv 8) (pe_call (ok_take T) (hr.mono (by decide)) (by rfl) T.g_take T.F_take.kp (b_take T) .nil pass0 (pa_cons (pv 0) (pa_cons (pv 2) pa_nil)))))
      (pss_cons (ps_if (PW.pt (pw_and (pt_not (pt_val (pv 7))) (pw_and1 (pt_cmpR (op_or2 (r1 := rEq) (r2 := rEqD K) op_eq (op_eqD hr.units)) (pv 6) pe_int (nomark _))))) (pss_one (ps_set (i := 9) sc_lw_stretch.nd rfl (Or.inl rfl) pe_non)) pss_nil)
      (pss_one (ps_expr (pe_bm PySem.F.plainAttrs_list PySem.F.slot_list_append PySem.F.type_list_append mt_append (pv 3) (pa_cons (pe_tup (pa_cons (pv 4) (pa_cons (pv 5) (pa_cons (pv 8) (pa_cons (pv 9) pa_nil))))) pa_nil))))))) pss_nil)))))))
      (pss_one (ps_ret (pv 3))))))), mir_body (N := N_lw_stretch) h ?_⟩
  unfold m_lw_stretch
  try dsimp only [L2.cxOf, L2.Cx.nox, L2.Cx.wish]
  walk_at "snd"
def m_ways : MS :=
    (mSeq (mOwn 3 (mLst mNil))
      (mSeq (mFor (mRg1 (mCons (mOp mSub (mVarW 1) (mC (.int 1))) mNil)) (mGn 4)
      (mFor (mItS (mVar 0)) (mGn 5)
      (mIfS (mAnd (mB (mOp mEqU (mOp mIx (mVarW 5) (mC (.int 0))) (mOp mAddU (mVarW 4) (mCB mIntOf (mCons (mNotV (mVarW 2)) mNil))))) (mB (mOp mEqU (mOp mIx (mVarW 5) (mC (.int 1))) (mOp mAddU (mVarW 4) (mCB mIntOf (mCons (mVarW 2) mNil)))))) (mApp 3 (mTup (mCons (mOp mIx (mVarW 5) (mC (.int 2))) (mCons (mOp mIx (mVarW 5) (mC (.int 3))) mNil)))) mNext)))
      (mFrz 3 (mRet (mVar 3)))))
theorem om_ways (T : Txt K mg A) : FnOk P w K mg base CX0 3 A.f_ways A.d_ways ["_law_wires", "_law_size", "_law_onward"] (spM K 3 6 m_ways) := by
  refine T.F_ways.ok sc_ways (fun vs H Q E h => spM_len h rfl) (fun cdv A' outer s H vs Q E hr h => ?_)
  refine ⟨_, (pss_cons (ps_set (i := 3) sc_ways.nd rfl (Or.inl rfl) (pe_lst pa_nil))
      (pss_cons (ps_for PassesOwn.never rfl (pi_range1 (by rfl) T.n_range (pa_cons (pe_op op_sub (pv 1) pe_int) pa_nil)) (pg_name (i := 4) sc_ways.nd rfl (Or.inl rfl))
      (pss_one (ps_for PassesOwn.never rfl (pi_seqK (K := K) rfl (pv 0)) (pg_name (i := 5) sc_ways.nd rfl (Or.inl rfl))
      (pss_one (ps_if (PW.pt (pw_and (pt_cmpR (op_or2 (r1 := rEq) (r2 := rEqD K) op_eq (op_eqD hr.units)) (pe_ix (r := rIx K) ix_seq (pv 5) pe_int (fun _ _ => rfl)) (pe_op (op_or2 (r1 := rI0 fun i j => .int (i + j)) (r2 := rOr (rCatL K) (rCatA K)) op_add (op_or2 (r1 := rCatL K) (r2 := rCatA K) op_catL op_catA)) (pv 4) (pe_callTy call_int (by rfl) T.n_int (by decide +kernel) (pa_cons (pe_not (pv 2)) pa_nil))) (nomark _)) (pw_and1 (pt_cmpR (op_or2 (r1 := rEq) (r2 := rEqD K) op_eq (op_eqD hr.units)) (pe_ix (r := rIx K) ix_seq (pv 5) pe_int (fun _ _ => rfl)) (pe_op (op_or2 (r1 := rI0 fun i j => .int (i + j)) (r2 := rOr (rCatL K) (rCatA K)) op_add (op_or2 (r1 := rCatL K) (r2 := rCatA K) op_catL op_catA)) (pv 4) (pe_callTy call_int (by rfl) T.n_int (by decide +kernel) (pa_cons (pv 2) pa_nil))) (nomark _))))) (pss_one (ps_expr (pe_bm PySem.F.plainAttrs_list PySem.F.slot_list_append PySem.F.type_list_append mt_append (pv 3) (pa_cons (pe_tup (pa_cons (pe_ix (r := rIx K) ix_seq (pv 5) pe_int (fun _ _ => rfl)) (pa_cons (pe_ix (r := rIx K) ix_seq (pv 5) pe_int (fun _ _ => rfl)) pa_nil))) pa_nil)))) pss_nil)))))
      (pss_one (ps_ret (pv 3))))), mir_body (N := N_ways) h ?_⟩
  unfold m_ways
  try dsimp only [L2.cxOf, L2.Cx.nox, L2.Cx.wish]
  walk_at "snd"
def m_spans : MS :=
    (mRet (mFz (mLc (mItS (mVarW 0)) (mGn 2) (mB (mOp mEqU (mOp mLt (mOp mIx (mVarW 2) (mC (.int 0))) (mOp mIx (mVarW 2) (mC (.int 1)))) (mVarW 1))) (mTup (mCons (mCB mMin2 (mCons (mOp mIx (mVarW 2) (mC (.int 0))) (mCons (mOp mIx (mVarW 2) (mC (.int 1))) mNil))) (mCons (mCB mMax2 (mCons (mOp mIx (mVarW 2) (mC (.int 0))) (mCons (mOp mIx (mVarW 2) (mC (.int 1))) mNil))) (mCons (mOp mIx (mVarW 2) (mC (.int 2))) mNil)))) [2])))
theorem om_spans (T : Txt K mg A) : FnOk P w K mg base CX0 3 A.f_spans A.d_spans ["_law_wishes_here", "_law_onward"] (spM K 2 3 m_spans) := by
  refine T.F_spans.ok sc_spans (fun vs H Q E h => spM_len h rfl) (fun cdv A' outer s H vs Q E hr h => ?_)
  refine ⟨_, (pss_one (ps_ret (pe_lc (own := [("_law_row", 2)]) (g := gName 2) (by rfl) sc_spans.nd (pi_seqK (K := K) rfl (pv 0)) (blkOk_by (N := N_spans) (sc := defScope s_spans) (by decide +kernel)) (fun _ _ _ _ _ => (pg_name (i := 2) sc_spans.nd rfl (Or.inl rfl))) (fun _ _ _ _ _ => (pts_one (pt_cmpR (op_or2 (r1 := rEq) (r2 := rEqD K) op_eq (op_eqD hr.units)) (pe_cmpR op_lt (pe_ix (r := rIx K) ix_seq (pv 2) pe_int (fun _ _ => rfl)) (pe_ix (r := rIx K) ix_seq (pv 2) pe_int (fun _ _ => rfl)) (nomark _)) (pv 1) (nomark _)))) (fun _ _ _ _ _ => (pe_tup (pa_cons (pe_callB (call_mn2 rfl) (by rfl) T.n_min (by decide +kernel) (pa_cons (pe_ix (r := rIx K) ix_seq (pv 2) pe_int (fun _ _ => rfl)) (pa_cons (pe_ix (r := rIx K) ix_seq (pv 2) pe_int (fun _ _ => rfl)) pa_nil))) (pa_cons (pe_callB (call_mx2 rfl) (by rfl) T.n_max (by decide +kernel) (pa_cons (pe_ix (r := rIx K) ix_seq (pv 2) pe_int (fun _ _ => rfl)) (pa_cons (pe_ix (r := rIx K) ix_seq (pv 2) pe_int (fun _ _ => rfl)) pa_nil))) (pa_cons (pe_ix (r := rIx K) ix_seq (pv 2) pe_int (fun _ _ => rfl)) pa_nil)))))))), mir_body (N := N_spans) h ?_⟩
  unfold m_spans
  try dsimp only [L2.cxOf, L2.Cx.nox, L2.Cx.wish]
  walk_at "snd"
def m_pairs : MS :=
    (mSeq (mIfS (mAnd (mB (mOp mGt (mVarW 1) (mC (.int 3)))) (mB (mOp mEqU (mCallP mTake (mCons (mVar 0) (mCons (mC (.int 3)) mNil))) (mC (.int 0))))) (mSeq (mSet 2 (mOp mAddU (mC (.int 1)) (mCallP mTake (mCons (mVar 0) (mCons (mOp mSub (mVarW 1) (mC (.int 3))) mNil)))))
      (mSeq (mSet 3 (mOp mAddU (mOp mAddU (mVarW 2) (mC (.int 1))) (mCallP mTake (mCons (mVar 0) (mCons (mOp mSub (mOp mSub (mVarW 1) (mC (.int 2))) (mVarW 2)) mNil)))))
      (mRet (mFz (mLst (mCons (mTup (mCons (mCallP mTake (mCons (mVar 0) (mCons (mVar 2) mNil))) (mCons (mVar 3) mNil))) (mCons (mTup (mCons (mVar 2) (mCons (mOp mAddU (mOp mAddU (mVarW 3) (mC (.int 1))) (mCallP mTake (mCons (mVar 0) (mCons (mOp mSub (mOp mSub (mVarW 1) (mC (.int 1))) (mVarW 3)) mNil)))) mNil))) mNil))))))) mNext)
      (mSeq (mOwn 4 (mLst mNil))
      (mSeq (mFor (mRg1 (mCons (mOp mMul (mCallP mTake (mCons (mVar 0) (mCons (mC (.int 8)) mNil))) (mCB mIntOf (mCons (mOp mGt (mVarW 1) (mC (.int 1))) mNil))) mNil)) (mGn 5)
      (mSeq (mSet 6 (mCallP mTake (mCons (mVar 0) (mCons (mVar 1) mNil))))
      (mApp 4 (mTup (mCons (mVar 6) (mCons (mOp mMod (mCB mIntOf (mCons (mOp mAddU (mOp mAddU (mVarW 6) (mC (.int 1))) (mCallP mTake (mCons (mVar 0) (mCons (mOp mSub (mVarW 1) (mC (.int 1))) mNil)))) mNil)) (mVarW 1)) mNil))))))
      (mFrz 4 (mRet (mVar 4))))))
theorem om_pairs (T : Txt K mg A) : FnOk P w K mg base CX0 3 A.f_pairs A.d_pairs ["_law_pen_here", "_law_size"] (spM K 2 7 m_pairs) := by
  refine T.F_pairs.ok sc_pairs (fun vs H Q E h => spM_len h rfl) (fun cdv A' outer s H vs Q E hr h => ?_)
  refine ⟨_, (pss_cons (ps_if (PW.pt (pw_and (pt_cmpR op_gt (pv 1) pe_int (nomark _)) (pw_and1 (pt_cmpR (op_or2 (r1 := rEq) (r2 := rEqD K) op_eq (op_eqD hr.units)) (pe_call (ok_take T) (hr.mono (by decide)) (by rfl) T.g_take T.F_take.kp (b_take T) .nil pass0 (pa_cons (pv 0) (pa_cons pe_int pa_nil))) pe_int (nomark _))))) (pss_cons (ps_set (i := 2) sc_pairs.nd rfl (Or.inl rfl) (pe_op (op_or2 (r1 := rI0 fun i j => .int (i + j)) (r2 := rOr (rCatL K) (rCatA K)) op_add (op_or2 (r1 := rCatL K) (r2 := rCatA K) op_catL op_catA)) pe_int (pe_call (ok_take T) (hr.mono (by decide)) (by rfl) T.g_take T.F_take.kp (b_take T) .nil pass0 (pa_cons (pv 0) (pa_cons (pe_op op_sub (pv 1) pe_int) pa_nil)))))
      (pss_cons (ps_set (i := 3) sc_pairs.nd rfl (Or.inl rfl) (pe_op (op_or2 (r1 := rI0 fun i j => .int (i + j)) (r2 := rOr (rCatL K) (rCatA K)) op_add (op_or2 (r1 := rCatL K) (r2 := rCatA K) op_catL op_catA)) (pe_op (op_or2 (r1 := rI0 fun i j => .int (i + j)) (r2 := rOr (rCatL K) (rCatA K)) op_add (op_or2 (r1 := rCatL K) (r2 := rCatA K) op_catL op_catA)) (pv 2) pe_int) (pe_call (ok_take T) (hr.mono (by decide)) (by rfl) T.g_take T.F_take.kp (b_take T) .nil pass0 (pa_cons (pv 0) (pa_cons (pe_op op_sub (pe_op op_sub (pv 1) pe_int) (pv 2)) pa_nil)))))
      (pss_one (ps_ret (pe_lst (pa_cons (pe_tup (pa_cons (pe_call (ok_take T) (hr.mono (by decide)) (by rfl) T.g_take T.F_take.kp (b_take T) .nil pass0 (pa_cons (pv 0) (pa_cons (pv 2) pa_nil))) (pa_cons (pv 3) pa_nil))) (pa_cons (pe_tup (pa_cons (pv 2) (pa_cons (pe_op (op_or2 (r1 := rI0 fun i j => .int (i + j)) (r2 := rOr (rCatL K) (rCatA K)) op_add (op_or2 (r1 := rCatL K) (r2 := rCatA K) op_catL op_catA)) (pe_op (op_or2 (r1 := rI0 fun i j => .int (i + j)) (r2 := rOr (rCatL K) (rCatA K)) op_add (op_or2 (r1 := rCatL K) (r2 := rCatA K) op_catL op_catA)) (pv 3) pe_int) (pe_call (ok_take T) (hr.mono (by decide)) (by rfl) T.g_take T.F_take.kp (b_take T) .nil pass0 (pa_cons (pv 0) (pa_cons (pe_op op_sub (pe_op op_sub (pv 1) pe_int) (pv 3)) pa_nil)))) pa_nil))) pa_nil))))))) pss_nil)
      (pss_cons (ps_set (i := 4) sc_pairs.nd rfl (Or.inl rfl) (pe_lst pa_nil))
      (pss_cons (ps_for PassesOwn.never rfl (pi_range1 (by rfl) T.n_range (pa_cons (pe_op op_mul (pe_call (ok_take T) (hr.mono (by decide)) (by rfl) T.g_take T.F_take.kp (b_take T) .nil pass0 (pa_cons (pv 0) (pa_cons pe_int pa_nil))) (pe_callTy call_int (by rfl) T.n_int (by decide +kernel) (pa_cons (pe_cmpR op_gt (pv 1) pe_int (nomark _)) pa_nil))) pa_nil)) (pg_name (i := 5) sc_pairs.nd rfl (Or.inl rfl))
      (pss_cons (ps_set (i := 6) sc_pairs.nd rfl (Or.inl rfl) (pe_call (ok_take T) (hr.mono (by decide)) (by rfl) T.g_take T.F_take.kp (b_take T) .nil pass0 (pa_cons (pv 0) (pa_cons (pv 1) pa_nil))))
      (pss_one (ps_expr (pe_bm PySem.F.plainAttrs_list PySem.F.slot_list_append PySem.F.type_list_append mt_append (pv 4) (pa_cons (pe_tup (pa_cons (pv 6) (pa_cons (pe_op op_modN (pe_callTy call_int (by rfl) T.n_int (by decide +kernel) (pa_cons (pe_op (op_or2 (r1 := rI0 fun i j => .int (i + j)) (r2 := rOr (rCatL K) (rCatA K)) op_add (op_or2 (r1 := rCatL K) (r2 := rCatA K) op_catL op_catA)) (pe_op (op_or2 (r1 := rI0 fun i j => .int (i + j)) (r2 := rOr (rCatL K) (rCatA K)) op_add (op_or2 (r1 := rCatL K) (r2 := rCatA K) op_catL op_catA)) (pv 6) pe_int) (pe_call (ok_take T) (hr.mono (by decide)) (by rfl) T.g_take T.F_take.kp (b_take T) .nil pass0 (pa_cons (pv 0) (pa_cons (pe_op op_sub (pv 1) pe_int) pa_nil)))) pa_nil)) (pv 1)) pa_nil))) pa_nil))))))
      (pss_one (ps_ret (pv 4)))))), mir_body (N := N_pairs) h ?_⟩
  unfold m_pairs
  try dsimp only [L2.cxOf, L2.Cx.nox, L2.Cx.wish]
  walk_at "snd"
def m_wishes : MS :=
    (mSeq (mSet 3 (mCallP mTake (mCons (mVar 0) (mCons (mC (.int 3)) mNil))))
      (mSeq (mSet 4 (mOp mEqU (mCallP mTake (mCons (mVar 0) (mCons (mC (.int 6)) mNil))) (mC (.int 0))))
      (mSeq (mOwn 5 (mLst mNil))
      (mSeq (mFor (mItS (mCall 2 7 m_pairs (mCons (mVar 0) (mCons (mVar 1) mNil)))) (mGtup 2 (mGcons (mGn 6) (mGcons (mGn 7) mGnil)))
      (mSeq (mSet 8 (mOp mIx (mFz (mLst (mCons (mVar 6) (mCons (mCB mMin2 (mCons (mVarW 6) (mCons (mVarW 7) mNil))) (mCons (mCB mMax2 (mCons (mVarW 6) (mCons (mVarW 7) mNil))) mNil))))) (mVarW 3)))
      (mSeq (mSet 9 (mOp mSub (mOp mAddU (mVarW 6) (mVarW 7)) (mVarW 8)))
      (mSeq (mSet 10 (mFz (mSlL (mCall 3 6 m_ways (mCons (mVar 2) (mCons (mVar 1) (mCons (mOp mLt (mVarW 8) (mVarW 9)) mNil)))) (mPart (mCB mMin2 (mCons (mVarW 6) (mCons (mVarW 7) mNil)))) (mPart (mCB mMax2 (mCons (mVarW 6) (mCons (mVarW 7) mNil)))))))
      (mSeq (mSet 11 (mCB mSum (mCons (mFz (mLc (mItS (mVarW 10)) (mGn 12) mYes (mOp mIx (mVarW 12) (mC (.int 0))) [12])) mNil)))
      (mSeq (mSet 13 (mCB mSum (mCons (mFz (mLc (mItS (mVarW 10)) (mGn 12) mYes (mOp mIx (mVarW 12) (mC (.int 1))) [12])) mNil)))
      (mSeq (mSet 14 (mOp mAddU (mVarW 11) (mCallP mTake (mCons (mVar 0) (mCons (mOp mAddU (mC (.int 1)) (mCallP mTake (mCons (mVar 0) (mCons (mOp mAddU (mOp mSub (mVarW 13) (mVarW 11)) (mC (.int 2))) mNil)))) mNil)))))
      (mSeq (mIfS (mAnd (mB (mVarW 4)) (mB (mOp mEqU (mCallP mTake (mCons (mVar 0) (mCons (mC (.int 2)) mNil))) (mC (.int 0))))) (mSet 14 (mOp mSub (mVarW 11) (mC (.int 1)))) mNext)
      (mApp 5 (mTup (mCons (mVar 8) (mCons (mVar 9) (mCons (mVar 14) mNil)))))))))))))
      (mFrz 5 (mRet (mVar 5)))))))
theorem om_wishes (T : Txt K mg A) : FnOk P w K mg base CX0 5 A.f_wishes A.d_wishes ["_law_pen_here", "_law_size", "_law_wires"] (spM K 3 15 m_wishes) := by
  refine T.F_wishes.ok sc_wishes (fun vs H Q E h => spM_len h rfl) (fun cdv A' outer s H vs Q E hr h => ?_)
  refine ⟨_, (pss_cons (ps_set (i := 3) sc_wishes.nd rfl (Or.inl rfl) (pe_call (ok_take T) (hr.mono (by decide)) (by rfl) T.g_take T.F_take.kp (b_take T) .nil pass0 (pa_cons (pv 0) (pa_cons pe_int pa_nil))))
      (pss_cons (ps_set (i := 4) sc_wishes.nd rfl (Or.inl rfl) (pe_cmpR (op_or2 (r1 := rEq) (r2 := rEqD K) op_eq (op_eqD hr.units)) (pe_call (ok_take T) (hr.mono (by decide)) (by rfl) T.g_take T.F_take.kp (b_take T) .nil pass0 (pa_cons (pv 0) (pa_cons pe_int pa_nil))) pe_int (nomark _)))
      (pss_cons (ps_set (i := 5) sc_wishes.nd rfl (Or.inl rfl) (pe_lst pa_nil))
      (pss_cons (ps_for PassesOwn.never rfl (pi_seqK (K := K) rfl (pe_call (om_pairs T) (hr.mono (by decide)) (by rfl) T.g_pairs T.F_pairs.kp (b_pairs T) .nil pass0 (pa_cons (pv 0) (pa_cons (pv 1) pa_nil)))) (pg_tup rfl (pgs_cons (pg_name (i := 6) sc_wishes.nd rfl (Or.inl rfl)) (pgs_cons (pg_name (i := 7) sc_wishes.nd rfl (Or.inl rfl)) pgs_nil)))
      (pss_cons (ps_set (i := 8) sc_wishes.nd rfl (Or.inl rfl) (pe_ix (r := rIx K) ix_seq (pe_lst (pa_cons (pv 6) (pa_cons (pe_callB (call_mn2 rfl) (by rfl) T.n_min (by decide +kernel) (pa_cons (pv 6) (pa_cons (pv 7) pa_nil))) (pa_cons (pe_callB (call_mx2 rfl) (by rfl) T.n_max (by decide +kernel) (pa_cons (pv 6) (pa_cons (pv 7) pa_nil))) pa_nil)))) (pv 3) (fun _ _ => rfl)))
      (pss_cons (ps_set (i := 9) sc_wishes.nd rfl (Or.inl rfl) (pe_op op_sub (pe_op (op_or2 (r1 := rI0 fun i j => .int (i + j)) (r2 := rOr (rCatL K) (rCatA K)) op_add (op_or2 (r1 := rCatL K) (r2 := rCatA K) op_catL op_catA)) (pv 6) (pv 7)) (pv 8)))
      (pss_cons (ps_set (i := 10) sc_wishes.nd rfl (Or.inl rfl) (pe_slice sl_list (pe_call (om_ways T) (hr.mono (by decide)) (by rfl) T.g_ways T.F_ways.kp (b_ways T) .nil pass0 (pa_cons (pv 2) (pa_cons (pv 1) (pa_cons (pe_cmpR op_lt (pv 8) (pv 9) (nomark _)) pa_nil)))) (po_some (pe_callB (call_mn2 rfl) (by rfl) T.n_min (by decide +kernel) (pa_cons (pv 6) (pa_cons (pv 7) pa_nil)))) (po_some (pe_callB (call_mx2 rfl) (by rfl) T.n_max (by decide +kernel) (pa_cons (pv 6) (pa_cons (pv 7) pa_nil))))))
      (pss_cons (ps_set (i := 11) sc_wishes.nd rfl (Or.inl rfl) (pe_callB (r := rSum K) (cr_sum rfl) (by rfl) T.n_sum (by decide +kernel) (pa_cons (pe_lc (own := [("_law_pair", 12)]) (g := gName 12) (tt := tYes) (by rfl) sc_wishes.nd (pi_seqK (K := K) rfl (pv 10)) (blkOk_by (N := N_wishes) (sc := defScope s_wishes) (by decide +kernel)) (fun _ _ _ _ _ => (pg_name (i := 12) sc_wishes.nd rfl (Or.inl rfl))) (fun _ _ _ _ _ => pts_nil) (fun _ _ _ _ _ => (pe_ix (r := rIx K) ix_seq (pv 12) pe_int (fun _ _ => rfl)))) pa_nil)))
      (pss_cons (ps_set (i := 13) sc_wishes.nd rfl (Or.inl rfl) (pe_callB (r := rSum K) (cr_sum rfl) (by rfl) T.n_sum (by decide +kernel) (pa_cons (pe_lc (own := [("_law_pair", 12)]) (g := gName 12) (tt := tYes) (by rfl) sc_wishes.nd (pi_seqK (K := K) rfl (pv 10)) (blkOk_by (N := N_wishes) (sc := defScope s_wishes) (by decide +kernel)) (fun _ _ _ _ _ => (pg_name (i := 12) sc_wishes.nd rfl (Or.inl rfl))) (fun _ _ _ _ _ => pts_nil) (fun _ _ _ _ _ => (pe_ix (r := rIx K) ix_seq (pv 12) pe_int (fun _ _ => rfl)))) pa_nil)))
      (pss_cons (ps_set (i := 14) sc_wishes.nd rfl (Or.inl rfl) (pe_op (op_or2 (r1 := rI0 fun i j => .int (i + j)) (r2 := rOr (rCatL K) (rCatA K)) op_add (op_or2 (r1 := rCatL K) (r2 := rCatA K) op_catL op_catA)) (pv 11) (pe_call (ok_take T) (hr.mono (by decide)) (by rfl) T.g_take T.F_take.kp (b_take T) .nil pass0 (pa_cons (pv 0) (pa_cons (pe_op (op_or2 (r1 := rI0 fun i j => .int (i + j)) (r2 := rOr (rCatL K) (rCatA K)) op_add (op_or2 (r1 := rCatL K) (r2 := rCatA K) op_catL op_catA)) pe_int (pe_call (ok_take T) (hr.mono (by decide)) (by rfl) T.g_take T.F_take.kp (b_take T) .nil pass0 (pa_cons (pv 0) (pa_cons (pe_op (op_or2 (r1 := rI0 fun i j => .int (i + j)) (r2 := rOr (rCatL K) (rCatA K)) op_add (op_or2 (r1 := rCatL K) (r2 := rCatA K) op_catL op_catA)) (pe_op op_sub (pv 13) (pv 11)) pe_int) pa_nil)))) pa_nil)))))
      (pss_cons (ps_if (PW.pt (pw_and (pt_val (pv 4)) (pw_and1 (pt_cmpR (op_or2 (r1 := rEq) (r2 := rEqD K) op_eq (op_eqD hr.units)) (pe_call (ok_take T) (hr.mono (by decide)) (by rfl) T.g_take T.F_take.kp (b_take T) .nil pass0 (pa_cons (pv 0) (pa_cons pe_int pa_nil))) pe_int (nomark _))))) (pss_one (ps_set (i := 14) sc_wishes.nd rfl (Or.inl rfl) (pe_op op_sub (pv 11) pe_int))) pss_nil)
      (pss_one (ps_expr (pe_bm PySem.F.plainAttrs_list PySem.F.slot_list_append PySem.F.type_list_append mt_append (pv 5) (pa_cons (pe_tup (pa_cons (pv 8) (pa_cons (pv 9) (pa_cons (pv 14) pa_nil)))) pa_nil))))))))))))
      (pss_one (ps_ret (pv 5))))))), mir_body (N := N_wishes) h ?_⟩
  unfold m_wishes
  try dsimp only [L2.cxOf, L2.Cx.nox, L2.Cx.wish]
  walk_at "snd"
def m_is_met : MS :=
    (mSeq (mFor (mItS (mVar 0)) (mGtup 3 (mGcons (mGn 2) (mGcons (mGn 3) (mGcons (mGn 4) mGnil))))
      (mIfS (mB (mOp mGt (mCB mSum (mCons (mFz (mSlL (mVarW 1) (mPart (mVarW 2)) (mPart (mVarW 3)))) mNil)) (mVarW 4))) (mRet (mC (.bl false))) mNext))
      (mRet (mC (.bl true))))
theorem om_is_met (T : Txt K mg A) : FnOk P w K mg base CX0 3 A.f_is_met A.d_is_met ["_law_spans_here", "_law_hours"] (spM K 2 5 m_is_met) := by
  refine T.F_is_met.ok sc_is_met (fun vs H Q E h => spM_len h rfl) (fun cdv A' outer s H vs Q E hr h => ?_)
  refine ⟨_, (pss_cons (ps_for PassesOwn.never rfl (pi_seqK (K := K) rfl (pv 0)) (pg_tup rfl (pgs_cons (pg_name (i := 2) sc_is_met.nd rfl (Or.inl rfl)) (pgs_cons (pg_name (i := 3) sc_is_met.nd rfl (Or.inl rfl)) (pgs_cons (pg_name (i := 4) sc_is_met.nd rfl (Or.inl rfl)) pgs_nil))))
      (pss_one (ps_if (pt_cmpR op_gt (pe_callB (r := rSum K) (cr_sum rfl) (by rfl) T.n_sum (by decide +kernel) (pa_cons (pe_slice sl_list (pv 1) (po_some (pv 2)) (po_some (pv 3))) pa_nil)) (pv 4) (nomark _)) (pss_one (ps_ret pe_bl)) pss_nil)))
      (pss_one (ps_ret pe_bl))), mir_body (N := N_is_met) h ?_⟩
  unfold m_is_met
  try dsimp only [L2.cxOf, L2.Cx.nox, L2.Cx.wish]
  walk_at "snd"
def m_least : MS :=
    (mSeq (mOwn 2 (mLst mNil))
      (mSeq (mFor (mRg1 (mCons (mCB mLen (mCons (mVarW 0) mNil)) mNil)) (mGn 3)
      (mIfS (mB (mOp mGt (mCB mLen (mCons (mFz (mLc (mItS (mVarW 1)) (mGn 4) (mB (mChain mLe mLt (mOp mIx (mVarW 4) (mC (.int 0))) (mVarW 3) (mOp mIx (mVarW 4) (mC (.int 1))))) (mVar 4) [4])) mNil)) (mC (.int 0)))) (mApp 2 (mOp mAddU (mOp mSub (mOp mIx (mOp mIx (mVarW 0) (mVarW 3)) (mC (.int 1))) (mOp mIx (mOp mIx (mVarW 0) (mVarW 3)) (mC (.int 0)))) (mC (.int 1)))) (mApp 2 (mC (.int 1)))))
      (mSeq (mSet 5 (mC (.int 1)))
      (mSeq (mFrz 2 (mFor (mItS (mVar 2)) (mGn 6)
      (mSet 5 (mOp mMul (mVarW 5) (mVarW 6)))))
      (mSeq (mSet 7 (mCB mSum (mCons (mFz (mLc (mItS (mVarW 0)) (mGn 8) mYes (mOp mIx (mVarW 8) (mC (.int 1))) [8])) mNil)))
      (mSeq (mSet 9 (mC .non))
      (mSeq (mFor (mRg1 (mCons (mVarW 5) mNil)) (mGn 10)
      (mSeq (mSet 11 (mVar 10))
      (mSeq (mOwn 12 (mLst mNil))
      (mSeq (mFor (mRg1 (mCons (mCB mLen (mCons (mVarW 0) mNil)) mNil)) (mGn 3)
      (mSeq (mApp 12 (mOp mSub (mOp mIx (mOp mIx (mVarW 0) (mVarW 3)) (mC (.int 1))) (mOp mMod (mCB mIntOf (mCons (mVarW 11) mNil)) (mOp mIx (mVarW 2) (mVarW 3)))))
      (mSet 11 (mOp mFdiv (mCB mIntOf (mCons (mVarW 11) mNil)) (mOp mIx (mVarW 2) (mVarW 3))))))
      (mSeq (mSet 13 (mOp mSub (mVarW 7) (mCB mSum (mCons (mVarW 12) mNil))))
      (mFrz 12 (mIfS (mAnd (mOr (mB (mOp mIsN (mVarW 9) (mC .non))) (mB (mOp mLt (mVarW 13) (mVarW 9)))) (mB (mCall 2 5 m_is_met (mCons (mVar 1) (mCons (mVar 12) mNil))))) (mSet 9 (mVar 13)) mNext)))))))
      (mRet (mVar 9)))))))))
theorem om_least (T : Txt K mg A) : FnOk P w K mg base CX0 5 A.f_least A.d_least ["_law_ways_here", "_law_spans_here"] (spM K 2 14 m_least) := by
  refine T.F_least.ok sc_least (fun vs H Q E h => spM_len h rfl) (fun cdv A' outer s H vs Q E hr h => ?_)
  refine ⟨_, (pss_cons (ps_set (i := 2) sc_least.nd rfl (Or.inl rfl) (pe_lst pa_nil))
      (pss_cons (ps_for PassesOwn.never rfl (pi_range1 (by rfl) T.n_range (pa_cons (pe_callB (r := rLenS K) call_lenS (by rfl) T.n_len PySem.boot_len (pa_cons (pv 0) pa_nil)) pa_nil)) (pg_name (i := 3) sc_least.nd rfl (Or.inr rfl))
      (pss_one (ps_if (pt_cmpR op_gt (pe_callB (r := rLenS K) call_lenS (by rfl) T.n_len PySem.boot_len (pa_cons (pe_lc (own := [("_law_span", 4)]) (g := gName 4) (by rfl) sc_least.nd (pi_seqK (K := K) rfl (pv 1)) (blkOk_by (N := N_least) (sc := defScope s_least) (by decide +kernel)) (fun _ _ _ _ _ => (pg_name (i := 4) sc_least.nd rfl (Or.inl rfl))) (fun _ _ _ _ _ => (pts_one (pt_chain op_le op_lt (pe_ix (r := rIx K) ix_seq (pv 4) pe_int (fun _ _ => rfl)) (pv 3) (pe_ix (r := rIx K) ix_seq (pv 4) pe_int (fun _ _ => rfl))))) (fun _ _ _ _ _ => (pv 4))) pa_nil)) pe_int (nomark _)) (pss_one (ps_expr (pe_bm PySem.F.plainAttrs_list PySem.F.slot_list_append PySem.F.type_list_append mt_append (pv 2) (pa_cons (pe_op (op_or2 (r1 := rI0 fun i j => .int (i + j)) (r2 := rOr (rCatL K) (rCatA K)) op_add (op_or2 (r1 := rCatL K) (r2 := rCatA K) op_catL op_catA)) (pe_op op_sub (pe_ix (r := rIx K) ix_seq (pe_ix (r := rIx K) ix_seq (pv 0) (pv 3) (fun _ _ => rfl)) pe_int (fun _ _ => rfl)) (pe_ix (r := rIx K) ix_seq (pe_ix (r := rIx K) ix_seq (pv 0) (pv 3) (fun _ _ => rfl)) pe_int (fun _ _ => rfl))) pe_int) pa_nil)))) (pss_one (ps_expr (pe_bm PySem.F.plainAttrs_list PySem.F.slot_list_append PySem.F.type_list_append mt_append (pv 2) (pa_cons pe_int pa_nil)))))))
      (pss_cons (ps_set (i := 5) sc_least.nd rfl (Or.inl rfl) pe_int)
      (pss_cons (ps_for PassesOwn.never rfl (pi_seqK (K := K) rfl (pv 2)) (pg_name (i := 6) sc_least.nd rfl (Or.inl rfl))
      (pss_one (ps_set (i := 5) sc_least.nd rfl (Or.inl rfl) (pe_op op_mul (pv 5) (pv 6)))))
      (pss_cons (ps_set (i := 7) sc_least.nd rfl (Or.inl rfl) (pe_callB (r := rSum K) (cr_sum rfl) (by rfl) T.n_sum (by decide +kernel) (pa_cons (pe_lc (own := [("_law_pair", 8)]) (g := gName 8) (tt := tYes) (by rfl) sc_least.nd (pi_seqK (K := K) rfl (pv 0)) (blkOk_by (N := N_least) (sc := defScope s_least) (by decide +kernel)) (fun _ _ _ _ _ => (pg_name (i := 8) sc_least.nd rfl (Or.inl rfl))) (fun _ _ _ _ _ => pts_nil) (fun _ _ _ _ _ => (pe_ix (r := rIx K) ix_seq (pv 8) pe_int (fun _ _ => rfl)))) pa_nil)))
      (pss_cons (ps_set (i := 9) sc_least.nd rfl (Or.inl rfl) pe_non)
      (pss_cons (ps_for PassesOwn.never rfl (pi_range1 (by rfl) T.n_range (pa_cons (pv 5) pa_nil)) (pg_name (i := 10) sc_least.nd rfl (Or.inl rfl))
      (pss_cons (ps_set (i := 11) sc_least.nd rfl (Or.inl rfl) (pv 10))
      (pss_cons (ps_set (i := 12) sc_least.nd rfl (Or.inl rfl) (pe_lst pa_nil))
      (pss_cons (ps_for PassesOwn.never rfl (pi_range1 (by rfl) T.n_range (pa_cons (pe_callB (r := rLenS K) call_lenS (by rfl) T.n_len PySem.boot_len (pa_cons (pv 0) pa_nil)) pa_nil)) (pg_name (i := 3) sc_least.nd rfl (Or.inr rfl))
      (pss_cons (ps_expr (pe_bm PySem.F.plainAttrs_list PySem.F.slot_list_append PySem.F.type_list_append mt_append (pv 12) (pa_cons (pe_op op_sub (pe_ix (r := rIx K) ix_seq (pe_ix (r := rIx K) ix_seq (pv 0) (pv 3) (fun _ _ => rfl)) pe_int (fun _ _ => rfl)) (pe_op op_modN (pe_callTy call_int (by rfl) T.n_int (by decide +kernel) (pa_cons (pv 11) pa_nil)) (pe_ix (r := rIx K) ix_seq (pv 2) (pv 3) (fun _ _ => rfl)))) pa_nil)))
      (pss_one (ps_set (i := 11) sc_least.nd rfl (Or.inl rfl) (pe_op op_fdiv (pe_callTy call_int (by rfl) T.n_int (by decide +kernel) (pa_cons (pv 11) pa_nil)) (pe_ix (r := rIx K) ix_seq (pv 2) (pv 3) (fun _ _ => rfl)))))))
      (pss_cons (ps_set (i := 13) sc_least.nd rfl (Or.inl rfl) (pe_op op_sub (pv 7) (pe_callB (r := rSum K) (cr_sum rfl) (by rfl) T.n_sum (by decide +kernel) (pa_cons (pv 12) pa_nil))))
      (pss_one (ps_if (PW.pt (pw_and (PW.pt (pw_or (pt_cmpR op_isN (pv 9) pe_non (nomark _)) (pw_or1 (pt_cmpR op_lt (pv 13) (pv 9) (nomark _))))) (pw_and1 (pt_val (pe_call (om_is_met T) (hr.mono (by decide)) (by rfl) T.g_is_met T.F_is_met.kp (b_is_met T) .nil pass0 (pa_cons (pv 1) (pa_cons (pv 12) pa_nil))))))) (pss_one (ps_set (i := 9) sc_least.nd rfl (Or.inl rfl) (pv 13))) pss_nil)))))))
      (pss_one (ps_ret (pv 9)))))))))), mir_body (N := N_least) h ?_⟩
  unfold m_least
  try dsimp only [L2.cxOf, L2.Cx.nox, L2.Cx.wish]
  walk_at "snd"
def m_with : MS :=
    (mSeq (mOwn 2 (mLst mNil))
      (mSeq (mFor (mItS (mVar 0)) (mGn 3)
      (mSeq (mSet 4 (mFz (mLc (mItS (mVarW 1)) (mGn 5) (mAnd (mB (mOp mEqU (mOp mIx (mVarW 5) (mC (.int 0))) (mOp mIx (mVarW 3) (mC (.int 0))))) (mB (mOp mEqU (mOp mIx (mVarW 5) (mC (.int 1))) (mOp mIx (mVarW 3) (mC (.int 1)))))) (mVar 5) [5])))
      (mIfS (mB (mOp mEqU (mCB mLen (mCons (mVarW 4) mNil)) (mC (.int 0)))) (mApp 2 (mVar 3)) (mIfS (mOr (mB (mOp mIsN (mOp mIx (mVarW 3) (mC (.int 3))) (mC .non))) (mOr (mB (mOp mGt (mCB mLen (mCons (mVarW 4) mNil)) (mC (.int 1)))) (mNot (mB (mChain mLe mLt (mOp mIx (mVarW 3) (mC (.int 2))) (mOp mIx (mOp mIx (mVarW 4) (mC (.int 0))) (mC (.int 2))) (mOp mIx (mVarW 3) (mC (.int 3)))))))) (mRet (mC .non)) (mApp 2 (mTup (mCons (mOp mIx (mVarW 3) (mC (.int 0))) (mCons (mOp mIx (mVarW 3) (mC (.int 1))) (mCons (mOp mIx (mVarW 3) (mC (.int 2))) (mCons (mOp mIx (mOp mIx (mVarW 4) (mC (.int 0))) (mC (.int 2))) mNil))))))))))
      (mFrz 2 (mRet (mVar 2)))))
theorem om_with (T : Txt K mg A) : FnOk P w K mg base CX0 3 A.f_with A.d_with ["_law_wires", "_law_highs"] (spM K 2 6 m_with) := by
  refine T.F_with.ok sc_with (fun vs H Q E h => spM_len h rfl) (fun cdv A' outer s H vs Q E hr h => ?_)
  refine ⟨_, (pss_cons (ps_set (i := 2) sc_with.nd rfl (Or.inl rfl) (pe_lst pa_nil))
      (pss_cons (ps_for PassesOwn.never rfl (pi_seqK (K := K) rfl (pv 0)) (pg_name (i := 3) sc_with.nd rfl (Or.inr rfl))
      (pss_cons (ps_setLc (i := 4) (own := [("_law_entry", 5)]) (g := gName 5) (by rfl) sc_with.nd rfl rfl (sw_true rfl rfl rfl (by decide +kernel)) (pi_seqK (K := K) rfl (pv 1)) (blkOk_by (N := N_with) (sc := defScope s_with) (by decide +kernel)) (fun _ _ _ _ _ => (pg_name (i := 5) sc_with.nd rfl (Or.inl rfl))) (fun _ _ _ _ _ => (pts_one (PW.pt (pw_and (pt_cmpR (op_or2 (r1 := rEq) (r2 := rEqD K) op_eq (op_eqD hr.units)) (pe_ix (r := rIx K) ix_seq (pv 5) pe_int (fun _ _ => rfl)) (pe_ix (r := rIx K) ix_seq (pv 3) pe_int (fun _ _ => rfl)) (nomark _)) (pw_and1 (pt_cmpR (op_or2 (r1 := rEq) (r2 := rEqD K) op_eq (op_eqD hr.units)) (pe_ix (r := rIx K) ix_seq (pv 5) pe_int (fun _ _ => rfl)) (pe_ix (r := rIx K) ix_seq (pv 3) pe_int (fun _ _ => rfl)) (nomark _))))))) (fun _ _ _ _ _ => (pv 5)))
      (pss_one (ps_if (pt_cmpR (op_or2 (r1 := rEq) (r2 := rEqD K) op_eq (op_eqD hr.units)) (pe_callB (r := rLenS K) call_lenS (by rfl) T.n_len PySem.boot_len (pa_cons (pv 4) pa_nil)) pe_int (nomark _)) (pss_one (ps_expr (pe_bm PySem.F.plainAttrs_list PySem.F.slot_list_append PySem.F.type_list_append mt_append (pv 2) (pa_cons (pv 3) pa_nil)))) (pss_one (ps_if (PW.pt (pw_or (pt_cmpR op_isN (pe_ix (r := rIx K) ix_seq (pv 3) pe_int (fun _ _ => rfl)) pe_non (nomark _)) (pw_or (pt_cmpR op_gt (pe_callB (r := rLenS K) call_lenS (by rfl) T.n_len PySem.boot_len (pa_cons (pv 4) pa_nil)) pe_int (nomark _)) (pw_or1 (pt_not (pt_chain op_le op_lt (pe_ix (r := rIx K) ix_seq (pv 3) pe_int (fun _ _ => rfl)) (pe_ix (r := rIx K) ix_seq (pe_ix (r := rIx K) ix_seq (pv 4) pe_int (fun _ _ => rfl)) pe_int (fun _ _ => rfl)) (pe_ix (r := rIx K) ix_seq (pv 3) pe_int (fun _ _ => rfl)))))))) (pss_one (ps_ret pe_non)) (pss_one (ps_expr (pe_bm PySem.F.plainAttrs_list PySem.F.slot_list_append PySem.F.type_list_append mt_append (pv 2) (pa_cons (pe_tup (pa_cons (pe_ix (r := rIx K) ix_seq (pv 3) pe_int (fun _ _ => rfl)) (pa_cons (pe_ix (r := rIx K) ix_seq (pv 3) pe_int (fun _ _ => rfl)) (pa_cons (pe_ix (r := rIx K) ix_seq (pv 3) pe_int (fun _ _ => rfl)) (pa_cons (pe_ix (r := rIx K) ix_seq (pe_ix (r := rIx K) ix_seq (pv 4) pe_int (fun _ _ => rfl)) pe_int (fun _ _ => rfl)) pa_nil))))) pa_nil))))))))))
      (pss_one (ps_ret (pv 2))))), mir_body (N := N_with) h ?_⟩
  unfold m_with
  try dsimp only [L2.cxOf, L2.Cx.nox, L2.Cx.wish]
  walk_at "snd"
def m_is_answer : MS :=
    (mSeq (mIfS (mOr (mNot (mB (mIsi "tuple" (mVarW 3)))) (mOr (mB (mOp mNeU (mCB mLen (mCons (mVarW 3) mNil)) (mC (.int 3)))) (mOr (mNot (mB (mCall 1 1 m_is_int (mCons (mOp mIx (mVarW 3) (mC (.int 0))) mNil)))) (mB (mOp mNeU (mOp mIx (mVarW 3) (mC (.int 0))) (mVarW 4)))))) (mRet (mC (.bl false))) mNext)
      (mSeq (mIfS (mNot (mB (mIsi "list" (mOp mIx (mVarW 3) (mC (.int 1)))))) (mRet (mC (.bl false))) mNext)
      (mSeq (mFor (mItS (mOp mIx (mVarW 3) (mC (.int 1)))) (mGn 5)
      (mSeq (mIfS (mOr (mNot (mB (mIsi "tuple" (mVarW 5)))) (mB (mOp mNeU (mCB mLen (mCons (mVarW 5) mNil)) (mC (.int 3))))) (mRet (mC (.bl false))) mNext)
      (mSeq (mIfS (mOr (mNot (mB (mCall 1 1 m_is_int (mCons (mOp mIx (mVarW 5) (mC (.int 0))) mNil)))) (mOr (mNot (mB (mCall 1 1 m_is_int (mCons (mOp mIx (mVarW 5) (mC (.int 1))) mNil)))) (mNot (mB (mCall 1 1 m_is_int (mCons (mOp mIx (mVarW 5) (mC (.int 2))) mNil)))))) (mRet (mC (.bl false))) mNext)
      (mIfS (mB (mOp (mOr2 (mIn true) (mInD true)) (mTup (mCons (mOp mIx (mVarW 5) (mC (.int 0))) (mCons (mOp mIx (mVarW 5) (mC (.int 1))) mNil))) (mFz (mLc (mItS (mVarW 1)) (mGn 6) mYes (mTup (mCons (mOp mIx (mVarW 6) (mC (.int 0))) (mCons (mOp mIx (mVarW 6) (mC (.int 1))) mNil))) [6])))) (mRet (mC (.bl false))) mNext))))
      (mSeq (mSet 7 (mCall 2 6 m_with (mCons (mVar 1) (mCons (mOp mIx (mVarW 3) (mC (.int 1))) mNil))))
      (mSeq (mIfS (mB (mOp mIsN (mVarW 7) (mC .non))) (mRet (mC (.bl false))) mNext)
      (mSeq (mFor (mItS (mFz (mLst (mCons (mC (.bl true)) (mCons (mC (.bl false)) mNil))))) (mGn 8)
      (mIfS (mNot (mB (mCall 2 5 m_is_met (mCons (mCall 2 3 m_spans (mCons (mVar 2) (mCons (mVar 8) mNil))) (mCons (mFz (mLc (mItS (mCall 3 6 m_ways (mCons (mVar 7) (mCons (mVar 0) (mCons (mVar 8) mNil))))) (mGn 9) mYes (mOp mIx (mVarW 9) (mC (.int 1))) [9])) mNil))))) (mRet (mC (.bl false))) mNext))
      (mSeq (mSet 10 (mCB mSum (mCons (mFz (mLc (mItS (mVarW 1)) (mGn 6) (mB (mOp mNotN (mOp mIx (mVarW 6) (mC (.int 3))) (mC .non))) (mOp mIx (mVarW 6) (mC (.int 3))) [6])) mNil)))
      (mRet (mOp mEqU (mOp mSub (mVarW 10) (mCB mSum (mCons (mFz (mLc (mItS (mVarW 7)) (mGn 6) (mB (mOp mNotN (mOp mIx (mVarW 6) (mC (.int 3))) (mC .non))) (mOp mIx (mVarW 6) (mC (.int 3))) [6])) mNil))) (mVarW 4))))))))))
theorem om_is_answer (T : Txt K mg A) : FnOk P w K mg base CX0 5 A.f_is_answer A.d_is_answer ["_law_size", "_law_wires", "_law_wishes_here", "_law_told", "_law_least_here"] (spM K 5 11 m_is_answer) := by
  refine T.F_is_answer.ok sc_is_answer (fun vs H Q E h => spM_len h rfl) (fun cdv A' outer s H vs Q E hr h => ?_)
  refine ⟨_, (pss_cons (ps_if (PW.pt (pw_or (pt_not (pt_val (pe_callB (r := rIsi K) call_isi (by rfl) T.n_isinstance (by decide +kernel) (pa_cons (pv 3) (pa_cons (pe_bltn (v := .ty "tuple") (by rfl) T.n_tuple (by decide +kernel) rfl) pa_nil))))) (pw_or (pt_cmpR (op_or2 (r1 := rNe) (r2 := rNeD K) op_ne (op_neD hr.units)) (pe_callB (r := rLenS K) call_lenS (by rfl) T.n_len PySem.boot_len (pa_cons (pv 3) pa_nil)) pe_int (nomark _)) (pw_or (pt_not (pt_val (pe_call (om_is_int T) (hr.mono (by decide)) (by rfl) T.g_is_int T.F_is_int.kp (b_is_int T) .nil pass0 (pa_cons (pe_ix (r := rIx K) ix_seq (pv 3) pe_int (fun _ _ => rfl)) pa_nil)))) (pw_or1 (pt_cmpR (op_or2 (r1 := rNe) (r2 := rNeD K) op_ne (op_neD hr.units)) (pe_ix (r := rIx K) ix_seq (pv 3) pe_int (fun _ _ => rfl)) (pv 4) (nomark _))))))) (pss_one (ps_ret pe_bl)) pss_nil)
      (pss_cons (ps_if (pt_not (pt_val (pe_callB (r := rIsi K) call_isi (by rfl) T.n_isinstance (by decide +kernel) (pa_cons (pe_ix (r := rIx K) ix_seq (pv 3) pe_int (fun _ _ => rfl)) (pa_cons (pe_bltn (v := .ty "list") (by rfl) T.n_list (by decide +kernel) rfl) pa_nil))))) (pss_one (ps_ret pe_bl)) pss_nil)
      (pss_cons (ps_for PassesOwn.never rfl (pi_seqK (K := K) rfl (pe_ix (r := rIx K) ix_seq (pv 3) pe_int (fun _ _ => rfl))) (pg_name (i := 5) sc_is_answer.nd rfl (Or.inl rfl))
      (pss_cons (ps_if (PW.pt (pw_or (pt_not (pt_val (pe_callB (r := rIsi K) call_isi (by rfl) T.n_isinstance (by decide +kernel) (pa_cons (pv 5) (pa_cons (pe_bltn (v := .ty "tuple") (by rfl) T.n_tuple (by decide +kernel) rfl) pa_nil))))) (pw_or1 (pt_cmpR (op_or2 (r1 := rNe) (r2 := rNeD K) op_ne (op_neD hr.units)) (pe_callB (r := rLenS K) call_lenS (by rfl) T.n_len PySem.boot_len (pa_cons (pv 5) pa_nil)) pe_int (nomark _))))) (pss_one (ps_ret pe_bl)) pss_nil)
      (pss_cons (ps_if (PW.pt (pw_or (pt_not (pt_val (pe_call (om_is_int T) (hr.mono (by decide)) (by rfl) T.g_is_int T.F_is_int.kp (b_is_int T) .nil pass0 (pa_cons (pe_ix (r := rIx K) ix_seq (pv 5) pe_int (fun _ _ => rfl)) pa_nil)))) (pw_or (pt_not (pt_val (pe_call (om_is_int T) (hr.mono (by decide)) (by rfl) T.g_is_int T.F_is_int.kp (b_is_int T) .nil pass0 (pa_cons (pe_ix (r := rIx K) ix_seq (pv 5) pe_int (fun _ _ => rfl)) pa_nil)))) (pw_or1 (pt_not (pt_val (pe_call (om_is_int T) (hr.mono (by decide)) (by rfl) T.g_is_int T.F_is_int.kp (b_is_int T) .nil pass0 (pa_cons (pe_ix (r := rIx K) ix_seq (pv 5) pe_int (fun _ _ => rfl)) pa_nil)))))))) (pss_one (ps_ret pe_bl)) pss_nil)
      (pss_one (ps_if (pt_cmpR (op_or2 (r1 := rIn K true) (r2 := rNotInD K) op_notIn_seq (op_notInD (units65 hr))) (pe_tup (pa_cons (pe_ix (r := rIx K) ix_seq (pv 5) pe_int (fun _ _ => rfl)) (pa_cons (pe_ix (r := rIx K) ix_seq (pv 5) pe_int (fun _ _ => rfl)) pa_nil))) (pe_lc (own := [("_law_row", 6)]) (g := gName 6) (tt := tYes) (by rfl) sc_is_answer.nd (pi_seqK (K := K) rfl (pv 1)) (blkOk_by (N := N_is_answer) (sc := defScope s_is_answer) (by decide +kernel)) (fun _ _ _ _ _ => (pg_name (i := 6) sc_is_answer.nd rfl (Or.inl rfl))) (fun _ _ _ _ _ => pts_nil) (fun _ _ _ _ _ => (pe_tup (pa_cons (pe_ix (r := rIx K) ix_seq (pv 6) pe_int (fun _ _ => rfl)) (pa_cons (pe_ix (r := rIx K) ix_seq (pv 6) pe_int (fun _ _ => rfl)) pa_nil))))) (by rfl)) (pss_one (ps_ret pe_bl)) pss_nil)))))
      (pss_cons (ps_set (i := 7) sc_is_answer.nd rfl (Or.inl rfl) (pe_call (om_with T) (hr.mono (by decide)) (by rfl) T.g_with T.F_with.kp (b_with T) .nil pass0 (pa_cons (pv 1) (pa_cons (pe_ix (r := rIx K) ix_seq (pv 3) pe_int (fun _ _ => rfl)) pa_nil))))
      (pss_cons (ps_if (pt_cmpR op_isN (pv 7) pe_non (nomark _)) (pss_one (ps_ret pe_bl)) pss_nil)
      (pss_cons (ps_for PassesOwn.never rfl (pi_seqK (K := K) rfl (pe_lst (pa_cons pe_bl (pa_cons pe_bl pa_nil)))) (pg_name (i := 8) sc_is_answer.nd rfl (Or.inl rfl))
      (pss_one (ps_if (pt_not (pt_val (pe_call (om_is_met T) (hr.mono (by decide)) (by rfl) T.g_is_met T.F_is_met.kp (b_is_met T) .nil pass0 (pa_cons (pe_call (om_spans T) (hr.mono (by decide)) (by rfl) T.g_spans T.F_spans.kp (b_spans T) .nil pass0 (pa_cons (pv 2) (pa_cons (pv 8) pa_nil))) (pa_cons (pe_lc (own := [("_law_pair", 9)]) (g := gName 9) (tt := tYes) (by rfl) sc_is_answer.nd (pi_seqK (K := K) rfl (pe_call (om_ways T) (hr.mono (by decide)) (by rfl) T.g_ways T.F_ways.kp (b_ways T) .nil pass0 (pa_cons (pv 7) (pa_cons (pv 0) (pa_cons (pv 8) pa_nil))))) (blkOk_by (N := N_is_answer) (sc := defScope s_is_answer) (by decide +kernel)) (fun _ _ _ _ _ => (pg_name (i := 9) sc_is_answer.nd rfl (Or.inl rfl))) (fun _ _ _ _ _ => pts_nil) (fun _ _ _ _ _ => (pe_ix (r := rIx K) ix_seq (pv 9) pe_int (fun _ _ => rfl)))) pa_nil))))) (pss_one (ps_ret pe_bl)) pss_nil)))
      (pss_cons (ps_set (i := 10) sc_is_answer.nd rfl (Or.inl rfl) (pe_callB (r := rSum K) (cr_sum rfl) (by rfl) T.n_sum (by decide +kernel) (pa_cons (pe_lc (own := [("_law_row", 6)]) (g := gName 6) (by rfl) sc_is_answer.nd (pi_seqK (K := K) rfl (pv 1)) (blkOk_by (N := N_is_answer) (sc := defScope s_is_answer) (by decide +kernel)) (fun _ _ _ _ _ => (pg_name (i := 6) sc_is_answer.nd rfl (Or.inl rfl))) (fun _ _ _ _ _ => (pts_one (pt_cmpR op_notN (pe_ix (r := rIx K) ix_seq (pv 6) pe_int (fun _ _ => rfl)) pe_non (nomark _)))) (fun _ _ _ _ _ => (pe_ix (r := rIx K) ix_seq (pv 6) pe_int (fun _ _ => rfl)))) pa_nil)))
      (pss_one (ps_ret (pe_cmpR (op_or2 (r1 := rEq) (r2 := rEqD K) op_eq (op_eqD hr.units)) (pe_op op_sub (pv 10) (pe_callB (r := rSum K) (cr_sum rfl) (by rfl) T.n_sum (by decide +kernel) (pa_cons (pe_lc (own := [("_law_row", 6)]) (g := gName 6) (by rfl) sc_is_answer.nd (pi_seqK (K := K) rfl (pv 7)) (blkOk_by (N := N_is_answer) (sc := defScope s_is_answer) (by decide +kernel)) (fun _ _ _ _ _ => (pg_name (i := 6) sc_is_answer.nd rfl (Or.inl rfl))) (fun _ _ _ _ _ => (pts_one (pt_cmpR op_notN (pe_ix (r := rIx K) ix_seq (pv 6) pe_int (fun _ _ => rfl)) pe_non (nomark _)))) (fun _ _ _ _ _ => (pe_ix (r := rIx K) ix_seq (pv 6) pe_int (fun _ _ => rfl)))) pa_nil))) (pv 4) (nomark _))))))))))), mir_body (N := N_is_answer) h ?_⟩
  unfold m_is_answer
  try dsimp only [L2.cxOf, L2.Cx.nox, L2.Cx.wish]
  walk_at "snd"
end
end
section
set_option maxRecDepth 100000
set_option maxHeartbeats 1000000
open PySem PySem.Spec PyProof.Rows L2 VX
local macro_rules | `(tactic| walk_at "cl") => `(tactic| exact Txt.cl_Line (by assumption))
local macro_rules | `(tactic| walk_at "na") => `(tactic| first | exact Txt.na_Line_size (by assumption) | exact Txt.na_Line__spans (by assumption) | exact Txt.na_Line__mosts (by assumption))
section
variable {w : World} {K : PySem.W.Frag} {mg : Str → Option Value} {base : Heap} {A : Adr}
def spIsInt : Sp := fun vs H Q _ => ∃ n : Int, vs = [.int n] ∧ Q (.bl true) H
theorem ok_is_int (T : Txt K mg A) : FnOk P w K mg base CX0 1 A.f_is_int A.d_is_int ["_law_value"] spIsInt := by
  refine T.F_is_int.ok sc_is_int (fun vs H Q E h => ?_) (fun cdv A' outer s H vs Q E hr h => ?_)
  · obtain ⟨n, rfl, _⟩ := h
    rfl
  · obtain ⟨n, rfl, q⟩ := h
    refine ⟨_, (pss_one (ps_ret (pe_and (pe_callB call_isi (by rfl) T.n_isinstance (by decide +kernel) (pa_cons (pv 0) (pa_cons (pe_bltn (v := .ty "int") (by rfl) T.n_int (by decide +kernel) rfl) pa_nil))) (pe_one (pe_not (pe_callB call_isi (by rfl) T.n_isinstance (by decide +kernel) (pa_cons (pv 0) (pa_cons (pe_bltn (v := .ty "bool") (by rfl) T.n_bool (by decide +kernel) rfl) pa_nil)))))))), ?_⟩
    refine i_start (σ' := [some (V.int n)]) rfl ?_
    have hn : Dp K H (.int n) (.int n) := .int n
    walk_at "vc"
    exact q
end
end
section
set_option maxRecDepth 100000
set_option maxHeartbeats 1000000
open PySem PySem.Spec PyProof.Rows L2 VX
local macro_rules | `(tactic| walk_at "cl") => `(tactic| exact Txt.cl_Line (by assumption))
local macro_rules | `(tactic| walk_at "na") => `(tactic| first | exact Txt.na_Line_size (by assumption) | exact Txt.na_Line__spans (by assumption) | exact Txt.na_Line__mosts (by assumption))
abbrev pen (c n r : Int) : HO := .lst [.int c, .int n, .int r]
/-- a wire within a line of n boxes, its hours at most m -/
structure WOk1 (n m : Int) (w : W4) : Prop where
  s0 : 0 ≤ w.s
  s1 : w.s < n
  t0 : 0 ≤ w.t
  t1 : w.t < n
  ne : w.s ≠ w.t
  l0 : 1 ≤ w.lo
  l1 : w.lo ≤ m
  h : ∀ h, w.hi = some h → w.lo ≤ h ∧ h ≤ m
structure WOk (n m : Int) (ws : List W4) : Prop where
  w : ∀ w ∈ ws, WOk1 n m w
  nd : (ws.map W4.k).Nodup
theorem WOk.nil {n m : Int} : WOk n m [] := ⟨fun _ h => (nomatch h), List.nodup_nil⟩
theorem WOk.snoc {n m : Int} {ws : List W4} {w : W4} (h : WOk n m ws) (h1 : WOk1 n m w) (hk : ∀ u ∈ ws, u.k ≠ w.k) : WOk n m (ws ++ [w]) := by
  refine ⟨fun u hu => ?_, ?_⟩
  · rcases List.mem_append.mp hu with hu | hu
    · exact h.w u hu
    · rw [List.mem_singleton] at hu
      subst hu
      exact h1
  · rw [List.map_append, List.nodup_append]
    refine ⟨h.nd, by simp, fun a ha b hb => ?_⟩
    obtain ⟨u, hu, rfl⟩ := List.mem_map.mp ha
    have : b = w.k := by simpa using hb
    rw [this]
    exact hk u hu
theorem k_ne {u w : W4} (h : u.s ≠ w.s ∨ u.t ≠ w.t) : u.k ≠ w.k := fun e => by
  have e : [u.s, u.t] = [w.s, w.t] := e
  simp at e
  omega
/-- a clock bound within a line of n boxes -/
structure BOk1 (n m : Int) (b : B3) : Prop where
  l0 : 0 ≤ b.l
  l1 : b.l < n
  e0 : 0 ≤ b.e
  e1 : b.e < n
  ne : b.l ≠ b.e
  m0 : 0 ≤ b.m
  m1 : b.m < m
structure BOk (n m : Int) (bs : List B3) : Prop where
  b : ∀ b ∈ bs, BOk1 n m b
  nd : (bs.map B3.k).Nodup
section
variable {w : World} {K : PySem.W.Frag} {mg : Str → Option Value} {base : Heap} {A : Adr}
/-- a draw by a pen among the cells that turn -/
theorem i_takeX {F H : Hp} {T : List (Addr × HO)} {Q : VK} {E : XK} {p : Addr} {c n r size : Int} (i : Nat) (x : Cxs F T H) (hi : T[i]? = some (p, pen c n r)) (h0 : 0 < size) (h1 : size < 1073741824)
    (q : ∀ d n' r' H', 0 ≤ d → d < size → Cxs F (T.set i (p, pen c n' r')) H' → Q (.int d) H') : spTake [.ref p, .int size] H Q E :=
  i_take (x.at i hi) h0 h1 fun d n' r' d0 d1 => q d n' r' _ d0 d1 (x.turn i hi _)
end
end
section
set_option maxRecDepth 100000
set_option maxHeartbeats 1000000
open PySem PySem.Spec PyProof.Rows L2 VX
local macro_rules | `(tactic| walk_at "cl") => `(tactic| exact Txt.cl_Line (by assumption))
local macro_rules | `(tactic| walk_at "na") => `(tactic| first | exact Txt.na_Line_size (by assumption) | exact Txt.na_Line__spans (by assumption) | exact Txt.na_Line__mosts (by assumption))
section
variable {w : World} {K : PySem.W.Frag} {mg : Str → Option Value} {base : Heap} {A : Adr}
/-! ### the errors -/
theorem ok_NoBox_init (T : Txt K mg A) : FnOk P w K mg base CX0 1 A.f_NoBox_init A.d_NoBox_init ["self", "box"] (spX1 K "box") := by
  refine T.F_NoBox_init.ok sc_NoBox_init (fun vs H Q E h => ?_) (fun cdv A' outer s H vs Q E hr h => ?_)
  · obtain ⟨a, C, v, rfl, _⟩ := h
    rfl
  · obtain ⟨a, C, v, rfl, ho, hn, ha, q⟩ := h
    refine ⟨_, pss_one (ps_ost (pv 0) (pv 1)), ?_⟩
    refine ⟨v, rfl, .ref a, rfl, a, C, rfl, ho, hn, .inl ⟨ha, fun dx n1 n2 => ?_⟩⟩
    exact q dx n1 n2
theorem ok_NoWire_init (T : Txt K mg A) : FnOk P w K mg base CX0 1 A.f_NoWire_init A.d_NoWire_init ["self", "source", "target"] (spX2 K "source" "target") := by
  refine T.F_NoWire_init.ok sc_NoWire_init (fun vs H Q E h => ?_) (fun cdv A' outer s H vs Q E hr h => ?_)
  · obtain ⟨a, C, v, u, rfl, _⟩ := h
    rfl
  · obtain ⟨a, C, v, u, rfl, ho, hn, hm, ha, q⟩ := h
    refine ⟨_, pss_cons (ps_ost (pv 0) (pv 1)) (pss_one (ps_ost (pv 0) (pv 2))), ?_⟩
    refine ⟨v, rfl, .ref a, rfl, a, C, rfl, ho, hn, .inl ⟨ha, fun dx n1 n2 => ?_⟩⟩
    refine ⟨u, rfl, .ref a, rfl, a, C, rfl, ho, hm, .inr ⟨dx, [("source", v)], upd_same, (upd_ne n2).trans upd_same, by show 1 ≤ 900; decide, ?_⟩⟩
    have e : upd (upd (upd H dx (exd dx [("source", v)])) a (exo a C (some dx))) dx (exd dx (("target", u) :: [("source", v)])) = upd (upd H dx (exd dx [("target", u), ("source", v)])) a (exo a C (some dx)) := by
      funext b
      by_cases h1 : b = dx
      · subst h1
        rw [upd_same, upd_ne n2, upd_same]
      · rw [upd_ne h1]
        by_cases h2 : b = a
        · subst h2
          rw [upd_same, upd_same]
        · rw [upd_ne h2, upd_ne h1, upd_ne h2, upd_ne h1]
    show Q .non (upd (upd (upd H dx (exd dx [("source", v)])) a (exo a C (some dx))) dx (exd dx (("target", u) :: [("source", v)])))
    rw [e]
    exact q dx _ n1 n2 rfl rfl
/-! ### check_box, is_span -/
/-- an object with this number as its size -/
def Sized (C : Addr) (H : Hp) (x : Addr) (n : Int) : Prop := ∃ dx fs, H x = some (.ins C dx fs) ∧ List.lookup ("size" : Str) fs = some (V.int n)
def spCheck (A : Adr) : Sp := fun vs H Q E => ∃ (x : Addr) (n b : Int), vs = [.ref x, .int b] ∧ Sized A.c_Line H x n ∧ (0 ≤ b → b < n → Q .non H) ∧ ((b < 0 ∨ n ≤ b) → ∀ d H', H d = none → Same H H' → H' d = some (.xd [("box", .int b)]) → E (.ref A.c_NoBox) (some d) H')
theorem ok_check_box (T : Txt K mg A) : FnOk P w K mg base (L2.CX P w) 3 A.f_check_box A.d_check_box ["line", "box"] (spCheck A) := by
  refine T.F_check_box.okX sc_check_box (fun vs H Q E h => ?_) (fun cdv A' outer s H vs Q E hr h => ?_)
  · obtain ⟨x, n, b, rfl, _⟩ := h
    rfl
  · obtain ⟨x, n, b, rfl, ⟨dx, fs, hx, hf⟩, q1, q2⟩ := h
    refine ⟨_, (pss_one (ps_if (pt_not (pt_chain op_le op_lt pe_int (pv 1) (pe_fld (pv 0) rfl))) (pss_one (ps_raise rfl (takes_of rfl rfl rfl rfl) (pmk1 T.oex_NoBox T.ini_NoBox T.tI_NoBox T.nb_NoBox_box (ok_NoBox_init T) (hr.mono (by decide)) (b_NoBox_init T) (by rfl) T.g_NoBox (pa_cons (pv 1) pa_nil)))) pss_nil)), ?_⟩
    refine i_start (σ' := [some (V.ref x), some (.int b)]) rfl ?_
    walk_at "vc"
    refine i_iteD (fun h0 => ?_) (fun h0 => ?_)
    · walk_at "vc"
      by_cases h1 : b < n
      · rw [decide_eq_true h1]
        walk_at "vc"
        exact q1 h0 h1
      · rw [decide_eq_false h1]
        walk_at "vc"
        exact q2 (by omega)
    · walk_at "vc"
      exact q2 (by omega)
def spSpan : Sp := fun vs H Q _ => ∃ (lo : Int) (hi : Option Int), vs = [.int lo, oV hi] ∧ 1 ≤ lo ∧ (∀ h, hi = some h → lo ≤ h) ∧ Q (.bl true) H
theorem ok_is_span (T : Txt K mg A) : FnOk P w K mg base CX0 1 A.f_is_span A.d_is_span ["low", "high"] spSpan := by
  refine T.F_is_span.ok sc_is_span (fun vs H Q E h => ?_) (fun cdv A' outer s H vs Q E hr h => ?_)
  · obtain ⟨lo, hi, rfl, _⟩ := h
    rfl
  · obtain ⟨lo, hi, rfl, h1, h2, q⟩ := h
    refine ⟨_, (pss_one (ps_ret (pe_and (pe_cmpR op_ge (pv 0) pe_int (nomark _)) (pe_one (pe_or (pe_cmpR op_isN (pv 1) pe_non (nomark _)) (pe_one (pe_cmpR op_ge (pv 1) (pv 0) (nomark _)))))))), ?_⟩
    cases hi with
    | none =>
      refine i_start (σ' := [some (V.int lo), some V.non]) rfl ?_
      walk_at "vc"
      refine i_iteDT h1 ?_
      walk_at "vc"
      exact q
    | some h =>
      have h2 := h2 h rfl
      refine i_start (σ' := [some (V.int lo), some (V.int h)]) rfl ?_
      walk_at "vc"
      refine i_iteDT h1 ?_
      walk_at "vc"
      rw [decide_eq_true (show h ≥ lo from h2)]
      exact q
end
end
section
set_option maxRecDepth 100000
set_option maxHeartbeats 1000000
open PySem PySem.Spec PyProof.Rows L2 VX
local macro_rules | `(tactic| walk_at "cl") => `(tactic| exact Txt.cl_Line (by assumption))
local macro_rules | `(tactic| walk_at "na") => `(tactic| first | exact Txt.na_Line_size (by assumption) | exact Txt.na_Line__spans (by assumption) | exact Txt.na_Line__mosts (by assumption))
/-- the value of a wire's entry: the pair (low, high) -/
def Pw (H : Hp) (v : V) (w : W4) : Prop := ∃ q, v = .ref q ∧ H q = some (.tup [.int w.lo, oV w.hi])
theorem Pw.mono : ∀ (H H' : Hp) (v : V) (w : W4), Same H H' → Pw H v w → Pw H' v w := fun _ _ _ _ e ⟨q, h1, h2⟩ => ⟨q, h1, e _ _ h2⟩
def Pb (_ : Hp) (v : V) (b : B3) : Prop := v = .int b.m
theorem Pb.mono : ∀ (H H' : Hp) (v : V) (b : B3), Same H H' → Pb H v b → Pb H' v b := fun _ _ _ _ _ h => h
theorem Sized.mono {C : Addr} {H H' : Hp} {x : Addr} {n : Int} (h : Sized C H x n) (e : Same H H') : Sized C H' x n := let ⟨dx, fs, h1, h2⟩ := h; ⟨dx, fs, e _ _ h1, h2⟩
theorem nd_take {α β : Type} {k : α → β} {rs : List α} (nd : (rs.map k).Nodup) {i : Nat} {r : α} (hr : rs[i]? = some r) : k r ∉ (rs.take i).map k := fun hm => by
  rw [List.map_take] at hm
  obtain ⟨l, hl⟩ := List.mem_iff_getElem?.mp hm
  rw [List.getElem?_take] at hl
  by_cases h : l < i
  · rw [if_pos h] at hl
    have hi : (rs.map k)[i]? = some (k r) := by rw [List.getElem?_map, hr]; rfl
    have := (List.getElem?_inj (List.getElem?_eq_some_iff.mp hl).1 nd).mp (hl.trans hi.symm)
    omega
  · rw [if_neg h] at hl
    cases hl
section
variable {w : World} {K : PySem.W.Frag} {mg : Str → Option Value} {base : Heap} {A : Adr}
theorem i_check {H : Hp} {Q : VK} {x : Addr} {n b : Int} (h : Sized A.c_Line H x n) (h0 : 0 ≤ b) (h1 : b < n) (q : Q .non H) : spCheck A [.ref x, .int b] H Q E0 := ⟨x, n, b, rfl, h, fun _ _ => q, fun h => absurd h (by omega)⟩
def spSpans (A : Adr) (K : PySem.W.Frag) : Sp := fun vs H Q _ => ∃ (x a : Addr) (n m : Int) (xs : List V) (ws : List W4), vs = [.ref x, .ref a] ∧ Sized A.c_Line H x n ∧ SqA K H a xs ∧ DpAll K H xs (ws.map W4.d) ∧ WOk n m ws ∧ ws.length ≤ 100 ∧
  ∀ D H' js us, us.Perm ws → us.Pairwise (fun x y => lexL y.k x.k = false) → Same H H' → H D = none → H' D = some (.dT js) → KVs W4.k Pw H' js us → Q (.ref D) H'
theorem ok_spans_by_wire (T : Txt K mg A) : FnOk P w K mg base CX0 4 A.f_spans_by_wire A.d_spans_by_wire ["line", "wires"] (spSpans A K) := by
  refine T.F_spans_by_wire.ok sc_spans_by_wire (fun vs H Q E h => ?_) (fun cdv A' outer s H vs Q E hr h => ?_)
  · obtain ⟨x, a, n, m, xs, ws, rfl, _⟩ := h
    rfl
  · obtain ⟨x, a, n, m, xs, ws, rfl, hx, hs, ha, hw, hz, q⟩ := h
    have lx : xs.length = ws.length := by rw [dpa_len ha, List.length_map]
    refine ⟨_, (pss_cons (ps_set (i := 2) sc_spans_by_wire.nd rfl (Or.inr rfl) pe_dnewT)
      (pss_cons (ps_for PassesOwn.never rfl (pi_seq (pv 1)) (pg_tup rfl (pgs_cons (pg_name (i := 3) sc_spans_by_wire.nd rfl (Or.inl rfl)) (pgs_cons (pg_name (i := 4) sc_spans_by_wire.nd rfl (Or.inl rfl)) (pgs_cons (pg_name (i := 5) sc_spans_by_wire.nd rfl (Or.inl rfl)) (pgs_cons (pg_name (i := 6) sc_spans_by_wire.nd rfl (Or.inl rfl)) pgs_nil)))))
      (pss_cons (ps_expr (pe_call (ok_check_box T) (hr.mono (by decide)) (by rfl) T.g_check_box T.F_check_box.kp (b_check_box T) .nil passF (pa_cons (pv 0) (pa_cons (pv 3) pa_nil))))
      (pss_cons (ps_expr (pe_call (ok_check_box T) (hr.mono (by decide)) (by rfl) T.g_check_box T.F_check_box.kp (b_check_box T) .nil passF (pa_cons (pv 0) (pa_cons (pv 4) pa_nil))))
      (pss_cons (ps_if (PW.pt (pw_or (pt_cmpR op_eq (pv 3) (pv 4) (nomark _)) (pw_or (pt_not (pt_val (pe_call (ok_is_span T) (hr.mono (by decide)) (by rfl) T.g_is_span T.F_is_span.kp (b_is_span T) .nil pass0 (pa_cons (pv 5) (pa_cons (pv 6) pa_nil))))) (pw_or1 (pt_cmp (pc_din (hu_of hr) (pe_tup (pa_cons (pv 3) (pa_cons (pv 4) pa_nil))) (pv 2))))))) (pss_one ps_never) pss_nil)
      (pss_one (ps_asg (pe_tup (pa_cons (pv 5) (pa_cons (pv 6) pa_nil))) (pg_sub (pv 2) (pe_tup (pa_cons (pv 3) (pa_cons (pv 4) pa_nil))) (set_dict (hu_of hr)))))))))
      (pss_one (ps_ret (pe_dcT (own := [("pair", 7)]) (g := gName 7) (tt := tYes) (Nat.lt_of_succ_lt (hu_of hr)) (by rfl) sc_spans_by_wire.nd (pi_list (pe_callB (cr_sortDT (d := 2) (by decide) rfl) (by rfl) T.n_sorted (by decide +kernel) (pa_cons (pv 2) pa_nil))) (blkOk_by (N := N_spans_by_wire) (sc := defScope s_spans_by_wire) (by decide +kernel)) (fun _ _ _ _ _ => (pg_name (i := 7) sc_spans_by_wire.nd rfl (Or.inl rfl))) (fun _ _ _ _ _ => pts_nil) (fun _ _ _ _ _ => (pv 7)) (fun _ _ _ _ _ => (pe_dget (hu_of hr) (pv 2) (pv 7) (fun _ _ => rfl)))))))), ?_⟩
    refine i_start (σ' := [some (V.ref x), some (.ref a), none, none, none, none, none, none]) rfl ?_
    walk_at "vc"
    refine i_dNew fun D0 n0 => ?_
    walk_at "vc"
    refine i_seqV (K := K) rfl (same_new n0) hs fun J G wk hG => ?_
    have c0 := (Cxs.start H).push (.dT []) n0
    have e0 := same_new (o := HO.dT []) n0
    refine for_it wk (fun i σ' H' => ∃ y3 y4 y5 y6 F js, σ' = [some (V.ref x), some (.ref a), some (.ref D0), y3, y4, y5, y6, none] ∧ Same H F ∧ Cxs F [(D0, .dT js)] H' ∧ KVs W4.k Pw F js (ws.take i))
      ⟨_, _, _, _, H, [], rfl, Same.refl _, c0, .nil⟩ (fun i σ' H' _ pv => ?_) (fun i y σ' H' H'' hi pv hy => ?_) fun σ' H' pv => ?_
    · obtain ⟨y3, y4, y5, y6, F, js, rfl, e, c, hj⟩ := pv
      exact hG _ (e.trans c.e)
    · obtain ⟨y3, y4, y5, y6, F, js, rfl, e, c, hj⟩ := pv
      obtain ⟨rfl, hv⟩ := hy
      have hi' : i < ws.length := by omega
      have hwi : ws[i]? = some ws[i] := List.getElem?_eq_getElem hi'
      have hwok := hw.w ws[i] (List.getElem_mem hi')
      have hnot := nd_take hw.nd hwi
      obtain ⟨v', hv', dv⟩ := dpa_get (i := i) (d := ws[i].d) ha (by rw [List.getElem?_map, hwi]; rfl)
      rw [hv] at hv'
      cases hv'
      obtain ⟨t, rfl, ht⟩ := dp_w4 dv
      have ht := same_sqT (e.trans c.e) ht
      have ljs : js.length ≤ i := by rw [hj.len, List.length_take]; omega
      have st : ws.take (i + 1) = ws.take i ++ [ws[i]] := by
        rw [List.take_add_one, hwi]
        rfl
      generalize ws[i] = w4 at ht hwok hwi hnot st
      obtain ⟨ws_, wt_, wl_, wh_⟩ := w4
      have hx' := hx.mono (e.trans c.e)
      have ht : SqT K _ t [.int ws_, .int wt_, .int wl_, oV wh_] := ht
      refine i_gtup ht rfl ?_
      walk_at "vc"
      refine i_check hx' hwok.s0 hwok.s1 ?_
      walk_at "vc"
      refine i_check hx' hwok.t0 hwok.t1 ?_
      walk_at "vc"
      refine i_iteDF hwok.ne ?_
      walk_at "vc"
      refine ⟨wl_, wh_, rfl, hwok.l0, fun h e => (hwok.h h e).1, ?_⟩
      walk_at "vc"
      refine ⟨lenB rfl, fun T1 n1 => ?_⟩
      walk_at "vc"
      have c1 := c.new (.tup [.int ws_, .int wt_]) n1
      refine ⟨D0, none, rfl, dget_in (n := [ws_, wt_]) (c1.at 0 rfl) upd_same (hj.miss hnot), ?_⟩
      walk_at "vc"
      refine ⟨lenB rfl, fun T2 n2 => ?_⟩
      walk_at "vc"
      refine ⟨lenB rfl, fun T3 n3 => ?_⟩
      walk_at "vc"
      have c2 := c1.new (.tup [.int wl_, oV wh_]) n2
      have c3 := c2.new (.tup [.int ws_, .int wt_]) n3
      have e1 : Same F (upd (upd (upd F T1 (.tup [.int ws_, .int wt_])) T2 (.tup [.int wl_, oV wh_])) T3 (.tup [.int ws_, .int wt_])) := (c.sub n1).trans ((c1.sub n2).trans (c2.sub n3))
      refine i_setD (n := [ws_, wt_]) (c3.at 0 rfl) upd_same (by omega) ?_
      walk_at "vc"
      refine ⟨_, _, _, _, _, _, rfl, e.trans e1, c3.turn 0 rfl _, ?_⟩
      rw [st]
      refine (hj.mono Pw.mono e1).put (r := ⟨ws_, wt_, wl_, wh_⟩) hnot ⟨T2, rfl, ?_⟩
      exact same_new (c2.newF n3) _ _ upd_same
    · obtain ⟨y3, y4, y5, y6, F, js, rfl, e, c, hj⟩ := pv
      rw [List.take_of_length_le (by omega)] at hj
      walk_at "vc"
      refine i_dsort (k := W4.k) (P := Pw) (K := K) (i := 2) (j := 7) (d := 2) Pw.mono (c.at 0 rfl) (hj.mono Pw.mono c.e) (fun r _ => rfl) hw.nd (by rw [hj.len]; omega) rfl (fun _ => rfl) (fun _ => rfl) (fun _ => rfl) fun D H2 ks us pu pw e2 nD hD hk => ?_
      exact q D H2 ks us pu pw (e.trans (c.e.trans e2)) ((e.trans c.e).free nD) hD hk
end
end
section
set_option maxRecDepth 100000
set_option maxHeartbeats 1000000
open PySem PySem.Spec PyProof.Rows L2 VX
local macro_rules | `(tactic| walk_at "cl") => `(tactic| exact Txt.cl_Line (by assumption))
local macro_rules | `(tactic| walk_at "na") => `(tactic| first | exact Txt.na_Line_size (by assumption) | exact Txt.na_Line__spans (by assumption) | exact Txt.na_Line__mosts (by assumption))
/-- a line with these wires and bounds, in order -/
def IsLine (C : Addr) (H : Hp) (x : Addr) (n : Int) (us : List W4) (cs : List B3) : Prop := ∃ dx d1 d2 js ms, H x = some (.ins C dx [("size", .int n), ("_spans", .ref d1), ("_mosts", .ref d2)]) ∧ H d1 = some (.dT js) ∧ H d2 = some (.dT ms) ∧ KVs W4.k Pw H js us ∧ KVs B3.k Pb H ms cs
theorem IsLine.mono {C : Addr} {H H' : Hp} {x : Addr} {n : Int} {us : List W4} {cs : List B3} (h : IsLine C H x n us cs) (e : Same H H') : IsLine C H' x n us cs :=
  let ⟨dx, d1, d2, js, ms, h1, h2, h3, h4, h5⟩ := h
  ⟨dx, d1, d2, js, ms, e _ _ h1, e _ _ h2, e _ _ h3, h4.mono Pw.mono e, h5.mono Pb.mono e⟩
theorem IsLine.sized {C : Addr} {H : Hp} {x : Addr} {n : Int} {us : List W4} {cs : List B3} (h : IsLine C H x n us cs) : Sized C H x n :=
  let ⟨dx, d1, d2, js, ms, h1, _⟩ := h
  ⟨dx, _, h1, rfl⟩
theorem Pw.cut {H : Hp} {v : V} {w : W4} {x : Addr} {C dx : Addr} {fs : List (Str × V)} (h : Pw H v w) (hx : H x = some (.ins C dx fs)) : Pw (del H x) v w := by
  obtain ⟨q, h1, h2⟩ := h
  refine ⟨q, h1, del_of h2 fun e => ?_⟩
  rw [e, hx] at h2
  cases h2
section
variable {w : World} {K : PySem.W.Frag} {mg : Str → Option Value} {base : Heap} {A : Adr}
def spMosts (A : Adr) (K : PySem.W.Frag) : Sp := fun vs H Q _ => ∃ (x a : Addr) (n m : Int) (xs : List V) (bs : List B3), vs = [.ref x, .ref a] ∧ Sized A.c_Line H x n ∧ SqA K H a xs ∧ DpAll K H xs (bs.map B3.d) ∧ BOk n m bs ∧ bs.length ≤ 100 ∧
  ∀ D H' js us, us.Perm bs → us.Pairwise (fun x y => lexL y.k x.k = false) → Same H H' → H D = none → H' D = some (.dT js) → KVs B3.k Pb H' js us → Q (.ref D) H'
theorem ok_mosts_by_pair (T : Txt K mg A) : FnOk P w K mg base CX0 4 A.f_mosts_by_pair A.d_mosts_by_pair ["line", "bounds"] (spMosts A K) := by
  refine T.F_mosts_by_pair.ok sc_mosts_by_pair (fun vs H Q E h => ?_) (fun cdv A' outer s H vs Q E hr h => ?_)
  · obtain ⟨x, a, n, m, xs, bs, rfl, _⟩ := h
    rfl
  · obtain ⟨x, a, n, m, xs, bs, rfl, hx, hs, ha, hb, hz, q⟩ := h
    have lx : xs.length = bs.length := by rw [dpa_len ha, List.length_map]
    refine ⟨_, (pss_cons (ps_set (i := 2) sc_mosts_by_pair.nd rfl (Or.inr rfl) pe_dnewT)
      (pss_cons (ps_for PassesOwn.never rfl (pi_seq (pv 1)) (pg_tup rfl (pgs_cons (pg_name (i := 3) sc_mosts_by_pair.nd rfl (Or.inl rfl)) (pgs_cons (pg_name (i := 4) sc_mosts_by_pair.nd rfl (Or.inl rfl)) (pgs_cons (pg_name (i := 5) sc_mosts_by_pair.nd rfl (Or.inl rfl)) pgs_nil))))
      (pss_cons (ps_expr (pe_call (ok_check_box T) (hr.mono (by decide)) (by rfl) T.g_check_box T.F_check_box.kp (b_check_box T) .nil passF (pa_cons (pv 0) (pa_cons (pv 3) pa_nil))))
      (pss_cons (ps_expr (pe_call (ok_check_box T) (hr.mono (by decide)) (by rfl) T.g_check_box T.F_check_box.kp (b_check_box T) .nil passF (pa_cons (pv 0) (pa_cons (pv 4) pa_nil))))
      (pss_cons (ps_if (PW.pt (pw_or (pt_cmpR op_eq (pv 3) (pv 4) (nomark _)) (pw_or (pt_cmpR op_lt (pv 5) pe_int (nomark _)) (pw_or1 (pt_cmp (pc_din (hu_of hr) (pe_tup (pa_cons (pv 3) (pa_cons (pv 4) pa_nil))) (pv 2))))))) (pss_one ps_never) pss_nil)
      (pss_one (ps_asg (pv 5) (pg_sub (pv 2) (pe_tup (pa_cons (pv 3) (pa_cons (pv 4) pa_nil))) (set_dict (hu_of hr)))))))))
      (pss_one (ps_ret (pe_dcT (own := [("pair", 6)]) (g := gName 6) (tt := tYes) (Nat.lt_of_succ_lt (hu_of hr)) (by rfl) sc_mosts_by_pair.nd (pi_list (pe_callB (cr_sortDT (d := 2) (by decide) rfl) (by rfl) T.n_sorted (by decide +kernel) (pa_cons (pv 2) pa_nil))) (blkOk_by (N := N_mosts_by_pair) (sc := defScope s_mosts_by_pair) (by decide +kernel)) (fun _ _ _ _ _ => (pg_name (i := 6) sc_mosts_by_pair.nd rfl (Or.inl rfl))) (fun _ _ _ _ _ => pts_nil) (fun _ _ _ _ _ => (pv 6)) (fun _ _ _ _ _ => (pe_dget (hu_of hr) (pv 2) (pv 6) (fun _ _ => rfl)))))))), ?_⟩
    refine i_start (σ' := [some (V.ref x), some (.ref a), none, none, none, none, none]) rfl ?_
    walk_at "vc"
    refine i_dNew fun D0 n0 => ?_
    walk_at "vc"
    refine i_seqV (K := K) rfl (same_new n0) hs fun J G wk hG => ?_
    have c0 := (Cxs.start H).push (.dT []) n0
    have e0 := same_new (o := HO.dT []) n0
    refine for_it wk (fun i σ' H' => ∃ y3 y4 y5 F js, σ' = [some (V.ref x), some (.ref a), some (.ref D0), y3, y4, y5, none] ∧ Same H F ∧ Cxs F [(D0, .dT js)] H' ∧ KVs B3.k Pb F js (bs.take i))
      ⟨_, _, _, H, [], rfl, Same.refl _, c0, .nil⟩ (fun i σ' H' _ pv => ?_) (fun i y σ' H' H'' hi pv hy => ?_) fun σ' H' pv => ?_
    · obtain ⟨y3, y4, y5, F, js, rfl, e, c, hj⟩ := pv
      exact hG _ (e.trans c.e)
    · obtain ⟨y3, y4, y5, F, js, rfl, e, c, hj⟩ := pv
      obtain ⟨rfl, hv⟩ := hy
      have hi' : i < bs.length := by omega
      have hwi : bs[i]? = some bs[i] := List.getElem?_eq_getElem hi'
      have hwok := hb.b bs[i] (List.getElem_mem hi')
      have hnot := nd_take hb.nd hwi
      obtain ⟨v', hv', dv⟩ := dpa_get (i := i) (d := bs[i].d) ha (by rw [List.getElem?_map, hwi]; rfl)
      rw [hv] at hv'
      cases hv'
      obtain ⟨t, rfl, ht⟩ := dp_b3 dv
      have ht := same_sqT (e.trans c.e) ht
      have ljs : js.length ≤ i := by rw [hj.len, List.length_take]; omega
      have st : bs.take (i + 1) = bs.take i ++ [bs[i]] := by
        rw [List.take_add_one, hwi]
        rfl
      generalize bs[i] = b3 at ht hwok hwi hnot st
      obtain ⟨bl_, be_, bm_⟩ := b3
      have hx' := hx.mono (e.trans c.e)
      have ht : SqT K _ t [.int bl_, .int be_, .int bm_] := ht
      refine i_gtup ht rfl ?_
      walk_at "vc"
      refine i_check hx' hwok.l0 hwok.l1 ?_
      walk_at "vc"
      refine i_check hx' hwok.e0 hwok.e1 ?_
      walk_at "vc"
      refine i_iteDF hwok.ne ?_
      walk_at "vc"
      refine i_iteDF (by have h : 0 ≤ bm_ := hwok.m0; omega) ?_
      walk_at "vc"
      refine ⟨lenB rfl, fun T1 n1 => ?_⟩
      walk_at "vc"
      have c1 := c.new (.tup [.int bl_, .int be_]) n1
      refine ⟨D0, none, rfl, dget_in (n := [bl_, be_]) (c1.at 0 rfl) upd_same (hj.miss hnot), ?_⟩
      walk_at "vc"
      refine ⟨lenB rfl, fun T3 n3 => ?_⟩
      walk_at "vc"
      have c3 := c1.new (.tup [.int bl_, .int be_]) n3
      have e1 : Same F (upd (upd F T1 (.tup [.int bl_, .int be_])) T3 (.tup [.int bl_, .int be_])) := (c.sub n1).trans (c1.sub n3)
      refine i_setD (n := [bl_, be_]) (c3.at 0 rfl) upd_same (by omega) ?_
      walk_at "vc"
      refine ⟨_, _, _, _, _, rfl, e.trans e1, c3.turn 0 rfl _, ?_⟩
      rw [st]
      exact (hj.mono Pb.mono e1).put (r := ⟨bl_, be_, bm_⟩) hnot rfl
    · obtain ⟨y3, y4, y5, F, js, rfl, e, c, hj⟩ := pv
      rw [List.take_of_length_le (by omega)] at hj
      walk_at "vc"
      refine i_dsort (k := B3.k) (P := Pb) (K := K) (i := 2) (j := 6) (d := 2) Pb.mono (c.at 0 rfl) (hj.mono Pb.mono c.e) (fun r _ => rfl) hb.nd (by rw [hj.len]; omega) rfl (fun _ => rfl) (fun _ => rfl) (fun _ => rfl) fun D H2 ks us pu pw e2 nD hD hk => ?_
      exact q D H2 ks us pu pw (e.trans (c.e.trans e2)) ((e.trans c.e).free nD) hD hk
/-! ### a line, made -/
def spLineI (A : Adr) (K : PySem.W.Frag) : Sp := fun vs H Q _ => ∃ (F : Hp) (x dx a b : Addr) (n m k : Int) (xs ys : List V) (ws : List W4) (bs : List B3), vs = [.ref x, .int n, .ref a, .ref b] ∧ Cxs F [(x, .ins A.c_Line dx [])] H ∧ 1 ≤ n ∧
  SqA K F a xs ∧ DpAll K F xs (ws.map W4.d) ∧ WOk n m ws ∧ ws.length ≤ 100 ∧ SqA K F b ys ∧ DpAll K F ys (bs.map B3.d) ∧ BOk n k bs ∧ bs.length ≤ 100 ∧
  ∀ H' us cs, us.Perm ws → us.Pairwise (fun x y => lexL y.k x.k = false) → cs.Perm bs → cs.Pairwise (fun x y => lexL y.k x.k = false) → Same F H' → IsLine A.c_Line H' x n us cs → Q .non H'
theorem ok_Line_init (T : Txt K mg A) : FnOk P w K mg base CX0 5 A.f_Line_init A.d_Line_init ["self", "size", "wires", "bounds"] (spLineI A K) := by
  refine T.F_Line_init.ok sc_Line_init (fun vs H Q E h => ?_) (fun cdv A' outer s H vs Q E hr h => ?_)
  · obtain ⟨F, x, dx, a, b, n, m, k, xs, ys, ws, bs, rfl, _⟩ := h
    rfl
  · obtain ⟨F, x, dx, a, b, n, m, k, xs, ys, ws, bs, rfl, c, n1, ha, hx, hw, hwl, hb, hy, hbo, hbl, q⟩ := h
    refine ⟨_, (pss_cons (ps_if (pt_cmpR op_lt (pv 1) pe_int (nomark _)) (pss_one ps_never) pss_nil)
      (pss_cons (ps_fld (pv 0) (pv 1) rfl)
      (pss_cons (ps_fld (pv 0) (pe_call (ok_spans_by_wire T) (hr.mono (by decide)) (by rfl) T.g_spans_by_wire T.F_spans_by_wire.kp (b_spans_by_wire T) .nil pass0 (pa_cons (pv 0) (pa_cons (pv 2) pa_nil))) rfl)
      (pss_one (ps_fld (pv 0) (pe_call (ok_mosts_by_pair T) (hr.mono (by decide)) (by rfl) T.g_mosts_by_pair T.F_mosts_by_pair.kp (b_mosts_by_pair T) .nil pass0 (pa_cons (pv 0) (pa_cons (pv 3) pa_nil))) rfl))))), ?_⟩
    refine i_start (σ' := [some (V.ref x), some (.int n), some (.ref a), some (.ref b)]) rfl ?_
    walk_at "vc"
    refine i_iteDF (by omega) ?_
    walk_at "vc"
    refine i_sFld1 (gs := [("size", .int n)]) (c.at 0 rfl) T.cl_Line T.na_Line_size (by show 0 < 1000; decide) rfl ?_
    have c := c.turn 0 rfl (.ins A.c_Line dx [("size", .int n)])
    generalize upd H x (.ins A.c_Line dx [("size", .int n)]) = H1 at c ⊢
    walk_at "vc"
    refine ⟨x, a, n, m, xs, ws, rfl, ⟨dx, _, c.at 0 rfl, rfl⟩, ha.mono c.e, hx.mono c.e, hw, hwl, fun d1 H2 js us pu pw e2 nd1 hd1 hk1 => ?_⟩
    have x2 : H2 x = some (.ins A.c_Line dx [("size", .int n)]) := e2 _ _ (c.at 0 rfl)
    have xd : d1 ≠ x := fun z => by rw [z, x2] at hd1; cases hd1
    have eF : Same F (del H2 x) := (c.grow e2).one.all
    have hd1' : del H2 x d1 = some (.dT js) := del_of hd1 xd
    have hk1' : KVs W4.k Pw (del H2 x) js us := Paired.mapP hk1 fun _ _ z => ⟨z.1, z.2.cut x2⟩
    have c : Cxs (del H2 x) [(x, .ins A.c_Line dx [("size", .int n)])] H2 := .of1 (.start x2)
    walk_at "vc"
    refine i_sFld1 (gs := [("size", .int n), ("_spans", .ref d1)]) x2 T.cl_Line T.na_Line__spans (by show 1 < 1000; decide) rfl ?_
    have c := c.turn 0 rfl (.ins A.c_Line dx [("size", .int n), ("_spans", .ref d1)])
    generalize del H2 x = F2 at c eF hd1' hk1'
    generalize upd H2 x (.ins A.c_Line dx [("size", .int n), ("_spans", .ref d1)]) = H3 at c ⊢
    walk_at "vc"
    refine ⟨x, b, n, k, ys, bs, rfl, ⟨dx, _, c.at 0 rfl, rfl⟩, hb.mono (eF.trans c.e), hy.mono (eF.trans c.e), hbo, hbl, fun d2 H4 ms cs pc pcw e4 nd2 hd2 hk2 => ?_⟩
    have x4 : H4 x = some (.ins A.c_Line dx [("size", .int n), ("_spans", .ref d1)]) := e4 _ _ (c.at 0 rfl)
    have xd : d2 ≠ x := fun z => by rw [z, x4] at hd2; cases hd2
    have eF4 : Same F2 (del H4 x) := (c.grow e4).one.all
    have c : Cxs (del H4 x) [(x, .ins A.c_Line dx [("size", .int n), ("_spans", .ref d1)])] H4 := .of1 (.start x4)
    walk_at "vc"
    refine i_sFld1 (gs := [("size", .int n), ("_spans", .ref d1), ("_mosts", .ref d2)]) x4 T.cl_Line T.na_Line__mosts (by show 2 < 1000; decide) rfl ?_
    have c := c.turn 0 rfl (.ins A.c_Line dx [("size", .int n), ("_spans", .ref d1), ("_mosts", .ref d2)])
    have eH := c.e
    have eG := eF4.trans eH
    exact q _ us cs pu pw pc pcw (eF.trans eG) ⟨dx, d1, d2, js, ms, c.at 0 rfl, eG _ _ hd1', eH _ _ (del_of hd2 xd), hk1'.mono Pw.mono eG, Paired.mapP hk2 fun _ _ z => z⟩
end
end
section
set_option maxRecDepth 100000
set_option maxHeartbeats 1000000
open PySem PySem.Spec PyProof.Rows L2 VX
local macro_rules | `(tactic| walk_at "cl") => `(tactic| exact Txt.cl_Line (by assumption))
local macro_rules | `(tactic| walk_at "na") => `(tactic| first | exact Txt.na_Line_size (by assumption) | exact Txt.na_Line__spans (by assumption) | exact Txt.na_Line__mosts (by assumption))
theorem filter_step {α : Type} {f : α → Bool} {us : List α} {i : Nat} {u : α} (h : us[i]? = some u) : (us.take (i + 1)).filter f = (us.take i).filter f ++ if f u = true then [u] else [] := by
  rw [List.take_add_one, h, List.filter_append]
  congr 1
  show List.filter f [u] = _
  by_cases hf : f u = true
  · rw [if_pos hf, List.filter_cons_of_pos hf]
    rfl
  · rw [if_neg hf, List.filter_cons_of_neg hf]
    rfl
section
variable {w : World} {K : PySem.W.Frag} {mg : Str → Option Value} {base : Heap} {A : Adr}
/-! ### sources, targets -/
def spLFilt (A : Adr) (f : Int → W4 → Bool) (g : W4 → Int) : Sp := fun vs H Q E => ∃ (x : Addr) (n b : Int) (us : List W4) (cs : List B3), vs = [.ref x, .int b] ∧ IsLine A.c_Line H x n us cs ∧ us.length ≤ 1000 ∧
  (0 ≤ b → b < n → ∀ D H', Same H H' → H D = none → H' D = some (.lst (((us.filter (f b)).map g).map V.int)) → Q (.ref D) H') ∧
  ((b < 0 ∨ n ≤ b) → ∀ d H', H d = none → Same H H' → H' d = some (.xd [("box", .int b)]) → E (.ref A.c_NoBox) (some d) H')
theorem ok_Line_targets (T : Txt K mg A) : FnOk P w K mg base (L2.CX P w) 4 A.f_Line_targets A.d_Line_targets ["self", "box"] (spLFilt A (fun b u => decide (u.s = b)) W4.t) := by
  refine T.F_Line_targets.okX sc_Line_targets (fun vs H Q E h => ?_) (fun cdv A' outer s H vs Q E hr h => ?_)
  · obtain ⟨x, n, b, us, cs, rfl, _⟩ := h
    rfl
  · obtain ⟨x, n, b, us, cs, rfl, hl, hz, q, qe⟩ := h
    refine ⟨_, (pss_cons (ps_expr (pe_call (ok_check_box T) (hr.mono (by decide)) (by rfl) T.g_check_box T.F_check_box.kp (b_check_box T) .nil (passes_call (takes_of rfl rfl rfl rfl) (fun _ _ _ _ h => h)) (pa_cons (pv 0) (pa_cons (pv 1) pa_nil))))
      (pss_one (ps_ret (pe_lock (pe_lc (own := [("source", 2), ("target", 3)]) (g := gTup _ 2 (gCons (gName 2) (gCons (gName 3) gNil))) (by rfl) sc_Line_targets.nd (pi_keys (pe_fld (pv 0) rfl)) (blkOk_by (N := N_Line_targets) (sc := defScope s_Line_targets) (by decide +kernel)) (fun _ _ _ _ _ => (pg_tup rfl (pgs_cons (pg_name (i := 2) sc_Line_targets.nd rfl (Or.inl rfl)) (pgs_cons (pg_name (i := 3) sc_Line_targets.nd rfl (Or.inl rfl)) pgs_nil)))) (fun _ _ _ _ _ => (pts_one (pt_cmpR op_eq (pv 2) (pv 1) (nomark _)))) (fun _ _ _ _ _ => (pv 3))))))), ?_⟩
    refine i_start (σ' := [some (V.ref x), some (.int b), none, none]) rfl ?_
    walk_at "vc"
    refine ⟨x, n, b, rfl, hl.sized, fun b0 b1 => ?_, fun hb d H' nd e hd => qe hb d H' nd e hd⟩
    replace q := q b0 b1
    clear qe
    obtain ⟨dx, d1, d2, js, ms, hx, h1, h2, k1, k2⟩ := hl
    walk_at "vc"
    refine i_lockE h1 fun od => ?_
    have xd : x ≠ d1 := fun z => by rw [z, h1] at hx; cases hx
    have hx' := (upd_ne (H := H) (o := .frz od (.dT js)) xd).trans hx
    have hd : upd H d1 (.frz od (.dT js)) d1 = some (.frz od (.dT js)) := upd_same
    have lj := k1.len
    walk_at "vc"
    refine ⟨d1, od, rfl, .inr ⟨js, hd, fun D nD => ?_⟩⟩
    have c0 := (Cxs.start (upd H d1 (.frz od (.dT js)))).push (.lst []) nD
    refine lc_it walk_keysT (fun i H' => Cxs (upd H d1 (.frz od (.dT js))) [(D, .lst ((((us.take i).filter fun u => decide (u.s = b)).map W4.t).map V.int))] H') c0 (fun i H' _ c => c.e _ _ hd) (fun i p H1 H2 hi c y => ?_) fun H' c => ?_
    · obtain ⟨rfl, k, v, q1, hk, rfl, hq⟩ := y
      have hi' : i < us.length := by omega
      have hu : us[i]? = some us[i] := List.getElem?_eq_getElem hi'
      obtain ⟨v', hv', pv⟩ := k1.at hu
      rw [hk] at hv'
      cases hv'
      rw [filter_step hu]
      generalize us[i] = w4 at hq
      obtain ⟨s_, t_, l_, h_⟩ := w4
      have hq : SqT K H2 q1 [.int s_, .int t_] := SqT.of hq
      refine i_gtup hq rfl ?_
      walk_at "vc"
      refine i_iteD (fun ht => ?_) (fun ht => ?_)
      · walk_at "vc"
        rw [if_pos (decide_eq_true (show s_ = b from ht))]
        refine ⟨_, c.at 0 rfl, lenB' ?_, ?_⟩
        · rw [List.length_map, List.length_map]
          have := List.length_filter_le (fun u : W4 => decide (u.s = b)) (us.take i)
          rw [List.length_take] at this
          omega
        · rw [List.map_append, List.map_append]
          exact c.turn 0 rfl _
      · rw [if_neg (by rw [decide_eq_true_iff]; exact ht), List.append_nil]
        exact c
    · have c : Cxs (upd H d1 (.frz od (.dT js))) [(D, .lst (((us.filter fun u => decide (u.s = b)).map W4.t).map V.int))] H' := by
        have := c
        rwa [List.take_of_length_le (by omega)] at this
      have Dd : D ≠ d1 := fun z => by
        rw [z, upd_same] at nD
        cases nD
      refine ⟨c.e _ _ hd, q D _ (same_unlock h1 c.e) (by rw [upd_ne Dd] at nD; exact nD) ?_⟩
      rw [upd_ne Dd]
      exact c.at 0 rfl
/-! ### wire -/
def spLWire (A : Adr) : Sp := fun vs H Q E => ∃ (F : Hp) (x : Addr) (n s t : Int) (us : List W4) (cs : List B3), vs = [.ref x, .int s, .int t] ∧ Same F H ∧ IsLine A.c_Line F x n us cs ∧ (us.map W4.k).Nodup ∧
  (∀ u ∈ us, u.s = s → u.t = t → 0 ≤ s → s < n → 0 ≤ t → t < n → ∀ q H', Same H H' → F q = some (.tup [.int u.lo, oV u.hi]) → Q (.ref q) H') ∧
  ((s < 0 ∨ n ≤ s) → ∀ d H', H d = none → Same H H' → H' d = some (.xd [("box", .int s)]) → E (.ref A.c_NoBox) (some d) H') ∧
  (0 ≤ s → s < n → (t < 0 ∨ n ≤ t) → ∀ d H', H d = none → Same H H' → H' d = some (.xd [("box", .int t)]) → E (.ref A.c_NoBox) (some d) H') ∧
  (0 ≤ s → s < n → 0 ≤ t → t < n → (∀ u ∈ us, ¬(u.s = s ∧ u.t = t)) → ∀ d H' fs, H d = none → Same H H' → List.lookup ("source" : Str) fs = some (V.int s) → List.lookup ("target" : Str) fs = some (V.int t) → H' d = some (.xd fs) → E (.ref A.c_NoWire) (some d) H')
theorem ok_Line_wire (T : Txt K mg A) : FnOk P w K mg base (L2.CX P w) 4 A.f_Line_wire A.d_Line_wire ["self", "source", "target"] (spLWire A) := by
  refine T.F_Line_wire.okX sc_Line_wire (fun vs H Q E h => ?_) (fun cdv A' outer s H vs Q E hr h => ?_)
  · obtain ⟨F, x, n, s, t, us, cs, rfl, _⟩ := h
    rfl
  · obtain ⟨F, x, n, sr, tg, us, cs, rfl, e0, hl, nd, q, q1, q2, q3⟩ := h
    refine ⟨_, (pss_cons (ps_expr (pe_call (ok_check_box T) (hr.mono (by decide)) (by rfl) T.g_check_box T.F_check_box.kp (b_check_box T) .nil (passes_call (takes_of rfl rfl rfl rfl) (fun _ _ _ _ h => h)) (pa_cons (pv 0) (pa_cons (pv 1) pa_nil))))
      (pss_cons (ps_expr (pe_call (ok_check_box T) (hr.mono (by decide)) (by rfl) T.g_check_box T.F_check_box.kp (b_check_box T) .nil (passes_call (takes_of rfl rfl rfl rfl) (fun _ _ _ _ h => h)) (pa_cons (pv 0) (pa_cons (pv 2) pa_nil))))
      (pss_cons (ps_if (pt_cmp (pc_dnotin (hu_of hr) (pe_tup (pa_cons (pv 1) (pa_cons (pv 2) pa_nil))) (pe_fld (pv 0) rfl))) (pss_one (ps_raise rfl (takes_of rfl rfl rfl rfl) (pmk2 T.oex_NoWire T.ini_NoWire T.tI_NoWire T.nb_NoWire_source T.nb_NoWire_target (ok_NoWire_init T) (hr.mono (by decide)) (b_NoWire_init T) (by rfl) T.g_NoWire (pa_cons (pv 1) (pa_cons (pv 2) pa_nil))))) pss_nil)
      (pss_one (ps_ret (pe_dget (hu_of hr) (pe_fld (pv 0) rfl) (pe_tup (pa_cons (pv 1) (pa_cons (pv 2) pa_nil))) (fun _ _ => rfl))))))), ?_⟩
    refine i_start (σ' := [some (V.ref x), some (.int sr), some (.int tg)]) rfl ?_
    walk_at "vc"
    refine ⟨x, n, sr, rfl, (hl.mono e0).sized, fun s0 s1 => ?_, fun hb d H' nd e hd => q1 hb d H' nd e hd⟩
    walk_at "vc"
    refine ⟨x, n, tg, rfl, (hl.mono e0).sized, fun t0 t1 => ?_, fun hb d H' nd e hd => q2 s0 s1 hb d H' nd e hd⟩
    obtain ⟨dx, d1, d2, js, ms, hx, h1, h2, k1, k2⟩ := hl
    walk_at "vc"
    refine ⟨lenB rfl, fun T1 n1 => ?_⟩
    have e1 := same_new (o := HO.tup [.int sr, .int tg]) n1
    have hx1 := e1 _ _ (e0 _ _ hx)
    replace h1 := e0 _ _ h1
    walk_at "vc"
    by_cases hm : [sr, tg] ∈ us.map W4.k
    · obtain ⟨u, hu, ek⟩ := List.mem_map.mp hm
      have eu : u.s = sr ∧ u.t = tg := by
        have ek : [u.s, u.t] = [sr, tg] := ek
        simp at ek
        exact ek
      obtain ⟨v, hv, q4, rfl, hq⟩ := k1.get nd hu
      rw [ek] at hv
      refine ⟨d1, _, rfl, dget_in (n := [sr, tg]) (e1 _ _ h1) upd_same hv, ?_⟩
      walk_at "vc"
      refine ⟨lenB rfl, fun T2 n2 => ?_⟩
      have e2 := same_new (o := HO.tup [.int sr, .int tg]) n2
      walk_at "vc"
      refine ⟨d1, _, rfl, dget_in (n := [sr, tg]) (e2 _ _ (e1 _ _ h1)) upd_same hv, ?_⟩
      exact q u hu eu.1 eu.2 s0 s1 t0 t1 q4 _ (e1.trans e2) hq
    · refine ⟨d1, none, rfl, dget_in (n := [sr, tg]) (e1 _ _ h1) upd_same (k1.miss hm), ?_⟩
      walk_at "vc"
      refine i_mk2 ?_
      walk_at "vc"
      refine ⟨_, _, rfl, fun d H' fs nd e l1 l2 hd => ?_⟩
      exact q3 s0 s1 t0 t1 (fun u hu z => hm (List.mem_map.mpr ⟨u, hu, by show [u.s, u.t] = _; rw [z.1, z.2]⟩)) d H' fs (e1.free nd) (e1.trans e) l1 l2 hd
end
end
section
set_option maxRecDepth 100000
set_option maxHeartbeats 1000000
open PySem PySem.Spec PyProof.Rows L2 VX SPR
def bD (b : Bd) : PyData := .tuple [.int b.l, .int b.e, .int b.m, b.k]
def wD (z : Int × List Bd) : PyData := .tuple [.int z.1, .tuple (z.2.map bD)]
/-- a dict of ways -/
structure DW (K : PySem.W.Frag) (F : Hp) (kvs : List (L2.Key × V)) (ks : List Int) (d : DM) : Prop where
  keys : kvs.map (·.1) = ks.map Sum.inl
  non : ∀ v, d v = none → valV kvs (.inl v) = none
  val : ∀ v z, d v = some z → ∃ u, valV kvs (.inl v) = some u ∧ Dp K F u (wD z)
  nd : ks.Nodup
  dom : ∀ v, v ∈ ks ↔ d v ≠ none
section
variable {K : PySem.W.Frag} {F F' : Hp} {kvs : List (L2.Key × V)} {ks : List Int} {d : DM}
theorem DW.mono (x : DW K F kvs ks d) (e : Same F F') : DW K F' kvs ks d := ⟨x.keys, x.non, fun v z h => let ⟨u, h1, h2⟩ := x.val v z h; ⟨u, h1, VX.Dp.mono' h2 e⟩, x.nd, x.dom⟩
theorem DW.len (x : DW K F kvs ks d) : kvs.length = ks.length := by
  have := congrArg List.length x.keys
  rwa [List.length_map, List.length_map] at this
theorem DW.put (x : DW K F kvs ks d) (s : Int) {u : V} {z : Int × List Bd} (hu : Dp K F u (wD z)) : DW K F (putK kvs (.inl s) u) (if s ∈ ks then ks else ks ++ [s]) (SPR.put d s z) := by
  have hn : ∀ v, SPR.put d s z v = none → valV (putK kvs (.inl s) u) (.inl v) = none := fun v h => by
    rw [valV_put]
    by_cases e : v = s
    · subst e
      rw [put_same] at h
      cases h
    · rw [if_neg (fun z => e (Sum.inl.inj z))]
      rw [put_ne e] at h
      exact x.non v h
  have hv : ∀ v y, SPR.put d s z v = some y → ∃ u', valV (putK kvs (.inl s) u) (.inl v) = some u' ∧ Dp K F u' (wD y) := fun v y h => by
    rw [valV_put]
    by_cases e : v = s
    · subst e
      rw [put_same] at h
      cases h
      exact ⟨u, if_pos rfl, hu⟩
    · rw [if_neg (fun z => e (Sum.inl.inj z))]
      rw [put_ne e] at h
      exact x.val v y h
  by_cases hs : s ∈ ks
  · rw [if_pos hs]
    refine ⟨?_, hn, hv, x.nd, fun v => ?_⟩
    · unfold putK
      rw [any_keys x.keys, decide_eq_true hs, if_pos rfl, List.map_map]
      rw [← x.keys]
      apply List.map_congr_left
      intro p _
      show (if p.1 = Sum.inl s then (p.1, u) else p).1 = p.1
      split <;> rfl
    · rw [x.dom v]
      by_cases e : v = s
      · subst e
        rw [put_same]
        exact ⟨fun _ z => (nomatch z), fun _ => (x.dom v).mp hs⟩
      · rw [put_ne e]
  · rw [if_neg hs]
    refine ⟨?_, hn, hv, ?_, fun v => ?_⟩
    · unfold putK
      rw [any_keys x.keys, decide_eq_false hs, if_neg Bool.false_ne_true, List.map_append, List.map_append, x.keys]
      rfl
    · rw [List.nodup_append]
      exact ⟨x.nd, by simp, fun a ha c hc e => hs (by
        have : c = s := by simpa using hc
        rw [← this, ← e]
        exact ha)⟩
    · rw [List.mem_append, List.mem_singleton, x.dom v]
      by_cases e : v = s
      · subst e
        rw [put_same]
        exact ⟨fun _ z => (nomatch z), fun _ => .inr rfl⟩
      · rw [put_ne e]
        exact ⟨fun z => z.elim id fun z => absurd z e, .inl⟩
theorem dw_get {H : Hp} {a : Addr} {v : Int} (e : H a = some (.dK kvs)) : DGet H a (.int v) (valV kvs (.inl v)) := by
  have g : DGet H a (kV (.inl v)) (valV kvs (.inl v)) := DGet.k e
  exact g
end
theorem dp_bd {K : PySem.W.Frag} {H : Hp} {v : V} {b : Bd} (h : Dp K H v (bD b)) : ∃ t k, v = .ref t ∧ SqT K H t [.int b.l, .int b.e, .int b.m, k] ∧ Dp K H k b.k := by
  cases h with
  | @tup a xs _ hs ha =>
  cases ha with
  | cons h1 ha =>
  cases ha with
  | cons h2 ha =>
  cases ha with
  | cons h3 ha =>
  cases ha with
  | cons h4 ha =>
  cases ha
  cases h1
  cases h2
  cases h3
  exact ⟨a, _, rfl, hs, h4⟩
theorem dp_wd {K : PySem.W.Frag} {H : Hp} {v : V} {z : Int × List Bd} (h : Dp K H v (wD z)) : ∃ t q xs, v = .ref t ∧ SqT K H t [.int z.1, .ref q] ∧ SqT K H q xs ∧ DpAll K H xs (z.2.map bD) := by
  cases h with
  | @tup a xs _ hs ha =>
  cases ha with
  | cons h1 ha =>
  cases ha with
  | cons h2 ha =>
  cases ha
  cases h1
  cases h2 with
  | @tup b ys _ hq hb => exact ⟨a, b, ys, rfl, hs, hq, hb⟩
def Clo (d : DM) (s : Bd) : Prop := ∀ x w, d s.e = some (x, w) → ∃ y u, d s.l = some (y, u) ∧ y ≤ x + s.m
theorem inV_ints (l : Int) (is : List Int) : inV (.int l) (is.map V.int) = decide (l ∈ is) := by
  unfold inV
  induction is with
  | nil => rfl
  | cons i is ih =>
    rw [List.map_cons, List.any_cons, ih]
    by_cases h : i = l
    · subst h
      simp [eqV]
    · have h2 : ¬ l = i := fun z => h z.symm
      simp [eqV, h, h2]
theorem flat_ints (is : List Int) : (is.map V.int).all flatV = true := by
  rw [List.all_eq_true]
  intro v hv
  obtain ⟨i, _, rfl⟩ := List.mem_map.mp hv
  rfl
theorem first_at {l : Int} : ∀ {is : List Int}, l ∈ is → ∃ j : Nat, is[j]? = some l ∧ (∀ (m : Nat) (i : Int), m < j → is[m]? = some i → i ≠ l) ∧ j < is.length
  | [], h => (nomatch h)
  | a :: is, h => by
    by_cases e : a = l
    · exact ⟨0, by rw [e]; rfl, fun m i hm => absurd hm (Nat.not_lt_zero m), by simp⟩
    · rcases List.mem_cons.mp h with h | h
      · exact absurd h.symm e
      · obtain ⟨j, h1, h2, h3⟩ := first_at h
        refine ⟨j + 1, h1, fun m i hm hi => ?_, by simp; omega⟩
        cases m with
        | zero =>
          cases hi
          exact e
        | succ m => exact h2 m i (by omega) hi
theorem dpa_drop {K : PySem.W.Frag} {H : Hp} : ∀ {xs : List V} {ds : List PyData}, DpAll K H xs ds → ∀ j : Nat, DpAll K H (xs.drop j) (ds.drop j)
  | _, _, .nil, j => by simp; exact .nil
  | _, _, .cons h t, 0 => .cons h t
  | _, _, .cons _ t, j + 1 => dpa_drop t j
theorem i_setDK {H : Hp} {Q : Hp → Prop} {a : Addr} {kvs : List (L2.Key × V)} {s : Int} {v : V} (e : H a = some (.dK kvs)) (hl : kvs.length ≤ 1000) (q : Q (upd H a (.dK (putK kvs (.inl s) v)))) : rSetD (.ref a) (.int s) v H Q :=
  ⟨a, _, rfl, DPut.k (k := .inl s) e (lenB' hl), q⟩
structure BsOk (n B : Nat) (bs : List Bd) : Prop where
  r : ∀ s ∈ bs, (0 ≤ s.e ∧ s.e < n ∧ s.m.natAbs ≤ B) ∧ 0 ≤ s.l ∧ s.l < n
  len : bs.length ≤ 900
  n0 : 1 ≤ n
  n1 : n ≤ 100
section
variable {w : World} {K : PySem.W.Frag} {mg : Str → Option Value} {base : Heap} {A : Adr}
theorem i_whlS {c : TT} {tb : TS} {D : Ends} {σ : L2.St} {H : Hp} (q : ∃ W : Nat → L2.St → Hp → Prop, (∃ m, W m σ H) ∧ ∀ m σ H, W m σ H →
  c σ H fun b H1 => if b = true then ∃ N : L2.St → Hp → Prop, (∀ σ' H', N σ' H' → ∃ m', m' < m ∧ W m' σ' H') ∧ tb { D with nx := N, ct := N, bk := D.nx } σ H1 else D.nx σ H1) : tWhile c tb D σ H := q
def spSpread (K : PySem.W.Frag) : Sp := fun vs H Q _ => ∃ (a s : Addr) (xs : List V) (n B : Nat) (bs : List Bd), vs = [.ref a, .ref s] ∧ SqL K H a xs ∧ DpAll K H xs (bs.map bD) ∧ SqL K H s [.int 0] ∧ BsOk n B bs ∧
  (∀ D T H' kvs ks d, Same H H' → H D = none → H' T = some (.tup [.ref D, .non]) → H' D = some (.dK kvs) → DW K (del H' D) kvs ks d → SW bs d → (∀ b ∈ bs, Clo d b) → Q (.ref T) H') ∧
  (∀ (D T R : Addr) (H' : Hp) (ring : List Bd), Same H H' → H' T = some (.tup [.ref D, .ref R]) → Dp K H' (.ref R) (.tuple (ring.map bD)) → (∀ r ∈ ring, r ∈ bs) → ring.length ≤ n → (∀ p, ¬ Feas bs p) → Q (.ref T) H')
/-- before each round of the search -/
def WSp (K : PySem.W.Frag) (H : Hp) (a s D : Addr) (bs : List Bd) (n B : Nat) (m : Nat) (σ : L2.St) (H' : Hp) : Prop := ∃ (F : Hp) (g : Bool) (kvs : List (L2.Key × V)) (ks : List Int) (d : DM) (y5 y6 y7 y8 y9 y10 y11 : Option V), σ = [some (.ref a), some (.ref s), some (.ref D), none, some (.bl g), y5, y6, y7, y8, y9, y10, y11, none] ∧
  Same H F ∧ Cxs F [(D, .dK kvs)] H' ∧ DW K F kvs ks d ∧ SW bs d ∧ (∀ v ∈ ks, 0 ≤ v ∧ v < n) ∧ (g = false → ∀ b ∈ bs, Clo d b) ∧ m = 2 * ms (n * B) n d + (if g = true then 1 else 0)
def PSp (K : PySem.W.Frag) (H : Hp) (a s D : Addr) (bs : List Bd) (n B : Nat) (d0 : DM) (i : Nat) (σ : L2.St) (H' : Hp) : Prop := ∃ (F : Hp) (g : Bool) (kvs : List (L2.Key × V)) (ks : List Int) (d : DM) (y5 y6 y7 y8 y9 y10 y11 : Option V), σ = [some (.ref a), some (.ref s), some (.ref D), none, some (.bl g), y5, y6, y7, y8, y9, y10, y11, none] ∧
  Same H F ∧ Cxs F [(D, .dK kvs)] H' ∧ DW K F kvs ks d ∧ SW bs d ∧ (∀ v ∈ ks, 0 ≤ v ∧ v < n) ∧ ms (n * B) n d ≤ ms (n * B) n d0 ∧ (g = true → ms (n * B) n d < ms (n * B) n d0) ∧ (g = false → ∀ b ∈ bs.take i, Clo d b)
theorem ok_spread (T : Txt K mg A) : FnOk P w K mg base CX0 2 A.f_spread A.d_spread ["bounds", "starts"] (spSpread K) := by
  refine T.F_spread.ok sc_spread (fun vs H Q E h => ?_) (fun cdv A' outer s0 H vs Q E hr h => ?_)
  · obtain ⟨a, s, xs, n, B, bs, rfl, _⟩ := h
    rfl
  · obtain ⟨a, s, xs, n, B, bs, rfl, ha, hx, hs, ok, q1, q2⟩ := h
    have lx : xs.length = bs.length := by rw [dpa_len hx, List.length_map]
    refine ⟨_, (pss_cons (ps_setDc (i := 2) (own := [("box", 3)]) (g := gName 3) (tt := tYes) (by rfl) sc_spread.nd rfl rfl (sw_trueD rfl rfl rfl (by decide +kernel)) (pi_list (pv 1)) (blkOk_by (N := N_spread) (sc := defScope s_spread) (by decide +kernel)) (fun _ _ _ _ _ => (pg_name (i := 3) sc_spread.nd rfl (Or.inl rfl))) (fun _ _ _ _ _ => pts_nil) (fun _ _ _ _ _ => (pv 3)) (fun _ _ _ _ _ => (pe_tup (pa_cons pe_int (pa_cons (pe_tup pa_nil) pa_nil)))))
      (pss_cons (ps_set (i := 4) sc_spread.nd rfl (Or.inl rfl) pe_bl)
      (pss_cons (ps_while PassesOwn.never (pt_val (pv 4)) (pss_cons (ps_set (i := 4) sc_spread.nd rfl (Or.inl rfl) pe_bl)
      (pss_one (ps_for PassesOwn.never rfl (pi_list (pv 0)) (pg_name (i := 5) sc_spread.nd rfl (Or.inl rfl))
      (pss_cons (ps_asg (pv 5) (pg_tup rfl (pgs_cons (pg_name (i := 6) sc_spread.nd rfl (Or.inl rfl)) (pgs_cons (pg_name (i := 7) sc_spread.nd rfl (Or.inl rfl)) (pgs_cons (pg_name (i := 8) sc_spread.nd rfl (Or.inl rfl)) (pgs_cons (pg_name (i := 9) sc_spread.nd rfl (Or.inl rfl)) pgs_nil))))))
      (pss_one (ps_if (PW.pt (pw_and (pt_cmp (pc_din (hu_of hr) (pv 7) (pv 2))) (pw_and1 (PW.pt (pw_or (pt_cmp (pc_dnotin (hu_of hr) (pv 6) (pv 2))) (pw_or1 (pt_cmpR op_lt (pe_op op_add (pe_ix (r := rIxT K) ix_tup (pe_dget (hu_of hr) (pv 2) (pv 7) (fun _ _ => rfl)) pe_int (fun _ _ => rfl)) (pv 8)) (pe_ix (r := rIxT K) ix_tup (pe_dget (hu_of hr) (pv 2) (pv 6) (fun _ _ => rfl)) pe_int (fun _ _ => rfl)) (nomark _)))))))) (pss_cons (ps_set (i := 10) sc_spread.nd rfl (Or.inl rfl) (pe_op op_catA (pe_ix (r := rIxT K) ix_tup (pe_dget (hu_of hr) (pv 2) (pv 7) (fun _ _ => rfl)) pe_int (fun _ _ => rfl)) (pe_tup (pa_cons (pv 5) pa_nil))))
      (pss_cons (ps_setLc (i := 11) (own := [("step", 12)]) (g := gName 12) (tt := tYes) (by rfl) sc_spread.nd rfl rfl (sw_true rfl rfl rfl (by decide +kernel)) (pi_tup (pv 10)) (blkOk_by (N := N_spread) (sc := defScope s_spread) (by decide +kernel)) (fun _ _ _ _ _ => (pg_name (i := 12) sc_spread.nd rfl (Or.inl rfl))) (fun _ _ _ _ _ => pts_nil) (fun _ _ _ _ _ => (pe_ix (r := rIxT K) ix_tup (pv 12) pe_int (fun _ _ => rfl))))
      (pss_cons (ps_if (pt_cmpR op_in_seq (pv 6) (pv 11) (by rfl)) (pss_one (ps_ret (pe_tup (pa_cons (pv 2) (pa_cons (pe_slice sl_tupA (pv 10) (po_some (pe_bm PySem.F.plainAttrs_list PySem.F.slot_list_index PySem.F.type_list_index mt_index (pv 11) (pa_cons (pv 6) pa_nil))) po_none) pa_nil))))) pss_nil)
      (pss_cons (ps_asg (pe_tup (pa_cons (pe_op op_add (pe_ix (r := rIxT K) ix_tup (pe_dget (hu_of hr) (pv 2) (pv 7) (fun _ _ => rfl)) pe_int (fun _ _ => rfl)) (pv 8)) (pa_cons (pv 10) pa_nil))) (pg_sub (pv 2) (pv 6) (set_dict (hu_of hr))))
      (pss_one (ps_set (i := 4) sc_spread.nd rfl (Or.inl rfl) pe_bl)))))) pss_nil)))))))
      (pss_one (ps_ret (pe_tup (pa_cons (pv 2) (pa_cons pe_non pa_nil)))))))), ?_⟩
    refine i_start (σ' := [some (V.ref a), some (.ref s), none, none, none, none, none, none, none, none, none, none, none]) rfl ?_
    walk_at "vc"
    refine i_dcK ?_
    walk_at "vc"
    refine ⟨s, rfl, ⟨_, hs⟩, fun D nD => ?_⟩
    have c0 := (Cxs.start H).push (.dK []) nD
    refine dcK_it (walk_list (K := K) (a := s) (xs := [V.int 0])) (fun i H' => (i = 0 ∧ H' = upd H D (.dK [])) ∨ (i = 1 ∧ ∃ F kvs, Same H F ∧ Cxs F [(D, .dK kvs)] H' ∧ DW K F kvs [0] d0)) (.inl ⟨rfl, rfl⟩) (fun i H' _ pv => ?_) (fun i x H' H'' hi pv hy => ?_) fun H' pv => ?_
    · rcases pv with ⟨_, rfl⟩ | ⟨_, F, kvs, e, c, _⟩
      · exact (same_new nD).seq hs
      · exact (e.trans c.e).seq hs
    · obtain ⟨rfl, hv⟩ := hy
      rcases pv with ⟨rfl, rfl⟩ | ⟨rfl, _⟩
      · cases hv
        walk_at "vc"
        refine ⟨lenB rfl, fun T1 n1 => ?_⟩
        have c1 := c0.new (.tup []) n1
        walk_at "vc"
        refine ⟨lenB rfl, fun T2 n2 => ?_⟩
        have c2 := c1.new (.tup [.int 0, .ref T1]) n2
        refine ⟨[], .inl 0, rfl, c2.at 0 rfl, by decide, .inr ⟨rfl, _, _, ?_, c2.turn 0 rfl _, ?_⟩⟩
        · exact (c0.sub n1).trans (c1.sub n2)
        · have h2 : Dp K (upd (upd H T1 (.tup [])) T2 (.tup [.int 0, .ref T1])) (.ref T2) (wD (0, [])) :=
            .tup (SqT.of upd_same) (.cons (.int 0) (.cons (.tup (SqT.of (same_new (c1.newF n2) _ _ upd_same)) .nil) .nil))
          refine ⟨rfl, fun v h => ?_, fun v z h => ?_, by simp, fun v => ?_⟩
          · have : v ≠ 0 := fun e => by
              subst e
              cases h
            exact valV_neg (fun z => this (Sum.inl.inj z).symm)
          · by_cases e : v = 0
            · subst e
              cases h
              exact ⟨_, valV_pos rfl, h2⟩
            · rw [show d0 v = none from if_neg e] at h
              cases h
          · rw [List.mem_singleton]
            constructor
            · rintro rfl h
              cases h
            · intro h
              by_cases e : v = 0
              · exact e
              · exact absurd (if_neg e) h
      · exact absurd hi (by show ¬ (1 < 1); decide)
    · rcases pv with ⟨h, _⟩ | ⟨_, F, kvs, e, c, hd⟩
      · cases h
      clear c0
      walk_at "vc"
      refine i_whlS ⟨WSp K H a s D bs n B, ⟨_, F, true, _, _, _, none, none, none, none, none, none, none, rfl, e, c, hd, SW.start bs, fun v hv => ?_, fun z => (nomatch z), rfl⟩, fun m σ H1 pv => ?_⟩
      · rw [List.mem_singleton] at hv
        subst hv
        have := ok.n0
        omega
      clear c hd e
      obtain ⟨F, g, kvs, ks, d, y5, y6, y7, y8, y9, y10, y11, rfl, e, c, hd, sw, rng, cl, rfl⟩ := pv
      walk_at "vc"
      cases g with
      | false =>
        walk_at "vc"
        refine ⟨lenB rfl, fun T nT => ?_⟩
        have hD := c.at 0 rfl
        have ne : T ≠ D := fun z => by rw [z, hD] at nT; cases nT
        have s1 := same_new (o := HO.tup [.ref D, .non]) nT
        refine q1 D T _ kvs ks d (e.trans (c.e.trans s1)) nD upd_same (s1 _ _ hD) ?_ sw (cl rfl)
        have eF : Same F (del (upd H1 T (.tup [.ref D, .non])) D) := fun b o hb => by
          have b1 : b ≠ D := fun z => by
            have := c.e _ _ hb
            have h2 := c.nF 0 rfl
            rw [z, h2] at hb
            cases hb
          rw [del_ne b1]
          exact s1 _ _ (c.e _ _ hb)
        exact hd.mono eF
      | true =>
        refine i_iteT ⟨fun σ' H' => ∃ m', m' < 2 * ms (n * B) n d + (if true = true then 1 else 0) ∧ WSp K H a s D bs n B m' σ' H', fun _ _ z => z, ?_⟩
        walk_at "vc"
        refine ⟨a, rfl, ⟨xs, (e.trans c.e).seq ha⟩, ?_⟩
        refine for_it (walk_list (K := K) (a := a) (xs := xs)) (PSp K H a s D bs n B d) ⟨F, false, _, _, _, _, _, _, _, _, _, _, rfl, e, c, hd, sw, rng, Nat.le_refl _, fun z => (nomatch z), fun _ _ hb => (nomatch hb)⟩ (fun i σ' H' _ pv => ?_) (fun i y σ' H2 H3 hi pv hy => ?_) fun σ' H' pv => ?_
        · obtain ⟨F, _, _, _, _, _, _, _, _, _, _, _, _, e, c, _⟩ := pv
          exact (e.trans c.e).seq ha
        · clear c hd sw rng e cl y5 y6 y7 y8 y9 y10 y11
          obtain ⟨F, g, kvs, ks, d1, y5, y6, y7, y8, y9, y10, y11, rfl, e, c, hd, sw, rng, le, lt, cl⟩ := pv
          obtain ⟨rfl, hv⟩ := hy
          have hi' : i < bs.length := by omega
          have hb : bs[i]? = some bs[i] := List.getElem?_eq_getElem hi'
          obtain ⟨v', hv', dv⟩ := dpa_get (i := i) (d := bD bs[i]) hx (by rw [List.getElem?_map, hb]; rfl)
          rw [hv] at hv'
          cases hv'
          have hB : bs[i] ∈ bs := List.getElem_mem hi'
          have st : bs.take (i + 1) = bs.take i ++ [bs[i]] := by
            rw [List.take_add_one, hb]
            rfl
          generalize hbd : bs[i] = bd at dv hB st
          clear hb hbd
          obtain ⟨t, kv, rfl, ht, hk⟩ := dp_bd dv
          have lk : kvs.length ≤ 1000 := by
            have := SPR.nodup_short hd.nd rng
            have := hd.len
            have := ok.n1
            omega
          have keep : Clo d1 bd → g = false → ∀ b ∈ bs.take (i + 1), Clo d1 b := fun h gf b hb => by
            rw [st, List.mem_append, List.mem_singleton] at hb
            rcases hb with hb | rfl
            · exact cl gf b hb
            · exact h
          have hD := c.at 0 rfl
          walk_at "vc"
          refine i_gtup (same_sqT (e.trans c.e) ht) rfl ?_
          walk_at "vc"
          have skip : Clo d1 bd → PSp K H a s D bs n B d (i + 1) [some (V.ref a), some (.ref s), some (.ref D), none, some (.bl g), some (.ref t), some (.int bd.l), some (.int bd.e), some (.int bd.m), some kv, y10, y11, none] H3 :=
            fun h => ⟨F, g, kvs, ks, d1, _, _, _, _, _, _, _, rfl, e, c, hd, sw, rng, le, lt, keep h⟩
          refine ⟨D, _, rfl, dw_get hD, ?_⟩
          cases he : d1 bd.e with
          | none =>
            rw [hd.non _ he]
            walk_at "vc"
            exact skip fun x u z => by rw [he] at z; cases z
          | some z =>
          obtain ⟨x, wy⟩ := z
          obtain ⟨ue, hue, due⟩ := hd.val _ _ he
          rw [hue]
          have ge : DGet H3 D (.int bd.e) (some ue) := by
            rw [← hue]
            exact dw_get hD
          obtain ⟨te, qe, xe, rfl, hte, hqe, hxe⟩ := dp_wd due
          have hte0 := hte
          have hte := same_sqT c.e hte
          have hqe := same_sqT c.e hqe
          walk_at "vc"
          refine ⟨D, _, rfl, dw_get hD, ?_⟩
          by_cases hlt : ∀ y u, d1 bd.l = some (y, u) → x + bd.m < y
          · cases hl : d1 bd.l
            case' none =>
              rw [hd.non _ hl]
              walk_at "vc"
            case' some z =>
              obtain ⟨y, wl⟩ := z
              obtain ⟨ul, hul, dul⟩ := hd.val _ _ hl
              obtain ⟨tl, ql, xl, rfl, htl, _⟩ := dp_wd dul
              have htl := same_sqT c.e htl
              rw [hul]
              walk_at "vc"
              refine ⟨D, _, rfl, ge, ?_⟩
              walk_at "vc"
              refine ⟨D, .ref tl, rfl, by rw [← hul]; exact dw_get hD, ?_⟩
              walk_at "vc"
              rw [decide_eq_true (hlt y wl hl)]
              walk_at "vc"
            all_goals
              refine ⟨D, _, rfl, ge, ?_⟩
              walk_at "vc"
              refine ⟨lenB rfl, fun T1 n1 => ?_⟩
              have ht3 := same_sqT (e.trans c.e) ht
              have c1 := c.new (.tup [.ref t]) n1
              have s1 := c.sub (u := .tup [.ref t]) n1
              have f1 := same_new (o := HO.tup [.ref t]) n1
              walk_at "vc"
              have lw := (sw.bound (n := n) (B := B) (fun s hs => (ok.r s hs).1) he).2
              have lxe : xe.length = wy.length := by rw [dpa_len hxe, List.length_map]
              refine i_catA (same_sqT f1 hqe) (SqT.of upd_same) (by have := ok.n1; rw [sizeLine_eq]; show xe.length + 1 ≤ _; omega) (by simp) fun W H4 hOr => ?_
              obtain ⟨F2, e2, c2, hW⟩ : ∃ F2, Same F F2 ∧ Cxs F2 [(D, .dK kvs)] H4 ∧ SqT K F2 W (xe ++ [.ref t]) := by
                rcases hOr with ⟨rfl, rfl, rfl⟩ | ⟨nW, rfl⟩
                · exact ⟨_, s1, c1, SqT.of upd_same⟩
                · exact ⟨_, s1.trans (c1.sub nW), c1.new _ nW, SqT.of upd_same⟩
              clear hOr c1 s1 f1
              have hwy : DpAll K F2 (xe ++ [V.ref t]) ((wy ++ [bd]).map bD) := by
                rw [List.map_append]
                exact (hxe.mono e2).snoc (VX.Dp.mono' dv (e.trans e2))
              obtain ⟨hch, hpre, hnd⟩ := sw.way hB he
              have lwy : (wy ++ [bd]).length = wy.length + 1 := by simp
              generalize hway : wy ++ [bd] = way at hwy hch hpre hnd lwy
              have lxs : (xe ++ [V.ref t]).length = way.length := by rw [dpa_len hwy, List.length_map]
              generalize xe ++ [V.ref t] = xs2 at hW hwy lxs
              walk_at "vc"
              refine i_iTup ?_
              walk_at "vc"
              refine ⟨W, rfl, ⟨xs2, same_sqT c2.e hW⟩, fun P1 nP => ?_⟩
              have c3 := c2.push (.lst []) nP
              refine lc_it (walk_tup (K := K) (a := W) (xs := xs2)) (fun j H' => Cxs F2 [(P1, .lst ((way.take j).map fun b => V.int b.e)), (D, .dK kvs)] H') c3 (fun j H' _ pv => same_sqT pv.e hW) (fun j x H5 H6 hj pv hy => ?_) fun H' pv => ?_
              · obtain ⟨rfl, hv⟩ := hy
                have hj' : j < way.length := by omega
                have hbj : way[j]? = some way[j] := List.getElem?_eq_getElem hj'
                obtain ⟨v', hv', dv2⟩ := dpa_get (i := j) (d := bD way[j]) hwy (by rw [List.getElem?_map, hbj]; rfl)
                rw [hv] at hv'
                cases hv'
                obtain ⟨tj, kj, rfl, htj, _⟩ := dp_bd dv2
                have htj := same_sqT pv.e htj
                walk_at "vc"
                refine ⟨_, pv.at 0 rfl, by rw [List.length_map, List.length_take]; have := ok.n1; exact lenB' (by omega), ?_⟩
                have := pv.turn 0 rfl (.lst ((way.take j).map (fun b => V.int b.e) ++ [.int way[j].e]))
                rw [List.take_add_one, hbj, List.map_append]
                exact this
              · rw [lxs, List.take_length] at pv
                clear c2 c3
                have lN : way.length ≤ n := by
                  have := SPR.nodup_short (n := n) hnd fun y hy => by
                    obtain ⟨s, hs, rfl⟩ := List.mem_map.mp hy
                    have := (ok.r s (hch.mem s hs)).1
                    omega
                  rwa [List.length_map] at this
                have mp : (way.map fun b => V.int b.e) = (way.map Bd.e).map V.int := by rw [List.map_map]; rfl
                rw [mp] at pv
                have hP := pv.at 0 rfl
                walk_at "vc"
                refine ⟨P1, _, rfl, .inl (SqL.of hP), rfl, flat_ints _, ?_⟩
                rw [inV_ints]
                by_cases hm : bd.l ∈ way.map Bd.e
                · rw [decide_eq_true hm]
                  walk_at "vc"
                  obtain ⟨j, hj, hle, hj2⟩ := first_at hm
                  rw [List.length_map] at hj2
                  refine i_sl ?_
                  walk_at "vc"
                  refine i_part ?_
                  refine i_bmL ?_
                  walk_at "vc"
                  refine ⟨P1, _, .int bd.l, j, .int bd.l, rfl, rfl, SqL.of hP, rfl, flat_ints _, by rw [List.getElem?_map, hj]; rfl, by simp [eqV], fun m z' hm2 hz => ?_, ?_⟩
                  · rw [List.getElem?_map] at hz
                    obtain ⟨i2, hi2, rfl⟩ := Option.map_eq_some_iff.mp hz
                    have := hle m i2 hm2 hi2
                    simp [eqV, this]
                  refine ⟨_, rfl, i_noPart ?_⟩
                  refine i_slA (same_sqT pv.e hW) fun R H7 hOr => ?_
                  have cutE : cutV xs2 (some (j : Int)) none = xs2.drop j := by
                    unfold cutV
                    rw [HT.sIx_nat, HT.sIx_none, Nat.min_eq_left (by omega)]
                    exact List.take_of_length_le (by rw [List.length_drop]; omega)
                  rw [cutE] at hOr
                  have e7 : Same H' H7 := by
                    rcases hOr with ⟨rfl, _⟩ | ⟨nR, rfl⟩
                    · exact Same.refl _
                    · exact same_new nR
                  have hR : SqT K H7 R (xs2.drop j) := by
                    rcases hOr with ⟨rfl, rfl, z⟩ | ⟨nR, rfl⟩
                    · rw [z]
                      exact same_sqT pv.e hW
                    · exact SqT.of upd_same
                  walk_at "vc"
                  refine ⟨lenB rfl, fun T nT => ?_⟩
                  have sT := same_new (o := HO.tup [.ref D, .ref R]) nT
                  have eAll : Same H (upd H7 T (.tup [.ref D, .ref R])) := e.trans (e2.trans (pv.e.trans (e7.trans sT)))
                  have dR : Dp K (upd H7 T (.tup [.ref D, .ref R])) (.ref R) (.tuple ((way.drop j).map bD)) := by
                    refine .tup (same_sqT sT hR) ?_
                    rw [List.map_drop]
                    exact (dpa_drop hwy j).mono (pv.e.trans (e7.trans sT))
                  obtain ⟨sj, hsj, hse⟩ : ∃ sj, way[j]? = some sj ∧ sj.e = bd.l := by
                    rw [List.getElem?_map] at hj
                    obtain ⟨sj, h1, h2⟩ := Option.map_eq_some_iff.mp hj
                    exact ⟨sj, h1, h2⟩
                  have hsplit : wy ++ [bd] = way.take j ++ sj :: way.drop (j + 1) := by
                    rw [hway]
                    have := List.getElem?_eq_some_iff.mp hsj
                    obtain ⟨h1, h2⟩ := this
                    rw [← h2, ← List.drop_eq_getElem_cons h1, List.take_append_drop]
                  exact q2 D T R _ (way.drop j) eAll upd_same dR (fun r hr => hch.mem r (List.mem_of_mem_drop hr)) (by rw [List.length_drop]; omega) (sw.ring hB he hlt hsplit hse)
                · rw [decide_eq_false hm]
                  walk_at "vc"
                  have hD7 := pv.at 1 rfl
                  refine ⟨D, .ref te, rfl, by rw [← hue]; exact dw_get hD7, ?_⟩
                  have hte7 : SqT K H' te [.int x, .ref qe] := same_sqT (e2.trans pv.e) hte0
                  walk_at "vc"
                  refine ⟨lenB rfl, fun T5 n5 => ?_⟩
                  walk_at "vc"
                  have pk := pv.keep
                  have sk := pv.keepS
                  have c5 := pk.new (.tup [.int (x + bd.m), .ref W]) n5
                  have s5 := pk.sub (u := .tup [.int (x + bd.m), .ref W]) n5
                  have e5 : Same F2 (upd (upd F2 P1 (.lst ((way.map Bd.e).map V.int))) T5 (.tup [.int (x + bd.m), .ref W])) := sk.trans s5
                  have du : Dp K (upd (upd F2 P1 (.lst ((way.map Bd.e).map V.int))) T5 (.tup [.int (x + bd.m), .ref W])) (.ref T5) (wD (x + bd.m, way)) :=
                    .tup (SqT.of upd_same) (.cons (.int _) (.cons (.tup (same_sqT e5 hW) (hwy.mono e5)) .nil))
                  refine i_setDK (c5.at 0 rfl) (by omega) ?_
                  have c6 := c5.turn 0 rfl (.dK (putK kvs (.inl bd.l) (.ref T5)))
                  walk_at "vc"
                  have hn : bd.l ∉ (wy ++ [bd]).map Bd.e := by rw [hway]; exact hm
                  have ml := ms_less (fun s hs => (ok.r s hs).1) (ok.r bd hB).2 sw hB he hlt hn
                  have sp := sw.put hB he hlt hn
                  rw [hway] at ml sp
                  refine ⟨_, true, _, _, _, _, _, _, _, _, _, _, rfl, e.trans (e2.trans e5), c6, (hd.mono (e2.trans e5)).put bd.l du, sp, fun v hv => ?_, by omega, fun _ => by omega, fun z => (nomatch z)⟩
                  split at hv
                  · exact rng v hv
                  · rcases List.mem_append.mp hv with hv | hv
                    · exact rng v hv
                    · rw [List.mem_singleton] at hv
                      subst hv
                      exact (ok.r bd hB).2
          · have : ∃ y wl, d1 bd.l = some (y, wl) ∧ y ≤ x + bd.m := by
              cases hl : d1 bd.l with
              | none => exact absurd (fun y u h => by rw [hl] at h; cases h) hlt
              | some z =>
                obtain ⟨z1, z2⟩ := z
                refine ⟨z1, z2, rfl, ?_⟩
                by_cases q : z1 ≤ x + bd.m
                · exact q
                · exact absurd (fun y u h => by
                    have h3 : z1 = y := congrArg Prod.fst (Option.some.inj (hl.symm.trans h))
                    omega) hlt
            obtain ⟨y, wl, hl, hle⟩ := this
            obtain ⟨ul, hul, dul⟩ := hd.val _ _ hl
            obtain ⟨tl, ql, xl, rfl, htl, _⟩ := dp_wd dul
            have htl := same_sqT c.e htl
            rw [hul]
            walk_at "vc"
            refine ⟨D, _, rfl, ge, ?_⟩
            walk_at "vc"
            refine ⟨D, .ref tl, rfl, by rw [← hul]; exact dw_get hD, ?_⟩
            walk_at "vc"
            rw [decide_eq_false (show ¬ x + bd.m < y by omega)]
            walk_at "vc"
            exact skip fun x' u z => by
              rw [he] at z
              cases z
              exact ⟨y, wl, hl, hle⟩
        · clear c hd sw rng e cl y5 y6 y7 y8 y9 y10 y11
          obtain ⟨F, g, kvs, ks, d1, y5, y6, y7, y8, y9, y10, y11, rfl, e, c, hd, sw, rng, le, lt, cl⟩ := pv
          refine ⟨2 * ms (n * B) n d1 + (if g = true then 1 else 0), ?_, F, g, kvs, ks, d1, y5, y6, y7, y8, y9, y10, y11, rfl, e, c, hd, sw, rng, fun gf => ?_, rfl⟩
          · cases g with
            | false =>
              show 2 * ms (n * B) n d1 + 0 < 2 * ms (n * B) n d + 1
              omega
            | true =>
              have := lt rfl
              show 2 * ms (n * B) n d1 + 1 < 2 * ms (n * B) n d + 1
              omega
          · rw [List.take_of_length_le (by omega)] at cl
            exact cl gf
end
end
section
set_option maxRecDepth 100000
set_option maxHeartbeats 1000000
open PySem PySem.Spec PyProof.Rows L2 VX SPR
local macro_rules | `(tactic| walk_at "cl") => `(tactic| exact Txt.cl_Line (by assumption))
local macro_rules | `(tactic| walk_at "na") => `(tactic| first | exact Txt.na_Line_size (by assumption) | exact Txt.na_Line__spans (by assumption) | exact Txt.na_Line__mosts (by assumption))
def dP (p : Int × Int) : PyData := .tuple [.int p.1, .int p.2]
/-- the neighbours on the way from s to t -/
def stp (s t : Int) : List (Int × Int) := if s < t then (List.range (t - s).toNat).map fun i : Nat => (s + (i : Nat) * 1, s + (i : Nat) * 1 + 1) else (List.range (s - t).toNat).map fun i : Nat => (s + (i : Nat) * (-1), s + (i : Nat) * (-1) + -1)
theorem dp_dP {K : PySem.W.Frag} {H : Hp} {v : V} {p : Int × Int} (h : Dp K H v (dP p)) : ∃ t, v = .ref t ∧ SqT K H t [.int p.1, .int p.2] := by
  cases h with
  | @tup a xs _ hs ha =>
  cases ha with
  | cons h1 ha =>
  cases ha with
  | cons h2 ha =>
  cases ha
  cases h1
  cases h2
  exact ⟨a, rfl, hs⟩
theorem stp_at {n s t : Int} (s0 : 0 ≤ s) (s1 : s < n) (t0 : 0 ≤ t) (t1 : t < n) : ∀ p ∈ stp s t, (0 ≤ p.1 ∧ p.1 < n) ∧ (0 ≤ p.2 ∧ p.2 < n) ∧ ((s < t ∧ p.2 = p.1 + 1 ∧ s ≤ p.1 ∧ p.2 ≤ t) ∨ (¬ s < t ∧ p.2 = p.1 - 1 ∧ p.1 ≤ s ∧ t ≤ p.2)) := by
  intro p hp
  unfold stp at hp
  split at hp
  · obtain ⟨i, hi, rfl⟩ := List.mem_map.mp hp
    rw [List.mem_range] at hi
    refine ⟨⟨?_, ?_⟩, ⟨?_, ?_⟩, .inl ⟨by assumption, ?_, ?_, ?_⟩⟩ <;> simp only <;> omega
  · obtain ⟨i, hi, rfl⟩ := List.mem_map.mp hp
    rw [List.mem_range] at hi
    refine ⟨⟨?_, ?_⟩, ⟨?_, ?_⟩, .inr ⟨by assumption, ?_, ?_, ?_⟩⟩ <;> simp only <;> omega
section
variable {w : World} {K : PySem.W.Frag} {mg : Str → Option Value} {base : Heap} {A : Adr}
/-- new pairs, one by one -/
def Prs (H H' : Hp) (xs : List V) (ps : List (Int × Int)) : Prop := xs.length = ps.length ∧ ∀ (i : Nat) p, ps[i]? = some p → ∃ t, xs[i]? = some (.ref t) ∧ H t = none ∧ H' t = some (.tup [.int p.1, .int p.2])
theorem Prs.snoc {H H1 H2 : Hp} {xs : List V} {ps : List (Int × Int)} {p : Int × Int} {t : Addr} (h : Prs H H1 xs ps) (e : ∀ b, H b = none → ∀ o, H1 b = some (.tup o) → H2 b = some (.tup o)) (n : H t = none) (ht : H2 t = some (.tup [.int p.1, .int p.2])) : Prs H H2 (xs ++ [.ref t]) (ps ++ [p]) := by
  refine ⟨by simp [h.1], fun i q hq => ?_⟩
  by_cases z : i < ps.length
  · rw [List.getElem?_append_left z] at hq
    obtain ⟨u, h1, h2, h3⟩ := h.2 i q hq
    exact ⟨u, by rw [List.getElem?_append_left (by rw [h.1]; exact z)]; exact h1, h2, e u h2 _ h3⟩
  · rw [List.getElem?_append_right (by omega)] at hq
    have e0 : i = ps.length := by
      have := (List.getElem?_eq_some_iff.mp hq).1
      simp at this
      omega
    subst e0
    rw [Nat.sub_self] at hq
    cases hq
    exact ⟨t, by rw [List.getElem?_append_right (by rw [h.1]; exact Nat.le_refl _), h.1, Nat.sub_self]; rfl, n, ht⟩
def spStretch (K : PySem.W.Frag) : Sp := fun vs H Q _ => ∃ (s t : Int), vs = [.int s, .int t] ∧ 0 ≤ s ∧ s < 1000 ∧ 0 ≤ t ∧ t < 1000 ∧ ∀ D H' xs, Same H H' → H D = none → H' D = some (.lst xs) → Prs H H' xs (stp s t) → Q (.ref D) H'
theorem RgC.pos {i j : Int} (ha : -(2 ^ 62) ≤ i) (ha' : i < 2 ^ 62) (hb : -(2 ^ 62) ≤ j) (hb' : j < 2 ^ 62) : RgC i j 1 (j - i).toNat :=
  ⟨by decide, by decide, PySem.small_one ha ha' hb hb', rangeSize_nat i j⟩
theorem i_rng3 {ta : TA} {σ : L2.St} {H : Hp} {R : It → Hp → Prop} (q : ta σ H fun vs H1 => ∃ (i j c : Int) (n : Nat), vs = [.int i, .int j, .int c] ∧ RgC i j c n ∧ R (Itc i c n) H1) : iRng3 ta σ H R := q
theorem ok_stretch (T : Txt K mg A) : FnOk P w K mg base CX0 1 A.f_stretch A.d_stretch ["source", "target"] (spStretch K) := by
  refine T.F_stretch.ok sc_stretch (fun vs H Q E h => ?_) (fun cdv A' outer s0 H vs Q E hr h => ?_)
  · obtain ⟨s, t, rfl, _⟩ := h
    rfl
  · obtain ⟨s, t, rfl, s0, s1, t0, t1, q⟩ := h
    refine ⟨_, (pss_cons (ps_set (i := 2) sc_stretch.nd rfl (Or.inr rfl) (pe_ifExp (pt_cmpR op_lt (pv 0) (pv 1) (nomark _)) pe_int (pe_un un_neg pe_int)))
      (pss_one (ps_ret (pe_lc (own := [("box", 3)]) (g := gName 3) (tt := tYes) (by rfl) sc_stretch.nd (pi_range3 (by rfl) T.n_range (pa_cons (pv 0) (pa_cons (pv 1) (pa_cons (pv 2) pa_nil)))) (blkOk_by (N := N_stretch) (sc := defScope s_stretch) (by decide +kernel)) (fun _ _ _ _ _ => (pg_name (i := 3) sc_stretch.nd rfl (Or.inl rfl))) (fun _ _ _ _ _ => pts_nil) (fun _ _ _ _ _ => (pe_tup (pa_cons (pv 3) (pa_cons (pe_op op_add (pv 3) (pv 2)) pa_nil)))))))), ?_⟩
    refine i_start (σ' := [some (V.int s), some (.int t), none, none]) rfl ?_
    walk_at "vc"
    refine i_iteD (fun h => ?_) (fun h => ?_)
    · walk_at "vc"
      refine i_rng3 ?_
      walk_at "vc"
      refine ⟨s, t, 1, (t - s).toNat, rfl, RgC.pos (by omega) (by omega) (by omega) (by omega), fun D nD => ?_⟩
      have hn : stp s t = (List.range (t - s).toNat).map fun i : Nat => (s + (i : Nat) * 1, s + (i : Nat) * 1 + 1) := if_pos h
      refine lc_it walk_rangeC (fun i H' => ∃ xs, Same H (del H' D) ∧ H' D = some (.lst xs) ∧ Prs H H' xs ((List.range i).map fun i : Nat => (s + (i : Nat) * 1, s + (i : Nat) * 1 + 1))) ⟨[], fun b o hb => by rw [del_ne (ne_of_none hb nD), upd_ne (ne_of_none hb nD)]; exact hb, upd_same, rfl, fun _ _ h => (nomatch h)⟩ (fun _ _ _ _ => trivial) (fun i x H5 H6 hi pv y => ?_) fun H' pv => ?_
      · obtain ⟨xs, e, hD, hp⟩ := pv
        obtain ⟨rfl, rfl⟩ := y
        walk_at "vc"
        refine ⟨lenB rfl, fun T1 n1 => ?_⟩
        have ne : T1 ≠ D := fun z => by rw [z, hD] at n1; cases n1
        have lx : xs.length ≤ 1000 := by
          rw [hp.1, List.length_map, List.length_range]
          omega
        refine ⟨xs, (upd_ne (Ne.symm ne)).trans hD, lenB' lx, _, fun b o hb => ?_, upd_same, ?_⟩
        · have h1 := e b o hb
          have b1 : b ≠ D := fun z => by rw [z, nD] at hb; cases hb
          rw [del_ne b1] at h1 ⊢
          rw [upd_ne b1, upd_ne (ne_of_none h1 n1)]
          exact h1
        · rw [List.range_succ, List.map_append]
          refine hp.snoc (fun b nb o ho => ?_) ((e.trans same_del).free n1) ?_
          · have b1 : b ≠ D := fun z => by rw [z, hD] at ho; cases ho
            rw [upd_ne b1, upd_ne (ne_of_none ho n1)]
            exact ho
          · rw [upd_ne ne]
            exact upd_same
      · obtain ⟨xs, e, hD, hp⟩ := pv
        exact q D H' xs (e.trans same_del) nD hD (hn ▸ hp)
    · walk_at "vc"
      refine i_rng3 ?_
      walk_at "vc"
      refine ⟨s, t, -1, (s - t).toNat, rfl, RgC.neg (by omega) (by omega) (by omega) (by omega), fun D nD => ?_⟩
      have hn : stp s t = (List.range (s - t).toNat).map fun i : Nat => (s + (i : Nat) * (-1), s + (i : Nat) * (-1) + -1) := if_neg h
      refine lc_it walk_rangeC (fun i H' => ∃ xs, Same H (del H' D) ∧ H' D = some (.lst xs) ∧ Prs H H' xs ((List.range i).map fun i : Nat => (s + (i : Nat) * (-1), s + (i : Nat) * (-1) + -1))) ⟨[], fun b o hb => by rw [del_ne (ne_of_none hb nD), upd_ne (ne_of_none hb nD)]; exact hb, upd_same, rfl, fun _ _ h => (nomatch h)⟩ (fun _ _ _ _ => trivial) (fun i x H5 H6 hi pv y => ?_) fun H' pv => ?_
      · obtain ⟨xs, e, hD, hp⟩ := pv
        obtain ⟨rfl, rfl⟩ := y
        walk_at "vc"
        refine ⟨lenB rfl, fun T1 n1 => ?_⟩
        have ne : T1 ≠ D := fun z => by rw [z, hD] at n1; cases n1
        have lx : xs.length ≤ 1000 := by
          rw [hp.1, List.length_map, List.length_range]
          omega
        refine ⟨xs, (upd_ne (Ne.symm ne)).trans hD, lenB' lx, _, fun b o hb => ?_, upd_same, ?_⟩
        · have h1 := e b o hb
          have b1 : b ≠ D := fun z => by rw [z, nD] at hb; cases hb
          rw [del_ne b1] at h1 ⊢
          rw [upd_ne b1, upd_ne (ne_of_none h1 n1)]
          exact h1
        · rw [List.range_succ, List.map_append]
          refine hp.snoc (fun b nb o ho => ?_) ((e.trans same_del).free n1) ?_
          · have b1 : b ≠ D := fun z => by rw [z, hD] at ho; cases ho
            rw [upd_ne b1, upd_ne (ne_of_none ho n1)]
            exact ho
          · rw [upd_ne ne]
            exact upd_same
      · obtain ⟨xs, e, hD, hp⟩ := pv
        exact q D H' xs (e.trans same_del) nD hD (hn ▸ hp)
/-! ### wires of neighbours -/
def lk (us : List W4) (a b : Int) : Option W4 := us.find? fun u => decide (u.s = a) && decide (u.t = b)
def loI (us : List W4) (a b : Int) : Int := ((lk us a b).map W4.lo).getD 0
def hiI (us : List W4) (a b : Int) : Int := ((lk us a b).bind W4.hi).getD 0
/-- every two neighbours are joined both ways, with a highest number of hours -/
structure Nb (n : Int) (us : List W4) : Prop where
  nd : (us.map W4.k).Nodup
  nb : ∀ a b, 0 ≤ a → a < n → 0 ≤ b → b < n → (b = a + 1 ∨ b = a - 1) → ∃ u ∈ us, u.s = a ∧ u.t = b ∧ ∃ g, u.hi = some g ∧ u.lo ≤ g
  lo : ∀ u ∈ us, 1 ≤ u.lo
theorem lk_one {us : List W4} (nd : (us.map W4.k).Nodup) {u : W4} (hu : u ∈ us) : lk us u.s u.t = some u := by
  unfold lk
  induction us with
  | nil => cases hu
  | cons v us ih =>
    rw [List.map_cons, List.nodup_cons] at nd
    rcases List.mem_cons.mp hu with rfl | hu
    · simp
    · have ne : ¬(v.s = u.s ∧ v.t = u.t) := fun z => nd.1 (List.mem_map.mpr ⟨u, hu, by show [u.s, u.t] = [v.s, v.t]; rw [z.1, z.2]⟩)
      rw [List.find?_cons_of_neg (by simpa using fun z => fun y => ne ⟨z, y⟩)]
      exact ih nd.2 hu
theorem Nb.get {n : Int} {us : List W4} (h : Nb n us) {a b : Int} (a0 : 0 ≤ a) (a1 : a < n) (b0 : 0 ≤ b) (b1 : b < n) (e : b = a + 1 ∨ b = a - 1) : ∃ u ∈ us, u.s = a ∧ u.t = b ∧ u.lo = loI us a b ∧ u.hi = some (hiI us a b) ∧ loI us a b ≤ hiI us a b := by
  obtain ⟨u, hu, rfl, rfl, g, hg, hl⟩ := h.nb a b a0 a1 b0 b1 e
  have := lk_one h.nd hu
  refine ⟨u, hu, rfl, rfl, ?_, ?_, ?_⟩
  · unfold loI
    rw [this]
    rfl
  · unfold hiI
    rw [this]
    show u.hi = some (u.hi.getD 0)
    rw [hg]
    rfl
  · unfold loI hiI
    rw [this]
    show u.lo ≤ u.hi.getD 0
    rw [hg]
    exact hl
/-- a wish: from l to e within m hours -/
def WshOk (n : Int) (b : B3) : Prop := (0 ≤ b.l ∧ b.l < n) ∧ (0 ≤ b.e ∧ b.e < n) ∧ b.l ≠ b.e ∧ 0 ≤ b.m
def spChk (A : Adr) : Sp := fun vs H Q _ => ∃ (x : Addr) (n i : Int) (us : List W4) (cs : List B3) (b : B3), vs = [.ref x, .int i, .int b.l, .int b.e, .int b.m] ∧ IsLine A.c_Line H x n us cs ∧ us.length ≤ 1000 ∧ n ≤ 900 ∧ Nb n us ∧ WshOk n b ∧ ∀ H', Same H H' → Q .non H'
theorem ok_check_wish (T : Txt K mg A) : FnOk P w K mg base CX0 5 A.f_check_wish A.d_check_wish ["line", "index", "source", "target", "hours"] (spChk A) := by
  refine T.F_check_wish.ok sc_check_wish (fun vs H Q E h => ?_) (fun cdv A' outer s0 H vs Q E hr h => ?_)
  · obtain ⟨x, n, i, us, cs, b, rfl, _⟩ := h
    rfl
  · obtain ⟨x, n, i, us, cs, b, rfl, hl, lu, n9, nb, ⟨⟨l0, l1⟩, ⟨e0, e1⟩, ne, m0⟩, q⟩ := h
    refine ⟨_, (pss_cons (ps_expr (pe_call (ok_check_box T) (hr.mono (by decide)) (by rfl) T.g_check_box T.F_check_box.kp (b_check_box T) .nil passF (pa_cons (pv 0) (pa_cons (pv 2) pa_nil))))
      (pss_cons (ps_expr (pe_call (ok_check_box T) (hr.mono (by decide)) (by rfl) T.g_check_box T.F_check_box.kp (b_check_box T) .nil passF (pa_cons (pv 0) (pa_cons (pv 3) pa_nil))))
      (pss_cons (ps_if (PW.pt (pw_or (pt_cmpR op_eq (pv 2) (pv 3) (nomark _)) (pw_or1 (pt_cmpR op_lt (pv 4) pe_int (nomark _))))) (pss_one ps_never) pss_nil)
      (pss_one (ps_for PassesOwn.never rfl (pi_list (pe_call (ok_stretch T) (hr.mono (by decide)) (by rfl) T.g_stretch T.F_stretch.kp (b_stretch T) .nil pass0 (pa_cons (pv 2) (pa_cons (pv 3) pa_nil)))) (pg_tup rfl (pgs_cons (pg_name (i := 5) sc_check_wish.nd rfl (Or.inl rfl)) (pgs_cons (pg_name (i := 6) sc_check_wish.nd rfl (Or.inl rfl)) pgs_nil)))
      (pss_one (ps_if (PW.pt (pw_or (pt_cmpR op_notIn_seq (pv 6) (pe_meth (pv 0) T.cl_Line T.m_Line_targets (ok_Line_targets T) (hr.mono (by decide)) (b_Line_targets T) .nil passF (pa_cons (pv 5) pa_nil)) (by rfl)) (pw_or1 (pt_cmpR op_isN (pe_ix (r := rIxT K) ix_tup (pe_meth (pv 0) T.cl_Line T.m_Line_wire (ok_Line_wire T) (hr.mono (by decide)) (b_Line_wire T) .nil passF (pa_cons (pv 5) (pa_cons (pv 6) pa_nil))) pe_int (fun _ _ => rfl)) pe_non (nomark _))))) (pss_one ps_never) pss_nil))))))), ?_⟩
    refine i_start (σ' := [some (V.ref x), some (.int i), some (.int b.l), some (.int b.e), some (.int b.m), none, none]) rfl ?_
    walk_at "vc"
    refine i_check hl.sized l0 l1 ?_
    walk_at "vc"
    refine i_check hl.sized e0 e1 ?_
    walk_at "vc"
    refine i_iteDF ne ?_
    walk_at "vc"
    refine i_iteDF (by omega) ?_
    walk_at "vc"
    refine ⟨b.l, b.e, rfl, l0, by omega, e0, by omega, fun D H1 xs e1' nD hD hx => ?_⟩
    walk_at "vc"
    refine ⟨D, rfl, ⟨xs, SqL.of hD⟩, ?_⟩
    have lx : xs.length = (stp b.l b.e).length := hx.1
    refine for_it (walk_list (K := K) (a := D) (xs := xs)) (fun i' σ' H' => ∃ y5 y6, σ' = [some (V.ref x), some (.int i), some (.int b.l), some (.int b.e), some (.int b.m), y5, y6] ∧ Same H1 H') ⟨_, _, rfl, Same.refl _⟩ (fun i' σ' H' _ pv => ?_) (fun j y σ' H2 H3 hj pv hy => ?_) fun σ' H' pv => ?_
    · obtain ⟨_, _, _, e⟩ := pv
      exact SqL.of (e _ _ hD)
    · obtain ⟨y5, y6, rfl, e⟩ := pv
      obtain ⟨rfl, hv⟩ := hy
      have hj' : j < (stp b.l b.e).length := by omega
      obtain ⟨t, hv', _, ht⟩ := hx.2 j (stp b.l b.e)[j] (List.getElem?_eq_getElem hj')
      rw [hv] at hv'
      cases hv'
      have at_ := stp_at l0 l1 e0 e1 _ (List.getElem_mem hj')
      generalize (stp b.l b.e)[j] = p at ht at_
      obtain ⟨p1, p2⟩ := p
      obtain ⟨⟨a0, a1⟩, ⟨b0, b1⟩, ab⟩ := at_
      simp only at a0 a1 b0 b1 ab
      have ht : SqT K H3 t [.int p1, .int p2] := SqT.of (e _ _ ht)
      have hl3 := hl.mono (e1'.trans e)
      obtain ⟨u, hu, us1, ut1, ulo, uhi, _⟩ := nb.get a0 a1 b0 b1 (by omega)
      refine i_gtup ht rfl ?_
      walk_at "vc"
      obtain ⟨dx, d1, d2, js, ms, hx3, _⟩ := id hl3
      refine ⟨x, dx, _, rfl, hx3, rfl, ?_⟩
      walk_at "vc"
      refine ⟨x, n, p1, us, cs, rfl, hl3, lu, fun _ _ D4 H4 s4 n4 h4 => ?_, fun hb => by omega⟩
      walk_at "vc"
      refine ⟨D4, _, rfl, .inl (SqL.of h4), rfl, flat_ints _, ?_⟩
      rw [inV_ints, decide_eq_true (show p2 ∈ (us.filter fun u => decide (u.s = p1)).map W4.t from List.mem_map.mpr ⟨u, List.mem_filter.mpr ⟨hu, by simp [us1]⟩, ut1⟩)]
      walk_at "vc"
      refine ⟨x, dx, _, rfl, s4 _ _ hx3, rfl, ?_⟩
      walk_at "vc"
      refine ⟨H4, x, n, p1, p2, us, cs, rfl, Same.refl _, hl3.mono s4, nb.nd, fun u' hu' e1'' e2'' _ _ _ _ q4 H5 s5 hq => ?_, fun hb => by omega, fun _ _ hb => by omega, fun _ _ _ _ hn => absurd ⟨us1, ut1⟩ (hn u hu)⟩
      obtain rfl : u' = u := by
        have h1 := lk_one nb.nd hu'
        have h2 := lk_one nb.nd hu
        rw [us1, ut1] at h2
        rw [e1'', e2'', h2] at h1
        exact (Option.some.inj h1).symm
      rw [uhi] at hq
      have hq5 := s5 _ _ hq
      walk_at "vc"
      exact ⟨_, _, rfl, e.trans (s4.trans s5)⟩
    · obtain ⟨_, _, rfl, e⟩ := pv
      walk_at "vc"
      exact q _ (e1'.trans e)
/-! ### a dict of what is known of some numbers -/
structure DD (K : PySem.W.Frag) (F : Hp) (kvs : List (L2.Key × V)) (ks : List Int) (f : Int → PyData) : Prop where
  keys : kvs.map (·.1) = ks.map Sum.inl
  val : ∀ p ∈ ks, ∃ u, valV kvs (.inl p) = some u ∧ Dp K F u (f p)
  nd : ks.Nodup
theorem DD.nil {F : Hp} {f : Int → PyData} : DD K F [] [] f := ⟨rfl, fun _ h => (nomatch h), List.nodup_nil⟩
theorem DD.mono {F F' : Hp} {kvs : List (L2.Key × V)} {ks : List Int} {f : Int → PyData} (x : DD K F kvs ks f) (e : Same F F') : DD K F' kvs ks f := ⟨x.keys, fun p h => let ⟨u, h1, h2⟩ := x.val p h; ⟨u, h1, VX.Dp.mono' h2 e⟩, x.nd⟩
theorem DD.len {F : Hp} {kvs : List (L2.Key × V)} {ks : List Int} {f : Int → PyData} (x : DD K F kvs ks f) : kvs.length = ks.length := by
  have := congrArg List.length x.keys
  rwa [List.length_map, List.length_map] at this
theorem DD.put {F : Hp} {kvs : List (L2.Key × V)} {ks : List Int} {f : Int → PyData} (x : DD K F kvs ks f) (s : Int) {u : V} (hu : Dp K F u (f s)) : DD K F (putK kvs (.inl s) u) (if s ∈ ks then ks else ks ++ [s]) f := by
  have hv : ∀ v, v = s ∨ v ∈ ks → ∃ u', valV (putK kvs (.inl s) u) (.inl v) = some u' ∧ Dp K F u' (f v) := fun v h => by
    rw [valV_put]
    by_cases e : v = s
    · subst e
      exact ⟨u, if_pos rfl, hu⟩
    · rw [if_neg (fun z => e (Sum.inl.inj z))]
      exact x.val v (h.resolve_left e)
  by_cases hs : s ∈ ks
  · rw [if_pos hs]
    refine ⟨?_, fun v h => hv v (.inr h), x.nd⟩
    unfold putK
    rw [any_keys x.keys, decide_eq_true hs, if_pos rfl, List.map_map]
    rw [← x.keys]
    apply List.map_congr_left
    intro p _
    show (if p.1 = Sum.inl s then (p.1, u) else p).1 = p.1
    split <;> rfl
  · rw [if_neg hs]
    refine ⟨?_, fun v h => hv v ?_, ?_⟩
    · unfold putK
      rw [any_keys x.keys, decide_eq_false hs, if_neg Bool.false_ne_true, List.map_append, List.map_append, x.keys]
      rfl
    · rcases List.mem_append.mp h with h | h
      · exact .inr h
      · exact .inl (by simpa using h)
    · rw [List.nodup_append]
      exact ⟨x.nd, by simp, fun a ha c hc e => hs (by
        have : c = s := by simpa using hc
        rw [← this, ← e]
        exact ha)⟩
theorem keys_at {kvs : List (L2.Key × V)} {ks : List Int} (h : kvs.map (·.1) = ks.map Sum.inl) (nd : ks.Nodup) : ∀ (i : Nat) (k : L2.Key) (v : V), kvs[i]? = some (k, v) → ∃ p, ks[i]? = some p ∧ k = Sum.inl p ∧ valV kvs (.inl p) = some v := by
  induction kvs generalizing ks with
  | nil => intro i k v h; cases i <;> cases h
  | cons q kvs ih =>
    cases ks with
    | nil => cases h
    | cons p ks =>
      obtain ⟨h1, h2⟩ := List.cons.inj h
      rw [List.nodup_cons] at nd
      intro i k v hi
      cases i with
      | zero =>
        cases hi
        exact ⟨p, rfl, h1, valV_pos h1⟩
      | succ i =>
        obtain ⟨p', e1, e2, e3⟩ := ih h2 nd.2 i k v hi
        refine ⟨p', e1, e2, (valV_neg fun z => ?_).trans e3⟩
        rw [show q.1 = Sum.inl p from h1] at z
        have : p = p' := Sum.inl.inj z
        exact nd.1 (this ▸ List.mem_of_getElem? e1)
theorem DD.at {F : Hp} {kvs : List (L2.Key × V)} {ks : List Int} {f : Int → PyData} (x : DD K F kvs ks f) {i : Nat} {k : L2.Key} {v : V} (h : kvs[i]? = some (k, v)) : ∃ p, ks[i]? = some p ∧ k = Sum.inl p ∧ Dp K F v (f p) := by
  obtain ⟨p, h1, h2, h3⟩ := keys_at x.keys x.nd i k v h
  obtain ⟨u, h4, h5⟩ := x.val p (List.mem_of_getElem? h1)
  rw [h3] at h4
  cases h4
  exact ⟨p, h1, h2, h5⟩
def aE (east : Bool) (p : Int) : Int := if east then p else p + 1
def bE (east : Bool) (p : Int) : Int := if east then p + 1 else p
def wdv (us : List W4) (east : Bool) (p : Int) : PyData := .tuple [.int (aE east p), .int (bE east p), .int (loI us (aE east p) (bE east p)), .int (hiI us (aE east p) (bE east p))]
def Cov (b : B3) (east : Bool) (p : Int) : Prop := decide (b.l < b.e) = east ∧ min b.l b.e ≤ p ∧ p < max b.l b.e
theorem stp_cov (s t p : Int) : (∃ q ∈ stp s t, min q.1 q.2 = p) ↔ min s t ≤ p ∧ p < max s t := by
  unfold stp
  constructor
  · rintro ⟨q, hq, rfl⟩
    split at hq
    · obtain ⟨i, hi, rfl⟩ := List.mem_map.mp hq
      rw [List.mem_range] at hi
      simp only
      omega
    · obtain ⟨i, hi, rfl⟩ := List.mem_map.mp hq
      rw [List.mem_range] at hi
      simp only
      omega
  · intro h
    split
    · exact ⟨_, List.mem_map.mpr ⟨(p - s).toNat, List.mem_range.mpr (by omega), rfl⟩, by simp only; omega⟩
    · exact ⟨_, List.mem_map.mpr ⟨(s - 1 - p).toNat, List.mem_range.mpr (by omega), rfl⟩, by simp only; omega⟩
theorem i_dNewK {σ : L2.St} {H : Hp} {Q : VK} (q : ∀ p, H p = none → Q (.ref p) (upd H p (.dK []))) : tDNewK σ H Q := q
def spWts (A : Adr) (K : PySem.W.Frag) : Sp := fun vs H Q _ => ∃ (x a : Addr) (n : Int) (us : List W4) (cs : List B3) (xs : List V) (bs : List B3) (east : Bool), vs = [.ref x, .ref a, .bl east] ∧ IsLine A.c_Line H x n us cs ∧ n ≤ 100 ∧ Nb n us ∧ SqL K H a xs ∧ DpAll K H xs (bs.map B3.d) ∧ (∀ b ∈ bs, WshOk n b) ∧
  ∀ D H' kvs ks, Same H H' → H D = none → H' D = some (.dK kvs) → DD K (del H' D) kvs ks (wdv us east) → (∀ p, p ∈ ks ↔ ∃ b ∈ bs, Cov b east p) → Q (.ref D) H'
theorem ok_wires_to_save (T : Txt K mg A) : FnOk P w K mg base CX0 5 A.f_wires_to_save A.d_wires_to_save ["line", "wishes", "east"] (spWts A K) := by
  refine T.F_wires_to_save.ok sc_wires_to_save (fun vs H Q E h => ?_) (fun cdv A' outer s0 H vs Q E hr h => ?_)
  · obtain ⟨x, a, n, us, cs, xs, bs, east, rfl, _⟩ := h
    rfl
  · obtain ⟨x, a, n, us, cs, xs, bs, east, rfl, hl, n9, nb, ha, hx, wo, q⟩ := h
    have lx : xs.length = bs.length := by rw [dpa_len hx, List.length_map]
    refine ⟨_, (pss_cons (ps_set (i := 3) sc_wires_to_save.nd rfl (Or.inl rfl) pe_dnewK)
      (pss_cons (ps_for PassesOwn.never rfl (pi_list (pv 1)) (pg_tup rfl (pgs_cons (pg_name (i := 4) sc_wires_to_save.nd rfl (Or.inl rfl)) (pgs_cons (pg_name (i := 5) sc_wires_to_save.nd rfl (Or.inl rfl)) (pgs_cons (pg_name (i := 6) sc_wires_to_save.nd rfl (Or.inl rfl)) pgs_nil))))
      (pss_one (ps_if (pt_cmpR op_eq (pe_cmpR op_lt (pv 4) (pv 5) (nomark _)) (pv 2) (nomark _)) (pss_one (ps_for PassesOwn.never rfl (pi_list (pe_call (ok_stretch T) (hr.mono (by decide)) (by rfl) T.g_stretch T.F_stretch.kp (b_stretch T) .nil pass0 (pa_cons (pv 4) (pa_cons (pv 5) pa_nil)))) (pg_tup rfl (pgs_cons (pg_name (i := 7) sc_wires_to_save.nd rfl (Or.inl rfl)) (pgs_cons (pg_name (i := 8) sc_wires_to_save.nd rfl (Or.inl rfl)) pgs_nil)))
      (pss_cons (ps_asg (pe_meth (pv 0) T.cl_Line T.m_Line_wire (ok_Line_wire T) (hr.mono (by decide)) (b_Line_wire T) .nil passF (pa_cons (pv 7) (pa_cons (pv 8) pa_nil))) (pg_tup rfl (pgs_cons (pg_name (i := 9) sc_wires_to_save.nd rfl (Or.inl rfl)) (pgs_cons (pg_name (i := 10) sc_wires_to_save.nd rfl (Or.inl rfl)) pgs_nil))))
      (pss_one (ps_asg (pe_tup (pa_cons (pv 7) (pa_cons (pv 8) (pa_cons (pv 9) (pa_cons (pv 10) pa_nil))))) (pg_sub (pv 3) (pe_callB (call_mn2 rfl) (by rfl) T.n_min (by decide +kernel) (pa_cons (pv 7) (pa_cons (pv 8) pa_nil))) (set_dict (hu_of hr)))))))) pss_nil)))
      (pss_one (ps_ret (pv 3))))), ?_⟩
    refine i_start (σ' := [some (V.ref x), some (.ref a), some (.bl east), none, none, none, none, none, none, none, none]) rfl ?_
    walk_at "vc"
    refine i_dNewK fun D nD => ?_
    have c0 := (Cxs.start H).push (.dK []) nD
    walk_at "vc"
    refine ⟨a, rfl, ⟨xs, (same_new nD).seq ha⟩, ?_⟩
    refine for_it (walk_list (K := K) (a := a) (xs := xs)) (fun i σ' H' => ∃ y4 y5 y6 y7 y8 y9 y10 F kvs ks, σ' = [some (V.ref x), some (.ref a), some (.bl east), some (.ref D), y4, y5, y6, y7, y8, y9, y10] ∧ Same H F ∧ Cxs F [(D, .dK kvs)] H' ∧ DD K F kvs ks (wdv us east) ∧ (∀ p ∈ ks, 0 ≤ p ∧ p < n) ∧ ∀ p, p ∈ ks ↔ ∃ b ∈ bs.take i, Cov b east p)
      ⟨_, _, _, _, _, _, _, H, [], [], rfl, Same.refl _, c0, DD.nil, fun _ h => (nomatch h), fun p => ⟨fun h => (nomatch h), fun ⟨_, h, _⟩ => (nomatch h)⟩⟩ (fun i σ' H' _ pv => ?_) (fun i y σ' H2 H3 hi pv hy => ?_) fun σ' H' pv => ?_
    · obtain ⟨_, _, _, _, _, _, _, F, _, _, _, e, c, _⟩ := pv
      exact (e.trans c.e).seq ha
    · clear c0
      obtain ⟨y4, y5, y6, y7, y8, y9, y10, F, kvs, ks, rfl, e, c, hd, rng, cov⟩ := pv
      obtain ⟨rfl, hv⟩ := hy
      have hi' : i < bs.length := by omega
      have hb : bs[i]? = some bs[i] := List.getElem?_eq_getElem hi'
      obtain ⟨v', hv', dv⟩ := dpa_get (i := i) (d := bs[i].d) hx (by rw [List.getElem?_map, hb]; rfl)
      rw [hv] at hv'
      cases hv'
      have st : bs.take (i + 1) = bs.take i ++ [bs[i]] := by
        rw [List.take_add_one, hb]
        rfl
      have hw := wo _ (List.getElem_mem hi')
      generalize bs[i] = b at dv st hw
      obtain ⟨t, rfl, ht⟩ := dp_b3 dv
      obtain ⟨bl_, be_, bm_⟩ := b
      obtain ⟨⟨l0, l1⟩, ⟨e0, e1⟩, ne, m0⟩ := hw
      simp only at l0 l1 e0 e1 ne m0
      have ht : SqT K H3 t [.int bl_, .int be_, .int bm_] := same_sqT (e.trans c.e) ht
      refine i_gtup ht rfl ?_
      walk_at "vc"
      by_cases hE : decide (bl_ < be_) = east
      · refine ⟨rfl, ?_⟩
        rw [decide_eq_true (show V.bl (decide (bl_ < be_)) = V.bl east by rw [hE])]
        walk_at "vc"
        refine ⟨bl_, be_, rfl, l0, by omega, e0, by omega, fun L H4 ys e4 nL hL hy => ?_⟩
        have c4 := c.grown e4
        have s4 : Same F (grow F H3 H4) := grow_same c.e e4
        have ly : ys.length = (stp bl_ be_).length := hy.1
        have dirP : ∀ p ∈ stp bl_ be_, (0 ≤ p.1 ∧ p.1 < n) ∧ (0 ≤ p.2 ∧ p.2 < n) ∧ (p.2 = p.1 + 1 ∨ p.2 = p.1 - 1) ∧ p.1 = aE east (min p.1 p.2) ∧ p.2 = bE east (min p.1 p.2) := fun p hp => by
          obtain ⟨h1, h2, h3⟩ := stp_at l0 l1 e0 e1 p hp
          refine ⟨h1, h2, by omega, ?_, ?_⟩
          · rw [← hE]
            unfold aE
            rcases h3 with ⟨z, h3⟩ | ⟨z, h3⟩
            · rw [decide_eq_true z, if_pos rfl]; omega
            · rw [decide_eq_false z, if_neg Bool.false_ne_true]; omega
          · rw [← hE]
            unfold bE
            rcases h3 with ⟨z, h3⟩ | ⟨z, h3⟩
            · rw [decide_eq_true z, if_pos rfl]; omega
            · rw [decide_eq_false z, if_neg Bool.false_ne_true]; omega
        walk_at "vc"
        refine ⟨L, rfl, ⟨ys, SqL.of hL⟩, ?_⟩
        refine for_it (walk_list (K := K) (a := L) (xs := ys)) (fun j σ' H' => ∃ y7 y8 y9 y10 F2 kvs2 ks2, σ' = [some (V.ref x), some (.ref a), some (.bl east), some (.ref D), some (.int bl_), some (.int be_), some (.int bm_), y7, y8, y9, y10] ∧ Same (grow F H3 H4) F2 ∧ Cxs F2 [(D, .dK kvs2)] H' ∧ DD K F2 kvs2 ks2 (wdv us east) ∧ (∀ p ∈ ks2, 0 ≤ p ∧ p < n) ∧ ∀ p, p ∈ ks2 ↔ p ∈ ks ∨ ∃ q ∈ (stp bl_ be_).take j, min q.1 q.2 = p)
          ⟨_, _, _, _, _, kvs, ks, rfl, Same.refl _, c4, hd.mono s4, rng, fun p => ⟨.inl, fun h => h.elim id fun ⟨_, z, _⟩ => (nomatch z)⟩⟩ (fun j σ' H' _ pv => ?_) (fun j y σ' H5 H6 hj pv hy2 => ?_) fun σ' H' pv => ?_
        · obtain ⟨_, _, _, _, F2, _, _, _, e5, c5, _⟩ := pv
          have : grow F H3 H4 L = some (.lst ys) := (grow_new nL).trans hL
          exact SqL.of ((e5.trans c5.e) _ _ this)
        · obtain ⟨y7, y8, y9, y10, F2, kvs2, ks2, rfl, e5, c5, hd5, rng5, cov5⟩ := pv
          obtain ⟨rfl, hv2⟩ := hy2
          have hj' : j < (stp bl_ be_).length := by omega
          have hpj : (stp bl_ be_)[j]? = some (stp bl_ be_)[j] := List.getElem?_eq_getElem hj'
          obtain ⟨t2, hv3, nt2, ht2⟩ := hy.2 j _ hpj
          rw [hv2] at hv3
          cases hv3
          have dp := dirP _ (List.getElem_mem hj')
          have st2 : (stp bl_ be_).take (j + 1) = (stp bl_ be_).take j ++ [(stp bl_ be_)[j]] := by
            rw [List.take_add_one, hpj]
            rfl
          generalize (stp bl_ be_)[j] = p at ht2 dp st2
          obtain ⟨p1, p2⟩ := p
          obtain ⟨⟨a0, a1⟩, ⟨b0, b1⟩, pp, pa, pb⟩ := dp
          simp only at a0 a1 b0 b1 pp pa pb
          have hg2 : grow F H3 H4 t2 = some (.tup [.int p1, .int p2]) := (grow_new nt2).trans ht2
          have hF2 : SqT K H6 t2 [.int p1, .int p2] := SqT.of ((e5.trans c5.e) _ _ hg2)
          obtain ⟨u, hu, us1, ut1, ulo, uhi, _⟩ := nb.get a0 a1 b0 b1 pp
          have hlF := hl.mono (e.trans (s4.trans e5))
          obtain ⟨dx, d1, d2, js, ms_, hx3, _⟩ := id hlF
          refine i_gtup hF2 rfl ?_
          walk_at "vc"
          refine ⟨x, dx, _, rfl, c5.e _ _ hx3, rfl, ?_⟩
          walk_at "vc"
          refine ⟨F2, x, n, p1, p2, us, cs, rfl, c5.e, hlF, nb.nd, fun u' hu' e1'' e2'' _ _ _ _ q4 H7 s7 hq => ?_, fun hb => by omega, fun _ _ hb => by omega, fun _ _ _ _ hn => absurd ⟨us1, ut1⟩ (hn u hu)⟩
          obtain rfl : u' = u := by
            have h1 := lk_one nb.nd hu'
            have h2 := lk_one nb.nd hu
            rw [us1, ut1] at h2
            rw [e1'', e2'', h2] at h1
            exact (Option.some.inj h1).symm
          rw [uhi, ulo] at hq
          have c7 := c5.grow s7
          have hq7 : SqT K H7 q4 [.int (loI us p1 p2), .int (hiI us p1 p2)] := SqT.of (c7.e _ _ hq)
          walk_at "vc"
          refine ⟨lenB rfl, fun T5 n5 => ?_⟩
          have c8 := c7.new (.tup [.int p1, .int p2, .int (loI us p1 p2), .int (hiI us p1 p2)]) n5
          have s8 := c7.sub (u := .tup [.int p1, .int p2, .int (loI us p1 p2), .int (hiI us p1 p2)]) n5
          walk_at "vc"
          have lk2 : kvs2.length ≤ 1000 := by
            have := SPR.nodup_short (n := n.toNat) hd5.nd (fun p hp => by have := rng5 p hp; omega)
            have := hd5.len
            omega
          have du : Dp K (upd F2 T5 (.tup [.int p1, .int p2, .int (loI us p1 p2), .int (hiI us p1 p2)])) (.ref T5) (wdv us east (min p1 p2)) := by
            unfold wdv
            rw [← pa, ← pb]
            exact .tup (SqT.of upd_same) (.cons (.int _) (.cons (.int _) (.cons (.int _) (.cons (.int _) .nil))))
          refine i_setDK (c8.at 0 rfl) lk2 ?_
          have c9 := c8.turn 0 rfl (.dK (putK kvs2 (.inl (min p1 p2)) (.ref T5)))
          walk_at "vc"
          refine ⟨_, _, _, _, _, _, _, rfl, e5.trans s8, c9, (hd5.mono s8).put (min p1 p2) du, fun v hv => ?_, fun v => ?_⟩
          · split at hv
            · exact rng5 v hv
            · rcases List.mem_append.mp hv with hv | hv
              · exact rng5 v hv
              · rw [List.mem_singleton] at hv
                omega
          · rw [st2]
            constructor
            · intro hv
              have : v ∈ ks2 ∨ v = min p1 p2 := by
                split at hv
                · exact .inl hv
                · rcases List.mem_append.mp hv with hv | hv
                  · exact .inl hv
                  · exact .inr (by simpa using hv)
              rcases this with h | h
              · rcases (cov5 v).mp h with h | ⟨q, h1, h2⟩
                · exact .inl h
                · exact .inr ⟨q, List.mem_append_left _ h1, h2⟩
              · exact .inr ⟨(p1, p2), List.mem_append_right _ List.mem_cons_self, h.symm⟩
            · intro hv
              have : v ∈ ks2 ∨ v = min p1 p2 := by
                rcases hv with h | ⟨q, h1, h2⟩
                · exact .inl ((cov5 v).mpr (.inl h))
                · rcases List.mem_append.mp h1 with h1 | h1
                  · exact .inl ((cov5 v).mpr (.inr ⟨q, h1, h2⟩))
                  · rw [List.mem_singleton] at h1
                    subst h1
                    exact .inr h2.symm
              split
              · rename_i hm
                rcases this with h | h
                · exact h
                · rw [h]; exact hm
              · rcases this with h | h
                · exact List.mem_append_left _ h
                · rw [h]
                  exact List.mem_append_right _ List.mem_cons_self
        · obtain ⟨y7, y8, y9, y10, F2, kvs2, ks2, rfl, e5, c5, hd5, rng5, cov5⟩ := pv
          rw [List.take_of_length_le (by omega)] at cov5
          walk_at "vc"
          refine ⟨_, _, _, _, _, _, _, F2, kvs2, ks2, rfl, e.trans (s4.trans e5), c5, hd5, rng5, fun p => ?_⟩
          rw [cov5, cov, st, stp_cov]
          constructor
          · rintro (⟨b, hb2, hc⟩ | h)
            · exact ⟨b, List.mem_append_left _ hb2, hc⟩
            · exact ⟨_, List.mem_append_right _ List.mem_cons_self, hE, h⟩
          · rintro ⟨b, hb2, hc⟩
            rcases List.mem_append.mp hb2 with hb2 | hb2
            · exact .inl ⟨b, hb2, hc⟩
            · rw [List.mem_singleton] at hb2
              subst hb2
              exact .inr hc.2
      · refine ⟨rfl, ?_⟩
        rw [decide_eq_false (show V.bl (decide (bl_ < be_)) ≠ V.bl east from fun z => hE (V.bl.inj z))]
        walk_at "vc"
        refine ⟨_, _, _, _, _, _, _, F, kvs, ks, rfl, e, c, hd, rng, fun p => ?_⟩
        rw [cov, st]
        constructor
        · rintro ⟨b, hb2, hc⟩
          exact ⟨b, List.mem_append_left _ hb2, hc⟩
        · rintro ⟨b, hb2, hc⟩
          rcases List.mem_append.mp hb2 with hb2 | hb2
          · exact ⟨b, hb2, hc⟩
          · rw [List.mem_singleton] at hb2
            subst hb2
            exact absurd hc.1 hE
    · clear c0
      obtain ⟨y4, y5, y6, y7, y8, y9, y10, F, kvs, ks, rfl, e, c, hd, rng, cov⟩ := pv
      rw [List.take_of_length_le (by omega)] at cov
      walk_at "vc"
      refine q D _ kvs ks (e.trans c.e) nD (c.at 0 rfl) (hd.mono fun b o hb => ?_) cov
      have b1 : b ≠ D := fun z => by
        have h2 := c.nF 0 rfl
        rw [z, h2] at hb
        cases hb
      rw [del_ne b1]
      exact c.e _ _ hb
end
end
section
set_option maxRecDepth 100000
set_option maxHeartbeats 1000000
open PySem PySem.Spec PyProof.Rows L2 VX SPR
section
variable {w : World} {K : PySem.W.Frag} {mg : Str → Option Value} {base : Heap} {A : Adr}
def spCQ (A : Adr) (K : PySem.W.Frag) : Sp := fun vs H Q _ => ∃ (a l : Addr) (b : Bool) (xs : List V) (ds : List PyData) (d m : Nat), vs = [.ref a, .bl b, .ref l] ∧ H a = some (exo a A.c_CannotQuicken none) ∧ SqL K H l xs ∧ DpAll K H xs ds ∧ (∀ y ∈ ds, Fl d m y) ∧ d ≤ 40 ∧ ds.length * (m + 2) + 2 ≤ sizeLine ∧
  ∀ dx D, H dx = none → dx ≠ a → (upd (upd H dx (exd dx [("east", .bl b)])) a (exo a A.c_CannotQuicken (some dx))) D = none → Q .non (upd (upd (upd (upd H dx (exd dx [("east", .bl b)])) a (exo a A.c_CannotQuicken (some dx))) D (.lst xs)) dx (exd dx [("steps", .ref D), ("east", .bl b)]))
theorem ok_CannotQuicken_init (T : Txt K mg A) : FnOk P w K mg base CX0 2 A.f_CannotQuicken_init A.d_CannotQuicken_init ["self", "east", "steps"] (spCQ A K) := by
  refine FunS.ok (pl := fun _ => _) T.FS_CannotQuicken_init T.sup_CannotQuicken sc_CannotQuicken_init T.n_super rfl rfl rfl (fun _ _ _ _ => rfl) (fun _ => rfl) (fun _ => rfl) (fun _ => rfl) (fun _ => rfl) (fun vs H Q E h => ?_) (fun cda cc A' outer s H vs Q E hr h => ?_)
  · obtain ⟨a, l, b, xs, ds, d, m, rfl, _⟩ := h
    rfl
  · obtain ⟨a, l, b, xs, ds, d, m, rfl, ha, hl, hx, hf, h9, hz, q⟩ := h
    refine ⟨_, _, a, pa_cons (pe_joined1 (pe_fmtB (pv 1))) (pa_cons (pe_joined1 (pe_fmtD hr.units (pv 2))) pa_nil), pss_cons (ps_ost (pv 0) (pv 1)) (pss_one (ps_ost (pv 0) (pe_callTy (r := rListOf K) (T := "list") call_listOf (by rfl) T.n_list (by decide +kernel) (pa_cons (pv 2) pa_nil)))), rfl, ha, ?_⟩
    rw [show L2.start ["self", "east", "steps"] [V.ref a, V.bl b, V.ref l] = [some (V.ref a), some (.bl b), some (.ref l)] from rfl]
    walk_at "vc"
    refine ⟨.bl b, rfl, b, rfl, fun z1 => ?_⟩
    walk_at "vc"
    refine ⟨.ref l, rfl, l, ds, xs, d, m, rfl, hl, hx, hf, h9, hz, fun z2 => ?_⟩
    walk_at "vc"
    refine ⟨by show 2 ≤ 1000; decide, ha, ?_⟩
    refine ⟨.bl b, rfl, .ref a, rfl, a, A.c_CannotQuicken, rfl, T.oex_CannotQuicken, T.nb_CannotQuicken_east, .inl ⟨ha, fun dx n1 n2 => ?_⟩⟩
    have na : upd (upd H dx (exd dx [("east", .bl b)])) a (exo a A.c_CannotQuicken (some dx)) a = some (exo a A.c_CannotQuicken (some dx)) := upd_same
    have hl2 : SqL K (upd (upd H dx (exd dx [("east", .bl b)])) a (exo a A.c_CannotQuicken (some dx))) l xs := by
      rcases hl with (h | ⟨o, h⟩) | h
      · have la : l ≠ a := fun z => by rw [z, ha] at h; cases h
        have ld : l ≠ dx := ne_of_none h n1
        exact SqL.of ((upd_ne la).trans ((upd_ne ld).trans h))
      · have la : l ≠ a := fun z => by rw [z, ha] at h; cases h
        have ld : l ≠ dx := ne_of_none h n1
        exact .inl (.inr ⟨o, (upd_ne la).trans ((upd_ne ld).trans h)⟩)
      · exact .inr h
    refine ⟨.ref l, rfl, l, xs, rfl, .inl hl2, fun D nD => ⟨.ref a, rfl, a, A.c_CannotQuicken, rfl, T.oex_CannotQuicken, T.nb_CannotQuicken_steps, .inr ⟨dx, [("east", .bl b)], ?_, ?_, by show 1 ≤ 900; decide, q dx D n1 n2 nD⟩⟩⟩
    · rw [upd_ne (ne_of_none na nD)]
      exact na
    · have : upd (upd H dx (exd dx [("east", .bl b)])) a (exo a A.c_CannotQuicken (some dx)) dx = some (exd dx [("east", .bl b)]) := (upd_ne n2).trans upd_same
      rw [upd_ne (ne_of_none this nD)]
      exact this
end
section
variable {X : Cx} {x : Str} {C fI : Addr} {k : Nat} {fd : FuncData} {ps : List Str} {e : Expr} {es : List Expr} {ta : TA} {p pos : Pos} {A : Adr}
/-- CannotQuicken(east, steps) -/
def tMkC (A : Adr) (K : PySem.W.Frag) (ta : TA) : L2.St → Hp → XK → Prop := fun σ H Q => ta σ H fun vs H1 => ∃ (l : Addr) (b : Bool) (xs : List V) (ds : List PyData) (d m : Nat), vs = [.bl b, .ref l] ∧ SqL K H1 l xs ∧ DpAll K H1 xs ds ∧ (∀ y ∈ ds, Fl d m y) ∧ d ≤ 40 ∧ ds.length * (m + 2) + 2 ≤ sizeLine ∧
  ∀ d H' fs, H1 d = none → Same H1 H' → fs.lookup ("east" : Str) = some (V.bl b) → H' d = some (.xd fs) → Q (.ref A.c_CannotQuicken) (some d) H'
theorem pmkC (T : OexC X.K A.c_CannotQuicken) (iC : PySem.W.findIn X.K (.ref A.c_CannotQuicken) "__init__" = some (some (.ref fI))) (tI : PySem.W.typeIn X.K (.ref fI) = some (.type "function"))
    (F : FnOk X.prog X.w X.K X.mg X.base CX0 k fI fd ps (spCQ A X.K)) (hr : Room (k + 1) X.A) (hb : Binds X.K fd ps []) (hg : Gl X x) (hm : X.mg x = some (.ref A.c_CannotQuicken)) (ha : PA X (e :: es) ta)
    (hdb : (x == ("__debug__" : Str)) = false := by decide) (he : starEach (e :: es) X.env = (false, eval e X.env) :: starEach es X.env := by rfl) (hpl : (backTo pos (starEach es X.env)).any (·.1) = false := by rfl) :
    PMk X (.Call (.Name x p) (e :: es) [] pos) (tMkC A X.K ta) := by
  intro pins s σ H Q I h
  refine pmk_oex T iC tI F hr hb .nil pass0 hg hm (pa_up ha) hdb he hpl pins s σ H Q I ⟨_, h, ?_⟩
  rintro vs H1 ⟨l, b, xs, ds, d, m, rfl, hl, hx, hf, h9, hz, q⟩
  refine ⟨by show 2 ≤ 1000; decide, fun a na => ⟨a, l, b, xs, ds, d, m, rfl, upd_same, (same_new na).seq hl, hx.mono (same_new na), hf, h9, hz, fun dx D nd ne nD => ⟨rfl, dx, [("steps", .ref D), ("east", .bl b)], ?_, upd_same, ?_, ?_⟩⟩⟩
  · have h1 : upd (upd (upd H1 a (exo a A.c_CannotQuicken none)) dx (exd dx [("east", .bl b)])) a (exo a A.c_CannotQuicken (some dx)) a = some (exo a A.c_CannotQuicken (some dx)) := upd_same
    rw [upd_ne (Ne.symm ne), upd_ne (ne_of_none h1 nD)]
    exact h1
  · rwa [upd_ne ne] at nd
  · have nd1 : H1 dx = none := by rwa [upd_ne ne] at nd
    have aD : a ≠ D := ne_of_none (show upd (upd (upd H1 a (exo a A.c_CannotQuicken none)) dx (exd dx [("east", .bl b)])) a (exo a A.c_CannotQuicken (some dx)) a = _ from upd_same) nD
    have dD : dx ≠ D := fun z => by
      rw [← z, upd_ne ne, upd_same] at nD
      cases nD
    refine q dx _ [("steps", .ref D), ("east", .bl b)] nd1 (fun c o hc => ?_) rfl upd_same
    have b1 : c ≠ dx := ne_of_none hc nd1
    have b2 : c ≠ a := ne_of_none hc na
    have b3 : c ≠ D := fun z => by
      rw [← z, upd_ne b2, upd_ne b1, upd_ne b2, hc] at nD
      cases nD
    rw [upd_ne b1, del_ne b2, upd_ne b1, upd_ne b3, upd_ne b2, upd_ne b1, upd_ne b2]
    exact hc
end
end
section
set_option maxRecDepth 100000
set_option maxHeartbeats 1000000
open PySem PySem.Spec PyProof.Rows L2 VX SPR
local macro_rules | `(tactic| walk_at "cl") => `(tactic| exact Txt.cl_Line (by assumption))
local macro_rules | `(tactic| walk_at "na") => `(tactic| first | exact Txt.na_Line_size (by assumption) | exact Txt.na_Line__spans (by assumption) | exact Txt.na_Line__mosts (by assumption))
def kp (i : Int) : Bd := ⟨i + 1, i, 0, .tuple [.str "keep", .int i]⟩
def keeps (n : Int) : List Bd := (List.range (n - 1).toNat).map fun i : Nat => kp ((0 : Int) + (i : Nat))
def cp (us : List W4) (east : Bool) (p : Int) : Bd := ⟨p, p + 1, hiI us (aE east p) (bE east p) - loI us (aE east p) (bE east p), .tuple [.str "cap", .int p]⟩
def present (us : List W4) (east : Bool) (lo hi : Int) : Int := ((List.range (hi - lo).toNat).map fun i : Nat => hiI us (aE east (lo + (i : Nat))) (bE east (lo + (i : Nat)))).sum
def wb (us : List W4) (east : Bool) (z : B3 × Nat) : List Bd := if decide (z.1.l < z.1.e) = east then [⟨max z.1.l z.1.e, min z.1.l z.1.e, z.1.m - present us east (min z.1.l z.1.e) (max z.1.l z.1.e), .tuple [.str "wish", .int (z.2 : Nat)]⟩] else []
def bnds (n : Int) (us : List W4) (bs : List B3) (ks : List Int) (east : Bool) : List Bd := keeps n ++ ks.map (cp us east) ++ bs.zipIdx.flatMap (wb us east)
theorem i_itemsK {td : TE} {σ : L2.St} {H : Hp} {R : It → Hp → Prop} (q : td σ H fun x H1 => ∃ d o kvs, x = .ref d ∧ H1 d = some (.frz o (.dK kvs)) ∧ R (Iti d o kvs) H1) : iItems td σ H R := q
theorem i_enumK {K : PySem.W.Frag} {ta : TA} {σ : L2.St} {H : Hp} {R : It → Hp → Prop} (q : iEnum K ta σ H R) : iEnum K ta σ H R := q
theorem i_par {i j : Nat} {ta : TA} {D : Ends} {σ : L2.St} {H : Hp} (q : ta σ H fun vs H1 => ∃ v w, vs = [v, w] ∧ D.nx ((σ.set i (some v)).set j (some w)) H1) : tPar i j ta D σ H := q
theorem i_mkC {A : Adr} {K : PySem.W.Frag} {ta : TA} {σ : L2.St} {H : Hp} {Q : XK} (q : ta σ H fun vs H1 => ∃ (l : Addr) (b : Bool) (xs : List V) (ds : List PyData) (d m : Nat), vs = [.bl b, .ref l] ∧ SqL K H1 l xs ∧ DpAll K H1 xs ds ∧ (∀ y ∈ ds, Fl d m y) ∧ d ≤ 40 ∧ ds.length * (m + 2) + 2 ≤ sizeLine ∧
  ∀ d H' fs, H1 d = none → Same H1 H' → fs.lookup ("east" : Str) = some (V.bl b) → H' d = some (.xd fs) → Q (.ref A.c_CannotQuicken) (some d) H') : tMkC A K ta σ H Q := q
theorem i_keysK {td : TE} {σ : L2.St} {H : Hp} {R : It → Hp → Prop} (q : td σ H fun x H1 => ∃ d o, x = .ref d ∧ ((∃ kvs, H1 d = some (.frz o (.dK kvs)) ∧ R (Itk d o kvs) H1) ∨ ∃ kvs, H1 d = some (.frz o (.dT kvs)) ∧ R (Itkt d o kvs) H1)) : iKeys td σ H R := q
theorem Cxs.take {H : Hp} {d : Addr} {u : HO} (h : H d = some u) : Cxs (del H d) [(d, u)] H := by
  refine ⟨fun b o e => ?_, fun x hx => ?_, fun x hx => ?_, by simp⟩
  · by_cases z : b = d
    · subst z
      rw [del_same] at e
      cases e
    · rwa [del_ne z] at e
  · rw [List.mem_singleton] at hx
    subst hx
    exact del_same
  · rw [List.mem_singleton] at hx
    subst hx
    exact h
/-- what stood, and is there again, stands -/
theorem Cxs.back {F H H' : Hp} {d : Addr} {u : HO} {T : List (Addr × HO)} (h : H d = some u) (e : Same (del H d) F) (c : Cxs F T H') (hd : H' d = some u) : Same H H' := fun b o q => by
  by_cases z : b = d
  · subst z
    exact hd.trans (h.symm.trans q)
  · exact c.e _ _ (e _ _ (by rwa [del_ne z]))
theorem some_B : ∀ l : List Bd, ∃ B, ∀ s ∈ l, s.m.natAbs ≤ B
  | [] => ⟨0, fun _ h => (nomatch h)⟩
  | a :: l => by
    obtain ⟨B, h⟩ := some_B l
    refine ⟨max a.m.natAbs B, fun s hs => ?_⟩
    rcases List.mem_cons.mp hs with rfl | hs
    · exact Nat.le_max_left _ _
    · exact Nat.le_trans (h s hs) (Nat.le_max_right _ _)
theorem mem_bnds {n : Int} {us : List W4} {bs : List B3} {ks : List Int} {east : Bool} {s : Bd} (h : s ∈ bnds n us bs ks east) :
    (∃ i : Nat, (i : Int) < n - 1 ∧ s = kp ((0 : Int) + (i : Nat))) ∨ (∃ p ∈ ks, s = cp us east p) ∨ ∃ (b : B3) (i : Nat), bs[i]? = some b ∧ decide (b.l < b.e) = east ∧ s = ⟨max b.l b.e, min b.l b.e, b.m - present us east (min b.l b.e) (max b.l b.e), .tuple [.str "wish", .int (i : Nat)]⟩ := by
  unfold bnds keeps at h
  rcases List.mem_append.mp h with h | h
  · rcases List.mem_append.mp h with h | h
    · obtain ⟨i, hi, rfl⟩ := List.mem_map.mp h
      rw [List.mem_range] at hi
      exact .inl ⟨i, by omega, rfl⟩
    · obtain ⟨p, hp, rfl⟩ := List.mem_map.mp h
      exact .inr (.inl ⟨p, hp, rfl⟩)
  · obtain ⟨z, hz, hs⟩ := List.mem_flatMap.mp h
    obtain ⟨b, i⟩ := z
    unfold wb at hs
    split at hs
    · rename_i hE
      rw [List.mem_singleton] at hs
      refine .inr (.inr ⟨b, i, ?_, hE, hs⟩)
      have := List.mem_zipIdx_iff_getElem?.mp hz
      simpa using this
    · cases hs
theorem bs_ok {n : Int} {us : List W4} {bs : List B3} {ks : List Int} {east : Bool} (n1 : 1 ≤ n) (n9 : n ≤ 100) (lb : bs.length ≤ 100) (wo : ∀ b ∈ bs, WshOk n b) (lk : ks.length ≤ 100) (kr : ∀ p ∈ ks, 0 ≤ p ∧ p < n - 1) : ∃ B, BsOk n.toNat B (bnds n us bs ks east) := by
  obtain ⟨B, hB⟩ := some_B (bnds n us bs ks east)
  refine ⟨B, fun s hs => ?_, ?_, by omega, by omega⟩
  · have hm := hB s hs
    have : 0 ≤ s.e ∧ s.e < n ∧ 0 ≤ s.l ∧ s.l < n := by
      rcases mem_bnds hs with ⟨i, hi, rfl⟩ | ⟨p, hp, rfl⟩ | ⟨b, i, hb, _, rfl⟩
      · simp only [kp]
        omega
      · have := kr p hp
        simp only [cp]
        omega
      · obtain ⟨h1, h2, _, _⟩ := wo b (List.mem_of_getElem? hb)
        simp only
        omega
    exact ⟨⟨this.1, by omega, hm⟩, this.2.2.1, by omega⟩
  · have h1 : ∀ zs : List (B3 × Nat), (zs.flatMap (wb us east)).length ≤ zs.length := fun zs => by
      induction zs with
      | nil => simp
      | cons z zs ih =>
        rw [List.flatMap_cons, List.length_append, List.length_cons]
        have : (wb us east z).length ≤ 1 := by
          unfold wb
          split <;> simp
        omega
    have h2 := h1 bs.zipIdx
    rw [List.length_zipIdx] at h2
    unfold bnds keeps
    rw [List.length_append, List.length_append, List.length_map, List.length_map, List.length_range]
    omega
theorem kd_fl {n : Int} {us : List W4} {bs : List B3} {ks : List Int} {east : Bool} {s : Bd} (n9 : n ≤ 100) (lb : bs.length ≤ 100) (kr : ∀ p ∈ ks, 0 ≤ p ∧ p < n - 1) (h : s ∈ bnds n us bs ks east) : Fl 1 100 s.k := by
  have key : ∀ (t : Str) (i : Int), (reprText t).length ≤ 41 → i.natAbs < 1000 → Fl 1 100 (.tuple [.str t, .int i]) := fun t i h1 h2 => by
    refine .tup (m := 41) (fun x hx => ?_) (show 2 * (41 + 2) + 7 ≤ 100 by decide)
    rcases List.mem_cons.mp hx with rfl | hx
    · exact .str h1 (Nat.le_trans h1 (by rw [sizeLine_eq]; decide))
    · rw [List.mem_singleton] at hx
      subst hx
      exact .int (Nat.lt_of_lt_of_le h2 (by decide)) (by decide)
  rcases mem_bnds h with ⟨i, hi, rfl⟩ | ⟨p, hp, rfl⟩ | ⟨b, i, hb, _, rfl⟩
  · exact key "keep" _ (by decide +kernel) (by omega)
  · have := kr p hp
    exact key "cap" _ (by decide +kernel) (by omega)
  · have := (List.getElem?_eq_some_iff.mp hb).1
    exact key "wish" _ (by decide +kernel) (by omega)
section
variable {w : World} {K : PySem.W.Frag} {mg : Str → Option Value} {base : Heap} {A : Adr}
def spWbp (A : Adr) (K : PySem.W.Frag) : Sp := fun vs H Q E => ∃ (x a D : Addr) (n : Int) (us : List W4) (cs : List B3) (xs : List V) (bs : List B3) (kvs : List (L2.Key × V)) (ks : List Int) (east : Bool), vs = [.ref x, .ref a, .ref D, .bl east] ∧ IsLine A.c_Line H x n us cs ∧ 1 ≤ n ∧ n ≤ 100 ∧ SqL K H a xs ∧ DpAll K H xs (bs.map B3.d) ∧ bs.length ≤ 100 ∧ (∀ b ∈ bs, WshOk n b) ∧
  H D = some (.dK kvs) ∧ DD K (del H D) kvs ks (wdv us east) ∧ (∀ p ∈ ks, 0 ≤ p ∧ p < n - 1) ∧ (∀ b ∈ bs, decide (b.l < b.e) = east → ∀ p, min b.l b.e ≤ p → p < max b.l b.e → p ∈ ks) ∧
  (∀ Dw H' kv2 ks2 d, Same H H' → H Dw = none → H' Dw = some (.dK kv2) → DW K (del H' Dw) kv2 ks2 d → SW (bnds n us bs ks east) d → (∀ b ∈ bnds n us bs ks east, Clo d b) → Q (.ref Dw) H') ∧
  ((∀ p, ¬ Feas (bnds n us bs ks east) p) → ∀ d H' fs, H d = none → Same H H' → List.lookup ("east" : Str) fs = some (V.bl east) → H' d = some (.xd fs) → E (.ref A.c_CannotQuicken) (some d) H')
theorem ok_ways_by_point (T : Txt K mg A) : FnOk P w K mg base (L2.CX P w) 5 A.f_ways_by_point A.d_ways_by_point ["line", "wishes", "wires", "east"] (spWbp A K) := by
  refine T.F_ways_by_point.okX sc_ways_by_point (fun vs H Q E h => ?_) (fun cdv A' outer s0 H vs Q E hr h => ?_)
  · obtain ⟨x, a, D, n, us, cs, xs, bs, kvs, ks, east, rfl, _⟩ := h
    rfl
  · obtain ⟨x, a, D, n, us, cs, xs, bs, kvs, ks, east, rfl, hl, n1, n9, ha, hx, lb, wo, hD, hd, krng, kcov, q, qe⟩ := h
    have lx : xs.length = bs.length := by rw [dpa_len hx, List.length_map]
    obtain ⟨dx, d1, d2, js, ms_, hx0, _⟩ := id hl
    refine ⟨_, (pss_cons (ps_setLc (i := 4) (own := [("box", 5)]) (g := gName 5) (tt := tYes) (by rfl) sc_ways_by_point.nd rfl rfl (sw_true rfl rfl rfl (by decide +kernel)) (pi_range1 (by rfl) T.n_range (pa_cons (pe_op op_sub (pe_fld (pv 0) rfl) pe_int) pa_nil)) (blkOk_by (N := N_ways_by_point) (sc := defScope s_ways_by_point) (by decide +kernel)) (fun _ _ _ _ _ => (pg_name (i := 5) sc_ways_by_point.nd rfl (Or.inl rfl))) (fun _ _ _ _ _ => pts_nil) (fun _ _ _ _ _ => (pe_tup (pa_cons (pe_op op_add (pv 5) pe_int) (pa_cons (pv 5) (pa_cons pe_int (pa_cons (pe_tup (pa_cons pe_str (pa_cons (pv 5) pa_nil))) pa_nil)))))))
      (pss_cons (ps_lock (ps_for (passes_of rfl) rfl (pi_items (pv 2)) (pg_tup rfl (pgs_cons (pg_name (i := 5) sc_ways_by_point.nd rfl (Or.inl rfl)) (pgs_cons (pg_tup rfl (pgs_cons (pg_name (i := 6) sc_ways_by_point.nd rfl (Or.inl rfl)) (pgs_cons (pg_name (i := 6) sc_ways_by_point.nd rfl (Or.inl rfl)) (pgs_cons (pg_name (i := 7) sc_ways_by_point.nd rfl (Or.inl rfl)) (pgs_cons (pg_name (i := 8) sc_ways_by_point.nd rfl (Or.inl rfl)) pgs_nil))))) pgs_nil)))
      (pss_one (ps_expr (pe_bm PySem.F.plainAttrs_list PySem.F.slot_list_append PySem.F.type_list_append mt_append (pv 4) (pa_cons (pe_tup (pa_cons (pv 5) (pa_cons (pe_op op_add (pv 5) pe_int) (pa_cons (pe_op op_sub (pv 8) (pv 7)) (pa_cons (pe_tup (pa_cons pe_str (pa_cons (pv 5) pa_nil))) pa_nil))))) pa_nil))))))
      (pss_cons (ps_for (passes_of rfl) rfl (pi_enum (by rfl) T.n_enumerate (pa_cons (pv 1) pa_nil)) (pg_tup rfl (pgs_cons (pg_name (i := 9) sc_ways_by_point.nd rfl (Or.inl rfl)) (pgs_cons (pg_tup rfl (pgs_cons (pg_name (i := 10) sc_ways_by_point.nd rfl (Or.inl rfl)) (pgs_cons (pg_name (i := 11) sc_ways_by_point.nd rfl (Or.inl rfl)) (pgs_cons (pg_name (i := 12) sc_ways_by_point.nd rfl (Or.inl rfl)) pgs_nil)))) pgs_nil)))
      (pss_one (ps_if (pt_cmpR op_eq (pe_cmpR op_lt (pv 10) (pv 11) (nomark _)) (pv 3) (nomark _)) (pss_cons (ps_par (i := 13) (j := 14) rfl sc_ways_by_point.nd rfl rfl (by decide) rfl rfl (pa_cons (pe_callB (call_mn2 rfl) (by rfl) T.n_min (by decide +kernel) (pa_cons (pv 10) (pa_cons (pv 11) pa_nil))) (pa_cons (pe_callB (call_mx2 rfl) (by rfl) T.n_max (by decide +kernel) (pa_cons (pv 10) (pa_cons (pv 11) pa_nil))) pa_nil)) (by rfl))
      (pss_cons (ps_set (i := 15) sc_ways_by_point.nd rfl (Or.inl rfl) (pe_callB (cr_sum rfl) (by rfl) T.n_sum (by decide +kernel) (pa_cons (pe_lc (own := [("box", 5)]) (g := gName 5) (tt := tYes) (by rfl) sc_ways_by_point.nd (pi_range2 (by rfl) T.n_range (pa_cons (pv 13) (pa_cons (pv 14) pa_nil))) (blkOk_by (N := N_ways_by_point) (sc := defScope s_ways_by_point) (by decide +kernel)) (fun _ _ _ _ _ => (pg_name (i := 5) sc_ways_by_point.nd rfl (Or.inl rfl))) (fun _ _ _ _ _ => pts_nil) (fun _ _ _ _ _ => (pe_ix (r := rIxT K) ix_tup (pe_dget (hu_of hr) (pv 2) (pv 5) (fun _ _ => rfl)) pe_int (fun _ _ => rfl)))) pa_nil)))
      (pss_one (ps_expr (pe_bm PySem.F.plainAttrs_list PySem.F.slot_list_append PySem.F.type_list_append mt_append (pv 4) (pa_cons (pe_tup (pa_cons (pv 14) (pa_cons (pv 13) (pa_cons (pe_op op_sub (pv 12) (pv 15)) (pa_cons (pe_tup (pa_cons pe_str (pa_cons (pv 9) pa_nil))) pa_nil))))) pa_nil)))))) pss_nil)))
      (pss_cons (ps_asg (pe_call (ok_spread T) (hr.mono (by decide)) (by rfl) T.g_spread T.F_spread.kp (b_spread T) .nil pass0 (pa_cons (pv 4) (pa_cons (pe_lst (pa_cons pe_int pa_nil)) pa_nil))) (pg_tup rfl (pgs_cons (pg_name (i := 16) sc_ways_by_point.nd rfl (Or.inl rfl)) (pgs_cons (pg_name (i := 17) sc_ways_by_point.nd rfl (Or.inl rfl)) pgs_nil))))
      (pss_cons (ps_if (pt_cmpR op_notN (pv 17) pe_non (nomark _)) (pss_one (ps_raise rfl (takes_of rfl rfl rfl rfl) (pmkC T.oex_CannotQuicken T.ini_CannotQuicken T.tI_CannotQuicken (ok_CannotQuicken_init T) (hr.mono (by decide)) (b_CannotQuicken_init T) (by rfl) T.g_CannotQuicken (pa_cons (pv 3) (pa_cons (pe_lc (own := [("bound", 18)]) (g := gName 18) (tt := tYes) (by rfl) sc_ways_by_point.nd (pi_tup (pv 17)) (blkOk_by (N := N_ways_by_point) (sc := defScope s_ways_by_point) (by decide +kernel)) (fun _ _ _ _ _ => (pg_name (i := 18) sc_ways_by_point.nd rfl (Or.inl rfl))) (fun _ _ _ _ _ => pts_nil) (fun _ _ _ _ _ => (pe_ix (r := rIxT K) ix_tup (pv 18) pe_int (fun _ _ => rfl)))) pa_nil))))) pss_nil)
      (pss_one (ps_ret (pv 16)))))))), ?_⟩
    refine i_start (σ' := [some (V.ref x), some (.ref a), some (.ref D), some (.bl east), none, none, none, none, none, none, none, none, none, none, none, none, none, none, none]) rfl ?_
    have cD := Cxs.take hD
    walk_at "vc"
    refine ⟨n - 1, rfl, by omega, by omega, fun L nL => ?_⟩
    have c0 := cD.push (.lst []) nL
    have lk : (keeps n).length = (n - 1).toNat := by unfold keeps; rw [List.length_map, List.length_range]
    refine lc_it (walk_range (lo := 0) (n := (n - 1).toNat)) (fun i H' => ∃ F ys, Same (del H D) F ∧ Cxs F [(L, .lst ys), (D, .dK kvs)] H' ∧ DpAll K F ys (((keeps n).take i).map bD)) ⟨_, [], Same.refl _, c0, .nil⟩ (fun _ _ _ _ => trivial) (fun i y H5 H6 hi pv hy => ?_) fun H' pv => ?_
    · obtain ⟨F, ys, e, c, hy2⟩ := pv
      obtain ⟨rfl, rfl⟩ := hy
      have hki : (keeps n)[i]? = some (kp ((0 : Int) + (i : Nat))) := by
        unfold keeps
        rw [List.getElem?_map, List.getElem?_range hi]
        rfl
      have ly : ys.length = i := by
        rw [dpa_len hy2, List.length_map, List.length_take, lk]
        omega
      walk_at "vc"
      refine ⟨lenB rfl, fun T1 n1 => ?_⟩
      have c1 := c.new (.tup [.str "keep", .int ((0 : Int) + (i : Nat))]) n1
      walk_at "vc"
      refine ⟨lenB rfl, fun T2 n2 => ?_⟩
      have c2 := c1.new (.tup [.int ((0 : Int) + (i : Nat) + 1), .int ((0 : Int) + (i : Nat)), .int 0, .ref T1]) n2
      have s2 := (c.sub (u := .tup [.str "keep", .int ((0 : Int) + (i : Nat))]) n1).trans (c1.sub (u := .tup [.int ((0 : Int) + (i : Nat) + 1), .int ((0 : Int) + (i : Nat)), .int 0, .ref T1]) n2)
      have hk1 := same_new (o := HO.tup [.int ((0 : Int) + (i : Nat) + 1), .int ((0 : Int) + (i : Nat)), .int 0, .ref T1]) (c1.newF n2) T1 _ upd_same
      have c3 := c2.turn 0 rfl (.lst (ys ++ [V.ref T2]))
      refine ⟨ys, c2.at 0 rfl, lenB' (by omega), _, ys ++ [V.ref T2], e.trans s2, c3, ?_⟩
      rw [List.take_add_one, hki, List.map_append]
      exact (hy2.mono s2).snoc (.tup (SqT.of upd_same) (.cons (.int _) (.cons (.int _) (.cons (.int _) (.cons (.tup (SqT.of hk1) (.cons (.str _) (.cons (.int _) .nil))) .nil)))))
    obtain ⟨F, ys, e, c, hy2⟩ := pv
    clear c0
    rw [← lk, List.take_length] at hy2
    walk_at "vc"
    refine ⟨D, .dK kvs, c.at 1 rfl, True.intro, fun od => ?_⟩
    have c := c.turn 1 rfl (.frz od (.dK kvs))
    walk_at "vc"
    refine i_itemsK ?_
    walk_at "vc"
    refine ⟨D, od, kvs, rfl, c.at 1 rfl, ?_⟩
    have lks := hd.len
    have lks2 : ks.length ≤ 100 := by
      have := SPR.nodup_short (n := n.toNat) hd.nd (fun p hp => by have := krng p hp; omega)
      omega
    refine for_it walk_items (fun i σ' H' => ∃ y5 y6 y7 y8 F ys, σ' = [some (V.ref x), some (.ref a), some (.ref D), some (.bl east), some (.ref L), y5, y6, y7, y8, none, none, none, none, none, none, none, none, none, none] ∧ Same (del H D) F ∧ Cxs F [(L, .lst ys), (D, .frz od (.dK kvs))] H' ∧ DpAll K F ys ((keeps n ++ (ks.take i).map (cp us east)).map bD))
      ⟨_, _, _, _, F, ys, rfl, e, c, by rw [List.take_zero, List.map_nil, List.append_nil]; exact hy2⟩ (fun i σ' H' _ pv => ?_) (fun i y σ' H5 H6 hi pv hy => ?_) fun σ' H' pv => ?_
    · obtain ⟨_, _, _, _, _, _, _, _, c, _⟩ := pv
      exact c.at 1 rfl
    · clear c hy2 e
      obtain ⟨y5, y6, y7, y8, F, ys, rfl, e, c, hy2⟩ := pv
      obtain ⟨T0, ky, vy, rfl, nT, rfl, hk1, hk2⟩ := hy
      have hi' : i < ks.length := by omega
      obtain ⟨kv, hkv⟩ : ∃ kv, kvs[i]? = some kv := ⟨_, List.getElem?_eq_getElem hi⟩
      obtain ⟨kk, kw⟩ := kv
      simp only [hkv, Option.map_some, Option.some.injEq] at hk1 hk2
      subst hk1 hk2
      obtain ⟨p, hp, rfl, dp⟩ := hd.at hkv
      have st : ks.take (i + 1) = ks.take i ++ [p] := by
        rw [List.take_add_one, hp]
        rfl
      rw [show kV (Sum.inl p) = V.int p from rfl]
      have c := c.fresh (.tup [.int p, kw]) nT
      cases dp with
      | @tup q qs _ hq hqs =>
      cases hqs with
      | cons h1 hqs =>
      cases hqs with
      | cons h2 hqs =>
      cases hqs with
      | cons h3 hqs =>
      cases hqs with
      | cons h4 hqs =>
      cases hqs
      cases h1
      cases h2
      cases h3
      cases h4
      have hq := same_sqT (e.trans c.e) hq
      refine i_gtup (SqT.of upd_same) rfl ?_
      walk_at "vc"
      refine ⟨.inl ⟨rfl, _, SqL.of (c.at 0 rfl)⟩, ?_⟩
      walk_at "vc"
      refine ⟨lenB rfl, fun T1 n1 => ?_⟩
      have c1 := c.new (.tup [.str "cap", .int p]) n1
      walk_at "vc"
      refine ⟨lenB rfl, fun T2 n2 => ?_⟩
      have c2 := c1.new (.tup [.int p, .int (p + 1), .int (hiI us (aE east p) (bE east p) - loI us (aE east p) (bE east p)), .ref T1]) n2
      have s2 := (c.sub (u := .tup [.str "cap", .int p]) n1).trans (c1.sub (u := .tup [.int p, .int (p + 1), .int (hiI us (aE east p) (bE east p) - loI us (aE east p) (bE east p)), .ref T1]) n2)
      have hk1 := same_new (o := HO.tup [.int p, .int (p + 1), .int (hiI us (aE east p) (bE east p) - loI us (aE east p) (bE east p)), .ref T1]) (c1.newF n2) T1 _ upd_same
      walk_at "vc"
      have ly : ys.length ≤ 300 := by
        rw [dpa_len hy2, List.length_map, List.length_append, List.length_map, List.length_take, lk]
        omega
      refine i_appC 0 c2 rfl (by omega) fun H9 c3 => ?_
      walk_at "vc"
      refine ⟨_, _, _, _, _, ys ++ [V.ref T2], rfl, e.trans s2, c3, ?_⟩
      rw [show (keeps n ++ (ks.take (i + 1)).map (cp us east)).map bD = (keeps n ++ (ks.take i).map (cp us east)).map bD ++ [bD (cp us east p)] by rw [st]; simp]
      exact (hy2.mono s2).snoc (.tup (SqT.of upd_same) (.cons (.int _) (.cons (.int _) (.cons (.int _) (.cons (.tup (SqT.of hk1) (.cons (.str _) (.cons (.int _) .nil))) .nil)))))
    clear c hy2 e
    obtain ⟨y5, y6, y7, y8, F, ys, rfl, e, c, hy2⟩ := pv
    rw [lks, List.take_length] at hy2
    refine ⟨c.at 1 rfl, ?_⟩
    have c := c.turn 1 rfl (.dK kvs)
    walk_at "vc"
    have hS : Same H (upd H' D (.dK kvs)) := Cxs.back hD e c (c.at 1 rfl)
    refine ⟨a, xs, rfl, hS.seq ha, ?_⟩
    have lz : bs.zipIdx.length = bs.length := List.length_zipIdx
    refine for_it (walk_enum (K := K) (a := a) (xs := xs)) (fun i σ' H' => ∃ y5 y6 y7 y8 y9 y10 y11 y12 y13 y14 y15 F ys, σ' = [some (V.ref x), some (.ref a), some (.ref D), some (.bl east), some (.ref L), y5, y6, y7, y8, y9, y10, y11, y12, y13, y14, y15, none, none, none] ∧ Same (del H D) F ∧ Cxs F [(L, .lst ys), (D, .dK kvs)] H' ∧ ys.length ≤ 200 + i ∧ DpAll K F ys ((keeps n ++ ks.map (cp us east) ++ (bs.zipIdx.take i).flatMap (wb us east)).map bD))
      ⟨_, _, _, _, _, _, _, _, _, _, _, F, ys, rfl, e, c, by rw [dpa_len hy2, List.length_map, List.length_append, List.length_map, lk]; omega, by simpa using hy2⟩ (fun i σ' H' _ pv => ?_) (fun i y σ' H5 H6 hi pv hy => ?_) fun σ' H' pv => ?_
    · obtain ⟨_, _, _, _, _, _, _, _, _, _, _, _, _, _, e, c, _⟩ := pv
      exact (Cxs.back hD e c (c.at 1 rfl)).seq ha
    · clear c hy2 e hS
      obtain ⟨y5, y6, y7, y8, y9, y10, y11, y12, y13, y14, y15, F, ys, rfl, e, c, lys, hy2⟩ := pv
      obtain ⟨T0, ix, vy, rfl, nT, rfl, hk1, hv⟩ := hy
      cases hk1
      have hS := Cxs.back hD e c (c.at 1 rfl)
      have hi' : i < bs.length := by omega
      have hb : bs[i]? = some bs[i] := List.getElem?_eq_getElem hi'
      obtain ⟨v', hv', dv⟩ := dpa_get (i := i) (d := bs[i].d) hx (by rw [List.getElem?_map, hb]; rfl)
      have hv : xs[i]? = some vy := hv
      rw [hv] at hv'
      cases hv'
      have hz : bs.zipIdx[i]? = some (bs[i], i) := by
        rw [List.getElem?_zipIdx, hb]
        simp
      have st : bs.zipIdx.take (i + 1) = bs.zipIdx.take i ++ [(bs[i], i)] := by
        rw [List.take_add_one, hz]
        rfl
      have hw := wo _ (List.getElem_mem hi')
      have hcv := kcov _ (List.getElem_mem hi')
      generalize bs[i] = b at dv st hw hcv
      obtain ⟨t, rfl, ht⟩ := dp_b3 dv
      obtain ⟨bl_, be_, bm_⟩ := b
      obtain ⟨⟨l0, l1⟩, ⟨e0, e1⟩, ne, m0⟩ := hw
      simp only at l0 l1 e0 e1 ne m0 hcv
      have s0' := same_new (o := HO.tup [.int (i : Nat), .ref t]) nT
      have ht : SqT K (upd H5 T0 (.tup [.int (i : Nat), .ref t])) t [.int bl_, .int be_, .int bm_] := same_sqT (hS.trans s0') ht
      have c := c.fresh (.tup [.int (i : Nat), .ref t]) nT
      refine i_gtup (SqT.of upd_same) rfl ?_
      walk_at "vc"
      by_cases hE : decide (bl_ < be_) = east
      · refine ⟨rfl, ?_⟩
        rw [decide_eq_true (show V.bl (decide (bl_ < be_)) = V.bl east by rw [hE])]
        walk_at "vc"
        refine i_par ?_
        walk_at "vc"
        refine ⟨_, _, rfl, ?_⟩
        walk_at "vc"
        simp only [List.set_cons_succ, List.set_cons_zero]
        refine ⟨min bl_ be_, max bl_ be_, rfl, ⟨by omega, by omega, by omega, by omega⟩, fun M nM => ?_⟩
        have cM := c.push (.lst []) nM
        refine lc_it (walk_range (lo := min bl_ be_) (n := (max bl_ be_ - min bl_ be_).toNat)) (fun j H' => Cxs F [(M, .lst (((List.range j).map fun k : Nat => hiI us (aE east (min bl_ be_ + (k : Nat))) (bE east (min bl_ be_ + (k : Nat)))).map V.int)), (L, .lst ys), (D, .dK kvs)] H') cM (fun _ _ _ _ => trivial) (fun j y H7 H8 hj pv hy => ?_) fun H' pv => ?_
        · obtain ⟨rfl, rfl⟩ := hy
          have hp : min bl_ be_ + (j : Nat) ∈ ks := hcv hE _ (by omega) (by omega)
          obtain ⟨u, hu, du⟩ := hd.val _ hp
          have hDc := pv.at 2 rfl
          have du := VX.Dp.mono' du (e.trans pv.e)
          cases du with
          | @tup q qs _ hq hqs =>
          cases hqs with
          | cons h1 hqs =>
          cases hqs with
          | cons h2 hqs =>
          cases hqs with
          | cons h3 hqs =>
          cases hqs with
          | cons h4 hqs =>
          cases hqs
          cases h1
          cases h2
          cases h3
          cases h4
          walk_at "vc"
          refine ⟨D, .ref q, rfl, by rw [← hu]; exact dw_get hDc, ?_⟩
          walk_at "vc"
          refine ⟨_, pv.at 0 rfl, by rw [List.length_map, List.length_map, List.length_range]; exact lenB' (by omega), ?_⟩
          have c9 := pv.turn 0 rfl (.lst ((((List.range j).map fun k : Nat => hiI us (aE east (min bl_ be_ + (k : Nat))) (bE east (min bl_ be_ + (k : Nat)))).map V.int) ++ [V.int (hiI us (aE east (min bl_ be_ + (j : Nat))) (bE east (min bl_ be_ + (j : Nat))))]))
          rw [List.range_succ, List.map_append, List.map_append]
          exact c9
        · have hM := pv.at 0 rfl
          walk_at "vc"
          refine ⟨M, _, rfl, SqL.of hM, ?_⟩
          rw [show ((List.range (max bl_ be_ - min bl_ be_).toNat).map fun k : Nat => hiI us (aE east (min bl_ be_ + (k : Nat))) (bE east (min bl_ be_ + (k : Nat)))).sum = present us east (min bl_ be_) (max bl_ be_) from rfl]
          have ck := pv.keep
          have sk := pv.keepS
          clear pv cM
          generalize hpr : present us east (min bl_ be_) (max bl_ be_) = pr
          walk_at "vc"
          refine ⟨.inl ⟨rfl, _, SqL.of (ck.at 0 rfl)⟩, ?_⟩
          walk_at "vc"
          refine ⟨lenB rfl, fun T1 n1 => ?_⟩
          have c1 := ck.new (.tup [.str "wish", .int (i : Nat)]) n1
          walk_at "vc"
          refine ⟨lenB rfl, fun T2 n2 => ?_⟩
          have c2 := c1.new (.tup [.int (max bl_ be_), .int (min bl_ be_), .int (bm_ - pr), .ref T1]) n2
          have s2 := sk.trans ((ck.sub (u := .tup [.str "wish", .int (i : Nat)]) n1).trans (c1.sub (u := .tup [.int (max bl_ be_), .int (min bl_ be_), .int (bm_ - pr), .ref T1]) n2))
          have hk1 := same_new (o := HO.tup [.int (max bl_ be_), .int (min bl_ be_), .int (bm_ - pr), .ref T1]) (c1.newF n2) T1 _ upd_same
          walk_at "vc"
          refine i_appC 0 c2 rfl (by omega) fun H9 c3 => ?_
          walk_at "vc"
          refine ⟨_, _, _, _, _, _, _, _, _, _, _, _, ys ++ [V.ref T2], rfl, e.trans s2, c3, by rw [List.length_append, List.length_singleton]; omega, ?_⟩
          rw [show (keeps n ++ ks.map (cp us east) ++ (bs.zipIdx.take (i + 1)).flatMap (wb us east)).map bD = (keeps n ++ ks.map (cp us east) ++ (bs.zipIdx.take i).flatMap (wb us east)).map bD ++ [bD ⟨max bl_ be_, min bl_ be_, bm_ - pr, .tuple [.str "wish", .int (i : Nat)]⟩] by
            rw [st, List.flatMap_append, List.flatMap_singleton, show wb us east (⟨bl_, be_, bm_⟩, i) = [⟨max bl_ be_, min bl_ be_, bm_ - pr, .tuple [.str "wish", .int (i : Nat)]⟩] from by rw [← hpr]; exact if_pos hE]
            simp]
          exact (hy2.mono s2).snoc (.tup (SqT.of upd_same) (.cons (.int _) (.cons (.int _) (.cons (.int _) (.cons (.tup (SqT.of hk1) (.cons (.str _) (.cons (.int _) .nil))) .nil)))))
      · refine ⟨rfl, ?_⟩
        rw [decide_eq_false (show V.bl (decide (bl_ < be_)) ≠ V.bl east from fun z => hE (V.bl.inj z))]
        walk_at "vc"
        refine ⟨_, _, _, _, _, _, _, _, _, _, _, F, ys, rfl, e, c, by omega, ?_⟩
        rw [st, List.flatMap_append, List.flatMap_singleton]
        rw [show wb us east (⟨bl_, be_, bm_⟩, i) = [] from if_neg hE, List.append_nil]
        exact hy2
    · clear c hy2 e hS
      obtain ⟨y5, y6, y7, y8, y9, y10, y11, y12, y13, y14, y15, F, ys, rfl, e, c, lys, hy2⟩ := pv
      rw [List.take_of_length_le (by omega)] at hy2
      have hS := Cxs.back hD e c (c.at 1 rfl)
      walk_at "vc"
      refine ⟨lenB rfl, fun L0 nL0 => ?_⟩
      have s0' := same_new (o := HO.lst [.int 0]) nL0
      obtain ⟨B, bok⟩ := bs_ok (us := us) (east := east) n1 n9 lb wo lks2 krng
      have ecH : Same F (upd H' L0 (.lst [.int 0])) := c.e.trans s0'
      walk_at "vc"
      refine ⟨L, L0, ys, n.toNat, B, bnds n us bs ks east, rfl, SqL.of (s0' _ _ (c.at 0 rfl)), hy2.mono ecH, SqL.of upd_same, bok, fun Dw Tt H2 kv2 ks2 d e2 nDw hT hDw dw sw cl => ?_, fun Dw Tt R H2 ring e2 hT dR rin rl nf => ?_⟩
      · refine i_gtup (SqT.of hT) rfl ?_
        walk_at "vc"
        exact q Dw H2 kv2 ks2 d (hS.trans (s0'.trans e2)) ((hS.trans s0').free nDw) hDw dw sw cl
      · refine i_gtup (SqT.of hT) rfl ?_
        walk_at "vc"
        refine i_mkC ?_
        walk_at "vc"
        refine i_iTup ?_
        walk_at "vc"
        cases dR with
        | @tup _ rs _ hRs hrs =>
        have lrs : rs.length = ring.length := by rw [dpa_len hrs, List.length_map]
        refine ⟨R, rfl, ⟨rs, hRs⟩, fun M nM => ?_⟩
        have cM := (Cxs.start H2).push (.lst []) nM
        refine lc_it (walk_tup (K := K) (a := R) (xs := rs)) (fun j H' => ∃ ms, Cxs H2 [(M, .lst ms)] H' ∧ DpAll K H2 ms ((ring.take j).map Bd.k)) ⟨[], cM, .nil⟩ (fun j H' _ pv => let ⟨_, c, _⟩ := pv; same_sqT c.e hRs) (fun j y H5 H6 hj pv hy => ?_) fun H' pv => ?_
        · obtain ⟨ms2, c5, hms⟩ := pv
          obtain ⟨rfl, hv⟩ := hy
          have hj' : j < ring.length := by omega
          have hrj : ring[j]? = some ring[j] := List.getElem?_eq_getElem hj'
          obtain ⟨v', hv', dv2⟩ := dpa_get (i := j) (d := bD ring[j]) hrs (by rw [List.getElem?_map, hrj]; rfl)
          rw [hv] at hv'
          cases hv'
          obtain ⟨tj, kj, rfl, htj, dk⟩ := dp_bd dv2
          have htj := same_sqT c5.e htj
          have lms : ms2.length = j := by
            rw [dpa_len hms, List.length_map, List.length_take]
            omega
          walk_at "vc"
          have c6 := c5.turn 0 rfl (.lst (ms2 ++ [kj]))
          refine ⟨ms2, c5.at 0 rfl, lenB' (by omega), ms2 ++ [kj], c6, ?_⟩
          rw [List.take_add_one, hrj, List.map_append]
          exact hms.snoc dk
        · obtain ⟨ms2, c5, hms⟩ := pv
          rw [lrs, List.take_length] at hms
          have hM := c5.at 0 rfl
          walk_at "vc"
          refine ⟨M, east, ms2, _, 1, 100, rfl, SqL.of hM, hms.mono c5.e, fun y hy => ?_, by decide, ?_, fun d H3 fs nd e3 lk3 hd3 => ?_⟩
          · obtain ⟨s, hs, rfl⟩ := List.mem_map.mp hy
            exact kd_fl n9 lb krng (rin s hs)
          · rw [List.length_map, sizeLine_eq]
            omega
          · have eA := hS.trans (s0'.trans (e2.trans c5.e))
            exact qe nf d H3 fs (eA.free nd) (eA.trans e3) lk3 hd3
end
end
section
set_option maxRecDepth 100000
set_option maxHeartbeats 1000000
open PySem PySem.Spec PyProof.Rows L2 VX SPR
local macro_rules | `(tactic| walk_at "cl") => `(tactic| exact Txt.cl_Line (by assumption))
local macro_rules | `(tactic| walk_at "na") => `(tactic| first | exact Txt.na_Line_size (by assumption) | exact Txt.na_Line__spans (by assumption) | exact Txt.na_Line__mosts (by assumption))
def dist (d : DM) (p : Int) : Int := ((d p).map (·.1)).getD 0
def sv (d : DM) (p : Int) : Int := dist d p - dist d (p + 1)
def nh1 (us : List W4) (east : Bool) (d : DM) (p : Int) : B3 := ⟨aE east p, bE east p, hiI us (aE east p) (bE east p) - sv d p⟩
def nh (us : List W4) (east : Bool) (d : DM) (ks : List Int) : List B3 := (ks.filter fun p => decide (0 < sv d p)).map (nh1 us east d)
/-- new triples, one by one -/
def Trs (H H' : Hp) (xs : List V) (ps : List B3) : Prop := xs.length = ps.length ∧ ∀ (i : Nat) p, ps[i]? = some p → ∃ t, xs[i]? = some (.ref t) ∧ H t = none ∧ H' t = some (.tup [.int p.l, .int p.e, .int p.m])
theorem Trs.up {H H1 H2 : Hp} {xs : List V} {ps : List B3} (h : Trs H H1 xs ps) (e : ∀ b, H b = none → ∀ o, H1 b = some (.tup o) → H2 b = some (.tup o)) : Trs H H2 xs ps :=
  ⟨h.1, fun i p hp => let ⟨t, a, b, c⟩ := h.2 i p hp; ⟨t, a, b, e t b _ c⟩⟩
theorem Trs.snoc {H H1 H2 : Hp} {xs : List V} {ps : List B3} {p : B3} {t : Addr} (h : Trs H H1 xs ps) (e : ∀ b, H b = none → ∀ o, H1 b = some (.tup o) → H2 b = some (.tup o)) (n : H t = none) (ht : H2 t = some (.tup [.int p.l, .int p.e, .int p.m])) : Trs H H2 (xs ++ [.ref t]) (ps ++ [p]) := by
  refine ⟨by simp [h.1], fun i q hq => ?_⟩
  by_cases z : i < ps.length
  · rw [List.getElem?_append_left z] at hq
    obtain ⟨u, h1, h2, h3⟩ := h.2 i q hq
    exact ⟨u, by rw [List.getElem?_append_left (by rw [h.1]; exact z)]; exact h1, h2, e u h2 _ h3⟩
  · rw [List.getElem?_append_right (by omega)] at hq
    have e0 : i = ps.length := by
      have := (List.getElem?_eq_some_iff.mp hq).1
      simp at this
      omega
    subst e0
    rw [Nat.sub_self] at hq
    cases hq
    exact ⟨t, by rw [List.getElem?_append_right (by rw [h.1]; exact Nat.le_refl _), h.1, Nat.sub_self]; rfl, n, ht⟩
theorem free_del {H H' : Hp} {D b : Addr} {T : List (Addr × HO)} {o : HO} (c : Cxs (del H D) T H') (hD : H' D = some o) (h : H' b = none) : H b = none := by
  cases z : H b with
  | none => rfl
  | some u =>
    by_cases e : b = D
    · rw [e, hD] at h
      cases h
    · have := c.e b u ((del_ne e).trans z)
      rw [h] at this
      cases this
theorem sqT_del {K : PySem.W.Frag} {H : Hp} {D t : Addr} {kvs : List (L2.Key × V)} {xs : List V} (hD : H D = some (.dK kvs)) (h : SqT K H t xs) : SqT K (del H D) t xs := by
  rcases h with (h | ⟨o, h⟩) | h
  · refine SqT.of (del_of h fun z => ?_)
    rw [z, hD] at h
    cases h
  · refine .inl (.inr ⟨o, del_of h fun z => ?_⟩)
    rw [z, hD] at h
    cases h
  · exact .inr h
section
variable {w : World} {K : PySem.W.Frag} {mg : Str → Option Value} {base : Heap} {A : Adr}
def spNh (K : PySem.W.Frag) : Sp := fun vs H Q _ => ∃ (D W : Addr) (us : List W4) (east : Bool) (kvs kv2 : List (L2.Key × V)) (ks ks2 : List Int) (d : DM), vs = [.ref D, .ref W] ∧ H D = some (.dK kvs) ∧ DD K (del H D) kvs ks (wdv us east) ∧ H W = some (.dK kv2) ∧ DW K (del H W) kv2 ks2 d ∧ D ≠ W ∧ ks.length ≤ 100 ∧ (∀ p ∈ ks, (∃ z, d p = some z) ∧ ∃ z, d (p + 1) = some z) ∧
  ∀ L H' xs, Same H H' → H L = none → H' L = some (.lst xs) → Trs H H' xs (nh us east d ks) → Q (.ref L) H'
theorem ok_new_highs (T : Txt K mg A) : FnOk P w K mg base CX0 1 A.f_new_highs A.d_new_highs ["wires", "ways"] (spNh K) := by
  refine T.F_new_highs.ok sc_new_highs (fun vs H Q E h => ?_) (fun cdv A' outer s0 H vs Q E hr h => ?_)
  · obtain ⟨D, W, us, east, kvs, kv2, ks, ks2, d, rfl, _⟩ := h
    rfl
  · obtain ⟨D, W, us, east, kvs, kv2, ks, ks2, d, rfl, hD, hd, hW, hw, ne, lk, dom, q⟩ := h
    have lks := hd.len
    refine ⟨_, (pss_cons (ps_set (i := 2) sc_new_highs.nd rfl (Or.inr rfl) (pe_lock (pe_dc (own := [("box", 3)]) (g := gName 3) (tt := tYes) (by rfl) sc_new_highs.nd (pi_keys (pv 0)) (blkOk_by (N := N_new_highs) (sc := defScope s_new_highs) (by decide +kernel)) (fun _ _ _ _ _ => (pg_name (i := 3) sc_new_highs.nd rfl (Or.inl rfl))) (fun _ _ _ _ _ => pts_nil) (fun _ _ _ _ _ => (pv 3)) (fun _ _ _ _ _ => (pe_op op_sub (pe_ix (r := rIxT K) ix_tup (pe_dget (hu_of hr) (pv 1) (pv 3) (fun _ _ => rfl)) pe_int (fun _ _ => rfl)) (pe_ix (r := rIxT K) ix_tup (pe_dget (hu_of hr) (pv 1) (pe_op op_add (pv 3) pe_int) (fun _ _ => rfl)) pe_int (fun _ _ => rfl)))))))
      (pss_one (ps_ret (pe_lock (pe_lc (own := [("box", 3), ("source", 4), ("target", 5), ("_", 6), ("high", 7)]) (g := gTup _ 2 (gCons (gName 3) (gCons (gTup _ 4 (gCons (gName 4) (gCons (gName 5) (gCons (gName 6) (gCons (gName 7) gNil))))) gNil))) (by rfl) sc_new_highs.nd (pi_items (pv 0)) (blkOk_by (N := N_new_highs) (sc := defScope s_new_highs) (by decide +kernel)) (fun _ _ _ _ _ => (pg_tup rfl (pgs_cons (pg_name (i := 3) sc_new_highs.nd rfl (Or.inl rfl)) (pgs_cons (pg_tup rfl (pgs_cons (pg_name (i := 4) sc_new_highs.nd rfl (Or.inl rfl)) (pgs_cons (pg_name (i := 5) sc_new_highs.nd rfl (Or.inl rfl)) (pgs_cons (pg_name (i := 6) sc_new_highs.nd rfl (Or.inl rfl)) (pgs_cons (pg_name (i := 7) sc_new_highs.nd rfl (Or.inl rfl)) pgs_nil))))) pgs_nil)))) (fun _ _ _ _ _ => (pts_one (pt_cmpR op_gt (pe_dget (hu_of hr) (pv 2) (pv 3) (fun _ _ => rfl)) pe_int (nomark _)))) (fun _ _ _ _ _ => (pe_tup (pa_cons (pv 4) (pa_cons (pv 5) (pa_cons (pe_op op_sub (pv 7) (pe_dget (hu_of hr) (pv 2) (pv 3) (fun _ _ => rfl))) pa_nil)))))))))), ?_⟩
    refine i_start (σ' := [some (V.ref D), some (.ref W), none, none, none, none, none, none]) rfl ?_
    have cD := Cxs.take hD
    walk_at "vc"
    refine ⟨D, .dK kvs, hD, True.intro, fun od => ?_⟩
    have cD := cD.turn 0 rfl (.frz od (.dK kvs))
    refine i_dcK ?_
    refine i_keysK ?_
    walk_at "vc"
    refine ⟨D, od, rfl, .inl ⟨kvs, cD.at 0 rfl, fun S nS => ?_⟩⟩
    have c0 := cD.push (.dK []) nS
    refine dcK_it walk_keys (fun i H' => ∃ kvS, Cxs (del H D) [(S, .dK kvS), (D, .frz od (.dK kvs))] H' ∧ DD K (del H D) kvS (ks.take i) (fun p => .int (sv d p))) ⟨[], c0, by rw [List.take_zero]; exact DD.nil⟩ (fun i H' _ pv => let ⟨_, c, _⟩ := pv; c.at 1 rfl) (fun i y H5 H6 hi pv hy => ?_) fun H' pv => ?_
    · obtain ⟨kvS, c, hS⟩ := pv
      obtain ⟨rfl, kk, vv, hkv, rfl⟩ := hy
      obtain ⟨p, hp, rfl, _⟩ := hd.at hkv
      rw [show kV (Sum.inl p) = V.int p from rfl]
      have hpk := List.mem_of_getElem? hp
      obtain ⟨⟨z1, hz1⟩, z2, hz2⟩ := dom p hpk
      have hW5 : H6 W = some (.dK kv2) := c.e _ _ ((del_ne (Ne.symm ne)).trans hW)
      have st : ks.take (i + 1) = ks.take i ++ [p] := by
        rw [List.take_add_one, hp]
        rfl
      have hi' : i < ks.length := by omega
      have hnot : p ∉ ks.take i := by
        have h1 := hd.nd
        rw [← List.take_append_drop (i + 1) ks, st] at h1
        have h2 := (List.nodup_append.mp h1).1
        exact fun z => (List.nodup_append.mp h2).2.2 p z p (by simp) rfl
      obtain ⟨u1, hu1, du1⟩ := hw.val _ _ hz1
      obtain ⟨u2, hu2, du2⟩ := hw.val _ _ hz2
      obtain ⟨t1, q1, x1, rfl, ht1, _⟩ := dp_wd du1
      obtain ⟨t2, q2, x2, rfl, ht2, _⟩ := dp_wd du2
      have ht1 : SqT K H6 t1 [.int z1.1, .ref q1] := same_sqT c.e (sqT_del hD (same_sqT same_del ht1))
      have ht2 : SqT K H6 t2 [.int z2.1, .ref q2] := same_sqT c.e (sqT_del hD (same_sqT same_del ht2))
      have sv1 : z1.1 - z2.1 = sv d p := by
        unfold sv dist
        rw [hz1, hz2]
        rfl
      have lS : kvS.length ≤ 1000 := by
        have := hS.len
        rw [List.length_take] at this
        omega
      walk_at "vc"
      refine ⟨W, .ref t1, rfl, by rw [← hu1]; exact dw_get hW5, ?_⟩
      walk_at "vc"
      refine ⟨W, .ref t2, rfl, by rw [← hu2]; exact dw_get hW5, ?_⟩
      walk_at "vc"
      rw [sv1]
      have cP := c.turn 0 rfl (.dK (putK kvS (.inl p) (.int (sv d p))))
      refine ⟨kvS, .inl p, rfl, c.at 0 rfl, lenB' lS, _, cP, ?_⟩
      have := hS.put p (u := .int (sv d p)) (.int _)
      rw [if_neg hnot] at this
      rw [st]
      exact this
    · obtain ⟨kvS, c, hS⟩ := pv
      rw [lks, List.take_length] at hS
      clear c0
      refine ⟨c.at 1 rfl, ?_⟩
      have c := c.turn 1 rfl (.dK kvs)
      walk_at "vc"
      refine ⟨D, .dK kvs, c.at 1 rfl, True.intro, fun od2 => ?_⟩
      have c := c.turn 1 rfl (.frz od2 (.dK kvs))
      walk_at "vc"
      refine i_itemsK ?_
      walk_at "vc"
      refine ⟨D, od2, kvs, rfl, c.at 1 rfl, fun L nL => ?_⟩
      have cL := c.push (.lst []) nL
      have nLH : H L = none := free_del c (c.at 1 rfl) nL
      refine lc_it walk_items (fun i H' => ∃ acc, Cxs (del H D) [(L, .lst acc), (S, .dK kvS), (D, .frz od2 (.dK kvs))] H' ∧ Trs H H' acc (nh us east d (ks.take i))) ⟨[], cL, rfl, fun _ _ h => (nomatch h)⟩ (fun i H' _ pv => let ⟨_, c, _⟩ := pv; c.at 2 rfl) (fun i y H5 H6 hi pv hy => ?_) fun H' pv => ?_
      · clear c cL
        obtain ⟨acc, c, hT⟩ := pv
        obtain ⟨T0, ky, vy, rfl, nT, rfl, hk1, hk2⟩ := hy
        obtain ⟨kv, hkv⟩ : ∃ kv, kvs[i]? = some kv := ⟨_, List.getElem?_eq_getElem hi⟩
        obtain ⟨kk, kw⟩ := kv
        simp only [hkv, Option.map_some, Option.some.injEq] at hk1 hk2
        subst hk1 hk2
        obtain ⟨p, hp, rfl, dp⟩ := hd.at hkv
        have hpk := List.mem_of_getElem? hp
        have st : ks.take (i + 1) = ks.take i ++ [p] := by
          rw [List.take_add_one, hp]
          rfl
        have hf5 := fun b => free_del (b := b) c (c.at 2 rfl)
        rw [show kV (Sum.inl p) = V.int p from rfl]
        have hLl := c.at 0 rfl
        have tL : T0 ≠ L := fun z => by rw [z, hLl] at nT; cases nT
        have hT6 : Trs H (upd H5 T0 (.tup [.int p, kw])) acc (nh us east d (ks.take i)) := hT.up fun b _ o ho => (upd_ne (ne_of_none ho nT)).trans ho
        have lacc : acc.length ≤ 100 := by
          rw [hT.1]
          unfold nh
          rw [List.length_map]
          have := List.length_filter_le (fun p => decide (0 < sv d p)) (ks.take i)
          rw [List.length_take] at this
          omega
        have c := c.fresh (.tup [.int p, kw]) nT
        obtain ⟨u, hu, du⟩ := hS.val p hpk
        cases du
        cases dp with
        | @tup q qs _ hq hqs =>
        cases hqs with
        | cons h1 hqs =>
        cases hqs with
        | cons h2 hqs =>
        cases hqs with
        | cons h3 hqs =>
        cases hqs with
        | cons h4 hqs =>
        cases hqs
        cases h1
        cases h2
        cases h3
        cases h4
        have hq := same_sqT c.e hq
        have hSc := c.at 1 rfl
        generalize hH6 : upd H5 T0 (.tup [.int p, V.ref q]) = H6 at c hq hSc hT6 ⊢
        have hT0 : SqT K H6 T0 [.int p, .ref q] := SqT.of (by rw [← hH6]; exact upd_same)
        refine i_gtup hT0 rfl ?_
        walk_at "vc"
        refine ⟨S, .int (sv d p), rfl, by rw [← hu]; exact dw_get hSc, ?_⟩
        walk_at "vc"
        refine i_iteD (fun hpos => ?_) (fun hpos => ?_)
        · walk_at "vc"
          refine ⟨S, .int (sv d p), rfl, by rw [← hu]; exact dw_get hSc, ?_⟩
          walk_at "vc"
          refine ⟨lenB rfl, fun T1 n1 => ?_⟩
          have c1 := c.fresh (.tup [.int (aE east p), .int (bE east p), .int (hiI us (aE east p) (bE east p) - sv d p)]) n1
          have c2 := c1.turn 0 rfl (.lst (acc ++ [V.ref T1]))
          have n5 : H5 T1 = none := by
            cases z : H5 T1 with
            | none => rfl
            | some o =>
              have := same_new (o := HO.tup [.int p, V.ref q]) nT _ _ z
              rw [hH6, n1] at this
              cases this
          have tL1 : T1 ≠ L := fun z => by rw [z, hLl] at n5; cases n5
          refine ⟨acc, c1.at 0 rfl, lenB' (by omega), acc ++ [V.ref T1], c2, ?_⟩
          rw [st, show nh us east d (ks.take i ++ [p]) = nh us east d (ks.take i) ++ [nh1 us east d p] by
            unfold nh
            rw [List.filter_append, List.map_append, List.filter_cons_of_pos (by simpa using hpos)]
            rfl]
          refine hT6.snoc (fun b nb o ho => ?_) (hf5 _ n5) ?_
          · have b1 : b ≠ L := fun z => by rw [z, c.at 0 rfl] at ho; cases ho
            rw [upd_ne b1, upd_ne (ne_of_none ho n1)]
            exact ho
          · rw [upd_ne tL1]
            exact upd_same
        · refine ⟨acc, c, ?_⟩
          rw [st, show nh us east d (ks.take i ++ [p]) = nh us east d (ks.take i) by
            unfold nh
            rw [List.filter_append, List.map_append, List.filter_cons_of_neg (by simpa using hpos)]
            simp]
          exact hT6
      · obtain ⟨acc, c, hT⟩ := pv
        rw [lks, List.take_length] at hT
        refine ⟨c.at 2 rfl, ?_⟩
        have c2 := c.turn 2 rfl (.dK kvs)
        refine q L _ acc (Cxs.back hD (Same.refl _) c2 upd_same) nLH (c2.at 0 rfl) (hT.up fun b nb o ho => ?_)
        have b1 : b ≠ D := fun z => by rw [z, hD] at nb; cases nb
        exact (upd_ne b1).trans ho
end
end
section
set_option maxRecDepth 100000
set_option maxHeartbeats 1000000
open PySem PySem.Spec PyProof.Rows L2 VX SPR
local macro_rules | `(tactic| walk_at "cl") => `(tactic| exact Txt.cl_Line (by assumption))
local macro_rules | `(tactic| walk_at "na") => `(tactic| first | exact Txt.na_Line_size (by assumption) | exact Txt.na_Line__spans (by assumption) | exact Txt.na_Line__mosts (by assumption))
structure KS (n : Int) (bs : List B3) (east : Bool) (ks : List Int) : Prop where
  nd : ks.Nodup
  cov : ∀ p, p ∈ ks ↔ ∃ b ∈ bs, Cov b east p
structure Sol (n : Int) (us : List W4) (bs : List B3) (east : Bool) (ks : List Int) (d : DM) : Prop where
  kk : KS n bs east ks
  sw : SW (bnds n us bs ks east) d
  cl : ∀ b ∈ bnds n us bs ks east, Clo d b
theorem KS.rng {n : Int} {bs : List B3} {east : Bool} {ks : List Int} (h : KS n bs east ks) (wo : ∀ b ∈ bs, WshOk n b) : ∀ p ∈ ks, 0 ≤ p ∧ p < n - 1 := fun p hp => by
  obtain ⟨b, hb, _, h1, h2⟩ := (h.cov p).mp hp
  obtain ⟨a1, a2, _, _⟩ := wo b hb
  omega
theorem Sol.dom {n : Int} {us : List W4} {bs : List B3} {east : Bool} {ks : List Int} {d : DM} (h : Sol n us bs east ks d) : ∀ i : Nat, (i : Int) < n → ∃ z, d (i : Int) = some z
  | 0, _ => ⟨_, h.sw.zero⟩
  | i + 1, hi => by
    obtain ⟨z, hz⟩ := h.dom i (by omega)
    have hk : kp ((0 : Int) + (i : Nat)) ∈ bnds n us bs ks east := by
      unfold bnds keeps
      exact List.mem_append_left _ (List.mem_append_left _ (List.mem_map.mpr ⟨i, List.mem_range.mpr (by omega), rfl⟩))
    have h0 : d (kp ((0 : Int) + (i : Nat))).e = some (z.1, z.2) := by
      show d ((0 : Int) + (i : Nat)) = _
      rw [Int.zero_add, hz]
    obtain ⟨y, u, hy, _⟩ := h.cl _ hk z.1 z.2 h0
    refine ⟨(y, u), ?_⟩
    rw [← hy]
    show d _ = d ((0 : Int) + (i : Nat) + 1)
    congr 1
    omega
theorem Sol.at {n : Int} {us : List W4} {bs : List B3} {east : Bool} {ks : List Int} {d : DM} (h : Sol n us bs east ks d) {p : Int} (p0 : 0 ≤ p) (p1 : p < n) : ∃ z, d p = some z := by
  obtain ⟨z, hz⟩ := h.dom p.toNat (by omega)
  exact ⟨z, by rw [← hz]; congr 1; omega⟩
/-- behind so many of the two directions -/
inductive Stg (n : Int) (us : List W4) (bs : List B3) : Nat → Int → List B3 → Prop
  | zero : Stg n us bs 0 0 []
  | one {ks : List Int} {d : DM} : Sol n us bs true ks d → Stg n us bs 1 (0 - dist d (n - 1)) (nh us true d ks)
  | two {ks ks2 : List Int} {d d2 : DM} : Sol n us bs true ks d → Sol n us bs false ks2 d2 → Stg n us bs 2 (0 - dist d (n - 1) - dist d2 (n - 1)) (nh us true d ks ++ nh us false d2 ks2)
theorem nh_nd {us : List W4} {east : Bool} {d : DM} {ks : List Int} (nd : ks.Nodup) : ((nh us east d ks).map B3.k).Nodup := by
  unfold nh
  rw [List.map_map]
  have key : ∀ l : List Int, l.Nodup → (l.map (B3.k ∘ nh1 us east d)).Nodup := fun l => by
    induction l with
    | nil => exact fun _ => List.nodup_nil
    | cons x l ih =>
      intro h
      rw [List.nodup_cons] at h
      rw [List.map_cons, List.nodup_cons]
      refine ⟨fun hm => ?_, ih h.2⟩
      obtain ⟨y, hy, e⟩ := List.mem_map.mp hm
      have e : [aE east y, bE east y] = [aE east x, bE east x] := e
      have : y = x := by
        unfold aE at e
        cases east <;> simp at e <;> omega
      exact h.1 (this ▸ hy)
  exact key _ (nd.filter _)
theorem Stg.nd {n : Int} {us : List W4} {bs : List B3} {i : Nat} {s : Int} {r : List B3} (h : Stg n us bs i s r) : (r.map B3.k).Nodup := by
  cases h with
  | zero => exact List.nodup_nil
  | one h => exact nh_nd h.kk.nd
  | two h1 h2 =>
    rw [List.map_append, List.nodup_append]
    refine ⟨nh_nd h1.kk.nd, nh_nd h2.kk.nd, fun a ha b hb e => ?_⟩
    unfold nh at ha hb
    rw [List.map_map] at ha hb
    obtain ⟨x, _, rfl⟩ := List.mem_map.mp ha
    obtain ⟨y, _, rfl⟩ := List.mem_map.mp hb
    have e : [aE true x, bE true x] = [aE false y, bE false y] := e
    simp [aE, bE] at e
    omega
theorem i_par3 {i j l : Nat} {ta : TA} {D : Ends} {σ : L2.St} {H : Hp} (q : ta σ H fun vs H1 => ∃ u v w, vs = [u, v, w] ∧ D.nx (((σ.set i (some u)).set j (some v)).set l (some w)) H1) : tPar3 i j l ta D σ H := q
theorem del_mono {H H' : Hp} {D : Addr} (e : Same H H') : Same (del H D) (del H' D) := fun b o hb => by
  have b1 : b ≠ D := fun z => by rw [z, del_same] at hb; cases hb
  rw [del_ne b1] at hb ⊢
  exact e b o hb
theorem trs_dp {K : PySem.W.Frag} {F H H' : Hp} {xs : List V} {ps : List B3} (h : Trs H H' xs ps) : DpAll K (grow F H H') xs (ps.map B3.d) := by
  obtain ⟨hl, hi⟩ := h
  induction ps generalizing xs with
  | nil =>
    cases xs with
    | nil => exact .nil
    | cons _ _ => cases hl
  | cons p ps ih =>
    cases xs with
    | nil => cases hl
    | cons v xs =>
      obtain ⟨t, h1, h2, h3⟩ := hi 0 p rfl
      cases h1
      refine .cons (.tup (SqT.of ((grow_new h2).trans h3)) (.cons (.int _) (.cons (.int _) (.cons (.int _) .nil)))) (ih (by simpa using hl) fun i q hq => hi (i + 1) q hq)
theorem c0free {H H' : Hp} {Hh Wk Te : Addr} {u v : HO} (_e : Same H H') (n1 : H' Hh = none) (n2 : upd H' Hh u Wk = none) (n3 : upd (upd H' Hh u) Wk v Te = none) : H' Te = none := by
  have a : Te ≠ Wk := fun z => by rw [z, upd_same] at n3; cases n3
  rw [upd_ne a] at n3
  have b : Te ≠ Hh := fun z => by rw [z, upd_same] at n3; cases n3
  rwa [upd_ne b] at n3
theorem nh_len {us : List W4} {east : Bool} {d : DM} {ks : List Int} : (nh us east d ks).length ≤ ks.length := by
  unfold nh
  rw [List.length_map]
  exact List.length_filter_le _ _
section
variable {w : World} {K : PySem.W.Frag} {mg : Str → Option Value} {base : Heap} {A : Adr}
def spQk (A : Adr) (K : PySem.W.Frag) : Sp := fun vs H Q E => ∃ (x a : Addr) (n : Int) (us : List W4) (cs : List B3) (xs : List V) (bs : List B3), vs = [.ref x, .ref a] ∧ IsLine A.c_Line H x n us cs ∧ us.length ≤ 1000 ∧ 1 ≤ n ∧ n ≤ 100 ∧ Nb n us ∧ SqL K H a xs ∧ DpAll K H xs (bs.map B3.d) ∧ bs.length ≤ 100 ∧ (∀ b ∈ bs, WshOk n b) ∧
  (∀ (s : Int) (r : List B3) (Tt L R : Addr) (ys : List V) (qs : List B3) (H' : Hp), Stg n us bs 2 s r → qs.Perm r → Same H H' → H L = none → H' Tt = some (.tup [.int s, .ref L, .ref R]) → H' L = some (.lst ys) → DpAll K (del H' L) ys (qs.map B3.d) → Q (.ref Tt) H') ∧
  (∀ east ks, KS n bs east ks → (∀ p, ¬ Feas (bnds n us bs ks east) p) → (east = false → ∃ k2 d2, Sol n us bs true k2 d2) → ∀ d H' fs, H d = none → Same H H' → List.lookup ("east" : Str) fs = some (V.bl east) → H' d = some (.xd fs) → E (.ref A.c_CannotQuicken) (some d) H')
theorem ok_quicken (T : Txt K mg A) : FnOk P w K mg base (L2.CX P w) 7 A.f_quicken A.d_quicken ["line", "wishes"] (spQk A K) := by
  refine T.F_quicken.okX sc_quicken (fun vs H Q E h => ?_) (fun cdv A' outer s0 H vs Q E hr h => ?_)
  · obtain ⟨x, a, n, us, cs, xs, bs, rfl, _⟩ := h
    rfl
  · obtain ⟨x, a, n, us, cs, xs, bs, rfl, hl, lu, n1, n9, nb, ha, hx, lb, wo, q, qe⟩ := h
    have lx : xs.length = bs.length := by rw [dpa_len hx, List.length_map]
    obtain ⟨dx, d1, d2, js, ms_, hx0, _⟩ := id hl
    refine ⟨_, (pss_cons (ps_for (passes_of rfl) rfl (pi_enum (by rfl) T.n_enumerate (pa_cons (pv 1) pa_nil)) (pg_tup rfl (pgs_cons (pg_name (i := 2) sc_quicken.nd rfl (Or.inl rfl)) (pgs_cons (pg_tup rfl (pgs_cons (pg_name (i := 3) sc_quicken.nd rfl (Or.inl rfl)) (pgs_cons (pg_name (i := 4) sc_quicken.nd rfl (Or.inl rfl)) (pgs_cons (pg_name (i := 5) sc_quicken.nd rfl (Or.inl rfl)) pgs_nil)))) pgs_nil)))
      (pss_one (ps_expr (pe_call (ok_check_wish T) (hr.mono (by decide)) (by rfl) T.g_check_wish T.F_check_wish.kp (b_check_wish T) .nil pass0 (pa_cons (pv 0) (pa_cons (pv 2) (pa_cons (pv 3) (pa_cons (pv 4) (pa_cons (pv 5) pa_nil)))))))))
      (pss_cons (ps_par3 (i := 6) (j := 7) (l := 8) rfl sc_quicken.nd rfl rfl rfl (by decide) (by decide) (by decide) rfl rfl rfl (pa_cons pe_int (pa_cons (pe_lst pa_nil) (pa_cons (pe_lst pa_nil) pa_nil))) (by rfl))
      (pss_cons (ps_for (passes_of rfl) rfl (pi_tup (pe_tup (pa_cons pe_bl (pa_cons pe_bl pa_nil)))) (pg_name (i := 9) sc_quicken.nd rfl (Or.inl rfl))
      (pss_cons (ps_set (i := 10) sc_quicken.nd rfl (Or.inl rfl) (pe_call (ok_wires_to_save T) (hr.mono (by decide)) (by rfl) T.g_wires_to_save T.F_wires_to_save.kp (b_wires_to_save T) .nil pass0 (pa_cons (pv 0) (pa_cons (pv 1) (pa_cons (pv 9) pa_nil)))))
      (pss_cons (ps_set (i := 11) sc_quicken.nd rfl (Or.inl rfl) (pe_call (ok_ways_by_point T) (hr.mono (by decide)) (by rfl) T.g_ways_by_point T.F_ways_by_point.kp (b_ways_by_point T) .nil (passes_call (takes_of rfl rfl rfl rfl) (fun _ _ _ _ h => h)) (pa_cons (pv 0) (pa_cons (pv 1) (pa_cons (pv 10) (pa_cons (pv 9) pa_nil))))))
      (pss_cons (ps_aug (i := 6) sc_quicken.nd rfl (Or.inl rfl) (pe_ix (r := rIxT K) ix_tup (pe_dget (hu_of hr) (pv 11) (pe_op op_sub (pe_fld (pv 0) rfl) pe_int) (fun _ _ => rfl)) pe_int (fun _ _ => rfl)) ip_sub)
      (pss_cons (ps_expr (pe_bm PySem.F.plainAttrs_list PySem.F.slot_list_extend PySem.F.type_list_extend mt_extend (pv 7) (pa_cons (pe_call (ok_new_highs T) (hr.mono (by decide)) (by rfl) T.g_new_highs T.F_new_highs.kp (b_new_highs T) .nil pass0 (pa_cons (pv 10) (pa_cons (pv 11) pa_nil))) pa_nil)))
      (pss_one (ps_expr (pe_bm PySem.F.plainAttrs_list PySem.F.slot_list_append PySem.F.type_list_append mt_append (pv 8) (pa_cons (pe_lc (own := [("bound", 12)]) (g := gName 12) (tt := tYes) (by rfl) sc_quicken.nd (pi_tup (pe_ix (r := rIxT K) ix_tup (pe_dget (hu_of hr) (pv 11) (pe_op op_sub (pe_fld (pv 0) rfl) pe_int) (fun _ _ => rfl)) pe_int (fun _ _ => rfl))) (blkOk_by (N := N_quicken) (sc := defScope s_quicken) (by decide +kernel)) (fun _ _ _ _ _ => (pg_name (i := 12) sc_quicken.nd rfl (Or.inl rfl))) (fun _ _ _ _ _ => pts_nil) (fun _ _ _ _ _ => (pe_ix (r := rIxT K) ix_tup (pv 12) pe_int (fun _ _ => rfl)))) pa_nil)))))))))
      (pss_one (ps_ret (pe_tup (pa_cons (pv 6) (pa_cons (pe_callB (cr_sortK (d := 2) (by decide)) (by rfl) T.n_sorted (by decide +kernel) (pa_cons (pv 7) pa_nil)) (pa_cons (pe_tup (pa_cons (pe_ix (r := rIxL K) ix_list (pv 8) pe_int (fun _ _ => rfl)) (pa_cons (pe_ix (r := rIxL K) ix_list (pv 8) pe_int (fun _ _ => rfl)) pa_nil))) pa_nil))))))))), ?_⟩
    refine i_start (σ' := [some (V.ref x), some (.ref a), none, none, none, none, none, none, none, none, none, none, none]) rfl ?_
    walk_at "vc"
    refine ⟨a, xs, rfl, ha, ?_⟩
    refine for_it (walk_enum (K := K) (a := a) (xs := xs)) (fun i σ' H' => ∃ y2 y3 y4 y5, σ' = [some (V.ref x), some (.ref a), y2, y3, y4, y5, none, none, none, none, none, none, none] ∧ Same H H')
      ⟨_, _, _, _, rfl, Same.refl _⟩ (fun i σ' H' _ pv => let ⟨_, _, _, _, _, e⟩ := pv; e.seq ha) (fun i y σ' H5 H6 hi pv hy => ?_) fun σ' H' pv => ?_
    · obtain ⟨y2, y3, y4, y5, rfl, e⟩ := pv
      obtain ⟨T0, ix, vy, rfl, nT, rfl, hk1, hv⟩ := hy
      cases hk1
      have hi' : i < bs.length := by omega
      have hb : bs[i]? = some bs[i] := List.getElem?_eq_getElem hi'
      obtain ⟨v', hv', dv⟩ := dpa_get (i := i) (d := bs[i].d) hx (by rw [List.getElem?_map, hb]; rfl)
      have hv : xs[i]? = some vy := hv
      rw [hv] at hv'
      cases hv'
      have hw := wo _ (List.getElem_mem hi')
      generalize bs[i] = b at dv hw
      obtain ⟨t, rfl, ht⟩ := dp_b3 dv
      have s0' := same_new (o := HO.tup [.int (i : Nat), .ref t]) nT
      have ht : SqT K (upd H5 T0 (.tup [.int (i : Nat), .ref t])) t [.int b.l, .int b.e, .int b.m] := same_sqT (e.trans s0') ht
      refine i_gtup (SqT.of upd_same) rfl ?_
      walk_at "vc"
      refine ⟨x, n, (i : Nat), us, cs, b, rfl, hl.mono (e.trans s0'), lu, by omega, nb, hw, fun H7 e7 => ?_⟩
      walk_at "vc"
      exact ⟨_, _, _, _, rfl, e.trans (s0'.trans e7)⟩
    obtain ⟨y2, y3, y4, y5, rfl, e⟩ := pv
    walk_at "vc"
    refine i_par3 ?_
    walk_at "vc"
    refine ⟨lenB rfl, fun Hh nHh => ?_⟩
    have c := (Cxs.start H').push (.lst []) nHh
    walk_at "vc"
    refine ⟨lenB rfl, fun Wk nWk => ?_⟩
    have c := c.push (.lst []) nWk
    walk_at "vc"
    refine ⟨_, _, _, rfl, ?_⟩
    walk_at "vc"
    refine i_iTup ?_
    walk_at "vc"
    refine ⟨lenB rfl, fun Te nTe => ?_⟩
    have c := c.new (.tup [.bl true, .bl false]) nTe
    have eB := e.trans (same_new (o := HO.tup [.bl true, .bl false]) (c0free e nHh nWk nTe))
    have hTe : upd H' Te (.tup [.bl true, .bl false]) Te = some (.tup [.bl true, .bl false]) := upd_same
    generalize hB : upd H' Te (.tup [.bl true, .bl false]) = B at c eB hTe
    refine ⟨Te, rfl, ⟨_, SqT.of upd_same⟩, ?_⟩
    refine for_it (walk_tup (K := K) (a := Te) (xs := [V.bl true, .bl false])) (fun i σ' H' => ∃ y9 y10 y11 F hs ws s r, σ' = [some (V.ref x), some (.ref a), y2, y3, y4, y5, some (.int s), some (.ref Hh), some (.ref Wk), y9, y10, y11, none] ∧ Same B F ∧ Cxs F [(Wk, .lst ws), (Hh, .lst hs)] H' ∧ Stg n us bs i s r ∧ DpAll K F hs (r.map B3.d) ∧ ws.length = i ∧ r.length ≤ 100 * i)
      ⟨_, _, _, B, [], [], 0, [], rfl, Same.refl _, c, .zero, .nil, rfl, Nat.le_refl _⟩ (fun i σ' H' _ pv => ?_) (fun i y σ' H5 H6 hi pv hy => ?_) fun σ' H' pv => ?_
    · obtain ⟨_, _, _, F, _, _, _, _, _, e, c, _⟩ := pv
      exact SqT.of ((e.trans c.e) _ _ hTe)
    · clear c
      obtain ⟨y9, y10, y11, F, hs, ws, s, r, rfl, eF, c, stg, hrow, lws, lr⟩ := pv
      obtain ⟨rfl, hv⟩ := hy
      have eH := eB.trans (eF.trans c.e)
      obtain ⟨east, rfl, hst⟩ : ∃ east, y = V.bl east ∧ ∀ ks d, Sol n us bs east ks d → Stg n us bs (i + 1) (s - dist d (n - 1)) (r ++ nh us east d ks) := by
        cases stg with
        | zero => exact ⟨true, by cases hv; rfl, fun ks d h => by rw [List.nil_append]; exact .one h⟩
        | one h1 => exact ⟨false, by cases hv; rfl, fun ks d h => .two h1 h⟩
        | two _ _ => exact absurd hi (by show ¬ (2 < 2); decide)
      have hfirst : east = false → ∃ k2 d2, Sol n us bs true k2 d2 := by
        intro z
        cases stg with
        | zero =>
          cases hv
          cases z
        | one h1 => exact ⟨_, _, h1⟩
        | two _ _ => exact absurd hi (by show ¬ (2 < 2); decide)
      walk_at "vc"
      refine ⟨x, a, n, us, cs, xs, bs, east, rfl, hl.mono eH, n9, nb, eH.seq ha, hx.mono eH, wo, fun D H7 kvs ks e7 nD hD hd cov => ?_⟩
      have kk : KS n bs east ks := ⟨hd.nd, cov⟩
      have krng := kk.rng wo
      have lks : ks.length ≤ 100 := by
        have := SPR.nodup_short (n := n.toNat) hd.nd (fun p hp => by have := krng p hp; omega)
        omega
      have eH7 := eH.trans e7
      walk_at "vc"
      refine ⟨x, a, D, n, us, cs, xs, bs, kvs, ks, east, rfl, hl.mono eH7, n1, n9, eH7.seq ha, hx.mono eH7, lb, wo, hD, hd, krng, fun b hb hE p p0 p1 => (cov p).mpr ⟨b, hb, hE, p0, p1⟩, fun Dw H8 kv2 ks2 d e8 nDw hDw dw sw cl => ?_, fun nf dd H8 fs nd e8 lk8 hd8 => qe east ks kk nf hfirst dd H8 fs (eH7.free nd) (eH7.trans e8) lk8 hd8⟩
      have sol : Sol n us bs east ks d := ⟨kk, sw, cl⟩
      obtain ⟨z, hz⟩ := sol.at (p := n - 1) (by omega) (by omega)
      obtain ⟨uz, huz, duz⟩ := dw.val _ _ hz
      obtain ⟨tz, qz, xz, rfl, htz, hqz, hxz⟩ := dp_wd duz
      have hz1 : z.1 = dist d (n - 1) := by
        unfold dist
        rw [hz]
        rfl
      have c8 := (c.grow e7).grow e8
      have eH8 := eH7.trans e8
      have hx8 := eH8 _ _ hx0
      have htz8 := same_sqT same_del htz
      walk_at "vc"
      refine ⟨.int s, rfl, ?_⟩
      walk_at "vc"
      refine ⟨Dw, .ref tz, rfl, by rw [← huz]; exact dw_get hDw, ?_⟩
      walk_at "vc"
      refine ⟨s, z.1, rfl, rfl, ?_⟩
      rw [hz1]
      have hHh := c8.at 1 rfl
      walk_at "vc"
      have hD8 := e8 _ _ hD
      have ne : D ≠ Dw := fun z => by rw [z, nDw] at hD; cases hD
      refine ⟨D, Dw, us, east, kvs, kv2, ks, ks2, d, rfl, hD8, hd.mono (del_mono e8), hDw, dw, ne, lks, fun p hp => ⟨sol.at (krng p hp).1 (by have := krng p hp; omega), sol.at (by have := krng p hp; omega) (by have := krng p hp; omega)⟩, fun L9 H9 xs9 e9 nL9 hL9 tr => ?_⟩
      have c9 := c8.grown e9
      have s9 : Same F (grow F H8 H9) := grow_same c8.e e9
      have r9 := trs_dp (K := K) (F := F) tr
      have l9 := tr.1
      have l10 := nh_len (us := us) (east := east) (d := d) (ks := ks)
      have lhs : hs.length = r.length := by rw [dpa_len hrow, List.length_map]
      walk_at "vc"
      refine ⟨Hh, L9, hs, xs9, rfl, rfl, c9.at 1 rfl, hL9, by have hi2 : i < 2 := hi; rw [sizeLine_eq]; omega, ?_⟩
      have c10 := c9.turn 1 rfl (.lst (hs ++ xs9))
      have hWk := c10.at 0 rfl
      have hx10 := c10.e _ _ (s9 _ _ ((eB.trans eF) _ _ hx0))
      have hDw10 : upd H9 Hh (.lst (hs ++ xs9)) Dw = some (.dK kv2) := by
        have nb1 : Dw ≠ Hh := fun z => by
          have := c8.at 1 rfl
          rw [← z, hDw] at this
          cases this
        rw [upd_ne nb1]
        exact e9 _ _ hDw
      have lift : ∀ {t : Addr} {ys : List V}, SqT K H8 t ys → SqT K (upd H9 Hh (.lst (hs ++ xs9))) t ys := fun {t ys} h => by
        rcases same_sqT e9 h with (h | ⟨o, h⟩) | h
        · exact SqT.of ((upd_ne (fun z => by rw [z, c9.at 1 rfl] at h; cases h)).trans h)
        · exact .inl (.inr ⟨o, (upd_ne (fun z => by rw [z, c9.at 1 rfl] at h; cases h)).trans h⟩)
        · exact .inr h
      have htz10 := lift htz8
      have hqz10 := lift (same_sqT same_del hqz)
      generalize hH10 : upd H9 Hh (.lst (hs ++ xs9)) = H10 at c10 hWk hx10 hDw10 htz10 hqz10 lift ⊢
      walk_at "vc"
      refine i_iTup ?_
      walk_at "vc"
      refine ⟨Dw, .ref tz, rfl, by rw [← huz]; exact dw_get hDw10, ?_⟩
      walk_at "vc"
      refine ⟨qz, rfl, ⟨xz, hqz10⟩, fun M nM => ?_⟩
      have cM := (Cxs.start H10).push (.lst []) nM
      have lz : z.2.length ≤ 100 := by
        have := (sw.bound (n := n.toNat) (B := (some_B (bnds n us bs ks east)).choose) (fun s hs => ?_) hz).2
        · omega
        · have h1 := (some_B (bnds n us bs ks east)).choose_spec s hs
          obtain ⟨B2, hB2⟩ := bs_ok (us := us) (east := east) n1 n9 lb wo lks krng
          have h2 := (hB2.r s hs).1
          exact ⟨h2.1, h2.2.1, h1⟩
      have lxz : xz.length = z.2.length := by rw [dpa_len hxz, List.length_map]
      refine lc_it (walk_tup (K := K) (a := qz) (xs := xz)) (fun j H' => ∃ mm, Cxs H10 [(M, .lst mm)] H' ∧ mm.length = j) ⟨[], cM, rfl⟩ (fun j H' _ pv => let ⟨_, c, _⟩ := pv; same_sqT c.e hqz10) (fun j y H11 H12 hj pv hy => ?_) fun H' pv => ?_
      · obtain ⟨mm, c11, lmm⟩ := pv
        obtain ⟨rfl, hv2⟩ := hy
        have hj' : j < z.2.length := by omega
        obtain ⟨v', hv', dv2⟩ := dpa_get (i := j) (d := bD z.2[j]) hxz (by rw [List.getElem?_map, List.getElem?_eq_getElem hj']; rfl)
        rw [hv2] at hv'
        cases hv'
        obtain ⟨tj, kj, rfl, htj, _⟩ := dp_bd dv2
        have htj := same_sqT c11.e (lift (same_sqT same_del htj))
        walk_at "vc"
        have c12 := c11.turn 0 rfl (.lst (mm ++ [kj]))
        exact ⟨mm, c11.at 0 rfl, lenB' (by omega), mm ++ [kj], c12, by rw [List.length_append, lmm]; rfl⟩
      · obtain ⟨mm, c11, _⟩ := pv
        have c12 := c10.grow c11.e
        walk_at "vc"
        refine i_appC 0 c12 rfl (by have hi2 : i < 2 := hi; omega) fun H13 c13 => ?_
        walk_at "vc"
        refine ⟨_, _, _, _, hs ++ xs9, ws ++ [V.ref M], s - dist d (n - 1), r ++ nh us east d ks, rfl, eF.trans s9, c13, hst ks d sol, ?_, by rw [List.length_append, lws]; rfl, by rw [List.length_append]; omega⟩
        rw [List.map_append]
        exact (hrow.mono s9).app r9
    · clear c
      obtain ⟨y9, y10, y11, F, hs, ws, s, r, rfl, eF, c, stg, hrow, lws, lr⟩ := pv
      walk_at "vc"
      have stg : Stg n us bs 2 s r := stg
      have lws : ws.length = 2 := lws
      obtain ⟨w0, w1, rfl⟩ : ∃ w0 w1, ws = [w0, w1] := by
        match ws, lws with
        | [w0, w1], _ => exact ⟨w0, w1, rfl⟩
      refine i_sortK (d := B3.d) (k := B3.k) (SqL.of (c.at 1 rfl)) c.e hrow (fun v b _ h => b3_tupX h) stg.nd fun ys qs L perm pw nL hy => ?_
      have sL := same_new (o := HO.lst ys) nL
      have hWk := sL _ _ (c.at 0 rfl)
      walk_at "vc"
      refine ⟨lenB rfl, fun R nR => ?_⟩
      have sR := same_new (o := HO.tup [w0, w1]) nR
      walk_at "vc"
      refine ⟨lenB rfl, fun Tt nT => ?_⟩
      have sT := same_new (o := HO.tup [V.int s, .ref L, .ref R]) nT
      have eAll := eB.trans (eF.trans (c.e.trans (sL.trans (sR.trans sT))))
      have nLH := (eB.trans (eF.trans c.e)).free nL
      refine q s r Tt L R ys qs _ stg perm eAll nLH upd_same ((sR.trans sT) _ _ upd_same) (hy.mono fun b o hb => ?_)
      have b1 : b ≠ L := fun z => by rw [z, c.e.free nL] at hb; cases hb
      rw [del_ne b1]
      exact (c.e.trans (sL.trans (sR.trans sT))) _ _ hb
end
end
section
set_option maxRecDepth 100000
set_option maxHeartbeats 1000000
open PySem PySem.Spec PyProof.Rows L2 VX SPR
/-! ### the least total saving, as numbers -/
def Sg (f : Nat → Int) : Nat → Int
  | 0 => 0
  | i + 1 => Sg f i + f i
theorem Sg_map (f : Nat → Int) : ∀ n, ((List.range n).map f).sum = Sg f n
  | 0 => rfl
  | n + 1 => by
    rw [List.range_succ, List.map_append, List.sum_append, Sg_map f n]
    simp [Sg]
theorem Sg_congr {f g : Nat → Int} : ∀ {n : Nat}, (∀ i, i < n → f i = g i) → Sg f n = Sg g n
  | 0, _ => rfl
  | n + 1, h => by
    show Sg f n + f n = Sg g n + g n
    rw [Sg_congr fun i hi => h i (by omega), h n (by omega)]
theorem Sg_sub (f g : Nat → Int) : ∀ n, Sg (fun i => f i - g i) n = Sg f n - Sg g n
  | 0 => rfl
  | n + 1 => by
    show Sg (fun i => f i - g i) n + (f n - g n) = Sg f n + f n - (Sg g n + g n)
    rw [Sg_sub f g n]
    omega
theorem Sg_le {f g : Nat → Int} : ∀ {n : Nat}, (∀ i, i < n → f i ≤ g i) → Sg f n ≤ Sg g n
  | 0, _ => Int.le_refl _
  | n + 1, h => by
    have h1 := Sg_le (n := n) fun i hi => h i (by omega)
    have h2 := h n (by omega)
    show Sg f n + f n ≤ Sg g n + g n
    omega
theorem Sg_shift (f : Nat → Int) (a : Nat) : ∀ k, Sg (fun i => f (a + i)) k = Sg f (a + k) - Sg f a
  | 0 => by
    show (0 : Int) = Sg f a - Sg f a
    omega
  | k + 1 => by
    show Sg (fun i => f (a + i)) k + f (a + k) = Sg f (a + k) + f (a + k) - Sg f a
    rw [Sg_shift f a k]
    omega
/-- what falls from step to step -/
theorem Sg_tele (x : Nat → Int) : ∀ n, Sg (fun i => x i - x (i + 1)) n = x 0 - x n
  | 0 => by
    show (0 : Int) = x 0 - x 0
    omega
  | n + 1 => by
    show Sg (fun i => x i - x (i + 1)) n + (x n - x (n + 1)) = x 0 - x (n + 1)
    rw [Sg_tele x n]
    omega
theorem sum_take (l : List Int) (a k : Nat) : ((l.drop a).take k).sum = (l.take (a + k)).sum - (l.take a).sum := by
  have : l.take (a + k) = l.take a ++ (l.drop a).take k := by
    rw [List.take_add]
  rw [this, List.sum_append]
  omega
theorem Sg_slice (f : Nat → Int) {n a b : Nat} (hab : a ≤ b) (hb : b ≤ n) : ((((List.range n).map f).drop a).take (b - a)).sum = Sg f b - Sg f a := by
  rw [sum_take, show a + (b - a) = b by omega, ← List.map_take, ← List.map_take, List.take_range, List.take_range, Nat.min_eq_left hb, Nat.min_eq_left (Nat.le_trans hab hb), Sg_map, Sg_map]
def Met (h : Nat → Int) (sp : List B3) : Prop := ∀ b ∈ sp, Sg h b.e.toNat - Sg h b.l.toNat ≤ b.m
def CovS (sp : List B3) (p : Nat) : Prop := ∃ b ∈ sp, b.l ≤ (p : Int) ∧ (p : Int) < b.e
instance (sp : List B3) (p : Nat) : Decidable (CovS sp p) := inferInstanceAs (Decidable (∃ b ∈ sp, b.l ≤ (p : Int) ∧ (p : Int) < b.e))
def room (lo hi : Nat → Int) (sp : List B3) (p : Nat) : Nat := if CovS sp p then (hi p - lo p + 1).toNat else 1
def InBox (m : Nat) (lo hi : Nat → Int) (sp : List B3) (h : Nat → Int) : Prop := ∀ p, p < m → 0 ≤ hi p - h p ∧ hi p - h p < room lo hi sp p
def IsLst (m : Nat) (lo hi : Nat → Int) (sp : List B3) : Option Int → Prop
  | none => ∀ h, InBox m lo hi sp h → ¬ Met h sp
  | some v => (∃ h, InBox m lo hi sp h ∧ Met h sp ∧ v = Sg hi m - Sg h m) ∧ ∀ h, InBox m lo hi sp h → Met h sp → v ≤ Sg hi m - Sg h m
theorem IsLst.uniq {m : Nat} {lo hi : Nat → Int} {sp : List B3} {r s : Option Int} (h1 : IsLst m lo hi sp r) (h2 : IsLst m lo hi sp s) : r = s := by
  cases r with
  | none =>
    cases s with
    | none => rfl
    | some v =>
      obtain ⟨⟨h, a, b, _⟩, _⟩ := h2
      exact absurd b (h1 h a)
  | some u =>
    cases s with
    | none =>
      obtain ⟨⟨h, a, b, _⟩, _⟩ := h1
      exact absurd b (h2 h a)
    | some v =>
      obtain ⟨⟨h, a, b, e⟩, f⟩ := h1
      obtain ⟨⟨h', a', b', e'⟩, f'⟩ := h2
      have := f _ a' b'
      have := f' _ a b
      have : u = v := by omega
      rw [this]
/-! ### all choices of digits -/
def PP (r : Nat → Nat) : Nat → Nat
  | 0 => 1
  | i + 1 => PP r i * r i
theorem PP_pos {r : Nat → Nat} : ∀ {n : Nat}, (∀ i, i < n → 0 < r i) → 0 < PP r n
  | 0, _ => Nat.one_pos
  | n + 1, h => Nat.mul_pos (PP_pos fun i hi => h i (by omega)) (h n (by omega))
theorem PP_dvd (r : Nat → Nat) {a : Nat} : ∀ {b : Nat}, a ≤ b → ∃ q, PP r b = PP r a * q
  | 0, h => ⟨1, by rw [show a = 0 by omega]; rfl⟩
  | b + 1, h => by
    by_cases z : a = b + 1
    · exact ⟨1, by rw [z, Nat.mul_one]⟩
    · obtain ⟨q, e⟩ := PP_dvd r (a := a) (b := b) (by omega)
      exact ⟨q * r b, by show PP r b * r b = _; rw [e, Nat.mul_assoc]⟩
def dig (r : Nat → Nat) (c p : Nat) : Nat := c / PP r p % r p
theorem dig_lt {r : Nat → Nat} {c p : Nat} (h : 0 < r p) : dig r c p < r p := Nat.mod_lt _ h
theorem dig_all {r d : Nat → Nat} : ∀ {m : Nat}, (∀ p, p < m → d p < r p) → ∃ c, c < PP r m ∧ ∀ p, p < m → dig r c p = d p
  | 0, _ => ⟨0, Nat.one_pos, fun p hp => by omega⟩
  | m + 1, h => by
    obtain ⟨c, hc, hd⟩ := dig_all (m := m) fun p hp => h p (by omega)
    have hm := h m (by omega)
    have pos : 0 < PP r m := by omega
    refine ⟨c + PP r m * d m, ?_, fun p hp => ?_⟩
    · show _ < PP r m * r m
      have : PP r m * (d m + 1) ≤ PP r m * r m := Nat.mul_le_mul_left _ hm
      rw [Nat.mul_add] at this
      omega
    · by_cases z : p = m
      · subst z
        show (c + PP r p * d p) / PP r p % r p = d p
        rw [Nat.add_mul_div_left _ _ pos, Nat.div_eq_of_lt hc, Nat.zero_add, Nat.mod_eq_of_lt hm]
      · have hp' : p < m := by omega
        rw [← hd p hp']
        obtain ⟨q, e⟩ := PP_dvd r (a := p + 1) (b := m) (by omega)
        have pp : 0 < PP r p := PP_pos fun i hi => by have := h i (by omega); omega
        show (c + PP r m * d m) / PP r p % r p = c / PP r p % r p
        rw [e, show PP r (p + 1) = PP r p * r p from rfl, show PP r p * r p * q * d m = PP r p * (r p * (q * d m)) by simp only [Nat.mul_assoc], Nat.add_mul_div_left _ _ pp, Nat.add_mul_mod_self_left]
/-- the least of the choices so far -/
def LstOf (g : Nat → Int) (ok : Nat → Prop) (i : Nat) : Option Int → Prop
  | none => ∀ c, c < i → ¬ ok c
  | some v => (∃ c, c < i ∧ ok c ∧ v = g c) ∧ ∀ c, c < i → ok c → v ≤ g c
theorem LstOf.zero (g : Nat → Int) (ok : Nat → Prop) : LstOf g ok 0 none := fun c hc => by omega
theorem LstOf.no {g : Nat → Int} {ok : Nat → Prop} {i : Nat} {r : Option Int} (h : LstOf g ok i r) (n : ¬ ok i) : LstOf g ok (i + 1) r := by
  have key : ∀ c, c < i + 1 → ok c → c < i := fun c hc ho => by
    by_cases z : c = i
    · exact absurd (z ▸ ho) n
    · omega
  cases r with
  | none => exact fun c hc ho => h c (key c hc ho) ho
  | some v =>
    obtain ⟨⟨c, hc, ho, e⟩, f⟩ := h
    exact ⟨⟨c, by omega, ho, e⟩, fun c hc ho => f c (key c hc ho) ho⟩
theorem LstOf.big {g : Nat → Int} {ok : Nat → Prop} {i : Nat} {v : Int} (h : LstOf g ok i (some v)) (n : v ≤ g i) : LstOf g ok (i + 1) (some v) := by
  obtain ⟨⟨c, hc, ho, e⟩, f⟩ := h
  refine ⟨⟨c, by omega, ho, e⟩, fun c hc ho => ?_⟩
  by_cases z : c = i
  · exact z ▸ n
  · exact f c (by omega) ho
theorem LstOf.put {g : Nat → Int} {ok : Nat → Prop} {i : Nat} {r : Option Int} (h : LstOf g ok i r) (y : ok i) (l : ∀ v, r = some v → g i < v) : LstOf g ok (i + 1) (some (g i)) := by
  refine ⟨⟨i, by omega, y, rfl⟩, fun c hc ho => ?_⟩
  by_cases z : c = i
  · rw [z]
    exact Int.le_refl _
  · cases r with
    | none => exact absurd ho (h c (by omega))
    | some v =>
      have := h.2 c (by omega) ho
      have := l v rfl
      omega
def hOf (lo hi : Nat → Int) (sp : List B3) (c p : Nat) : Int := hi p - dig (room lo hi sp) c p
theorem IsLst.of {m : Nat} {lo hi : Nat → Int} {sp : List B3} {r : Option Int} (hm : ∀ b ∈ sp, 0 ≤ b.l ∧ b.l < b.e ∧ b.e ≤ m) (lh : ∀ p, p < m → lo p ≤ hi p)
    (h : LstOf (fun c => Sg hi m - Sg (hOf lo hi sp c) m) (fun c => Met (hOf lo hi sp c) sp) (PP (room lo hi sp) m) r) : IsLst m lo hi sp r := by
  have rp : ∀ p, p < m → 0 < room lo hi sp p := fun p hp => by
    have := lh p hp
    unfold room
    split <;> omega
  have box : ∀ c, InBox m lo hi sp (hOf lo hi sp c) := fun c p hp => by
    have := dig_lt (c := c) (rp p hp)
    unfold hOf
    omega
  have all : ∀ h, InBox m lo hi sp h → ∃ c, c < PP (room lo hi sp) m ∧ ∀ p, p < m → hOf lo hi sp c p = h p := fun h hb => by
    obtain ⟨c, hc, hd⟩ := dig_all (r := room lo hi sp) (d := fun p => (hi p - h p).toNat) (m := m) fun p hp => by
      have := hb p hp
      show (hi p - h p).toNat < _
      omega
    refine ⟨c, hc, fun p hp => ?_⟩
    have h1 : dig (room lo hi sp) c p = (hi p - h p).toNat := hd p hp
    have := (hb p hp).1
    unfold hOf
    omega
  have met : ∀ {h h' : Nat → Int}, (∀ p, p < m → h p = h' p) → Met h sp → Met h' sp := fun {h h'} e hh b hb => by
    obtain ⟨b0, b1, b2⟩ := hm b hb
    rw [← Sg_congr (f := h) (n := b.e.toNat) fun i hi => e i (by omega), ← Sg_congr (f := h) (n := b.l.toNat) fun i hi => e i (by omega)]
    exact hh b hb
  cases r with
  | none =>
    intro h' hb hM
    obtain ⟨c, hc, e⟩ := all h' hb
    exact h c hc (met (fun p hp => (e p hp).symm) hM)
  | some v =>
    obtain ⟨⟨c, hc, ho, e⟩, f⟩ := h
    refine ⟨⟨_, box c, ho, e⟩, fun h' hb hM => ?_⟩
    obtain ⟨c', hc', e'⟩ := all h' hb
    rw [← Sg_congr e']
    exact f c' hc' (met (fun p hp => (e' p hp).symm) hM)
/-! ### the program's ways tell it -/
def spns (bs : List B3) (east : Bool) : List B3 := (bs.filter fun b => decide (decide (b.l < b.e) = east)).map fun b => ⟨min b.l b.e, max b.l b.e, b.m⟩
theorem mem_spns {bs : List B3} {east : Bool} {b : B3} (h : b ∈ spns bs east) : ∃ c ∈ bs, decide (c.l < c.e) = east ∧ b = ⟨min c.l c.e, max c.l c.e, c.m⟩ := by
  unfold spns at h
  obtain ⟨c, hc, rfl⟩ := List.mem_map.mp h
  rw [List.mem_filter, decide_eq_true_eq] at hc
  exact ⟨c, hc.1, hc.2, rfl⟩
theorem spns_mem {bs : List B3} {east : Bool} {c : B3} (h : c ∈ bs) (e : decide (c.l < c.e) = east) : (⟨min c.l c.e, max c.l c.e, c.m⟩ : B3) ∈ spns bs east := by
  unfold spns
  refine List.mem_map.mpr ⟨c, ?_, rfl⟩
  rw [List.mem_filter, decide_eq_true_eq]
  exact ⟨h, e⟩
def hiN (us : List W4) (east : Bool) (p : Nat) : Int := hiI us (aE east p) (bE east p)
def loN (us : List W4) (east : Bool) (p : Nat) : Int := loI us (aE east p) (bE east p)
theorem present_sg {us : List W4} {east : Bool} {lo hi : Int} (h0 : 0 ≤ lo) (h1 : lo ≤ hi) : present us east lo hi = Sg (hiN us east) hi.toNat - Sg (hiN us east) lo.toNat := by
  unfold present
  have : (fun i : Nat => hiI us (aE east (lo + (i : Nat))) (bE east (lo + (i : Nat)))) = fun i : Nat => hiN us east (lo.toNat + i) := by
    funext i
    unfold hiN
    rw [show ((lo.toNat + i : Nat) : Int) = lo + (i : Nat) by omega]
  rw [this, Sg_map, Sg_shift, show lo.toNat + (hi - lo).toNat = hi.toNat by omega]
section
variable {n : Int} {us : List W4} {bs : List B3} {ks : List Int} {east : Bool} {d : DM}
theorem cov_s (p : Nat) : CovS (spns bs east) p ↔ ∃ b ∈ bs, Cov b east p := by
  constructor
  · rintro ⟨b, hb, h1, h2⟩
    obtain ⟨c, hc, e, rfl⟩ := mem_spns hb
    exact ⟨c, hc, e, h1, h2⟩
  · rintro ⟨c, hc, e, h1, h2⟩
    exact ⟨_, spns_mem hc e, h1, h2⟩
/-- hours that are met keep the program's bounds -/
theorem box_feas (kk : KS n bs east ks) (wo : ∀ b ∈ bs, WshOk n b) {h : Nat → Int} (hb : InBox (n - 1).toNat (loN us east) (hiN us east) (spns bs east) h) (hM : Met h (spns bs east)) :
    Feas (bnds n us bs ks east) fun i => Sg h i.toNat - Sg (hiN us east) i.toNat := by
  intro s hs
  rcases mem_bnds hs with ⟨i, hi, rfl⟩ | ⟨p, hp, rfl⟩ | ⟨b, i, hb', hE, rfl⟩
  · simp only [kp]
    have h1 := (hb i (by omega)).1
    rw [show ((0 : Int) + (i : Nat) + 1).toNat = i + 1 by omega, show ((0 : Int) + (i : Nat)).toNat = i by omega]
    show Sg h i + h i - (Sg (hiN us east) i + hiN us east i) ≤ _
    omega
  · simp only [cp]
    have hr := kk.rng wo p hp
    have h1 := hb p.toNat (by omega)
    have hc : CovS (spns bs east) p.toNat := (cov_s _).mpr (by rw [show ((p.toNat : Nat) : Int) = p by omega]; exact (kk.cov p).mp hp)
    rw [show room (loN us east) (hiN us east) (spns bs east) p.toNat = (hiN us east p.toNat - loN us east p.toNat + 1).toNat from if_pos hc] at h1
    have e1 : hiN us east p.toNat = hiI us (aE east p) (bE east p) := by unfold hiN; rw [show ((p.toNat : Nat) : Int) = p by omega]
    have e2 : loN us east p.toNat = loI us (aE east p) (bE east p) := by unfold loN; rw [show ((p.toNat : Nat) : Int) = p by omega]
    rw [← e1, ← e2, show (p + 1).toNat = p.toNat + 1 by omega]
    show _ ≤ Sg h p.toNat + h p.toNat - (Sg (hiN us east) p.toNat + hiN us east p.toNat) + _
    omega
  · have hbm := List.mem_of_getElem? hb'
    obtain ⟨a1, a2, ne, _⟩ := wo b hbm
    have h1 : Sg h (max b.l b.e).toNat - Sg h (min b.l b.e).toNat ≤ b.m := hM _ (spns_mem hbm hE)
    simp only
    rw [present_sg (by omega) (by omega)]
    omega
theorem no_box (kk : KS n bs east ks) (wo : ∀ b ∈ bs, WshOk n b) (nf : ∀ p, ¬ Feas (bnds n us bs ks east) p) : IsLst (n - 1).toNat (loN us east) (hiN us east) (spns bs east) none := fun _ hb hM => nf _ (box_feas kk wo hb hM)
theorem Sol.feas (sol : Sol n us bs east ks d) (wo : ∀ b ∈ bs, WshOk n b) : Feas (bnds n us bs ks east) (dist d) := by
  intro s hs
  have he : ∃ z, d s.e = some z := by
    rcases mem_bnds hs with ⟨i, hi, rfl⟩ | ⟨p, hp, rfl⟩ | ⟨b, i, hb', hE, rfl⟩
    · exact sol.at (by simp only [kp]; omega) (by simp only [kp]; omega)
    · have hr := sol.kk.rng wo p hp
      exact sol.at (by simp only [cp]; omega) (by simp only [cp]; omega)
    · obtain ⟨a1, a2, ne, _⟩ := wo b (List.mem_of_getElem? hb')
      exact sol.at (by simp only; omega) (by simp only; omega)
  obtain ⟨z, hz⟩ := he
  obtain ⟨y, u, hy, hle⟩ := sol.cl s hs z.1 z.2 hz
  unfold dist
  rw [hz, hy]
  exact hle
/-- what each point saves -/
def sav (d : DM) (ks : List Int) (p : Nat) : Int := if ((p : Nat) : Int) ∈ ks then sv d p else 0
theorem Sol.sv0 (sol : Sol n us bs east ks d) (wo : ∀ b ∈ bs, WshOk n b) {p : Int} (h0 : 0 ≤ p) (h1 : p < n - 1) : 0 ≤ sv d p := by
  have hk : kp ((0 : Int) + (p.toNat : Nat)) ∈ bnds n us bs ks east := by
    unfold bnds keeps
    exact List.mem_append_left _ (List.mem_append_left _ (List.mem_map.mpr ⟨p.toNat, List.mem_range.mpr (by omega), rfl⟩))
  have := sol.feas wo _ hk
  simp only [kp] at this
  rw [show (0 : Int) + (p.toNat : Nat) = p by omega] at this
  unfold sv
  omega
theorem Sol.sv1 (sol : Sol n us bs east ks d) (wo : ∀ b ∈ bs, WshOk n b) {p : Int} (hp : p ∈ ks) : sv d p ≤ hiI us (aE east p) (bE east p) - loI us (aE east p) (bE east p) := by
  have hk : cp us east p ∈ bnds n us bs ks east := by
    unfold bnds
    exact List.mem_append_left _ (List.mem_append_right _ (List.mem_map.mpr ⟨p, hp, rfl⟩))
  have := sol.feas wo _ hk
  simp only [cp] at this
  unfold sv
  omega
theorem Sol.box (sol : Sol n us bs east ks d) (wo : ∀ b ∈ bs, WshOk n b) : InBox (n - 1).toNat (loN us east) (hiN us east) (spns bs east) (fun p => hiN us east p - sav d ks p) := by
  intro p hp
  show 0 ≤ hiN us east p - (hiN us east p - sav d ks p) ∧ hiN us east p - (hiN us east p - sav d ks p) < _
  have e : hiN us east p - (hiN us east p - sav d ks p) = sav d ks p := by omega
  rw [e]
  unfold sav room
  by_cases z : ((p : Nat) : Int) ∈ ks
  · have hc : CovS (spns bs east) p := (cov_s _).mpr ((sol.kk.cov p).mp z)
    have h0 := sol.sv0 wo (p := p) (by omega) (by omega)
    have h1 := sol.sv1 wo z
    rw [if_pos z, if_pos hc]
    unfold hiN loN
    omega
  · have hc : ¬ CovS (spns bs east) p := fun h => z ((sol.kk.cov p).mpr ((cov_s _).mp h))
    rw [if_neg z, if_neg hc]
    omega
theorem Sol.met (sol : Sol n us bs east ks d) (wo : ∀ b ∈ bs, WshOk n b) : Met (fun p => hiN us east p - sav d ks p) (spns bs east) := by
  intro b hb
  obtain ⟨c, hc, hE, rfl⟩ := mem_spns hb
  obtain ⟨a1, a2, ne, _⟩ := wo c hc
  show Sg _ (max c.l c.e).toNat - Sg _ (min c.l c.e).toNat ≤ c.m
  rw [Sg_sub, Sg_sub]
  obtain ⟨i, hi⟩ := List.getElem?_of_mem hc
  have hw : (⟨max c.l c.e, min c.l c.e, c.m - present us east (min c.l c.e) (max c.l c.e), .tuple [.str "wish", .int (i : Nat)]⟩ : Bd) ∈ bnds n us bs ks east := by
    unfold bnds
    refine List.mem_append_right _ (List.mem_flatMap.mpr ⟨(c, i), List.mem_zipIdx_iff_getElem?.mpr (by simpa using hi), ?_⟩)
    unfold wb
    rw [if_pos hE]
    exact List.mem_singleton.mpr rfl
  have h1 := sol.feas wo _ hw
  simp only at h1
  rw [present_sg (by omega) (by omega)] at h1
  have h2 : Sg (sav d ks) (max c.l c.e).toNat - Sg (sav d ks) (min c.l c.e).toNat = dist d (min c.l c.e) - dist d (max c.l c.e) := by
    have e1 := Sg_shift (sav d ks) (min c.l c.e).toNat ((max c.l c.e).toNat - (min c.l c.e).toNat)
    rw [show (min c.l c.e).toNat + ((max c.l c.e).toNat - (min c.l c.e).toNat) = (max c.l c.e).toNat by omega] at e1
    rw [← e1]
    have e2 := Sg_tele (fun i : Nat => dist d (((min c.l c.e).toNat + i : Nat) : Int)) ((max c.l c.e).toNat - (min c.l c.e).toNat)
    rw [show (((min c.l c.e).toNat + ((max c.l c.e).toNat - (min c.l c.e).toNat) : Nat) : Int) = max c.l c.e by omega, show (((min c.l c.e).toNat + 0 : Nat) : Int) = min c.l c.e by omega] at e2
    rw [← e2]
    refine Sg_congr fun j hj => ?_
    have hk : ((((min c.l c.e).toNat + j : Nat)) : Int) ∈ ks := (sol.kk.cov _).mpr ⟨c, hc, hE, by omega, by omega⟩
    show sav d ks ((min c.l c.e).toNat + j) = dist d _ - dist d _
    unfold sav
    rw [if_pos hk]
    unfold sv
    congr 2
  omega
theorem Sol.val (sol : Sol n us bs east ks d) (wo : ∀ b ∈ bs, WshOk n b) (n1 : 1 ≤ n) : Sg (sav d ks) (n - 1).toNat = 0 - dist d (n - 1) ∧ IsLst (n - 1).toNat (loN us east) (hiN us east) (spns bs east) (some (0 - dist d (n - 1))) := by
  obtain ⟨z, hz⟩ := sol.at (p := n - 1) (by omega) (by omega)
  have low : ∀ h, InBox (n - 1).toNat (loN us east) (hiN us east) (spns bs east) h → Met h (spns bs east) → 0 - dist d (n - 1) ≤ Sg (hiN us east) (n - 1).toNat - Sg h (n - 1).toNat := fun h hb hM => by
    have c := sol.sw.ch _ _ _ hz
    have := c.pot (box_feas sol.kk wo hb hM)
    have e : dist d (n - 1) = z.1 := by
      unfold dist
      rw [hz]
      rfl
    rw [show (0 : Int).toNat = 0 from rfl] at this
    have z0 : Sg h 0 = 0 := rfl
    have z1 : Sg (hiN us east) 0 = 0 := rfl
    omega
  have b1 := low _ (sol.box wo) (sol.met wo)
  rw [Sg_sub] at b1
  have b2 : Sg (sav d ks) (n - 1).toNat ≤ Sg (fun i : Nat => dist d (i : Int) - dist d ((i + 1 : Nat) : Int)) (n - 1).toNat := Sg_le fun i hi => by
    show _ ≤ dist d (i : Int) - dist d ((i + 1 : Nat) : Int)
    have := sol.sv0 wo (p := i) (by omega) (by omega)
    unfold sv at this
    unfold sav sv
    rw [show ((i + 1 : Nat) : Int) = (i : Int) + 1 by omega]
    split <;> omega
  have b3 := Sg_tele (fun i : Nat => dist d (i : Int)) (n - 1).toNat
  have z0 : dist d ((0 : Nat) : Int) = 0 := by
    unfold dist
    rw [show ((0 : Nat) : Int) = 0 from rfl, sol.sw.zero]
    rfl
  rw [z0, show (((n - 1).toNat : Nat) : Int) = n - 1 by omega] at b3
  have b3' : Sg (fun i : Nat => dist d (i : Int) - dist d ((i + 1 : Nat) : Int)) (n - 1).toNat = 0 - dist d (n - 1) := b3
  have e : Sg (sav d ks) (n - 1).toNat = 0 - dist d (n - 1) := by omega
  exact ⟨e, ⟨_, sol.box wo, sol.met wo, by rw [Sg_sub]; omega⟩, low⟩
end
end
section
set_option maxRecDepth 100000
set_option maxHeartbeats 1000000
open PySem PySem.Spec PyProof.Rows L2 VX MI
local macro_rules | `(tactic| walk_at "ms") => `(tactic| (walk_at "mm"; try simp only [MI.mSum]))
/-! ### what the mirrors mean: ways, spans, what is met, the least -/
def atP (east : Bool) (p : Nat) (u : W4) : Bool := decide (u.s = aE east p) && decide (u.t = bE east p)
def wY (u : W4) : X := .tup [.int u.lo, xO u.hi]
def wys (us : List W4) (east : Bool) (m : Nat) : List X := (List.range m).flatMap fun p => (us.filter (atP east p)).map wY
theorem wys_succ {us : List W4} {east : Bool} {m : Nat} : wys us east (m + 1) = wys us east m ++ (us.filter (atP east m)).map wY := by
  unfold wys
  rw [List.range_succ, List.flatMap_append]
  simp
theorem wys_len {us : List W4} {east : Bool} : ∀ {m : Nat}, (wys us east m).length ≤ m * us.length
  | 0 => by simp [wys]
  | m + 1 => by
    rw [wys_succ, List.length_append, List.length_map, Nat.add_mul, Nat.one_mul]
    have := wys_len (us := us) (east := east) (m := m)
    have := List.length_filter_le (atP east m) us
    omega
theorem fm_if {α β : Type} (p : α → Prop) [DecidablePred p] (f : α → β) (l : List α) : l.filterMap (fun a => if p a then some (f a) else none) = (l.filter fun a => decide (p a)).map f := by
  induction l with
  | nil => rfl
  | cons a l ih => by_cases h : p a <;> simp [h, ih]
theorem ways_m {us : List W4} {n : Int} {east : Bool} {q : X → Prop} (n1 : 1 ≤ n) (n9 : n ≤ 10) (lu : us.length ≤ 1000) (h : q (.lst (wys us east (n - 1).toNat))) : Mrun 6 m_ways [.lst (us.map xW), .int n, .bl east] q := by
  unfold Mrun m_ways
  walk_at "ms"
  refine ⟨by omega, by omega, ?_⟩
  refine forL_rg (fun i env => ∃ y4 y5, env = [.x (.lst (us.map xW)), .x (.int n), .x (.bl east), .o (wys us east i), y4, y5]) ⟨_, _, rfl⟩ (fun i env N hi pv hN => ?_) fun env pv => ?_
  · obtain ⟨y4, y5, rfl⟩ := pv
    walk_at "ms"
    refine forL_map (f := xW) (fun j env => ∃ y5, env = [.x (.lst (us.map xW)), .x (.int n), .x (.bl east), .o (wys us east i ++ ((us.take j).filter (atP east i)).map wY), .x (.int (0 + (i : Nat))), y5]) ⟨y5, by simp⟩ (fun j u env N2 hu pv hN2 => ?_) fun env pv => ?_
    · obtain ⟨y5, rfl⟩ := pv
      rw [show xW u = .tup [.int u.s, .int u.t, .int u.lo, xO u.hi] from rfl]
      have st : us.take (j + 1) = us.take j ++ [u] := by
        rw [List.take_add_one, hu]
        rfl
      have key : atP east i u = true → N2 [.x (.lst (us.map xW)), .x (.int n), .x (.bl east), .o (wys us east i ++ ((us.take j).filter (atP east i)).map wY ++ [wY u]), .x (.int (0 + (i : Nat))), .x (.tup [.int u.s, .int u.t, .int u.lo, xO u.hi])] := fun he => hN2 _ ⟨_, by rw [st, List.filter_append, List.filter_cons_of_pos he, List.map_append, List.append_assoc]; rfl⟩
      have no : atP east i u = false → N2 [.x (.lst (us.map xW)), .x (.int n), .x (.bl east), .o (wys us east i ++ ((us.take j).filter (atP east i)).map wY), .x (.int (0 + (i : Nat))), .x (.tup [.int u.s, .int u.t, .int u.lo, xO u.hi])] := fun he => hN2 _ ⟨_, by rw [st, List.filter_append, List.filter_cons_of_neg (by rw [he]; exact fun z => nomatch z), List.filter_nil, List.append_nil]⟩
      have ll : (wys us east i ++ ((us.take j).filter (atP east i)).map wY).length < 100000 := by
        have h1 := wys_len (us := us) (east := east) (m := i)
        have h2 := List.length_filter_le (atP east i) (us.take j)
        have h3 : i * us.length ≤ 10 * 1000 := Nat.mul_le_mul (by omega) lu
        rw [List.length_append, List.length_map]
        rw [List.length_take] at h2
        omega
      generalize wys us east i ++ ((us.take j).filter (atP east i)).map wY = L at key no ll ⊢
      unfold atP aE bE at key no
      clear hN2 hN st
      cases east
      · walk_at "ms"
        by_cases e1 : u.s = i + 1
        · by_cases e2 : u.t = i
          · rw [if_pos (by simp; omega), if_pos (by simp; omega)]
            exact ⟨ll, key (by simp [e1, e2])⟩
          · rw [if_pos (by simp; omega), if_neg (by simp; omega)]
            exact no (by simp [e2])
        · rw [if_neg (by simp; omega)]
          exact no (by simp [e1])
      · walk_at "ms"
        by_cases e1 : u.s = i
        · by_cases e2 : u.t = i + 1
          · rw [if_pos (by simp; omega), if_pos (by simp; omega)]
            exact ⟨ll, key (by simp [e1, e2])⟩
          · rw [if_pos (by simp; omega), if_neg (by simp; omega)]
            exact no (by simp [e2])
        · rw [if_neg (by simp; omega)]
          exact no (by simp [e1])
    · obtain ⟨y5, rfl⟩ := pv
      rw [List.take_length, ← wys_succ]
      exact hN _ ⟨_, _, rfl⟩
  · obtain ⟨y4, y5, rfl⟩ := pv
    walk_at "ms"
    exact h
theorem spans_m {bs : List B3} {east : Bool} {q : X → Prop} (lb : bs.length ≤ 1000) (h : q (.lst ((spns bs east).map xB))) : Mrun 3 m_spans [.lst (bs.map xB), .bl east] q := by
  unfold Mrun m_spans
  walk_at "ms"
  refine lcL_fm (h := fun b : B3 => if decide (b.l < b.e) = east then some (xB ⟨min b.l b.e, max b.l b.e, b.m⟩) else none) (by simp; omega) (fun b hb A B hab => ?_) ?_
  · rw [show xB b = .tup [.int b.l, .int b.e, .int b.m] from rfl]
    walk_at "ms"
    have m1 : (if b.e < b.l then b.e else b.l) = min b.l b.e := by split <;> omega
    have m2 : (if b.e > b.l then b.e else b.l) = max b.l b.e := by split <;> omega
    rw [m1, m2]
    by_cases e : decide (b.l < b.e) = east
    · rw [if_pos e] at hab ⊢
      exact hab
    · rw [if_neg e] at hab ⊢
      exact hab
  · rw [fm_if (fun b : B3 => decide (b.l < b.e) = east), List.nil_append]
    unfold spns at h
    rw [List.map_map] at h
    exact h
/-- a slice of hours -/
theorem cut_h {h : Nat → Int} {m : Nat} {b : B3} (b0 : 0 ≤ b.l) (b1 : b.l < b.e) (b2 : b.e ≤ m) : cutX (((List.range m).map h).map X.int) (some b.l) (some b.e) = ((((List.range m).map h).drop b.l.toNat).take (b.e.toNat - b.l.toNat)).map X.int := by
  have h1 : HT.sIx m 0 (some b.l) = b.l.toNat := by
    show (if b.l < 0 then _ else _) = _
    rw [if_neg (by omega)]
    omega
  have h2 : HT.sIx m m (some b.e) = b.e.toNat := by
    show (if b.e < 0 then _ else _) = _
    rw [if_neg (by omega)]
    omega
  unfold cutX
  rw [List.length_map, List.length_map, List.length_range, h1, h2, ← List.map_drop, ← List.map_take]
theorem is_met_m {sp : List B3} {h : Nat → Int} {m : Nat} {q : X → Prop} (hm : ∀ b ∈ sp, 0 ≤ b.l ∧ b.l < b.e ∧ b.e ≤ m) (hy : Met h sp → q (.bl true)) (hn : ¬ Met h sp → q (.bl false)) : Mrun 5 m_is_met [.lst (sp.map xB), .lst (((List.range m).map h).map X.int)] q := by
  unfold Mrun m_is_met
  walk_at "ms"
  refine forL_map (f := xB) (fun i env => ∃ y2 y3 y4, env = [.x (.lst (sp.map xB)), .x (.lst (((List.range m).map h).map X.int)), y2, y3, y4] ∧ Met h (sp.take i)) ⟨_, _, _, rfl, fun b hb => by rw [List.take_zero] at hb; cases hb⟩ (fun i b env N hb pv hN => ?_) fun env pv => ?_
  · obtain ⟨y2, y3, y4, rfl, ok⟩ := pv
    obtain ⟨b0, b1, b2⟩ := hm b (List.mem_of_getElem? hb)
    rw [show xB b = .tup [.int b.l, .int b.e, .int b.m] from rfl]
    walk_at "ms"
    refine ⟨_, cut_h b0 b1 b2, ?_⟩
    rw [Sg_slice h (by omega) (by omega)]
    by_cases z : b.m < Sg h b.e.toNat - Sg h b.l.toNat
    · rw [if_pos z]
      exact hn fun hM => by
        have := hM b (List.mem_of_getElem? hb)
        omega
    · rw [if_neg z]
      refine hN _ ⟨_, _, _, rfl, fun c hc => ?_⟩
      rw [List.take_add_one, hb] at hc
      rcases List.mem_append.mp hc with hc | hc
      · exact ok c hc
      · rw [show c = b from List.mem_singleton.mp hc]
        omega
  · obtain ⟨y2, y3, y4, rfl, ok⟩ := pv
    rw [List.take_length] at ok
    walk_at "ms"
    exact hy ok
def lsR : MS := (mIfS (mB (mOp mGt (mCB mLen (mCons (mFz (mLc (mItS (mVarW 1)) (mGn 4) (mB (mChain mLe mLt (mOp mIx (mVarW 4) (mC (.int 0))) (mVarW 3) (mOp mIx (mVarW 4) (mC (.int 1))))) (mVar 4) [4])) mNil)) (mC (.int 0)))) (mApp 2 (mOp mAddU (mOp mSub (mOp mIx (mOp mIx (mVarW 0) (mVarW 3)) (mC (.int 1))) (mOp mIx (mOp mIx (mVarW 0) (mVarW 3)) (mC (.int 0)))) (mC (.int 1)))) (mApp 2 (mC (.int 1))))
def lsH : MS := (mSeq (mApp 12 (mOp mSub (mOp mIx (mOp mIx (mVarW 0) (mVarW 3)) (mC (.int 1))) (mOp mMod (mCB mIntOf (mCons (mVarW 11) mNil)) (mOp mIx (mVarW 2) (mVarW 3)))))
      (mSet 11 (mOp mFdiv (mCB mIntOf (mCons (mVarW 11) mNil)) (mOp mIx (mVarW 2) (mVarW 3)))))
def lsE : MS := (mSeq (mSet 13 (mOp mSub (mVarW 7) (mCB mSum (mCons (mVarW 12) mNil))))
      (mFrz 12 (mIfS (mAnd (mOr (mB (mOp mIsN (mVarW 9) (mC .non))) (mB (mOp mLt (mVarW 13) (mVarW 9)))) (mB (mCall 2 5 m_is_met (mCons (mVar 1) (mCons (mVar 12) mNil))))) (mSet 9 (mVar 13)) mNext)))
def ls2 : MS := (mSeq (mSet 7 (mCB mSum (mCons (mFz (mLc (mItS (mVarW 0)) (mGn 8) mYes (mOp mIx (mVarW 8) (mC (.int 1))) [8])) mNil)))
      (mSeq (mSet 9 (mC .non))
      (mSeq (mFor (mRg1 (mCons (mVarW 5) mNil)) (mGn 10)
      (mSeq (mSet 11 (mVar 10))
      (mSeq (mOwn 12 (mLst mNil))
      (mSeq (mFor (mRg1 (mCons (mCB mLen (mCons (mVarW 0) mNil)) mNil)) (mGn 3) lsH) lsE))))
      (mRet (mVar 9)))))
theorem m_least_eq : m_least = (mSeq (mOwn 2 (mLst mNil))
      (mSeq (mFor (mRg1 (mCons (mCB mLen (mCons (mVarW 0) mNil)) mNil)) (mGn 3) lsR)
      (mSeq (mSet 5 (mC (.int 1)))
      (mSeq (mFrz 2 (mFor (mItS (mVar 2)) (mGn 6)
      (mSet 5 (mOp mMul (mVarW 5) (mVarW 6))))) ls2)))) := rfl
def xY (lo hi : Nat → Int) (p : Nat) : X := .tup [.int (lo p), .int (hi p)]
theorem xY_at {lo hi : Nat → Int} {m i : Nat} (h : i < m) : atI ((List.range m).map (xY lo hi)) (0 + (i : Nat)) = some (xY lo hi i) := atI_mapn (by omega) (by rw [show ((0 : Int) + (i : Nat)).toNat = i by omega, List.getElem?_range h])
theorem PP_le {r : Nat → Nat} : ∀ {m : Nat}, (∀ p, p < m → r p ≤ 5) → PP r m ≤ 5 ^ m
  | 0, _ => Nat.le_refl _
  | m + 1, h => by
    have := PP_le (r := r) (m := m) fun p hp => h p (by omega)
    rw [Nat.pow_succ]
    exact Nat.mul_le_mul this (h m (by omega))
theorem least_m {sp : List B3} {lo hi : Nat → Int} {m : Nat} {q : X → Prop} (m5 : m ≤ 5) (hm : ∀ b ∈ sp, 0 ≤ b.l ∧ b.l < b.e ∧ b.e ≤ m) (lh : ∀ p, p < m → lo p ≤ hi p ∧ hi p - lo p ≤ 4) (ls : sp.length ≤ 1000) (h : ∀ r, IsLst m lo hi sp r → q (xO r)) : Mrun 14 m_least [.lst ((List.range m).map (xY lo hi)), .lst (sp.map xB)] q := by
  have rp : ∀ p, p < m → 0 < room lo hi sp p ∧ room lo hi sp p ≤ 5 := fun p hp => by
    have := lh p hp
    unfold room
    split <;> omega
  unfold Mrun
  rw [m_least_eq]
  walk_at "ms"
  refine ⟨by simp only [List.length_map, List.length_range]; omega, by simp only [List.length_map, List.length_range]; omega, ?_⟩
  rw [List.length_range, Int.toNat_natCast]
  refine forL_rg (fun i env => ∃ y3 y4, env = [.x (.lst ((List.range m).map (xY lo hi))), .x (.lst (sp.map xB)), .o ((List.range i).map fun p => .int (room lo hi sp p : Nat)), y3, y4, .u, .u, .u, .u, .u, .u, .u, .u, .u]) ⟨_, _, rfl⟩ (fun i env N hi' pv hN => ?_) fun env pv => ?_
  · obtain ⟨y3, y4, rfl⟩ := pv
    unfold lsR
    walk_at "ms"
    refine lcL_fm (h := fun b : B3 => if b.l ≤ (i : Int) ∧ (i : Int) < b.e then some (xB b) else none) (by simp; omega) (fun b hb A B hab => ?_) ?_
    · rw [show xB b = .tup [.int b.l, .int b.e, .int b.m] from rfl] at hab ⊢
      walk_at "ms"
      rw [Int.zero_add]
      by_cases c1 : b.l ≤ (i : Int)
      · by_cases c2 : (i : Int) < b.e
        · rw [if_pos ⟨c1, c2⟩] at hab
          rw [if_pos c1, if_pos c2]
          exact hab
        · rw [if_neg fun z => c2 z.2] at hab
          rw [if_pos c1, if_neg c2]
          exact hab
      · rw [if_neg fun z => c1 z.1] at hab
        rw [if_neg c1]
        exact hab
    · walk_at "ms"
      rw [xY_at hi', show xY lo hi i = .tup [.int (lo i), .int (hi i)] from rfl]
      walk_at "ms"
      have hl := lh i hi'
      have e0 : ∀ k : Int, k = (room lo hi sp i : Nat) → N [.x (.lst ((List.range m).map (xY lo hi))), .x (.lst (sp.map xB)), .o (((List.range i).map fun p => X.int (room lo hi sp p : Nat)) ++ [.int k]), .x (.int (0 + (i : Nat))), y4, .u, .u, .u, .u, .u, .u, .u, .u, .u] := fun k hk => hN _ ⟨.x (.int (0 + (i : Nat))), y4, by rw [List.range_succ, List.map_append, hk]; rfl⟩
      by_cases c : CovS sp i
      · have : 0 < (sp.filterMap fun b => if b.l ≤ (i : Int) ∧ (i : Int) < b.e then some (X.tup [.int b.l, .int b.e, .int b.m]) else none).length := by
          obtain ⟨b, hb, c1, c2⟩ := c
          exact List.length_pos_of_mem (List.mem_filterMap.mpr ⟨b, hb, if_pos ⟨c1, c2⟩⟩)
        rw [if_pos (by omega)]
        refine ⟨by rw [List.length_range]; omega, e0 _ ?_⟩
        unfold room
        rw [if_pos c]
        omega
      · have : (sp.filterMap fun b => if b.l ≤ (i : Int) ∧ (i : Int) < b.e then some (X.tup [.int b.l, .int b.e, .int b.m]) else none) = [] := by
          rw [List.filterMap_eq_nil_iff]
          exact fun b hb => if_neg fun z => c ⟨b, hb, z⟩
        rw [this, if_neg (by decide)]
        refine ⟨by rw [List.length_range]; omega, e0 _ ?_⟩
        unfold room
        rw [if_neg c]
        rfl
  · obtain ⟨y3, y4, rfl⟩ := pv
    walk_at "ms"
    refine forL_map (f := fun p => X.int (room lo hi sp p : Nat)) (fun i env => ∃ y6, env = [.x (.lst ((List.range m).map (xY lo hi))), .x (.lst (sp.map xB)), .x (.lst ((List.range m).map fun p => .int (room lo hi sp p : Nat))), y3, y4, .x (.int (PP (room lo hi sp) i : Nat)), y6, .u, .u, .u, .u, .u, .u, .u]) ⟨_, rfl⟩ (fun i p env N hp pv hN => ?_) fun env pv => ?_
    · obtain ⟨y6, rfl⟩ := pv
      have hi' : i < m := by
        have := (List.getElem?_eq_some_iff.mp hp).1
        rwa [List.length_range] at this
      rw [List.getElem?_range hi'] at hp
      cases hp
      walk_at "ms"
      have := rp i hi'
      refine ⟨.inr ⟨by omega, by omega⟩, ?_⟩
      exact hN _ ⟨_, by rw [show PP (room lo hi sp) (i + 1) = PP (room lo hi sp) i * room lo hi sp i from rfl, Int.natCast_mul]⟩
    · obtain ⟨y6, rfl⟩ := pv
      rw [List.length_range]
      have pl := PP_le (r := room lo hi sp) fun p hp => (rp p hp).2
      have pl2 : 5 ^ m ≤ 5 ^ 5 := Nat.pow_le_pow_right (by decide) m5
      unfold ls2
      walk_at "ms"
      refine lcL_map (h := fun p => X.int (hi p)) (by rw [List.length_range]; omega) (fun p hp A B hab => ?_) ?_
      · rw [show xY lo hi p = .tup [.int (lo p), .int (hi p)] from rfl]
        walk_at "ms"
        exact hab
      refine ⟨(List.range m).map hi, by rw [List.map_map]; rfl, ?_⟩
      rw [Sg_map]
      refine ⟨by omega, by omega, ?_⟩
      refine forL_rg (fun i env => ∃ y3 y4 y6 y8 y10 y11 y12 y13 r, env = [.x (.lst ((List.range m).map (xY lo hi))), .x (.lst (sp.map xB)), .x (.lst ((List.range m).map fun p => .int (room lo hi sp p : Nat))), y3, y4, .x (.int (PP (room lo hi sp) m : Nat)), y6, .x (.int (Sg hi m)), y8, .x (xO r), y10, y11, y12, y13] ∧ LstOf (fun c => Sg hi m - Sg (hOf lo hi sp c) m) (fun c => Met (hOf lo hi sp c) sp) i r) ⟨_, _, _, _, _, _, _, _, none, rfl, LstOf.zero _ _⟩ (fun c env N hc pv hN => ?_) fun env pv => ?_
      · obtain ⟨y3, y4, y6, y8, y10, y11, y12, y13, r, rfl, lst⟩ := pv
        walk_at "ms"
        refine ⟨by simp only [List.length_map, List.length_range]; omega, by simp only [List.length_map, List.length_range]; omega, ?_⟩
        rw [List.length_range, Int.toNat_natCast]
        refine forL_rg (fun p env => ∃ y3, env = [.x (.lst ((List.range m).map (xY lo hi))), .x (.lst (sp.map xB)), .x (.lst ((List.range m).map fun p => .int (room lo hi sp p : Nat))), y3, y4, .x (.int (PP (room lo hi sp) m : Nat)), y6, .x (.int (Sg hi m)), y8, .x (xO r), .x (.int (0 + (c : Nat))), .x (.int (c / PP (room lo hi sp) p : Nat)), .o (((List.range p).map (hOf lo hi sp c)).map X.int), y13]) ⟨y3, by rw [show PP (room lo hi sp) 0 = 1 from rfl, Nat.div_one, Int.zero_add]; rfl⟩ (fun p env N2 hp pv hN2 => ?_) fun env pv => ?_
        · obtain ⟨y3, rfl⟩ := pv
          have hl := rp p hp
          have rat : atI ((List.range m).map fun p => X.int (room lo hi sp p : Nat)) (0 + (p : Nat)) = some (.int (room lo hi sp p : Nat)) := atI_mapn (f := fun p => X.int (room lo hi sp p : Nat)) (by omega) (by rw [show ((0 : Int) + (p : Nat)).toNat = p by omega, List.getElem?_range hp])
          unfold lsH
          walk_at "ms"
          rw [xY_at hp, show xY lo hi p = .tup [.int (lo p), .int (hi p)] from rfl, rat]
          walk_at "ms"
          refine ⟨by omega, by rw [List.length_range]; omega, ⟨by omega, by omega⟩, ?_⟩
          refine hN2 _ ⟨.x (.int (0 + (p : Nat))), ?_⟩
          have e1 : hi p - ((c / PP (room lo hi sp) p : Nat) : Int).fmod (room lo hi sp p : Nat) = hOf lo hi sp c p := by
            unfold hOf dig
            rw [Int.fmod_eq_emod_of_nonneg _ (by omega), ← Int.natCast_emod]
          have e2 : ((c / PP (room lo hi sp) p : Nat) : Int) / (room lo hi sp p : Nat) = (c / PP (room lo hi sp) (p + 1) : Nat) := by
            rw [show PP (room lo hi sp) (p + 1) = PP (room lo hi sp) p * room lo hi sp p from rfl, ← Nat.div_div_eq_div_mul]
            exact (Int.natCast_ediv _ _).symm
          rw [e1, e2, List.range_succ, List.map_append, List.map_append]
          rfl
        · obtain ⟨y3, rfl⟩ := pv
          unfold lsE
          cases r with
          | none =>
            walk_at "ms"
            refine ⟨_, rfl, ?_⟩
            rw [Sg_map]
            refine is_met_m hm (fun hM => ?_) fun hM => ?_
            · exact hN _ ⟨_, _, _, _, _, _, _, _, some _, rfl, lst.put hM fun v hv => nomatch hv⟩
            · exact hN _ ⟨_, _, _, _, _, _, _, _, none, rfl, lst.no hM⟩
          | some v =>
            walk_at "ms"
            refine ⟨_, rfl, ?_⟩
            rw [Sg_map]
            by_cases z : Sg hi m - Sg (hOf lo hi sp c) m < v
            · rw [if_pos z]
              refine is_met_m hm (fun hM => ?_) fun hM => ?_
              · exact hN _ ⟨_, _, _, _, _, _, _, _, some _, rfl, lst.put hM fun v' hv => by cases hv; exact z⟩
              · exact hN _ ⟨_, _, _, _, _, _, _, _, some v, rfl, lst.no hM⟩
            · rw [if_neg z]
              exact hN _ ⟨_, _, _, _, _, _, _, _, some v, rfl, lst.big (by omega)⟩
      · obtain ⟨y3, y4, y6, y8, y10, y11, y12, y13, r, rfl, lst⟩ := pv
        walk_at "ms"
        exact h r (IsLst.of hm (fun p hp => (lh p hp).1) lst)
end
section
set_option maxRecDepth 100000
set_option maxHeartbeats 1000000
open PySem PySem.Spec PyProof.Rows L2 VX MI
local macro_rules | `(tactic| walk_at "ms") => `(tactic| (walk_at "mm"; try simp only [MI.mSum]))
/-! ### the line that the law draws -/
structure StrOk (n : Int) (us : List W4) : Prop where
  w : WOk n 7 us
  len : us.length ≤ 36
  nb : ∀ a b, 0 ≤ a → a < n → 0 ≤ b → b < n → (b = a + 1 ∨ b = a - 1) → ∃ u ∈ us, u.s = a ∧ u.t = b ∧ ∃ g, u.hi = some g ∧ u.lo ≤ g ∧ g ≤ u.lo + 4
theorem StrOk.Nb {n : Int} {us : List W4} (h : StrOk n us) : Nb n us := ⟨h.w.nd, fun a b a0 a1 b0 b1 e => let ⟨u, hu, h1, h2, g, h3, h4, _⟩ := h.nb a b a0 a1 b0 b1 e; ⟨u, hu, h1, h2, g, h3, h4⟩, fun u hu => (h.w.w u hu).l0⟩
/-- what stands behind so many turns of both loops -/
structure StI (n : Int) (i j : Nat) (us : List W4) : Prop where
  w : WOk n 7 us
  len : us.length ≤ i * n.toNat + j
  bef : ∀ u ∈ us, u.s < i ∨ (u.s = i ∧ u.t < j)
  nb : ∀ a b, 0 ≤ a → a < n → 0 ≤ b → b < n → (b = a + 1 ∨ b = a - 1) → (a < i ∨ (a = i ∧ b < j)) → ∃ u ∈ us, u.s = a ∧ u.t = b ∧ ∃ g, u.hi = some g ∧ u.lo ≤ g ∧ g ≤ u.lo + 4
theorem StI.zero (n : Int) : StI n 0 0 [] := ⟨.nil, Nat.zero_le _, fun _ h => (nomatch h), fun a b a0 a1 b0 b1 e z => by omega⟩
theorem StI.row {n : Int} {i : Nat} {us : List W4} (h : StI n i n.toNat us) : StI n (i + 1) 0 us :=
  ⟨h.w, by rw [Nat.succ_mul]; exact h.len, fun u hu => by
    have := h.bef u hu
    have := (h.w.w u hu).t1
    omega, fun a b a0 a1 b0 b1 e z => h.nb a b a0 a1 b0 b1 e (by omega)⟩
theorem StI.skip {n : Int} {i j : Nat} {us : List W4} (h : StI n i j us) (far : ¬ ((j : Int) = i + 1 ∨ (j : Int) = i - 1)) : StI n i (j + 1) us :=
  ⟨h.w, by have := h.len; omega, fun u hu => by have := h.bef u hu; omega, fun a b a0 a1 b0 b1 e z => h.nb a b a0 a1 b0 b1 e (by omega)⟩
theorem StI.put {n : Int} {i j : Nat} {us : List W4} (h : StI n i j us) {lo : Int} {hi : Option Int} (hi' : (i : Int) < n) (hj : (j : Int) < n) (ne : i ≠ j) (l0 : 1 ≤ lo) (l3 : lo ≤ 3) (hh : ∀ g, hi = some g → lo ≤ g ∧ g ≤ lo + 4) (hn : ((j : Int) = i + 1 ∨ (j : Int) = i - 1) → ∃ g, hi = some g) : StI n i (j + 1) (us ++ [⟨i, j, lo, hi⟩]) := by
  refine ⟨h.w.snoc ⟨by show (0 : Int) ≤ i; omega, hi', by show (0 : Int) ≤ j; omega, hj, by show (i : Int) ≠ j; omega, l0, by show lo ≤ 7; omega, fun g hg => ?_⟩ fun u hu => k_ne ?_, ?_, fun u hu => ?_, fun a b a0 a1 b0 b1 e z => ?_⟩
  · have := hh g hg
    show lo ≤ g ∧ g ≤ 7
    omega
  · have := h.bef u hu
    show u.s ≠ (i : Int) ∨ u.t ≠ (j : Int)
    omega
  · have := h.len
    rw [List.length_append, List.length_singleton]
    omega
  · rcases List.mem_append.mp hu with hu | hu
    · have := h.bef u hu
      omega
    · rw [List.mem_singleton.mp hu]
      right
      show (i : Int) = i ∧ (j : Int) < (j + 1 : Nat)
      omega
  · by_cases zz : a = i ∧ b = j
    · obtain ⟨rfl, rfl⟩ := zz
      obtain ⟨g, hg⟩ := hn (by omega)
      exact ⟨_, List.mem_append_right _ (List.mem_singleton.mpr rfl), rfl, rfl, g, hg, hh g hg⟩
    · obtain ⟨u, hu, h1⟩ := h.nb a b a0 a1 b0 b1 e (by omega)
      exact ⟨u, List.mem_append_left _ hu, h1⟩
theorem StI.fin {n : Int} (n1 : 1 ≤ n) (n6 : n ≤ 6) {us : List W4} (h : StI n n.toNat 0 us) : StrOk n us :=
  ⟨h.w, by have := h.len; have : n.toNat * n.toNat ≤ 6 * 6 := Nat.mul_le_mul (by omega) (by omega); omega, fun a b a0 a1 b0 b1 e => h.nb a b a0 a1 b0 b1 e (by omega)⟩
theorem stretch_m {n : Int} {q : X → Prop} (n1 : 1 ≤ n) (n6 : n ≤ 6) (h : ∀ us, StrOk n us → q (.lst (us.map xW))) : Mrun 10 m_lw_stretch [.pen, .int n] q := by
  unfold Mrun m_lw_stretch
  walk_at "ms"
  have key : ∀ rm : Int, 3 ≤ rm → rm ≤ 5 → forL (mGn 4) (mFor (mRg1 (mCons (mVarW 1) mNil)) (mGn 5)
      (mSeq (mSet 6 (mCallP mTake (mCons (mVar 0) (mCons (mC (.int 12)) mNil))))
      (mSeq (mSet 7 (mOp mEqU (mCB mAbs (mCons (mOp mSub (mVarW 4) (mVarW 5)) mNil)) (mC (.int 1))))
      (mIfS (mOr (mB (mVarW 7)) (mAnd (mB (mOp mNeU (mVarW 4) (mVarW 5))) (mAnd (mB (mOp mLt (mVarW 1) (mC (.int 5)))) (mB (mOp mGt (mVarW 6) (mC (.int 8))))))) (mSeq (mSet 8 (mOp mAddU (mC (.int 1)) (mCallP mTake (mCons (mVar 0) (mCons (mC (.int 3)) mNil)))))
      (mSeq (mSet 9 (mOp mAddU (mVarW 8) (mCallP mTake (mCons (mVar 0) (mCons (mVar 2) mNil)))))
      (mSeq (mIfS (mAnd (mNot (mB (mVarW 7))) (mB (mOp mEqU (mVarW 6) (mC (.int 9))))) (mSet 9 (mC .non)) mNext)
      (mApp 3 (mTup (mCons (mVar 4) (mCons (mVar 5) (mCons (mVar 8) (mCons (mVar 9) mNil))))))))) mNext)))) ⟨mFrz 3 (mRet (mVar 3)) ⟨fun _ => q .non, q, fun _ => False, fun _ => False⟩, q, fun _ => False, fun _ => False⟩ (rgX 0 n.toNat) [.x .pen, .x (.int n), .x (.int rm), .o [], .u, .u, .u, .u, .u, .u] := fun rm r3 r5 => by
    refine forL_rg (fun i env => ∃ us y4 y5 y6 y7 y8 y9, env = [.x .pen, .x (.int n), .x (.int rm), .o (us.map xW), y4, y5, y6, y7, y8, y9] ∧ StI n i 0 us) ⟨[], _, _, _, _, _, _, rfl, StI.zero n⟩ (fun i env N hi pv hN => ?_) fun env pv => ?_
    · obtain ⟨us, y4, y5, y6, y7, y8, y9, rfl, st⟩ := pv
      walk_at "ms"
      refine ⟨by omega, by omega, ?_⟩
      refine forL_rg (fun j env => ∃ us y5 y6 y7 y8 y9, env = [.x .pen, .x (.int n), .x (.int rm), .o (us.map xW), .x (.int (0 + (i : Nat))), y5, y6, y7, y8, y9] ∧ StI n i j us) ⟨us, _, _, _, _, _, rfl, st⟩ (fun j env N2 hj pv hN2 => ?_) fun env pv => ?_
      · clear st
        obtain ⟨us, y5, y6, y7, y8, y9, rfl, st⟩ := pv
        have ll : us.length < 100000 := by
          have h1 := st.len
          have : i * n.toNat ≤ 6 * 6 := Nat.mul_le_mul (by omega) (by omega)
          omega
        walk_at "ms"
        have abs1 : (if 0 + (i : Int) - (0 + (j : Int)) < 0 then -(0 + (i : Int) - (0 + (j : Int))) else 0 + (i : Int) - (0 + (j : Int))) = 1 ↔ ((j : Int) = i + 1 ∨ (j : Int) = i - 1) := by
          split <;> omega
        have put : ∀ (lo : Int) (hi' : Option Int) y5 y6 y7 y8 y9, i ≠ j → 1 ≤ lo → lo ≤ 3 → (∀ g, hi' = some g → lo ≤ g ∧ g ≤ lo + 4) → (((j : Int) = i + 1 ∨ (j : Int) = i - 1) → ∃ g, hi' = some g) → us.length < 100000 ∧ N2 [.x .pen, .x (.int n), .x (.int rm), .o (us.map xW ++ [.tup [.int (0 + (i : Nat)), .int (0 + (j : Nat)), .int lo, xO hi']]), .x (.int (0 + (i : Nat))), y5, y6, y7, y8, y9] := fun lo hi' y5 y6 y7 y8 y9 ne l0 l3 hh hn => by
          refine ⟨ll, hN2 _ ⟨us ++ [⟨i, j, lo, hi'⟩], y5, y6, y7, y8, y9, ?_, st.put (by omega) (by omega) ne l0 l3 hh hn⟩⟩
          rw [List.map_append, Int.zero_add, Int.zero_add]
          rfl
        have skip : ∀ y5 y6 y7 y8 y9, ¬ ((j : Int) = i + 1 ∨ (j : Int) = i - 1) → N2 [.x .pen, .x (.int n), .x (.int rm), .o (us.map xW), .x (.int (0 + (i : Nat))), y5, y6, y7, y8, y9] := fun y5 y6 y7 y8 y9 far => hN2 _ ⟨us, y5, y6, y7, y8, y9, rfl, st.skip far⟩
        generalize (if 0 + (i : Int) - (0 + (j : Int)) < 0 then -(0 + (i : Int) - (0 + (j : Int))) else 0 + (i : Int) - (0 + (j : Int))) = a at abs1 ⊢
        refine ⟨by omega, by omega, fun d d0 d1 => ?_⟩
        by_cases near : a = 1
        · have nr := abs1.mp near
          rw [if_pos near]
          refine ⟨by omega, by omega, fun e e0 e1 => ⟨by omega, by omega, fun f f0 f1 => ?_⟩⟩
          rw [if_neg (not_not_intro near)]
          exact put (1 + e) (some (1 + e + f)) _ _ _ _ _ (by omega) (by omega) (by omega) (fun g hg => by cases hg; omega) fun _ => ⟨_, rfl⟩
        · have far : ¬ ((j : Int) = i + 1 ∨ (j : Int) = i - 1) := fun z => near (abs1.mpr z)
          rw [if_neg near]
          by_cases ne : 0 + (i : Int) = 0 + (j : Int)
          · rw [if_neg (not_not_intro ne)]
            exact skip _ _ _ _ _ far
          rw [if_pos ne]
          by_cases n5 : n < 5
          · rw [if_pos n5]
            by_cases d8 : 8 < d
            · rw [if_pos d8]
              refine ⟨by omega, by omega, fun e e0 e1 => ⟨by omega, by omega, fun f f0 f1 => ?_⟩⟩
              rw [if_pos near]
              by_cases d9 : d = 9
              · rw [if_pos d9]
                exact put (1 + e) none _ _ _ _ _ (by omega) (by omega) (by omega) (fun g hg => nomatch hg) fun z => absurd z far
              · rw [if_neg d9]
                exact put (1 + e) (some (1 + e + f)) _ _ _ _ _ (by omega) (by omega) (by omega) (fun g hg => by cases hg; omega) fun _ => ⟨_, rfl⟩
            · rw [if_neg d8]
              exact skip _ _ _ _ _ far
          · rw [if_neg n5]
            exact skip _ _ _ _ _ far
      · obtain ⟨us, y5, y6, y7, y8, y9, rfl, st⟩ := pv
        exact hN _ ⟨us, _, _, _, _, _, _, rfl, st.row⟩
    · obtain ⟨us, y4, y5, y6, y7, y8, y9, rfl, st⟩ := pv
      walk_at "ms"
      exact h us (st.fin n1 n6)
  by_cases n4 : 4 < n
  · rw [if_pos n4]
    exact ⟨by omega, by omega, key 3 (by omega) (by omega)⟩
  · rw [if_neg n4]
    exact ⟨by omega, by omega, key 5 (by omega) (by omega)⟩
def PrOk (n : Int) (p : Int × Int) : Prop := (0 ≤ p.1 ∧ p.1 < n) ∧ (0 ≤ p.2 ∧ p.2 < n) ∧ p.1 ≠ p.2
def prT : MS := (mSeq (mOwn 4 (mLst mNil))
      (mSeq (mFor (mRg1 (mCons (mOp mMul (mCallP mTake (mCons (mVar 0) (mCons (mC (.int 8)) mNil))) (mCB mIntOf (mCons (mOp mGt (mVarW 1) (mC (.int 1))) mNil))) mNil)) (mGn 5)
      (mSeq (mSet 6 (mCallP mTake (mCons (mVar 0) (mCons (mVar 1) mNil))))
      (mApp 4 (mTup (mCons (mVar 6) (mCons (mOp mMod (mCB mIntOf (mCons (mOp mAddU (mOp mAddU (mVarW 6) (mC (.int 1))) (mCallP mTake (mCons (mVar 0) (mCons (mOp mSub (mVarW 1) (mC (.int 1))) mNil)))) mNil)) (mVarW 1)) mNil))))))
      (mFrz 4 (mRet (mVar 4)))))
theorem m_pairs_eq : m_pairs = (mSeq (mIfS (mAnd (mB (mOp mGt (mVarW 1) (mC (.int 3)))) (mB (mOp mEqU (mCallP mTake (mCons (mVar 0) (mCons (mC (.int 3)) mNil))) (mC (.int 0))))) (mSeq (mSet 2 (mOp mAddU (mC (.int 1)) (mCallP mTake (mCons (mVar 0) (mCons (mOp mSub (mVarW 1) (mC (.int 3))) mNil)))))
      (mSeq (mSet 3 (mOp mAddU (mOp mAddU (mVarW 2) (mC (.int 1))) (mCallP mTake (mCons (mVar 0) (mCons (mOp mSub (mOp mSub (mVarW 1) (mC (.int 2))) (mVarW 2)) mNil)))))
      (mRet (mFz (mLst (mCons (mTup (mCons (mCallP mTake (mCons (mVar 0) (mCons (mVar 2) mNil))) (mCons (mVar 3) mNil))) (mCons (mTup (mCons (mVar 2) (mCons (mOp mAddU (mOp mAddU (mVarW 3) (mC (.int 1))) (mCallP mTake (mCons (mVar 0) (mCons (mOp mSub (mOp mSub (mVarW 1) (mC (.int 1))) (mVarW 3)) mNil)))) mNil))) mNil))))))) mNext) prT) := rfl
theorem pairs_m {n : Int} {q : X → Prop} (n1 : 1 ≤ n) (n6 : n ≤ 6) (h : ∀ ps : List (Int × Int), (∀ p ∈ ps, PrOk n p) → ps.length ≤ 7 → q (.lst (ps.map xP))) : Mrun 7 m_pairs [.pen, .int n] q := by
  unfold Mrun
  rw [m_pairs_eq]
  walk_at "ms"
  have tail : prT ⟨fun _ => q .non, q, fun _ => False, fun _ => False⟩ [.x .pen, .x (.int n), .u, .u, .u, .u, .u] := by
    unfold prT
    walk_at "ms"
    refine ⟨by omega, by omega, fun d d0 d1 => ?_⟩
    have cm : ∀ k : Int, 0 ≤ k → k ≤ 1 → CMul d k ∧ (-2 ^ 62 ≤ d * k) ∧ d * k < 2 ^ 62 ∧ (d * k).toNat ≤ 7 ∧ (k = 0 → (d * k).toNat = 0) := fun k k0 k1 => by
      rcases (by omega : k = 0 ∨ k = 1) with rfl | rfl
      · refine ⟨.inl ⟨by omega, by omega⟩, ?_⟩
        rw [Int.mul_zero]
        exact ⟨by omega, by omega, by omega, fun _ => rfl⟩
      · refine ⟨.inl ⟨by omega, by omega⟩, ?_⟩
        rw [Int.mul_one]
        exact ⟨by omega, by omega, by omega, fun z => by omega⟩
    obtain ⟨c1, c2, c3, c4, c5⟩ := cm (if 1 < n then 1 else 0) (by split <;> omega) (by split <;> omega)
    refine ⟨c1, c2, c3, ?_⟩
    have c6 : ¬ 1 < n → (d * if 1 < n then 1 else 0).toNat = 0 := fun z => c5 (if_neg z)
    generalize (d * if 1 < n then 1 else 0).toNat = k at c4 c6 ⊢
    refine forL_rg (fun i env => ∃ y5 y6, ∃ ps : List (Int × Int), env = [.x .pen, .x (.int n), .u, .u, .o (ps.map xP), y5, y6] ∧ (∀ p ∈ ps, PrOk n p) ∧ ps.length = i) ⟨_, _, [], rfl, fun _ z => (nomatch z), rfl⟩ (fun i env N hi pv hN => ?_) fun env pv => ?_
    · obtain ⟨y5, y6, ps, rfl, ok, lp⟩ := pv
      have n2 : 1 < n := by
        by_cases z : 1 < n
        · exact z
        · have := c6 z
          omega
      walk_at "ms"
      refine ⟨by omega, by omega, fun e e0 e1 => ⟨by omega, by omega, fun f f0 f1 => ⟨by omega, by omega, ?_⟩⟩⟩
      refine hN _ ⟨.x (.int (0 + (i : Nat))), .x (.int e), ps ++ [(e, (e + 1 + f).fmod n)], by rw [List.map_append]; rfl, fun p hp => ?_, by rw [List.length_append, lp]; rfl⟩
      rcases List.mem_append.mp hp with hp | hp
      · exact ok p hp
      · rw [List.mem_singleton.mp hp, Int.fmod_eq_emod_of_nonneg _ (by omega)]
        have m0 := Int.emod_nonneg (e + 1 + f) (show n ≠ 0 by omega)
        have m1 := Int.emod_lt_of_pos (e + 1 + f) (show 0 < n by omega)
        refine ⟨⟨e0, e1⟩, ⟨m0, m1⟩, ?_⟩
        show e ≠ (e + 1 + f) % n
        by_cases z : e + 1 + f < n
        · rw [Int.emod_eq_of_lt (by omega) z]
          omega
        · have : (e + 1 + f) % n = e + 1 + f - n := by
            rw [← Int.sub_emod_right, Int.emod_eq_of_lt (by omega) (by omega)]
          omega
    · obtain ⟨y5, y6, ps, rfl, ok, lp⟩ := pv
      walk_at "ms"
      exact h ps ok (by omega)
  by_cases n3 : 3 < n
  · rw [if_pos n3]
    refine ⟨by omega, by omega, fun d d0 d1 => ?_⟩
    by_cases z : d = 0
    · rw [if_pos z]
      refine ⟨by omega, by omega, fun a a0 a1 => ⟨by omega, by omega, fun b b0 b1 => ⟨by omega, by omega, fun c c0 c1 => ⟨by omega, by omega, fun e e0 e1 => ?_⟩⟩⟩⟩
      refine h [(c, 1 + a + 1 + b), (1 + a, 1 + a + 1 + b + 1 + e)] (fun p hp => ?_) (by show 2 ≤ 7; decide)
      rcases List.mem_cons.mp hp with rfl | hp
      · exact ⟨⟨by show 0 ≤ c; omega, by show c < n; omega⟩, ⟨by show 0 ≤ 1 + a + 1 + b; omega, by show 1 + a + 1 + b < n; omega⟩, by show c ≠ 1 + a + 1 + b; omega⟩
      · rw [List.mem_singleton.mp hp]
        exact ⟨⟨by show 0 ≤ 1 + a; omega, by show 1 + a < n; omega⟩, ⟨by show 0 ≤ 1 + a + 1 + b + 1 + e; omega, by show 1 + a + 1 + b + 1 + e < n; omega⟩, by show 1 + a ≠ 1 + a + 1 + b + 1 + e; omega⟩
    · rw [if_neg z]
      exact tail
  · rw [if_neg n3]
    exact tail
/-! ### the wishes that it draws -/
theorem wys_nb {n : Int} {us : List W4} {east : Bool} (h : Nb n us) : ∀ m : Nat, (m : Int) ≤ n - 1 → wys us east m = (List.range m).map (xY (loN us east) (hiN us east))
  | 0, _ => rfl
  | m + 1, hm => by
    rw [wys_succ, wys_nb h m (by omega), List.range_succ, List.map_append]
    congr 1
    obtain ⟨u, hu, e1, e2, e3, e4, _⟩ := h.get (a := aE east m) (b := bE east m) (by unfold aE; split <;> omega) (by unfold aE; split <;> omega) (by unfold bE; split <;> omega) (by unfold bE; split <;> omega) (by unfold aE bE; split <;> omega)
    have hf : us.filter (atP east m) = [u] := by
      have key : ∀ l : List W4, (l.map W4.k).Nodup → u ∈ l → l.filter (atP east m) = [u] := fun l => by
        induction l with
        | nil => exact fun _ z => nomatch z
        | cons v l ih =>
          intro nd hm
          rw [List.map_cons, List.nodup_cons] at nd
          have kk : atP east m v = true → v.k = u.k := fun z => by
            unfold atP at z
            rw [Bool.and_eq_true, decide_eq_true_eq, decide_eq_true_eq] at z
            show [v.s, v.t] = [u.s, u.t]
            rw [z.1, z.2, e1, e2]
          rcases List.mem_cons.mp hm with rfl | hm
          · rw [List.filter_cons_of_pos (by unfold atP; rw [e1, e2]; simp)]
            congr 1
            rw [List.filter_eq_nil_iff]
            intro x hx hy
            have : x.k = u.k := by
              unfold atP at hy
              rw [Bool.and_eq_true, decide_eq_true_eq, decide_eq_true_eq] at hy
              show [x.s, x.t] = [u.s, u.t]
              rw [hy.1, hy.2, e1, e2]
            exact nd.1 (List.mem_map.mpr ⟨x, hx, this⟩)
          · rw [List.filter_cons_of_neg fun z => nd.1 (List.mem_map.mpr ⟨u, hm, (kk z).symm⟩)]
            exact ih nd.2 hm
      exact key us h.nd hu
    rw [hf]
    show [X.tup [.int u.lo, xO u.hi]] = [X.tup [.int (loN us east m), .int (hiN us east m)]]
    rw [e3, e4]
    rfl
theorem StrOk.bd {n : Int} {us : List W4} (h : StrOk n us) (east : Bool) (p : Nat) (hp : (p : Int) < n - 1) : 1 ≤ loN us east p ∧ loN us east p ≤ hiN us east p ∧ hiN us east p - loN us east p ≤ 4 ∧ hiN us east p ≤ 7 := by
  obtain ⟨u, hu, e1, e2, e3, e4, e5⟩ := h.Nb.get (a := aE east p) (b := bE east p) (by unfold aE; split <;> omega) (by unfold aE; split <;> omega) (by unfold bE; split <;> omega) (by unfold bE; split <;> omega) (by unfold aE bE; split <;> omega)
  obtain ⟨v, hv, f1, f2, g, f3, f4, f5⟩ := h.nb (aE east p) (bE east p) (by unfold aE; split <;> omega) (by unfold aE; split <;> omega) (by unfold bE; split <;> omega) (by unfold bE; split <;> omega) (by unfold aE bE; split <;> omega)
  have ev : u = v := by
    have h1 := lk_one h.Nb.nd hu
    have h2 := lk_one h.Nb.nd hv
    rw [e1, e2] at h1
    rw [f1, f2, h1] at h2
    exact Option.some.inj h2
  subst ev
  have hw := h.w.w u hu
  have := hw.h _ f3
  rw [f3] at e4
  cases e4
  have := hw.l0
  unfold loN hiN
  omega
theorem cut_x {f : Nat → X} {m : Nat} {a b : Int} (b0 : 0 ≤ a) (b1 : a < b) (b2 : b ≤ m) : cutX ((List.range m).map f) (some a) (some b) = (((List.range m).drop a.toNat).take (b.toNat - a.toNat)).map f := by
  have h1 : HT.sIx m 0 (some a) = a.toNat := by
    show (if a < 0 then _ else _) = _
    rw [if_neg (by omega)]
    omega
  have h2 : HT.sIx m m (some b) = b.toNat := by
    show (if b < 0 then _ else _) = _
    rw [if_neg (by omega)]
    omega
  unfold cutX
  rw [List.length_map, List.length_range, h1, h2, ← List.map_drop, ← List.map_take]
theorem sum_bd {f g : Nat → Int} : ∀ {l : List Nat}, (∀ p ∈ l, 1 ≤ f p ∧ f p ≤ g p ∧ g p ≤ 7) → (l.length : Int) ≤ (l.map f).sum ∧ (l.map f).sum ≤ (l.map g).sum ∧ (l.map g).sum ≤ 7 * l.length
  | [], _ => ⟨Int.le_refl _, Int.le_refl _, Int.le_refl _⟩
  | x :: l, h => by
    have := sum_bd (l := l) fun p hp => h p (List.mem_cons_of_mem _ hp)
    have := h x List.mem_cons_self
    rw [List.map_cons, List.map_cons, List.sum_cons, List.sum_cons, List.length_cons]
    omega
def wsT : MS := (mSeq (mSet 9 (mOp mSub (mOp mAddU (mVarW 6) (mVarW 7)) (mVarW 8)))
      (mSeq (mSet 10 (mFz (mSlL (mCall 3 6 m_ways (mCons (mVar 2) (mCons (mVar 1) (mCons (mOp mLt (mVarW 8) (mVarW 9)) mNil)))) (mPart (mCB mMin2 (mCons (mVarW 6) (mCons (mVarW 7) mNil)))) (mPart (mCB mMax2 (mCons (mVarW 6) (mCons (mVarW 7) mNil)))))))
      (mSeq (mSet 11 (mCB mSum (mCons (mFz (mLc (mItS (mVarW 10)) (mGn 12) mYes (mOp mIx (mVarW 12) (mC (.int 0))) [12])) mNil)))
      (mSeq (mSet 13 (mCB mSum (mCons (mFz (mLc (mItS (mVarW 10)) (mGn 12) mYes (mOp mIx (mVarW 12) (mC (.int 1))) [12])) mNil)))
      (mSeq (mSet 14 (mOp mAddU (mVarW 11) (mCallP mTake (mCons (mVar 0) (mCons (mOp mAddU (mC (.int 1)) (mCallP mTake (mCons (mVar 0) (mCons (mOp mAddU (mOp mSub (mVarW 13) (mVarW 11)) (mC (.int 2))) mNil)))) mNil)))))
      (mSeq (mIfS (mAnd (mB (mVarW 4)) (mB (mOp mEqU (mCallP mTake (mCons (mVar 0) (mCons (mC (.int 2)) mNil))) (mC (.int 0))))) (mSet 14 (mOp mSub (mVarW 11) (mC (.int 1)))) mNext)
      (mApp 5 (mTup (mCons (mVar 8) (mCons (mVar 9) (mCons (mVar 14) mNil))))))))))) 
theorem m_wishes_eq : m_wishes = (mSeq (mSet 3 (mCallP mTake (mCons (mVar 0) (mCons (mC (.int 3)) mNil))))
      (mSeq (mSet 4 (mOp mEqU (mCallP mTake (mCons (mVar 0) (mCons (mC (.int 6)) mNil))) (mC (.int 0))))
      (mSeq (mOwn 5 (mLst mNil))
      (mSeq (mFor (mItS (mCall 2 7 m_pairs (mCons (mVar 0) (mCons (mVar 1) mNil)))) (mGtup 2 (mGcons (mGn 6) (mGcons (mGn 7) mGnil)))
      (mSeq (mSet 8 (mOp mIx (mFz (mLst (mCons (mVar 6) (mCons (mCB mMin2 (mCons (mVarW 6) (mCons (mVarW 7) mNil))) (mCons (mCB mMax2 (mCons (mVarW 6) (mCons (mVarW 7) mNil))) mNil))))) (mVarW 3))) wsT))
      (mFrz 5 (mRet (mVar 5))))))) := rfl
theorem wsT_m {n f l S : Int} {us : List W4} {L : List X} {D : MD} {a : X} {hard : Bool} {y9 y10 y11 y12 y13 y14 : Y} (n1 : 1 ≤ n) (n6 : n ≤ 6) (so : StrOk n us) (ok : PrOk n (f, l)) (hS : S = f ∨ S = l) (lL : L.length ≤ 100)
    (h : ∀ mm y9 y10 y11 y12 y13 y14, 0 ≤ mm → D.nx [.x .pen, .x (.int n), .x (.lst (us.map xW)), .x a, .x (.bl hard), .o (L ++ [xB ⟨S, f + l - S, mm⟩]), .x (.int f), .x (.int l), .x (.int S), y9, y10, y11, y12, y13, y14]) :
    wsT D [.x .pen, .x (.int n), .x (.lst (us.map xW)), .x a, .x (.bl hard), .o L, .x (.int f), .x (.int l), .x (.int S), y9, y10, y11, y12, y13, y14] := by
  obtain ⟨⟨f0, f1⟩, ⟨l0, l1⟩, ne⟩ := ok
  simp only at f0 f1 l0 l1 ne
  have m1 : (if l < f then l else f) = min f l := by split <;> omega
  have m2 : (if l > f then l else f) = max f l := by split <;> omega
  unfold wsT
  walk_at "ms"
  refine ways_m n1 (by omega) (by have := so.len; omega) ?_
  rw [wys_nb so.Nb _ (by omega)]
  walk_at "ms"
  rw [m1, m2]
  rw [cut_x (by omega) (by omega) (by omega)]
  generalize hP : ((List.range (n - 1).toNat).drop (min f l).toNat).take ((max f l).toNat - (min f l).toNat) = P
  have len : P.length = (max f l).toNat - (min f l).toNat := by
    rw [← hP, List.length_take, List.length_drop, List.length_range]
    omega
  have mem : ∀ p ∈ P, (p : Int) < n - 1 := fun p hp => by
    rw [← hP] at hp
    have := List.mem_range.mp (List.mem_of_mem_drop (List.mem_of_mem_take hp))
    omega
  generalize decide (S < f + l - S) = east
  obtain ⟨s1, s2, s3⟩ := sum_bd (f := loN us east) (g := hiN us east) (l := P) fun p hp => let z := so.bd east p (mem p hp); ⟨z.1, z.2.1, z.2.2.2⟩
  refine lcL_map (h := fun p => X.int (loN us east p)) (by omega) (fun p hp A B hab => ?_) ?_
  · rw [show xY (loN us east) (hiN us east) p = .tup [.int (loN us east p), .int (hiN us east p)] from rfl]
    walk_at "ms"
    exact hab
  refine ⟨P.map (loN us east), by rw [List.map_map]; rfl, ?_⟩
  refine lcL_map (h := fun p => X.int (hiN us east p)) (by omega) (fun p hp A B hab => ?_) ?_
  · rw [show xY (loN us east) (hiN us east) p = .tup [.int (loN us east p), .int (hiN us east p)] from rfl]
    walk_at "ms"
    exact hab
  refine ⟨P.map (hiN us east), by rw [List.map_map]; rfl, ?_⟩
  generalize (P.map (loN us east)).sum = lo at s1 s2 ⊢
  generalize (P.map (hiN us east)).sum = hi at s2 s3 ⊢
  refine ⟨by omega, by omega, fun d d0 d1 => ⟨by omega, by omega, fun e e0 e1 => ?_⟩⟩
  cases hard
  · walk_at "ms"
    exact ⟨by omega, h (lo + e) _ _ _ _ _ _ (by omega)⟩
  · walk_at "ms"
    refine ⟨by omega, by omega, fun g g0 g1 => ?_⟩
    by_cases z : g = 0
    · rw [if_pos z]
      exact ⟨by omega, h (lo - 1) _ _ _ _ _ _ (by omega)⟩
    · rw [if_neg z]
      exact ⟨by omega, h (lo + e) _ _ _ _ _ _ (by omega)⟩
theorem wishes_m {n : Int} {us : List W4} {q : X → Prop} (n1 : 1 ≤ n) (n6 : n ≤ 6) (so : StrOk n us) (h : ∀ bs : List B3, (∀ b ∈ bs, WshOk n b) → bs.length ≤ 7 → q (.lst (bs.map xB))) : Mrun 15 m_wishes [.pen, .int n, .lst (us.map xW)] q := by
  unfold Mrun
  rw [m_wishes_eq]
  walk_at "ms"
  refine ⟨by omega, by omega, fun a a0 a1 => ⟨by omega, by omega, fun b b0 b1 => ?_⟩⟩
  refine pairs_m n1 n6 fun ps ok lp => ?_
  show forL _ _ _ (ps.map xP) _
  refine forL_map (f := xP) (fun i env => ∃ y6 y7 y8 y9 y10 y11 y12 y13 y14, ∃ bs : List B3, env = [.x .pen, .x (.int n), .x (.lst (us.map xW)), .x (.int a), .x (.bl (decide (b = 0))), .o (bs.map xB), y6, y7, y8, y9, y10, y11, y12, y13, y14] ∧ (∀ b ∈ bs, WshOk n b) ∧ bs.length = i) ⟨_, _, _, _, _, _, _, _, _, [], rfl, fun _ z => (nomatch z), rfl⟩ (fun i p env N hp pv hN => ?_) fun env pv => ?_
  · obtain ⟨y6, y7, y8, y9, y10, y11, y12, y13, y14, bs, rfl, okb, lb⟩ := pv
    have pok := ok p (List.mem_of_getElem? hp)
    have hi := (List.getElem?_eq_some_iff.mp hp).1
    obtain ⟨f, l⟩ := p
    rw [show xP (f, l) = .tup [.int f, .int l] from rfl]
    have fin : ∀ S : Int, (S = f ∨ S = l) → wsT ⟨N, q, fun e => ((mFrz 5 (mRet (mVar 5))) ⟨fun _ => q .non, q, fun _ => False, fun _ => False⟩ e), N⟩ [.x .pen, .x (.int n), .x (.lst (us.map xW)), .x (.int a), .x (.bl (decide (b = 0))), .o (bs.map xB), .x (.int f), .x (.int l), .x (.int S), y9, y10, y11, y12, y13, y14] := fun S hS => by
      refine wsT_m n1 n6 so pok hS (by rw [List.length_map]; omega) fun mm z9 z10 z11 z12 z13 z14 m0 => ?_
      refine hN _ ⟨_, _, _, z9, z10, z11, z12, z13, z14, bs ++ [⟨S, f + l - S, mm⟩], by rw [List.map_append]; rfl, fun c hc => ?_, by rw [List.length_append, lb]; rfl⟩
      rcases List.mem_append.mp hc with hc | hc
      · exact okb c hc
      · rw [List.mem_singleton.mp hc]
        obtain ⟨⟨f0, f1⟩, ⟨l0, l1⟩, ne⟩ := pok
        simp only at f0 f1 l0 l1 ne
        exact ⟨⟨by show 0 ≤ S; omega, by show S < n; omega⟩, ⟨by show 0 ≤ f + l - S; omega, by show f + l - S < n; omega⟩, by show S ≠ f + l - S; omega, m0⟩
    have m1 : (if l < f then l else f) = f ∨ (if l < f then l else f) = l := by split <;> omega
    have m2 : (if l > f then l else f) = f ∨ (if l > f then l else f) = l := by split <;> omega
    rcases (by omega : a = 0 ∨ a = 1 ∨ a = 2) with rfl | rfl | rfl
    · walk_at "ms"
      exact fin _ (.inl rfl)
    · walk_at "ms"
      exact fin _ m1
    · walk_at "ms"
      exact fin _ m2
  · obtain ⟨y6, y7, y8, y9, y10, y11, y12, y13, y14, bs, rfl, okb, lb⟩ := pv
    walk_at "ms"
    exact h bs okb (by omega)
end
section
set_option maxRecDepth 100000
set_option maxHeartbeats 1000000
open PySem PySem.Spec PyProof.Rows L2 VX MI
/-! ### the new highs, put into the rows -/
def fd (qs : List B3) (u : W4) : Option B3 := qs.find? fun b => decide (b.l = u.s) && decide (b.e = u.t)
def up (qs : List B3) (u : W4) : W4 := match fd qs u with
  | none => u
  | some b => { u with hi := some b.m }
theorem up_k (qs : List B3) (u : W4) : (up qs u).k = u.k := by
  unfold up
  split <;> rfl
theorem up_s (qs : List B3) (u : W4) : (up qs u).s = u.s ∧ (up qs u).t = u.t ∧ (up qs u).lo = u.lo := by
  unfold up
  split <;> exact ⟨rfl, rfl, rfl⟩
theorem fd_mem {qs : List B3} {u : W4} {b : B3} (h : fd qs u = some b) : b ∈ qs ∧ b.l = u.s ∧ b.e = u.t := by
  unfold fd at h
  have h1 := List.mem_of_find?_eq_some h
  have h2 := List.find?_some h
  rw [Bool.and_eq_true, decide_eq_true_eq, decide_eq_true_eq] at h2
  exact ⟨h1, h2.1, h2.2⟩
theorem fd_none {qs : List B3} {u : W4} (h : fd qs u = none) : ∀ b ∈ qs, ¬ (b.l = u.s ∧ b.e = u.t) := by
  unfold fd at h
  rw [List.find?_eq_none] at h
  intro b hb z
  exact h b hb (by rw [z.1, z.2]; simp)
theorem fd_filter {qs : List B3} (nd : (qs.map B3.k).Nodup) (u : W4) : qs.filter (fun b => decide (b.l = u.s) && decide (b.e = u.t)) = (fd qs u).toList := by
  induction qs with
  | nil => rfl
  | cons b qs ih =>
    rw [List.map_cons, List.nodup_cons] at nd
    unfold fd
    by_cases z : (decide (b.l = u.s) && decide (b.e = u.t)) = true
    · rw [List.filter_cons_of_pos (p := fun b : B3 => decide (b.l = u.s) && decide (b.e = u.t)) z, List.find?_cons_of_pos (p := fun b : B3 => decide (b.l = u.s) && decide (b.e = u.t)) z]
      show b :: _ = [b]
      congr 1
      rw [List.filter_eq_nil_iff]
      intro c hc hz
      rw [Bool.and_eq_true, decide_eq_true_eq, decide_eq_true_eq] at z hz
      exact nd.1 (List.mem_map.mpr ⟨c, hc, by show [c.l, c.e] = [b.l, b.e]; rw [hz.1, hz.2, z.1, z.2]⟩)
    · rw [List.filter_cons_of_neg (p := fun b : B3 => decide (b.l = u.s) && decide (b.e = u.t)) z, List.find?_cons_of_neg (p := fun b : B3 => decide (b.l = u.s) && decide (b.e = u.t)) z]
      exact ih nd.2
/-- what the new highs are of -/
structure Two (n : Int) (us : List W4) (bs : List B3) (qs : List B3) (s : Int) (dd : Bool → SPR.DM) (kk : Bool → List Int) : Prop where
  sol : ∀ east, Sol n us bs east (kk east) (dd east)
  pm : qs.Perm (nh us true (dd true) (kk true) ++ nh us false (dd false) (kk false))
  s : s = 0 - dist (dd true) (n - 1) - dist (dd false) (n - 1)
theorem Stg.two' {n : Int} {us : List W4} {bs r qs : List B3} {s : Int} (h : Stg n us bs 2 s r) (pm : qs.Perm r) : ∃ dd kk, Two n us bs qs s dd kk := by
  cases h with
  | @two ks ks2 d d2 h1 h2 =>
  refine ⟨fun e => if e = true then d else d2, fun e => if e = true then ks else ks2, fun e => ?_, pm, rfl⟩
  cases e
  · exact h2
  · exact h1
section
variable {n s : Int} {us : List W4} {bs qs : List B3} {dd : Bool → SPR.DM} {kk : Bool → List Int}
theorem Two.mem (h : Two n us bs qs s dd kk) {b : B3} : b ∈ qs ↔ ∃ east p, p ∈ kk east ∧ 0 < sv (dd east) p ∧ b = nh1 us east (dd east) p := by
  rw [h.pm.mem_iff, List.mem_append]
  unfold nh
  constructor
  · rintro (hb | hb)
    · obtain ⟨p, hp, rfl⟩ := List.mem_map.mp hb
      rw [List.mem_filter, decide_eq_true_eq] at hp
      exact ⟨true, p, hp.1, hp.2, rfl⟩
    · obtain ⟨p, hp, rfl⟩ := List.mem_map.mp hb
      rw [List.mem_filter, decide_eq_true_eq] at hp
      exact ⟨false, p, hp.1, hp.2, rfl⟩
  · rintro ⟨east, p, hp, hs, rfl⟩
    have : nh1 us east (dd east) p ∈ ((kk east).filter fun p => decide (0 < sv (dd east) p)).map (nh1 us east (dd east)) := List.mem_map.mpr ⟨p, List.mem_filter.mpr ⟨hp, by rw [decide_eq_true_eq]; exact hs⟩, rfl⟩
    cases east
    · exact .inr this
    · exact .inl this
theorem Two.nd (h : Two n us bs qs s dd kk) : (qs.map B3.k).Nodup := by
  have : Stg n us bs 2 (0 - dist (dd true) (n - 1) - dist (dd false) (n - 1)) (nh us true (dd true) (kk true) ++ nh us false (dd false) (kk false)) := .two (h.sol true) (h.sol false)
  exact (h.pm.map B3.k).nodup_iff.mpr this.nd
theorem ab_inj {e e' : Bool} {p p' : Int} (h1 : aE e p = aE e' p') (h2 : bE e p = bE e' p') : e = e' ∧ p = p' := by
  unfold aE at h1
  unfold bE at h2
  cases e <;> cases e' <;> simp at h1 h2 <;> first | (exact ⟨rfl, by omega⟩) | omega
theorem Two.row (h : Two n us bs qs s dd kk) (wo : ∀ b ∈ bs, WshOk n b) (nb : Nb n us) {b : B3} (hb : b ∈ qs) : ∃ u ∈ us, u.s = b.l ∧ u.t = b.e ∧ u.hi = some (hiI us b.l b.e) ∧ u.lo ≤ b.m ∧ b.m < hiI us b.l b.e := by
  obtain ⟨east, p, hp, hs, rfl⟩ := h.mem.mp hb
  have hr := (h.sol east).kk.rng wo p hp
  obtain ⟨u, hu, e1, e2, e3, e4, e5⟩ := nb.get (a := aE east p) (b := bE east p) (by unfold aE; split <;> omega) (by unfold aE; split <;> omega) (by unfold bE; split <;> omega) (by unfold bE; split <;> omega) (by unfold aE bE; split <;> omega)
  have h1 := (h.sol east).sv1 wo hp
  refine ⟨u, hu, e1, e2, e4, ?_, ?_⟩
  · show u.lo ≤ hiI us (aE east p) (bE east p) - sv (dd east) p
    omega
  · show hiI us (aE east p) (bE east p) - sv (dd east) p < hiI us (aE east p) (bE east p)
    omega
theorem Two.upNb (h : Two n us bs qs s dd kk) (wo : ∀ b ∈ bs, WshOk n b) (nb : Nb n us) : Nb n (us.map (up qs)) := by
  refine ⟨?_, fun a b a0 a1 b0 b1 e => ?_, fun u hu => ?_⟩
  · rw [List.map_map, show W4.k ∘ up qs = W4.k from funext fun u => up_k qs u]
    exact nb.nd
  · obtain ⟨u, hu, h1, h2, g, h3, h4⟩ := nb.nb a b a0 a1 b0 b1 e
    refine ⟨up qs u, List.mem_map.mpr ⟨u, hu, rfl⟩, by rw [(up_s qs u).1, h1], by rw [(up_s qs u).2.1, h2], ?_⟩
    unfold up
    cases hf : fd qs u with
    | none => exact ⟨g, h3, h4⟩
    | some c =>
      obtain ⟨hc, c1, c2⟩ := fd_mem hf
      obtain ⟨v, hv, e1, e2, _, e4, _⟩ := h.row wo nb hc
      have l1 := lk_one nb.nd hu
      have l2 := lk_one nb.nd hv
      rw [e1, e2, c1, c2, l1] at l2
      cases l2
      exact ⟨c.m, rfl, e4⟩
  · obtain ⟨v, hv, rfl⟩ := List.mem_map.mp hu
    rw [(up_s qs v).2.2]
    exact nb.lo v hv
theorem Two.hi (h : Two n us bs qs s dd kk) (wo : ∀ b ∈ bs, WshOk n b) (nb : Nb n us) (east : Bool) (p : Nat) (hp : (p : Int) < n - 1) : hiN (us.map (up qs)) east p = hiN us east p - sav (dd east) (kk east) p := by
  obtain ⟨u, hu, e1, e2, e3, e4, e5⟩ := nb.get (a := aE east p) (b := bE east p) (by unfold aE; split <;> omega) (by unfold aE; split <;> omega) (by unfold bE; split <;> omega) (by unfold bE; split <;> omega) (by unfold aE bE; split <;> omega)
  have l1 := lk_one (h.upNb wo nb).nd (u := up qs u) (List.mem_map.mpr ⟨u, hu, rfl⟩)
  rw [(up_s qs u).1, (up_s qs u).2.1, e1, e2] at l1
  have hh : hiN (us.map (up qs)) east p = ((up qs u).hi).getD 0 := by
    unfold hiN hiI
    rw [l1]
    rfl
  rw [hh]
  have hu0 : u.hi = some (hiN us east p) := e4
  unfold up
  cases hf : fd qs u with
  | none =>
    show u.hi.getD 0 = _
    rw [hu0]
    show hiN us east p = _
    have : sav (dd east) (kk east) p = 0 := by
      unfold sav
      by_cases z : ((p : Nat) : Int) ∈ kk east
      · rw [if_pos z]
        have h0 := (h.sol east).sv0 wo (p := p) (by omega) (by omega)
        by_cases y : 0 < sv (dd east) p
        · exact absurd ⟨e1.symm, e2.symm⟩ (fd_none hf _ (h.mem.mpr ⟨east, p, z, y, rfl⟩))
        · omega
      · exact if_neg z
    omega
  | some c =>
    obtain ⟨hc, c1, c2⟩ := fd_mem hf
    obtain ⟨east', p', hp', hs', rfl⟩ := h.mem.mp hc
    obtain ⟨rfl, rfl⟩ := ab_inj (e := east') (e' := east) (p := p') (p' := p) (by rw [← e1, ← c1]; rfl) (by rw [← e2, ← c2]; rfl)
    show hiI us _ _ - sv _ _ = _
    unfold sav
    rw [if_pos hp']
    rfl
/-! sums -/
theorem Sg_add (f g : Nat → Int) : ∀ n, Sg (fun i => f i + g i) n = Sg f n + Sg g n
  | 0 => rfl
  | n + 1 => by
    show Sg (fun i => f i + g i) n + (f n + g n) = Sg f n + f n + (Sg g n + g n)
    rw [Sg_add f g n]
    omega
theorem Sg_one {p c : Int} (h0 : 0 ≤ p) : ∀ m : Nat, Sg (fun i => if (i : Int) = p then c else 0) m = if p < m then c else 0
  | 0 => by
    rw [if_neg (by omega)]
    rfl
  | m + 1 => by
    show Sg (fun i => if (i : Int) = p then c else 0) m + (if (m : Int) = p then c else 0) = _
    rw [Sg_one h0 m]
    by_cases z : p < m
    · rw [if_pos z, if_neg (by omega), if_pos (by omega)]
      omega
    · rw [if_neg z]
      by_cases y : (m : Int) = p
      · rw [if_pos y, if_pos (by omega)]
        omega
      · rw [if_neg y, if_neg (by omega)]
        rfl
theorem sum_sg {f : Int → Int} {m : Nat} : ∀ {ks : List Int}, ks.Nodup → (∀ p ∈ ks, 0 ≤ p ∧ p < m) → (ks.map f).sum = Sg (fun i => if (i : Int) ∈ ks then f i else 0) m
  | [], _, _ => by
    have : ∀ m, Sg (fun i => if (i : Int) ∈ ([] : List Int) then f i else 0) m = 0 := fun m => by
      induction m with
      | zero => rfl
      | succ m ih =>
        show Sg _ m + (if (m : Int) ∈ ([] : List Int) then f m else 0) = 0
        rw [ih, if_neg (by simp)]
        rfl
    rw [this]
    rfl
  | p :: ks, nd, hr => by
    rw [List.nodup_cons] at nd
    have hp := hr p List.mem_cons_self
    have : (fun i : Nat => if (i : Int) ∈ p :: ks then f i else 0) = fun i : Nat => (if (i : Int) = p then f p else 0) + if (i : Int) ∈ ks then f i else 0 := by
      funext i
      by_cases z : (i : Int) = p
      · rw [if_pos (by rw [z]; exact List.mem_cons_self), if_pos z, if_neg (by rw [z]; exact nd.1), z]
        omega
      · rw [if_neg z]
        by_cases y : (i : Int) ∈ ks
        · rw [if_pos y, if_pos (List.mem_cons_of_mem _ y)]
          omega
        · rw [if_neg y, if_neg fun w => by
            rcases List.mem_cons.mp w with w | w
            · exact z w
            · exact y w]
          rfl
    rw [this, Sg_add, Sg_one hp.1, if_pos hp.2, List.map_cons, List.sum_cons, sum_sg nd.2 fun p hp => hr p (List.mem_cons_of_mem _ hp)]
theorem sum_filter {f : Int → Int} : ∀ {ks : List Int}, (∀ p ∈ ks, 0 ≤ f p) → ((ks.filter fun p => decide (0 < f p)).map f).sum = (ks.map f).sum
  | [], _ => rfl
  | p :: ks, h => by
    have ih := sum_filter (ks := ks) fun p hp => h p (List.mem_cons_of_mem _ hp)
    by_cases z : 0 < f p
    · rw [List.filter_cons_of_pos (by rw [decide_eq_true_eq]; exact z), List.map_cons, List.map_cons, List.sum_cons, List.sum_cons, ih]
    · rw [List.filter_cons_of_neg (by rw [decide_eq_true_eq]; exact z), ih, List.map_cons, List.sum_cons]
      have := h p List.mem_cons_self
      omega
theorem sum_perm {l l' : List Int} (h : l.Perm l') : l.sum = l'.sum := by
  induction h with
  | nil => rfl
  | cons x _ ih => rw [List.sum_cons, List.sum_cons, ih]
  | swap x y l =>
    simp only [List.sum_cons]
    omega
  | trans _ _ h1 h2 => exact h1.trans h2
def gam (us : List W4) (b : B3) : Int := hiI us b.l b.e - b.m
theorem Two.gam (h : Two n us bs qs s dd kk) (wo : ∀ b ∈ bs, WshOk n b) (n1 : 1 ≤ n) : (qs.map (gam us)).sum = s := by
  rw [sum_perm (h.pm.map (K63.gam us)), List.map_append, List.sum_append]
  have key : ∀ east, ((nh us east (dd east) (kk east)).map (K63.gam us)).sum = 0 - dist (dd east) (n - 1) := fun east => by
    unfold nh
    rw [List.map_map]
    have e1 : (K63.gam us ∘ nh1 us east (dd east)) = sv (dd east) := by
      funext p
      show hiI us (aE east p) (bE east p) - (hiI us (aE east p) (bE east p) - sv (dd east) p) = _
      omega
    have rng := (h.sol east).kk.rng wo
    rw [e1, sum_filter fun p hp => (h.sol east).sv0 wo (rng p hp).1 (rng p hp).2, sum_sg (m := (n - 1).toNat) (h.sol east).kk.nd fun p hp => by have := rng p hp; omega, ← ((h.sol east).val wo n1).1]
    rfl
  rw [key, key, h.s]
  omega
def del1 (us : List W4) (qs : List B3) (u : W4) : Int := match fd qs u with
  | none => 0
  | some b => hiI us b.l b.e - b.m
theorem sum_one {us : List W4} {b : B3} {c : Int} (nd : (us.map W4.k).Nodup) {u : W4} (hu : u ∈ us) (e1 : u.s = b.l) (e2 : u.t = b.e) : (us.map fun v => if b.l = v.s ∧ b.e = v.t then c else 0).sum = c := by
  induction us with
  | nil => cases hu
  | cons v us ih =>
    rw [List.map_cons, List.nodup_cons] at nd
    rw [List.map_cons, List.sum_cons]
    by_cases z : b.l = v.s ∧ b.e = v.t
    · rw [if_pos z]
      have : (us.map fun v => if b.l = v.s ∧ b.e = v.t then c else 0) = us.map fun _ => 0 := List.map_congr_left fun x hx => if_neg fun y => nd.1 (List.mem_map.mpr ⟨x, hx, by show [x.s, x.t] = [v.s, v.t]; rw [← y.1, ← y.2, z.1, z.2]⟩)
      rw [this]
      have : ∀ l : List W4, (l.map fun _ => (0 : Int)).sum = 0 := fun l => by
        induction l with
        | nil => rfl
        | cons a l ih => rw [List.map_cons, List.sum_cons, ih]; rfl
      rw [this]
      omega
    · rw [if_neg z]
      rcases List.mem_cons.mp hu with rfl | hu
      · exact absurd ⟨e1.symm, e2.symm⟩ z
      · rw [ih nd.2 hu]
        omega
theorem sum_add2 {α : Type} (f g : α → Int) : ∀ l : List α, (l.map fun a => f a + g a).sum = (l.map f).sum + (l.map g).sum
  | [] => rfl
  | a :: l => by
    simp only [List.map_cons, List.sum_cons, sum_add2 f g l]
    omega
theorem sum_del {us : List W4} (nd : (us.map W4.k).Nodup) : ∀ {qs : List B3}, (qs.map B3.k).Nodup → (∀ b ∈ qs, ∃ u ∈ us, u.s = b.l ∧ u.t = b.e) → (us.map (del1 us qs)).sum = (qs.map (K63.gam us)).sum
  | [], _, _ => by
    have : ∀ l : List W4, (l.map (del1 us [])).sum = 0 := fun l => by
      induction l with
      | nil => rfl
      | cons a l ih => rw [List.map_cons, List.sum_cons, ih]; rfl
    rw [this]
    rfl
  | b :: qs, nq, hr => by
    rw [List.map_cons, List.nodup_cons] at nq
    obtain ⟨u, hu, e1, e2⟩ := hr b List.mem_cons_self
    have : del1 us (b :: qs) = fun v => (if b.l = v.s ∧ b.e = v.t then K63.gam us b else 0) + del1 us qs v := by
      funext v
      unfold del1 fd
      by_cases z : b.l = v.s ∧ b.e = v.t
      · rw [if_pos z, List.find?_cons_of_pos (by rw [z.1, z.2]; simp)]
        have : qs.find? (fun b => decide (b.l = v.s) && decide (b.e = v.t)) = none := by
          rw [List.find?_eq_none]
          intro c hc hz
          rw [Bool.and_eq_true, decide_eq_true_eq, decide_eq_true_eq] at hz
          exact nq.1 (List.mem_map.mpr ⟨c, hc, by show [c.l, c.e] = [b.l, b.e]; rw [hz.1, hz.2, z.1, z.2]⟩)
        rw [this]
        show hiI us b.l b.e - b.m = K63.gam us b + 0
        unfold K63.gam
        omega
      · rw [if_neg z, List.find?_cons_of_neg (by rw [Bool.and_eq_true, decide_eq_true_eq, decide_eq_true_eq]; exact z), Int.zero_add]
    rw [this, sum_add2, sum_one nd hu e1 e2, sum_del nd nq.2 fun c hc => hr c (List.mem_cons_of_mem _ hc), List.map_cons, List.sum_cons]
theorem sum_hi : ∀ {us : List W4} {vs : List W4} {f : W4 → Int}, vs.length = us.length → (∀ (i : Nat) u v, us[i]? = some u → vs[i]? = some v → (u.hi = none ↔ v.hi = none) ∧ u.hi.getD 0 - v.hi.getD 0 = f u) → (us.filterMap W4.hi).sum - (vs.filterMap W4.hi).sum = (us.map f).sum
  | [], [], _, _, _ => rfl
  | [], _ :: _, _, h, _ => nomatch h
  | _ :: _, [], _, h, _ => nomatch h
  | u :: us, v :: vs, f, hl, h => by
    have ih := sum_hi (us := us) (vs := vs) (f := f) (by simpa using hl) fun i a b ha hb => h (i + 1) a b ha hb
    obtain ⟨h1, h2⟩ := h 0 u v rfl rfl
    rw [List.map_cons, List.sum_cons]
    cases hu : u.hi with
    | none =>
      have hv := h1.mp hu
      rw [hu, hv] at h2
      rw [List.filterMap_cons_none hu, List.filterMap_cons_none hv, ih, ← h2]
      simp
    | some a =>
      cases hv : v.hi with
      | none => rw [h1.mpr hv] at hu; cases hu
      | some b =>
        rw [hu, hv] at h2
        simp only [Option.getD_some] at h2
        rw [List.filterMap_cons_some hu, List.filterMap_cons_some hv, List.sum_cons, List.sum_cons]
        omega
/-- the highs together fall by the whole saving -/
theorem Two.sum (h : Two n us bs qs s dd kk) (wo : ∀ b ∈ bs, WshOk n b) (nb : Nb n us) (n1 : 1 ≤ n) : (us.filterMap W4.hi).sum - ((us.map (up qs)).filterMap W4.hi).sum = s := by
  rw [← h.gam wo n1, ← sum_del nb.nd h.nd fun b hb => let ⟨u, hu, e1, e2, _⟩ := h.row wo nb hb; ⟨u, hu, e1, e2⟩]
  refine sum_hi (by rw [List.length_map]) fun i u v hu hv => ?_
  rw [List.getElem?_map, hu] at hv
  cases hv
  have hum := List.mem_of_getElem? hu
  unfold up del1
  cases hf : fd qs u with
  | none =>
    refine ⟨Iff.rfl, ?_⟩
    show u.hi.getD 0 - u.hi.getD 0 = 0
    omega
  | some c =>
    obtain ⟨hc, c1, c2⟩ := fd_mem hf
    obtain ⟨v, hv, e1, e2, e3, e4, _⟩ := h.row wo nb hc
    have l1 := lk_one nb.nd hum
    have l2 := lk_one nb.nd hv
    rw [e1, e2, c1, c2, l1] at l2
    cases l2
    rw [e3]
    exact ⟨⟨fun z => (nomatch z), fun z => (nomatch z)⟩, rfl⟩
end
end
section
set_option maxRecDepth 100000
set_option maxHeartbeats 1000000
open PySem PySem.Spec PyProof.Rows L2 VX MI
local macro_rules | `(tactic| walk_at "ms") => `(tactic| (walk_at "mm"; try simp only [MI.mSum]))
theorem is_int_m {i : Int} {q : X → Prop} (h : q (.bl true)) : Mrun 1 m_is_int [.int i] q := by
  unfold Mrun m_is_int
  walk_at "ms"
  rw [show isS "int" "int" = true from by decide +kernel, show isS "bool" "int" = false from by decide +kernel]
  exact h
section
variable {n s : Int} {us : List W4} {bs qs : List B3} {dd : Bool → SPR.DM} {kk : Bool → List Int}
theorem with_m (h : Two n us bs qs s dd kk) (wo : ∀ b ∈ bs, WshOk n b) (nb : Nb n us) (lu : us.length ≤ 1000) (lq : qs.length ≤ 1000) {q : X → Prop} (hq : q (.lst ((us.map (up qs)).map xW))) : Mrun 6 m_with [.lst (us.map xW), .lst (qs.map xB)] q := by
  unfold Mrun m_with
  walk_at "ms"
  refine forL_map (f := xW) (fun i env => ∃ y3 y4 y5, env = [.x (.lst (us.map xW)), .x (.lst (qs.map xB)), .o (((us.take i).map (up qs)).map xW), y3, y4, y5]) ⟨_, _, _, rfl⟩ (fun i u env N hu pv hN => ?_) fun env pv => ?_
  · obtain ⟨y3, y4, y5, rfl⟩ := pv
    have st : ((us.take (i + 1)).map (up qs)).map xW = ((us.take i).map (up qs)).map xW ++ [xW (up qs u)] := by
      rw [List.take_add_one, hu, List.map_append, List.map_append]
      rfl
    have ll : (us.take i).length < 100000 := by
      rw [List.length_take]
      omega
    have fin : ∀ y3 y4 y5, N [.x (.lst (us.map xW)), .x (.lst (qs.map xB)), .o (((us.take i).map (up qs)).map xW ++ [xW (up qs u)]), y3, y4, y5] := fun y3 y4 y5 => hN _ ⟨y3, y4, y5, by rw [st]⟩
    clear hN st
    rw [show xW u = .tup [.int u.s, .int u.t, .int u.lo, xO u.hi] from rfl]
    walk_at "ms"
    refine lcL_fm (h := fun b : B3 => if (decide (b.l = u.s) && decide (b.e = u.t)) = true then some (xB b) else none) (by simp; omega) (fun b hb A B hab => ?_) ?_
    · rw [show xB b = .tup [.int b.l, .int b.e, .int b.m] from rfl] at hab ⊢
      walk_at "ms"
      by_cases e1 : b.l = u.s
      · by_cases e2 : b.e = u.t
        · rw [if_pos (by rw [e1, e2]; simp)] at hab
          rw [if_pos e1, if_pos e2]
          exact hab
        · rw [if_neg (by simp [e2])] at hab
          rw [if_pos e1, if_neg e2]
          exact hab
      · rw [if_neg (by simp [e1])] at hab
        rw [if_neg e1]
        exact hab
    rw [fm_if (fun b : B3 => (decide (b.l = u.s) && decide (b.e = u.t)) = true), List.nil_append]
    have : (qs.filter fun b => decide ((decide (b.l = u.s) && decide (b.e = u.t)) = true)) = (fd qs u).toList := by
      rw [← fd_filter h.nd u]
      congr 1
      funext b
      rw [Bool.decide_eq_true]
    rw [this]
    cases hf : fd qs u with
    | none =>
      have e : up qs u = u := by unfold up; rw [hf]
      rw [e] at fin
      rw [show (none : Option B3).toList.map xB = [] from rfl]
      rw [if_pos (show ((([] : List X).length : Nat) : Int) = 0 from rfl)]
      exact ⟨ll, fin _ _ _⟩
    | some c =>
      obtain ⟨hc, c1, c2⟩ := fd_mem hf
      obtain ⟨v, hv, e1, e2, e3, e4, e5⟩ := h.row wo nb hc
      have l1 := lk_one nb.nd (List.mem_of_getElem? hu)
      have l2 := lk_one nb.nd hv
      rw [e1, e2, c1, c2, l1] at l2
      cases l2
      have e : xW (up qs u) = .tup [.int u.s, .int u.t, .int u.lo, .int c.m] := by unfold up; rw [hf]; rfl
      rw [e] at fin
      generalize hiI us c.l c.e = g at e3 e5
      rw [e3, show (some c).toList.map xB = [X.tup [.int c.l, .int c.e, .int c.m]] from rfl] 
      walk_at "ms"
      rw [if_neg (by decide), if_neg (by decide), if_pos e4, if_neg (not_not_intro e5)]
      exact ⟨ll, fin _ _ _⟩
  · obtain ⟨y3, y4, y5, rfl⟩ := pv
    rw [List.take_length]
    walk_at "ms"
    exact hq
end
def iaR : MS := (mSeq (mFor (mItS (mFz (mLst (mCons (mC (.bl true)) (mCons (mC (.bl false)) mNil))))) (mGn 8)
      (mIfS (mNot (mB (mCall 2 5 m_is_met (mCons (mCall 2 3 m_spans (mCons (mVar 2) (mCons (mVar 8) mNil))) (mCons (mFz (mLc (mItS (mCall 3 6 m_ways (mCons (mVar 7) (mCons (mVar 0) (mCons (mVar 8) mNil))))) (mGn 9) mYes (mOp mIx (mVarW 9) (mC (.int 1))) [9])) mNil))))) (mRet (mC (.bl false))) mNext))
      (mSeq (mSet 10 (mCB mSum (mCons (mFz (mLc (mItS (mVarW 1)) (mGn 6) (mB (mOp mNotN (mOp mIx (mVarW 6) (mC (.int 3))) (mC .non))) (mOp mIx (mVarW 6) (mC (.int 3))) [6])) mNil)))
      (mRet (mOp mEqU (mOp mSub (mVarW 10) (mCB mSum (mCons (mFz (mLc (mItS (mVarW 7)) (mGn 6) (mB (mOp mNotN (mOp mIx (mVarW 6) (mC (.int 3))) (mC .non))) (mOp mIx (mVarW 6) (mC (.int 3))) [6])) mNil))) (mVarW 4)))))
def iaE : MS := (mSeq (mIfS (mOr (mNot (mB (mIsi "tuple" (mVarW 5)))) (mB (mOp mNeU (mCB mLen (mCons (mVarW 5) mNil)) (mC (.int 3))))) (mRet (mC (.bl false))) mNext)
      (mSeq (mIfS (mOr (mNot (mB (mCall 1 1 m_is_int (mCons (mOp mIx (mVarW 5) (mC (.int 0))) mNil)))) (mOr (mNot (mB (mCall 1 1 m_is_int (mCons (mOp mIx (mVarW 5) (mC (.int 1))) mNil)))) (mNot (mB (mCall 1 1 m_is_int (mCons (mOp mIx (mVarW 5) (mC (.int 2))) mNil)))))) (mRet (mC (.bl false))) mNext)
      (mIfS (mB (mOp (mOr2 (mIn true) (mInD true)) (mTup (mCons (mOp mIx (mVarW 5) (mC (.int 0))) (mCons (mOp mIx (mVarW 5) (mC (.int 1))) mNil))) (mFz (mLc (mItS (mVarW 1)) (mGn 6) mYes (mTup (mCons (mOp mIx (mVarW 6) (mC (.int 0))) (mCons (mOp mIx (mVarW 6) (mC (.int 1))) mNil))) [6])))) (mRet (mC (.bl false))) mNext)))
theorem m_is_answer_eq : m_is_answer = (mSeq (mIfS (mOr (mNot (mB (mIsi "tuple" (mVarW 3)))) (mOr (mB (mOp mNeU (mCB mLen (mCons (mVarW 3) mNil)) (mC (.int 3)))) (mOr (mNot (mB (mCall 1 1 m_is_int (mCons (mOp mIx (mVarW 3) (mC (.int 0))) mNil)))) (mB (mOp mNeU (mOp mIx (mVarW 3) (mC (.int 0))) (mVarW 4)))))) (mRet (mC (.bl false))) mNext)
      (mSeq (mIfS (mNot (mB (mIsi "list" (mOp mIx (mVarW 3) (mC (.int 1)))))) (mRet (mC (.bl false))) mNext)
      (mSeq (mFor (mItS (mOp mIx (mVarW 3) (mC (.int 1)))) (mGn 5) iaE)
      (mSeq (mSet 7 (mCall 2 6 m_with (mCons (mVar 1) (mCons (mOp mIx (mVarW 3) (mC (.int 1))) mNil))))
      (mSeq (mIfS (mB (mOp mIsN (mVarW 7) (mC .non))) (mRet (mC (.bl false))) mNext) iaR))))) := rfl
section
variable {n s : Int} {us : List W4} {bs qs : List B3} {dd : Bool → SPR.DM} {kk : Bool → List Int}
theorem is_answer_m (h : Two n us bs qs s dd kk) (wo : ∀ b ∈ bs, WshOk n b) (nb : Nb n us) (n1 : 1 ≤ n) (n6 : n ≤ 6) (lu : us.length ≤ 1000) (lq : qs.length ≤ 1000) (lb : bs.length ≤ 1000) {z : X} {q : X → Prop} (hq : q (.bl true)) : Mrun 11 m_is_answer [.int n, .lst (us.map xW), .lst (bs.map xB), .tup [.int s, .lst (qs.map xB), z], .int s] q := by
  unfold Mrun
  rw [m_is_answer_eq]
  walk_at "ms"
  rw [if_neg (show ¬ (isS "tuple" "tuple" = false) by decide +kernel), if_neg (by decide)]
  refine is_int_m ?_
  show (if true = false then _ else if true = false then _ else if isS "list" "list" = false then _ else _)
  rw [if_neg (by decide), if_neg (by decide), if_neg (show ¬ (isS "list" "list" = false) by decide +kernel)]
  refine forL_map (f := xB) (fun i env => ∃ y5 y6, env = [.x (.int n), .x (.lst (us.map xW)), .x (.lst (bs.map xB)), .x (.tup [.int s, .lst (qs.map xB), z]), .x (.int s), y5, y6, .u, .u, .u, .u]) ⟨_, _, rfl⟩ (fun i b env N hb pv hN => ?_) fun env pv => ?_
  · obtain ⟨y5, y6, rfl⟩ := pv
    obtain ⟨u, hu, e1, e2, _⟩ := h.row wo nb (List.mem_of_getElem? hb)
    unfold iaE
    rw [show xB b = .tup [.int b.l, .int b.e, .int b.m] from rfl]
    walk_at "ms"
    rw [if_neg (show ¬ (isS "tuple" "tuple" = false) by decide +kernel), if_neg (by decide)]
    refine is_int_m ?_
    show (if true = false then _ else Mrun 1 m_is_int _ _)
    rw [if_neg (by decide)]
    refine is_int_m ?_
    show (if true = false then _ else Mrun 1 m_is_int _ _)
    rw [if_neg (by decide)]
    refine is_int_m ?_
    show (if true = false then _ else _)
    rw [if_neg (by decide)]
    refine lcL_map (h := fun u : W4 => xP (u.s, u.t)) (by omega) (fun u hu A B hab => ?_) ?_
    · rw [show xW u = .tup [.int u.s, .int u.t, .int u.lo, xO u.hi] from rfl]
      walk_at "ms"
      exact hab
    rw [show us.map (fun u : W4 => xP (u.s, u.t)) = (us.map fun u => (u.s, u.t)).map xP by rw [List.map_map]; rfl]
    refine inP ?_
    rw [decide_eq_true (show (b.l, b.e) ∈ us.map fun u => (u.s, u.t) from List.mem_map.mpr ⟨u, hu, by rw [e1, e2]⟩)]
    walk_at "ms"
    exact hN _ ⟨_, _, rfl⟩
  · obtain ⟨y5, y6, rfl⟩ := pv
    walk_at "ms"
    refine with_m h wo nb lu lq ?_
    walk_at "ms"
    unfold iaR
    walk_at "ms"
    have un := h.upNb wo nb
    show forL _ _ _ ([true, false].map X.bl) _
    refine forL_map (f := X.bl) (fun i env => ∃ y8 y9, env = [.x (.int n), .x (.lst (us.map xW)), .x (.lst (bs.map xB)), .x (.tup [.int s, .lst (qs.map xB), z]), .x (.int s), y5, y6, .x (.lst ((us.map (up qs)).map xW)), y8, y9, .u]) ⟨_, _, rfl⟩ (fun i east env N hb pv hN => ?_) fun env pv => ?_
    · obtain ⟨y8, y9, rfl⟩ := pv
      walk_at "ms"
      refine spans_m lb ?_
      refine ways_m n1 (by omega) (by rw [List.length_map]; omega) ?_
      rw [wys_nb un _ (by omega)]
      walk_at "ms"
      refine lcL_map (h := fun p => X.int (hiN (us.map (up qs)) east p)) (by rw [List.length_range]; omega) (fun p hp A B hab => ?_) ?_
      · rw [show xY (loN (us.map (up qs)) east) (hiN (us.map (up qs)) east) p = .tup [.int (loN (us.map (up qs)) east p), .int (hiN (us.map (up qs)) east p)] from rfl]
        walk_at "ms"
        exact hab
      rw [show (List.range (n - 1).toNat).map (fun p => X.int (hiN (us.map (up qs)) east p)) = ((List.range (n - 1).toNat).map (hiN (us.map (up qs)) east)).map X.int by rw [List.map_map]; rfl]
      have sm : ∀ b ∈ spns bs east, 0 ≤ b.l ∧ b.l < b.e ∧ b.e ≤ ((n - 1).toNat : Int) := fun b hb => by
        obtain ⟨c, hc, _, rfl⟩ := mem_spns hb
        obtain ⟨a1, a2, ne, _⟩ := wo c hc
        show 0 ≤ min c.l c.e ∧ min c.l c.e < max c.l c.e ∧ max c.l c.e ≤ _
        omega
      have hM : Met (hiN (us.map (up qs)) east) (spns bs east) := fun b hb => by
        have h1 := (h.sol east).met wo b hb
        obtain ⟨b0, b1, b2⟩ := sm b hb
        have e : ∀ k : Nat, (k : Int) ≤ n - 1 → Sg (hiN (us.map (up qs)) east) k = Sg (fun p => hiN us east p - sav (dd east) (kk east) p) k := fun k hk => Sg_congr fun p hp => h.hi wo nb east p (by omega)
        rw [e _ (by omega), e _ (by omega)]
        exact h1
      refine is_met_m sm (fun _ => ?_) fun hn => absurd hM hn
      walk_at "ms"
      exact hN _ ⟨_, _, rfl⟩
    · obtain ⟨y8, y9, rfl⟩ := pv
      walk_at "ms"
      have hs : ∀ (vs : List W4), vs.filterMap (fun u : W4 => u.hi.map X.int) = (vs.filterMap W4.hi).map X.int := fun vs => by
        induction vs with
        | nil => rfl
        | cons v vs ih =>
          cases hv : v.hi with
          | none => rw [List.filterMap_cons_none hv, List.filterMap_cons_none (by rw [hv]; rfl), ih]
          | some g => rw [List.filterMap_cons_some hv, List.filterMap_cons_some (b := X.int g) (by rw [hv]; rfl), ih, List.map_cons]
      refine lcL_fm (h := fun u : W4 => u.hi.map X.int) (by simp; omega) (fun u hu A B hab => ?_) ?_
      · rw [show xW u = .tup [.int u.s, .int u.t, .int u.lo, xO u.hi] from rfl]
        cases hv : u.hi with
        | none =>
          rw [hv] at hab
          walk_at "ms"
          exact hab
        | some g =>
          rw [hv] at hab
          walk_at "ms"
          exact hab
      rw [hs, List.nil_append]
      refine ⟨_, rfl, ?_⟩
      refine lcL_fm (h := fun u : W4 => u.hi.map X.int) (by simp; omega) (fun u hu A B hab => ?_) ?_
      · rw [show xW u = .tup [.int u.s, .int u.t, .int u.lo, xO u.hi] from rfl]
        cases hv : u.hi with
        | none =>
          rw [hv] at hab
          walk_at "ms"
          exact hab
        | some g =>
          rw [hv] at hab
          walk_at "ms"
          exact hab
      rw [hs, List.nil_append]
      refine ⟨_, rfl, ?_⟩
      rw [h.sum wo nb n1, decide_eq_true rfl]
      exact hq
end
end
section
set_option maxRecDepth 100000
set_option maxHeartbeats 1000000
open PySem PySem.Spec PyProof.Rows L2 VX MI
local macro_rules | `(tactic| walk_at "cl") => `(tactic| exact Txt.cl_Line (by assumption))
local macro_rules | `(tactic| walk_at "na") => `(tactic| first | exact Txt.na_Line_size (by assumption) | exact Txt.na_Line__spans (by assumption) | exact Txt.na_Line__mosts (by assumption))
/-! ### the order of the wires does not count -/
theorem lk_perm {us ws : List W4} (pm : us.Perm ws) (nd : (ws.map W4.k).Nodup) (a b : Int) : lk us a b = lk ws a b := by
  have nu : (us.map W4.k).Nodup := (pm.map W4.k).nodup_iff.mpr nd
  cases h : lk ws a b with
  | none =>
    unfold lk at h ⊢
    rw [List.find?_eq_none] at h ⊢
    exact fun x hx => h x (pm.mem_iff.mp hx)
  | some u =>
    have h1 := List.mem_of_find?_eq_some h
    have h2 := List.find?_some h
    rw [Bool.and_eq_true, decide_eq_true_eq, decide_eq_true_eq] at h2
    have := lk_one nu (pm.mem_iff.mpr h1)
    rwa [h2.1, h2.2] at this
theorem hi_perm {us ws : List W4} (pm : us.Perm ws) (nd : (ws.map W4.k).Nodup) : hiI us = hiI ws := by
  funext a b
  unfold hiI
  rw [lk_perm pm nd]
theorem lo_perm {us ws : List W4} (pm : us.Perm ws) (nd : (ws.map W4.k).Nodup) : loI us = loI ws := by
  funext a b
  unfold loI
  rw [lk_perm pm nd]
theorem bnds_perm {us ws : List W4} {n : Int} {bs : List B3} {ks : List Int} {east : Bool} (pm : us.Perm ws) (nd : (ws.map W4.k).Nodup) : bnds n us bs ks east = bnds n ws bs ks east := by
  have e1 : cp us east = cp ws east := by
    funext p
    unfold cp
    rw [hi_perm pm nd, lo_perm pm nd]
  have e2 : wb us east = wb ws east := by
    funext z
    unfold wb present
    rw [hi_perm pm nd]
  unfold bnds
  rw [e1, e2]
theorem Sol.perm {us ws : List W4} {n : Int} {bs : List B3} {ks : List Int} {east : Bool} {d : SPR.DM} (h : Sol n us bs east ks d) (pm : us.Perm ws) (nd : (ws.map W4.k).Nodup) : Sol n ws bs east ks d :=
  ⟨h.kk, bnds_perm pm nd ▸ h.sw, bnds_perm pm nd ▸ h.cl⟩
theorem Two.perm {us ws : List W4} {n s : Int} {bs qs : List B3} {dd : Bool → SPR.DM} {kk : Bool → List Int} (h : Two n us bs qs s dd kk) (pm : us.Perm ws) (nd : (ws.map W4.k).Nodup) : Two n ws bs qs s dd kk := by
  refine ⟨fun e => (h.sol e).perm pm nd, ?_, h.s⟩
  have e1 : ∀ e, nh1 us e (dd e) = nh1 ws e (dd e) := fun e => by
    funext p
    unfold nh1
    rw [hi_perm pm nd]
  have := h.pm
  unfold nh at this ⊢
  rwa [e1, e1] at this
theorem StrOk.perm {us ws : List W4} {n : Int} (h : StrOk n ws) (pm : us.Perm ws) : StrOk n us :=
  ⟨⟨fun u hu => h.w.w u (pm.mem_iff.mp hu), (pm.map W4.k).nodup_iff.mpr h.w.nd⟩, by rw [pm.length_eq]; exact h.len, fun a b a0 a1 b0 b1 e => let ⟨u, hu, r⟩ := h.nb a b a0 a1 b0 b1 e; ⟨u, pm.mem_iff.mpr hu, r⟩⟩
section
variable {w : World} {K : PySem.W.Frag} {mg : Str → Option Value} {base : Heap} {A : Adr}
theorem i_callSS {sp : Sp} {E : L2.St → XK} {t : TA} {σ : L2.St} {H : Hp} {Q : VK} (q : t σ H fun vs H1 => sp vs H1 Q (E σ)) : tCallS sp E t σ H Q := q
theorem b0_Line (T : Txt K mg A) : ∃ ds, Vals [V.ref A.e_bounds] ds ∧ Binds K A.d_Line_init ["self", "size", "wires", "bounds"] ds :=
  T.D_Line_init.binds0 3 (by intro h; cases h) rfl fun D doc pm an cdv ct us ks h1 h2 => match us, ks, h1, h2 with | [_, _, _], [_], _, _ => ⟨_, _, _, _, _, _, rfl, rfl, rfl⟩
theorem sq_bounds (T : Txt K mg A) (H : Hp) : SqT K H A.e_bounds [] := by
  obtain ⟨o, n, h1, h2, h3⟩ := T.q_bounds
  exact .inr ⟨o, #[], n, h1, h2, h3, by decide, .nil⟩
theorem i_makeD {C : Addr} {sp : Sp} {E : XK} {t : TA} {dvs : List V} {σ : L2.St} {H : Hp} {Q : VK} (q : t σ H fun vs H1 => ∀ x dx, H1 x = none → H1 dx = none → dx ≠ x → sp (.ref x :: (vs ++ dvs)) (upd (upd H1 dx (.own x)) x (.ins C dx [])) (fun v H2 => v = .non ∧ Q (.ref x) H2) E) : tMake C sp dvs E t σ H Q := q
/-- what stands when a line is made -/
theorem i_lineI {F H : Hp} {Q : VK} {E : XK} {x dx a b : Addr} {n m k : Int} {xs ys : List V} {ws : List W4} {bs : List B3} (nx : H x = none) (nd : H dx = none) (ne : dx ≠ x) (e : Same F H) (n1 : 1 ≤ n) (ha : SqA K F a xs) (hx : DpAll K F xs (ws.map W4.d)) (hw : WOk n m ws) (lw : ws.length ≤ 100)
    (hb : SqA K H b ys) (hy : DpAll K F ys (bs.map B3.d)) (hbo : BOk n k bs) (lb : bs.length ≤ 100)
    (q : ∀ H' us cs, us.Perm ws → us.Pairwise (fun x y => lexL y.k x.k = false) → cs.Perm bs → cs.Pairwise (fun x y => lexL y.k x.k = false) → Same H H' → IsLine A.c_Line H' x n us cs → Q .non H') :
    spLineI A K [.ref x, .int n, .ref a, .ref b] (upd (upd H dx (.own x)) x (.ins A.c_Line dx [])) Q E :=
  ⟨H, x, dx, a, b, n, m, k, xs, ys, ws, bs, rfl, ((Cxs.start H).fresh (.own x) nd).push _ ((upd_ne (Ne.symm ne)).trans nx), n1, ha.mono e, hx.mono e, hw, lw, hb, hy.mono e, hbo, lb, q⟩
def spLq (A : Adr) (K : PySem.W.Frag) : Sp := fun vs H Q _ => ∃ (x a : Addr) (n : Int) (us : List W4) (cs : List B3) (xs : List V) (bs : List B3), vs = [.ref x, .ref a] ∧ IsLine A.c_Line H x n us cs ∧ us.length ≤ 1000 ∧ 1 ≤ n ∧ n ≤ 100 ∧ Nb n us ∧ SqL K H a xs ∧ DpAll K H xs (bs.map B3.d) ∧ bs.length ≤ 100 ∧ (∀ b ∈ bs, WshOk n b) ∧
  (∀ (s : Int) (r : List B3) (T1 Tt L R : Addr) (ys : List V) (qs : List B3) (H' : Hp), Stg n us bs 2 s r → qs.Perm r → Same H H' → H L = none → H' T1 = some (.tup [.str "told", .ref Tt]) → H' Tt = some (.tup [.int s, .ref L, .ref R]) → H' L = some (.lst ys) → DpAll K (del H' L) ys (qs.map B3.d) → Q (.ref T1) H') ∧
  (∀ east ks, KS n bs east ks → (∀ p, ¬ SPR.Feas (bnds n us bs ks east) p) → (east = false → ∃ k2 d2, Sol n us bs true k2 d2) → ∀ T1 H', Same H H' → H' T1 = some (.tup [.str "none", .bl east]) → Q (.ref T1) H')
theorem ok_lw_quicken (T : Txt K mg A) : FnOk P w K mg base CX0 9 A.f_lw_quicken A.d_lw_quicken ["_law_line", "_law_wishes_here"] (spLq A K) := by
  refine T.F_lw_quicken.ok sc_lw_quicken (fun vs H Q E h => ?_) (fun cdv A' outer s H vs Q E hr h => ?_)
  · obtain ⟨x, a, n, us, cs, xs, bs, rfl, _⟩ := h
    rfl
  · obtain ⟨x, a, n, us, cs, xs, bs, rfl, hl, lu, n1, n9, nb, ha, hx, lb, wo, q, qe⟩ := h
    refine ⟨_, pss_one (ps_try_as2 (i := 2) (tb := _) (Wout := fun _ _ _ _ => False) rfl rfl sc_lw_quicken.nd rfl rfl takes0
      (fun W pn xe tk _ => pss_one (ps_ret (pe_tup (pa_cons pe_str (pa_cons (pe_callS (ok_quicken T) (hr.mono (by decide)) (by rfl) T.g_quicken T.F_quicken.kp (b_quicken T) (fun σ => passAt tk σ) (pa_cons (pv 0) (pa_cons (pv 1) pa_nil))) pa_nil)))))
      (.cons ⟨rfl, by decide, Or.inl T.g_CannotQuicken⟩ (fun a oe cls d pn hz hf => pss_one (ps_ret (pe_tup (pa_cons pe_str (pa_cons (pe_xf T.xf_CannotQuicken T.nb_CannotQuicken_east hz hf (pv 2)) pa_nil))))) .nil)), ?_⟩
    refine i_start (σ' := [some (V.ref x), some (.ref a), none]) rfl ?_
    walk_at "vc"
    refine i_callSS ?_
    walk_at "vc"
    refine ⟨x, a, n, us, cs, xs, bs, rfl, hl, lu, n1, n9, nb, ha, hx, lb, wo, fun s r Tt L R ys qs H' stg pm e nL hT hL hy => ?_, fun east ks kk nf hf d H' fs nd e hlk hd => ?_⟩
    · walk_at "vc"
      refine ⟨lenB rfl, fun T1 n1' => ?_⟩
      have s1 := same_new (o := HO.tup [V.str "told", .ref Tt]) n1'
      refine q s r T1 Tt L R ys qs _ stg pm (e.trans s1) nL upd_same (s1 _ _ hT) (s1 _ _ hL) (hy.mono fun b o hb => ?_)
      by_cases z : b = L
      · rw [z, del_same] at hb
        cases hb
      · rw [del_ne z] at hb ⊢
        exact s1 _ _ hb
    · refine ⟨true, T.exm_CannotQuicken_CannotQuicken, fun _ y hy => ?_, fun z => Bool.noConfusion z⟩
      walk_at "vc"
      refine i_xf (fs := fs) rfl hd hlk ?_
      walk_at "vc"
      refine ⟨lenB rfl, fun T1 nT => ?_⟩
      exact qe east ks kk nf hf T1 _ (e.trans (same_new nT)) upd_same
end
end
section
set_option maxRecDepth 100000
set_option maxHeartbeats 1000000
open PySem PySem.Spec PyProof.Rows L2 VX MI
/-! ### the law's data, read -/
theorem eqv_b3 (b : B3) : PyData.eqv b.d b.d = true := by
  show PyData.eqvAll [.int b.l, .int b.e, .int b.m] [.int b.l, .int b.e, .int b.m] = true
  simp [PyData.eqvAll, PyData.eqv]
theorem eqv_b3s : ∀ bs : List B3, PyData.eqvAll (bs.map B3.d) (bs.map B3.d) = true
  | [] => rfl
  | b :: bs => by
    show (PyData.eqv b.d b.d && PyData.eqvAll (bs.map B3.d) (bs.map B3.d)) = true
    rw [eqv_b3, eqv_b3s bs]
    rfl
theorem lay_b3s : ∀ bs : List B3, PyData.canLayAll0 (bs.map B3.d) = true
  | [] => rfl
  | b :: bs => by
    show (b.d.canLay0 && PyData.canLayAll0 (bs.map B3.d)) = true
    rw [lay_b3s bs]
    rfl
theorem depth_b3s : ∀ bs : List B3, PyData.depthAll (bs.map B3.d) ≤ 1
  | [] => by decide
  | b :: bs => by
    show max b.d.depth (PyData.depthAll (bs.map B3.d)) ≤ 1
    have h1 : b.d.depth = 1 := by simp [B3.d, PyData.depth, PyData.depthAll]
    have := depth_b3s bs
    omega
theorem shaped_b3s (bs : List B3) : SeqAt.shaped (.list (bs.map B3.d)) = true := by
  refine Bool.and_eq_true_iff.mpr ⟨lay_b3s bs, decide_eq_true ?_⟩
  show PyData.depthAll (bs.map B3.d) + 1 ≤ 64
  have := depth_b3s bs
  omega
theorem i_neB {K : PySem.W.Frag} {H : Hp} {Q : VK} {a b : Addr} {xs ys : List V} {bs : List B3} (ha : SqL K H a xs) (hx : DpAll K H xs (bs.map B3.d)) (hb : SqL K H b ys) (hy : DpAll K H ys (bs.map B3.d)) (q : Q (.bl false) H) : rNeD K (.ref a) (.ref b) H Q :=
  ⟨_, _, .lst ha hx, .lst hb hy, shaped_b3s bs, shaped_b3s bs, by
    rw [show PyData.eqv (.list (bs.map B3.d)) (.list (bs.map B3.d)) = true from eqv_b3s bs]
    exact q⟩
section
variable {K : PySem.W.Frag}
theorem rd_oV' {S : Addr → Prop} {F : Hp} {v : V} {o : Option Int} (h : Rv K S F v (xO o)) : v = oV o := by
  cases o with
  | none => cases h; rfl
  | some i => cases h; rfl
theorem ofL_mapM {α : Type} (f : α → PyData) (g : α → X) (h : ∀ a, X.of (f a) = g a) : ∀ l : List α, ofL (l.map f) = l.map g
  | [] => rfl
  | a :: l => by
    show X.of (f a) :: ofL (l.map f) = g a :: l.map g
    rw [h a, ofL_mapM f g h l]
theorem rvw_of {S : Addr → Prop} {F : Hp} {vs : List V} {us : List W4} (h : DpAll K F vs (us.map W4.d)) : RvL K S F vs (us.map xW) := by
  have := RvL_of (S := S) h
  rwa [ofL_mapM W4.d xW (fun u => by
    obtain ⟨s, t, lo, hi⟩ := u
    cases hi <;> rfl) us] at this
theorem rvb_of {S : Addr → Prop} {F : Hp} {vs : List V} {bs : List B3} (h : DpAll K F vs (bs.map B3.d)) : RvL K S F vs (bs.map xB) := by
  have := RvL_of (S := S) h
  rwa [ofL_mapM B3.d xB (fun _ => rfl) bs] at this
def dY (lo hi : Nat → Int) (p : Nat) : PyData := .tuple [.int (lo p), .int (hi p)]
theorem rvy_of {S : Addr → Prop} {F : Hp} {vs : List V} {lo hi : Nat → Int} {l : List Nat} (h : DpAll K F vs (l.map (dY lo hi))) : RvL K S F vs (l.map (xY lo hi)) := by
  have := RvL_of (S := S) h
  rwa [ofL_mapM (dY lo hi) (xY lo hi) (fun _ => rfl) l] at this
theorem rdl_ws {S : Addr → Prop} {F : Hp} : ∀ {vs : List V} {us : List W4}, RvL K S F vs (us.map xW) → DpAll K F vs (us.map W4.d)
  | _, [], .nil => .nil
  | _, u :: us, .cons h t => by
    refine .cons ?_ (rdl_ws t)
    obtain ⟨s, tt, lo, hi⟩ := u
    unfold xW at h
    cases h with
    | tup h1 h2 =>
    cases h2 with
    | cons a1 h2 =>
    cases h2 with
    | cons a2 h2 =>
    cases h2 with
    | cons a3 h2 =>
    cases h2 with
    | cons a4 h2 =>
    cases h2
    cases a1
    cases a2
    cases a3
    rw [rd_oV' a4] at h1
    exact .tup h1 (.cons (.int _) (.cons (.int _) (.cons (.int _) (.cons oD_dp .nil))))
theorem rdl_bs {S : Addr → Prop} {F : Hp} : ∀ {vs : List V} {bs : List B3}, RvL K S F vs (bs.map xB) → DpAll K F vs (bs.map B3.d)
  | _, [], .nil => .nil
  | _, b :: bs, .cons h t => by
    refine .cons ?_ (rdl_bs t)
    obtain ⟨l, e, m⟩ := b
    unfold xB at h
    cases h with
    | tup h1 h2 =>
    cases h2 with
    | cons a1 h2 =>
    cases h2 with
    | cons a2 h2 =>
    cases h2 with
    | cons a3 h2 =>
    cases h2
    cases a1
    cases a2
    cases a3
    exact .tup h1 (.cons (.int _) (.cons (.int _) (.cons (.int _) .nil)))
theorem rdl_ys {S : Addr → Prop} {F : Hp} {lo hi : Nat → Int} : ∀ {vs : List V} {l : List Nat}, RvL K S F vs (l.map (xY lo hi)) → DpAll K F vs (l.map (dY lo hi))
  | _, [], .nil => .nil
  | _, p :: l, .cons h t => by
    refine .cons ?_ (rdl_ys t)
    have h : Rv K S F _ (.tup [.int (lo p), .int (hi p)]) := h
    cases h with
    | tup h1 h2 =>
    cases h2 with
    | cons a1 h2 =>
    cases h2 with
    | cons a2 h2 =>
    cases h2
    cases a1
    cases a2
    exact .tup h1 (.cons (.int _) (.cons (.int _) .nil))
theorem wd_cx {F H : Hp} {p : Addr} {c n r : Int} (x : Cxs F [(p, pen c n r)] H) : (⟨fun b => b = p, F, H⟩ : Wd).Ok := ⟨x.e, fun q hq => by
  have hq : q = p := hq
  subst hq
  exact ⟨x.nF 0 rfl, _, _, _, x.at 0 rfl⟩⟩
theorem cx_wd {F H : Hp} {p : Addr} {w1 : Wd} (e : Ev ⟨fun b => b = p, F, H⟩ w1) : ∃ c n r : Int, Cxs w1.F [(p, pen c n r)] w1.H := by
  obtain ⟨nF, c1, n1, r1, hp⟩ := e.ok.2 p (e.s p rfl)
  exact ⟨c1, n1, r1, Cxs.of1 ⟨e.ok.1, nF, hp⟩⟩
def w0 (F H : Hp) : Wd := ⟨fun _ => False, F, H⟩
theorem w0_ok {F H : Hp} (e : Same F H) : (w0 F H).Ok := ⟨e, fun _ h => h.elim⟩
theorem w0_same {F H : Hp} {w' : Wd} (e : Ev (w0 F H) w') : Same H w'.H := fun b o h => e.h b o h id
theorem i_penX {F H : Hp} {T : List (Addr × HO)} {Q : VK} {E : XK} {s : Addr} {k : Int} {ns : List Int} (x : Cxs F T H) (hs : SqL K H s (ns.map V.int)) (h0 : 0 ≤ k) (h1 : k ≤ 1000)
    (q : ∀ (z : Int) p H', Cxs F ((p, pen z 0 z) :: T) H' → Same H H' → Q (.ref p) H') : spPen K [.ref s, .int k] H Q E := ⟨s, k, ns, rfl, hs, h0, h1, fun z p np => q z p _ (x.push _ np) (same_new np)⟩
/-- the law's list of ways, its spans and its least, as calls -/
theorem c_ways {H : Hp} {Q : VK} {E : XK} {a : Addr} {xs : List V} {ws : List W4} {n : Int} {east : Bool} (ha : SqL K H a xs) (hx : DpAll K H xs (ws.map W4.d)) (so : StrOk n ws) (n1 : 1 ≤ n) (n6 : n ≤ 6)
    (q : ∀ b ys H', Same H H' → SqL K H' b ys → DpAll K H' ys ((List.range (n - 1).toNat).map (dY (loN ws east) (hiN ws east))) → Q (.ref b) H') : spM K 3 6 m_ways [.ref a, .int n, .bl east] H Q E := by
  refine ⟨w0 H H, [.lst (ws.map xW), .int n, .bl east], fun x => x = .lst ((List.range (n - 1).toNat).map (xY (loN ws east) (hiN ws east))), rfl, w0_ok (Same.refl _), .cons (.lst ha (rvw_of hx)) (.cons (.int _) (.cons (.bl _) .nil)), rfl, ?_, fun x1 v1 w1 hx1 e1 r1 => ?_⟩
  · refine ways_m n1 (by omega) (by have := so.len; omega) ?_
    rw [wys_nb so.Nb _ (by omega)]
  · subst hx1
    cases r1 with
    | @lst b ys _ hb hy =>
    exact q b ys w1.H (w0_same e1) (e1.ok.1.seq hb) ((rdl_ys hy).mono e1.ok.1)
theorem c_spans {H : Hp} {Q : VK} {E : XK} {a : Addr} {xs : List V} {bs : List B3} {east : Bool} (ha : SqL K H a xs) (hx : DpAll K H xs (bs.map B3.d)) (lb : bs.length ≤ 1000)
    (q : ∀ b ys H', Same H H' → SqL K H' b ys → DpAll K H' ys ((spns bs east).map B3.d) → Q (.ref b) H') : spM K 2 3 m_spans [.ref a, .bl east] H Q E := by
  refine ⟨w0 H H, [.lst (bs.map xB), .bl east], fun x => x = .lst ((spns bs east).map xB), rfl, w0_ok (Same.refl _), .cons (.lst ha (rvb_of hx)) (.cons (.bl _) .nil), rfl, spans_m lb rfl, fun x1 v1 w1 hx1 e1 r1 => ?_⟩
  subst hx1
  cases r1 with
  | @lst b ys _ hb hy =>
  exact q b ys w1.H (w0_same e1) (e1.ok.1.seq hb) ((rdl_bs hy).mono e1.ok.1)
theorem c_least {H : Hp} {Q : VK} {E : XK} {a b : Addr} {xs ys : List V} {ws : List W4} {bs : List B3} {n : Int} {east : Bool} (ha : SqL K H a xs) (hx : DpAll K H xs ((List.range (n - 1).toNat).map (dY (loN ws east) (hiN ws east)))) (hb : SqL K H b ys) (hy : DpAll K H ys ((spns bs east).map B3.d))
    (so : StrOk n ws) (wo : ∀ b ∈ bs, WshOk n b) (n1 : 1 ≤ n) (n6 : n ≤ 6) (lb : bs.length ≤ 1000)
    (q : ∀ r H', Same H H' → IsLst (n - 1).toNat (loN ws east) (hiN ws east) (spns bs east) r → Q (oV r) H') : spM K 2 14 m_least [.ref a, .ref b] H Q E := by
  have sm : ∀ b ∈ spns bs east, 0 ≤ b.l ∧ b.l < b.e ∧ b.e ≤ ((n - 1).toNat : Int) := fun b hb => by
    obtain ⟨c, hc, _, rfl⟩ := mem_spns hb
    obtain ⟨a1, a2, ne, _⟩ := wo c hc
    show 0 ≤ min c.l c.e ∧ min c.l c.e < max c.l c.e ∧ max c.l c.e ≤ _
    omega
  have ls : (spns bs east).length ≤ 1000 := by
    unfold spns
    rw [List.length_map]
    exact Nat.le_trans (List.length_filter_le _ _) lb
  refine ⟨w0 H H, [.lst ((List.range (n - 1).toNat).map (xY (loN ws east) (hiN ws east))), .lst ((spns bs east).map xB)], fun x => ∃ r, x = xO r ∧ IsLst (n - 1).toNat (loN ws east) (hiN ws east) (spns bs east) r, rfl, w0_ok (Same.refl _), .cons (.lst ha (rvy_of hx)) (.cons (.lst hb (rvb_of hy)) .nil), rfl,
    least_m (by omega) sm (fun p hp => ⟨(so.bd east p (by omega)).2.1, (so.bd east p (by omega)).2.2.1⟩) ls fun r hr => ⟨r, rfl, hr⟩, fun x1 v1 w1 hx1 e1 r1 => ?_⟩
  obtain ⟨r, rfl, hr⟩ := hx1
  rw [rd_oV' r1]
  exact q r w1.H (w0_same e1) hr
end
end
section
set_option maxRecDepth 100000
set_option maxHeartbeats 1000000
open PySem PySem.Spec PyProof.Rows L2 VX MI
local macro_rules | `(tactic| walk_at "cl") => `(tactic| exact Txt.cl_Line (by assumption))
local macro_rules | `(tactic| walk_at "na") => `(tactic| first | exact Txt.na_Line_size (by assumption) | exact Txt.na_Line__spans (by assumption) | exact Txt.na_Line__mosts (by assumption))
section
variable {w : World} {K : PySem.W.Frag} {mg : Str → Option Value} {base : Heap} {A : Adr}
theorem dpa_take {H : Hp} : ∀ {vs : List V} {ds : List PyData} (k : Nat), DpAll K H vs ds → DpAll K H (vs.take k) (ds.take k)
  | _, _, 0, _ => by
    rw [List.take_zero, List.take_zero]
    exact .nil
  | _, _, _ + 1, .nil => .nil
  | _, _, k + 1, .cons h t => .cons h (dpa_take k t)
theorem cut_last {vs : List V} : cutV vs none (some (-1)) = vs.take (vs.length - 1) := by
  unfold cutV HT.sIx
  show (vs.drop 0).take ((if (-1 : Int) < 0 then ((-1 : Int) + (vs.length : Int)).toNat else _) - 0) = _
  rw [if_pos (by decide), List.drop_zero, Nat.sub_zero]
  congr 1
  omega
/-- one wish an hour looser -/
def lsr (b : B3) : B3 := ⟨b.l, b.e, b.m + 1⟩
def spLaw (K : PySem.W.Frag) : Sp := fun vs H Q _ => ∃ (s : Addr) (ks : List Int), vs = [.ref s] ∧ SqL K H s (ks.map V.int) ∧ ∀ H', Q (.bl true) H'
theorem ok_law (T : Txt K mg A) : FnOk P w K mg base CX0 14 A.f_law A.d_law ["_law_script"] (spLaw K) := by
  refine T.F_law.ok sc_law (fun vs H Q E h => ?_) (fun cdv A' outer s H vs Q E hr h => ?_)
  · obtain ⟨a, ks, rfl, _⟩ := h
    rfl
  · obtain ⟨a0, ks, rfl, ha, q⟩ := h
    obtain ⟨dsl, hvd, hbd⟩ := b0_Line T
    refine ⟨_, (pss_cons (ps_set (i := 1) sc_law.nd rfl (Or.inl rfl) (pe_call (ok_pen T) (hr.mono (by decide)) (by rfl) T.g_pen T.F_pen.kp (b_pen T) .nil pass0 (pa_cons (pv 0) (pa_cons pe_int pa_nil))))
      (pss_cons (ps_set (i := 2) sc_law.nd rfl (Or.inl rfl) (pe_ix (r := rIxL K) ix_list (pe_lst (pa_cons pe_int (pa_cons pe_int (pa_cons pe_int (pa_cons pe_int (pa_cons pe_int (pa_cons pe_int (pa_cons pe_int (pa_cons pe_int pa_nil))))))))) (pe_call (ok_take T) (hr.mono (by decide)) (by rfl) T.g_take T.F_take.kp (b_take T) .nil pass0 (pa_cons (pv 1) (pa_cons pe_int pa_nil))) (fun _ _ => rfl)))
      (pss_cons (ps_set (i := 3) sc_law.nd rfl (Or.inl rfl) (pe_call (om_lw_stretch T) (hr.mono (by decide)) (by rfl) T.g_lw_stretch T.F_lw_stretch.kp (b_lw_stretch T) .nil pass0 (pa_cons (pv 1) (pa_cons (pv 2) pa_nil))))
      (pss_cons (ps_set (i := 4) sc_law.nd rfl (Or.inl rfl) (pe_call (om_wishes T) (hr.mono (by decide)) (by rfl) T.g_wishes T.F_wishes.kp (b_wishes T) .nil pass0 (pa_cons (pe_call (ok_pen T) (hr.mono (by decide)) (by rfl) T.g_pen T.F_pen.kp (b_pen T) .nil pass0 (pa_cons (pv 0) (pa_cons pe_int pa_nil))) (pa_cons (pv 2) (pa_cons (pv 3) pa_nil)))))
      (pss_cons (ps_set (i := 5) sc_law.nd rfl (Or.inl rfl) (pe_make T.M_Line (ok_Line_init T) (hr.mono (by decide)) (by rfl) T.g_Line hbd hvd pass0 (pa_cons (pv 2) (pa_cons (pe_callTy call_listOf (by rfl) T.n_list (by decide +kernel) (pa_cons (pv 3) pa_nil)) pa_nil))))
      (pss_cons (ps_setLc (i := 6) (own := [("_law_row", 7)]) (g := gName 7) (tt := tYes) (by rfl) sc_law.nd rfl rfl (sw_true rfl rfl rfl (by decide +kernel)) (pi_list (pv 4)) (blkOk_by (N := N_law) (sc := defScope s_law) (by decide +kernel)) (fun _ _ _ _ _ => (pg_name (i := 7) sc_law.nd rfl (Or.inl rfl))) (fun _ _ _ _ _ => pts_nil) (fun _ _ _ _ _ => (pe_tup (pa_cons (pe_ix (r := rIxT K) ix_tup (pv 7) pe_int (fun _ _ => rfl)) (pa_cons (pe_ix (r := rIxT K) ix_tup (pv 7) pe_int (fun _ _ => rfl)) (pa_cons (pe_op op_add (pe_ix (r := rIxT K) ix_tup (pv 7) pe_int (fun _ _ => rfl)) pe_int) pa_nil))))))
      (pss_cons (ps_for PassesOwn.never rfl (pi_list (pe_lst (pa_cons (pv 4) (pa_cons (pv 4) (pa_cons (pv 6) (pa_cons (pe_slice sl_list (pv 4) po_none (po_some (pe_un un_neg pe_int))) pa_nil)))))) (pg_name (i := 8) sc_law.nd rfl (Or.inl rfl))
      (pss_cons (ps_set (i := 9) sc_law.nd rfl (Or.inl rfl) (pe_call (om_least T) (hr.mono (by decide)) (by rfl) T.g_least T.F_least.kp (b_least T) .nil pass0 (pa_cons (pe_call (om_ways T) (hr.mono (by decide)) (by rfl) T.g_ways T.F_ways.kp (b_ways T) .nil pass0 (pa_cons (pv 3) (pa_cons (pv 2) (pa_cons pe_bl pa_nil)))) (pa_cons (pe_call (om_spans T) (hr.mono (by decide)) (by rfl) T.g_spans T.F_spans.kp (b_spans T) .nil pass0 (pa_cons (pv 8) (pa_cons pe_bl pa_nil))) pa_nil))))
      (pss_cons (ps_set (i := 10) sc_law.nd rfl (Or.inl rfl) (pe_call (om_least T) (hr.mono (by decide)) (by rfl) T.g_least T.F_least.kp (b_least T) .nil pass0 (pa_cons (pe_call (om_ways T) (hr.mono (by decide)) (by rfl) T.g_ways T.F_ways.kp (b_ways T) .nil pass0 (pa_cons (pv 3) (pa_cons (pv 2) (pa_cons pe_bl pa_nil)))) (pa_cons (pe_call (om_spans T) (hr.mono (by decide)) (by rfl) T.g_spans T.F_spans.kp (b_spans T) .nil pass0 (pa_cons (pv 8) (pa_cons pe_bl pa_nil))) pa_nil))))
      (pss_cons (ps_set (i := 11) sc_law.nd rfl (Or.inl rfl) (pe_callTy call_listOf (by rfl) T.n_list (by decide +kernel) (pa_cons (pv 8) pa_nil)))
      (pss_cons (ps_set (i := 12) sc_law.nd rfl (Or.inl rfl) (pe_call (ok_lw_quicken T) (hr.mono (by decide)) (by rfl) T.g_lw_quicken T.F_lw_quicken.kp (b_lw_quicken T) .nil pass0 (pa_cons (pv 5) (pa_cons (pv 11) pa_nil))))
      (pss_cons (ps_if (pt_cmpR (op_neD hr.units) (pv 11) (pv 8) (nomark _)) (pss_one (ps_ret pe_bl)) pss_nil)
      (pss_one (ps_if (PW.pt (pw_or (pt_cmpR op_isN (pv 9) pe_non (nomark _)) (pw_or1 (pt_cmpR op_isN (pv 10) pe_non (nomark _))))) (pss_one (ps_if (PW.pt (pw_or (pt_cmpR op_ne (pe_ix (r := rIxT K) ix_tup (pv 12) pe_int (fun _ _ => rfl)) pe_str (nomark _)) (pw_or (pt_not (pt_val (pe_callB call_isi (by rfl) T.n_isinstance (by decide +kernel) (pa_cons (pe_ix (r := rIxT K) ix_tup (pv 12) pe_int (fun _ _ => rfl)) (pa_cons (pe_bltn (v := .ty "bool") (by rfl) T.n_bool (by decide +kernel) rfl) pa_nil))))) (pw_or1 (pt_cmpR op_ne (pe_ix (r := rIxT K) ix_tup (pv 12) pe_int (fun _ _ => rfl)) (pe_cmpR op_isN (pv 9) pe_non (nomark _)) (nomark _)))))) (pss_one (ps_ret pe_bl)) pss_nil)) (pss_cons (ps_set (i := 13) sc_law.nd rfl (Or.inl rfl) (pe_ix (r := rIxT K) ix_tup (pv 12) pe_int (fun _ _ => rfl)))
      (pss_cons (ps_if (PW.pt (pw_or (pt_cmpR op_ne (pe_ix (r := rIxT K) ix_tup (pv 12) pe_int (fun _ _ => rfl)) pe_str (nomark _)) (pw_or1 (pt_not (pt_val (pe_call (om_is_answer T) (hr.mono (by decide)) (by rfl) T.g_is_answer T.F_is_answer.kp (b_is_answer T) .nil pass0 (pa_cons (pv 2) (pa_cons (pv 3) (pa_cons (pv 8) (pa_cons (pv 13) (pa_cons (pe_op op_add (pv 9) (pv 10)) pa_nil))))))))))) (pss_one (ps_ret pe_bl)) pss_nil)
      (pss_one (ps_expr (pe_bm PySem.F.plainAttrs_list PySem.F.slot_list_append PySem.F.type_list_append mt_append (pe_ix (r := rIxT K) ix_tup (pv 13) pe_int (fun _ _ => rfl)) (pa_cons (pe_tup (pa_cons pe_int (pa_cons pe_int (pa_cons pe_int pa_nil)))) pa_nil))))))))))))))
      (pss_one (ps_ret pe_bl))))))))), ?_⟩
    refine i_start (σ' := [some (V.ref a0), none, none, none, none, none, none, none, none, none, none, none, none, none]) rfl ?_
    walk_at "vc"
    refine i_penX (Cxs.start H) ha (by decide) (by decide) fun z p H1 c eH1 => ?_
    walk_at "vc"
    refine ⟨lenB rfl, fun L nL => ?_⟩
    have c := c.push (.lst [V.int 2, .int 3, .int 4, .int 5, .int 4, .int 5, .int 6, .int 1]) nL
    generalize upd H1 L (.lst [V.int 2, .int 3, .int 4, .int 5, .int 4, .int 5, .int 6, .int 1]) = H2 at c ⊢
    walk_at "vc"
    refine i_takeX (size := 8) 1 c rfl (by decide) (by decide) fun tk n' r' H3 k0 k1 c => ?_
    obtain ⟨n, n1, n6, htv⟩ : ∃ n : Int, 1 ≤ n ∧ n ≤ 6 ∧ atI [V.int 2, .int 3, .int 4, .int 5, .int 4, .int 5, .int 6, .int 1] tk = some (.int n) := by
      have : tk = 0 ∨ tk = 1 ∨ tk = 2 ∨ tk = 3 ∨ tk = 4 ∨ tk = 5 ∨ tk = 6 ∨ tk = 7 := by omega
      rcases this with rfl | rfl | rfl | rfl | rfl | rfl | rfl | rfl
      · exact ⟨2, by decide, by decide, rfl⟩
      · exact ⟨3, by decide, by decide, rfl⟩
      · exact ⟨4, by decide, by decide, rfl⟩
      · exact ⟨5, by decide, by decide, rfl⟩
      · exact ⟨4, by decide, by decide, rfl⟩
      · exact ⟨5, by decide, by decide, rfl⟩
      · exact ⟨6, by decide, by decide, rfl⟩
      · exact ⟨1, by decide, by decide, rfl⟩
    walk_at "vc"
    refine i_ixL (SqL.of (c.at 0 rfl)) htv ?_
    have c := c.drop
    clear htv k0 k1 nL eH1
    walk_at "vc"
    refine ⟨⟨fun b => b = p, H, H3⟩, [.pen, .int n], fun x => ∃ ws : List W4, x = .lst (ws.map xW) ∧ StrOk n ws, rfl, wd_cx c, .cons (.pen rfl) (.cons (.int _) .nil), rfl, stretch_m n1 n6 fun us so => ⟨us, rfl, so⟩, fun x1 v1 w1 hx1 e1 r1 => ?_⟩
    obtain ⟨ws, rfl, so⟩ := hx1
    cases r1 with
    | @lst b1 xsw _ hb1 hu1 =>
    have hxw := (rdl_ws hu1).mono e1.ok.1
    have hw : SqL K w1.H b1 xsw := e1.ok.1.seq hb1
    have ha := (e1.f.trans e1.ok.1).seq ha
    clear c e1 hu1 hb1
    generalize w1.H = H4 at hxw hw ha ⊢
    walk_at "vc"
    refine i_penX (Cxs.start H4) ha (by decide) (by decide) fun z2 p2 H5 c eH5 => ?_
    walk_at "vc"
    refine ⟨⟨fun b => b = p2, H4, H5⟩, [.pen, .int n, .lst (ws.map xW)], fun x => ∃ bs : List B3, x = .lst (bs.map xB) ∧ (∀ b ∈ bs, WshOk n b) ∧ bs.length ≤ 7, rfl, wd_cx c, .cons (.pen rfl) (.cons (.int _) (.cons (.lst hw (rvw_of hxw)) .nil)), rfl, wishes_m n1 n6 so fun bs h1 h2 => ⟨bs, rfl, h1, h2⟩, fun x1 v1 w2 hx1 e1 r1 => ?_⟩
    obtain ⟨bs, rfl, wo, lb⟩ := hx1
    cases r1 with
    | @lst b2 xsb _ hb2 hu2 =>
    have hxb := (rdl_bs hu2).mono e1.ok.1
    have hb : SqL K w2.H b2 xsb := e1.ok.1.seq hb2
    have hxw := hxw.mono (e1.f.trans e1.ok.1)
    have hw := (e1.f.trans e1.ok.1).seq hw
    clear c e1 hu2 hb2 eH5 ha
    generalize w2.H = H6 at hxw hw hxb hb ⊢
    have lxw : xsw.length = ws.length := by rw [dpa_len hxw, List.length_map]
    have lxb : xsb.length = bs.length := by rw [dpa_len hxb, List.length_map]
    have lw := so.len
    walk_at "vc"
    refine i_makeD ?_
    walk_at "vc"
    refine i_listL hw fun L1 m1 => ?_
    have s1 := same_new (o := HO.lst xsw) m1
    have gL1 : upd H6 L1 (.lst xsw) L1 = some (.lst xsw) := upd_same
    generalize upd H6 L1 (.lst xsw) = H7 at s1 gL1 ⊢
    walk_at "vc"
    intro x dx nx ndx ne
    refine i_lineI (m := 7) (k := 1) (ys := []) (bs := []) nx ndx ne (Same.refl _) n1 (.inl (SqL.of gL1)) (hxw.mono s1) so.w (by omega) (.inr (sq_bounds T _)) .nil ⟨fun _ h => (nomatch h), List.nodup_nil⟩ (Nat.zero_le _) fun H8 us cs pu su pc sc ec hl => ⟨rfl, ?_⟩
    have e8 := s1.trans ec
    have hxw := hxw.mono e8
    have hw := e8.seq hw
    have hxb := hxb.mono e8
    have hb := e8.seq hb
    have so' := so.perm pu
    clear nx ndx ne s1 gL1 m1 ec e8 su pc sc
    walk_at "vc"
    refine ⟨b2, rfl, ⟨xsb, hb⟩, fun D nD => ?_⟩
    refine lc_dp (K := K) (walk_list (K := K) (a := b2) (xs := xsb)) (Same.refl H8) nD (by omega) (gt ((bs.map lsr).map B3.d)) (fun H e => e.seq hb) (fun j v H9 H10 acc hj eH hD2 y R hR => ?_) fun H9 ysl e9 hD hyl => ?_
    · obtain ⟨rfl, hv⟩ := y
      have hj' : j < bs.length := by omega
      have hbj : bs[j]? = some bs[j] := List.getElem?_eq_getElem hj'
      obtain ⟨v', hv', dv⟩ := dpa_get (i := j) (d := bs[j].d) hxb (by rw [List.getElem?_map, hbj]; rfl)
      rw [hv] at hv'
      cases hv'
      obtain ⟨t, rfl, ht⟩ := dp_b3 dv
      have ht := same_sqT eH ht
      walk_at "vc"
      refine ⟨lenB rfl, fun T nT => ?_⟩
      refine hR _ _ (same_new nT) ?_
      rw [gt_of (d := (lsr bs[j]).d) (by rw [List.getElem?_map, List.getElem?_map, hbj]; rfl)]
      exact .tup (SqT.of (del_of upd_same (fun z => by rw [z, hD2] at nT; cases nT))) (.cons (.int _) (.cons (.int _) (.cons (.int _) .nil)))
    have eps : (List.range xsb.length).map (gt ((bs.map lsr).map B3.d)) = (bs.map lsr).map B3.d := by
      rw [lxb, show bs.length = ((bs.map lsr).map B3.d).length by rw [List.length_map, List.length_map]]
      exact range_gt _
    rw [eps] at hyl
    have hD : SqL K H9 D ysl := SqL.of hD
    have hyl := hyl.mono same_del
    have hxw := hxw.mono e9
    have hw := e9.seq hw
    have hxb := hxb.mono e9
    have hb := e9.seq hb
    have hl := hl.mono e9
    clear eps e9 nD
    walk_at "vc"
    refine i_sl ?_
    walk_at "vc"
    refine i_noPart ?_
    refine i_part ?_
    walk_at "vc"
    refine ⟨-1, rfl, b2, xsb, rfl, hb, fun S nS => ?_⟩
    rw [cut_last]
    have sS := same_new (o := HO.lst (xsb.take (xsb.length - 1))) nS
    have hS : SqL K (upd H9 S (.lst (xsb.take (xsb.length - 1)))) S (xsb.take (xsb.length - 1)) := SqL.of upd_same
    have hxS := (dpa_take (xsb.length - 1) hxb).mono sS
    rw [← List.map_take] at hxS
    have hxw := hxw.mono sS
    have hw := sS.seq hw
    have hxb := hxb.mono sS
    have hb := sS.seq hb
    have hD := sS.seq hD
    have hyl := hyl.mono sS
    have hl := hl.mono sS
    clear sS nS
    generalize upd H9 S (.lst (xsb.take (xsb.length - 1))) = H10 at hS hxS hxw hw hxb hb hD hyl hl ⊢
    walk_at "vc"
    refine ⟨lenB rfl, fun LL nLL => ?_⟩
    have sS := same_new (o := HO.lst [V.ref b2, .ref b2, .ref D, .ref S]) nLL
    have hLL : SqL K (upd H10 LL (.lst [V.ref b2, .ref b2, .ref D, .ref S])) LL [V.ref b2, .ref b2, .ref D, .ref S] := SqL.of upd_same
    have hxS := hxS.mono sS
    have hS := sS.seq hS
    have hxw := hxw.mono sS
    have hw := sS.seq hw
    have hxb := hxb.mono sS
    have hb := sS.seq hb
    have hD := sS.seq hD
    have hyl := hyl.mono sS
    have hl := hl.mono sS
    clear sS nLL
    generalize upd H10 LL (.lst [V.ref b2, .ref b2, .ref D, .ref S]) = H11 at hLL hS hxS hxw hw hxb hb hD hyl hl ⊢
    have asked : ∀ (i : Nat) y, [V.ref b2, .ref b2, .ref D, .ref S][i]? = some y → ∃ (c : Addr) (vs : List V) (as : List B3), y = V.ref c ∧ SqL K H11 c vs ∧ DpAll K H11 vs (as.map B3.d) ∧ (∀ b ∈ as, WshOk n b) ∧ as.length ≤ 7 := fun i y hy => by
      have hm := List.mem_of_getElem? hy
      rcases List.mem_cons.mp hm with rfl | hm
      · exact ⟨b2, xsb, bs, rfl, hb, hxb, wo, lb⟩
      rcases List.mem_cons.mp hm with rfl | hm
      · exact ⟨b2, xsb, bs, rfl, hb, hxb, wo, lb⟩
      rcases List.mem_cons.mp hm with rfl | hm
      · refine ⟨D, ysl, bs.map lsr, rfl, hD, hyl, fun b hb => ?_, by rw [List.length_map]; exact lb⟩
        obtain ⟨c, hc, rfl⟩ := List.mem_map.mp hb
        obtain ⟨h1, h2, h3, h4⟩ := wo c hc
        exact ⟨h1, h2, h3, by show 0 ≤ c.m + 1; omega⟩
      · rw [List.mem_singleton.mp hm]
        exact ⟨S, _, bs.take (xsb.length - 1), rfl, hS, hxS, fun b hb => wo b (List.mem_of_mem_take hb), by rw [List.length_take]; omega⟩
    clear hS hxS hxb hb hD hyl lxb
    refine ⟨LL, rfl, ⟨_, hLL⟩, ?_⟩
    refine for_it (walk_list (K := K) (a := LL) (xs := [V.ref b2, .ref b2, .ref D, .ref S])) (fun i σ' H' => ∃ y8 y9 y10 y11 y12 y13, σ' = [some (V.ref a0), some (V.ref p), some (V.int n), some (V.ref b1), some (V.ref b2), some (V.ref x), some (V.ref D), none, y8, y9, y10, y11, y12, y13] ∧ Same H11 H')
      ⟨_, _, _, _, _, _, rfl, Same.refl _⟩ (fun i σ' H' _ pv => let ⟨_, _, _, _, _, _, _, e⟩ := pv; e.seq hLL) (fun i y σ' H12 H13 hi pv hy => ?_) fun σ' H' pv => ?_
    · obtain ⟨y8, y9, y10, y11, y12, y13, rfl, e⟩ := pv
      obtain ⟨rfl, hv⟩ := hy
      obtain ⟨ca, vs, as, rfl, hca, hvs, wa, la⟩ := asked i _ hv
      have hca := e.seq hca
      have hvs := hvs.mono e
      have hxw := hxw.mono e
      have hw := e.seq hw
      have hl := hl.mono e
      have lvs : vs.length = as.length := by rw [dpa_len hvs, List.length_map]
      clear hv asked
      walk_at "vc"
      refine c_ways hw hxw so n1 n6 fun w1 ys1 Ha ea hw1 hy1 => ?_
      walk_at "vc"
      refine c_spans (ea.seq hca) (hvs.mono ea) (by omega) fun w2 ys2 Hb eb hw2 hy2 => ?_
      walk_at "vc"
      refine c_least (eb.seq hw1) (hy1.mono eb) hw2 hy2 so wa n1 n6 (by omega) fun r1 Hc ec lst1 => ?_
      have ec := ea.trans (eb.trans ec)
      have hca := ec.seq hca
      have hvs := hvs.mono ec
      have hxw := hxw.mono ec
      have hw := ec.seq hw
      have hl := hl.mono ec
      have e := e.trans ec
      clear hw1 hy1 hw2 hy2 ea eb ec
      walk_at "vc"
      refine c_ways hw hxw so n1 n6 fun w1 ys1 Ha ea hw1 hy1 => ?_
      walk_at "vc"
      refine c_spans (ea.seq hca) (hvs.mono ea) (by omega) fun w2 ys2 Hb eb hw2 hy2 => ?_
      walk_at "vc"
      refine c_least (eb.seq hw1) (hy1.mono eb) hw2 hy2 so wa n1 n6 (by omega) fun r2 Hd ed lst2 => ?_
      have ed := ea.trans (eb.trans ed)
      have hca := ed.seq hca
      have hvs := hvs.mono ed
      have hxw := hxw.mono ed
      have hw := ed.seq hw
      have hl := hl.mono ed
      have e := e.trans ed
      clear hw1 hy1 hw2 hy2 ea eb ed
      walk_at "vc"
      refine i_listL hca fun Lh mh => ?_
      have sh := same_new (o := HO.lst vs) mh
      have hLh : SqL K (upd Hd Lh (.lst vs)) Lh vs := SqL.of upd_same
      have hca := sh.seq hca
      have hvs := hvs.mono sh
      have hxw := hxw.mono sh
      have hw := sh.seq hw
      have hl := hl.mono sh
      have e := e.trans sh
      clear sh mh
      generalize upd Hd Lh (.lst vs) = He at hLh hca hvs hxw hw hl e ⊢
      walk_at "vc"
      refine ⟨x, Lh, n, us, cs, vs, as, rfl, hl, by rw [pu.length_eq]; omega, n1, by omega, so'.Nb, hLh, hvs, by omega, wa, fun s0 rr T1 Tt Lq R ysq qs Hf stg pm ef nL hT1 hTt hLq hysq => ?_, fun east kks kk nf hfst T1 Hf ef hT1 => ?_⟩
      · obtain ⟨dd, kq, two⟩ := stg.two' pm
        have two := two.perm pu so.w.nd
        have e1 : oV r1 = V.int (0 - dist (dd true) (n - 1)) := by rw [lst1.uniq ((two.sol true).val wa n1).2]; rfl
        have e2 : oV r2 = V.int (0 - dist (dd false) (n - 1)) := by rw [lst2.uniq ((two.sol false).val wa n1).2]; rfl
        have es := two.s
        rw [e1, e2]
        have hca := ef.seq hca
        have hLh := ef.seq hLh
        have hvs := hvs.mono ef
        have hxw := hxw.mono ef
        have hw := ef.seq hw
        have nL : H11 Lq = none := e.free nL
        have e := e.trans ef
        clear lst1 lst2 e1 e2 hl
        have hT1 : SqT K Hf T1 [.str "told", .ref Tt] := SqT.of hT1
        have hTt : SqT K Hf Tt [.int s0, .ref Lq, .ref R] := SqT.of hTt
        walk_at "vc"
        refine i_neB hLh hvs hca hvs ?_
        walk_at "vc"
        have es' : 0 - dist (dd true) (n - 1) + (0 - dist (dd false) (n - 1)) = s0 := by omega
        rw [es']
        have lq : qs.length ≤ 1000 := by
          have lk : ∀ east, (kq east).length ≤ n.toNat := fun east => by
            have rng := (two.sol east).kk.rng wa
            exact SPR.nodup_short (n := n.toNat) (two.sol east).kk.nd fun p hp => by have := rng p hp; omega
          have h1 := nh_len (us := ws) (east := true) (d := dd true) (ks := kq true)
          have h2 := nh_len (us := ws) (east := false) (d := dd false) (ks := kq false)
          have h3 := lk true
          have h4 := lk false
          rw [two.pm.length_eq, List.length_append]
          omega
        have lyq : ysq.length = qs.length := by rw [dpa_len hysq, List.length_map]
        have hq2 := hysq.mono same_del
        refine ⟨w0 Hf Hf, [.int n, .lst (ws.map xW), .lst (as.map xB), .tup [.int s0, .lst (qs.map xB), .thing fun _ _ => True], .int s0], fun x => x = .bl true, rfl, w0_ok (Same.refl _), .cons (.int _) (.cons (.lst hw (rvw_of hxw)) (.cons (.lst hca (rvb_of hvs)) (.cons (.tup hTt (.cons (.int _) (.cons (.lst (SqL.of hLq) (rvb_of hq2)) (.cons (.thing fun _ _ => True.intro) .nil)))) (.cons (.int _) .nil)))), rfl, is_answer_m two wa so.Nb n1 n6 (by omega) lq (by omega) rfl, fun x1 v1 w3 hx1 e3 r3 => ?_⟩
        subst hx1
        cases r3
        have ef3 := w0_same e3
        have hLq := ef3 _ _ hLq
        have hTt := same_sqT ef3 hTt
        have e := e.trans ef3
        clear e3 hT1 hq2 hysq hw hxw hca hvs hLh ef ef3
        generalize w3.H = Hg at hLq hTt e ⊢
        refine ⟨true, rfl, ?_⟩
        walk_at "vc"
        refine ⟨lenB rfl, fun T2 n2 => ?_⟩
        have cc := (Cxs.take hLq).grow (same_new (o := HO.tup [V.int 0, .int 1, .int 0]) n2)
        have lq2 : ysq.length ≤ 1000 := by omega
        walk_at "vc"
        refine i_appC 0 cc rfl (by omega) fun Hz cz => ?_
        refine ⟨_, _, _, _, _, _, rfl, fun b o hb => ?_⟩
        have b1 : b ≠ Lq := fun z => by rw [z, nL] at hb; cases hb
        exact cz.e _ _ ((del_ne b1).trans (e _ _ hb))
      · have hca := ef.seq hca
        have hLh := ef.seq hLh
        have hvs := hvs.mono ef
        have e := e.trans ef
        rw [bnds_perm pu so.w.nd] at nf
        have hT1 : SqT K Hf T1 [.str "none", .bl east] := SqT.of hT1
        have hbl : Dp K Hf (.bl east) (.bool east) := .bl east
        cases east with
        | true =>
          have e1 : oV r1 = V.non := by rw [lst1.uniq (no_box kk wa nf)]; rfl
          rw [e1]
          clear lst1 lst2 e1 hl
          walk_at "vc"
          refine i_neB hLh hvs hca hvs ?_
          walk_at "vc"
          refine ⟨rfl, _, rfl, ?_⟩
          rw [if_neg (by simp)]
          exact ⟨_, _, _, _, _, _, rfl, e⟩
        | false =>
          have e2 : oV r2 = V.non := by rw [lst2.uniq (no_box kk wa nf)]; rfl
          obtain ⟨k2, d2, sol⟩ := hfst rfl
          have e1 : oV r1 = V.int (0 - dist d2 (n - 1)) := by rw [lst1.uniq ((sol.perm pu so.w.nd).val wa n1).2]; rfl
          rw [e1, e2]
          clear lst1 lst2 e1 e2 hl
          walk_at "vc"
          refine i_neB hLh hvs hca hvs ?_
          walk_at "vc"
          refine ⟨rfl, _, rfl, ?_⟩
          rw [if_neg (by simp)]
          exact ⟨_, _, _, _, _, _, rfl, e⟩
    · obtain ⟨y8, y9, y10, y11, y12, y13, rfl, e⟩ := pv
      walk_at "vc"
      exact q _
end
end
set_option maxRecDepth 100000
open PySem PySem.Spec PyProof.Rows L2 VX
theorem cls_ref {K : PySem.W.Frag} {t : Value} {c : Addr} {b : Bool} (i : PySem.W.isClsIn K c = true) (ty : PySem.W.typeIn K (.ref c) = some (.type "type")) (s : PySem.W.subIn K t (.ref c) = some b) : PySem.W.kitCls K t (.ref c) = some b := by
  unfold PySem.W.kitCls
  have i : (PySem.W.clsIn K c).isSome = true := i
  show (if ((PySem.W.clsIn K c).isSome && PySem.W.typeIn K (.ref c) == some (.type "type")) = true then PySem.W.subIn K t (.ref c) else none) = some b
  rw [i, ty, beq_self_eq_true]
  exact s
theorem exm_ref {K : PySem.W.Frag} {t : Value} {c : Addr} {b : Bool} (e : PySem.W.subIn K (.ref c) (.type "BaseException") = some true) (i : PySem.W.isClsIn K c = true) (ty : PySem.W.typeIn K (.ref c) = some (.type "type")) (s : PySem.W.subIn K t (.ref c) = some b) : PySem.W.exmOne K t (.ref c) = some b := by
  unfold PySem.W.exmOne
  rw [e, beq_self_eq_true]
  exact cls_ref i ty s
theorem kit_refT {K : PySem.W.Frag} {t : Value} {c : Addr} (i : PySem.W.isClsIn K c = true) (ty : PySem.W.typeIn K (.ref c) = some (.type "type")) (s : PySem.W.subIn K t (.ref c) = some true) : PySem.W.kitOne K t (.ref c) = some true := by
  unfold PySem.W.kitOne
  split
  · rfl
  · exact cls_ref i ty s
theorem kit_refF {K : PySem.W.Frag} {n c : Addr} (i : PySem.W.isClsIn K c = true) (ty : PySem.W.typeIn K (.ref c) = some (.type "type")) (s0 : PySem.W.subIn K (.ref n) (.ref n) = some true) (s : PySem.W.subIn K (.ref n) (.ref c) = some false) : PySem.W.kitOne K (.ref n) (.ref c) = some false := by
  unfold PySem.W.kitOne
  split
  · rename_i h
    have e : (Value.ref n) = .ref c := eq_of_beq h
    cases e
    rw [s0] at s
    cases s
  · exact cls_ref i ty s
theorem kit_self {K : PySem.W.Frag} {c : Addr} : PySem.W.kitOne K (.ref c) (.ref c) = some true := by
  unfold PySem.W.kitOne
  rw [beq_self_eq_true]
  rfl
theorem kit_typeT {K : PySem.W.Frag} {n : Addr} {T : String} (m : PySem.W.kitMeta T = true) (s : PySem.W.subIn K (.ref n) (.type T) = some true) : PySem.W.kitOne K (.ref n) (.type T) = some true := by
  unfold PySem.W.kitOne
  split
  · rfl
  · show (if PySem.W.kitMeta T = true then PySem.W.subIn K (.ref n) (.type T) else none) = some true
    rw [if_pos m]
    exact s
theorem kit_tyF {K : PySem.W.Frag} {c : Addr} {T : String} (i : PySem.W.isClsIn K c = true) (ty : PySem.W.typeIn K (.ref c) = some (.type "type")) (s : PySem.W.notFirst K c (.type T) = true) : PySem.W.kitOne K (.type T) (.ref c) = some false := by
  have z : (Value.type T == Value.ref c) = false := rfl
  unfold PySem.W.notFirst at s
  rw [z, Bool.false_or] at s
  unfold PySem.W.kitOne
  rw [z]
  exact cls_ref i ty (eq_of_beq s)
theorem sixT {p : String → Prop} (h0 : p "list") (h1 : p "tuple") (h2 : p "NoneType") (h3 : p "int") (h4 : p "bool") (h5 : p "str") : ∀ t, t ∈ (["list", "tuple", "NoneType", "int", "bool", "str"] : List String) → p t := fun t ht => by
  simp only [List.mem_cons, List.not_mem_nil, or_false] at ht
  rcases ht with rfl | rfl | rfl | rfl | rfl | rfl <;> assumption
theorem all_mk {w : World} {K : PySem.W.Frag} {h : Heap} {mg : Str → Option Value} {fa c_NoBox c_NoWire c_CannotQuicken c_Line f_NoBox_init f_NoWire_init f_CannotQuicken_init f_Line_init f_Line_wire f_Line_targets f_check_box f_is_span f_spans_by_wire f_mosts_by_pair f_spread f_quicken f_check_wish f_stretch f_wires_to_save f_ways_by_point f_new_highs f_is_int f_cell f_pen f_take f_lw_stretch f_ways f_spans f_pairs f_wishes f_is_met f_least f_lw_quicken f_with f_is_answer f_law e_bounds : Addr} {d_NoBox_init d_NoWire_init d_CannotQuicken_init d_Line_init d_Line_wire d_Line_targets d_check_box d_is_span d_spans_by_wire d_mosts_by_pair d_spread d_quicken d_check_wish d_stretch d_wires_to_save d_ways_by_point d_new_highs d_is_int d_cell d_pen d_take d_lw_stretch d_ways d_spans d_pairs d_wishes d_is_met d_least d_lw_quicken d_with d_is_answer d_law : FuncData}
    {nm_NoBox q_NoBox : Str} {Nn_NoBox : Addr} {bs_NoBox bm_NoBox : List Value} {sn_NoBox : List Str} {sub_NoBox : List Value} {ab_NoBox : Bool} {col_NoBox : Option Bool} {dd_NoBox : Option Addr} {m0_NoBox m1_NoBox m2_NoBox m3_NoBox m5_NoBox : Option Value}
    {nm_NoWire q_NoWire : Str} {Nn_NoWire : Addr} {bs_NoWire bm_NoWire : List Value} {sn_NoWire : List Str} {sub_NoWire : List Value} {ab_NoWire : Bool} {col_NoWire : Option Bool} {dd_NoWire : Option Addr} {m0_NoWire m1_NoWire m2_NoWire m3_NoWire m5_NoWire : Option Value}
    {nm_CannotQuicken q_CannotQuicken : Str} {Nn_CannotQuicken : Addr} {bs_CannotQuicken bm_CannotQuicken : List Value} {sn_CannotQuicken : List Str} {sub_CannotQuicken : List Value} {ab_CannotQuicken : Bool} {col_CannotQuicken : Option Bool} {dd_CannotQuicken : Option Addr} {m0_CannotQuicken m1_CannotQuicken m2_CannotQuicken m3_CannotQuicken m5_CannotQuicken : Option Value}
    {dd_e : Option Addr} {nn_e : Nat} {sl_e : Array (Option Value)}
    (X : K.In h) (G : h.Ns mainGlobals mg) (hfa : mg "law" = some (.ref fa))
    (GNoBox : PySem.W.nsIn K mainGlobals "NoBox" = some (some (.ref c_NoBox)))
    (GNoWire : PySem.W.nsIn K mainGlobals "NoWire" = some (some (.ref c_NoWire)))
    (GCannotQuicken : PySem.W.nsIn K mainGlobals "CannotQuicken" = some (some (.ref c_CannotQuicken)))
    (GLine : PySem.W.nsIn K mainGlobals "Line" = some (some (.ref c_Line)))
    (a_NoBox_init : PySem.W.findIn K (.ref c_NoBox) "__init__" = some (some (.ref f_NoBox_init)))
    (F_NoBox_init : Fun K "__init__" "NoBox.__init__" s_NoBox_init f_NoBox_init d_NoBox_init)
    (a_NoWire_init : PySem.W.findIn K (.ref c_NoWire) "__init__" = some (some (.ref f_NoWire_init)))
    (F_NoWire_init : Fun K "__init__" "NoWire.__init__" s_NoWire_init f_NoWire_init d_NoWire_init)
    (a_CannotQuicken_init : PySem.W.findIn K (.ref c_CannotQuicken) "__init__" = some (some (.ref f_CannotQuicken_init)))
    (FS_CannotQuicken_init : FunS P K "__init__" "CannotQuicken.__init__" s_CannotQuicken_init c_CannotQuicken f_CannotQuicken_init d_CannotQuicken_init)
    (a_Line_init : PySem.W.findIn K (.ref c_Line) "__init__" = some (some (.ref f_Line_init)))
    (F_Line_init : Fun K "__init__" "Line.__init__" s_Line_init f_Line_init d_Line_init)
    (a_Line_wire : PySem.W.findIn K (.ref c_Line) "wire" = some (some (.ref f_Line_wire)))
    (F_Line_wire : Fun K "wire" "Line.wire" s_Line_wire f_Line_wire d_Line_wire)
    (a_Line_targets : PySem.W.findIn K (.ref c_Line) "targets" = some (some (.ref f_Line_targets)))
    (F_Line_targets : Fun K "targets" "Line.targets" s_Line_targets f_Line_targets d_Line_targets)
    (a_check_box : PySem.W.nsIn K mainGlobals "check_box" = some (some (.ref f_check_box)))
    (F_check_box : Fun K "check_box" "check_box" s_check_box f_check_box d_check_box)
    (a_is_span : PySem.W.nsIn K mainGlobals "is_span" = some (some (.ref f_is_span)))
    (F_is_span : Fun K "is_span" "is_span" s_is_span f_is_span d_is_span)
    (a_spans_by_wire : PySem.W.nsIn K mainGlobals "_spans_by_wire" = some (some (.ref f_spans_by_wire)))
    (F_spans_by_wire : Fun K "_spans_by_wire" "_spans_by_wire" s_spans_by_wire f_spans_by_wire d_spans_by_wire)
    (a_mosts_by_pair : PySem.W.nsIn K mainGlobals "_mosts_by_pair" = some (some (.ref f_mosts_by_pair)))
    (F_mosts_by_pair : Fun K "_mosts_by_pair" "_mosts_by_pair" s_mosts_by_pair f_mosts_by_pair d_mosts_by_pair)
    (a_spread : PySem.W.nsIn K mainGlobals "spread" = some (some (.ref f_spread)))
    (F_spread : Fun K "spread" "spread" s_spread f_spread d_spread)
    (a_quicken : PySem.W.nsIn K mainGlobals "quicken" = some (some (.ref f_quicken)))
    (F_quicken : Fun K "quicken" "quicken" s_quicken f_quicken d_quicken)
    (a_check_wish : PySem.W.nsIn K mainGlobals "_check_wish" = some (some (.ref f_check_wish)))
    (F_check_wish : Fun K "_check_wish" "_check_wish" s_check_wish f_check_wish d_check_wish)
    (a_stretch : PySem.W.nsIn K mainGlobals "_stretch" = some (some (.ref f_stretch)))
    (F_stretch : Fun K "_stretch" "_stretch" s_stretch f_stretch d_stretch)
    (a_wires_to_save : PySem.W.nsIn K mainGlobals "_wires_to_save" = some (some (.ref f_wires_to_save)))
    (F_wires_to_save : Fun K "_wires_to_save" "_wires_to_save" s_wires_to_save f_wires_to_save d_wires_to_save)
    (a_ways_by_point : PySem.W.nsIn K mainGlobals "_ways_by_point" = some (some (.ref f_ways_by_point)))
    (F_ways_by_point : Fun K "_ways_by_point" "_ways_by_point" s_ways_by_point f_ways_by_point d_ways_by_point)
    (a_new_highs : PySem.W.nsIn K mainGlobals "_new_highs" = some (some (.ref f_new_highs)))
    (F_new_highs : Fun K "_new_highs" "_new_highs" s_new_highs f_new_highs d_new_highs)
    (a_is_int : PySem.W.nsIn K mainGlobals "_law_is_int" = some (some (.ref f_is_int)))
    (F_is_int : Fun K "_law_is_int" "_law_is_int" s_is_int f_is_int d_is_int)
    (a_cell : PySem.W.nsIn K mainGlobals "_law_cell" = some (some (.ref f_cell)))
    (F_cell : Fun K "_law_cell" "_law_cell" s_cell f_cell d_cell)
    (a_pen : PySem.W.nsIn K mainGlobals "_law_pen" = some (some (.ref f_pen)))
    (F_pen : Fun K "_law_pen" "_law_pen" s_pen f_pen d_pen)
    (a_take : PySem.W.nsIn K mainGlobals "_law_take" = some (some (.ref f_take)))
    (F_take : Fun K "_law_take" "_law_take" s_take f_take d_take)
    (a_lw_stretch : PySem.W.nsIn K mainGlobals "_law_stretch" = some (some (.ref f_lw_stretch)))
    (F_lw_stretch : Fun K "_law_stretch" "_law_stretch" s_lw_stretch f_lw_stretch d_lw_stretch)
    (a_ways : PySem.W.nsIn K mainGlobals "_law_ways" = some (some (.ref f_ways)))
    (F_ways : Fun K "_law_ways" "_law_ways" s_ways f_ways d_ways)
    (a_spans : PySem.W.nsIn K mainGlobals "_law_spans" = some (some (.ref f_spans)))
    (F_spans : Fun K "_law_spans" "_law_spans" s_spans f_spans d_spans)
    (a_pairs : PySem.W.nsIn K mainGlobals "_law_pairs" = some (some (.ref f_pairs)))
    (F_pairs : Fun K "_law_pairs" "_law_pairs" s_pairs f_pairs d_pairs)
    (a_wishes : PySem.W.nsIn K mainGlobals "_law_wishes" = some (some (.ref f_wishes)))
    (F_wishes : Fun K "_law_wishes" "_law_wishes" s_wishes f_wishes d_wishes)
    (a_is_met : PySem.W.nsIn K mainGlobals "_law_is_met" = some (some (.ref f_is_met)))
    (F_is_met : Fun K "_law_is_met" "_law_is_met" s_is_met f_is_met d_is_met)
    (a_least : PySem.W.nsIn K mainGlobals "_law_least" = some (some (.ref f_least)))
    (F_least : Fun K "_law_least" "_law_least" s_least f_least d_least)
    (a_lw_quicken : PySem.W.nsIn K mainGlobals "_law_quicken" = some (some (.ref f_lw_quicken)))
    (F_lw_quicken : Fun K "_law_quicken" "_law_quicken" s_lw_quicken f_lw_quicken d_lw_quicken)
    (a_with : PySem.W.nsIn K mainGlobals "_law_with" = some (some (.ref f_with)))
    (F_with : Fun K "_law_with" "_law_with" s_with f_with d_with)
    (a_is_answer : PySem.W.nsIn K mainGlobals "_law_is_answer" = some (some (.ref f_is_answer)))
    (F_is_answer : Fun K "_law_is_answer" "_law_is_answer" s_is_answer f_is_answer d_is_answer)
    (a_law : PySem.W.nsIn K mainGlobals "law" = some (some (.ref f_law)))
    (F_law : Fun K "law" "law" s_law f_law d_law)
    (z_abs : PySem.W.nsIn K mainGlobals "abs" = some none)
    (z_bool : PySem.W.nsIn K mainGlobals "bool" = some none)
    (z_enumerate : PySem.W.nsIn K mainGlobals "enumerate" = some none)
    (z_int : PySem.W.nsIn K mainGlobals "int" = some none)
    (z_isinstance : PySem.W.nsIn K mainGlobals "isinstance" = some none)
    (z_len : PySem.W.nsIn K mainGlobals "len" = some none)
    (z_list : PySem.W.nsIn K mainGlobals "list" = some none)
    (z_max : PySem.W.nsIn K mainGlobals "max" = some none)
    (z_min : PySem.W.nsIn K mainGlobals "min" = some none)
    (z_range : PySem.W.nsIn K mainGlobals "range" = some none)
    (z_sorted : PySem.W.nsIn K mainGlobals "sorted" = some none)
    (z_sum : PySem.W.nsIn K mainGlobals "sum" = some none)
    (z_super : PySem.W.nsIn K mainGlobals "super" = some none)
    (z_tuple : PySem.W.nsIn K mainGlobals "tuple" = some none)
    (xty_NoBox : PySem.W.typeIn K (.ref c_NoBox) = some (.type "type"))
    (xex_NoBox : PySem.W.subIn K (.ref c_NoBox) (.type "BaseException") = some true)
    (xty_NoWire : PySem.W.typeIn K (.ref c_NoWire) = some (.type "type"))
    (xex_NoWire : PySem.W.subIn K (.ref c_NoWire) (.type "BaseException") = some true)
    (ic_CannotQuicken : PySem.W.isClsIn K c_CannotQuicken = true)
    (xty_CannotQuicken : PySem.W.typeIn K (.ref c_CannotQuicken) = some (.type "type"))
    (xex_CannotQuicken : PySem.W.subIn K (.ref c_CannotQuicken) (.type "BaseException") = some true)
    (xL_NoBox : K.lookup c_NoBox = some (excClassObj nm_NoBox q_NoBox c_NoBox Nn_NoBox bs_NoBox bm_NoBox true sn_NoBox sub_NoBox ab_NoBox col_NoBox dd_NoBox m0_NoBox m1_NoBox m2_NoBox m3_NoBox m5_NoBox "ValueError.__new__"))
    (xB_NoBox : PySem.HandSPX.refsVE bm_NoBox = true)
    (xsa_NoBox : PySem.W.findIn K (.ref c_NoBox) "__setattr__" = some (some (.builtin "object.__setattr__")))
    (xk_NoBox : PySem.W.keepIn K (.ref c_NoBox) = true)
    (tI_NoBox : PySem.W.typeIn K (.ref f_NoBox_init) = some (.type "function"))
    (nb_NoBox_box : PySem.W.findIn K (.ref c_NoBox) "box" = some none)
    (xL_NoWire : K.lookup c_NoWire = some (excClassObj nm_NoWire q_NoWire c_NoWire Nn_NoWire bs_NoWire bm_NoWire true sn_NoWire sub_NoWire ab_NoWire col_NoWire dd_NoWire m0_NoWire m1_NoWire m2_NoWire m3_NoWire m5_NoWire "ValueError.__new__"))
    (xB_NoWire : PySem.HandSPX.refsVE bm_NoWire = true)
    (xsa_NoWire : PySem.W.findIn K (.ref c_NoWire) "__setattr__" = some (some (.builtin "object.__setattr__")))
    (xk_NoWire : PySem.W.keepIn K (.ref c_NoWire) = true)
    (tI_NoWire : PySem.W.typeIn K (.ref f_NoWire_init) = some (.type "function"))
    (nb_NoWire_source : PySem.W.findIn K (.ref c_NoWire) "source" = some none)
    (nb_NoWire_target : PySem.W.findIn K (.ref c_NoWire) "target" = some none)
    (xL_CannotQuicken : K.lookup c_CannotQuicken = some (excClassObj nm_CannotQuicken q_CannotQuicken c_CannotQuicken Nn_CannotQuicken bs_CannotQuicken bm_CannotQuicken true sn_CannotQuicken sub_CannotQuicken ab_CannotQuicken col_CannotQuicken dd_CannotQuicken m0_CannotQuicken m1_CannotQuicken m2_CannotQuicken m3_CannotQuicken m5_CannotQuicken "ValueError.__new__"))
    (xB_CannotQuicken : PySem.HandSPX.refsVE bm_CannotQuicken = true)
    (xsa_CannotQuicken : PySem.W.findIn K (.ref c_CannotQuicken) "__setattr__" = some (some (.builtin "object.__setattr__")))
    (xk_CannotQuicken : PySem.W.keepIn K (.ref c_CannotQuicken) = true)
    (tI_CannotQuicken : PySem.W.typeIn K (.ref f_CannotQuicken_init) = some (.type "function"))
    (nb_CannotQuicken_east : PySem.W.findIn K (.ref c_CannotQuicken) "east" = some none)
    (nb_CannotQuicken_steps : PySem.W.findIn K (.ref c_CannotQuicken) "steps" = some none)
    (xga_CannotQuicken : PySem.W.findIn K (.ref c_CannotQuicken) "__getattribute__" = some (some (.builtin "BaseException.__getattribute__")))
    (xgg_CannotQuicken : PySem.W.findIn K (.ref c_CannotQuicken) "__getattr__" = some none)
    (xhd_CannotQuicken : PySem.W.hasDictIn K c_CannotQuicken = true)
    (sub_CannotQuicken_CannotQuicken : PySem.W.subIn K (.ref c_CannotQuicken) (.ref c_CannotQuicken) = some true)
    (xtp : PySem.W.nsIn K PySem.cStatics "thirdparty.any" = some none)
    (sini_CannotQuicken : PySem.W.ks_superIn K c_CannotQuicken c_CannotQuicken "__init__" = some (some (.builtin "ValueError.__init__")))
    (sown_CannotQuicken : PySem.W.mroIn K c_CannotQuicken (.ref c_CannotQuicken) = some true)
    (sub_CannotQuicken_VE : PySem.W.subIn K (.ref c_CannotQuicken) (.type "ValueError") = some true)
    (pg_Line : PySem.W.plainGet K c_Line Str.empty = true)
    (hd_Line : PySem.W.hasDictIn K c_Line = true)
    (po_Line : PySem.W.plainOver K c_Line = true)
    (sa_Line : PySem.W.findIn K (.ref c_Line) "__setattr__" = some (some (.builtin "object.__setattr__")))
    (mk_Line : PySem.W.makesIn K c_Line = true)
    (kC_Line : PySem.W.keepIn K (.ref c_Line) = true)
    (na_Line_size : PySem.W.findIn K (.ref c_Line) "size" = some none)
    (na_Line__spans : PySem.W.findIn K (.ref c_Line) "_spans" = some none)
    (na_Line__mosts : PySem.W.findIn K (.ref c_Line) "_mosts" = some none)
    (i_Line_init : PySem.W.isFn K (.ref f_Line_init) = true)
    (i_Line_wire : PySem.W.isFn K (.ref f_Line_wire) = true)
    (i_Line_targets : PySem.W.isFn K (.ref f_Line_targets) = true)
    (D_Line_init : FunD K "__init__" "Line.__init__" (defArgs s_Line_init) (defBody s_Line_init) (defScope s_Line_init) [] [("bounds", .ref e_bounds)] f_Line_init d_Line_init)
    (q_e : K.lookup e_bounds = some ⟨.type "tuple", dd_e, .seq #[] nn_e, sl_e⟩)
    : ∃ fd : FuncData, (∀ (s : Shared) (v : Value), BindsTo s fd ⟨[v], []⟩ [("_law_script", v)]) ∧ ∀ base : Heap, K.In base → base.Ns mainGlobals mg → FnOk P w K mg base CX0 14 fa fd ["_law_script"] (spLaw K) := by
  have e := hfa.symm.trans (PySem.W.mg_of X G a_law)
  cases e
  have T : Txt K mg ⟨c_NoBox, c_NoWire, c_CannotQuicken, c_Line, f_NoBox_init, f_NoWire_init, f_CannotQuicken_init, f_Line_init, f_Line_wire, f_Line_targets, f_check_box, f_is_span, f_spans_by_wire, f_mosts_by_pair, f_spread, f_quicken, f_check_wish, f_stretch, f_wires_to_save, f_ways_by_point, f_new_highs, f_is_int, f_cell, f_pen, f_take, f_lw_stretch, f_ways, f_spans, f_pairs, f_wishes, f_is_met, f_least, f_lw_quicken, f_with, f_is_answer, fa, e_bounds, d_NoBox_init, d_NoWire_init, d_CannotQuicken_init, d_Line_init, d_Line_wire, d_Line_targets, d_check_box, d_is_span, d_spans_by_wire, d_mosts_by_pair, d_spread, d_quicken, d_check_wish, d_stretch, d_wires_to_save, d_ways_by_point, d_new_highs, d_is_int, d_cell, d_pen, d_take, d_lw_stretch, d_ways, d_spans, d_pairs, d_wishes, d_is_met, d_least, d_lw_quicken, d_with, d_is_answer, d_law⟩ :=
    { F_NoBox_init := F_NoBox_init,
      F_NoWire_init := F_NoWire_init,
      FS_CannotQuicken_init := FS_CannotQuicken_init,
      sup_CannotQuicken := ⟨⟨⟨_, _, _, _, _, _, _, _, _, _, _, _, _, _, _, xL_CannotQuicken, xB_CannotQuicken⟩, xsa_CannotQuicken, xex_CannotQuicken, xty_CannotQuicken, xk_CannotQuicken⟩, sini_CannotQuicken, sub_CannotQuicken_VE, sown_CannotQuicken, xtp⟩,
      F_Line_init := F_Line_init,
      F_Line_wire := F_Line_wire,
      F_Line_targets := F_Line_targets,
      F_check_box := F_check_box,
      g_check_box := PySem.W.mg_of X G a_check_box,
      F_is_span := F_is_span,
      g_is_span := PySem.W.mg_of X G a_is_span,
      F_spans_by_wire := F_spans_by_wire,
      g_spans_by_wire := PySem.W.mg_of X G a_spans_by_wire,
      F_mosts_by_pair := F_mosts_by_pair,
      g_mosts_by_pair := PySem.W.mg_of X G a_mosts_by_pair,
      F_spread := F_spread,
      g_spread := PySem.W.mg_of X G a_spread,
      F_quicken := F_quicken,
      g_quicken := PySem.W.mg_of X G a_quicken,
      F_check_wish := F_check_wish,
      g_check_wish := PySem.W.mg_of X G a_check_wish,
      F_stretch := F_stretch,
      g_stretch := PySem.W.mg_of X G a_stretch,
      F_wires_to_save := F_wires_to_save,
      g_wires_to_save := PySem.W.mg_of X G a_wires_to_save,
      F_ways_by_point := F_ways_by_point,
      g_ways_by_point := PySem.W.mg_of X G a_ways_by_point,
      F_new_highs := F_new_highs,
      g_new_highs := PySem.W.mg_of X G a_new_highs,
      F_is_int := F_is_int,
      g_is_int := PySem.W.mg_of X G a_is_int,
      F_cell := F_cell,
      g_cell := PySem.W.mg_of X G a_cell,
      F_pen := F_pen,
      g_pen := PySem.W.mg_of X G a_pen,
      F_take := F_take,
      g_take := PySem.W.mg_of X G a_take,
      F_lw_stretch := F_lw_stretch,
      g_lw_stretch := PySem.W.mg_of X G a_lw_stretch,
      F_ways := F_ways,
      g_ways := PySem.W.mg_of X G a_ways,
      F_spans := F_spans,
      g_spans := PySem.W.mg_of X G a_spans,
      F_pairs := F_pairs,
      g_pairs := PySem.W.mg_of X G a_pairs,
      F_wishes := F_wishes,
      g_wishes := PySem.W.mg_of X G a_wishes,
      F_is_met := F_is_met,
      g_is_met := PySem.W.mg_of X G a_is_met,
      F_least := F_least,
      g_least := PySem.W.mg_of X G a_least,
      F_lw_quicken := F_lw_quicken,
      g_lw_quicken := PySem.W.mg_of X G a_lw_quicken,
      F_with := F_with,
      g_with := PySem.W.mg_of X G a_with,
      F_is_answer := F_is_answer,
      g_is_answer := PySem.W.mg_of X G a_is_answer,
      F_law := F_law,
      g_law := PySem.W.mg_of X G a_law,
      g_NoBox := PySem.W.mg_of X G GNoBox,
      g_NoWire := PySem.W.mg_of X G GNoWire,
      g_CannotQuicken := PySem.W.mg_of X G GCannotQuicken,
      g_Line := PySem.W.mg_of X G GLine,
      n_abs := PySem.W.mg_none_of X G z_abs,
      n_bool := PySem.W.mg_none_of X G z_bool,
      n_enumerate := PySem.W.mg_none_of X G z_enumerate,
      n_int := PySem.W.mg_none_of X G z_int,
      n_isinstance := PySem.W.mg_none_of X G z_isinstance,
      n_len := PySem.W.mg_none_of X G z_len,
      n_list := PySem.W.mg_none_of X G z_list,
      n_max := PySem.W.mg_none_of X G z_max,
      n_min := PySem.W.mg_none_of X G z_min,
      n_range := PySem.W.mg_none_of X G z_range,
      n_sorted := PySem.W.mg_none_of X G z_sorted,
      n_sum := PySem.W.mg_none_of X G z_sum,
      n_super := PySem.W.mg_none_of X G z_super,
      n_tuple := PySem.W.mg_none_of X G z_tuple,
      oex_NoBox := ⟨⟨_, _, _, _, _, _, _, _, _, _, _, _, _, _, _, xL_NoBox, xB_NoBox⟩, xsa_NoBox, xex_NoBox, xty_NoBox, xk_NoBox⟩,
      ini_NoBox := a_NoBox_init,
      tI_NoBox := tI_NoBox,
      nb_NoBox_box := nb_NoBox_box,
      oex_NoWire := ⟨⟨_, _, _, _, _, _, _, _, _, _, _, _, _, _, _, xL_NoWire, xB_NoWire⟩, xsa_NoWire, xex_NoWire, xty_NoWire, xk_NoWire⟩,
      ini_NoWire := a_NoWire_init,
      tI_NoWire := tI_NoWire,
      nb_NoWire_source := nb_NoWire_source,
      nb_NoWire_target := nb_NoWire_target,
      oex_CannotQuicken := ⟨⟨_, _, _, _, _, _, _, _, _, _, _, _, _, _, _, xL_CannotQuicken, xB_CannotQuicken⟩, xsa_CannotQuicken, xex_CannotQuicken, xty_CannotQuicken, xk_CannotQuicken⟩,
      ini_CannotQuicken := a_CannotQuicken_init,
      tI_CannotQuicken := tI_CannotQuicken,
      nb_CannotQuicken_east := nb_CannotQuicken_east,
      nb_CannotQuicken_steps := nb_CannotQuicken_steps,
      xf_CannotQuicken := ⟨xga_CannotQuicken, xgg_CannotQuicken, xex_CannotQuicken, xhd_CannotQuicken⟩,
      exm_CannotQuicken_CannotQuicken := exm_ref xex_CannotQuicken ic_CannotQuicken xty_CannotQuicken sub_CannotQuicken_CannotQuicken,
      cl_Line := ⟨pg_Line, hd_Line, po_Line, sa_Line⟩,
      na_Line_size := na_Line_size,
      na_Line__spans := na_Line__spans,
      na_Line__mosts := na_Line__mosts,
      M_Line := ⟨mk_Line, a_Line_init, i_Line_init, kC_Line⟩,
      m_Line_wire := ⟨a_Line_wire, i_Line_wire, F_Line_wire.kp⟩,
      m_Line_targets := ⟨a_Line_targets, i_Line_targets, F_Line_targets.kp⟩,
      D_Line_init := D_Line_init,
      q_bounds := ⟨_, _, q_e, rfl, rfl⟩ }
  obtain ⟨oc, od, kV, dc, pm, an, cd, ct, sl, hfd, lk, hc⟩ := id F_law.ex
  refine ⟨d_law, fun s v => ?_, fun base _ _ => ok_law T⟩
  subst hfd
  exact .of_eq rfl
end K63
open PySem PySem.W PyProof.Rows in
set_option maxRecDepth 100000 in
set_option maxHeartbeats 0 in
theorem PySem.Challenge.cw_surerails_k63_whole_quickening_is_least_holds : PySem.Challenge.rw_surerails_k63_whole_quickening_is_least.Holds := by
  w_on; o_law; k_head; (case hw => w_witness2)
  k_fill
  refine L2.walk_of (l := PySem.Challenge.rw_surerails_k63_whole_quickening_is_least) (n := 63) (k := 14) (x := "_law_script") (CX := fun _ => L2.CX0) (sp := fun w => K63.spLaw (PySem.Challenge.cw_surerails_k63_whole_quickening_is_least_holds.heap_39 w.params)) rfl (by decide) rfl ⟨rfl, by decide, by decide⟩ (fun w h Y => PySem.W.kIn_of Y) ?F ?S fun _ _ _ _ _ z => z
  case S =>
    intro w H a ns hl _ hS
    exact ⟨a, ns, rfl, hS, fun _ => rfl⟩
  case F =>
    intro w mg fa h KX G hmg
    refine' K63.all_mk KX G hmg ?GNoBox ?GNoWire ?GCannotQuicken ?GLine ?a_NoBox_init ?F_NoBox_init ?a_NoWire_init ?F_NoWire_init ?a_CannotQuicken_init ?FS_CannotQuicken_init ?a_Line_init ?F_Line_init ?a_Line_wire ?F_Line_wire ?a_Line_targets ?F_Line_targets ?a_check_box ?F_check_box ?a_is_span ?F_is_span ?a_spans_by_wire ?F_spans_by_wire ?a_mosts_by_pair ?F_mosts_by_pair ?a_spread ?F_spread ?a_quicken ?F_quicken ?a_check_wish ?F_check_wish ?a_stretch ?F_stretch ?a_wires_to_save ?F_wires_to_save ?a_ways_by_point ?F_ways_by_point ?a_new_highs ?F_new_highs ?a_is_int ?F_is_int ?a_cell ?F_cell ?a_pen ?F_pen ?a_take ?F_take ?a_lw_stretch ?F_lw_stretch ?a_ways ?F_ways ?a_spans ?F_spans ?a_pairs ?F_pairs ?a_wishes ?F_wishes ?a_is_met ?F_is_met ?a_least ?F_least ?a_lw_quicken ?F_lw_quicken ?a_with ?F_with ?a_is_answer ?F_is_answer ?a_law ?F_law ?z_abs ?z_bool ?z_enumerate ?z_int ?z_isinstance ?z_len ?z_list ?z_max ?z_min ?z_range ?z_sorted ?z_sum ?z_super ?z_tuple ?xty_NoBox ?xex_NoBox ?xty_NoWire ?xex_NoWire ?ic_CannotQuicken ?xty_CannotQuicken ?xex_CannotQuicken ?xL_NoBox ?xB_NoBox ?xsa_NoBox ?xk_NoBox ?tI_NoBox ?nb_NoBox_box ?xL_NoWire ?xB_NoWire ?xsa_NoWire ?xk_NoWire ?tI_NoWire ?nb_NoWire_source ?nb_NoWire_target ?xL_CannotQuicken ?xB_CannotQuicken ?xsa_CannotQuicken ?xk_CannotQuicken ?tI_CannotQuicken ?nb_CannotQuicken_east ?nb_CannotQuicken_steps ?xga_CannotQuicken ?xgg_CannotQuicken ?xhd_CannotQuicken ?sub_CannotQuicken_CannotQuicken ?xtp ?sini_CannotQuicken ?sown_CannotQuicken ?sub_CannotQuicken_VE ?pg_Line ?hd_Line ?po_Line ?sa_Line ?mk_Line ?kC_Line ?na_Line_size ?na_Line__spans ?na_Line__mosts ?i_Line_init ?i_Line_wire ?i_Line_targets ?D_Line_init ?q_e
    (case GNoBox => k_is)
    (case GNoWire => k_is)
    (case GCannotQuicken => k_is)
    (case GLine => k_is)
    (case a_NoBox_init => k_is)
    (case F_NoBox_init => refine' L2.fun_mk ?l ?c ?k; (case l => k_is); (case c => k_is); (case k => k_is))
    (case a_NoWire_init => k_is)
    (case F_NoWire_init => refine' L2.fun_mk ?l ?c ?k; (case l => k_is); (case c => k_is); (case k => k_is))
    (case a_CannotQuicken_init => k_is)
    (case FS_CannotQuicken_init => refine' VX.funS_mk ?l ?c ?d ?v ?i ?e ?k ?t; (case l => k_is); (case c => k_is); (case d => k_is); (case v => first | rfl | k_is); (case i => decide +kernel); (case e => k_is); (case k => k_is); (case t => decide +kernel))
    (case a_Line_init => k_is)
    (case F_Line_init => refine' L2.fun_mk ?l ?c ?k; (case l => k_is); (case c => k_is); (case k => k_is))
    (case a_Line_wire => k_is)
    (case F_Line_wire => refine' L2.fun_mk ?l ?c ?k; (case l => k_is); (case c => k_is); (case k => k_is))
    (case a_Line_targets => k_is)
    (case F_Line_targets => refine' L2.fun_mk ?l ?c ?k; (case l => k_is); (case c => k_is); (case k => k_is))
    (case a_check_box => k_is)
    (case F_check_box => refine' L2.fun_mk ?l ?c ?k; (case l => k_is); (case c => k_is); (case k => k_is))
    (case a_is_span => k_is)
    (case F_is_span => refine' L2.fun_mk ?l ?c ?k; (case l => k_is); (case c => k_is); (case k => k_is))
    (case a_spans_by_wire => k_is)
    (case F_spans_by_wire => refine' L2.fun_mk ?l ?c ?k; (case l => k_is); (case c => k_is); (case k => k_is))
    (case a_mosts_by_pair => k_is)
    (case F_mosts_by_pair => refine' L2.fun_mk ?l ?c ?k; (case l => k_is); (case c => k_is); (case k => k_is))
    (case a_spread => k_is)
    (case F_spread => refine' L2.fun_mk ?l ?c ?k; (case l => k_is); (case c => k_is); (case k => k_is))
    (case a_quicken => k_is)
    (case F_quicken => refine' L2.fun_mk ?l ?c ?k; (case l => k_is); (case c => k_is); (case k => k_is))
    (case a_check_wish => k_is)
    (case F_check_wish => refine' L2.fun_mk ?l ?c ?k; (case l => k_is); (case c => k_is); (case k => k_is))
    (case a_stretch => k_is)
    (case F_stretch => refine' L2.fun_mk ?l ?c ?k; (case l => k_is); (case c => k_is); (case k => k_is))
    (case a_wires_to_save => k_is)
    (case F_wires_to_save => refine' L2.fun_mk ?l ?c ?k; (case l => k_is); (case c => k_is); (case k => k_is))
    (case a_ways_by_point => k_is)
    (case F_ways_by_point => refine' L2.fun_mk ?l ?c ?k; (case l => k_is); (case c => k_is); (case k => k_is))
    (case a_new_highs => k_is)
    (case F_new_highs => refine' L2.fun_mk ?l ?c ?k; (case l => k_is); (case c => k_is); (case k => k_is))
    (case a_is_int => k_is)
    (case F_is_int => refine' L2.fun_mk ?l ?c ?k; (case l => k_is); (case c => k_is); (case k => k_is))
    (case a_cell => k_is)
    (case F_cell => refine' L2.fun_mk ?l ?c ?k; (case l => k_is); (case c => k_is); (case k => k_is))
    (case a_pen => k_is)
    (case F_pen => refine' L2.fun_mk ?l ?c ?k; (case l => k_is); (case c => k_is); (case k => k_is))
    (case a_take => k_is)
    (case F_take => refine' L2.fun_mk ?l ?c ?k; (case l => k_is); (case c => k_is); (case k => k_is))
    (case a_lw_stretch => k_is)
    (case F_lw_stretch => refine' L2.fun_mk ?l ?c ?k; (case l => k_is); (case c => k_is); (case k => k_is))
    (case a_ways => k_is)
    (case F_ways => refine' L2.fun_mk ?l ?c ?k; (case l => k_is); (case c => k_is); (case k => k_is))
    (case a_spans => k_is)
    (case F_spans => refine' L2.fun_mk ?l ?c ?k; (case l => k_is); (case c => k_is); (case k => k_is))
    (case a_pairs => k_is)
    (case F_pairs => refine' L2.fun_mk ?l ?c ?k; (case l => k_is); (case c => k_is); (case k => k_is))
    (case a_wishes => k_is)
    (case F_wishes => refine' L2.fun_mk ?l ?c ?k; (case l => k_is); (case c => k_is); (case k => k_is))
    (case a_is_met => k_is)
    (case F_is_met => refine' L2.fun_mk ?l ?c ?k; (case l => k_is); (case c => k_is); (case k => k_is))
    (case a_least => k_is)
    (case F_least => refine' L2.fun_mk ?l ?c ?k; (case l => k_is); (case c => k_is); (case k => k_is))
    (case a_lw_quicken => k_is)
    (case F_lw_quicken => refine' L2.fun_mk ?l ?c ?k; (case l => k_is); (case c => k_is); (case k => k_is))
    (case a_with => k_is)
    (case F_with => refine' L2.fun_mk ?l ?c ?k; (case l => k_is); (case c => k_is); (case k => k_is))
    (case a_is_answer => k_is)
    (case F_is_answer => refine' L2.fun_mk ?l ?c ?k; (case l => k_is); (case c => k_is); (case k => k_is))
    (case a_law => k_is)
    (case F_law => refine' L2.fun_mk ?l ?c ?k; (case l => k_is); (case c => k_is); (case k => k_is))
    (case z_abs => k_is)
    (case z_bool => k_is)
    (case z_enumerate => k_is)
    (case z_int => k_is)
    (case z_isinstance => k_is)
    (case z_len => k_is)
    (case z_list => k_is)
    (case z_max => k_is)
    (case z_min => k_is)
    (case z_range => k_is)
    (case z_sorted => k_is)
    (case z_sum => k_is)
    (case z_super => k_is)
    (case z_tuple => k_is)
    (case xty_NoBox => k_is)
    (case xex_NoBox => k_is)
    (case xty_NoWire => k_is)
    (case xex_NoWire => k_is)
    (case ic_CannotQuicken => k_is)
    (case xty_CannotQuicken => k_is)
    (case xex_CannotQuicken => k_is)
    (case xL_NoBox => k_is)
    (case xB_NoBox => decide +kernel)
    (case xsa_NoBox => k_is)
    (case xk_NoBox => k_is)
    (case tI_NoBox => k_is)
    (case nb_NoBox_box => k_is)
    (case xL_NoWire => k_is)
    (case xB_NoWire => decide +kernel)
    (case xsa_NoWire => k_is)
    (case xk_NoWire => k_is)
    (case tI_NoWire => k_is)
    (case nb_NoWire_source => k_is)
    (case nb_NoWire_target => k_is)
    (case xL_CannotQuicken => k_is)
    (case xB_CannotQuicken => decide +kernel)
    (case xsa_CannotQuicken => k_is)
    (case xk_CannotQuicken => k_is)
    (case tI_CannotQuicken => k_is)
    (case nb_CannotQuicken_east => k_is)
    (case nb_CannotQuicken_steps => k_is)
    (case xga_CannotQuicken => k_is)
    (case xgg_CannotQuicken => k_is)
    (case xhd_CannotQuicken => k_is)
    (case sub_CannotQuicken_CannotQuicken => first | rfl | k_is)
    (case xtp => k_is)
    (case sini_CannotQuicken => first | k_is | rfl)
    (case sown_CannotQuicken => first | k_is | rfl)
    (case sub_CannotQuicken_VE => k_is)
    (case pg_Line => k_is)
    (case hd_Line => k_is)
    (case po_Line => k_is)
    (case sa_Line => k_is)
    (case mk_Line => k_is)
    (case kC_Line => k_is)
    (case na_Line_size => k_is)
    (case na_Line__spans => k_is)
    (case na_Line__mosts => k_is)
    (case i_Line_init => k_is)
    (case i_Line_wire => k_is)
    (case i_Line_targets => k_is)
    (case D_Line_init => refine' VX.fund_mk ?l ?c ?k ?b; (case l => k_is); (case c => k_is); (case k => k_is); (case b => k_is))
    (case q_e => k_is)

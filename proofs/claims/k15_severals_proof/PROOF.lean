import PyProof.Rows.All
import Wide.All
import OpenK.AllK
import Wide.FinOn
import HandS.ForMost
import HandS.Wide
import HandS.Evl
import HandS.Walk
import HandS.NoneIn
import HandS.IsInst
import HandS.More
import HandS.Defaults
import HandS.MakeKwOnly
import HandS.Conv
import HandS.Style
import HandS.OwnEq
import HandS.ExcInit
import HandS.ExcField
import HandS.ExcOwn
import KE.KExcInit
import KE.KExcIs
import HandS.FStr
import HandS.WordsExc
import HandS.Sort
import HandS.DictComp
import HandS.ExcIs
import HandS.FStrTup
import HandS.RaiseMore
import HandS.Lambda
import HandS.EndTab
import HandS.TryMany
import HandS.Flow
import PyProof.ReprLen
import PyProof.FitsInt
import KE.DataEq
import HandS.SortInts
import KE.KStateDown
import HandS.Words
import HandS.HeadHook2
import HandS.HeadEnd
import HandS.HeadWalk
import HandS.Head0
import HandS.Head1
import HandS.Head2
import KE.KNestM
import PySem.Challenge.RW_waitnumbers_k15_one_set_in_several_proce
set_option Elab.async false
set_option linter.all false
set_option maxRecDepth 100000
set_option maxHeartbeats 4000000
namespace Wn
open PySem PySem.Spec PyProof.Rows L2 Evl
def top (i : Nat) : Stmt := PySem.Challenge.pw_waitnumbers_k15_one_set_in_several_proce.main.body.getD i (.Pass ⟨0, 0, 0, 0⟩)
abbrev sBag : Stmt := top 34
abbrev sTake : Stmt := top 35
abbrev sOf : Stmt := top 36
/-! readings with names -/
def rInt1 : List V → Hp → VK → Prop := fun xs H Q => (∃ i, xs = [.int i] ∧ Q (.int i) H) ∨ ∃ k, xs = [.bl k] ∧ Q (.int (if k = true then 1 else 0)) H
def rAbs : List V → Hp → VK → Prop := fun xs H Q => ∃ i, xs = [.int i] ∧ Q (.int (if i < 0 then -i else i)) H
theorem cInt1 {X : Cx} : CallR X (.type "int") rInt1 := call_int1
theorem cAbs {X : Cx} : CallR X (.builtin "abs") rAbs := call_abs
def rIsN : R2 := fun x y H Q => y = .non ∧ Q (.bl (decide (x = .non))) H
def rNotN : R2 := fun x y H Q => y = .non ∧ Q (.bl (!decide (x = .non))) H
def rAddS : R2 := fun x y H Q => ∃ i j, x = .str i ∧ y = .str j ∧ i.length + j.length ≤ sizeLine ∧ Q (.str (i ++ j)) H
def rLenQ (K : PySem.W.Frag) : List V → Hp → VK → Prop := fun xs H Q => ∃ p ys, xs = [.ref p] ∧ (SqL K H p ys ∨ SqT K H p ys) ∧ Q (.int ys.length) H
def rLenS : List V → Hp → VK → Prop := fun xs H Q => ∃ z, xs = [.str z] ∧ z.length ≤ sizeLine ∧ Q (.int z.length) H
def rMax2 : List V → Hp → VK → Prop := fun xs H Q => ∃ i j, xs = [.int i, .int j] ∧ Q (.int (if j > i then j else i)) H
def rMin2 : List V → Hp → VK → Prop := fun xs H Q => ∃ i j, xs = [.int i, .int j] ∧ Q (.int (if j < i then j else i)) H
theorem oIsN {X : Cx} : OpR X (compareOp .Is) rIsN := op_isN
theorem oNotN {X : Cx} : OpR X (compareOp .IsNot) rNotN := op_notN
theorem oAddS {X : Cx} : OpR X (binaryOp .Add) rAddS := op_add_str
theorem cLenQ {X : Cx} : CallR X (.builtin "len") (rLenQ X.K) := call_len_seq
theorem cLenS {X : Cx} : CallR X (.builtin "len") rLenS := call_len_str
theorem cMax2 {X : Cx} (hc : X.calm = true) : CallR X (.builtin "max") rMax2 := call_max2 hc
theorem cMin2 {X : Cx} (hc : X.calm = true) : CallR X (.builtin "min") rMin2 := call_min2 hc
/-! one step of a reading -/
section
variable {σ : L2.St} {H : Hp} {Q : VK} {ta tb te : TE} {tl : TA} {t u : TS} {D : Ends} {c : TT} {r : R2} {v : V} {i : Nat}
theorem g_var (h : σ[i]? = some (some v)) (q : Q v H) : tVar i σ H Q := ⟨v, h, q⟩
theorem g_c (q : Q v H) : tC v σ H Q := q
theorem g_op (q : ta σ H fun x H1 => tb σ H1 fun y H2 => r x y H2 Q) : tOp r ta tb σ H Q := q
theorem g_un {r : V → Hp → VK → Prop} (q : ta σ H fun x H1 => r x H1 Q) : tUn r ta σ H Q := q
theorem g_rI0 {g : Int → Int → V} {a b : Int} (q : Q (g a b) H) : rI0 g (.int a) (.int b) H Q := ⟨a, b, rfl, rfl, q⟩
theorem g_rI {C : Int → Int → Prop} {g : Int → Int → V} {a b : Int} (hc : C a b) (q : Q (g a b) H) : rI C g (.int a) (.int b) H Q := ⟨a, b, rfl, rfl, hc, q⟩
theorem g_mul {a b : Int} (h : (-(2 ^ 64) < a ∧ a < 2 ^ 64) ∨ (-(2 ^ 64) < b ∧ b < 2 ^ 64)) (q : Q (.int (a * b)) H) : rI CMul (fun i j => .int (i * j)) (.int a) (.int b) H Q := ⟨a, b, rfl, rfl, h, q⟩
theorem g_mod {a b : Int} (h : 0 < b) (q : Q (.int (a % b)) H) : rI (fun _ j => 0 < j) (fun i j => .int (i % j)) (.int a) (.int b) H Q := ⟨a, b, rfl, rfl, h, q⟩
theorem g_rEq {x y : V} (h : scal x y = true) (q : Q (.bl (decide (x = y))) H) : rEq x y H Q := ⟨h, q⟩
theorem g_rNe {x y : V} (h : scal x y = true) (q : Q (.bl (!decide (x = y))) H) : rNe x y H Q := ⟨h, q⟩
theorem g_asg {g : TG} (q : te σ H fun x H1 => g x σ H1 D.nx) : tAsg te g D σ H := q
theorem g_name {k : L2.St → Hp → Prop} (q : k (σ.set i (some v)) H) : gName i v σ H k := q
theorem g_seq (q : t { D with nx := u D } σ H) : tSeq t u D σ H := q
theorem g_ret (q : te σ H D.rt) : tRet te D σ H := q
theorem g_retN (q : D.rt .non H) : tRetN D σ H := q
theorem g_next (q : D.nx σ H) : tNext D σ H := q
theorem g_drop (q : te σ H fun _ H1 => D.nx σ H1) : tDrop te D σ H := q
theorem g_nil {k : List V → Hp → Prop} (q : k [] H) : tNil σ H k := q
theorem g_cons {k : List V → Hp → Prop} (q : ta σ H fun x H1 => tl σ H1 fun xs H2 => k (x :: xs) H2) : tCons ta tl σ H k := q
theorem g_cb {r : List V → Hp → VK → Prop} (q : tl σ H fun vs H1 => r vs H1 Q) : tCB r tl σ H Q := q
theorem g_test {k : Bool → Hp → Prop} (q : te σ H fun x H1 => ∃ b, x = .bl b ∧ k b H1) : tTest te σ H k := q
theorem g_tB {k : Bool → Hp → Prop} (q : te σ H fun x H1 => ∃ b, x = .bl b ∧ k b H1) : tB te σ H k := q
theorem g_bl {b : Bool} {k : Bool → Prop} (q : k b) : ∃ z, V.bl b = .bl z ∧ k z := ⟨b, rfl, q⟩
theorem g_if (q : c σ H fun b H1 => if b = true then ta σ H1 Q else tb σ H1 Q) : tIf c ta tb σ H Q := q
theorem g_ifs (q : c σ H fun b H1 => if b = true then t D σ H1 else u D σ H1) : tIfS c t u D σ H := q
theorem g_not {k : Bool → Hp → Prop} (q : c σ H fun b H1 => k (!b) H1) : tNot c σ H k := q
theorem g_part {k : Option Int → Hp → Prop} (q : te σ H fun x H1 => ∃ z, x = .int z ∧ k (some z) H1) : tPart te σ H k := q
theorem g_pint {z : Int} {k : Int → Prop} (q : k z) : ∃ y, V.int z = .int y ∧ k y := ⟨z, rfl, q⟩
theorem g_lst (q : tl σ H fun xs H1 => xs.length ≤ sizeLine ∧ ∀ p, H1 p = none → Q (.ref p) (upd H1 p (.lst xs))) : tLst tl σ H Q := q
theorem g_tup (q : tl σ H fun xs H1 => xs.length ≤ sizeLine ∧ ∀ p, H1 p = none → Q (.ref p) (upd H1 p (.tup xs))) : tTup tl σ H Q := q
theorem g_ixL {K : PySem.W.Frag} {p : Addr} {xs : List V} {z : Int} (h : H p = some (.lst xs)) (a : atI xs z = some v) (q : Q v H) : rIxL K (.ref p) (.int z) H Q := ⟨p, xs, z, v, rfl, rfl, SqL.of h, a, q⟩
theorem cdivw_of {a b : Int} (h0 : 0 < b) (h1 : b < 4611686018427387904) : CDivW a b := wide_div (b := 62) h0 (by omega) (by decide) (by decide)
theorem g_div {a b : Int} (h0 : 0 < b) (h1 : b < 4611686018427387904) (q : Q (.int (a / b)) H) : rI CDivW (fun i j => .int (i / j)) (.int a) (.int b) H Q := ⟨a, b, rfl, rfl, cdivw_of h0 h1, q⟩
theorem g_sub {to ti : TE} {ts : TSet} {k : L2.St → Hp → Prop} (q : to σ H fun o H1 => ti σ H1 fun i H2 => ts o i v H2 fun H3 => k σ H3) : gSub to ti ts v σ H k := q
theorem g_setL {p : Addr} {xs : List V} {z : Int} {j : Nat} {k : Hp → Prop} (h : H p = some (.lst xs)) (a : ixN xs.length z = some j) (q : k (upd H p (.lst (xs.set j v)))) : rSetL (.ref p) (.int z) v H k := ⟨p, xs, z, j, rfl, rfl, h, a, q⟩
theorem g_nopart {k : Option Int → Hp → Prop} (q : k none H) : tNoPart σ H k := q
theorem g_call {sp : Sp} {dvs : List V} {E : XK} (q : tl σ H fun vs H1 => sp (vs ++ dvs) H1 Q E) : tCall sp dvs E tl σ H Q := q
theorem g_rint (z : Int) (q : Q (.int z) H) : rInt1 [.int z] H Q := .inl ⟨z, rfl, q⟩
theorem g_rabs {z : Int} (q : Q (.int (if z < 0 then -z else z)) H) : rAbs [.int z] H Q := ⟨z, rfl, q⟩
theorem g_sl {r : V → Option Int → Option Int → Hp → VK → Prop} {a b : TO} (q : te σ H fun x H1 => a σ H1 fun l H2 => b σ H2 fun h H3 => r x l h H3 Q) : tSl r te a b σ H Q := q
theorem g_rIsN {x : V} (q : Q (.bl (decide (x = .non))) H) : rIsN x .non H Q := ⟨rfl, q⟩
theorem g_rNotN {x : V} (q : Q (.bl (!decide (x = .non))) H) : rNotN x .non H Q := ⟨rfl, q⟩
theorem g_lenL {K : PySem.W.Frag} {p : Addr} {xs : List V} (h : H p = some (.lst xs)) (q : Q (.int xs.length) H) : rLenQ K [.ref p] H Q := ⟨p, xs, rfl, .inl (SqL.of h), q⟩
theorem g_max2 {a b : Int} (q : Q (.int (if b > a then b else a)) H) : rMax2 [.int a, .int b] H Q := ⟨a, b, rfl, q⟩
theorem g_min2 {a b : Int} (q : Q (.int (if b < a then b else a)) H) : rMin2 [.int a, .int b] H Q := ⟨a, b, rfl, q⟩
theorem g_and {t u : TT} {k : Bool → Hp → Prop} (q : t σ H fun b H1 => if b = true then u σ H1 k else k false H1) : tAnd t u σ H k := q
theorem g_or {t u : TT} {k : Bool → Hp → Prop} (q : t σ H fun b H1 => if b = true then k true H1 else u σ H1 k) : tOr t u σ H k := q
theorem g_orV (q : ta σ H fun x H1 => ∃ b, x = .bl b ∧ if b = true then Q (.bl true) H1 else tb σ H1 Q) : tOrV ta tb σ H Q := q
theorem g_andV (q : ta σ H fun x H1 => ∃ b, x = .bl b ∧ if b = true then tb σ H1 Q else Q (.bl false) H1) : tAndV ta tb σ H Q := q
theorem g_notV (q : ta σ H fun x H1 => ∃ b, x = .bl b ∧ Q (.bl (!b)) H1) : tNotV ta σ H Q := q
theorem g_m0 {r : V → List V → Hp → VK → Prop} (q : ta σ H fun x H1 => (∃ a, x = .str a) ∧ r x [] H1 Q) : tM0 r ta σ H Q := q
theorem g_m1 {r : V → List V → Hp → VK → Prop} (q : ta σ H fun x H1 => (∃ a, x = .str a) ∧ tb σ H1 fun y H2 => r x [y] H2 Q) : tM1 r ta tb σ H Q := q
theorem g_isS {z : Str} {c : Prop} (q : c) : (∃ a, V.str z = .str a) ∧ c := ⟨⟨z, rfl⟩, q⟩
theorem g_bT {A B : Prop} (q : A) : if true = true then A else B := iteT q
theorem g_bF {A B : Prop} (q : B) : if false = true then A else B := iteF q
theorem g_bNT {A B : Prop} (q : B) : if (!true) = true then A else B := iteF q
theorem g_bNF {A B : Prop} (q : A) : if (!false) = true then A else B := iteT q
theorem g_bm {K : PySem.W.Frag} {T : String} {r : V → List V → Hp → VK → Prop} (q : ta σ H fun x H1 => tyV K T x H1 ∧ tl σ H1 fun xs H2 => r x xs H2 Q) : tBM K T r ta tl σ H Q := q
theorem g_bm0 {K : PySem.W.Frag} {T : String} {r : V → List V → Hp → VK → Prop} (q : ta σ H fun x H1 => tyV K T x H1 ∧ r x [] H1 Q) : tBM0 K T r ta σ H Q := q
theorem g_tyL {K : PySem.W.Frag} {p : Addr} {xs : List V} {c : Prop} (h : H p = some (.lst xs)) (q : c) : tyV K "list" (.ref p) H ∧ c := ⟨.inl ⟨rfl, _, SqL.of h⟩, q⟩
theorem g_lit {L : List V} {n : Nat} (h : L.length ≤ n) (z : n ≤ 100) : L.length ≤ 100 := Nat.le_trans h z
theorem g_yes {k : Bool → Hp → Prop} (q : k true H) : tYes σ H k := q
theorem g_nes {x : V} {A B : Prop} (q : B) : if (!decide (x = x)) = true then A else B := by
  rw [decide_eq_true rfl]
  exact iteF q
theorem g_es {x : V} {A B : Prop} (q : A) : if decide (x = x) = true then A else B := by
  rw [decide_eq_true rfl]
  exact iteT q
theorem g_callK {sp : Sp} {gV : List V → List V → List V} {E : XK} {tk : TA} (q : tl σ H fun vs H1 => tk σ H1 fun zs H2 => sp (gV vs zs) H2 Q E) : tCallK sp gV E tl tk σ H Q := q
theorem g_isN {x : V} (q : ta σ H fun x H1 => Q (.bl (decide (x = .non))) H1) : tIsN ta σ H Q := q
end
local macro_rules | `(tactic| walk_at "wn1") => `(tactic| first | ((with_reducible show (if (!decide _) = true then _ else _)); refine' g_nes ?_) | ((with_reducible show (if (decide _) = true then _ else _)); refine' g_es ?_) | with_reducible first
  | (refine' g_var ?h ?q; (case h => with_unfolding_all rfl))
  | refine' g_c ?_ | refine' g_op ?_ | refine' g_rI0 ?_ | refine' g_asg ?_ | refine' g_name ?_ | refine' g_seq ?_ | refine' g_ret ?_ | refine' g_retN ?_ | refine' g_next ?_ | refine' g_drop ?_
  | refine' g_nil ?_ | refine' g_cons ?_ | refine' g_cb ?_ | refine' g_test ?_ | refine' g_bl ?_ | refine' g_if ?_ | refine' g_ifs ?_ | refine' g_not ?_ | refine' g_part ?_ | refine' g_pint ?_ | refine' g_nopart ?_ | refine' g_call ?_
  | (refine' g_mul ?h ?q; (case h => with_unfolding_all first | exact Or.inl ⟨by decide, by decide⟩ | exact Or.inr ⟨by decide, by decide⟩ | exact Or.inl ⟨by omega, by omega⟩ | exact Or.inr ⟨by omega, by omega⟩))
  | (refine' g_mod ?h ?q; (case h => with_unfolding_all first | decide | omega))
  | refine' g_rIsN ?_ | refine' g_rNotN ?_ | refine' g_max2 ?_ | refine' g_min2 ?_ | refine' g_and ?_ | refine' g_or ?_ | refine' g_orV ?_ | refine' g_andV ?_ | refine' g_notV ?_ | refine' g_m1 ?_ | refine' g_yes ?_ | refine' g_bm ?_ | refine' g_bm0 ?_
  | (refine' g_tyL ?h ?q; (case h => first | assumption | exact upd_same))
  | refine' g_m0 ?_ | refine' g_tB ?_ | refine' g_isS ?_ | refine' g_bT ?_ | refine' g_bF ?_ | refine' g_bNT ?_ | refine' g_callK ?_ | refine' g_bNF ?_
  | (refine' g_lenL ?h ?q; (case h => first | assumption | exact upd_same))
  | refine' g_un ?_ | refine' g_rint _ ?_ | refine' g_rabs ?_ | refine' g_sl ?_ 
  | (refine' g_ixL ?h ?a ?q; (case h => first | assumption | exact upd_same); (case a => with_unfolding_all rfl))
  | (refine' g_div ?h0 ?h1 ?q; (case h0 => with_unfolding_all first | decide | omega); (case h1 => with_unfolding_all first | decide | omega))
  | refine' g_sub ?_
  | (refine' g_setL ?h ?a ?q; (case h => first | assumption | exact upd_same); (case a => with_unfolding_all rfl))
  | refine' g_lst ?_ | refine' g_tup ?_
  | (refine' g_rEq ?h ?q; (case h => with_unfolding_all rfl)) | (refine' g_rNe ?h ?q; (case h => with_unfolding_all rfl)))
local macro_rules | `(tactic| walk_at "wn") => `(tactic| repeat walk_at "wn1")

/-! the bag of draws: two numbers that are not negative, the second one below 2 ^ 31 -/
def BagAt (H : Hp) (p : Addr) : Prop := ∃ a b : Int, H p = some (.lst [.int a, .int b]) ∧ 0 ≤ a ∧ 0 ≤ b ∧ b < 2147483648
def Dr (p : Addr) (H H' : Hp) : Prop := (∀ a o, a ≠ p → H a = some o → H' a = some o) ∧ BagAt H' p
theorem Dr.refl {p : Addr} {H : Hp} (b : BagAt H p) : Dr p H H := ⟨fun _ _ _ h => h, b⟩
theorem Dr.trans {p : Addr} {H H1 H2 : Hp} (a : Dr p H H1) (b : Dr p H1 H2) : Dr p H H2 := ⟨fun x o n h => b.1 x o n (a.1 x o n h), b.2⟩
theorem Dr.ex {p : Addr} {H H1 : Hp} (b : BagAt H p) (e : Ex H H1) : Dr p H H1 := ⟨fun x o _ h => e x o h, by
  obtain ⟨u, v, h, r⟩ := b
  exact ⟨u, v, e _ _ h, r⟩⟩
theorem seq_at {K : PySem.W.Frag} {H H' : Hp} {l : Addr} {xs : List V} (e : H' l = H l) (h : SqL K H l xs) : SqL K H' l xs := by
  rcases h with (h | ⟨o, h⟩) | h
  · exact .inl (.inl (e.trans h))
  · exact .inl (.inr ⟨o, e.trans h⟩)
  · exact .inr h
theorem seqT_at {K : PySem.W.Frag} {H H' : Hp} {l : Addr} {xs : List V} (e : H' l = H l) (h : SqT K H l xs) : SqT K H' l xs := by
  rcases h with (h | ⟨o, h⟩) | h
  · exact .inl (.inl (e.trans h))
  · exact .inl (.inr ⟨o, e.trans h⟩)
  · exact .inr h
structure DrawTxt (mg : Str → Option Value) : Prop where
  len : mg "len" = none
  enum : mg "enumerate" = none
  int : mg "int" = none
  abs : mg "abs" = none
def spBag (K : PySem.W.Frag) : Sp := fun vs H Q _ => ∃ (a : Addr) (ns : List Int) (i : Nat), vs = [.ref a, .int i] ∧ SqL K H a (ns.map V.int) ∧ ns.length ≤ 63 ∧ i ≤ 100 ∧
  ∀ (H' : Hp) (p : Addr), H p = none → Same H H' → BagAt H' p → Q (.ref p) H'
def spTake : Sp := fun vs H Q _ => ∃ (p : Addr) (m : Int), vs = [.ref p, .int m] ∧ BagAt H p ∧ 0 < m ∧ m < 4611686018427387904 ∧
  ∀ (k : Int) (H' : Hp), 0 ≤ k → k < m → (∀ b, b ≠ p → H' b = H b) → BagAt H' p → Q (.int k) H'
def spOf (K : PySem.W.Frag) : Sp := fun vs H Q _ => ∃ (p l : Addr) (xs : List V), vs = [.ref p, .ref l] ∧ BagAt H p ∧ SqL K H l xs ∧ l ≠ p ∧ 0 < xs.length ∧ xs.length ≤ 1000 ∧
  ∀ (k : Nat) (v : V) (H' : Hp), xs[k]? = some v → (∀ b, b ≠ p → H' b = H b) → BagAt H' p → Q v H'
section
variable {P : Program} {w : World} {K : PySem.W.Frag} {mg : Str → Option Value} {base : Heap}
theorem scBag : FnScope ["_law_script", "_law_at", "_law_cell", "_law_blend", "_law_k", "_law_each"] ["_law_script", "_law_at"] (defScope sBag) := ⟨rfl, rfl, rfl, by decide +kernel, rfl, by decide +kernel, by decide +kernel⟩
theorem okBag {f : Addr} {fd : FuncData} (F : Fun K "_law_bag" "_law_bag" sBag f fd) (T : DrawTxt mg) : FnOk P w K mg base CX0 1 f fd ["_law_script", "_law_at"] (spBag K) := by
  refine F.ok scBag (fun vs H Q E h => ?_) (fun cdv A outer s H vs Q E hr h => ?_)
  · obtain ⟨a, ns, i, rfl, _⟩ := h
    rfl
  · obtain ⟨a, ns, i, rfl, hS, hl, hi, k⟩ := h
    refine ⟨_, pss_cut (ps_set (i := 2) scBag.nd rfl (Or.inl rfl) (pe_ifExp (pt_cmpR op_lt (pv 1) (pe_callB cLenQ (by rfl) T.len PySem.boot_len (pa_cons (pv 0) pa_nil)) (nomark _)) (pe_ix ix_list (pv 0) (pv 1) (fun _ _ => rfl)) pe_int))
      (pss_cons (ps_set (i := 3) scBag.nd rfl (Or.inl rfl) (pe_op op_add (pe_op op_mul pe_int (pv 1)) pe_int))
      (pss_cut (ps_for PassesOwn.never rfl (pi_enum (by rfl) T.enum (pa_cons (pe_slice sl_list (pv 0) po_none (po_some pe_int)) pa_nil)) (pg_tup rfl (pgs_cons (pg_name (i := 4) scBag.nd rfl (Or.inl rfl)) (pgs_cons (pg_name (i := 5) scBag.nd rfl (Or.inl rfl)) pgs_nil)))
        (pss_one (ps_set (i := 3) scBag.nd rfl (Or.inl rfl) (pe_op op_mod (pe_callTy cInt1 (by rfl) T.int PyProof.Rows.boot_int (pa_cons (pe_op op_add (pe_op op_add (pe_op op_add (pe_op op_mul (pv 3) pe_int) (pe_op op_mod (pe_callTy cInt1 (by rfl) T.int PyProof.Rows.boot_int (pa_cons (pv 5) pa_nil)) pe_int)) (pe_op op_mul pe_int (pv 4))) pe_int) pa_nil)) pe_int))))
      (pss_one (ps_ret (pe_lst (pa_cons (pe_ifExp (pt_cmpR op_ge (pe_callB cAbs (by rfl) T.abs (by decide +kernel) (pa_cons (pv 2) pa_nil)) (pe_op op_pow pe_int pe_int) (nomark _)) (pe_callB cAbs (by rfl) T.abs (by decide +kernel) (pa_cons (pv 2) pa_nil)) pe_int) (pa_cons (pv 3) pa_nil))))))), ?_⟩
    refine ⟨fun σ' H' => ∃ c : Int, σ' = [some (.ref a), some (.int i), some (.int c), none, none, none] ∧ H' = H, ?_, ?_⟩
    · walk_at "wn"
      refine ⟨a, _, rfl, .inl hS, ?_⟩
      walk_at "wn"
      refine ite2 (fun hc => ?_) (fun hc => ?_)
      · have hlt : i < (ns.map V.int).length := by have := of_decide_eq_true hc; omega
        rw [List.length_map] at hlt
        walk_at "wn"
        refine ⟨a, _, _, _, rfl, rfl, hS, atI_nat (v := V.int (ns[i])) (by rw [List.getElem?_map, List.getElem?_eq_getElem hlt]; rfl), ?_⟩
        exact ⟨_, rfl, rfl⟩
      · exact ⟨0, rfl, rfl⟩
    · rintro σ' H' ⟨c, rfl, rfl⟩
      walk_at "wn"
      refine ⟨fun σ' H2 => ∃ (b : Int) (u v : Option V), 0 ≤ b ∧ b < 2147483648 ∧ σ' = [some (.ref a), some (.int i), some (.int c), some (.int b), u, v] ∧ Same H' H2, ?_, ?_⟩
      · show tSl _ _ _ _ _ _ _
        walk_at "wn"
        refine ⟨a, _, rfl, hS, fun p hp => ?_⟩
        walk_at "wn"
        refine ⟨p, _, rfl, SqL.of upd_same, ?_⟩
        refine for_it (walk_enum (xs := cutV (ns.map V.int) none (some 40))) (fun j σ' H3 => ∃ (b : Int) (u v : Option V), 0 ≤ b ∧ b < 2147483648 ∧ σ' = [some (.ref a), some (.int i), some (.int c), some (.int b), u, v] ∧ Same (upd H' p (.lst (cutV (ns.map V.int) none (some 40)))) H3) ?_ ?_ ?_ ?_
        · exact ⟨_, none, none, by omega, by omega, rfl, Same.refl _⟩
        · rintro j σ' H3 hj ⟨b, u, v, b0, b1, rfl, sm⟩
          exact sm.seq (SqL.of upd_same)
        · rintro j x σ' H3 H4 hj ⟨b, u, v, b0, b1, rfl, sm⟩ ⟨T1, x1, y1, rfl, nT, rfl, hx, hy⟩
          obtain rfl := Option.some.inj hx
          obtain ⟨z, rfl⟩ : ∃ z, y1 = V.int z := by
            have q : y1 ∈ ns.map V.int := List.mem_of_mem_drop (List.mem_of_mem_take (List.mem_of_getElem? hy))
            obtain ⟨z, _, e⟩ := List.mem_map.mp q
            exact ⟨z, e.symm⟩
          refine ⟨T1, _, rfl, SqT.of upd_same, rfl, _, _, rfl, ?_⟩
          walk_at "wn"
          refine ⟨_, _, rfl, ?_⟩
          walk_at "wn"
          refine ⟨rfl, ?_⟩
          walk_at "wn"
          refine ⟨_, _, _, by omega, by omega, rfl, fun x o hx => ?_⟩
          rw [upd_ne (ne_of_none (sm _ _ hx) nT)]
          exact sm _ _ hx
        · rintro σ' H3 ⟨b, u, v, b0, b1, rfl, sm⟩
          exact ⟨b, u, v, b0, b1, rfl, fun x o hx => sm _ _ (by rw [upd_ne (ne_of_none hx hp)]; exact hx)⟩
      · rintro σ' H2 ⟨b, u, v, b0, b1, rfl, sm⟩
        walk_at "wn"
        refine g_rI ⟨by decide, by decide, by decide⟩ ?_
        walk_at "wn"
        have fin : ∀ z : Int, 0 ≤ z → ([V.int z, V.int b].length ≤ sizeLine ∧ ∀ p, H2 p = none → Q (V.ref p) (upd H2 p (HO.lst [V.int z, V.int b]))) := fun z hz => ⟨by show 2 ≤ sizeLine; decide, fun p hp => k _ p (sm.free hp) (fun x o hx => by
          rw [upd_ne (ne_of_none (sm _ _ hx) hp)]
          exact sm _ _ hx) ⟨z, b, upd_same, hz, b0, b1⟩⟩
        refine ite2 (fun hc => ?_) (fun hc => ?_)
        · walk_at "wn"
          exact fin _ (by split <;> omega)
        · walk_at "wn"
          exact fin 0 (by decide)
theorem scTake : FnScope ["_law_bag_here", "_law_many", "_law_digit"] ["_law_bag_here", "_law_many"] (defScope sTake) := ⟨rfl, rfl, rfl, by decide +kernel, rfl, by decide +kernel, by decide +kernel⟩
theorem okTake {f : Addr} {fd : FuncData} (F : Fun K "_law_take" "_law_take" sTake f fd) (T : DrawTxt mg) : FnOk P w K mg base CX0 1 f fd ["_law_bag_here", "_law_many"] spTake := by
  refine F.ok scTake (fun vs H Q E h => ?_) (fun cdv A outer s H vs Q E hr h => ?_)
  · obtain ⟨a, m, rfl, _⟩ := h
    rfl
  · obtain ⟨p, m, rfl, ⟨a, b, hp, a0, b0, b1⟩, m0, m1, k⟩ := h
    refine ⟨_, pss_cons (ps_if (pt_cmpR op_gt (pe_ix ix_list (pv 0) pe_int (fun _ _ => rfl)) pe_int (nomark _))
        (pss_cons (ps_set (i := 2) scTake.nd rfl (Or.inl rfl) (pe_op op_mod (pe_callTy cInt1 (by rfl) T.int PyProof.Rows.boot_int (pa_cons (pe_ix ix_list (pv 0) pe_int (fun _ _ => rfl)) pa_nil)) (pv 1)))
        (pss_cons (ps_asg (pe_op op_fdivW (pe_ix ix_list (pv 0) pe_int (fun _ _ => rfl)) (pv 1)) (pg_sub (pv 0) pe_int set_list))
        (pss_one (ps_ret (pv 2))))) pss_nil)
      (pss_cons (ps_asg (pe_op op_mod (pe_callTy cInt1 (by rfl) T.int PyProof.Rows.boot_int (pa_cons (pe_op op_add (pe_op op_mul (pe_ix ix_list (pv 0) pe_int (fun _ _ => rfl)) pe_int) pe_int) pa_nil)) pe_int) (pg_sub (pv 0) pe_int set_list))
      (pss_one (ps_ret (pe_op op_mod (pe_op op_fdivW (pe_op op_mod (pe_callTy cInt1 (by rfl) T.int PyProof.Rows.boot_int (pa_cons (pe_op op_mul (pe_op op_fdivW (pe_ix ix_list (pv 0) pe_int (fun _ _ => rfl)) pe_int) pe_int) pa_nil)) pe_int) pe_int) (pv 1))))), ?_⟩
    walk_at "wn"
    refine ite2 (fun hc => ?_) (fun hc => ?_)
    · walk_at "wn"
      refine k _ _ (Int.emod_nonneg _ (by omega)) (Int.emod_lt_of_pos _ m0) (fun x hx => upd_ne hx) ⟨_, _, upd_same, Int.ediv_nonneg a0 (by omega), b0, b1⟩
    · walk_at "wn"
      refine k _ _ (Int.emod_nonneg _ (by omega)) (Int.emod_lt_of_pos _ m0) (fun x hx => upd_ne hx) ⟨_, _, upd_same, a0, by omega, by omega⟩
theorem scOf : FnScope ["_law_bag_here", "_law_some"] ["_law_bag_here", "_law_some"] (defScope sOf) := ⟨rfl, rfl, rfl, by decide +kernel, rfl, by decide +kernel, by decide +kernel⟩
theorem okOf {f fT : Addr} {fd fdT : FuncData} (F : Fun K "_law_of" "_law_of" sOf f fd) (T : DrawTxt mg) (FT : Fun K "_law_take" "_law_take" sTake fT fdT) (gT : mg "_law_take" = some (.ref fT)) (bT : Binds K fdT ["_law_bag_here", "_law_many"] []) : FnOk P w K mg base CX0 2 f fd ["_law_bag_here", "_law_some"] (spOf K) := by
  have GT : FnOk P w K mg base CX0 1 fT fdT ["_law_bag_here", "_law_many"] spTake := okTake FT T
  refine F.ok scOf (fun vs H Q E h => ?_) (fun cdv A outer s H vs Q E hr h => ?_)
  · obtain ⟨a, l, xs, rfl, _⟩ := h
    rfl
  · obtain ⟨p, l, xs, rfl, hb, hx, hl, l0, l1, k⟩ := h
    refine ⟨_, pss_one (ps_ret (pe_ix ix_seq (pv 1) (pe_call GT hr (by rfl) gT FT.kp bT .nil pass0 (pa_cons (pv 0) (pa_cons (pe_callB cLenQ (by rfl) T.len PySem.boot_len (pa_cons (pv 1) pa_nil)) pa_nil))) (fun _ _ => rfl))), ?_⟩
    walk_at "wn"
    refine ⟨l, xs, rfl, .inl hx, ?_⟩
    walk_at "wn"
    refine ⟨p, _, rfl, hb, by omega, by omega, fun i H1 i0 i1 he hb1 => ?_⟩
    obtain ⟨j, rfl⟩ := Int.eq_ofNat_of_zero_le i0
    have hj : j < xs.length := by omega
    exact .inl ⟨l, xs, _, xs[j], rfl, rfl, seq_at (he l hl) hx, atI_nat (List.getElem?_eq_getElem hj), k j _ H1 (List.getElem?_eq_getElem hj) he hb1⟩
end

def clsBody : Stmt → List Stmt
  | .ClassDef _ _ _ b _ _ _ _ _ _ _ => b
  | _ => []
def meth (i j : Nat) : Stmt := (clsBody (top i)).getD j (.Pass ⟨0, 0, 0, 0⟩)
abbrev sIsInteger : Stmt := top 21
abbrev sIsBetween : Stmt := top 22
abbrev sIsCount : Stmt := top 23
abbrev sIsLabel : Stmt := top 24
abbrev sIsWord : Stmt := top 25
abbrev sRegInit : Stmt := meth 27 0
abbrev sWsInit : Stmt := meth 28 0
abbrev sLabelOf : Stmt := meth 28 2
abbrev sPut : Stmt := meth 28 3
abbrev sAppend : Stmt := meth 28 4
abbrev sNotice : Stmt := meth 28 7
abbrev sReports : Stmt := meth 28 8
abbrev sSettle : Stmt := meth 28 9
/-! own __contains__ -/
def rOwnNotIn (C : Addr) (sp : Sp) : R2 := fun x y H Q => ∃ a dx fs, y = .ref a ∧ H a = some (.ins C dx fs) ∧ sp [.ref a, x] H (fun v H' => ∃ b, v = .bl b ∧ Q (.bl (!b)) H') fun _ _ _ => False
theorem op_ownNotIn {X : Cx} {CX : CXT} {k : Nat} {C f : Addr} {fd : FuncData} {ps : List Str} {sp : Sp} (F : FnOk X.prog X.w X.K X.mg X.base CX k f fd ps sp) (hr : Room k X.A)
    (hs : PySem.W.findIn X.K (.ref C) "__contains__" = some (some (.ref f))) (hf : PySem.W.isFn X.K (.ref f) = true) (hb : Binds X.K fd ps []) (hx : Passes CX X fun _ _ _ => False) : OpR X (compareOp .NotIn) (rOwnNotIn C sp) := by
  intro pins s σ H x y v u Q I rx ry d
  obtain ⟨a, dx, fs, rfl, ha, hsp⟩ := d
  cases ry
  obtain ⟨mA, J, _⟩ := ins_get I.hok ha
  obtain ⟨od, J, _⟩ := J.look
  obtain ⟨m, hF⟩ := I.fr
  refine PySem.W.notIn_K hF I.ok.mod.kin J hs hf ?_
  have hl := F.len _ _ _ _ hsp
  have r2 : Vals [V.ref a, x] [Value.ref a, v] := .cons rfl (.cons rx .nil)
  refine wpAny_call (codeAny_mono (F.run X.A X.stack s H ⟨[.ref a, v], []⟩ [.ref a, v] [.ref a, x] _ _ hr I.env0 (by
    have := hb s [.ref a, v] I.kIn (by simpa using hl)
    simpa using this) r2 hsp) fun r s' hq => ?_)
  cases r with
  | error e => exact hx pins σ H s e s' I hq
  | ok fl =>
    cases fl with
    | ret w =>
      obtain ⟨z, H', I', rz, b, ez, q⟩ := I.after hq
      subst ez
      cases rz
      exact wpAny_truthy_bool ⟨.bl (!b), H', I', rfl, q⟩
    | next => exact False.elim hq
    | brk => exact False.elim hq
    | cont => exact False.elim hq
section
variable {P : Program} {w : World} {K : PySem.W.Frag} {mg : Str → Option Value} {base : Heap}
structure ChkTxt (K : PySem.W.Frag) (mg : Str → Option Value) : Prop where
  isin : mg "isinstance" = none
  int : mg "int" = none
  bool : mg "bool" = none
  count : ∃ t, mg "MOST_COUNT" = some (.int 1000000 t)
  label : ∃ t, mg "MOST_LABEL" = some (.int 999999 t)
  words : ∃ a, mg "WORDS" = some (.ref a) ∧ ∀ H, SqT K H a [.str "level", .str "edge", .str "once"]
def spIsInteger : Sp := fun vs H Q _ => ∃ i : Int, vs = [.int i] ∧ Q (.bl true) H
theorem scIsInteger : FnScope ["x"] ["x"] (defScope sIsInteger) := ⟨rfl, rfl, rfl, by decide +kernel, rfl, by decide +kernel, by decide +kernel⟩
theorem okIsInteger {f : Addr} {fd : FuncData} (F : Fun K "is_integer" "is_integer" sIsInteger f fd) (T : ChkTxt K mg) : FnOk P w K mg base CX0 1 f fd ["x"] spIsInteger := by
  refine F.ok scIsInteger (fun vs H Q E h => ?_) (fun cdv A outer s H vs Q E hr h => ?_)
  · obtain ⟨x, rfl, _⟩ := h
    rfl
  · obtain ⟨i, rfl, k⟩ := h
    refine ⟨_, pss_one (ps_ret (pe_and (pe_callB call_isi (by rfl) T.isin PyProof.Rows.boot_isinstance (pa_cons (pv 0) (pa_cons (pe_bltn (v := .ty "int") (by rfl) T.int PyProof.Rows.boot_int rfl) pa_nil))) (pe_one (pe_not (pe_callB call_isi (by rfl) T.isin PyProof.Rows.boot_isinstance (pa_cons (pv 0) (pa_cons (pe_bltn (v := .ty "bool") (by rfl) T.bool (by decide +kernel) rfl) pa_nil))))))), ?_⟩
    refine ⟨_, rfl, _, _, _, _, true, rfl, .ty "int", .base (.int i), kit_ty (by decide +kernel), ?_⟩
    refine ⟨_, rfl, _, rfl, _, _, _, _, false, rfl, .ty "bool", .base (.int i), kit_ty (by decide +kernel), ?_⟩
    exact ⟨_, rfl, k⟩
def spIsBetween : Sp := fun vs H Q _ => ∃ i a b : Int, vs = [.int i, .int a, .int b] ∧ Q (.bl (decide (a ≤ i) && decide (i ≤ b))) H
theorem scIsBetween : FnScope ["x", "least", "most"] ["x", "least", "most"] (defScope sIsBetween) := ⟨rfl, rfl, rfl, by decide +kernel, rfl, by decide +kernel, by decide +kernel⟩
theorem okIsBetween {f fI : Addr} {fd fdI : FuncData} (F : Fun K "is_between" "is_between" sIsBetween f fd) (GI : FnOk P w K mg base CX0 1 fI fdI ["x"] spIsInteger) (kI : PySem.W.keepIn K (.ref fI) = true) (gI : mg "is_integer" = some (.ref fI)) (bI : Binds K fdI ["x"] []) :
    FnOk P w K mg base CX0 2 f fd ["x", "least", "most"] spIsBetween := by
  refine F.ok scIsBetween (fun vs H Q E h => ?_) (fun cdv A outer s H vs Q E hr h => ?_)
  · obtain ⟨x, y, z, rfl, _⟩ := h
    rfl
  · obtain ⟨i, a, b, rfl, k⟩ := h
    refine ⟨_, pss_one (ps_ret (pe_and (pe_call GI hr (by rfl) gI kI bI .nil pass0 (pa_cons (pv 0) pa_nil)) (pe_one (pe_chain op_le op_le (pv 1) (pv 0) (pv 2))))), ?_⟩
    walk_at "wn"
    refine ⟨i, rfl, ?_⟩
    walk_at "wn"
    refine ⟨_, rfl, _, rfl, a, i, rfl, rfl, _, rfl, ?_⟩
    refine ite2 (fun hc => ?_) (fun hc => ?_)
    · rw [hc, Bool.true_and] at k
      exact ⟨_, rfl, i, b, rfl, rfl, k⟩
    · rw [Bool.eq_false_iff.mpr hc, Bool.false_and] at k
      exact k
def spIsCount : Sp := fun vs H Q _ => ∃ i : Int, vs = [.int i] ∧ Q (.bl (decide (1 ≤ i) && decide (i ≤ 1000000))) H
theorem scIsCount : FnScope ["x"] ["x"] (defScope sIsCount) := ⟨rfl, rfl, rfl, by decide +kernel, rfl, by decide +kernel, by decide +kernel⟩
theorem okIsCount {f fB : Addr} {fd fdB : FuncData} (F : Fun K "is_count" "is_count" sIsCount f fd) (T : ChkTxt K mg) (GB : FnOk P w K mg base CX0 2 fB fdB ["x", "least", "most"] spIsBetween) (kB : PySem.W.keepIn K (.ref fB) = true) (gB : mg "is_between" = some (.ref fB)) (bB : Binds K fdB ["x", "least", "most"] []) :
    FnOk P w K mg base CX0 3 f fd ["x"] spIsCount := by
  refine F.ok scIsCount (fun vs H Q E h => ?_) (fun cdv A outer s H vs Q E hr h => ?_)
  · obtain ⟨x, rfl, _⟩ := h
    rfl
  · obtain ⟨i, rfl, k⟩ := h
    obtain ⟨t, ht⟩ := T.count
    refine ⟨_, pss_one (ps_ret (pe_call GB hr (by rfl) gB kB bB .nil pass0 (pa_cons (pv 0) (pa_cons pe_int (pa_cons (pe_glob (v := .int 1000000) (by rfl) ht ⟨_, rfl⟩) pa_nil))))), ?_⟩
    walk_at "wn"
    exact ⟨i, 1, 1000000, rfl, k⟩
def spIsLabel : Sp := fun vs H Q _ => ∃ i : Int, vs = [.int i] ∧ Q (.bl (decide (0 ≤ i) && decide (i ≤ 999999))) H
theorem scIsLabel : FnScope ["x"] ["x"] (defScope sIsLabel) := ⟨rfl, rfl, rfl, by decide +kernel, rfl, by decide +kernel, by decide +kernel⟩
theorem okIsLabel {f fB : Addr} {fd fdB : FuncData} (F : Fun K "is_label" "is_label" sIsLabel f fd) (T : ChkTxt K mg) (GB : FnOk P w K mg base CX0 2 fB fdB ["x", "least", "most"] spIsBetween) (kB : PySem.W.keepIn K (.ref fB) = true) (gB : mg "is_between" = some (.ref fB)) (bB : Binds K fdB ["x", "least", "most"] []) :
    FnOk P w K mg base CX0 3 f fd ["x"] spIsLabel := by
  refine F.ok scIsLabel (fun vs H Q E h => ?_) (fun cdv A outer s H vs Q E hr h => ?_)
  · obtain ⟨x, rfl, _⟩ := h
    rfl
  · obtain ⟨i, rfl, k⟩ := h
    obtain ⟨t, ht⟩ := T.label
    refine ⟨_, pss_one (ps_ret (pe_call GB hr (by rfl) gB kB bB .nil pass0 (pa_cons (pv 0) (pa_cons pe_int (pa_cons (pe_glob (v := .int 999999) (by rfl) ht ⟨_, rfl⟩) pa_nil))))), ?_⟩
    walk_at "wn"
    exact ⟨i, 0, 999999, rfl, k⟩
def wordsL : List Str := ["level", "edge", "once"]
def spIsWord : Sp := fun vs H Q _ => ∃ x : Str, vs = [.str x] ∧ x ∈ wordsL ∧ Q (.bl true) H
theorem word_in : ∀ x ∈ wordsL, inV (.str x) [.str "level", .str "edge", .str "once"] = true := by decide +kernel
theorem scIsWord : FnScope ["x"] ["x"] (defScope sIsWord) := ⟨rfl, rfl, rfl, by decide +kernel, rfl, by decide +kernel, by decide +kernel⟩
theorem okIsWord {f : Addr} {fd : FuncData} (F : Fun K "is_word" "is_word" sIsWord f fd) (T : ChkTxt K mg) : FnOk P w K mg base CX0 1 f fd ["x"] spIsWord := by
  refine F.ok scIsWord (fun vs H Q E h => ?_) (fun cdv A outer s H vs Q E hr h => ?_)
  · obtain ⟨x, rfl, _⟩ := h
    rfl
  · obtain ⟨x, rfl, hx, k⟩ := h
    obtain ⟨aW, gW, sW⟩ := T.words
    refine ⟨_, pss_one (ps_ret (pe_cmpR op_in_seq (pv 0) (pe_glob (v := .ref aW) (by rfl) gW rfl) (by rfl))), ?_⟩
    walk_at "wn"
    refine ⟨aW, _, rfl, .inr (sW _), rfl, by decide, ?_⟩
    show Q (.bl (inV _ _)) H
    rw [word_in x hx]
    exact k
end

/-! the classes of the program -/
structure ClsF (K : PySem.W.Frag) (C : Addr) (fs : List Str) : Prop where
  cl : Cls K C
  no : ∀ f ∈ fs, NoAttr K C f
abbrev regF : List Str := ["number", "source", "word", "armed"]
abbrev wsF : List Str := ["entries", "queue"]
abbrev sysF : List Str := ["process_limit", "number_limit", "tables", "sources", "sets", "next_thing"]
def regO (C dx : Addr) (n s : Int) (wd : Str) (ar : Bool) : HO := .ins C dx [("number", .int n), ("source", .int s), ("word", .str wd), ("armed", .bl ar)]
def wsO (C dx e q : Addr) : HO := .ins C dx [("entries", .ref e), ("queue", .ref q)]
theorem Same.new' {H : Hp} {l : Addr} {o : HO} (hl : H l = none) : Same H (upd H l o) := fun b u e => by rw [upd_ne (ne_of_none e hl)]; exact e
theorem inV_int (l : Int) : ∀ qs : List Int, inV (.int l) (qs.map V.int) = decide (l ∈ qs)
  | [] => rfl
  | x :: qs => by
    have ih := inV_int l qs
    unfold inV at ih ⊢
    rw [List.map_cons, List.any_cons, ih]
    have e : eqV (V.int x) (V.int l) = decide (x = l) := rfl
    rw [e]
    by_cases h : x = l
    · rw [decide_eq_true h, Bool.true_or]
      exact (decide_eq_true (by rw [h]; exact List.mem_cons_self)).symm
    · rw [decide_eq_false h, Bool.false_or]
      by_cases h2 : l ∈ qs
      · rw [decide_eq_true h2]
        exact (decide_eq_true (List.mem_cons_of_mem _ h2)).symm
      · rw [decide_eq_false h2]
        exact (decide_eq_false fun z => (List.mem_cons.mp z).elim (fun e => h e.symm) h2).symm
theorem flat_ints (qs : List Int) : (qs.map V.int).all flatV = true := by
  rw [List.all_map, List.all_eq_true]
  intro x _
  rfl
section
variable {P : Program} {w : World} {K : PySem.W.Frag} {mg : Str → Option Value} {base : Heap} {CR CW : Addr}
/-! Registration -/
def spRegInit (CR : Addr) : Sp := fun vs H Q _ => ∃ (a dx : Addr) (n s : Int) (wd : Str) (ar : Bool), vs = [.ref a, .int n, .int s, .str wd, .bl ar] ∧ H a = some (.ins CR dx []) ∧
  ∀ H', (∀ b, b ≠ a → H' b = H b) → H' a = some (regO CR dx n s wd ar) → Q .non H'
theorem scRegInit : FnScope ["self", "number", "source", "word", "armed"] ["self", "number", "source", "word", "armed"] (defScope sRegInit) := ⟨rfl, rfl, rfl, by decide +kernel, rfl, by decide +kernel, by decide +kernel⟩
theorem okRegInit {f : Addr} {fd : FuncData} (F : Fun K "__init__" "Registration.__init__" sRegInit f fd) (T : ClsF K CR regF) : FnOk P w K mg base CX0 1 f fd ["self", "number", "source", "word", "armed"] (spRegInit CR) := by
  refine F.ok scRegInit (fun vs H Q E h => ?_) (fun cdv A outer s H vs Q E hr h => ?_)
  · obtain ⟨_, _, _, _, _, _, rfl, _⟩ := h
    rfl
  · obtain ⟨a, dx, n, s, wd, ar, rfl, ha, k⟩ := h
    refine ⟨_, pss_cons (ps_fld (pv 0) (pv 1) rfl) (pss_cons (ps_fld (pv 0) (pv 2) rfl) (pss_cons (ps_fld (pv 0) (pv 3) rfl) (pss_one (ps_fld (pv 0) (pv 4) rfl)))), ?_⟩
    refine ⟨_, rfl, _, rfl, a, CR, dx, _, rfl, ha, T.cl, T.no _ (by decide), by decide, ?_⟩
    refine ⟨_, rfl, _, rfl, a, CR, dx, _, rfl, upd_same, T.cl, T.no _ (by decide), by show 1 < 1000; decide, ?_⟩
    refine ⟨_, rfl, _, rfl, a, CR, dx, _, rfl, upd_same, T.cl, T.no _ (by decide), by show 2 < 1000; decide, ?_⟩
    refine ⟨_, rfl, _, rfl, a, CR, dx, _, rfl, upd_same, T.cl, T.no _ (by decide), by show 3 < 1000; decide, ?_⟩
    exact k _ (fun b hb => by rw [upd_ne hb, upd_ne hb, upd_ne hb, upd_ne hb]) upd_same
/-! WaitingSet -/
def spWsInit (CW : Addr) : Sp := fun vs H Q _ => ∃ (a dx : Addr), vs = [.ref a] ∧ H a = some (.ins CW dx []) ∧
  ∀ H' e q, H e = none → H q = none → H' e = some (.dK []) → H' q = some (.lst []) → H' a = some (wsO CW dx e q) → (∀ b, b ≠ a → b ≠ e → b ≠ q → H' b = H b) → Q .non H'
theorem scWsInit : FnScope ["self"] ["self"] (defScope sWsInit) := ⟨rfl, rfl, rfl, by decide +kernel, rfl, by decide +kernel, by decide +kernel⟩
theorem okWsInit {f : Addr} {fd : FuncData} (F : Fun K "__init__" "WaitingSet.__init__" sWsInit f fd) (T : ClsF K CW wsF) : FnOk P w K mg base CX0 1 f fd ["self"] (spWsInit CW) := by
  refine F.ok scWsInit (fun vs H Q E h => ?_) (fun cdv A outer s H vs Q E hr h => ?_)
  · obtain ⟨_, _, rfl, _⟩ := h
    rfl
  · obtain ⟨a, dx, rfl, ha, k⟩ := h
    refine ⟨_, pss_cons (ps_fld (pv 0) pe_dnewK rfl) (pss_one (ps_fld (pv 0) (pe_lst pa_nil) rfl)), ?_⟩
    intro e he
    have nae : a ≠ e := ne_of_none ha he
    refine ⟨_, rfl, a, CW, dx, _, rfl, by rw [upd_ne nae]; exact ha, T.cl, T.no _ (by decide), by decide, ?_⟩
    refine ⟨Nat.zero_le _, fun q hq => ?_⟩
    have nqa : q ≠ a := fun z => by rw [z, upd_same] at hq; cases hq
    rw [upd_ne nqa] at hq
    have nqe : q ≠ e := fun z => by rw [z, upd_same] at hq; cases hq
    rw [upd_ne nqe] at hq
    refine ⟨_, rfl, a, CW, dx, _, rfl, by rw [upd_ne (Ne.symm nqa)]; exact upd_same, T.cl, T.no _ (by decide), by show 1 < 1000; decide, ?_⟩
    refine k _ e q he hq ?_ ?_ upd_same (fun b h1 h2 h3 => ?_)
    · rw [upd_ne (Ne.symm nae), upd_ne (Ne.symm nqe), upd_ne (Ne.symm nae), upd_same]
    · rw [upd_ne nqa, upd_same]
    · rw [upd_ne h1, upd_ne h3, upd_ne h1, upd_ne h2]
/-! append_pending -/
def qAdd (l : Int) (qs : List Int) : List Int := if l ∈ qs then qs else qs ++ [l]
def spAppend (CW : Addr) : Sp := fun vs H Q _ => ∃ (a dx e q : Addr) (l : Int) (qs : List Int), vs = [.ref a, .int l] ∧ H a = some (wsO CW dx e q) ∧ H q = some (.lst (qs.map V.int)) ∧ qs.length ≤ 10000 ∧
  ∀ H', H' q = some (.lst ((qAdd l qs).map V.int)) → (∀ b, b ≠ q → H' b = H b) → Q .non H'
theorem scAppend : FnScope ["self", "label"] ["self", "label"] (defScope sAppend) := ⟨rfl, rfl, rfl, by decide +kernel, rfl, by decide +kernel, by decide +kernel⟩
theorem okAppend {f : Addr} {fd : FuncData} (F : Fun K "append_pending" "WaitingSet.append_pending" sAppend f fd) (T : ClsF K CW wsF) : FnOk P w K mg base CX0 1 f fd ["self", "label"] (spAppend CW) := by
  refine F.ok scAppend (fun vs H Q E h => ?_) (fun cdv A outer s H vs Q E hr h => ?_)
  · obtain ⟨_, _, _, _, _, _, rfl, _⟩ := h
    rfl
  · obtain ⟨a, dx, e, q, l, qs, rfl, ha, hq, hl, k⟩ := h
    refine ⟨_, pss_one (ps_if (pt_cmpR op_notIn_seq (pv 1) (pe_fld (pv 0) rfl) (by rfl)) (pss_one (ps_expr (pe_bm PySem.F.plainAttrs_list PySem.F.slot_list_append PySem.F.type_list_append mt_append (pe_fld (pv 0) rfl) (pa_cons (pv 1) pa_nil)))) pss_nil), ?_⟩
    walk_at "wn"
    refine ⟨_, rfl, a, CW, dx, _, _, rfl, ha, T.cl, T.no _ (by decide), rfl, ?_⟩
    refine ⟨q, qs.map V.int, rfl, .inl (SqL.of hq), rfl, flat_ints qs, ?_⟩
    refine ⟨_, rfl, ?_⟩
    rw [inV_int]
    by_cases h : l ∈ qs
    · rw [decide_eq_true h]
      walk_at "wn"
      refine k H ?_ fun _ _ => rfl
      unfold qAdd
      rw [if_pos h]
      exact hq
    · rw [decide_eq_false h]
      walk_at "wn"
      refine ⟨_, rfl, a, CW, dx, _, _, rfl, ha, T.cl, T.no _ (by decide), rfl, ?_⟩
      refine ⟨.inl ⟨rfl, _, SqL.of hq⟩, ?_⟩
      refine ⟨_, rfl, q, _, _, rfl, rfl, hq, by rw [List.length_map, sizeLine_eq]; omega, ?_⟩
      refine k _ ?_ fun b hb => upd_ne hb
      unfold qAdd
      rw [if_neg h, upd_same, List.map_append]
      rfl
end

/-- a registration as data -/
structure Reg where
  num : Int
  src : Int
  word : Str
  armed : Bool
/-- the entries: labels, with what stands at the address of each -/
def entKV (ls : List Int) (ad : Int → Addr) : List (Key × V) := ls.map fun l => (Sum.inl l, .ref (ad l))
theorem ent_val (ls : List Int) (ad : Int → Addr) (l : Int) : valV (entKV ls ad) (Sum.inl l) = if l ∈ ls then some (.ref (ad l)) else none := by
  induction ls with
  | nil => rfl
  | cons x ls ih =>
    unfold entKV at ih ⊢
    rw [List.map_cons]
    by_cases h : x = l
    · subst h
      rw [valV_pos rfl, if_pos List.mem_cons_self]
    · rw [valV_neg (fun z => h (Sum.inl.inj z)), ih]
      by_cases h2 : l ∈ ls
      · rw [if_pos h2, if_pos (List.mem_cons_of_mem _ h2)]
      · rw [if_neg h2, if_neg fun z => (List.mem_cons.mp z).elim (fun e => h e.symm) h2]
theorem ent_put (ls : List Int) (ad : Int → Addr) (l : Int) (b : Addr) : putK (entKV ls ad) (Sum.inl l) (.ref b) = entKV (if l ∈ ls then ls else ls ++ [l]) (fun j => if j = l then b else ad j) := by
  unfold putK
  rw [valV_any, ent_val]
  by_cases h : l ∈ ls
  · rw [if_pos h, if_pos h]
    show List.map _ (entKV ls ad) = _
    unfold entKV
    rw [List.map_map]
    refine List.map_congr_left fun x _ => ?_
    by_cases e : x = l
    · show (if (Sum.inl x : Key) = Sum.inl l then _ else _) = _
      rw [if_pos (by rw [e])]
      show (_, V.ref b) = (_, V.ref (if x = l then b else ad x))
      rw [if_pos e]
    · show (if (Sum.inl x : Key) = Sum.inl l then _ else _) = _
      rw [if_neg (fun z => e (Sum.inl.inj z))]
      show _ = (_, V.ref (if x = l then b else ad x))
      rw [if_neg e]
  · rw [if_neg h, if_neg h]
    show entKV ls ad ++ _ = _
    unfold entKV
    rw [List.map_append]
    have e1 : ls.map (fun j => ((Sum.inl j : Key), V.ref (if j = l then b else ad j))) = ls.map fun j => (Sum.inl j, V.ref (ad j)) := List.map_congr_left fun x hx => by rw [if_neg fun z : x = l => h (by rw [← z]; exact hx)]
    rw [e1]
    congr 1
    show [(_, V.ref b)] = [(_, V.ref (if l = l then b else ad l))]
    rw [if_pos rfl]
/-- at the labels' addresses stand the registrations -/
def RegsAt (CR : Addr) (H : Hp) (ls : List Int) (ad : Int → Addr) (reg : Int → Reg) : Prop := ∀ l ∈ ls, ∃ dx, H (ad l) = some (regO CR dx (reg l).num (reg l).src (reg l).word (reg l).armed)
theorem RegsAt.same {CR : Addr} {H H' : Hp} {ls : List Int} {ad : Int → Addr} {reg : Int → Reg} (r : RegsAt CR H ls ad reg) (s : ∀ b C dx fs, H b = some (.ins C dx fs) → C = CR → H' b = H b) : RegsAt CR H' ls ad reg := fun l hl => by
  obtain ⟨dx, e⟩ := r l hl
  exact ⟨dx, (s _ _ _ _ e rfl).trans e⟩
section
variable {P : Program} {w : World} {K : PySem.W.Frag} {mg : Str → Option Value} {base : Heap} {CR CW : Addr}
theorem str_inj' {x y : Str} : V.str x = V.str y ↔ x = y := ⟨fun h => by cases h; rfl, fun h => by rw [h]⟩
def settled (reg : Int → Reg) (l : Int) : Int → Reg := fun j => if j = l ∧ (reg l).word = "once" then { reg l with armed := false } else reg j
theorem settled_at {reg : Int → Reg} {l : Int} (h : (reg l).word = "once") : settled reg l l = { reg l with armed := false } := if_pos ⟨rfl, h⟩
theorem settled_ne {reg : Int → Reg} {l j : Int} (h : j ≠ l) : settled reg l j = reg j := if_neg fun z => h z.1
theorem settled_no {reg : Int → Reg} {l j : Int} (h : (reg l).word ≠ "once") : settled reg l j = reg j := if_neg fun z => h z.2
/-! put -/
def spPut (CW : Addr) : Sp := fun vs H Q _ => ∃ (a dx e q b : Addr) (l : Int) (r : Bool) (qs : List Int) (kvs : List (Key × V)), vs = [.ref a, .int l, .ref b, .bl r] ∧ H a = some (wsO CW dx e q) ∧ H q = some (.lst (qs.map V.int)) ∧ H e = some (.dK kvs) ∧ qs.length ≤ 10000 ∧ kvs.length ≤ 10000 ∧
  ∀ H', H' e = some (.dK (putK kvs (Sum.inl l) (.ref b))) → H' q = some (.lst ((if r = true then qAdd l qs else qs).map V.int)) → (∀ x, x ≠ e → x ≠ q → H' x = H x) → Q .non H'
theorem scPut : FnScope ["self", "label", "kept", "ready"] ["self", "label", "kept", "ready"] (defScope sPut) := ⟨rfl, rfl, rfl, by decide +kernel, rfl, by decide +kernel, by decide +kernel⟩
theorem okPut {f fA : Addr} {fd fdA : FuncData} (F : Fun K "put" "WaitingSet.put" sPut f fd) (T : ClsF K CW wsF) (GA : FnOk P w K mg base CX0 1 fA fdA ["self", "label"] (spAppend CW)) (mA : Meth K CW "append_pending" fA) (bA : Binds K fdA ["self", "label"] []) :
    FnOk P w K mg base CX0 2 f fd ["self", "label", "kept", "ready"] (spPut CW) := by
  refine F.ok scPut (fun vs H Q E h => ?_) (fun cdv A outer s H vs Q E hr h => ?_)
  · obtain ⟨_, _, _, _, _, _, _, _, _, rfl, _⟩ := h
    rfl
  · obtain ⟨a, dx, e, q, b, l, r, qs, kvs, rfl, ha, hq, he, hl, hl2, k⟩ := h
    have hu := hu_of hr
    refine ⟨_, pss_cons (ps_dput hu (pe_fld (pv 0) rfl) (pv 1) (pv 2) rfl) (pss_one (ps_if (pt_val (pv 3)) (pss_one (ps_expr (pe_meth (pv 0) T.cl mA GA hr bA .nil pass0 (pa_cons (pv 1) pa_nil)))) pss_nil)), ?_⟩
    have nae : a ≠ e := ne_of ha he (by intro z; cases z)
    have nqe : q ≠ e := ne_of hq he (by intro z; cases z)
    refine ⟨_, rfl, _, rfl, a, CW, dx, _, _, rfl, ha, T.cl, T.no _ (by decide), rfl, ?_⟩
    refine ⟨_, rfl, e, _, rfl, DPut.k (k := Sum.inl l) he (by rw [sizeLine_eq]; omega), ?_⟩
    refine ⟨_, rfl, r, rfl, ?_⟩
    have hq1 : upd H e (.dK (putK kvs (Sum.inl l) (.ref b))) q = some (.lst (qs.map V.int)) := by rw [upd_ne nqe]; exact hq
    cases r with
    | true =>
      walk_at "wn"
      refine ⟨_, rfl, a, dx, _, rfl, by rw [upd_ne nae]; exact ha, rfl, ?_⟩
      walk_at "wn"
      refine ⟨a, dx, e, q, l, qs, rfl, by rw [upd_ne nae]; exact ha, hq1, hl, fun H' h1 h2 => ?_⟩
      refine k H' ?_ h1 fun x n1 n2 => ?_
      · rw [h2 e (Ne.symm nqe), upd_same]
      · rw [h2 x n2, upd_ne n1]
    | false =>
      walk_at "wn"
      exact k _ upd_same hq1 fun x n1 n2 => upd_ne n1
/-! settle -/
def spSettle (CW CR : Addr) : Sp := fun vs H Q _ => ∃ (a dx e q : Addr) (l : Int) (qs ls : List Int) (ad : Int → Addr) (reg : Int → Reg), vs = [.ref a, .int l] ∧ H a = some (wsO CW dx e q) ∧ H q = some (.lst (qs.map V.int)) ∧ H e = some (.dK (entKV ls ad)) ∧ RegsAt CR H ls ad reg ∧ l ∈ ls ∧
  CW ≠ CR ∧ qs.length ≤ 10000 ∧ ls.length ≤ 10000 ∧
  ∀ H' ad', H' e = some (.dK (entKV ls ad')) → H' q = some (.lst ((if (reg l).word = "level" then qs ++ [l] else qs).map V.int)) → (∀ j, j ≠ l → ad' j = ad j) → (ad' l = ad l ∨ H (ad' l) = none) →
    RegsAt CR H' ls ad' (settled reg l) → (∀ x o, x ≠ e → x ≠ q → H x = some o → H' x = some o) → Q .non H'
theorem scSettle : FnScope ["self", "label", "kept"] ["self", "label"] (defScope sSettle) := ⟨rfl, rfl, rfl, by decide +kernel, rfl, by decide +kernel, by decide +kernel⟩
theorem okSettle {f fI : Addr} {fd fdI : FuncData} (F : Fun K "settle" "WaitingSet.settle" sSettle f fd) (T : ClsF K CW wsF) (TR : ClsF K CR regF) (gR : mg "Registration" = some (.ref CR)) (M : Mk K CR fI) (GI : FnOk P w K mg base CX0 1 fI fdI ["self", "number", "source", "word", "armed"] (spRegInit CR)) (bI : Binds K fdI ["self", "number", "source", "word", "armed"] []) :
    FnOk P w K mg base CX0 3 f fd ["self", "label"] (spSettle CW CR) := by
  refine F.ok scSettle (fun vs H Q E h => ?_) (fun cdv A outer s H vs Q E hr h => ?_)
  · obtain ⟨_, _, _, _, _, _, _, _, _, rfl, _⟩ := h
    rfl
  · obtain ⟨a, dx, e, q, l, qs, ls, ad, reg, rfl, ha, hq, he, hR, hl, nWR, hz, hz2, k⟩ := h
    have hu := hu_of hr
    refine ⟨_, pss_cons (ps_set (i := 2) scSettle.nd rfl (Or.inl rfl) (pe_dget hu (pe_fld (pv 0) rfl) (pv 1) (fun _ _ => rfl)))
      (pss_cut (ps_if (pt_cmpR op_eq (pe_fld (pv 2) rfl) pe_str (nomark _)) (pss_one (ps_expr (pe_bm PySem.F.plainAttrs_list PySem.F.slot_list_append PySem.F.type_list_append mt_append (pe_fld (pv 0) rfl) (pa_cons (pv 1) pa_nil)))) pss_nil)
      (pss_one (ps_if (pt_cmpR op_eq (pe_fld (pv 2) rfl) pe_str (nomark _)) (pss_one (ps_dput hu (pe_fld (pv 0) rfl) (pv 1) (pe_make M GI hr (by rfl) gR bI .nil pass0 (pa_cons (pe_fld (pv 2) rfl) (pa_cons (pe_fld (pv 2) rfl) (pa_cons (pe_fld (pv 2) rfl) (pa_cons pe_bl pa_nil))))) rfl)) pss_nil))), ?_⟩
    obtain ⟨dr, hr1⟩ := hR l hl
    have nqe : q ≠ e := ne_of hq he (by intro z; cases z)
    have nae : a ≠ e := ne_of ha he (by intro z; cases z)
    have naq : a ≠ q := ne_of ha hq (by intro z; cases z)
    have nre : ad l ≠ e := ne_of hr1 he (by intro z; cases z)
    have nrq : ad l ≠ q := ne_of hr1 hq (by intro z; cases z)
    refine ⟨_, rfl, a, CW, dx, _, _, rfl, ha, T.cl, T.no _ (by decide), rfl, ?_⟩
    have hv : valV (entKV ls ad) (Sum.inl l) = some (.ref (ad l)) := by rw [ent_val, if_pos hl]
    refine ⟨_, rfl, e, _, rfl, hv ▸ DGet.k (k := Sum.inl l) he, ?_⟩
    refine ⟨fun σ' H1 => σ' = [some (.ref a), some (.int l), some (.ref (ad l))] ∧ H1 q = some (.lst ((if (reg l).word = "level" then qs ++ [l] else qs).map V.int)) ∧ ∀ x, x ≠ q → H1 x = H x, ?_, ?_⟩
    · refine ⟨_, rfl, ad l, CR, dr, _, _, rfl, hr1, TR.cl, TR.no _ (by decide), rfl, rfl, _, rfl, ?_⟩
      by_cases h : (reg l).word = "level"
      · rw [decide_eq_true (str_inj'.mpr h)]
        walk_at "wn"
        refine ⟨_, rfl, a, CW, dx, _, _, rfl, ha, T.cl, T.no _ (by decide), rfl, ?_⟩
        refine ⟨.inl ⟨rfl, _, SqL.of hq⟩, ?_⟩
        refine ⟨_, rfl, q, _, _, rfl, rfl, hq, by rw [List.length_map, sizeLine_eq]; omega, ?_⟩
        refine ⟨rfl, ?_, fun x n => upd_ne n⟩
        rw [if_pos h, upd_same, List.map_append]
        rfl
      · rw [decide_eq_false (fun z => h (str_inj'.mp z))]
        walk_at "wn"
        exact ⟨rfl, by rw [if_neg h]; exact hq, fun _ _ => rfl⟩
    rintro σ' H1 ⟨rfl, hq1, h1⟩
    have hr2 : H1 (ad l) = _ := (h1 _ nrq).trans hr1
    have he1 : H1 e = _ := (h1 _ (Ne.symm nqe)).trans he
    have ha1 : H1 a = _ := (h1 _ naq).trans ha
    have hR1 : ∀ j ∈ ls, ∃ dx, H1 (ad j) = some (regO CR dx (reg j).num (reg j).src (reg j).word (reg j).armed) := fun j hj => by
      obtain ⟨dj, ej⟩ := hR j hj
      exact ⟨dj, (h1 _ (ne_of ej hq (by intro z; cases z))).trans ej⟩
    refine ⟨_, rfl, ad l, CR, dr, _, _, rfl, hr2, TR.cl, TR.no _ (by decide), rfl, rfl, _, rfl, ?_⟩
    by_cases h : (reg l).word = "once"
    · rw [decide_eq_true (str_inj'.mpr h)]
      walk_at "wn"
      refine ⟨_, rfl, ad l, CR, dr, _, _, rfl, hr2, TR.cl, TR.no _ (by decide), rfl, ?_⟩
      refine ⟨_, rfl, ad l, CR, dr, _, _, rfl, hr2, TR.cl, TR.no _ (by decide), rfl, ?_⟩
      refine ⟨_, rfl, ad l, CR, dr, _, _, rfl, hr2, TR.cl, TR.no _ (by decide), rfl, ?_⟩
      walk_at "wn"
      intro x dx2 hx hdx ndx
      refine ⟨x, dx2, _, _, _, _, rfl, upd_same, fun H2 k1 k2 => ⟨rfl, ?_⟩⟩
      have k3 : ∀ b o, H1 b = some o → H2 b = some o := fun b o e => by
        rw [k1 b (ne_of_none e hx), upd_ne (ne_of_none e hx), upd_ne (ne_of_none e hdx)]
        exact e
      refine ⟨_, rfl, a, CW, dx, _, _, rfl, k3 _ _ ha1, T.cl, T.no _ (by decide), rfl, ?_⟩
      refine ⟨_, rfl, e, _, rfl, DPut.k (k := Sum.inl l) (k3 _ _ he1) (by rw [sizeLine_eq]; unfold entKV; rw [List.length_map]; omega), ?_⟩
      rw [ent_put, if_pos hl]
      have nxe : x ≠ e := fun z => by rw [z, he1] at hx; cases hx
      refine k _ _ upd_same ?_ (fun j hj => if_neg hj) (.inr ?_) (fun j hj => ?_) fun b o n1 n2 e2 => ?_
      · rw [upd_ne nqe]
        exact k3 _ _ hq1
      · show H (if l = l then x else ad l) = none
        rw [if_pos rfl, ← h1 x (fun z => by rw [z, hq1] at hx; cases hx)]
        exact hx
      · show ∃ dx, upd H2 e _ (if j = l then x else ad j) = _
        by_cases ej : j = l
        · rw [ej, if_pos rfl, settled_at h, upd_ne nxe, k2]
          exact ⟨dx2, rfl⟩
        · rw [if_neg ej, settled_ne ej]
          obtain ⟨dj, e3⟩ := hR1 j hj
          rw [upd_ne (ne_of e3 he1 (by intro z; cases z))]
          exact ⟨dj, k3 _ _ e3⟩
      · rw [upd_ne n1]
        exact k3 _ _ ((h1 _ n2).trans e2)
    · rw [decide_eq_false (fun z => h (str_inj'.mp z))]
      walk_at "wn"
      refine k H1 ad he1 hq1 (fun _ _ => rfl) (.inl rfl) (fun j hj => ?_) fun b o n1 n2 e2 => (h1 _ n2).trans e2
      rw [settled_no h]
      exact hR1 j hj
/-! label_of -/
def keyOf (reg : Int → Reg) (n s : Int) (l : Int) : Bool := decide ((reg l).num = n) && decide ((reg l).src = s)
def spLabelOf (CW CR : Addr) : Sp := fun vs H Q _ => ∃ (a dx e q : Addr) (n s : Int) (ls : List Int) (ad : Int → Addr) (reg : Int → Reg), vs = [.ref a, .int n, .int s] ∧ H a = some (wsO CW dx e q) ∧ H e = some (.dK (entKV ls ad)) ∧ RegsAt CR H ls ad reg ∧
  ∀ H', Same H H' → Q (match ls.find? (keyOf reg n s) with | some l => .int l | none => .non) H'
theorem scLabelOf : FnScope ["self", "number", "source", "label", "kept"] ["self", "number", "source"] (defScope sLabelOf) := ⟨rfl, rfl, rfl, by decide +kernel, rfl, by decide +kernel, by decide +kernel⟩
theorem okLabelOf {f : Addr} {fd : FuncData} (F : Fun K "label_of" "WaitingSet.label_of" sLabelOf f fd) (T : ClsF K CW wsF) (TR : ClsF K CR regF) : FnOk P w K mg base CX0 1 f fd ["self", "number", "source"] (spLabelOf CW CR) := by
  refine F.ok scLabelOf (fun vs H Q E h => ?_) (fun cdv A outer s H vs Q E hr h => ?_)
  · obtain ⟨_, _, _, _, _, _, _, _, _, rfl, _⟩ := h
    rfl
  · obtain ⟨a, dx, e, q, n, s, ls, ad, reg, rfl, ha, he, hR, k⟩ := h
    refine ⟨_, pss_cons (ps_lock (ps_for PassesOwn.never rfl (pi_items (pe_fld (pv 0) rfl)) (pg_tup rfl (pgs_cons (pg_name (i := 3) scLabelOf.nd rfl (Or.inl rfl)) (pgs_cons (pg_name (i := 4) scLabelOf.nd rfl (Or.inl rfl)) pgs_nil)))
        (pss_one (ps_if (PW.pt (pw_and (pt_cmpR op_eq (pe_fld (pv 4) rfl) (pv 1) (nomark _)) (pw_and1 (pt_cmpR op_eq (pe_fld (pv 4) rfl) (pv 2) (nomark _))))) (pss_one (ps_ret (pv 3))) pss_nil))))
      (pss_one (ps_ret pe_non)), ?_⟩
    have nae : a ≠ e := ne_of ha he (by intro z; cases z)
    refine ⟨e, _, he, trivial, fun od => ?_⟩
    have ha1 : upd H e (.frz od (.dK (entKV ls ad))) a = some (wsO CW dx e q) := by rw [upd_ne nae]; exact ha
    refine ⟨_, rfl, a, CW, dx, _, _, rfl, ha1, T.cl, T.no _ (by decide), rfl, ?_⟩
    refine ⟨e, od, entKV ls ad, rfl, upd_same, ?_⟩
    -- behind the lock
    have un : ∀ {H1 : Hp}, Same (upd H e (.frz od (.dK (entKV ls ad)))) H1 → Same H (upd H1 e (.dK (entKV ls ad))) := fun {H1} sm b o e1 => by
      by_cases hb : b = e
      · rw [hb, upd_same, ← he, ← hb, e1]
      · rw [upd_ne hb]
        exact sm _ _ (by rw [upd_ne hb]; exact e1)
    have hR1 : ∀ j ∈ ls, ∃ dx, upd H e (.frz od (.dK (entKV ls ad))) (ad j) = some (regO CR dx (reg j).num (reg j).src (reg j).word (reg j).armed) := fun j hj => by
      obtain ⟨dj, ej⟩ := hR j hj
      exact ⟨dj, by rw [upd_ne (ne_of ej he (by intro z; cases z))]; exact ej⟩
    refine for_it walk_items (fun i σ' H1 => ∃ u v : Option V, σ' = [some (.ref a), some (.int n), some (.int s), u, v] ∧ Same (upd H e (.frz od (.dK (entKV ls ad)))) H1 ∧ ∀ j l, ls[j]? = some l → j < i → keyOf reg n s l = false) ⟨_, _, rfl, Same.refl _, fun _ _ _ z => absurd z (Nat.not_lt_zero _)⟩ (fun i σ' H1 _ ⟨_, _, _, sm, _⟩ => sm _ _ upd_same) ?_ ?_
    · rintro i x σ' H1 H2 hi ⟨u, v, rfl, sm, hn⟩ ⟨T1, x1, y1, rfl, nT, rfl, ex, ey⟩
      have hi' : i < ls.length := by unfold entKV at hi; rwa [List.length_map] at hi
      have e1 : (entKV ls ad)[i]? = some (Sum.inl ls[i], .ref (ad ls[i])) := by
        unfold entKV
        rw [List.getElem?_map, List.getElem?_eq_getElem hi']
        rfl
      have ex : (entKV ls ad)[i]?.map (fun kv => kV kv.1) = some x1 := ex
      have ey : (entKV ls ad)[i]?.map Prod.snd = some y1 := ey
      rw [e1] at ex ey
      cases ex
      cases ey
      have smT := sm.trans (Same.new' (o := .tup [V.int ls[i], V.ref (ad ls[i])]) nT)
      obtain ⟨dr, er⟩ := hR1 ls[i] (List.getElem_mem hi')
      have er2 := smT _ _ er
      refine ⟨T1, _, rfl, SqT.of upd_same, rfl, _, _, rfl, ?_⟩
      walk_at "wn"
      refine ⟨_, _, rfl, ?_⟩
      walk_at "wn"
      refine ⟨rfl, ?_⟩
      refine ⟨_, rfl, ad ls[i], CR, dr, _, _, rfl, er2, TR.cl, TR.no _ (by decide), rfl, _, rfl, rfl, _, rfl, ?_⟩
      have no : keyOf reg n s ls[i] = false → ∃ u v : Option V, ([some (.ref a), some (.int n), some (.int s), some (.int ls[i]), some (.ref (ad ls[i]))] : L2.St) = [some (.ref a), some (.int n), some (.int s), u, v] ∧ Same (upd H e (.frz od (.dK (entKV ls ad)))) (upd H1 T1 (.tup [V.int ls[i], V.ref (ad ls[i])])) ∧ ∀ j l, ls[j]? = some l → j < i + 1 → keyOf reg n s l = false := fun hk => ⟨_, _, rfl, smT, fun j l ej hj => by
        rcases Nat.lt_or_ge j i with z | z
        · exact hn j l ej z
        · obtain rfl : j = i := by omega
          rw [List.getElem?_eq_getElem hi'] at ej
          cases ej
          exact hk⟩
      by_cases h1 : (reg ls[i]).num = n
      · rw [decide_eq_true (by rw [h1])]
        walk_at "wn"
        refine ⟨_, rfl, ad ls[i], CR, dr, _, _, rfl, er2, TR.cl, TR.no _ (by decide), rfl, _, rfl, rfl, _, rfl, ?_⟩
        by_cases h2 : (reg ls[i]).src = s
        · rw [decide_eq_true (by rw [h2])]
          walk_at "wn"
          refine ⟨smT _ _ upd_same, ?_⟩
          have hf : ls.find? (keyOf reg n s) = some ls[i] := by
            rw [List.find?_eq_some_iff_getElem]
            refine ⟨by unfold keyOf; rw [decide_eq_true h1, decide_eq_true h2]; rfl, i, hi', rfl, fun j hj => ?_⟩
            rw [hn j _ (List.getElem?_eq_getElem (by omega)) hj]
            rfl
          have z := k _ (un smT)
          rw [hf] at z
          exact z
        · rw [decide_eq_false fun z => h2 (V.int.inj z)]
          walk_at "wn"
          exact no (by unfold keyOf; rw [decide_eq_false h2, Bool.and_false])
      · rw [decide_eq_false fun z => h1 (V.int.inj z)]
        walk_at "wn"
        exact no (by unfold keyOf; rw [decide_eq_false h1, Bool.false_and])
    · rintro σ' H1 ⟨u, v, rfl, sm, hn⟩
      refine ⟨sm _ _ upd_same, ?_⟩
      walk_at "wn"
      have hf : ls.find? (keyOf reg n s) = none := by
        rw [List.find?_eq_none]
        intro l hl
        obtain ⟨j, hj, rfl⟩ := List.getElem_of_mem hl
        rw [hn j _ (List.getElem?_eq_getElem hj) (by unfold entKV; rw [List.length_map]; exact hj)]
        exact Bool.false_ne_true
      have z := k _ (un sm)
      rw [hf] at z
      exact z
/-! notice -/
def noticeQ (reg : Int → Reg) (s : Int) (ls qs : List Int) : List Int := ls.foldl (fun acc l => if (reg l).src = s ∧ (reg l).armed = true then qAdd l acc else acc) qs
theorem notice_len (reg : Int → Reg) (s : Int) : ∀ ls qs : List Int, (noticeQ reg s ls qs).length ≤ qs.length + ls.length
  | [], _ => Nat.le_refl _
  | l :: ls, qs => by
    have := notice_len reg s ls (if (reg l).src = s ∧ (reg l).armed = true then qAdd l qs else qs)
    have h2 : (if (reg l).src = s ∧ (reg l).armed = true then qAdd l qs else qs).length ≤ qs.length + 1 := by
      unfold qAdd
      split
      · split
        · omega
        · rw [List.length_append]
          exact Nat.le_refl _
      · omega
    refine Nat.le_trans this ?_
    rw [List.length_cons]
    omega
theorem notice_step (reg : Int → Reg) (s : Int) (ls qs : List Int) {i : Nat} (hi : i < ls.length) : noticeQ reg s (ls.take (i + 1)) qs = if (reg ls[i]).src = s ∧ (reg ls[i]).armed = true then qAdd ls[i] (noticeQ reg s (ls.take i) qs) else noticeQ reg s (ls.take i) qs := by
  unfold noticeQ
  rw [List.take_add_one, List.getElem?_eq_getElem hi, List.foldl_append]
  rfl
def spNotice (CW CR : Addr) : Sp := fun vs H Q _ => ∃ (a dx e q : Addr) (s : Int) (qs ls : List Int) (ad : Int → Addr) (reg : Int → Reg), vs = [.ref a, .int s] ∧ H a = some (wsO CW dx e q) ∧ H q = some (.lst (qs.map V.int)) ∧ H e = some (.dK (entKV ls ad)) ∧ RegsAt CR H ls ad reg ∧ qs.length ≤ 4000 ∧ ls.length ≤ 4000 ∧
  ∀ H', H' q = some (.lst ((noticeQ reg s ls qs).map V.int)) → (∀ b o, b ≠ q → H b = some o → H' b = some o) → Q .non H'
theorem scNotice : FnScope ["self", "source", "label", "kept"] ["self", "source"] (defScope sNotice) := ⟨rfl, rfl, rfl, by decide +kernel, rfl, by decide +kernel, by decide +kernel⟩
theorem okNotice {f fA : Addr} {fd fdA : FuncData} (F : Fun K "notice" "WaitingSet.notice" sNotice f fd) (T : ClsF K CW wsF) (TR : ClsF K CR regF) (GA : FnOk P w K mg base CX0 1 fA fdA ["self", "label"] (spAppend CW)) (mA : Meth K CW "append_pending" fA) (bA : Binds K fdA ["self", "label"] []) :
    FnOk P w K mg base CX0 2 f fd ["self", "source"] (spNotice CW CR) := by
  refine F.ok scNotice (fun vs H Q E h => ?_) (fun cdv A outer s H vs Q E hr h => ?_)
  · obtain ⟨_, _, _, _, _, _, _, _, _, rfl, _⟩ := h
    rfl
  · obtain ⟨a, dx, e, q, s, qs, ls, ad, reg, rfl, ha, hq, he, hR, hz, hz2, k⟩ := h
    refine ⟨_, pss_one (ps_lock (ps_for PassesOwn.never rfl (pi_items (pe_fld (pv 0) rfl)) (pg_tup rfl (pgs_cons (pg_name (i := 2) scNotice.nd rfl (Or.inl rfl)) (pgs_cons (pg_name (i := 3) scNotice.nd rfl (Or.inl rfl)) pgs_nil)))
        (pss_one (ps_if (PW.pt (pw_and (pt_cmpR op_eq (pe_fld (pv 3) rfl) (pv 1) (nomark _)) (pw_and1 (pt_val (pe_fld (pv 3) rfl))))) (pss_one (ps_expr (pe_meth (pv 0) T.cl mA GA hr bA .nil pass0 (pa_cons (pv 2) pa_nil)))) pss_nil)))), ?_⟩
    have nae : a ≠ e := ne_of ha he (by intro z; cases z)
    have naq : a ≠ q := ne_of ha hq (by intro z; cases z)
    have nqe : q ≠ e := ne_of hq he (by intro z; cases z)
    refine ⟨e, _, he, trivial, fun od => ?_⟩
    have ha1 : upd H e (.frz od (.dK (entKV ls ad))) a = some (wsO CW dx e q) := by rw [upd_ne nae]; exact ha
    have hq1 : upd H e (.frz od (.dK (entKV ls ad))) q = some (.lst (qs.map V.int)) := by rw [upd_ne nqe]; exact hq
    refine ⟨_, rfl, a, CW, dx, _, _, rfl, ha1, T.cl, T.no _ (by decide), rfl, ?_⟩
    refine ⟨e, od, entKV ls ad, rfl, upd_same, ?_⟩
    have hR1 : ∀ j ∈ ls, ∃ dx, upd H e (.frz od (.dK (entKV ls ad))) (ad j) = some (regO CR dx (reg j).num (reg j).src (reg j).word (reg j).armed) ∧ ad j ≠ q := fun j hj => by
      obtain ⟨dj, ej⟩ := hR j hj
      exact ⟨dj, by rw [upd_ne (ne_of ej he (by intro z; cases z))]; exact ej, ne_of ej hq (by intro z; cases z)⟩
    have un : ∀ {H1 : Hp}, (∀ b o, b ≠ q → upd H e (.frz od (.dK (entKV ls ad))) b = some o → H1 b = some o) → ∀ b o, b ≠ q → H b = some o → upd H1 e (.dK (entKV ls ad)) b = some o := fun {H1} sm b o n e1 => by
      by_cases hb : b = e
      · rw [hb, upd_same, ← he, ← hb, e1]
      · rw [upd_ne hb]
        exact sm _ _ n (by rw [upd_ne hb]; exact e1)
    refine for_it walk_items (fun i σ' H1 => ∃ u v : Option V, σ' = [some (.ref a), some (.int s), u, v] ∧ (∀ b o, b ≠ q → upd H e (.frz od (.dK (entKV ls ad))) b = some o → H1 b = some o) ∧ H1 q = some (.lst ((noticeQ reg s (ls.take i) qs).map V.int))) ⟨_, _, rfl, fun _ _ _ z => z, hq1⟩ (fun i σ' H1 _ ⟨_, _, _, sm, _⟩ => sm _ _ (Ne.symm nqe) upd_same) ?_ ?_
    · rintro i x σ' H1 H2 hi ⟨u, v, rfl, sm, hqi⟩ ⟨T1, x1, y1, rfl, nT, rfl, ex, ey⟩
      have hi' : i < ls.length := by unfold entKV at hi; rwa [List.length_map] at hi
      have e1 : (entKV ls ad)[i]? = some (Sum.inl ls[i], .ref (ad ls[i])) := by
        unfold entKV
        rw [List.getElem?_map, List.getElem?_eq_getElem hi']
        rfl
      have ex : (entKV ls ad)[i]?.map (fun kv => kV kv.1) = some x1 := ex
      have ey : (entKV ls ad)[i]?.map Prod.snd = some y1 := ey
      rw [e1] at ex ey
      cases ex
      cases ey
      have nT2 := Same.new' (o := .tup [V.int ls[i], V.ref (ad ls[i])]) nT
      have smT : ∀ b o, b ≠ q → upd H e (.frz od (.dK (entKV ls ad))) b = some o → upd H1 T1 (.tup [V.int ls[i], V.ref (ad ls[i])]) b = some o := fun b o n z => nT2 _ _ (sm b o n z)
      have hqT := nT2 _ _ hqi
      obtain ⟨dr, er, nrq⟩ := hR1 ls[i] (List.getElem_mem hi')
      have er2 := smT _ _ nrq er
      have st := notice_step reg s ls qs hi'
      refine ⟨T1, _, rfl, SqT.of upd_same, rfl, _, _, rfl, ?_⟩
      walk_at "wn"
      refine ⟨_, _, rfl, ?_⟩
      walk_at "wn"
      refine ⟨rfl, ?_⟩
      refine ⟨_, rfl, ad ls[i], CR, dr, _, _, rfl, er2, TR.cl, TR.no _ (by decide), rfl, _, rfl, rfl, _, rfl, ?_⟩
      by_cases h1 : (reg ls[i]).src = s
      · rw [decide_eq_true (by rw [h1])]
        walk_at "wn"
        refine ⟨_, rfl, ad ls[i], CR, dr, _, _, rfl, er2, TR.cl, TR.no _ (by decide), rfl, _, rfl, ?_⟩
        cases h2 : (reg ls[i]).armed with
        | true =>
          walk_at "wn"
          refine ⟨_, rfl, a, dx, _, rfl, smT _ _ naq ha1, rfl, ?_⟩
          walk_at "wn"
          have hl3 := notice_len reg s (ls.take i) qs
          rw [List.length_take] at hl3
          refine ⟨a, dx, e, q, ls[i], _, rfl, smT _ _ naq ha1, hqT, by omega, fun H' k1 k2 => ?_⟩
          refine ⟨_, _, rfl, fun b o n z => by rw [k2 b n]; exact smT b o n z, ?_⟩
          rw [st, if_pos ⟨h1, h2⟩]
          exact k1
        | false =>
          walk_at "wn"
          refine ⟨_, _, rfl, smT, ?_⟩
          rw [st, if_neg fun z => by rw [h2] at z; exact Bool.noConfusion z.2]
          exact hqT
      · rw [decide_eq_false fun z => h1 (V.int.inj z)]
        walk_at "wn"
        refine ⟨_, _, rfl, smT, ?_⟩
        rw [st, if_neg fun z => h1 z.1]
        exact hqT
    · rintro σ' H1 ⟨u, v, rfl, sm, hqi⟩
      refine ⟨sm _ _ (Ne.symm nqe) upd_same, ?_⟩
      have e3 : ls.take (entKV ls ad).length = ls := by unfold entKV; rw [List.length_map, List.take_length]
      rw [e3] at hqi
      exact k _ (by rw [upd_ne nqe]; exact hqi) (un sm)
end

/-! what a wait takes -/
structure TSt where
  reps : List (Int × Int × Bool)
  que : List Int
  reg : Int → Reg
def takeStep (unit : Int → Int × Bool) (s : TSt) (l : Int) : TSt :=
  if decide (0 < (unit (s.reg l).src).1) || (unit (s.reg l).src).2 then ⟨s.reps ++ [(l, (unit (s.reg l).src).1, (unit (s.reg l).src).2)], if (s.reg l).word = "level" then s.que.drop 1 ++ [l] else s.que.drop 1, settled s.reg l⟩ else ⟨s.reps, s.que.drop 1, s.reg⟩
def takeAll (unit : Int → Int × Bool) (most : Int) : List Int → TSt → TSt
  | [], s => s
  | l :: ls, s => if (s.reps.length : Int) = most then s else takeAll unit most ls (takeStep unit s l)
theorem settled_src (reg : Int → Reg) (l j : Int) : (settled reg l j).src = (reg j).src := by
  unfold settled
  split
  · rename_i h
    rw [h.1]
  · rfl
theorem step_src (unit : Int → Int × Bool) (s : TSt) (l j : Int) : ((takeStep unit s l).reg j).src = (s.reg j).src := by
  unfold takeStep
  split
  · exact settled_src _ _ _
  · rfl
theorem step_len (unit : Int → Int × Bool) (s : TSt) (l : Int) : (takeStep unit s l).que.length ≤ s.que.length + 1 ∧ (takeStep unit s l).reps.length ≤ s.reps.length + 1 := by
  unfold takeStep
  split
  · refine ⟨?_, by simp⟩
    dsimp only
    split
    · rw [List.length_append, List.length_drop]
      show s.que.length - 1 + 1 ≤ _
      omega
    · rw [List.length_drop]
      omega
  · refine ⟨?_, Nat.le_succ _⟩
    dsimp only
    rw [List.length_drop]
    omega
theorem cut_one (l : List V) : cutV l (some 1) none = l.drop 1 := by
  cases l with
  | nil => rfl
  | cons v l =>
    unfold cutV HT.sIx
    simp
/-- the units of the sources, each a tuple -/
def UnitsAt (H : Hp) (ss : List Int) (ad : Int → Addr) (unit : Int → Int × Bool) : Prop := ∀ s ∈ ss, H (ad s) = some (.tup [.int (unit s).1, .bl (unit s).2])
abbrev RepAt (H : Hp) : V → Int × Int × Bool → Prop := fun v r => ∃ t, v = .ref t ∧ H t = some (.tup [.int r.1, .int r.2.1, .bl r.2.2])
theorem reps_keep {H H' : Hp} {vs : List V} {rs : List (Int × Int × Bool)} (p : Paired (RepAt H) vs rs) (k : ∀ b xs, H b = some (.tup xs) → H' b = some (.tup xs)) : Paired (RepAt H') vs rs := by
  induction p with
  | nil => exact .nil
  | cons r _ ih =>
    obtain ⟨t, e1, e2⟩ := r
    exact .cons ⟨t, e1, k _ _ e2⟩ ih
theorem reps_snoc {H : Hp} {vs : List V} {rs : List (Int × Int × Bool)} {v : V} {r : Int × Int × Bool} (p : Paired (RepAt H) vs rs) (q : RepAt H v r) : Paired (RepAt H) (vs ++ [v]) (rs ++ [r]) := by
  induction p with
  | nil => exact .cons q .nil
  | cons r _ ih => exact .cons r ih
theorem or_pure {σ : L2.St} {H : Hp} {t u : TT} {b1 b2 : Bool} {k : Bool → Hp → Prop} (h1 : ∀ k : Bool → Hp → Prop, k b1 H → t σ H k) (h2 : ∀ k : Bool → Hp → Prop, k b2 H → u σ H k) (q : k (b1 || b2) H) : tOr t u σ H k := by
  show t σ H fun b H1 => if b = true then k true H1 else u σ H1 k
  refine h1 _ ?_
  cases b1 with
  | true => exact q
  | false => exact h2 k q
section
variable {P : Program} {w : World} {K : PySem.W.Frag} {mg : Str → Option Value} {base : Heap} {CR CW : Addr}
def spReports (CW CR : Addr) : Sp := fun vs H Q _ => ∃ (a dx e q D : Addr) (most : Int) (qs ls ss : List Int) (ad adS : Int → Addr) (reg : Int → Reg) (unit : Int → Int × Bool), vs = [.ref a, .int most, .ref D] ∧ H a = some (wsO CW dx e q) ∧ H q = some (.lst (qs.map V.int)) ∧ H e = some (.dK (entKV ls ad)) ∧ RegsAt CR H ls ad reg ∧
  H D = some (.dK (entKV ss adS)) ∧ D ≠ e ∧ UnitsAt H ss adS unit ∧ (∀ l ∈ qs, l ∈ ls) ∧ (∀ l ∈ ls, (reg l).src ∈ ss) ∧ CW ≠ CR ∧ (∀ l ∈ ls, ∀ l' ∈ ls, ad l = ad l' → l = l') ∧ qs.length ≤ 1000 ∧ ls.length ≤ 1000 ∧
  ∀ H' r rs q' ad', H' a = some (wsO CW dx e q') → H' q' = some (.lst ((takeAll unit most qs ⟨[], qs, reg⟩).que.map V.int)) → (q' = q ∨ H q' = none) → H' e = some (.dK (entKV ls ad')) → RegsAt CR H' ls ad' (takeAll unit most qs ⟨[], qs, reg⟩).reg →
    (∀ j, ad' j = ad j ∨ H (ad' j) = none) → (∀ l ∈ ls, ∀ l' ∈ ls, ad' l = ad' l' → l = l') → H r = none → r ≠ q' → H' r = some (.lst rs) → Paired (RepAt H') rs (takeAll unit most qs ⟨[], qs, reg⟩).reps → (∀ b o, b ≠ a → b ≠ e → b ≠ q → H b = some o → H' b = some o) → Q (.ref r) H'
theorem scReports : FnScope ["self", "most", "sources", "reports", "pending", "label", "unread", "finished"] ["self", "most", "sources"] (defScope sReports) := ⟨rfl, rfl, rfl, by decide +kernel, rfl, by decide +kernel, by decide +kernel⟩
structure WsTxt (mg : Str → Option Value) : Prop where
  list : mg "list" = none
  len : mg "len" = none
theorem okReports {f fS : Addr} {fd fdS : FuncData} (F : Fun K "take_reports" "WaitingSet.take_reports" sReports f fd) (X : WsTxt mg) (T : ClsF K CW wsF) (TR : ClsF K CR regF) (GS : FnOk P w K mg base CX0 3 fS fdS ["self", "label"] (spSettle CW CR)) (mS : Meth K CW "settle" fS) (bS : Binds K fdS ["self", "label"] []) :
    FnOk P w K mg base CX0 4 f fd ["self", "most", "sources"] (spReports CW CR) := by
  refine F.ok scReports (fun vs H Q E h => ?_) (fun cdv A outer s H vs Q E hr h => ?_)
  · obtain ⟨_, _, _, _, _, _, _, _, _, _, _, _, _, rfl, _⟩ := h
    rfl
  · obtain ⟨a, dx, e, q, D, most, qs, ls, ss, ad, adS, reg, unit, rfl, ha, hq, he, hR, hD, nDe, hU, hql, hls, nWR, hinj, hz, hz2, k⟩ := h
    have hu := hu_of hr
    refine ⟨_, pss_cons (ps_set (i := 3) scReports.nd rfl (Or.inl rfl) (pe_lst pa_nil))
      (pss_cons (ps_set (i := 4) scReports.nd rfl (Or.inl rfl) (pe_callTy call_list_of (by rfl) X.list PyProof.Rows.boot_list (pa_cons (pe_fld (pv 0) rfl) pa_nil)))
      (pss_cons (ps_for PassesOwn.never rfl (pi_list (pv 4)) (pg_name (i := 5) scReports.nd rfl (Or.inl rfl))
        (pss_cons (ps_if (pt_cmpR op_eq (pe_callB cLenQ (by rfl) X.len PySem.boot_len (pa_cons (pv 3) pa_nil)) (pv 1) (nomark _)) (pss_one ps_break) pss_nil)
        (pss_cons (ps_fld (pv 0) (pe_slice sl_list (pe_fld (pv 0) rfl) (po_some pe_int) po_none) rfl)
        (pss_cons (ps_asg (pe_dget hu (pv 2) (pe_fld (pe_dget hu (pe_fld (pv 0) rfl) (pv 5) (fun _ _ => rfl)) rfl) (fun _ _ => rfl)) (pg_tup rfl (pgs_cons (pg_name (i := 6) scReports.nd rfl (Or.inl rfl)) (pgs_cons (pg_name (i := 7) scReports.nd rfl (Or.inl rfl)) pgs_nil))))
        (pss_one (ps_if (PW.pt (pw_or (pt_cmpR op_gt (pv 6) pe_int (nomark _)) (pw_or1 (pt_val (pv 7)))))
          (pss_cons (ps_expr (pe_bm PySem.F.plainAttrs_list PySem.F.slot_list_append PySem.F.type_list_append mt_append (pv 3) (pa_cons (pe_tup (pa_cons (pv 5) (pa_cons (pv 6) (pa_cons (pv 7) pa_nil)))) pa_nil)))
          (pss_one (ps_expr (pe_meth (pv 0) T.cl mS GS hr bS .nil pass0 (pa_cons (pv 5) pa_nil))))) pss_nil))))))
      (pss_one (ps_ret (pv 3))))), ?_⟩
    walk_at "wn"
    refine ⟨Nat.zero_le _, fun r hr0 => ?_⟩
    walk_at "wn"
    have s1 := Same.new' (o := .lst []) hr0
    refine ⟨_, rfl, a, CW, dx, _, _, rfl, s1 _ _ ha, T.cl, T.no _ (by decide), rfl, ?_⟩
    refine ⟨q, qs.map V.int, rfl, .inl (SqL.of (s1 _ _ hq)), fun p hp => ?_⟩
    walk_at "wn"
    have s2 := Same.new' (o := .lst (qs.map V.int)) hp
    have hrr : upd (upd H r (.lst [])) p (.lst (qs.map V.int)) r = some (.lst []) := s2 _ _ upd_same
    have nPr : p ≠ r := fun z => by rw [z, upd_same] at hp; cases hp
    have npr : p ≠ r := fun z => by rw [z, upd_same] at hp; cases hp
    have hp0 : H p = none := by rw [upd_ne npr] at hp; exact hp
    have sm := s1.trans s2
    have hpp : upd (upd H r (.lst [])) p (.lst (qs.map V.int)) p = some (.lst (qs.map V.int)) := upd_same
    generalize upd (upd H r (.lst [])) p (.lst (qs.map V.int)) = H0 at sm hrr hpp
    refine ⟨_, rfl, p, rfl, ⟨_, SqL.of hpp⟩, for_list (xs := qs.map V.int) (fun i σ' H1 => ∃ (st : TSt) (rs : List V) (q' : Addr) (ad' : Int → Addr) (u5 u6 u7 : Option V), σ' = [some (.ref a), some (.int most), some (.ref D), some (.ref r), some (.ref p), u5, u6, u7] ∧
      takeAll unit most (qs.drop i) st = takeAll unit most qs ⟨[], qs, reg⟩ ∧ H1 a = some (wsO CW dx e q') ∧ H1 q' = some (.lst (st.que.map V.int)) ∧ (q' = q ∨ H q' = none) ∧ q' ≠ r ∧ q' ≠ p ∧ H1 e = some (.dK (entKV ls ad')) ∧ RegsAt CR H1 ls ad' st.reg ∧ (∀ j, ad' j = ad j ∨ H (ad' j) = none) ∧ (∀ l ∈ ls, ∀ l' ∈ ls, ad' l = ad' l' → l = l') ∧
      H1 r = some (.lst rs) ∧ H1 p = some (.lst (qs.map V.int)) ∧ Paired (RepAt H1) rs st.reps ∧ (∀ b o, b ≠ a → b ≠ e → b ≠ q → H b = some o → H1 b = some o) ∧ (∀ l ∈ ls, (st.reg l).src ∈ ss) ∧ st.que.length ≤ 1000 + i ∧ st.reps.length ≤ i ∧ ∃ o, H1 q = some o) ?_ (fun i σ' H1 _ ⟨_, _, _, _, _, _, _, _, _, _, _, _, _, _, _, _, _, _, _, h, _⟩ => SqL.of h) ?_ ?_⟩
    · refine ⟨⟨[], qs, reg⟩, [], q, ad, _, _, _, rfl, rfl, sm _ _ ha, sm _ _ hq, .inl rfl, ne_of_none hq hr0, ne_of_none hq hp0, sm _ _ he, fun l hl => ?_, fun _ => .inl rfl, hinj, hrr, hpp, .nil, fun b o _ _ _ z => sm b o z, hls, by show qs.length ≤ 1000 + 0; omega, Nat.le_refl _, _, sm _ _ hq⟩
      obtain ⟨dl, el⟩ := hR l hl
      exact ⟨dl, sm _ _ el⟩
    · rintro i x σ' H1 hx ⟨st, rs, q', ad', u5, u6, u7, rfl, ht, h1a, h1q, hq', nqr, nqp, h1e, hR1, had, hij, h1r, h1p, hreps, fr, hsrc, hql1, hrl, oq, hoq⟩
      rw [List.getElem?_map] at hx
      cases el : qs[i]? with
      | none => rw [el] at hx; cases hx
      | some l =>
      rw [el] at hx
      cases hx
      obtain ⟨hi, eli⟩ := List.getElem?_eq_some_iff.mp el
      have hin : i < 1000 := by omega
      have hll : l ∈ ls := hql l (List.mem_of_getElem? el)
      rw [List.drop_eq_getElem_cons hi, eli] at ht
      have hlen := hreps.length
      walk_at "wn"
      by_cases hm : (st.reps.length : Int) = most
      · rw [decide_eq_true (by rw [hlen, hm])]
        walk_at "wn"
        have ht2 : st = takeAll unit most qs ⟨[], qs, reg⟩ := by
          rw [← ht]
          unfold takeAll
          rw [if_pos hm]
        refine ⟨_, rfl, ?_⟩
        exact k H1 r rs q' ad' h1a (ht2 ▸ h1q) hq' h1e (ht2 ▸ hR1) had hij hr0 (Ne.symm nqr) h1r (ht2 ▸ hreps) fr
      · rw [decide_eq_false fun z => hm (by rw [← hlen]; exact V.int.inj z)]
        walk_at "wn"
        have ht2 : takeAll unit most (qs.drop (i + 1)) (takeStep unit st l) = takeAll unit most qs ⟨[], qs, reg⟩ := by
          rw [← ht]
          conv => rhs; unfold takeAll
          rw [if_neg hm]
        have nDa : D ≠ a := ne_of hD ha (by intro z; cases z)
        have nDq : D ≠ q := ne_of hD hq (by intro z; cases z)
        have h1D := fr D _ nDa nDe nDq hD
        have ec : cutV (st.que.map V.int) (some 1) none = (st.que.drop 1).map V.int := by rw [cut_one, List.map_drop]
        refine ⟨_, rfl, a, CW, dx, _, _, rfl, h1a, T.cl, T.no _ (by decide), rfl, ?_⟩
        refine ⟨1, rfl, q', _, rfl, SqL.of h1q, fun p2 hp2 => ?_⟩
        rw [ec]
        have s3 := Same.new' (o := .lst ((st.que.drop 1).map V.int)) hp2
        have np2a : p2 ≠ a := fun z => by rw [z, h1a] at hp2; cases hp2
        have np2p : p2 ≠ p := fun z => by rw [z, h1p] at hp2; cases hp2
        have np2r : p2 ≠ r := fun z => by rw [z, h1r] at hp2; cases hp2
        refine ⟨_, rfl, a, CW, dx, _, rfl, s3 _ _ h1a, T.cl, T.no _ (by decide), by show 2 < 1000; decide, ?_⟩
        have h3a : upd (upd H1 p2 (.lst ((st.que.drop 1).map V.int))) a (.ins CW dx (putF "queue" (V.ref p2) [("entries", V.ref e), ("queue", V.ref q')])) a = some (wsO CW dx e p2) := upd_same
        have h3p : upd (upd H1 p2 (.lst ((st.que.drop 1).map V.int))) a (.ins CW dx (putF "queue" (V.ref p2) [("entries", V.ref e), ("queue", V.ref q')])) p2 = some (.lst ((st.que.drop 1).map V.int)) := by rw [upd_ne np2a, upd_same]
        have h3 : ∀ b o, b ≠ a → H1 b = some o → upd (upd H1 p2 (.lst ((st.que.drop 1).map V.int))) a (.ins CW dx (putF "queue" (V.ref p2) [("entries", V.ref e), ("queue", V.ref q')])) b = some o := fun b o n z => by rw [upd_ne n]; exact s3 _ _ z
        generalize upd (upd H1 p2 (.lst ((st.que.drop 1).map V.int))) a (.ins CW dx (putF "queue" (V.ref p2) [("entries", V.ref e), ("queue", V.ref q')])) = H3 at h3a h3p h3
        have h3e := h3 e _ (ne_of h1e h1a (by intro z; cases z)) h1e
        have h3D := h3 D _ nDa h1D
        have h3r := h3 r _ (ne_of h1r h1a (by intro z; cases z)) h1r
        have h3P := h3 p _ (ne_of h1p h1a (by intro z; cases z)) h1p
        have hR3 : RegsAt CR H3 ls ad' st.reg := fun j hj => by
          obtain ⟨dj, ej⟩ := hR1 j hj
          refine ⟨dj, h3 _ _ (fun z => ?_) ej⟩
          rw [z, h1a] at ej
          cases ej
        have hreps3 : Paired (RepAt H3) rs st.reps := reps_keep hreps fun b xs z => h3 b _ (ne_of z h1a (by intro z; cases z)) z
        have fr3 : ∀ b o, b ≠ a → b ≠ e → b ≠ q → H b = some o → H3 b = some o := fun b o n1 n2 n3 z => h3 b o n1 (fr b o n1 n2 n3 z)
        obtain ⟨dr, er⟩ := hR3 l hll
        have hsl : (st.reg l).src ∈ ss := hsrc l hll
        have hUl := hU _ hsl
        have h3U := fr3 _ _ (ne_of hUl ha (by intro z; cases z)) (ne_of hUl he (by intro z; cases z)) (ne_of hUl hq (by intro z; cases z)) hUl
        have hp2H : H p2 = none := by
          cases z : H p2 with
          | none => rfl
          | some o =>
            by_cases n2 : p2 = e
            · rw [n2, h1e] at hp2
              cases hp2
            · by_cases n3 : p2 = q
              · rw [n3, hoq] at hp2
                cases hp2
              · rw [fr p2 o np2a n2 n3 z] at hp2
                cases hp2
        have naq : q ≠ a := ne_of hq ha (by intro z; cases z)
        have neq : q ≠ e := ne_of hq he (by intro z; cases z)
        have np2q : q ≠ p2 := fun z => by rw [← z, hoq] at hp2; cases hp2
        have np2e : p2 ≠ e := fun z => by rw [z, h1e] at hp2; cases hp2
        have h3q := h3 q _ naq hoq
        have hv1 : valV (entKV ls ad') (Sum.inl l) = some (.ref (ad' l)) := by rw [ent_val, if_pos hll]
        have hv2 : valV (entKV ss adS) (Sum.inl (st.reg l).src) = some (.ref (adS (st.reg l).src)) := by rw [ent_val, if_pos hsl]
        have stl := step_len unit st l
        walk_at "wn"
        refine ⟨_, rfl, _, rfl, a, CW, dx, _, _, rfl, h3a, T.cl, T.no _ (by decide), rfl, ?_⟩
        refine ⟨_, rfl, e, _, rfl, hv1 ▸ DGet.k (k := Sum.inl l) h3e, ?_⟩
        refine ⟨ad' l, CR, dr, _, _, rfl, er, TR.cl, TR.no _ (by decide), rfl, ?_⟩
        refine ⟨D, _, rfl, hv2 ▸ DGet.k (k := Sum.inl (st.reg l).src) h3D, ?_⟩
        refine ⟨adS (st.reg l).src, _, rfl, SqT.of h3U, rfl, _, _, rfl, ?_⟩
        walk_at "wn"
        refine ⟨_, _, rfl, ?_⟩
        walk_at "wn"
        refine ⟨rfl, ?_⟩
        with_reducible refine' g_ifs ?_
        refine or_pure (b1 := decide (0 < (unit (st.reg l).src).1)) (b2 := (unit (st.reg l).src).2) (fun k q => ?_) (fun k q => ?_) ?_
        · exact ⟨_, rfl, _, _, rfl, rfl, _, rfl, q⟩
        · exact ⟨_, rfl, _, rfl, q⟩
        refine ite2 (fun hd => ?_) (fun hd => ?_)
        · have est : takeStep unit st l = ⟨st.reps ++ [(l, (unit (st.reg l).src).1, (unit (st.reg l).src).2)], if (st.reg l).word = "level" then st.que.drop 1 ++ [l] else st.que.drop 1, settled st.reg l⟩ := by
            unfold takeStep
            rw [if_pos hd]
          walk_at "wn"
          refine ⟨by show 3 ≤ sizeLine; decide, fun t nt => ?_⟩
          have s4 := Same.new' (o := .tup [V.int l, V.int (unit (st.reg l).src).1, V.bl (unit (st.reg l).src).2]) nt
          have h4t : upd H3 t (.tup [V.int l, V.int (unit (st.reg l).src).1, V.bl (unit (st.reg l).src).2]) t = some (.tup [V.int l, V.int (unit (st.reg l).src).1, V.bl (unit (st.reg l).src).2]) := upd_same
          generalize upd H3 t (.tup [V.int l, V.int (unit (st.reg l).src).1, V.bl (unit (st.reg l).src).2]) = H4 at s4 h4t
          have h4r := s4 _ _ h3r
          refine ⟨r, rs, _, rfl, rfl, h4r, by rw [sizeLine_eq]; omega, ?_⟩
          have s5 : ∀ b o, b ≠ r → H3 b = some o → upd H4 r (.lst (rs ++ [V.ref t])) b = some o := fun b o n z => by rw [upd_ne n]; exact s4 _ _ z
          have h5r : upd H4 r (.lst (rs ++ [V.ref t])) r = some (.lst (rs ++ [V.ref t])) := upd_same
          have h5t : upd H4 r (.lst (rs ++ [V.ref t])) t = some (.tup [V.int l, V.int (unit (st.reg l).src).1, V.bl (unit (st.reg l).src).2]) := by rw [upd_ne (ne_of h4t h4r (by intro z; cases z))]; exact h4t
          generalize upd H4 r (.lst (rs ++ [V.ref t])) = H5 at s5 h5r h5t
          have nra : a ≠ r := ne_of h3a h3r (by intro z; cases z)
          have nre : e ≠ r := ne_of h3e h3r (by intro z; cases z)
          have h5a := s5 _ _ nra h3a
          have h5e := s5 _ _ nre h3e
          have h5p := s5 _ _ np2r h3p
          have h5P := s5 _ _ nPr h3P
          have hR5 : RegsAt CR H5 ls ad' st.reg := fun j hj => by
            obtain ⟨dj, ej⟩ := hR3 j hj
            exact ⟨dj, s5 _ _ (ne_of ej h3r (by intro z; cases z)) ej⟩
          have hreps5 := reps_snoc (r := (l, (unit (st.reg l).src).1, (unit (st.reg l).src).2)) (reps_keep hreps3 fun b xs z => s5 b _ (ne_of z h3r (by intro z; cases z)) z) ⟨t, rfl, h5t⟩
          walk_at "wn"
          refine ⟨_, rfl, a, dx, _, rfl, h5a, rfl, ?_⟩
          walk_at "wn"
          refine ⟨a, dx, e, p2, l, st.que.drop 1, ls, ad', st.reg, rfl, h5a, h5p, h5e, hR5, hll, nWR, by rw [List.length_drop]; omega, by omega, fun H6 ad6 k1 k2 k3 k4 k5 k6 => ?_⟩
          have nae : a ≠ e := ne_of ha he (by intro z; cases z)
          have inj6 : ∀ j ∈ ls, ∀ j' ∈ ls, ad6 j = ad6 j' → j = j' := fun j hj j' hj' z => by
            have some5 : ∀ j ∈ ls, H5 (ad' j) ≠ none := fun j hj y => by
              obtain ⟨dj, ej⟩ := hR5 j hj
              rw [y] at ej
              cases ej
            by_cases e1 : j = l
            · by_cases e2 : j' = l
              · rw [e1, e2]
              · rw [k3 j' e2, e1] at z
                rcases k4 with y | y
                · exact hij j hj j' hj' (by rw [e1, ← y, z])
                · rw [z] at y
                  exact absurd y (some5 j' hj')
            · by_cases e2 : j' = l
              · rw [k3 j e1, e2] at z
                rcases k4 with y | y
                · exact hij j hj j' hj' (by rw [e2, ← y, z])
                · rw [← z] at y
                  exact absurd y (some5 j hj)
              · rw [k3 j e1, k3 j' e2] at z
                exact hij j hj j' hj' z
          refine ⟨_, rs ++ [V.ref t], p2, ad6, _, _, _, rfl, ht2, k6 _ _ nae (Ne.symm np2a) h5a, ?_, .inr hp2H, np2r, np2p, k1, ?_, fun j => ?_, inj6, k6 _ _ (Ne.symm nre) (Ne.symm np2r) h5r, k6 _ _ ?_ (Ne.symm np2p) h5P, ?_, fun b o n1 n2 n3 z => ?_, fun j hj => by rw [step_src]; exact hsrc j hj, by omega, by omega, oq, k6 _ _ neq np2q (s5 _ _ ?_ h3q)⟩
          · rw [est]
            exact k2
          · rw [est]
            exact k5
          · by_cases ej : j = l
            · rw [ej]
              rcases k4 with z | z
              · rw [z]
                exact had l
              · refine .inr ?_
                cases y : H (ad6 l) with
                | none => rfl
                | some o =>
                  exfalso
                  by_cases m1 : ad6 l = a
                  · rw [m1, h5a] at z
                    cases z
                  · by_cases m2 : ad6 l = e
                    · rw [m2, h5e] at z
                      cases z
                    · by_cases m3 : ad6 l = q
                      · rw [m3, s5 _ _ (ne_of_none hq hr0) h3q] at z
                        cases z
                      · rw [s5 _ _ (fun w => by rw [w, hr0] at y; cases y) (fr3 _ _ m1 m2 m3 y)] at z
                        cases z
            · rw [k3 j ej]
              exact had j
          · exact ne_of h1p h1e (by intro z; cases z)
          · rw [est]
            exact reps_keep hreps5 fun b xs z => k6 b _ (ne_of z h5e (by intro z; cases z)) (ne_of z h5p (by intro z; cases z)) z
          · refine k6 _ _ n2 (fun w => by rw [w, hp2H] at z; cases z) (s5 _ _ (fun w => by rw [w, hr0] at z; cases z) (fr3 _ _ n1 n2 n3 z))
          · exact ne_of_none hq hr0
        · have est : takeStep unit st l = ⟨st.reps, st.que.drop 1, st.reg⟩ := by
            unfold takeStep
            rw [if_neg hd]
          walk_at "wn"
          refine ⟨_, rs, p2, ad', _, _, _, rfl, ht2, h3a, by rw [est]; exact h3p, .inr hp2H, np2r, np2p, h3e, by rw [est]; exact hR3, had, hij, h3r, h3P, by rw [est]; exact hreps3, fr3, fun j hj => by rw [step_src]; exact hsrc j hj, by omega, by omega, oq, h3q⟩
    · rintro σ' H1 ⟨st, rs, q', ad', u5, u6, u7, rfl, ht, h1a, h1q, hq', nqr, nqp, h1e, hR1, had, hij, h1r, h1p, hreps, fr, hsrc, hql1, hrl, oq, hoq⟩
      have e0 : qs.drop (qs.map V.int).length = [] := by rw [List.length_map, List.drop_length]
      rw [e0] at ht
      have ht2 : st = takeAll unit most qs ⟨[], qs, reg⟩ := ht
      walk_at "wn"
      exact k H1 r rs q' ad' h1a (ht2 ▸ h1q) hq' h1e (ht2 ▸ hR1) had hij hr0 (Ne.symm nqr) h1r (ht2 ▸ hreps) fr
end

abbrev sSysInit : Stmt := meth 32 2
abbrev sNewSource : Stmt := meth 32 4
abbrev sNewSet : Stmt := meth 32 5
abbrev sArrive : Stmt := meth 32 10
abbrev sRead : Stmt := meth 32 12
abbrev sAdd : Stmt := meth 32 13
abbrev sWait : Stmt := meth 32 16
abbrev sRowOf : Stmt := meth 32 24
abbrev sContains : Stmt := meth 32 30
abbrev sTableOf : Stmt := meth 32 32
abbrev sIsTabNum : Stmt := meth 32 33
abbrev sThingAt : Stmt := meth 32 34
abbrev sSourceAt : Stmt := meth 32 35
abbrev sSetAt : Stmt := meth 32 36
abbrev sFreeNum : Stmt := meth 32 37
abbrev sNewThing : Stmt := meth 32 39
abbrev sUnfinished : Stmt := meth 32 42
abbrev sIsReady : Stmt := meth 32 43
abbrev sNotify : Stmt := meth 32 45
/-! a system, its cells and what stands in them -/
inductive Cell
  | box | tabD | srcD | setD
  | tab (p : Int) | srcT (t : Int) | ws (s : Int) | ent (s : Int) | que (s : Int)
  | reg (s l : Int)
  deriving DecidableEq
structure Sys where
  P : Int
  N : Int
  next : Int
  procs : List Int
  tab : Int → List (Option Int)
  srcs : List Int
  unit : Int → Int × Bool
  sets : List Int
  ents : Int → List Int
  reg : Int → Int → Reg
  que : Int → List Int
def live (S : Sys) : Cell → Prop
  | .box | .tabD | .srcD | .setD => True
  | .tab p => p ∈ S.procs
  | .srcT t => t ∈ S.srcs
  | .ws s | .ent s | .que s => s ∈ S.sets
  | .reg s l => s ∈ S.sets ∧ l ∈ S.ents s
def optV : Option Int → V
  | none => .non
  | some t => .int t
def sysO (CS dx : Addr) (S : Sys) (t s u : Addr) : HO := .ins CS dx [("process_limit", .int S.P), ("number_limit", .int S.N), ("tables", .ref t), ("sources", .ref s), ("sets", .ref u), ("next_thing", .int S.next)]
structure Cs where
  S : Addr
  W : Addr
  R : Addr
def co (C : Cs) (S : Sys) (ad dx : Cell → Addr) : Cell → HO
  | .box => sysO C.S (dx .box) S (ad .tabD) (ad .srcD) (ad .setD)
  | .tabD => .dK (entKV S.procs fun p => ad (.tab p))
  | .srcD => .dK (entKV S.srcs fun t => ad (.srcT t))
  | .setD => .dK (entKV S.sets fun s => ad (.ws s))
  | .tab p => .lst ((S.tab p).map optV)
  | .srcT t => .tup [.int (S.unit t).1, .bl (S.unit t).2]
  | .ws s => wsO C.W (dx (.ws s)) (ad (.ent s)) (ad (.que s))
  | .ent s => .dK (entKV (S.ents s) fun l => ad (.reg s l))
  | .que s => .lst ((S.que s).map V.int)
  | .reg s l => regO C.R (dx (.reg s l)) (S.reg s l).num (S.reg s l).src (S.reg s l).word (S.reg s l).armed
structure At (C : Cs) (H : Hp) (S : Sys) (ad dx : Cell → Addr) : Prop where
  at_ : ∀ c, live S c → H (ad c) = some (co C S ad dx c)
  inj : ∀ c c', live S c → live S c' → ad c = ad c' → c = c'
def own (S : Sys) (ad : Cell → Addr) (b : Addr) : Prop := ∃ c, live S c ∧ ad c = b
/-- what lies outside stays; what comes in is new -/
structure Step (H : Hp) (S : Sys) (ad : Cell → Addr) (H' : Hp) (S' : Sys) (ad' : Cell → Addr) : Prop where
  keep : ∀ b o, ¬ own S ad b → H b = some o → H' b = some o
  new : ∀ b, own S' ad' b → own S ad b ∨ H b = none
  box : ad' .box = ad .box
section
variable {C : Cs} {H H' H2 : Hp} {S S' S2 : Sys} {ad ad' ad2 dx dx' : Cell → Addr}
theorem Step.refl : Step H S ad H S ad := ⟨fun _ _ _ z => z, fun _ z => .inl z, rfl⟩
theorem Step.trans (a : Step H S ad H' S' ad') (b : Step H' S' ad' H2 S2 ad2) : Step H S ad H2 S2 ad2 := by
  refine ⟨fun x o n e => b.keep x o (fun z => ?_) (a.keep x o n e), fun x z => ?_, b.box.trans a.box⟩
  · rcases a.new x z with y | y
    · exact n y
    · rw [y] at e
      cases e
  · rcases b.new x z with y | y
    · exact a.new x y
    · cases e : H x with
      | none => exact .inr rfl
      | some o =>
        by_cases w : own S ad x
        · exact .inl w
        · rw [a.keep x o w e] at y
          cases y
theorem Step.same (s : Same H H') : Step H S ad H' S ad := ⟨fun b o _ e => s _ _ e, fun _ z => .inl z, rfl⟩
theorem At.same (A : At C H S ad dx) (s : Same H H') : At C H' S ad dx := ⟨fun c hc => s _ _ (A.at_ c hc), A.inj⟩
theorem At.ne (A : At C H S ad dx) {c c' : Cell} (h : live S c) (h' : live S c') (n : c ≠ c') : ad c ≠ ad c' := fun z => n (A.inj c c' h h' z)
theorem At.new (A : At C H S ad dx) {c : Cell} {l : Addr} (h : live S c) (n : H l = none) : ad c ≠ l := ne_of_none (A.at_ c h) n
/-- where the cells' addresses stay -/
theorem At.re (A : At C H S ad dx) (hl : ∀ c, live S' c ↔ live S c) (h : ∀ c, live S c → (H' (ad c) = some (co C S' ad dx c)) ∨ (co C S' ad dx c = co C S ad dx c ∧ H' (ad c) = H (ad c))) : At C H' S' ad dx := by
  refine ⟨fun c hc => ?_, fun c c' h1 h2 => A.inj c c' ((hl c).mp h1) ((hl c').mp h2)⟩
  have hc := (hl c).mp hc
  rcases h c hc with e | ⟨e1, e2⟩
  · exact e
  · rw [e1, e2]
    exact A.at_ c hc
theorem Step.re (hl : ∀ c, live S' c ↔ live S c) (h : ∀ b o, ¬ own S ad b → H b = some o → H' b = some o) : Step H S ad H' S' ad := ⟨h, fun b ⟨c, h1, h2⟩ => .inl ⟨c, (hl c).mp h1, h2⟩, rfl⟩
end
section
variable {P : Program} {w : World} {K : PySem.W.Frag} {mg : Str → Option Value} {base : Heap} {C : Cs}
structure MO (P : Program) (w : World) (K : PySem.W.Frag) (mg : Str → Option Value) (base : Heap) (k : Nat) (C : Addr) (m : Str) (ps : List Str) (sp : Sp) (f : Addr) (fd : FuncData) : Prop where
  g : FnOk P w K mg base CX0 k f fd ps sp
  m : Meth K C m f
  b : Binds K fd ps []
structure DO (P : Program) (w : World) (K : PySem.W.Frag) (mg : Str → Option Value) (base : Heap) (k : Nat) (x : Str) (ps : List Str) (sp : Sp) (f : Addr) (fd : FuncData) : Prop where
  g : FnOk P w K mg base CX0 k f fd ps sp
  k : PySem.W.keepIn K (.ref f) = true
  m : mg x = some (.ref f)
  b : Binds K fd ps []
/-- a call on a system -/
def OnSys (C : Cs) (vs : List V) (H : Hp) (rest : List V) (k : Sys → (Cell → Addr) → (Cell → Addr) → Prop) : Prop := ∃ (S : Sys) (ad dx : Cell → Addr), vs = .ref (ad .box) :: rest ∧ At C H S ad dx ∧ k S ad dx
def spContains (C : Cs) : Sp := fun vs H Q _ => ∃ p : Int, OnSys C vs H [.int p] fun S _ _ => Q (.bl (decide (p ∈ S.procs))) H
theorem scContains : FnScope ["self", "x"] ["self", "x"] (defScope sContains) := ⟨rfl, rfl, rfl, by decide +kernel, rfl, by decide +kernel, by decide +kernel⟩
theorem okContains {f fI : Addr} {fd fdI : FuncData} (F : Fun K "__contains__" "System.__contains__" sContains f fd) (T : ClsF K C.S sysF) (GI : DO P w K mg base 1 "is_integer" ["x"] spIsInteger fI fdI) : FnOk P w K mg base CX0 2 f fd ["self", "x"] (spContains C) := by
  refine F.ok scContains (fun vs H Q E h => ?_) (fun cdv A outer s H vs Q E hr h => ?_)
  · obtain ⟨_, _, _, _, rfl, _⟩ := h
    rfl
  · obtain ⟨p, S, ad, dx, rfl, A0, k⟩ := h
    have hu := hu_of hr
    refine ⟨_, pss_one (ps_ret (pe_and (pe_call GI.g hr (by rfl) GI.m GI.k GI.b .nil pass0 (pa_cons (pv 1) pa_nil)) (pe_one (pe_cmp (pc_din hu (pv 1) (pe_fld (pv 0) rfl)) rfl)))), ?_⟩
    walk_at "wn"
    refine ⟨p, rfl, ?_⟩
    walk_at "wn"
    refine ⟨_, rfl, _, rfl, ad .box, C.S, dx .box, _, _, rfl, A0.at_ .box trivial, T.cl, T.no _ (by decide), rfl, ?_⟩
    refine ⟨ad .tabD, _, rfl, DGet.k (k := Sum.inl p) (A0.at_ .tabD trivial), ?_⟩
    rw [ent_val]
    by_cases hp : p ∈ S.procs
    · rw [if_pos hp]
      rw [decide_eq_true hp] at k
      exact k
    · rw [if_neg hp]
      rw [decide_eq_false hp] at k
      exact k
def spTableOf (C : Cs) : Sp := fun vs H Q _ => ∃ p : Int, OnSys C vs H [.int p] fun S ad _ => p ∈ S.procs ∧ Q (.ref (ad (.tab p))) H
theorem scTableOf : FnScope ["self", "process"] ["self", "process"] (defScope sTableOf) := ⟨rfl, rfl, rfl, by decide +kernel, rfl, by decide +kernel, by decide +kernel⟩
theorem okTableOf {f fC : Addr} {fd fdC : FuncData} (F : Fun K "table_of" "System.table_of" sTableOf f fd) (T : ClsF K C.S sysF) (GC : MO P w K mg base 2 C.S "__contains__" ["self", "x"] (spContains C) fC fdC) : FnOk P w K mg base CX0 3 f fd ["self", "process"] (spTableOf C) := by
  refine F.ok scTableOf (fun vs H Q E h => ?_) (fun cdv A outer s H vs Q E hr h => ?_)
  · obtain ⟨_, _, _, _, rfl, _⟩ := h
    rfl
  · obtain ⟨p, S, ad, dx, rfl, A0, hp, k⟩ := h
    have hu := hu_of hr
    refine ⟨_, pss_cons (ps_if (pt_cmpR (op_ownNotIn GC.g hr GC.m.at_ GC.m.fn GC.b pass0) (pv 1) (pv 0) (by rfl)) (pss_one ps_never) pss_nil)
      (pss_one (ps_ret (pe_dget hu (pe_fld (pv 0) rfl) (pv 1) (fun _ _ => rfl)))), ?_⟩
    walk_at "wn"
    refine ⟨ad .box, dx .box, _, rfl, A0.at_ .box trivial, p, S, ad, dx, rfl, A0, _, rfl, ?_⟩
    rw [decide_eq_true hp]
    walk_at "wn"
    refine ⟨_, rfl, ad .box, C.S, dx .box, _, _, rfl, A0.at_ .box trivial, T.cl, T.no _ (by decide), rfl, ?_⟩
    have hv : valV (entKV S.procs fun p => ad (.tab p)) (Sum.inl p) = some (.ref (ad (.tab p))) := by rw [ent_val, if_pos hp]
    exact ⟨_, rfl, ad .tabD, _, rfl, hv ▸ DGet.k (k := Sum.inl p) (A0.at_ .tabD trivial), k⟩
def spIsTabNum (C : Cs) : Sp := fun vs H Q _ => ∃ n : Int, OnSys C vs H [.int n] fun S _ _ => Q (.bl (decide (0 ≤ n) && decide (n ≤ S.N - 1))) H
theorem scIsTabNum : FnScope ["self", "number"] ["self", "number"] (defScope sIsTabNum) := ⟨rfl, rfl, rfl, by decide +kernel, rfl, by decide +kernel, by decide +kernel⟩
theorem okIsTabNum {f fB : Addr} {fd fdB : FuncData} (F : Fun K "is_table_number" "System.is_table_number" sIsTabNum f fd) (T : ClsF K C.S sysF) (GB : DO P w K mg base 2 "is_between" ["x", "least", "most"] spIsBetween fB fdB) : FnOk P w K mg base CX0 3 f fd ["self", "number"] (spIsTabNum C) := by
  refine F.ok scIsTabNum (fun vs H Q E h => ?_) (fun cdv A outer s H vs Q E hr h => ?_)
  · obtain ⟨_, _, _, _, rfl, _⟩ := h
    rfl
  · obtain ⟨n, S, ad, dx, rfl, A0, k⟩ := h
    refine ⟨_, pss_one (ps_ret (pe_call GB.g hr (by rfl) GB.m GB.k GB.b .nil pass0 (pa_cons (pv 1) (pa_cons pe_int (pa_cons (pe_op op_sub (pe_fld (pv 0) rfl) pe_int) pa_nil))))), ?_⟩
    walk_at "wn"
    refine ⟨_, rfl, ad .box, C.S, dx .box, _, _, rfl, A0.at_ .box trivial, T.cl, T.no _ (by decide), rfl, ?_⟩
    walk_at "wn"
    exact ⟨n, 0, S.N - 1, rfl, k⟩
/-- a number that means a thing -/
structure Means (S : Sys) (p n t : Int) : Prop where
  pr : p ∈ S.procs
  lo : 0 ≤ n
  hi : n ≤ S.N - 1
  at_ : (S.tab p)[n.toNat]? = some (some t)
def spThingAt (C : Cs) : Sp := fun vs H Q _ => ∃ p n t : Int, OnSys C vs H [.int p, .int n] fun S _ _ => Means S p n t ∧ Q (.int t) H
theorem scThingAt : FnScope ["self", "process", "number", "table"] ["self", "process", "number"] (defScope sThingAt) := ⟨rfl, rfl, rfl, by decide +kernel, rfl, by decide +kernel, by decide +kernel⟩
theorem okThingAt {f fT fN : Addr} {fd fdT fdN : FuncData} (F : Fun K "thing_at" "System.thing_at" sThingAt f fd) (T : ClsF K C.S sysF) (GT : MO P w K mg base 3 C.S "table_of" ["self", "process"] (spTableOf C) fT fdT) (GN : MO P w K mg base 3 C.S "is_table_number" ["self", "number"] (spIsTabNum C) fN fdN) :
    FnOk P w K mg base CX0 4 f fd ["self", "process", "number"] (spThingAt C) := by
  refine F.ok scThingAt (fun vs H Q E h => ?_) (fun cdv A outer s H vs Q E hr h => ?_)
  · obtain ⟨_, _, _, _, _, _, rfl, _⟩ := h
    rfl
  · obtain ⟨p, n, t, S, ad, dx, rfl, A0, M, k⟩ := h
    refine ⟨_, pss_cons (ps_set (i := 3) scThingAt.nd rfl (Or.inl rfl) (pe_meth (pv 0) T.cl GT.m GT.g hr GT.b .nil pass0 (pa_cons (pv 1) pa_nil)))
      (pss_cons (ps_if (PW.pt (pw_or (pt_not (pt_val (pe_meth (pv 0) T.cl GN.m GN.g hr GN.b .nil pass0 (pa_cons (pv 2) pa_nil)))) (pw_or1 (pt_cmpR oIsN (pe_ix ix_list (pv 3) (pv 2) (fun _ _ => rfl)) pe_non (nomark _))))) (pss_one ps_never) pss_nil)
      (pss_one (ps_ret (pe_ix ix_list (pv 3) (pv 2) (fun _ _ => rfl))))), ?_⟩
    have hb := A0.at_ .box trivial
    have ht := A0.at_ (.tab p) M.pr
    obtain ⟨m, hm⟩ := Int.eq_ofNat_of_zero_le M.lo
    have hat : atI ((S.tab p).map optV) n = some (V.int t) := by
      have e := M.at_
      rw [hm] at e ⊢
      refine atI_nat ?_
      rw [List.getElem?_map, show (S.tab p)[m]? = some (some t) from e]
      rfl
    walk_at "wn"
    refine ⟨_, rfl, ad .box, dx .box, _, rfl, hb, rfl, ?_⟩
    walk_at "wn"
    refine ⟨p, S, ad, dx, rfl, A0, M.pr, ?_⟩
    walk_at "wn"
    refine ⟨_, rfl, ad .box, dx .box, _, rfl, hb, rfl, ?_⟩
    walk_at "wn"
    refine ⟨n, S, ad, dx, rfl, A0, ?_⟩
    dsimp only
    rw [decide_eq_true M.lo, decide_eq_true M.hi]
    walk_at "wn"
    refine ⟨_, rfl, ?_⟩
    walk_at "wn"
    refine ⟨ad (.tab p), _, n, _, rfl, rfl, SqL.of ht, hat, ?_⟩
    walk_at "wn"
    have e : decide (V.int t = V.non) = false := decide_eq_false fun z => nomatch z
    rw [e]
    walk_at "wn"
    exact ⟨ad (.tab p), _, n, _, rfl, rfl, SqL.of ht, hat, k⟩
def spSourceAt (C : Cs) : Sp := fun vs H Q _ => ∃ p n t : Int, OnSys C vs H [.int p, .int n] fun S _ _ => Means S p n t ∧ t ∈ S.srcs ∧ Q (.int t) H
theorem scSourceAt : FnScope ["self", "process", "number", "thing"] ["self", "process", "number"] (defScope sSourceAt) := ⟨rfl, rfl, rfl, by decide +kernel, rfl, by decide +kernel, by decide +kernel⟩
theorem okSourceAt {f fT : Addr} {fd fdT : FuncData} (F : Fun K "source_at" "System.source_at" sSourceAt f fd) (T : ClsF K C.S sysF) (GT : MO P w K mg base 4 C.S "thing_at" ["self", "process", "number"] (spThingAt C) fT fdT) :
    FnOk P w K mg base CX0 5 f fd ["self", "process", "number"] (spSourceAt C) := by
  refine F.ok scSourceAt (fun vs H Q E h => ?_) (fun cdv A outer s H vs Q E hr h => ?_)
  · obtain ⟨_, _, _, _, _, _, rfl, _⟩ := h
    rfl
  · obtain ⟨p, n, t, S, ad, dx, rfl, A0, M, ht, k⟩ := h
    have hu := hu_of hr
    refine ⟨_, pss_cons (ps_set (i := 3) scSourceAt.nd rfl (Or.inl rfl) (pe_meth (pv 0) T.cl GT.m GT.g hr GT.b .nil pass0 (pa_cons (pv 1) (pa_cons (pv 2) pa_nil))))
      (pss_cons (ps_if (pt_cmp (pc_dnotin hu (pv 3) (pe_fld (pv 0) rfl)) rfl) (pss_one ps_never) pss_nil)
      (pss_one (ps_ret (pv 3)))), ?_⟩
    have hb := A0.at_ .box trivial
    walk_at "wn"
    refine ⟨_, rfl, ad .box, dx .box, _, rfl, hb, rfl, ?_⟩
    walk_at "wn"
    refine ⟨p, n, t, S, ad, dx, rfl, A0, M, ?_⟩
    walk_at "wn"
    refine ⟨_, rfl, _, rfl, ad .box, C.S, dx .box, _, _, rfl, hb, T.cl, T.no _ (by decide), rfl, ?_⟩
    refine ⟨ad .srcD, _, rfl, DGet.k (k := Sum.inl t) (A0.at_ .srcD trivial), ?_⟩
    rw [ent_val, if_pos ht]
    refine ⟨_, rfl, ?_⟩
    show if false = true then _ else _
    walk_at "wn"
    exact k
def spSetAt (C : Cs) : Sp := fun vs H Q _ => ∃ p n t : Int, OnSys C vs H [.int p, .int n] fun S ad _ => Means S p n t ∧ t ∈ S.sets ∧ Q (.ref (ad (.ws t))) H
theorem scSetAt : FnScope ["self", "process", "set_number", "thing"] ["self", "process", "set_number"] (defScope sSetAt) := ⟨rfl, rfl, rfl, by decide +kernel, rfl, by decide +kernel, by decide +kernel⟩
theorem okSetAt {f fT : Addr} {fd fdT : FuncData} (F : Fun K "set_at" "System.set_at" sSetAt f fd) (T : ClsF K C.S sysF) (GT : MO P w K mg base 4 C.S "thing_at" ["self", "process", "number"] (spThingAt C) fT fdT) :
    FnOk P w K mg base CX0 5 f fd ["self", "process", "set_number"] (spSetAt C) := by
  refine F.ok scSetAt (fun vs H Q E h => ?_) (fun cdv A outer s H vs Q E hr h => ?_)
  · obtain ⟨_, _, _, _, _, _, rfl, _⟩ := h
    rfl
  · obtain ⟨p, n, t, S, ad, dx, rfl, A0, M, ht, k⟩ := h
    have hu := hu_of hr
    refine ⟨_, pss_cons (ps_set (i := 3) scSetAt.nd rfl (Or.inl rfl) (pe_meth (pv 0) T.cl GT.m GT.g hr GT.b .nil pass0 (pa_cons (pv 1) (pa_cons (pv 2) pa_nil))))
      (pss_cons (ps_if (pt_cmp (pc_dnotin hu (pv 3) (pe_fld (pv 0) rfl)) rfl) (pss_one ps_never) pss_nil)
      (pss_one (ps_ret (pe_dget hu (pe_fld (pv 0) rfl) (pv 3) (fun _ _ => rfl))))), ?_⟩
    have hb := A0.at_ .box trivial
    walk_at "wn"
    refine ⟨_, rfl, ad .box, dx .box, _, rfl, hb, rfl, ?_⟩
    walk_at "wn"
    refine ⟨p, n, t, S, ad, dx, rfl, A0, M, ?_⟩
    walk_at "wn"
    have hv : valV (entKV S.sets fun s => ad (.ws s)) (Sum.inl t) = some (.ref (ad (.ws t))) := by rw [ent_val, if_pos ht]
    refine ⟨_, rfl, _, rfl, ad .box, C.S, dx .box, _, _, rfl, hb, T.cl, T.no _ (by decide), rfl, ?_⟩
    refine ⟨ad .setD, _, rfl, DGet.k (k := Sum.inl t) (A0.at_ .setD trivial), ?_⟩
    rw [ent_val, if_pos ht]
    refine ⟨_, rfl, ?_⟩
    show if false = true then _ else _
    walk_at "wn"
    refine ⟨_, rfl, ad .box, C.S, dx .box, _, _, rfl, hb, T.cl, T.no _ (by decide), rfl, ?_⟩
    exact ⟨_, rfl, ad .setD, _, rfl, hv ▸ DGet.k (k := Sum.inl t) (A0.at_ .setD trivial), k⟩
/-! free_number -/
def firstFree (t : List (Option Int)) (n : Nat) : Prop := t[n]? = some none ∧ ∀ i, i < n → ∃ x, t[i]? = some (some x)
def spFreeNum (C : Cs) : Sp := fun vs H Q _ => ∃ (p : Int) (n : Nat), OnSys C vs H [.int p] fun S _ _ => p ∈ S.procs ∧ firstFree (S.tab p) n ∧ (S.tab p).length ≤ 1000 ∧ ∀ H', Same H H' → Q (.int (n : Int)) H'
theorem scFreeNum : FnScope ["self", "process", "number", "thing"] ["self", "process"] (defScope sFreeNum) := ⟨rfl, rfl, rfl, by decide +kernel, rfl, by decide +kernel, by decide +kernel⟩
structure SysTxt (mg : Str → Option Value) : Prop where
  enum : mg "enumerate" = none
  list : mg "list" = none
  min : mg "min" = none
theorem okFreeNum {f fT : Addr} {fd fdT : FuncData} (F : Fun K "free_number" "System.free_number" sFreeNum f fd) (X : SysTxt mg) (T : ClsF K C.S sysF) (GT : MO P w K mg base 3 C.S "table_of" ["self", "process"] (spTableOf C) fT fdT) :
    FnOk P w K mg base CX0 4 f fd ["self", "process"] (spFreeNum C) := by
  refine F.ok scFreeNum (fun vs H Q E h => ?_) (fun cdv A outer s H vs Q E hr h => ?_)
  · obtain ⟨_, _, _, _, _, rfl, _⟩ := h
    rfl
  · obtain ⟨p, n, S, ad, dx, rfl, A0, hp, hf, hl, k⟩ := h
    refine ⟨_, pss_cons (ps_for PassesOwn.never rfl (pi_enum (by rfl) X.enum (pa_cons (pe_meth (pv 0) T.cl GT.m GT.g hr GT.b .nil pass0 (pa_cons (pv 1) pa_nil)) pa_nil)) (pg_tup rfl (pgs_cons (pg_name (i := 2) scFreeNum.nd rfl (Or.inl rfl)) (pgs_cons (pg_name (i := 3) scFreeNum.nd rfl (Or.inl rfl)) pgs_nil)))
        (pss_one (ps_if (pt_cmpR oIsN (pv 3) pe_non (nomark _)) (pss_one (ps_ret (pv 2))) pss_nil)))
      (pss_one ps_never), ?_⟩
    have hb := A0.at_ .box trivial
    have ht := A0.at_ (.tab p) hp
    refine ⟨_, rfl, ad .box, dx .box, _, rfl, hb, rfl, ?_⟩
    walk_at "wn"
    refine ⟨p, S, ad, dx, rfl, A0, hp, ?_⟩
    refine ⟨ad (.tab p), _, rfl, SqL.of ht, ?_⟩
    have hn : n < (S.tab p).length := (List.getElem?_eq_some_iff.mp hf.1).1
    refine for_it (walk_enum (xs := (S.tab p).map optV)) (fun i σ' H1 => ∃ u v : Option V, σ' = [some (.ref (ad .box)), some (.int p), u, v] ∧ Same H H1 ∧ i ≤ n) ⟨_, _, rfl, Same.refl _, Nat.zero_le _⟩ (fun i σ' H1 _ ⟨_, _, _, sm, _⟩ => Same.seq sm (SqL.of ht)) ?_ ?_
    · rintro i x σ' H1 H2 hi ⟨u, v, rfl, sm, hin⟩ ⟨T1, x1, y1, rfl, nT, rfl, ex, ey⟩
      have smT := sm.trans (Same.new' (o := .tup [x1, y1]) nT)
      obtain rfl := Option.some.inj ex
      have ey : ((S.tab p).map optV)[i]? = some y1 := ey
      rw [List.getElem?_map] at ey
      refine ⟨T1, _, rfl, SqT.of upd_same, rfl, _, _, rfl, ?_⟩
      walk_at "wn"
      refine ⟨_, _, rfl, ?_⟩
      walk_at "wn"
      refine ⟨rfl, ?_⟩
      walk_at "wn"
      rcases Nat.lt_or_ge i n with z | z
      · obtain ⟨t, et⟩ := hf.2 i z
        rw [et] at ey
        cases ey
        have e : decide (optV (some t) = V.non) = false := decide_eq_false fun z => nomatch z
        rw [e]
        walk_at "wn"
        exact ⟨_, _, rfl, smT, z⟩
      · obtain rfl : i = n := by omega
        rw [hf.1] at ey
        cases ey
        have e : decide (optV none = V.non) = true := decide_eq_true rfl
        rw [e]
        walk_at "wn"
        exact k _ smT
    · rintro σ' H1 ⟨u, v, rfl, sm, hin⟩
      rw [List.length_map] at hin
      exact absurd hin (by omega)
end

section
variable {C : Cs} {H H' H2 : Hp} {S S' S2 : Sys} {ad ad' ad2 dx dx' : Cell → Addr}
/-- some cells are written, made or stand elsewhere; the others stay -/
theorem At.re3 (ch : List Cell) (A : At C H S ad dx) (hl : ∀ c, live S' c → c ∈ ch ∨ live S c) (h1 : ∀ c ∈ ch, live S' c → H' (ad' c) = some (co C S' ad' dx' c)) (h2 : ∀ c, c ∉ ch → live S c → ad' c = ad c ∧ co C S' ad' dx' c = co C S ad dx c)
    (fresh : ∀ c ∈ ch, live S' c → (ad' c = ad c ∧ live S c) ∨ H (ad' c) = none) (dist : ∀ c ∈ ch, ∀ c' ∈ ch, live S' c → live S' c' → H (ad' c) = none → ad' c = ad' c' → c = c')
    (k : ∀ b o, (∀ c ∈ ch, live S c → b ≠ ad c) → H b = some o → H' b = some o) (box : ad' .box = ad .box) : At C H' S' ad' dx' ∧ Step H S ad H' S' ad' := by
  have out : ∀ c, c ∉ ch → live S' c → live S c := fun c hc l => (hl c l).resolve_left hc
  have keep : ∀ c, c ∉ ch → live S c → H' (ad c) = H (ad c) := fun c hc l => by
    rw [A.at_ c l]
    exact k _ _ (fun c' hc' l' z => hc (by rw [A.inj c c' l l' z]; exact hc')) (A.at_ c l)
  refine ⟨⟨fun c l => ?_, fun c c' l l' z => ?_⟩, ⟨fun b o n e => k b o (fun c hc lc z => n ⟨c, lc, z.symm⟩) e, fun b ⟨c, l, e⟩ => ?_, box⟩⟩
  · by_cases hc : c ∈ ch
    · exact h1 c hc l
    · have ls := out c hc l
      obtain ⟨e1, e2⟩ := h2 c hc ls
      rw [e1, e2, keep c hc ls]
      exact A.at_ c ls
  · have some_ : ∀ c, c ∉ ch → live S' c → H (ad' c) ≠ none := fun c hc l z => by
      have ls := out c hc l
      rw [(h2 c hc ls).1, A.at_ c ls] at z
      cases z
    by_cases hc : c ∈ ch
    · by_cases hc' : c' ∈ ch
      · rcases fresh c hc l with f | f
        · rcases fresh c' hc' l' with f' | f'
          · exact A.inj c c' f.2 f'.2 (by rw [← f.1, ← f'.1, z])
          · rw [← z, f.1, A.at_ c f.2] at f'
            cases f'
        · exact dist c hc c' hc' l l' f z
      · rcases fresh c hc l with f | f
        · have ls := out c' hc' l'
          exact A.inj c c' f.2 ls (by rw [← f.1, z, (h2 c' hc' ls).1])
        · rw [z] at f
          exact absurd f (some_ c' hc' l')
    · have ls := out c hc l
      by_cases hc' : c' ∈ ch
      · rcases fresh c' hc' l' with f | f
        · exact A.inj c c' ls f.2 (by rw [← f.1, ← z, (h2 c hc ls).1])
        · rw [← z] at f
          exact absurd f (some_ c hc l)
      · have ls' := out c' hc' l'
        exact A.inj c c' ls ls' (by rw [← (h2 c hc ls).1, z, (h2 c' hc' ls').1])
  · by_cases hc : c ∈ ch
    · rcases fresh c hc l with f | f
      · exact .inl ⟨c, f.2, by rw [← f.1]; exact e⟩
      · rw [e] at f
        exact .inr f
    · have ls := out c hc l
      exact .inl ⟨c, ls, by rw [← (h2 c hc ls).1]; exact e⟩
/-- where the addresses stay -/
theorem At.re2 (ch : List Cell) (A : At C H S ad dx) (hl : ∀ c, live S' c → live S c) (lv : ∀ c ∈ ch, live S c) (h1 : ∀ c ∈ ch, H' (ad c) = some (co C S' ad dx c)) (h2 : ∀ c, c ∉ ch → live S c → co C S' ad dx c = co C S ad dx c)
    (k : ∀ b o, (∀ c ∈ ch, b ≠ ad c) → H b = some o → H' b = some o) : At C H' S' ad dx ∧ Step H S ad H' S' ad :=
  At.re3 ch A (fun c l => .inr (hl c l)) (fun c hc _ => h1 c hc) (fun c hc l => ⟨rfl, h2 c hc l⟩) (fun c hc l => .inl ⟨rfl, hl c l⟩) (fun c hc c' hc' l l' _ z => A.inj c c' (hl c l) (hl c' l') z)
    (fun b o n e => k b o (fun c hc => n c hc (lv c hc)) e) rfl
theorem At.not_own (A : At C H S ad dx) {l : Addr} (n : H l = none) : ¬ own S ad l := fun ⟨c, h, e⟩ => by
  rw [← e, A.at_ c h] at n
  cases n
end
theorem nodup_idx {α : Type} : ∀ {l : List α} {i j : Nat} {a : α}, l.Nodup → l[i]? = some a → l[j]? = some a → i = j
  | [], i, _, _, _, h, _ => by simp at h
  | _ :: _, 0, 0, _, _, _, _ => rfl
  | x :: l, 0, j + 1, a, nd, h, h' => by
    obtain rfl : x = a := by simpa using h
    exact absurd (List.mem_of_getElem? (show l[j]? = some x from h')) (List.nodup_cons.mp nd).1
  | x :: l, i + 1, 0, a, nd, h, h' => by
    obtain rfl : x = a := by simpa using h'
    exact absurd (List.mem_of_getElem? (show l[i]? = some x from h)) (List.nodup_cons.mp nd).1
  | x :: l, i + 1, j + 1, a, nd, h, h' => by rw [nodup_idx (List.nodup_cons.mp nd).2 (show l[i]? = some a from h) (show l[j]? = some a from h')]
def newThing (S : Sys) (p : Int) (n : Nat) : Sys := { S with next := S.next + 1, tab := fun q => if q = p then (S.tab p).set n (some S.next) else S.tab q }
section
variable {P : Program} {w : World} {K : PySem.W.Frag} {mg : Str → Option Value} {base : Heap} {C : Cs}
def spNewThing (C : Cs) : Sp := fun vs H Q _ => ∃ (p : Int) (n : Nat), OnSys C vs H [.int p] fun S ad dx => p ∈ S.procs ∧ firstFree (S.tab p) n ∧ (S.tab p).length ≤ 1000 ∧
  ∀ H' T, H T = none → H' T = some (.tup [.int (n : Int), .int S.next]) → At C H' (newThing S p n) ad dx → Step H S ad H' (newThing S p n) ad → Q (.ref T) H'
theorem scNewThing : FnScope ["self", "process", "number", "thing"] ["self", "process"] (defScope sNewThing) := ⟨rfl, rfl, rfl, by decide +kernel, rfl, by decide +kernel, by decide +kernel⟩
theorem okNewThing {f fF : Addr} {fd fdF : FuncData} (F : Fun K "new_thing" "System.new_thing" sNewThing f fd) (T : ClsF K C.S sysF) (GF : MO P w K mg base 4 C.S "free_number" ["self", "process"] (spFreeNum C) fF fdF) :
    FnOk P w K mg base CX0 5 f fd ["self", "process"] (spNewThing C) := by
  refine F.ok scNewThing (fun vs H Q E h => ?_) (fun cdv A outer s H vs Q E hr h => ?_)
  · obtain ⟨_, _, _, _, _, rfl, _⟩ := h
    rfl
  · obtain ⟨p, n, S, ad, dx, rfl, A0, hp, hf, hl, k⟩ := h
    have hu := hu_of hr
    refine ⟨_, pss_cons (ps_set (i := 2) scNewThing.nd rfl (Or.inl rfl) (pe_meth (pv 0) T.cl GF.m GF.g hr GF.b .nil pass0 (pa_cons (pv 1) pa_nil)))
      (pss_cons (ps_set (i := 3) scNewThing.nd rfl (Or.inl rfl) (pe_fld (pv 0) rfl))
      (pss_cons (ps_fldaug (pv 0) pe_int in_add)
      (pss_cons (ps_asg (pv 3) (pg_sub (pe_dget hu (pe_fld (pv 0) rfl) (pv 1) (fun _ _ => rfl)) (pv 2) set_list))
      (pss_one (ps_ret (pe_tup (pa_cons (pv 2) (pa_cons (pv 3) pa_nil)))))))), ?_⟩
    walk_at "wn"
    refine ⟨_, rfl, ad .box, dx .box, _, rfl, A0.at_ .box trivial, rfl, ?_⟩
    walk_at "wn"
    refine ⟨p, n, S, ad, dx, rfl, A0, hp, hf, hl, fun H1 s1 => ?_⟩
    have A1 := A0.same s1
    have hb := A1.at_ .box trivial
    have ht := A1.at_ (.tab p) hp
    have nbt : ad .box ≠ ad (.tab p) := A1.ne (c := .box) (c' := .tab p) trivial hp (by intro z; cases z)
    have nbd : ad .tabD ≠ ad .box := A1.ne (c := .tabD) (c' := .box) trivial trivial (by intro z; cases z)
    walk_at "wn"
    refine ⟨_, rfl, ad .box, C.S, dx .box, _, _, rfl, hb, T.cl, T.no _ (by decide), rfl, ?_⟩
    walk_at "wn"
    refine ⟨_, rfl, ad .box, C.S, dx .box, _, _, rfl, hb, T.cl, T.no _ (by decide), rfl, ?_⟩
    refine ⟨_, _, rfl, rfl, ?_⟩
    refine ⟨_, _, hb, by show 6 < 1000; decide, ?_⟩
    walk_at "wn"
    have hv : valV (entKV S.procs fun p => ad (.tab p)) (Sum.inl p) = some (.ref (ad (.tab p))) := by rw [ent_val, if_pos hp]
    refine ⟨_, rfl, ad .box, C.S, dx .box, _, _, rfl, upd_same, T.cl, T.no _ (by decide), rfl, ?_⟩
    refine ⟨_, rfl, ad .tabD, _, rfl, hv ▸ DGet.k (k := Sum.inl p) (by rw [upd_ne nbd]; exact A1.at_ .tabD trivial), ?_⟩
    have hn : n < (S.tab p).length := (List.getElem?_eq_some_iff.mp hf.1).1
    refine ⟨_, rfl, ad (.tab p), _, _, n, rfl, rfl, by rw [upd_ne (Ne.symm nbt)]; exact ht, by rw [List.length_map]; exact ixN_nat hn, ?_⟩
    walk_at "wn"
    refine ⟨by show 2 ≤ sizeLine; decide, fun T1 hT => ?_⟩
    have nTt : T1 ≠ ad (.tab p) := fun z => by rw [z, upd_same] at hT; cases hT
    rw [upd_ne nTt] at hT
    have nTb : T1 ≠ ad .box := fun z => by rw [z, upd_same] at hT; cases hT
    rw [upd_ne nTb] at hT
    refine (fun z : At C _ _ _ _ ∧ Step _ _ _ _ _ _ => k _ T1 (s1.free hT) upd_same z.1 ((Step.same s1).trans z.2)) ?_
    refine At.re2 [.box, .tab p] A1 (fun c l => by cases c <;> exact l) (fun c hc => ?_) (fun c hc => ?_) (fun c hc l => ?_) (fun b o n e => ?_)
    · simp only [List.mem_cons, List.not_mem_nil, or_false] at hc
      rcases hc with rfl | rfl
      · exact trivial
      · exact hp
    · simp only [List.mem_cons, List.not_mem_nil, or_false] at hc
      rcases hc with rfl | rfl
      · rw [upd_ne (Ne.symm nTb), upd_ne nbt, upd_same]
        rfl
      · rw [upd_ne (Ne.symm nTt), upd_same]
        show _ = some (HO.lst ((if p = p then (S.tab p).set n (some S.next) else S.tab p).map optV))
        rw [if_pos rfl, List.map_set]
        rfl
    · cases c with
      | box => exact absurd List.mem_cons_self hc
      | tab q =>
        have nq : q ≠ p := fun z => hc (by rw [z]; simp)
        show HO.lst ((if q = p then (S.tab p).set n (some S.next) else S.tab q).map optV) = _
        rw [if_neg nq]
        rfl
      | _ => rfl
    · have n1 := n .box (by simp)
      have n2 := n (.tab p) (by simp)
      rw [upd_ne (ne_of_none e hT), upd_ne n2, upd_ne n1]
      exact e
/-! unread_of_unfinished, is_ready -/
def spUnfinished (C : Cs) : Sp := fun vs H Q _ => ∃ t n : Int, OnSys C vs H [.int t, .int n] fun S _ _ => t ∈ S.srcs ∧ (S.unit t).2 = false ∧ Q (.int (S.unit t).1) H
theorem scUnfinished : FnScope ["self", "source", "number", "unread", "finished"] ["self", "source", "number"] (defScope sUnfinished) := ⟨rfl, rfl, rfl, by decide +kernel, rfl, by decide +kernel, by decide +kernel⟩
theorem okUnfinished {f : Addr} {fd : FuncData} (F : Fun K "unread_of_unfinished" "System.unread_of_unfinished" sUnfinished f fd) (T : ClsF K C.S sysF) : FnOk P w K mg base CX0 1 f fd ["self", "source", "number"] (spUnfinished C) := by
  refine F.ok scUnfinished (fun vs H Q E h => ?_) (fun cdv A outer s H vs Q E hr h => ?_)
  · obtain ⟨_, _, _, _, _, rfl, _⟩ := h
    rfl
  · obtain ⟨t, n, S, ad, dx, rfl, A0, ht, hf, k⟩ := h
    have hu := hu_of hr
    refine ⟨_, pss_cons (ps_asg (pe_dget hu (pe_fld (pv 0) rfl) (pv 1) (fun _ _ => rfl)) (pg_tup rfl (pgs_cons (pg_name (i := 3) scUnfinished.nd rfl (Or.inl rfl)) (pgs_cons (pg_name (i := 4) scUnfinished.nd rfl (Or.inl rfl)) pgs_nil))))
      (pss_cons (ps_if (pt_val (pv 4)) (pss_one ps_never) pss_nil) (pss_one (ps_ret (pv 3)))), ?_⟩
    have hv : valV (entKV S.srcs fun t => ad (.srcT t)) (Sum.inl t) = some (.ref (ad (.srcT t))) := by rw [ent_val, if_pos ht]
    walk_at "wn"
    refine ⟨_, rfl, ad .box, C.S, dx .box, _, _, rfl, A0.at_ .box trivial, T.cl, T.no _ (by decide), rfl, ?_⟩
    refine ⟨_, rfl, ad .srcD, _, rfl, hv ▸ DGet.k (k := Sum.inl t) (A0.at_ .srcD trivial), ?_⟩
    refine ⟨ad (.srcT t), _, rfl, SqT.of (A0.at_ (.srcT t) ht), rfl, _, _, rfl, ?_⟩
    walk_at "wn"
    refine ⟨_, _, rfl, ?_⟩
    walk_at "wn"
    refine ⟨rfl, ?_⟩
    walk_at "wn"
    rw [hf]
    walk_at "wn"
    exact k
def ready (S : Sys) (t : Int) : Bool := decide (0 < (S.unit t).1) || (S.unit t).2
def spIsReady (C : Cs) : Sp := fun vs H Q _ => ∃ t : Int, OnSys C vs H [.int t] fun S _ _ => t ∈ S.srcs ∧ Q (.bl (ready S t)) H
theorem scIsReady : FnScope ["self", "source", "unread", "finished"] ["self", "source"] (defScope sIsReady) := ⟨rfl, rfl, rfl, by decide +kernel, rfl, by decide +kernel, by decide +kernel⟩
theorem okIsReady {f : Addr} {fd : FuncData} (F : Fun K "is_ready" "System.is_ready" sIsReady f fd) (T : ClsF K C.S sysF) : FnOk P w K mg base CX0 1 f fd ["self", "source"] (spIsReady C) := by
  refine F.ok scIsReady (fun vs H Q E h => ?_) (fun cdv A outer s H vs Q E hr h => ?_)
  · obtain ⟨_, _, _, _, rfl, _⟩ := h
    rfl
  · obtain ⟨t, S, ad, dx, rfl, A0, ht, k⟩ := h
    have hu := hu_of hr
    refine ⟨_, pss_cons (ps_asg (pe_dget hu (pe_fld (pv 0) rfl) (pv 1) (fun _ _ => rfl)) (pg_tup rfl (pgs_cons (pg_name (i := 2) scIsReady.nd rfl (Or.inl rfl)) (pgs_cons (pg_name (i := 3) scIsReady.nd rfl (Or.inl rfl)) pgs_nil))))
      (pss_one (ps_ret (pe_or (pe_cmpR op_gt (pv 2) pe_int (nomark _)) (pe_one (pv 3))))), ?_⟩
    have hv : valV (entKV S.srcs fun t => ad (.srcT t)) (Sum.inl t) = some (.ref (ad (.srcT t))) := by rw [ent_val, if_pos ht]
    walk_at "wn"
    refine ⟨_, rfl, ad .box, C.S, dx .box, _, _, rfl, A0.at_ .box trivial, T.cl, T.no _ (by decide), rfl, ?_⟩
    refine ⟨_, rfl, ad .srcD, _, rfl, hv ▸ DGet.k (k := Sum.inl t) (A0.at_ .srcD trivial), ?_⟩
    refine ⟨ad (.srcT t), _, rfl, SqT.of (A0.at_ (.srcT t) ht), rfl, _, _, rfl, ?_⟩
    walk_at "wn"
    refine ⟨_, _, rfl, ?_⟩
    walk_at "wn"
    refine ⟨rfl, ?_⟩
    walk_at "wn"
    unfold ready at k
    refine ite2 (fun hd => ?_) (fun hd => ?_)
    · rw [show decide (0 < (S.unit t).1) = true from hd, Bool.true_or] at k
      exact k
    · rw [show decide (0 < (S.unit t).1) = false from Bool.eq_false_iff.mpr hd, Bool.false_or] at k
      exact ⟨_, rfl, k⟩
/-! notify -/
def notified (S : Sys) (t : Int) : Sys := { S with que := fun s => if s ∈ S.sets then noticeQ (S.reg s) t (S.ents s) (S.que s) else S.que s }
structure Small (S : Sys) : Prop where
  que : ∀ s ∈ S.sets, (S.que s).length ≤ 900
  ents : ∀ s ∈ S.sets, (S.ents s).length ≤ 900
  srcs : S.srcs.length ≤ 900
  sets : S.sets.length ≤ 900
  nd : S.sets.Nodup
def spNotify (C : Cs) : Sp := fun vs H Q _ => ∃ t : Int, OnSys C vs H [.int t] fun S ad dx => Small S ∧ ∀ H', At C H' (notified S t) ad dx → Step H S ad H' (notified S t) ad → Q .non H'
theorem scNotify : FnScope ["self", "source", "waiting"] ["self", "source"] (defScope sNotify) := ⟨rfl, rfl, rfl, by decide +kernel, rfl, by decide +kernel, by decide +kernel⟩
theorem okNotify {f fN : Addr} {fd fdN : FuncData} (F : Fun K "notify" "System.notify" sNotify f fd) (T : ClsF K C.S sysF) (TW : Cls K C.W) (GN : MO P w K mg base 2 C.W "notice" ["self", "source"] (spNotice C.W C.R) fN fdN) : FnOk P w K mg base CX0 3 f fd ["self", "source"] (spNotify C) := by
  refine F.ok scNotify (fun vs H Q E h => ?_) (fun cdv A outer s H vs Q E hr h => ?_)
  · obtain ⟨_, _, _, _, rfl, _⟩ := h
    rfl
  · obtain ⟨t, S, ad, dx, rfl, A0, sm0, k⟩ := h
    refine ⟨_, pss_one (ps_lock (ps_for PassesOwn.never rfl (pi_values (pe_fld (pv 0) rfl)) (pg_name (i := 2) scNotify.nd rfl (Or.inl rfl)) (pss_one (ps_expr (pe_meth (pv 2) TW GN.m GN.g hr GN.b .nil pass0 (pa_cons (pv 1) pa_nil)))))), ?_⟩
    have hb := A0.at_ .box trivial
    have hD := A0.at_ .setD trivial
    have nbD : ad .box ≠ ad .setD := A0.ne (c := .box) (c' := .setD) trivial trivial (by intro z; cases z)
    refine ⟨ad .setD, _, hD, trivial, fun od => ?_⟩
    refine ⟨_, rfl, ad .box, C.S, dx .box, _, _, rfl, by rw [upd_ne nbD]; exact hb, T.cl, T.no _ (by decide), rfl, ?_⟩
    refine ⟨ad .setD, od, _, rfl, upd_same, ?_⟩
    have hqs : ∀ s ∈ S.sets, ad (.que s) ≠ ad .setD := fun s hs => A0.ne (c := .que s) (c' := .setD) hs trivial (by intro z; cases z)
    have eo : co C S ad dx .setD = .dK (entKV S.sets fun s => ad (.ws s)) := rfl
    rw [eo]
    have old : ∀ c, live S c → c ≠ .setD → upd H (ad .setD) (.frz od (.dK (entKV S.sets fun s => ad (.ws s)))) (ad c) = some (co C S ad dx c) := fun c hc n => by rw [upd_ne (A0.ne hc (c' := .setD) trivial n)]; exact A0.at_ c hc
    refine for_it walk_values (fun i σ' H1 => ∃ u : Option V, σ' = [some (.ref (ad .box)), some (.int t), u] ∧ (∀ b o, (∀ s ∈ S.sets, b ≠ ad (.que s)) → upd H (ad .setD) (.frz od (.dK (entKV S.sets fun s => ad (.ws s)))) b = some o → H1 b = some o) ∧ ∀ (j : Nat) (s : Int), S.sets[j]? = some s → H1 (ad (.que s)) = some (.lst ((if j < i then noticeQ (S.reg s) t (S.ents s) (S.que s) else S.que s).map V.int))) ⟨_, rfl, fun _ _ _ z => z, fun j s hj => ?_⟩ (fun i σ' H1 _ ⟨_, _, kp, _⟩ => kp _ _ (fun s hs => Ne.symm (hqs s hs)) upd_same) ?_ ?_
    · rw [if_neg (Nat.not_lt_zero _)]
      exact old (.que s) (List.mem_of_getElem? hj) (by intro z; cases z)
    · rintro i x σ' H1 H2 hi ⟨u, rfl, kp, hq⟩ ⟨rfl, kx, ex⟩
      have hi' : i < S.sets.length := by unfold entKV at hi; rwa [List.length_map] at hi
      have es : S.sets[i]? = some S.sets[i] := List.getElem?_eq_getElem hi'
      have hs : S.sets[i] ∈ S.sets := List.getElem_mem hi'
      unfold entKV at ex
      rw [List.getElem?_map, es] at ex
      cases ex
      generalize S.sets[i] = s at es hs
      have at1 : ∀ c, live S c → c ≠ .setD → (∀ s' , c ≠ .que s') → H2 (ad c) = some (co C S ad dx c) := fun c hc n1 n2 => kp _ _ (fun s' hs' => A0.ne hc (c' := .que s') hs' (n2 s')) (old c hc n1)
      have hw := at1 (.ws s) hs (by intro z; cases z) (fun s' z => by cases z)
      have he := at1 (.ent s) hs (by intro z; cases z) (fun s' z => by cases z)
      have hq1 := hq i s es
      rw [if_neg (Nat.lt_irrefl i)] at hq1
      walk_at "wn"
      refine ⟨_, rfl, ad (.ws s), dx (.ws s), _, rfl, hw, rfl, ?_⟩
      walk_at "wn"
      refine ⟨ad (.ws s), dx (.ws s), ad (.ent s), ad (.que s), t, S.que s, S.ents s, fun l => ad (.reg s l), S.reg s, rfl, hw, hq1, he, fun l hl => ⟨dx (.reg s l), at1 (.reg s l) ⟨hs, hl⟩ (by intro z; cases z) (fun s' z => by cases z)⟩, Nat.le_trans (sm0.que s hs) (by decide), Nat.le_trans (sm0.ents s hs) (by decide), fun H' k1 k2 => ?_⟩
      refine ⟨_, rfl, fun b o n e => k2 b o (n s hs) (kp b o n e), fun j s' hj => ?_⟩
      by_cases e : s' = s
      · subst e
        have hji : j = i := by
          exact nodup_idx sm0.nd hj es
        rw [if_pos (by omega)]
        exact k1
      · have hs' := List.mem_of_getElem? hj
        rw [k2 _ _ (A0.ne (c := .que s') (c' := .que s) hs' hs (fun z => e (by cases z; rfl))) (hq j s' hj)]
        have hji : j ≠ i := fun z => e (by rw [z, es] at hj; cases hj; rfl)
        by_cases hlt : j < i
        · rw [if_pos hlt, if_pos (by omega)]
        · rw [if_neg hlt, if_neg (by omega)]
    · rintro σ' H1 ⟨u, rfl, kp, hq⟩
      refine ⟨kp _ _ (fun s hs => Ne.symm (hqs s hs)) upd_same, ?_⟩
      refine (fun z : At C _ _ _ _ ∧ Step _ _ _ _ _ _ => k _ z.1 z.2) ?_
      refine At.re2 (S.sets.map Cell.que) A0 (fun c l => by cases c <;> exact l) (fun c hc => ?_) (fun c hc => ?_) (fun c hc l => ?_) (fun b o n e => ?_)
      · obtain ⟨s, hs, rfl⟩ := List.mem_map.mp hc
        exact hs
      · obtain ⟨s, hs, rfl⟩ := List.mem_map.mp hc
        obtain ⟨j, hj, ej⟩ := List.getElem_of_mem hs
        have ej2 : S.sets[j]? = some s := by rw [List.getElem?_eq_getElem hj, ej]
        have q := hq j s ej2
        rw [if_pos (by unfold entKV; rw [List.length_map]; exact hj)] at q
        rw [upd_ne (hqs s hs), q]
        show _ = some (HO.lst ((if s ∈ S.sets then noticeQ (S.reg s) t (S.ents s) (S.que s) else S.que s).map V.int))
        rw [if_pos hs]
      · cases c with
        | que s =>
          have ns : s ∉ S.sets := fun z => hc (List.mem_map.mpr ⟨s, z, rfl⟩)
          exact absurd l ns
        | _ => rfl
      · by_cases hb2 : b = ad .setD
        · rw [hb2, upd_same, ← eo, ← hD, ← hb2, e]
        · rw [upd_ne hb2]
          exact kp b o (fun s hs => n (.que s) (List.mem_map.mpr ⟨s, hs, rfl⟩)) (by rw [upd_ne hb2]; exact e)
end

def setA (ad : Cell → Addr) (c0 : Cell) (T : Addr) : Cell → Addr := fun c => if c = c0 then T else ad c
theorem setA_same {ad : Cell → Addr} {c0 : Cell} {T : Addr} : setA ad c0 T c0 = T := if_pos rfl
theorem setA_ne {ad : Cell → Addr} {c0 c : Cell} {T : Addr} (h : c ≠ c0) : setA ad c0 T c = ad c := if_neg h
theorem srcT_fun (ad : Cell → Addr) (t : Int) (T : Addr) : (fun j => if j = t then T else ad (.srcT j)) = fun j => setA ad (.srcT t) T (.srcT j) := by
  funext j
  by_cases h : j = t
  · rw [if_pos h, h, setA_same]
  · rw [if_neg h, setA_ne fun z => h (by cases z; rfl)]
def withUnit (S : Sys) (t u : Int) (f : Bool) : Sys := { S with unit := fun j => if j = t then (u, f) else S.unit j }
section
variable {C : Cs} {H : Hp} {S : Sys} {ad dx : Cell → Addr}
/-- sources[t] = (u, f) -/
theorem At.unit (A : At C H S ad dx) {t u : Int} {f : Bool} {T : Addr} (ht : t ∈ S.srcs) (hT : H T = none) :
    At C (upd (upd H T (.tup [.int u, .bl f])) (ad .srcD) (.dK (putK (entKV S.srcs fun j => ad (.srcT j)) (Sum.inl t) (.ref T)))) (withUnit S t u f) (setA ad (.srcT t) T) dx ∧
    Step H S ad (upd (upd H T (.tup [.int u, .bl f])) (ad .srcD) (.dK (putK (entKV S.srcs fun j => ad (.srcT j)) (Sum.inl t) (.ref T)))) (withUnit S t u f) (setA ad (.srcT t) T) := by
  have hD := A.at_ .srcD trivial
  have nTD : T ≠ ad .srcD := fun z => by rw [z, hD] at hT; cases hT
  refine At.re3 [.srcD, .srcT t] A (fun c l => .inr (by cases c <;> exact l)) (fun c hc l => ?_) (fun c hc l => ?_) (fun c hc l => ?_) (fun c hc c' hc' l l' z e => ?_) (fun b o n e => ?_) (setA_ne (by intro z; cases z))
  · simp only [List.mem_cons, List.not_mem_nil, or_false] at hc
    rcases hc with rfl | rfl
    · rw [setA_ne (by intro z; cases z), upd_same, ent_put, if_pos ht, srcT_fun]
      rfl
    · rw [setA_same, upd_ne nTD, upd_same]
      show _ = some (HO.tup [.int (if t = t then (u, f) else S.unit t).1, .bl (if t = t then (u, f) else S.unit t).2])
      rw [if_pos rfl]
  · have n1 : c ≠ .srcD := fun z => hc (by rw [z]; simp)
    have n2 : c ≠ .srcT t := fun z => hc (by rw [z]; simp)
    refine ⟨setA_ne n2, ?_⟩
    cases c with
    | srcD => exact absurd rfl n1
    | srcT j =>
      have nj : j ≠ t := fun z => n2 (by rw [z])
      show HO.tup [.int (if j = t then (u, f) else S.unit j).1, .bl (if j = t then (u, f) else S.unit j).2] = _
      rw [if_neg nj]
      rfl
    | _ => rfl
  · simp only [List.mem_cons, List.not_mem_nil, or_false] at hc
    rcases hc with rfl | rfl
    · exact .inl ⟨setA_ne (by intro z; cases z), trivial⟩
    · exact .inr (by rw [setA_same]; exact hT)
  · simp only [List.mem_cons, List.not_mem_nil, or_false] at hc hc'
    rcases hc with rfl | rfl
    · rw [setA_ne (by intro z; cases z), hD] at z
      cases z
    · rcases hc' with rfl | rfl
      · rw [setA_same, setA_ne (by intro z; cases z)] at e
        exact absurd e nTD
      · rfl
  · rw [upd_ne (n .srcD (by simp) trivial), upd_ne (ne_of_none e hT)]
    exact e
end
section
variable {P : Program} {w : World} {K : PySem.W.Frag} {mg : Str → Option Value} {base : Heap} {C : Cs}
def arrived (S : Sys) (t m : Int) : Sys := notified (withUnit S t ((S.unit t).1 + m) false) t
def spArrive (C : Cs) : Sp := fun vs H Q _ => ∃ p n t m : Int, OnSys C vs H [.int p, .int n, .int m] fun S ad dx => Means S p n t ∧ t ∈ S.srcs ∧ (S.unit t).2 = false ∧ 1 ≤ m ∧ m ≤ 1000000 ∧ Small S ∧ ∀ H' ad', At C H' (arrived S t m) ad' dx → Step H S ad H' (arrived S t m) ad' → Q .non H'
theorem scArrive : FnScope ["self", "process", "number", "many", "source", "unread"] ["self", "process", "number", "many"] (defScope sArrive) := ⟨rfl, rfl, rfl, by decide +kernel, rfl, by decide +kernel, by decide +kernel⟩
theorem okArrive {dvs : List V} {kws : List (Str × V)} {f fS fU fN fC : Addr} {fd fdS fdU fdN fdC : FuncData} (F : FunD K "arrive" "System.arrive" (defArgs sArrive) (defBody sArrive) (defScope sArrive) dvs kws f fd) (T : ClsF K C.S sysF)
    (GS : MO P w K mg base 5 C.S "source_at" ["self", "process", "number"] (spSourceAt C) fS fdS) (GU : MO P w K mg base 1 C.S "unread_of_unfinished" ["self", "source", "number"] (spUnfinished C) fU fdU) (GN : MO P w K mg base 3 C.S "notify" ["self", "source"] (spNotify C) fN fdN)
    (GC : DO P w K mg base 3 "is_count" ["x"] spIsCount fC fdC) : FnOk P w K mg base CX0 6 f fd ["self", "process", "number", "many"] (spArrive C) := by
  refine F.ok scArrive (fun vs H Q E h => ?_) (fun cdv A outer s H vs Q E hr h => ?_)
  · obtain ⟨_, _, _, _, _, _, _, rfl, _⟩ := h
    rfl
  · obtain ⟨p, n, t, m, S, ad, dx, rfl, A0, M, ht, hf, m0, m1, sm0, k⟩ := h
    have hu := hu_of hr
    have hr1 : Room 1 _ := hr.mono (by decide)
    have hr3 : Room 3 _ := hr.mono (by decide)
    refine ⟨_, pss_cons (ps_set (i := 4) scArrive.nd rfl (Or.inl rfl) (pe_meth (pv 0) T.cl GS.m GS.g hr GS.b .nil pass0 (pa_cons (pv 1) (pa_cons (pv 2) pa_nil))))
      (pss_cons (ps_if (pt_not (pt_val (pe_call GC.g hr3 (by rfl) GC.m GC.k GC.b .nil pass0 (pa_cons (pv 3) pa_nil)))) (pss_one ps_never) pss_nil)
      (pss_cons (ps_set (i := 5) scArrive.nd rfl (Or.inl rfl) (pe_meth (pv 0) T.cl GU.m GU.g hr1 GU.b .nil pass0 (pa_cons (pv 4) (pa_cons (pv 2) pa_nil))))
      (pss_cons (ps_dput hu (pe_fld (pv 0) rfl) (pv 4) (pe_tup (pa_cons (pe_op op_add (pv 5) (pv 3)) (pa_cons pe_bl pa_nil))) rfl)
      (pss_one (ps_expr (pe_meth (pv 0) T.cl GN.m GN.g hr3 GN.b .nil pass0 (pa_cons (pv 4) pa_nil))))))), ?_⟩
    have hb := A0.at_ .box trivial
    walk_at "wn"
    refine ⟨_, rfl, ad .box, dx .box, _, rfl, hb, rfl, ?_⟩
    walk_at "wn"
    refine ⟨p, n, t, S, ad, dx, rfl, A0, M, ht, ?_⟩
    walk_at "wn"
    refine ⟨m, rfl, ?_⟩
    rw [decide_eq_true m0, decide_eq_true m1]
    refine ⟨_, rfl, ?_⟩
    walk_at "wn"
    refine ⟨_, rfl, ad .box, dx .box, _, rfl, hb, rfl, ?_⟩
    walk_at "wn"
    refine ⟨t, n, S, ad, dx, rfl, A0, ht, hf, ?_⟩
    walk_at "wn"
    refine ⟨_, rfl, _, rfl, _, _, rfl, rfl, by show 2 ≤ sizeLine; decide, fun T1 hT => ?_⟩
    have nbT : ad .box ≠ T1 := ne_of_none hb hT
    have nDT : ad .srcD ≠ T1 := ne_of_none (A0.at_ .srcD trivial) hT
    refine ⟨_, rfl, ad .box, C.S, dx .box, _, _, rfl, by rw [upd_ne nbT]; exact hb, T.cl, T.no _ (by decide), rfl, ?_⟩
    refine ⟨_, rfl, ad .srcD, _, rfl, DPut.k (k := Sum.inl t) (by rw [upd_ne nDT]; exact A0.at_ .srcD trivial) (by unfold entKV; rw [List.length_map, sizeLine_eq]; have := sm0.srcs; omega), ?_⟩
    obtain ⟨A1, st1⟩ := A0.unit (u := (S.unit t).1 + m) (f := false) ht hT
    walk_at "wn"
    refine ⟨_, rfl, setA ad (.srcT t) T1 .box, dx .box, _, by rw [setA_ne (by intro z; cases z)], A1.at_ .box trivial, rfl, ?_⟩
    walk_at "wn"
    refine ⟨t, _, _, dx, by rw [setA_ne (by intro z; cases z)]; rfl, A1, ⟨sm0.que, sm0.ents, sm0.srcs, sm0.sets, sm0.nd⟩, fun H' A2 st2 => k H' _ A2 (st1.trans st2)⟩
/-! read -/
end

def took (S : Sys) (s most : Int) : TSt := takeAll S.unit most (S.que s) ⟨[], S.que s, S.reg s⟩
def waited (S : Sys) (s most : Int) : Sys := { S with
  que := fun j => if j = s then (took S s most).que else S.que j
  reg := fun j => if j = s then (took S s most).reg else S.reg j }
section
variable {P : Program} {w : World} {K : PySem.W.Frag} {mg : Str → Option Value} {base : Heap} {C : Cs}
def spWait (C : Cs) : Sp := fun vs H Q _ => ∃ (p sn s most : Int), OnSys C vs H [.int p, .int sn, .int most] fun S ad dx => Means S p sn s ∧ s ∈ S.sets ∧ 1 ≤ most ∧ most ≤ 1000000 ∧ (∀ l ∈ S.que s, l ∈ S.ents s) ∧ (∀ l ∈ S.ents s, (S.reg s l).src ∈ S.srcs) ∧ C.W ≠ C.R ∧ Small S ∧
  ∀ H' ad' dx' r rs, H r = none → H' r = some (.lst rs) → ¬ own (waited S s most) ad' r → Paired (RepAt H') rs (took S s most).reps → At C H' (waited S s most) ad' dx' → Step H S ad H' (waited S s most) ad' → Q (.ref r) H'
theorem scWait : FnScope ["self", "process", "set_number", "most", "waiting"] ["self", "process", "set_number", "most"] (defScope sWait) := ⟨rfl, rfl, rfl, by decide +kernel, rfl, by decide +kernel, by decide +kernel⟩
def setW (ad : Cell → Addr) (s : Int) (q : Addr) (r : Int → Addr) : Cell → Addr
  | .que j => if j = s then q else ad (.que j)
  | .reg j l => if j = s then r l else ad (.reg j l)
  | c => ad c
theorem okWait {dvs : List V} {kws : List (Str × V)} {f fW fC fR : Addr} {fd fdW fdC fdR : FuncData} (F : FunD K "wait" "System.wait" (defArgs sWait) (defBody sWait) (defScope sWait) dvs kws f fd) (T : ClsF K C.S sysF) (TW : ClsF K C.W wsF)
    (GW : MO P w K mg base 5 C.S "set_at" ["self", "process", "set_number"] (spSetAt C) fW fdW) (GC : DO P w K mg base 3 "is_count" ["x"] spIsCount fC fdC) (GR : MO P w K mg base 4 C.W "take_reports" ["self", "most", "sources"] (spReports C.W C.R) fR fdR) :
    FnOk P w K mg base CX0 6 f fd ["self", "process", "set_number", "most"] (spWait C) := by
  refine F.ok scWait (fun vs H Q E h => ?_) (fun cdv A outer s H vs Q E hr h => ?_)
  · obtain ⟨_, _, _, _, _, _, _, rfl, _⟩ := h
    rfl
  · obtain ⟨p, sn, s, most, S, ad, dx, rfl, A0, Ms, hs, m0, m1, hqe, hes, nWR, sm0, k⟩ := h
    have hr3 : Room 3 _ := hr.mono (by decide)
    have hr4 : Room 4 _ := hr.mono (by decide)
    refine ⟨_, pss_cons (ps_set (i := 4) scWait.nd rfl (Or.inl rfl) (pe_meth (pv 0) T.cl GW.m GW.g hr GW.b .nil pass0 (pa_cons (pv 1) (pa_cons (pv 2) pa_nil))))
      (pss_cons (ps_if (pt_not (pt_val (pe_call GC.g hr3 (by rfl) GC.m GC.k GC.b .nil pass0 (pa_cons (pv 3) pa_nil)))) (pss_one ps_never) pss_nil)
      (pss_one (ps_ret (pe_meth (pv 4) TW.cl GR.m GR.g hr4 GR.b .nil pass0 (pa_cons (pv 3) (pa_cons (pe_fld (pv 0) rfl) pa_nil)))))), ?_⟩
    have hb := A0.at_ .box trivial
    have hw := A0.at_ (.ws s) hs
    have he := A0.at_ (.ent s) hs
    have hq := A0.at_ (.que s) hs
    walk_at "wn"
    refine ⟨_, rfl, ad .box, dx .box, _, rfl, hb, rfl, ?_⟩
    walk_at "wn"
    refine ⟨p, sn, s, S, ad, dx, rfl, A0, Ms, hs, ?_⟩
    walk_at "wn"
    refine ⟨most, rfl, ?_⟩
    rw [decide_eq_true m0, decide_eq_true m1]
    refine ⟨_, rfl, ?_⟩
    walk_at "wn"
    refine ⟨_, rfl, ad (.ws s), dx (.ws s), _, rfl, hw, rfl, ?_⟩
    refine ⟨_, rfl, _, rfl, ad .box, C.S, dx .box, _, _, rfl, hb, T.cl, T.no _ (by decide), rfl, ?_⟩
    have z1 := sm0.que s hs
    have z2 := sm0.ents s hs
    refine ⟨ad (.ws s), dx (.ws s), ad (.ent s), ad (.que s), ad .srcD, most, S.que s, S.ents s, S.srcs, (fun l => ad (.reg s l)), (fun t => ad (.srcT t)), S.reg s, S.unit, rfl, hw, hq, he, fun l hl => ⟨dx (.reg s l), A0.at_ (.reg s l) ⟨hs, hl⟩⟩, A0.at_ .srcD trivial,
      A0.ne (c := .srcD) (c' := .ent s) trivial hs (by intro z; cases z), fun t ht => A0.at_ (.srcT t) ht, hqe, hes, nWR, fun l hl l' hl' z => by cases A0.inj (.reg s l) (.reg s l') ⟨hs, hl⟩ ⟨hs, hl'⟩ z; rfl, by omega, by omega, fun H' r rs q' adE k1 k2 k3 k4 k5 k6 k7 k8 k9 k10 k11 k12 => ?_⟩
    have k5' : ∀ l ∈ S.ents s, ∃ d : Addr, H' (adE l) = some (regO C.R d ((took S s most).reg l).num ((took S s most).reg l).src ((took S s most).reg l).word ((took S s most).reg l).armed) := k5
    obtain ⟨dE, hdE⟩ : ∃ dE : Int → Addr, ∀ l ∈ S.ents s, H' (adE l) = some (regO C.R (dE l) ((took S s most).reg l).num ((took S s most).reg l).src ((took S s most).reg l).word ((took S s most).reg l).armed) := by
      refine ⟨fun l => if h : l ∈ S.ents s then Classical.choose (k5' l h) else 0, fun l hl => ?_⟩
      dsimp only
      rw [dif_pos hl]
      exact Classical.choose_spec (k5' l hl)
    let dx' : Cell → Addr := fun c => match c with
      | .reg j l => if j = s then dE l else dx (.reg j l)
      | c => dx c
    have sE : ∀ l, setW ad s q' adE (.reg s l) = adE l := fun l => if_pos rfl
    have sQ : setW ad s q' adE (.que s) = q' := if_pos rfl
    have dEe : ∀ l, dx' (.reg s l) = dE l := fun l => if_pos rfl
    have key : At C H' (waited S s most) (setW ad s q' adE) dx' ∧ Step H S ad H' (waited S s most) (setW ad s q' adE) := by
      refine At.re3 ([.ws s, .que s, .ent s] ++ (S.ents s).map (Cell.reg s)) A0 (fun c lc => .inr ?_) (fun c hc lc => ?_) (fun c hc lc => ?_) (fun c hc lc => ?_) (fun c hc c' hc' lc lc' z e => ?_) (fun b o nb e => ?_) rfl
      · cases c <;> exact lc
      · rcases List.mem_append.mp hc with hc | hc
        · simp only [List.mem_cons, List.not_mem_nil, or_false] at hc
          rcases hc with rfl | rfl | rfl
          · show H' (ad (.ws s)) = some (wsO C.W (dx (.ws s)) (ad (.ent s)) (setW ad s q' adE (.que s)))
            rw [sQ]
            exact k1
          · rw [sQ, k2]
            show _ = some (HO.lst ((if s = s then (took S s most).que else S.que s).map V.int))
            rw [if_pos rfl]
            rfl
          · show H' (ad (.ent s)) = some (HO.dK (entKV (S.ents s) fun l => setW ad s q' adE (.reg s l)))
            rw [k4]
            have ef : (fun l => setW ad s q' adE (.reg s l)) = adE := funext sE
            rw [ef]
        · obtain ⟨l, hl, rfl⟩ := List.mem_map.mp hc
          rw [sE, hdE l hl]
          show _ = some (regO C.R (dx' (.reg s l)) ((if s = s then (took S s most).reg else S.reg s) l).num ((if s = s then (took S s most).reg else S.reg s) l).src ((if s = s then (took S s most).reg else S.reg s) l).word ((if s = s then (took S s most).reg else S.reg s) l).armed)
          rw [if_pos rfl, dEe]
      · have n1 : c ≠ .ws s := fun z => hc (by rw [z]; simp)
        have n2 : c ≠ .que s := fun z => hc (by rw [z]; simp)
        have n3 : c ≠ .ent s := fun z => hc (by rw [z]; simp)
        cases c with
        | ws j =>
          have nj : j ≠ s := fun z => n1 (by rw [z])
          refine ⟨rfl, ?_⟩
          show wsO C.W (dx (.ws j)) (ad (.ent j)) (if j = s then q' else ad (.que j)) = _
          rw [if_neg nj]
          rfl
        | que j =>
          have nj : j ≠ s := fun z => n2 (by rw [z])
          refine ⟨if_neg nj, ?_⟩
          show HO.lst ((if j = s then (took S s most).que else S.que j).map V.int) = _
          rw [if_neg nj]
          rfl
        | ent j =>
          have nj : j ≠ s := fun z => n3 (by rw [z])
          refine ⟨rfl, ?_⟩
          have ef : (fun l => setW ad s q' adE (.reg j l)) = fun l => ad (.reg j l) := funext fun l => if_neg nj
          show HO.dK (entKV (S.ents j) fun l => setW ad s q' adE (.reg j l)) = _
          rw [ef]
          rfl
        | reg j l =>
          have nj : j ≠ s := fun z => hc (List.mem_append.mpr (.inr (List.mem_map.mpr ⟨l, by rw [← z]; exact lc.2, by rw [z]⟩)))
          refine ⟨if_neg nj, ?_⟩
          show regO C.R (if j = s then dE l else dx (.reg j l)) ((if j = s then (took S s most).reg else S.reg j) l).num ((if j = s then (took S s most).reg else S.reg j) l).src ((if j = s then (took S s most).reg else S.reg j) l).word ((if j = s then (took S s most).reg else S.reg j) l).armed = _
          rw [if_neg nj, if_neg nj]
          rfl
        | _ => exact ⟨rfl, rfl⟩
      · rcases List.mem_append.mp hc with hc | hc
        · simp only [List.mem_cons, List.not_mem_nil, or_false] at hc
          rcases hc with rfl | rfl | rfl
          · exact .inl ⟨rfl, hs⟩
          · rw [sQ]
            rcases k3 with z | z
            · exact .inl ⟨z, hs⟩
            · exact .inr z
          · exact .inl ⟨rfl, hs⟩
        · obtain ⟨l, hl, rfl⟩ := List.mem_map.mp hc
          rw [sE]
          rcases k6 l with z | z
          · exact .inl ⟨z, ⟨hs, hl⟩⟩
          · exact .inr z
      · have kind : ∀ c ∈ ([.ws s, .que s, .ent s] ++ (S.ents s).map (Cell.reg s) : List Cell), H (setW ad s q' adE c) = none → c = .que s ∨ ∃ l ∈ S.ents s, c = .reg s l := fun c hc z => by
          rcases List.mem_append.mp hc with hc | hc
          · simp only [List.mem_cons, List.not_mem_nil, or_false] at hc
            rcases hc with rfl | rfl | rfl
            · rw [show setW ad s q' adE (.ws s) = ad (.ws s) from rfl, hw] at z
              cases z
            · exact .inl rfl
            · rw [show setW ad s q' adE (.ent s) = ad (.ent s) from rfl, he] at z
              cases z
          · obtain ⟨l, hl, rfl⟩ := List.mem_map.mp hc
            exact .inr ⟨l, hl, rfl⟩
        have z' : H (setW ad s q' adE c') = none := by rw [← e]; exact z
        rcases kind c hc z with rfl | ⟨l, hl, rfl⟩
        · rcases kind c' hc' z' with rfl | ⟨l', hl', rfl⟩
          · rfl
          · rw [sQ, sE] at e
            have x := hdE l' hl'
            rw [← e, k2] at x
            cases x
        · rcases kind c' hc' z' with rfl | ⟨l', hl', rfl⟩
          · rw [sQ, sE] at e
            have x := hdE l hl
            rw [e, k2] at x
            cases x
          · rw [sE, sE] at e
            rw [k7 l hl l' hl' e]
      · exact k12 b o (nb (.ws s) (by simp) hs) (nb (.ent s) (by simp) hs) (nb (.que s) (by simp) hs) e
    refine k H' _ dx' r rs k8 k10 (fun ⟨c, lc, ec⟩ => ?_) k11 key.1 key.2
    have x := key.1.at_ c lc
    rw [ec, k10] at x
    cases c with
    | tab j =>
      have y : H (ad (.tab j)) = _ := A0.at_ (.tab j) lc
      rw [show ad (.tab j) = r from ec, k8] at y
      cases y
    | que j =>
      by_cases nj : j = s
      · subst nj
        rw [sQ] at ec
        exact k9 ec.symm
      · have ec2 : (if j = s then q' else ad (.que j)) = r := ec
        rw [if_neg nj] at ec2
        have y : H (ad (.que j)) = _ := A0.at_ (.que j) lc
        rw [ec2, k8] at y
        cases y
    | _ => cases x
def spRowOf (C : Cs) : Sp := fun vs H Q _ => ∃ p n t : Int, OnSys C vs H [.int p, .int n] fun S ad dx => Means S p n t ∧ t ∈ S.sets ∧ ∀ r, H r = none → Q (.ref r) (upd H r (.lst ((S.que t).map V.int)))
theorem scRowOf : FnScope ["self", "process", "set_number"] ["self", "process", "set_number"] (defScope sRowOf) := ⟨rfl, rfl, rfl, by decide +kernel, rfl, by decide +kernel, by decide +kernel⟩
theorem okRowOf {f fS : Addr} {fd fdS : FuncData} (F : Fun K "row_of" "System.row_of" sRowOf f fd) (X : SysTxt mg) (T : ClsF K C.S sysF) (TW : ClsF K C.W wsF) (GS : MO P w K mg base 5 C.S "set_at" ["self", "process", "set_number"] (spSetAt C) fS fdS) :
    FnOk P w K mg base CX0 6 f fd ["self", "process", "set_number"] (spRowOf C) := by
  refine F.ok scRowOf (fun vs H Q E h => ?_) (fun cdv A outer s H vs Q E hr h => ?_)
  · obtain ⟨_, _, _, _, _, _, rfl, _⟩ := h
    rfl
  · obtain ⟨p, n, t, S, ad, dx, rfl, A0, M, ht, k⟩ := h
    refine ⟨_, pss_one (ps_ret (pe_callTy call_list_of (by rfl) X.list PyProof.Rows.boot_list (pa_cons (pe_fld (pe_meth (pv 0) T.cl GS.m GS.g hr GS.b .nil pass0 (pa_cons (pv 1) (pa_cons (pv 2) pa_nil))) rfl) pa_nil))), ?_⟩
    have hb := A0.at_ .box trivial
    walk_at "wn"
    refine ⟨_, rfl, ad .box, dx .box, _, rfl, hb, rfl, ?_⟩
    walk_at "wn"
    refine ⟨p, n, t, S, ad, dx, rfl, A0, M, ht, ?_⟩
    refine ⟨ad (.ws t), C.W, dx (.ws t), _, _, rfl, A0.at_ (.ws t) ht, TW.cl, TW.no _ (by decide), rfl, ?_⟩
    exact ⟨ad (.que t), _, rfl, .inl (SqL.of (A0.at_ (.que t) ht)), fun r hr0 => k r hr0⟩
end

def newSource (S : Sys) (p : Int) (n : Nat) : Sys := { newThing S p n with
  srcs := S.srcs ++ [S.next]
  unit := fun j => if j = S.next then (0, false) else S.unit j }
def newSet (S : Sys) (p : Int) (n : Nat) : Sys := { newThing S p n with
  sets := S.sets ++ [S.next]
  ents := fun j => if j = S.next then [] else S.ents j
  que := fun j => if j = S.next then [] else S.que j }
section
variable {P : Program} {w : World} {K : PySem.W.Frag} {mg : Str → Option Value} {base : Heap} {C : Cs}
def spNewSource (C : Cs) : Sp := fun vs H Q _ => ∃ (p : Int) (n : Nat), OnSys C vs H [.int p] fun S ad dx => p ∈ S.procs ∧ firstFree (S.tab p) n ∧ (S.tab p).length ≤ 1000 ∧ S.srcs.length ≤ 1000 ∧ S.next ∉ S.srcs ∧
  ∀ H' ad', At C H' (newSource S p n) ad' dx → Step H S ad H' (newSource S p n) ad' → Q (.int (n : Int)) H'
theorem scNewSource : FnScope ["self", "process", "number", "thing"] ["self", "process"] (defScope sNewSource) := ⟨rfl, rfl, rfl, by decide +kernel, rfl, by decide +kernel, by decide +kernel⟩
theorem okNewSource {f fN : Addr} {fd fdN : FuncData} (F : Fun K "new_source" "System.new_source" sNewSource f fd) (T : ClsF K C.S sysF) (GN : MO P w K mg base 5 C.S "new_thing" ["self", "process"] (spNewThing C) fN fdN) :
    FnOk P w K mg base CX0 6 f fd ["self", "process"] (spNewSource C) := by
  refine F.ok scNewSource (fun vs H Q E h => ?_) (fun cdv A outer s H vs Q E hr h => ?_)
  · obtain ⟨_, _, _, _, _, rfl, _⟩ := h
    rfl
  · obtain ⟨p, n, S, ad, dx, rfl, A0, hp, hf, hl, hz, hnx, k⟩ := h
    have hu := hu_of hr
    refine ⟨_, pss_cons (ps_asg (pe_meth (pv 0) T.cl GN.m GN.g hr GN.b .nil pass0 (pa_cons (pv 1) pa_nil)) (pg_tup rfl (pgs_cons (pg_name (i := 2) scNewSource.nd rfl (Or.inl rfl)) (pgs_cons (pg_name (i := 3) scNewSource.nd rfl (Or.inl rfl)) pgs_nil))))
      (pss_cons (ps_dput hu (pe_fld (pv 0) rfl) (pv 3) (pe_tup (pa_cons pe_int (pa_cons pe_bl pa_nil))) rfl) (pss_one (ps_ret (pv 2)))), ?_⟩
    walk_at "wn"
    refine ⟨_, rfl, ad .box, dx .box, _, rfl, A0.at_ .box trivial, rfl, ?_⟩
    walk_at "wn"
    refine ⟨p, n, S, ad, dx, rfl, A0, hp, hf, hl, fun H1 T1 hT1 hT A1 st1 => ?_⟩
    refine ⟨T1, _, rfl, SqT.of hT, rfl, _, _, rfl, ?_⟩
    walk_at "wn"
    refine ⟨_, _, rfl, ?_⟩
    walk_at "wn"
    refine ⟨rfl, ?_⟩
    walk_at "wn"
    refine ⟨by show 2 ≤ sizeLine; decide, fun T2 hT2 => ?_⟩
    have hb := A1.at_ .box trivial
    have hD : H1 (ad .srcD) = some (.dK (entKV S.srcs fun t => ad (.srcT t))) := A1.at_ .srcD trivial
    have nTD : T2 ≠ ad .srcD := fun z => by rw [z, hD] at hT2; cases hT2
    have nTb : ad .box ≠ T2 := ne_of_none hb hT2
    refine ⟨_, rfl, ad .box, C.S, dx .box, _, _, rfl, by rw [upd_ne nTb]; exact hb, T.cl, T.no _ (by decide), rfl, ?_⟩
    refine ⟨_, rfl, ad .srcD, _, rfl, DPut.k (k := Sum.inl S.next) (by rw [upd_ne (Ne.symm nTD)]; exact hD) (by unfold entKV; rw [List.length_map, sizeLine_eq]; omega), ?_⟩
    walk_at "wn"
    refine (fun z : At C _ _ _ _ ∧ Step H1 (newThing S p n) ad _ _ _ => k _ (setA ad (.srcT S.next) T2) z.1 (st1.trans z.2)) ?_
    refine At.re3 [.srcD, .srcT S.next] A1 (fun c lc => ?_) (fun c hc lc => ?_) (fun c hc lc => ?_) (fun c hc lc => ?_) (fun c hc c' hc' lc lc' z e => ?_) (fun b o nb e => ?_) (setA_ne (by intro z; cases z))
    · cases c with
      | srcT t =>
        rcases List.mem_append.mp (show t ∈ S.srcs ++ [S.next] from lc) with y | y
        · exact .inr y
        · rw [List.mem_singleton.mp y]
          exact .inl (by simp)
      | _ => exact .inr lc
    · simp only [List.mem_cons, List.not_mem_nil, or_false] at hc
      rcases hc with rfl | rfl
      · rw [setA_ne (by intro z; cases z), upd_same, ent_put, if_neg hnx, srcT_fun]
        rfl
      · rw [setA_same, upd_ne nTD, upd_same]
        show _ = some (HO.tup [.int (if S.next = S.next then ((0 : Int), false) else S.unit S.next).1, .bl (if S.next = S.next then ((0 : Int), false) else S.unit S.next).2])
        rw [if_pos rfl]
    · have n1 : c ≠ .srcD := fun z => hc (by rw [z]; simp)
      have n2 : c ≠ .srcT S.next := fun z => hc (by rw [z]; simp)
      refine ⟨setA_ne n2, ?_⟩
      cases c with
      | srcD => exact absurd rfl n1
      | srcT j =>
        have nj : j ≠ S.next := fun z => n2 (by rw [z])
        show HO.tup [.int (if j = S.next then ((0 : Int), false) else S.unit j).1, .bl (if j = S.next then ((0 : Int), false) else S.unit j).2] = _
        rw [if_neg nj]
        rfl
      | _ => rfl
    · simp only [List.mem_cons, List.not_mem_nil, or_false] at hc
      rcases hc with rfl | rfl
      · exact .inl ⟨setA_ne (by intro z; cases z), trivial⟩
      · exact .inr (by rw [setA_same]; exact hT2)
    · simp only [List.mem_cons, List.not_mem_nil, or_false] at hc hc'
      rcases hc with rfl | rfl
      · rw [setA_ne (by intro z; cases z), hD] at z
        cases z
      · rcases hc' with rfl | rfl
        · rw [setA_same, setA_ne (by intro z; cases z)] at e
          exact absurd e nTD
        · rfl
    · rw [upd_ne (nb .srcD (by simp) trivial), upd_ne (ne_of_none e hT2)]
      exact e
def spNewSet (C : Cs) : Sp := fun vs H Q _ => ∃ (p : Int) (n : Nat), OnSys C vs H [.int p] fun S ad dx => p ∈ S.procs ∧ firstFree (S.tab p) n ∧ (S.tab p).length ≤ 1000 ∧ S.sets.length ≤ 1000 ∧ S.next ∉ S.sets ∧
  ∀ H' ad' dx', At C H' (newSet S p n) ad' dx' → Step H S ad H' (newSet S p n) ad' → Q (.int (n : Int)) H'
theorem scNewSet : FnScope ["self", "process", "number", "thing"] ["self", "process"] (defScope sNewSet) := ⟨rfl, rfl, rfl, by decide +kernel, rfl, by decide +kernel, by decide +kernel⟩
theorem okNewSet {f fN fI : Addr} {fd fdN fdI : FuncData} (F : Fun K "new_set" "System.new_set" sNewSet f fd) (T : ClsF K C.S sysF) (GN : MO P w K mg base 5 C.S "new_thing" ["self", "process"] (spNewThing C) fN fdN)
    (gW : mg "WaitingSet" = some (.ref C.W)) (MW : Mk K C.W fI) (GI : FnOk P w K mg base CX0 1 fI fdI ["self"] (spWsInit C.W)) (bI : Binds K fdI ["self"] []) :
    FnOk P w K mg base CX0 6 f fd ["self", "process"] (spNewSet C) := by
  refine F.ok scNewSet (fun vs H Q E h => ?_) (fun cdv A outer s H vs Q E hr h => ?_)
  · obtain ⟨_, _, _, _, _, rfl, _⟩ := h
    rfl
  · obtain ⟨p, n, S, ad, dx, rfl, A0, hp, hf, hl, hz, hnx, k⟩ := h
    have hu := hu_of hr
    have hr2 : Room 2 _ := hr.mono (by decide)
    refine ⟨_, pss_cons (ps_asg (pe_meth (pv 0) T.cl GN.m GN.g hr GN.b .nil pass0 (pa_cons (pv 1) pa_nil)) (pg_tup rfl (pgs_cons (pg_name (i := 2) scNewSet.nd rfl (Or.inl rfl)) (pgs_cons (pg_name (i := 3) scNewSet.nd rfl (Or.inl rfl)) pgs_nil))))
      (pss_cons (ps_dput hu (pe_fld (pv 0) rfl) (pv 3) (pe_make0 MW GI hr2 (by rfl) gW bI .nil pass0) rfl) (pss_one (ps_ret (pv 2)))), ?_⟩
    walk_at "wn"
    refine ⟨_, rfl, ad .box, dx .box, _, rfl, A0.at_ .box trivial, rfl, ?_⟩
    walk_at "wn"
    refine ⟨p, n, S, ad, dx, rfl, A0, hp, hf, hl, fun H1 T1 hT1 hT A1 st1 => ?_⟩
    refine ⟨T1, _, rfl, SqT.of hT, rfl, _, _, rfl, ?_⟩
    walk_at "wn"
    refine ⟨_, _, rfl, ?_⟩
    walk_at "wn"
    refine ⟨rfl, ?_⟩
    refine (fun x dx2 hx hdx ndx => ?_ : ∀ x dx2, _ → _ → _ → _)
    refine ⟨x, dx2, rfl, upd_same, fun H2 e q he hq h2e h2q h2x h2 => ⟨rfl, ?_⟩⟩
    have nex : e ≠ x := fun z => by rw [z, upd_same] at he; cases he
    have nqx : q ≠ x := fun z => by rw [z, upd_same] at hq; cases hq
    rw [upd_ne nex] at he
    rw [upd_ne nqx] at hq
    have ned : e ≠ dx2 := fun z => by rw [z, upd_same] at he; cases he
    have nqd : q ≠ dx2 := fun z => by rw [z, upd_same] at hq; cases hq
    rw [upd_ne ned] at he
    rw [upd_ne nqd] at hq
    have neq : e ≠ q := fun z => by rw [z, h2q] at h2e; cases h2e
    have s2 : Same H1 H2 := fun b o y => by
      rw [h2 b (ne_of_none y hx) (ne_of_none y he) (ne_of_none y hq), upd_ne (ne_of_none y hx), upd_ne (ne_of_none y hdx)]
      exact y
    have A2 := A1.same s2
    have hb := A2.at_ .box trivial
    have hD : H2 (ad .setD) = some (.dK (entKV S.sets fun t => ad (.ws t))) := A2.at_ .setD trivial
    have hD1 : H1 (ad .setD) = some (.dK (entKV S.sets fun t => ad (.ws t))) := A1.at_ .setD trivial
    have nxD : x ≠ ad .setD := fun z => by rw [z, hD1] at hx; cases hx
    have neD : e ≠ ad .setD := fun z => by rw [z, hD1] at he; cases he
    have nqD : q ≠ ad .setD := fun z => by rw [z, hD1] at hq; cases hq
    refine ⟨_, rfl, ad .box, C.S, dx .box, _, _, rfl, hb, T.cl, T.no _ (by decide), rfl, ?_⟩
    refine ⟨_, rfl, ad .setD, _, rfl, DPut.k (k := Sum.inl S.next) hD (by unfold entKV; rw [List.length_map, sizeLine_eq]; omega), ?_⟩
    walk_at "wn"
    have wf : (fun j => if j = S.next then x else ad (.ws j)) = fun j => setA (setA (setA ad (.ws S.next) x) (.ent S.next) e) (.que S.next) q (.ws j) := by
      funext j
      rw [setA_ne (by intro z; cases z), setA_ne (by intro z; cases z)]
      by_cases h : j = S.next
      · rw [if_pos h, h, setA_same]
      · rw [if_neg h, setA_ne fun z => h (by cases z; rfl)]
    have aw : setA (setA (setA ad (.ws S.next) x) (.ent S.next) e) (.que S.next) q (.ws S.next) = x := by rw [setA_ne (by intro z; cases z), setA_ne (by intro z; cases z), setA_same]
    have ae : setA (setA (setA ad (.ws S.next) x) (.ent S.next) e) (.que S.next) q (.ent S.next) = e := by rw [setA_ne (by intro z; cases z), setA_same]
    have aq : setA (setA (setA ad (.ws S.next) x) (.ent S.next) e) (.que S.next) q (.que S.next) = q := setA_same
    have ao : ∀ c, c ≠ .ws S.next → c ≠ .ent S.next → c ≠ .que S.next → setA (setA (setA ad (.ws S.next) x) (.ent S.next) e) (.que S.next) q c = ad c := fun c h1 h2 h3 => by rw [setA_ne h3, setA_ne h2, setA_ne h1]
    refine (fun z : At C _ _ _ _ ∧ Step H1 (newThing S p n) ad _ _ _ => k _ (setA (setA (setA ad (.ws S.next) x) (.ent S.next) e) (.que S.next) q) (setA dx (.ws S.next) dx2) z.1 (st1.trans z.2)) ?_
    refine At.re3 [.setD, .ws S.next, .ent S.next, .que S.next] A1 (fun c lc => ?_) (fun c hc lc => ?_) (fun c hc lc => ?_) (fun c hc lc => ?_) (fun c hc c' hc' lc lc' z ee => ?_) (fun b o nb ee => ?_) (ao _ (by intro z; cases z) (by intro z; cases z) (by intro z; cases z))
    · have split : ∀ t, t ∈ S.sets ++ [S.next] → t ∈ S.sets ∨ t = S.next := fun t h => by
        rcases List.mem_append.mp h with y | y
        · exact .inl y
        · exact .inr (List.mem_singleton.mp y)
      cases c with
      | ws t =>
        rcases split t lc with y | rfl
        · exact .inr y
        · exact .inl (by simp)
      | ent t =>
        rcases split t lc with y | rfl
        · exact .inr y
        · exact .inl (by simp)
      | que t =>
        rcases split t lc with y | rfl
        · exact .inr y
        · exact .inl (by simp)
      | reg t l =>
        obtain ⟨h1, h2⟩ := lc
        have h2 : l ∈ (if t = S.next then [] else S.ents t) := h2
        by_cases nt : t = S.next
        · rw [if_pos nt] at h2
          cases h2
        · rw [if_neg nt] at h2
          rcases split t h1 with y | y
          · exact .inr ⟨y, h2⟩
          · exact absurd y nt
      | _ => exact .inr lc
    · simp only [List.mem_cons, List.not_mem_nil, or_false] at hc
      rcases hc with rfl | rfl | rfl | rfl
      · rw [ao _ (by intro z; cases z) (by intro z; cases z) (by intro z; cases z), upd_same, ent_put, if_neg hnx, wf]
        rfl
      · rw [aw, upd_ne nxD, h2x]
        show _ = some (wsO C.W (setA dx (.ws S.next) dx2 (.ws S.next)) _ _)
        rw [setA_same, ae, aq]
      · rw [ae, upd_ne neD, h2e]
        show _ = some (HO.dK (entKV (if S.next = S.next then [] else S.ents S.next) _))
        rw [if_pos rfl]
        rfl
      · rw [aq, upd_ne nqD, h2q]
        show _ = some (HO.lst ((if S.next = S.next then [] else S.que S.next).map V.int))
        rw [if_pos rfl]
        rfl
    · have n1 : c ≠ .setD := fun z => hc (by rw [z]; simp)
      have n2 : c ≠ .ws S.next := fun z => hc (by rw [z]; simp)
      have n3 : c ≠ .ent S.next := fun z => hc (by rw [z]; simp)
      have n4 : c ≠ .que S.next := fun z => hc (by rw [z]; simp)
      refine ⟨ao c n2 n3 n4, ?_⟩
      cases c with
      | setD => exact absurd rfl n1
      | ws t =>
        have nt : t ≠ S.next := fun z => n2 (by rw [z])
        show wsO C.W (setA dx (.ws S.next) dx2 (.ws t)) _ _ = _
        rw [setA_ne n2, ao (.ent t) (by intro z; cases z) (fun z => nt (by cases z; rfl)) (by intro z; cases z), ao (.que t) (by intro z; cases z) (by intro z; cases z) (fun z => nt (by cases z; rfl))]
        rfl
      | ent t =>
        have nt : t ≠ S.next := fun z => n3 (by rw [z])
        show HO.dK (entKV (if t = S.next then [] else S.ents t) _) = _
        rw [if_neg nt]
        rfl
      | que t =>
        have nt : t ≠ S.next := fun z => n4 (by rw [z])
        show HO.lst ((if t = S.next then [] else S.que t).map V.int) = _
        rw [if_neg nt]
        rfl
      | _ => rfl
    · simp only [List.mem_cons, List.not_mem_nil, or_false] at hc
      rcases hc with rfl | rfl | rfl | rfl
      · exact .inl ⟨ao _ (by intro z; cases z) (by intro z; cases z) (by intro z; cases z), trivial⟩
      · exact .inr (by rw [aw]; exact hx)
      · exact .inr (by rw [ae]; exact he)
      · exact .inr (by rw [aq]; exact hq)
    · simp only [List.mem_cons, List.not_mem_nil, or_false] at hc hc'
      have oD : setA (setA (setA ad (.ws S.next) x) (.ent S.next) e) (.que S.next) q .setD = ad .setD := ao _ (by intro z; cases z) (by intro z; cases z) (by intro z; cases z)
      rcases hc with rfl | rfl | rfl | rfl
      · rw [oD, hD1] at z
        cases z
      · rcases hc' with rfl | rfl | rfl | rfl
        · rw [aw, oD] at ee
          exact absurd ee nxD
        · rfl
        · rw [aw, ae] at ee
          exact absurd ee.symm nex
        · rw [aw, aq] at ee
          exact absurd ee.symm nqx
      · rcases hc' with rfl | rfl | rfl | rfl
        · rw [ae, oD] at ee
          exact absurd ee neD
        · rw [aw, ae] at ee
          exact absurd ee nex
        · rfl
        · rw [ae, aq] at ee
          exact absurd ee neq
      · rcases hc' with rfl | rfl | rfl | rfl
        · rw [aq, oD] at ee
          exact absurd ee nqD
        · rw [aw, aq] at ee
          exact absurd ee nqx
        · rw [ae, aq] at ee
          exact absurd ee.symm neq
        · rfl
    · rw [upd_ne (nb .setD (by simp) trivial)]
      exact s2 _ _ ee
end

def newSys (P N : Int) : Sys where
  P := P
  N := N
  next := 0
  procs := [0]
  tab := fun _ => List.replicate N.toNat none
  srcs := []
  unit := fun _ => (0, false)
  sets := []
  ents := fun _ => []
  reg := fun _ _ => ⟨0, 0, "level", true⟩
  que := fun _ => []
section
variable {P : Program} {w : World} {K : PySem.W.Frag} {mg : Str → Option Value} {base : Heap} {C : Cs}
structure LimTxt (K : PySem.W.Frag) (mg : Str → Option Value) (CS : Addr) : Prop where
  lp : ∃ t, mg "LEAST_PROCESSES" = some (.int 2 t)
  ln : ∃ t, mg "LEAST_NUMBERS" = some (.int 3 t)
  mp : ∃ u, Con K CS "MOST_PROCESSES" (.int 6) u
  mn : ∃ u, Con K CS "MOST_NUMBERS" (.int 8) u
def spSysInit (C : Cs) : Sp := fun vs H Q _ => ∃ (x dx0 : Addr) (p n : Int), vs = [.ref x, .int p, .int n] ∧ H x = some (.ins C.S dx0 []) ∧ 2 ≤ p ∧ p ≤ 6 ∧ 3 ≤ n ∧ n ≤ 8 ∧
  ∀ H' ad dx, ad .box = x → At C H' (newSys p n) ad dx → (∀ b o, b ≠ x → H b = some o → H' b = some o) → (∀ b, own (newSys p n) ad b → b = x ∨ H b = none) → Q .non H'
theorem scSysInit : FnScope ["self", "processes", "numbers"] ["self", "processes", "numbers"] (defScope sSysInit) := ⟨rfl, rfl, rfl, by decide +kernel, rfl, by decide +kernel, by decide +kernel⟩
def initA (x td sd ud tl : Addr) : Cell → Addr
  | .box => x
  | .tabD => td
  | .srcD => sd
  | .setD => ud
  | _ => tl
theorem okSysInit {dvs : List V} {kws : List (Str × V)} {f fB : Addr} {fd fdB : FuncData} (F : FunD K "__init__" "System.__init__" (defArgs sSysInit) (defBody sSysInit) (defScope sSysInit) dvs kws f fd) (T : ClsF K C.S sysF) (L : LimTxt K mg C.S)
    (GB : DO P w K mg base 2 "is_between" ["x", "least", "most"] spIsBetween fB fdB) : FnOk P w K mg base CX0 3 f fd ["self", "processes", "numbers"] (spSysInit C) := by
  refine F.ok scSysInit (fun vs H Q E h => ?_) (fun cdv A outer s H vs Q E hr h => ?_)
  · obtain ⟨_, _, _, _, rfl, _⟩ := h
    rfl
  · obtain ⟨x, dx0, p, n, rfl, hx, p0, p1, n0, n1, k⟩ := h
    obtain ⟨tp, lp⟩ := L.lp
    obtain ⟨tn, ln⟩ := L.ln
    obtain ⟨up, mp⟩ := L.mp
    obtain ⟨un, mn⟩ := L.mn
    refine ⟨_, pss_cons (ps_if (pt_not (pt_val (pe_call GB.g hr (by rfl) GB.m GB.k GB.b .nil pass0 (pa_cons (pv 1) (pa_cons (pe_glob (v := .int 2) (by rfl) lp ⟨_, rfl⟩) (pa_cons (pe_con (pv 0) rfl) pa_nil)))))) (pss_one ps_never) pss_nil)
      (pss_cons (ps_if (pt_not (pt_val (pe_call GB.g hr (by rfl) GB.m GB.k GB.b .nil pass0 (pa_cons (pv 2) (pa_cons (pe_glob (v := .int 3) (by rfl) ln ⟨_, rfl⟩) (pa_cons (pe_con (pv 0) rfl) pa_nil)))))) (pss_one ps_never) pss_nil)
      (pss_cons (ps_fld (pv 0) (pv 1) rfl) (pss_cons (ps_fld (pv 0) (pv 2) rfl)
      (pss_cons (ps_fld (pv 0) (pe_disp (pps_cons pe_int (pe_op op_rep (pe_lst (pa_cons pe_non pa_nil)) (pv 2)) pps_nil) (by rfl) (by rfl) (fun z => by cases z) (by decide)) rfl)
      (pss_cons (ps_fld (pv 0) pe_dnewK rfl) (pss_cons (ps_fld (pv 0) pe_dnewK rfl) (pss_one (ps_fld (pv 0) pe_int rfl)))))))), ?_⟩
    walk_at "wn"
    refine ⟨_, rfl, x, C.S, dx0, _, _, _, rfl, hx, T.cl, mp, rfl, ?_⟩
    refine ⟨p, 2, 6, rfl, ?_⟩
    rw [decide_eq_true p0, decide_eq_true p1]
    refine ⟨_, rfl, ?_⟩
    walk_at "wn"
    refine ⟨_, rfl, _, rfl, x, C.S, dx0, _, _, _, rfl, hx, T.cl, mn, rfl, ?_⟩
    refine ⟨n, 3, 8, rfl, ?_⟩
    rw [decide_eq_true n0, decide_eq_true n1]
    refine ⟨_, rfl, ?_⟩
    refine ⟨_, rfl, _, rfl, x, C.S, dx0, _, rfl, hx, T.cl, T.no _ (by decide), by show 0 < 1000; decide, ?_⟩
    refine ⟨_, rfl, _, rfl, x, C.S, dx0, _, rfl, upd_same, T.cl, T.no _ (by decide), by show 1 < 1000; decide, ?_⟩
    have g1 : ∀ b o, b ≠ x → H b = some o → upd (upd H x (.ins C.S dx0 (putF "process_limit" (V.int p) []))) x (.ins C.S dx0 (putF "number_limit" (V.int n) (putF "process_limit" (V.int p) []))) b = some o := fun b o nb e => by rw [upd_ne nb, upd_ne nb]; exact e
    have x1 : upd (upd H x (.ins C.S dx0 (putF "process_limit" (V.int p) []))) x (.ins C.S dx0 (putF "number_limit" (V.int n) (putF "process_limit" (V.int p) []))) x = some (.ins C.S dx0 [("process_limit", .int p), ("number_limit", .int n)]) := upd_same
    generalize upd (upd H x (.ins C.S dx0 (putF "process_limit" (V.int p) []))) x (.ins C.S dx0 (putF "number_limit" (V.int n) (putF "process_limit" (V.int p) []))) = H1 at g1 x1
    have fr : ∀ {H' : Hp} {l : Addr}, (∀ b o, b ≠ x → H b = some o → H' b = some o) → H' l = none → l ≠ x → H l = none := fun {H'} {l} g e nl => by
      cases z : H l with
      | none => rfl
      | some o => rw [g l o nl z] at e; cases e
    intro td htd
    have ntx : td ≠ x := fun z => by rw [z, x1] at htd; cases htd
    have s2 := Same.new' (o := .dK []) htd
    refine ⟨by show 1 ≤ sizeLine; decide, fun l0 hl0 => ?_⟩
    have s3 := Same.new' (o := .lst [V.non]) hl0
    have l0' : upd (upd H1 td (.dK [])) l0 (.lst [V.non]) l0 = some (.lst [V.non]) := upd_same
    refine ⟨_, rfl, l0, n, _, rfl, rfl, l0', by omega, by omega, ?_, fun tl htl => ?_⟩
    · show 1 * n.toNat ≤ sizeLine
      rw [sizeLine_eq]
      omega
    have s4 := Same.new' (o := .lst (List.replicate n.toNat [V.non]).flatten) htl
    have td4 : upd (upd (upd H1 td (.dK [])) l0 (.lst [V.non])) tl (.lst (List.replicate n.toNat [V.non]).flatten) td = some (.dK []) := s4 _ _ (s3 _ _ upd_same)
    have x4 := s4 _ _ (s3 _ _ (s2 _ _ x1))
    have tl4 : upd (upd (upd H1 td (.dK [])) l0 (.lst [V.non])) tl (.lst (List.replicate n.toNat [V.non]).flatten) tl = some (.lst (List.replicate n.toNat [V.non]).flatten) := upd_same
    have g4 : ∀ b o, b ≠ x → H b = some o → upd (upd (upd H1 td (.dK [])) l0 (.lst [V.non])) tl (.lst (List.replicate n.toNat [V.non]).flatten) b = some o := fun b o nb e => s4 _ _ (s3 _ _ (s2 _ _ (g1 b o nb e)))
    have hd0 : H td = none := fr g1 htd ntx
    have ntlx : tl ≠ x := fun z => by rw [z] at htl; rw [s3 _ _ (s2 _ _ x1)] at htl; cases htl
    have htl0 : H tl = none := fr (H' := upd (upd H1 td (.dK [])) l0 (.lst [V.non])) (fun b o nb e => s3 _ _ (s2 _ _ (g1 b o nb e))) htl ntlx
    generalize upd (upd (upd H1 td (.dK [])) l0 (.lst [V.non])) tl (.lst (List.replicate n.toNat [V.non]).flatten) = H4 at td4 x4 tl4 g4
    have ntd : tl ≠ td := ne_of tl4 td4 (by intro z; cases z)
    refine ⟨td4, [(Sum.inl 0, .ref tl)], rfl, by show 1 ≤ 15; decide, ?_⟩
    have g5 : ∀ b o, b ≠ x → H b = some o → upd H4 td (.dK (mergeK [] [((Sum.inl 0 : Key), V.ref tl)])) b = some o := fun b o nb e => by rw [upd_ne (ne_of_none e hd0)]; exact g4 b o nb e
    have x5 : upd H4 td (.dK (mergeK [] [((Sum.inl 0 : Key), V.ref tl)])) x = _ := (upd_ne (Ne.symm ntx)).trans x4
    have tl5 : upd H4 td (.dK (mergeK [] [((Sum.inl 0 : Key), V.ref tl)])) tl = _ := (upd_ne ntd).trans tl4
    have td5 : upd H4 td (.dK (mergeK [] [((Sum.inl 0 : Key), V.ref tl)])) td = some (.dK [((Sum.inl 0 : Key), V.ref tl)]) := upd_same
    generalize upd H4 td (.dK (mergeK [] [((Sum.inl 0 : Key), V.ref tl)])) = H5 at g5 x5 tl5 td5
    refine ⟨_, rfl, x, C.S, dx0, _, rfl, x5, T.cl, T.no _ (by decide), by show 2 < 1000; decide, ?_⟩
    have g6 : ∀ b o, b ≠ x → H5 b = some o → upd H5 x (.ins C.S dx0 (putF "tables" (V.ref td) [("process_limit", .int p), ("number_limit", .int n)])) b = some o := fun b o nb e => by rw [upd_ne nb]; exact e
    have x6 : upd H5 x (.ins C.S dx0 (putF "tables" (V.ref td) [("process_limit", .int p), ("number_limit", .int n)])) x = some (.ins C.S dx0 [("process_limit", .int p), ("number_limit", .int n), ("tables", .ref td)]) := upd_same
    generalize upd H5 x (.ins C.S dx0 (putF "tables" (V.ref td) [("process_limit", .int p), ("number_limit", .int n)])) = H6 at g6 x6
    intro sd hsd
    have nsx : sd ≠ x := fun z => by rw [z, x6] at hsd; cases hsd
    have nst : sd ≠ td := fun z => by rw [z, g6 _ _ ntx td5] at hsd; cases hsd
    have hsd0 : H sd = none := fr (fun b o nb e => g6 b o nb (g5 b o nb e)) hsd nsx
    have s7 := Same.new' (o := .dK []) hsd
    refine ⟨_, rfl, x, C.S, dx0, _, rfl, s7 _ _ x6, T.cl, T.no _ (by decide), by show 3 < 1000; decide, ?_⟩
    have g8 : ∀ b o, b ≠ x → H6 b = some o → upd (upd H6 sd (.dK [])) x (.ins C.S dx0 (putF "sources" (V.ref sd) [("process_limit", .int p), ("number_limit", .int n), ("tables", .ref td)])) b = some o := fun b o nb e => by rw [upd_ne nb]; exact s7 _ _ e
    have sd8 : upd (upd H6 sd (.dK [])) x (.ins C.S dx0 (putF "sources" (V.ref sd) [("process_limit", .int p), ("number_limit", .int n), ("tables", .ref td)])) sd = some (.dK []) := by rw [upd_ne nsx]; exact upd_same
    have x8 : upd (upd H6 sd (.dK [])) x (.ins C.S dx0 (putF "sources" (V.ref sd) [("process_limit", .int p), ("number_limit", .int n), ("tables", .ref td)])) x = some (.ins C.S dx0 [("process_limit", .int p), ("number_limit", .int n), ("tables", .ref td), ("sources", .ref sd)]) := upd_same
    generalize upd (upd H6 sd (.dK [])) x (.ins C.S dx0 (putF "sources" (V.ref sd) [("process_limit", .int p), ("number_limit", .int n), ("tables", .ref td)])) = H8 at g8 sd8 x8
    intro ud hud
    have nux : ud ≠ x := fun z => by rw [z, x8] at hud; cases hud
    have nut : ud ≠ td := fun z => by rw [z, g8 _ _ ntx (g6 _ _ ntx td5)] at hud; cases hud
    have nus : ud ≠ sd := fun z => by rw [z, sd8] at hud; cases hud
    have hud0 : H ud = none := fr (fun b o nb e => g8 b o nb (g6 b o nb (g5 b o nb e))) hud nux
    have s9 := Same.new' (o := .dK []) hud
    refine ⟨_, rfl, x, C.S, dx0, _, rfl, s9 _ _ x8, T.cl, T.no _ (by decide), by show 4 < 1000; decide, ?_⟩
    refine ⟨_, rfl, x, C.S, dx0, _, rfl, upd_same, T.cl, T.no _ (by decide), by show 5 < 1000; decide, ?_⟩
    have fin : ∀ b o, b ≠ x → upd H8 ud (.dK []) b = some o → upd (upd (upd H8 ud (.dK [])) x (.ins C.S dx0 (putF "sets" (V.ref ud) [("process_limit", .int p), ("number_limit", .int n), ("tables", .ref td), ("sources", .ref sd)]))) x (.ins C.S dx0 (putF "next_thing" (V.int 0) (putF "sets" (V.ref ud) [("process_limit", .int p), ("number_limit", .int n), ("tables", .ref td), ("sources", .ref sd)]))) b = some o := fun b o nb e => by rw [upd_ne nb, upd_ne nb]; exact e
    have xf : upd (upd (upd H8 ud (.dK [])) x (.ins C.S dx0 (putF "sets" (V.ref ud) [("process_limit", .int p), ("number_limit", .int n), ("tables", .ref td), ("sources", .ref sd)]))) x (.ins C.S dx0 (putF "next_thing" (V.int 0) (putF "sets" (V.ref ud) [("process_limit", .int p), ("number_limit", .int n), ("tables", .ref td), ("sources", .ref sd)]))) x = some (sysO C.S dx0 (newSys p n) td sd ud) := upd_same
    generalize upd (upd (upd H8 ud (.dK [])) x (.ins C.S dx0 (putF "sets" (V.ref ud) [("process_limit", .int p), ("number_limit", .int n), ("tables", .ref td), ("sources", .ref sd)]))) x (.ins C.S dx0 (putF "next_thing" (V.int 0) (putF "sets" (V.ref ud) [("process_limit", .int p), ("number_limit", .int n), ("tables", .ref td), ("sources", .ref sd)]))) = HF at fin xf
    have tdF : HF td = some (.dK [((Sum.inl 0 : Key), V.ref tl)]) := fin _ _ ntx (s9 _ _ (g8 _ _ ntx (g6 _ _ ntx td5)))
    have sdF : HF sd = some (.dK []) := fin _ _ nsx (s9 _ _ sd8)
    have udF : HF ud = some (.dK []) := fin _ _ nux upd_same
    have tlF : HF tl = some (.lst (List.replicate n.toNat [V.non]).flatten) := fin _ _ ntlx (s9 _ _ (g8 _ _ ntlx (g6 _ _ ntlx tl5)))
    have et : (List.replicate n.toNat [V.non]).flatten = (List.replicate n.toNat (none : Option Int)).map optV := by
      rw [List.map_replicate]
      have : ∀ m : Nat, (List.replicate m [V.non]).flatten = List.replicate m V.non := by
        intro m
        induction m with
        | zero => rfl
        | succ m ih => rw [List.replicate_succ, List.flatten_cons, ih]; rfl
      exact this _
    rw [et] at tlF
    have lt0 : ∀ t, live (newSys p n) (.tab t) → t = 0 := fun t h => List.mem_singleton.mp h
    have no : ∀ t : Int, t ∉ ([] : List Int) := fun t h => nomatch h
    refine k HF (initA x td sd ud tl) (fun _ => dx0) rfl ⟨fun c hc => ?_, fun c c' hc hc' z => ?_⟩ (fun b o nb e => fin b o nb (s9 _ _ (g8 b o nb (g6 b o nb (g5 b o nb e))))) (fun b hb => ?_)
    · cases c with
      | box => exact xf
      | tabD => exact tdF
      | srcD => exact sdF
      | setD => exact udF
      | tab t => exact tlF
      | srcT t => exact absurd hc (no t)
      | ws t => exact absurd hc (no t)
      | ent t => exact absurd hc (no t)
      | que t => exact absurd hc (no t)
      | reg t l => exact absurd hc.1 (no t)
    · have n_xt : x ≠ td := Ne.symm ntx
      have n_ts : tl ≠ sd := ne_of tlF sdF (by intro z; cases z)
      have n_tu : tl ≠ ud := ne_of tlF udF (by intro z; cases z)
      have dead : ∀ {c : Cell}, live (newSys p n) c → c = .box ∨ c = .tabD ∨ c = .srcD ∨ c = .setD ∨ c = .tab 0 := fun {c} hc => by
        cases c with
        | box => exact .inl rfl
        | tabD => exact .inr (.inl rfl)
        | srcD => exact .inr (.inr (.inl rfl))
        | setD => exact .inr (.inr (.inr (.inl rfl)))
        | tab t => exact .inr (.inr (.inr (.inr (by rw [lt0 t hc]))))
        | srcT t => exact absurd hc (no t)
        | ws t => exact absurd hc (no t)
        | ent t => exact absurd hc (no t)
        | que t => exact absurd hc (no t)
        | reg t l => exact absurd hc.1 (no t)
      rcases dead hc with rfl | rfl | rfl | rfl | rfl <;> rcases dead hc' with rfl | rfl | rfl | rfl | rfl <;> first | rfl | (exfalso; revert z; first | exact fun z => n_xt z | exact fun z => n_xt z.symm | exact fun z => nsx z | exact fun z => nsx z.symm | exact fun z => nux z | exact fun z => nux z.symm | exact fun z => ntlx z | exact fun z => ntlx z.symm | exact fun z => nst z | exact fun z => nst z.symm | exact fun z => nut z | exact fun z => nut z.symm | exact fun z => nus z | exact fun z => nus z.symm | exact fun z => ntd z | exact fun z => ntd z.symm | exact fun z => n_ts z | exact fun z => n_ts z.symm | exact fun z => n_tu z | exact fun z => n_tu z.symm)
    · obtain ⟨c, hc, rfl⟩ := hb
      cases c with
      | box => exact .inl rfl
      | tabD => exact .inr hd0
      | srcD => exact .inr hsd0
      | setD => exact .inr hud0
      | tab t => exact .inr htl0
      | srcT t => exact absurd hc (no t)
      | ws t => exact absurd hc (no t)
      | ent t => exact absurd hc (no t)
      | que t => exact absurd hc (no t)
      | reg t l => exact absurd hc.1 (no t)
end

/-! own errors over any built-in base -/
structure BX (x : Str) (B newId initId : String) (tl : List Value) : Prop where
  bf : ExcBaseFacts B newId initId (.type B :: tl)
  sf : StoreFacts B (.type B :: tl) "object.__setattr__" "object"
  ty : typeOf (.type B) = pure (.type "type")
  st : Manifest.isStub B = false
  bo : bootBuiltins x = some (.type B)
  nn : x ≠ "__name__"
  nd : (x == ("__debug__" : Str)) = false
  hi : PySem.W.handedIn (.builtin initId) = true
theorem bxRuntime : BX "RuntimeError" "RuntimeError" "RuntimeError.__new__" "RuntimeError.__init__" [.type "Exception", .type "BaseException", .type "object"] := ⟨F.excBase_RuntimeError, F.store_RuntimeError, by kernel_rfl, by decide +kernel, PyProof.Rows.Boot.«RuntimeError», by decide, by decide, by decide +kernel⟩
theorem bxLookup : BX "LookupError" "LookupError" "LookupError.__new__" "LookupError.__init__" [.type "Exception", .type "BaseException", .type "object"] := ⟨F.excBase_LookupError, F.store_LookupError, by kernel_rfl, by decide +kernel, PyProof.Rows.Boot.«LookupError», by decide, by decide, by decide +kernel⟩
theorem bxOverflow : BX "OverflowError" "OverflowError" "OverflowError.__new__" "OverflowError.__init__" [.type "ArithmeticError", .type "Exception", .type "BaseException", .type "object"] := ⟨F.excBase_OverflowError, F.store_OverflowError, by kernel_rfl, by decide +kernel, PyProof.Rows.Boot.«OverflowError», by decide, by decide, by decide +kernel⟩
theorem bxType : BX "TypeError" "TypeError" "TypeError.__new__" "TypeError.__init__" [.type "Exception", .type "BaseException", .type "object"] := ⟨F.excBase_TypeError, F.store_TypeError, by kernel_rfl, by decide +kernel, PyProof.Rows.Boot.«TypeError», by decide, by decide, by decide +kernel⟩
theorem bxValue : BX "ValueError" "ValueError" "ValueError.__new__" "ValueError.__init__" [.type "Exception", .type "BaseException", .type "object"] := ⟨F.excBase_ValueError, F.store_ValueError, by kernel_rfl, by decide +kernel, PyProof.Rows.Boot.«ValueError», by decide, by decide, by decide +kernel⟩
/-- a class of the program's straight over the base with this mro -/
structure OxB (K : PySem.W.Frag) (C : Addr) (newId : String) (bm : List Value) : Prop where
  cls : ∃ nm q N bs sn sub ab col dd k0 k1 k2 k3 k5, K.lookup C = some (excClassObj nm q C N bs bm true sn sub ab col dd k0 k1 k2 k3 k5 newId)
  sa : PySem.W.findIn K (.ref C) "__setattr__" = some (some (.builtin "object.__setattr__"))
  exC : PySem.W.subIn K (.ref C) (.type "BaseException") = some true
  tyC : PySem.W.typeIn K (.ref C) = some (.type "type")
  kC : PySem.W.keepIn K (.ref C) = true
namespace OxB
variable {K : PySem.W.Frag} {C : Addr} {newId B : String} {tl : List Value}
theorem data (T : OxB K C newId (.type B :: tl)) : ∃ cd : ClassData, PySem.W.clsIn K C = some cd ∧ cd.mro = .ref C :: .type B :: tl ∧ cd.hasDict = true := by
  obtain ⟨nm, q, N, bs, sn, sub, ab, col, dd, k0, k1, k2, k3, k5, hC⟩ := T.cls
  refine ⟨{ name := nm, bases := bs, mro := .ref C :: .type B :: tl, ns := N, qualname := q, hasDict := true, slotNames := sn, subclasses := sub, abstract := ab, collection := col, hasDel := false }, ?_, rfl, rfl⟩
  unfold PySem.W.clsIn
  rw [hC]
theorem over (T : OxB K C newId (.type B :: tl)) : PySem.W.excOver K C (.type B :: tl) = true := by
  obtain ⟨cd, h1, h2, _⟩ := T.data
  unfold PySem.W.excOver
  rw [h1]
  show (match cd.mro with | .ref C' :: bm => C' == C && PySem.W.excTail (.type B :: tl) bm | _ => false) = true
  rw [h2]
  have e : PySem.W.excTail (.type B :: tl) (.type B :: tl) = true := by
    unfold PySem.W.excTail
    exact beq_self_eq_true _
  show (C == C && PySem.W.excTail (.type B :: tl) (.type B :: tl)) = true
  rw [e, beq_self_eq_true]
  rfl
end OxB
section
open Builtin Builtin.ObjectAttr
/-- the first field of an error that has no dict yet -/
theorem oxb_first {prog : Program} {w : World} {A : Around} {R : Result → Shared → Prop} {hp : Heap} {g : Array GenState} {d : Drawn} {t : Nat} {os : OsState} {K : PySem.W.Frag} {C x : Addr} {newId B : String} {tl : List Value} {name : Str} {tk : Tok} {v : Value} {fv : Array Value}
    (T : OxB K C newId (.type B :: tl)) (SF : StoreFacts B (.type B :: tl) "object.__setattr__" "object") (X : K.In hp) (hx : hp.get? x = some { cls := .ref C, data := .fields fv }) (no : PySem.W.findIn K (.ref C) name = some none)
    (q : ∀ h' tk' dx, (∀ b o, b ≠ x → hp.get? b = some o → h'.get? b = some o) → hp.objs.size ≤ dx → dx ≠ x → h'.get? x = some { cls := .ref C, dict := some dx, data := .fields fv } → h'.Ns1 dx (fun y => if y = name then some v else none) → R (.ok (.ret .none)) ⟨h', g, d, tk', os⟩) :
    codeAny (model prog w) A (.call (.builtin "object.__setattr__") ⟨[.ref x, .str name tk, v], []⟩) R ⟨hp, g, d, t, os⟩ := by
  have J : PySem.W.InstAt (⟨hp, g, d, t, os⟩ : Shared).heap x { cls := .ref C, data := .fields fv } C none := ⟨hx, rfl, rfl, trivial⟩
  have tkr : PySem.W.takerIn K C name = some none := by
    unfold PySem.W.takerIn
    rw [no]
    rfl
  obtain ⟨cd, hcd, _, hhd⟩ := T.data
  have away : x ≠ hp.objs.size := Nat.ne_of_lt (Heap.lt_size hx)
  refine PySem.W.osa_openX (s := ⟨hp, g, d, t, os⟩) SF X J T.over tkr fun onT => ?_
  show wpAny _ _ (storeInOwnDict (.ref x) (.ref C) (.str name tk) name v onT) _ _ _
  have ask : PySem.W.Looks (model prog w) hp (classData C) cd := PySem.W.looks_clsIn X hcd
  obtain ⟨nm, bs, mro, ns, qn, hd, sn, sb, ab, col, del⟩ := cd
  obtain rfl : hd = true := hhd
  unfold storeInOwnDict ownDictForStores
  repeat (first | with_reducible refine PySem.HandSPX.store_in_new ?_ ?_ | (with_reducible refine wpAny_loadPart_at hx ?_) | (with_reducible refine ask.at ?_) | wp_step)
  · exact (fun laid => ⟨_, #[], _, laid, rfl, fun e he => absurd he (by simp), fun _ => rfl⟩) ((Heap.get?_update_ne _ _ _ _ away.symm).trans (Heap.get?_push_at rfl rfl))
  · intro h' tk' hn same
    have h1 : (hp.push { cls := .type "dict", data := .dict #[] }).get? x = some { cls := .ref C, data := .fields fv } := Heap.get?_push_of_some _ hx
    refine q h' tk' hp.objs.size (fun b o nb eb => ?_) (Nat.le_refl _) away.symm ((same.2 x away).trans (Heap.get?_update_self _ h1 rfl)) hn
    rw [same.2 b (Nat.ne_of_lt (Heap.lt_size eb)), Heap.get?_update_ne _ _ _ _ nb]
    exact Heap.get?_push_of_some _ eb
end
section
variable {X : Cx} {pins : List (Addr × Obj)} {σ : L2.St} {H : Hp} {s : Shared} {a C : Addr} {f : Str} {y : V} {u : Value} {newId initId B : String} {tl : List Value} {A : Around}
theorem oxb_store {Q : Unit → Shared → Prop} {E : Value → Shared → Prop} (T : OxB X.K C newId (.type B :: tl)) (SF : StoreFacts B (.type B :: tl) "object.__setattr__" "object") (I : Inv X pins σ H s) (e : H a = some (exo a C none)) (no : PySem.W.findIn X.K (.ref C) f = some none) (ry : RelV y u)
    (k : ∀ dx s', H dx = none → dx ≠ a → Inv X pins σ (upd (upd H dx (exd dx [(f, y)])) a (exo a C (some dx))) s' → Q () s') : wpAny (model X.prog X.w) A (setAttr (.ref a) f u) Q E s := by
  obtain ⟨t1, ho⟩ := exo_at I.hok e
  obtain ⟨hp, g, d, t, os⟩ := s
  refine PySem.W.set_plain I.kIn (od := none) (ox := { cls := .ref C, dict := none, data := .fields #[.ref t1, .none, .none, .none, .bool false, .none] }) ⟨ho, rfl, rfl, trivial⟩ T.sa (oxb_first T SF I.kIn ho no fun h' tk' dx kp dn dne hx hn => ?_)
  have free : H dx = none := I.hok.fresh dn
  have apart : ∀ {b : Addr} {o : Obj}, hp.get? b = some o → b ≠ dx := fun {b o} z => Nat.ne_of_lt (Nat.lt_of_lt_of_le (Heap.lt_size z) dn)
  have other : ∀ {b : Addr}, H b = none → b ≠ a := fun {b} n z => by rw [z, e] at n; cases n
  refine k dx _ free dne (I.un (t' := tk') ⟨fun b o z n _ _ => kp b o (other n) z, fun b o z n _ _ => ⟨o.slots, kp b o (other n) z⟩, fun b o z n _ => ?_, fun b o z _ => ?_, fun b xs z => ?_, fun b o v z => ?_, fun b ps z => ⟨#[], ?_⟩⟩ fun b o z => ?_)
  · rw [upd_ne (other n), upd_ne (apart z)]
    exact n
  · by_cases hb : b = a
    · exact ⟨_, by rw [hb]; exact hx⟩
    · exact ⟨o, kp b o hb z⟩
  · rw [upd_ne (at_ne e z exo_tup), upd_ne (ne_of_none z free)]
    exact z
  · rw [upd_ne (at_ne e z exo_frz), upd_ne (ne_of_none z free)]
    exact z
  · rw [upd_ne (at_ne e z exo_tbl), upd_ne (ne_of_none z free), z]
    simp
  · by_cases hb : b = a
    · subst hb
      rw [upd_same] at z
      cases z
      exact exo_ok hx
    rw [upd_ne hb] at z
    by_cases hd : b = dx
    · subst hd
      rw [upd_same] at z
      cases z
      exact exd_ok hn (relO_put (fs := []) ry fun g => True.intro)
    rw [upd_ne hd] at z
    refine (I.hok b o z).stay (fun c v hc y1 => kp c v ?_ y1) (fun c hc => ?_) (fun c xs hc => ?_)
    · rcases hc with hc | hc
      · exact hc ▸ hb
      · exact at_ne e hc exo_own
    · rw [upd_ne (at_ne e hc exo_own), upd_ne (ne_of_none hc free)]
      exact hc
    · rw [upd_ne (at_ne e hc exo_tup), upd_ne (ne_of_none hc free)]
      exact hc
theorem oxb_init {us : List Value} {Q : Value → Shared → Prop} {E : Value → Shared → Prop} (T : OxB X.K C newId (.type B :: tl)) (BF : ExcBaseFacts B newId initId (.type B :: tl)) (I : Inv X pins σ H s) (e : H a = some (exo a C none)) (hl : us.length ≤ sizeLine) (k : ∀ s', Inv X pins σ H s' → Q .none s') :
    wpAny (model X.prog X.w) A (call (.builtin initId) (.ref a :: us)) Q E s := by
  obtain ⟨nm, q, N, bs, sn, sub, ab, col, dd, k0, k1, k2, k3, k5, hC⟩ := T.cls
  obtain ⟨t1, ho⟩ := exo_at I.hok e
  obtain ⟨hp, g, d, t, os⟩ := s
  refine wpAny_call (PySem.HandSPX.init_base BF (fun _ => rfl) (I.kIn _ _ hC) ho hl fun h' t2 kp hx => k _ ?_)
  have J := I.write (t' := t) (x := a) (e := a) (o := exo a C none) (by rw [e]; exact True.intro) (.inl rfl) kp ⟨_, hx⟩ (exo_ok hx)
  have eu : upd H a (exo a C none) = H := funext fun b => by
    by_cases hb : b = a
    · rw [hb, upd_same, e]
    · exact upd_ne hb
  exact eu ▸ J
/-- B.__init__(self, ..) of a base B -/
def tBI (K : PySem.W.Frag) (newId B : String) (tl : List Value) (ta : TA) : TE := fun σ H Q => ta σ H fun vs H1 => ∃ (a C : Addr) (ws : List V), vs = .ref a :: ws ∧ ws.length ≤ 1000 ∧ OxB K C newId (.type B :: tl) ∧ H1 a = some (exo a C none) ∧ Q .non H1
/-- self.f = e, the only field -/
def tOsB (K : PySem.W.Frag) (newId B : String) (tl : List Value) (f : Str) (to te : TE) : TS := fun D σ H => te σ H fun y H1 => to σ H1 fun x H2 => ∃ a C : Addr, x = .ref a ∧ OxB K C newId (.type B :: tl) ∧ PySem.W.findIn K (.ref C) f = some none ∧ H2 a = some (exo a C none) ∧
  ∀ dx, H2 dx = none → dx ≠ a → D.nx σ (upd (upd H2 dx (exd dx [(f, y)])) a (exo a C (some dx)))
variable {o e : Expr} {es : List Expr} {to te : TE} {ta : TA} {x : Str} {p p' p1 p2 pos : Pos}
theorem pe_binit {pl : Sem Bool} (Z : BX x B newId initId tl) (hg : Gl X x) (hm : X.mg x = none) (fI : PySem.W.findCls X.K (.type B) (.type "type") "__init__" = some (.val (.builtin initId))) (ha : PA X (e :: es) ta)
    (hc : eval (.Call (.Attribute (.Name x p1) "__init__" p2) (e :: es) [] pos) X.env = (eval (.Name x p1) X.env >>= fun ov => standAt p2.atName >>= fun _ => holding [ov] (getMethod ov "__init__" pl) >>= fun r => callWith pos r.1 r.2 (backTo pos (starEach (e :: es) X.env)) (backToKw pos (keywordEach [] X.env))) := by rfl)
    (st : starEach (e :: es) X.env = (false, eval e X.env) :: starEach es X.env := by rfl) (pn : (backTo pos (starEach es X.env)).any (·.1) = false := by rfl) : PE X (.Call (.Attribute (.Name x p1) "__init__" p2) (e :: es) [] pos) (tBI X.K newId B tl ta) := by
  refine ⟨fun pins s σ H Q I h => PySem.W.methodCall_KW (ld_blt I hg hm Z.bo ?_ Z.nn Z.nd) hc⟩
  obtain ⟨m, fr⟩ := I.fr
  refine PySem.W.method_type fr I.ok.mod.kin Z.ty Z.st fI Z.hi ?_
  show wpAny _ _ (callWith pos (Value.builtin initId) [] (backTo pos (starEach (e :: es) X.env)) []) _ _ _
  refine PyProof.Rows.callWith_method1 (thn (ha.run pos pins _ σ H _ (I.tok _) h) ?_) st pn
  rintro us s1 ⟨vs, H1, I1, r1, a, C, ws, rfl, hl, T, ea, q⟩
  cases r1 with
  | @cons _ u0 _ ur ra rw' =>
    obtain rfl : u0 = Value.ref a := ra
    exact oxb_init T Z.bf I1 ea (by rw [← Paired.length rw', sizeLine_eq]; omega) fun s' J => ⟨.non, H1, J, rfl, q⟩
theorem ps_osb (Z : BX x B newId initId tl) (ho : PE X o to) (he : PE X e te) (sw : swapsWith e (some (.Attribute o f p')) pos.line X.env = pure false := by rfl) : PS X (.Assign [.Attribute o f p'] e pos) (tOsB X.K newId B tl f to te) := by
  refine ⟨fun pins s σ H D I h => plainObj_wpAny_Assign_Attribute (thn (he.run pins s σ H _ I h) ?_) sw⟩
  rintro v s1 ⟨y, H1, I1, r1, q1⟩
  refine thn (ho.run pins s1 σ H1 _ I1 q1) ?_
  rintro u s2 ⟨x, H2, I2, r2, a, C, rfl, T, no, ea, q⟩
  obtain rfl : u = Value.ref a := r2
  exact oxb_store T Z.sf I2 ea no r1 fun dx s' n ne J => ⟨σ, _, J, q dx n ne⟩
theorem pmk_oxb {CX : CXT} {n : Str} {fI : Addr} {k : Nat} {fd : FuncData} {ps : List Str} {sp : Sp} {ds : List Value} {dvs : List V} (Z : BX x B newId initId tl) (T : OxB X.K C newId (.type B :: tl)) (iC : PySem.W.findIn X.K (.ref C) "__init__" = some (some (.ref fI)))
    (tI : PySem.W.typeIn X.K (.ref fI) = some (.type "function")) (G : FnOk X.prog X.w X.K X.mg X.base CX k fI fd ps sp) (hr : Room (k + 1) X.A) (hb : Binds X.K fd ps ds) (hd : Vals dvs ds) (hx : Passes CX X (fun _ _ _ => False)) (hg : Gl X n) (hm : X.mg n = some (.ref C)) (ha : PA X (e :: es) ta)
    (db : (n == ("__debug__" : Str)) = false := by decide) (st : starEach (e :: es) X.env = (false, eval e X.env) :: starEach es X.env := by rfl) (pn : (backTo pos (starEach es X.env)).any (·.1) = false := by rfl) : PMk X (.Call (.Name n p) (e :: es) [] pos) (tMkO C sp dvs ta) := by
  intro pins s σ H Q I h
  obtain ⟨nm, q, N, bs, sn, sub, ab, col, dd, k0, k1, k2, k3, k5, hC⟩ := T.cls
  refine wpAny_Call_Name_kw (ld_glob I hg hm (PySem.W.callWith_K (h₀ := X.base) I.ok.mod.kin T.kC (thn (ha.run pos pins s σ H _ I h) ?_) st pn) db)
  rintro us ⟨hp, g, dr, tk, os⟩ ⟨vs, H1, I1, r1, hz, q1⟩
  refine ⟨I1.kIn, ?_⟩
  show wpAny _ _ (call (.ref C) us) _ _ _
  have above : hp.objs.size ≤ hp.objs.size + 1 := Nat.le_succ _
  have want := q1 (hp.objs.size + 1) (I1.hok.fresh above)
  have kp : ∀ b o, hp.get? b = some o → ((hp.push (PySem.W.kdv_tup us)).push (PySem.HandSPX.excO C hp.objs.size)).get? b = some o := fun b o z => Heap.get?_push_of_some _ (Heap.get?_push_of_some _ z)
  have here : ((hp.push (PySem.W.kdv_tup us)).push (PySem.HandSPX.excO C hp.objs.size)).get? (hp.objs.size + 1) = some (PySem.HandSPX.excO C hp.objs.size) := by heap_get
  have I2 : Inv X pins σ (upd H1 (hp.objs.size + 1) (exo (hp.objs.size + 1) C none)) ⟨(hp.push (PySem.W.kdv_tup us)).push (PySem.HandSPX.excO C hp.objs.size), g, dr, tk, os⟩ := I1.laid (t' := tk) kp above (exo_ok here)
  have rs : Vals (V.ref (hp.objs.size + 1) :: (vs ++ dvs)) (Value.ref (hp.objs.size + 1) :: (us ++ ds)) := .cons rfl (r1.append hd)
  have many : (Value.ref (hp.objs.size + 1) :: us ++ ds).length = ps.length := (G.len _ _ _ _ want ▸ rs.length).symm
  have short : us.length ≤ sizeLine := by rw [← Paired.length r1, sizeLine_eq]; omega
  refine wpAny_call (PySem.HandSPX.call_own Z.bf (fun _ => rfl) (I1.kIn _ _ hC) (PySem.W.looks_findIn I1.kIn iC) (fun self => PySem.W.bind_fn I1.kIn self tI) short
    (codeAny_mono (G.run _ X.stack _ _ ⟨Value.ref (hp.objs.size + 1) :: us, []⟩ (Value.ref (hp.objs.size + 1) :: (us ++ ds)) _ _ (fun _ _ _ => False) (hr.make C us []) (I2.env0.make C us []) (hb _ (Value.ref (hp.objs.size + 1) :: us) I2.kIn many) rs want) fun r s' hq => ?_))
  rcases r with er | (_ | _ | _ | u)
  all_goals first | exact False.elim hq | exact hx pins σ _ _ er s' I2 hq | skip
  all_goals
    obtain ⟨v, H2, os2, bare2, un2, hok2, rv, ev, d, fs, ea, ed, hd1, q2⟩ := hq
    subst ev
    obtain ⟨h2, g2, d2, t2, os'⟩ := s'
    exact ⟨rv, mk_end (raises_own T.exC T.tyC) I1 above kp un2 hok2 os2 bare2 ea ed hd1 q2⟩
end

theorem passX {X : Cx} {E : XK} (tk : Takes X fun cls d _ H => E cls d H) : Passes (L2.CX X.prog X.w) X E := fun pins σ H s e s' I c => tk e s' (XE.of_call I (fun _ _ _ h => h) c)
abbrev exT : List Value := [.type "Exception", .type "BaseException", .type "object"]
/-! an error of the class at D whose only field, named f, is an int -/
structure ErrF (K : PySem.W.Frag) (mg : Str → Option Value) (nm : Str) (f : Str) (D fI : Addr) (fdI : FuncData) (newId : String) (bm : List Value) : Prop where
  gC : mg nm = some (.ref D)
  ox : OxB K D newId bm
  noN : PySem.W.findIn K (.ref D) f = some none
  iC : PySem.W.findIn K (.ref D) "__init__" = some (some (.ref fI))
  tI : PySem.W.typeIn K (.ref fI) = some (.type "function")
  bI : Binds K fdI ["self", f] []
  te : PySem.W.exmOne K (.ref D) (.ref D) = some true
  xf : XfC K D
section
variable {P : Program} {w : World} {K : PySem.W.Frag} {mg : Str → Option Value} {base : Heap} {C : Cs}
def spErrInit (D : Addr) (f : Str) : Sp := fun vs H Q _ => ∃ (a : Addr) (n : Int), vs = [.ref a, .int n] ∧ n.natAbs.log2 < 1920 ∧ (Str.ofString (toString n)).length ≤ 700 ∧ H a = some (exo a D none) ∧
  ∀ d, H d = none → d ≠ a → Q .non (upd (upd H d (exd d [(f, .int n)])) a (exo a D (some d)))
abbrev sRegisteredInit : Stmt := meth 15 0
theorem scRegisteredInit : FnScope ["self", "number"] ["self", "number"] (defScope sRegisteredInit) := ⟨rfl, rfl, rfl, by decide +kernel, rfl, by decide +kernel, by decide +kernel⟩
abbrev RegisteredE (K : PySem.W.Frag) (mg : Str → Option Value) (D fI : Addr) (fdI : FuncData) : Prop := ErrF K mg "Registered" "number" D fI fdI "RuntimeError.__new__" (.type "RuntimeError" :: exT)
theorem okRegisteredInit {D fI : Addr} {fdI : FuncData} (F : Fun K "__init__" "Registered.__init__" sRegisteredInit fI fdI) (gB : mg "RuntimeError" = none) (fB : PySem.W.findCls K (.type "RuntimeError") (.type "type") "__init__" = some (.val (.builtin "RuntimeError.__init__"))) (T : RegisteredE K mg D fI fdI) : FnOk P w K mg base CX0 1 fI fdI ["self", "number"] (spErrInit D "number") := by
  refine F.ok scRegisteredInit (fun vs H Q E h => ?_) (fun cdv A outer s H vs Q E hr h => ?_)
  · obtain ⟨a, n, rfl, _⟩ := h
    rfl
  · obtain ⟨a, n, rfl, h1, h2, ha, k⟩ := h
    refine ⟨_, pss_cons (ps_expr (pe_binit bxRuntime (by rfl) gB fB (pa_cons (pv 0) (pa_cons (pe_joined (.cons pe_str (.cons (pe_fmtR (pv 1)) (.cons pe_str .nil)))) pa_nil))))
      (pss_one (ps_osb (f := "number") bxRuntime (pv 0) (pv 1))), ?_⟩
    walk_at "wn"
    show tCons _ _ _ _ _
    walk_at "wn"
    show tJs _ _ _ _ _
    have e5 : (((" and its source are registered" : String) : Str)).length = 30 := rfl
    have e6 : (((("number " : String) : Str))).length = 7 := rfl
    refine ⟨"number ", rfl, by decide, ?_⟩
    refine ⟨_, rfl, ?_⟩
    refine Or.inr ⟨n, rfl, h1, toString n, rfl, ?_, ?_⟩
    · rw [strLen_append, strLen_append, sizeLine_eq, e6]
      show 0 + 7 + _ ≤ _
      omega
    refine ⟨" and its source are registered", rfl, ?_, ?_⟩
    · rw [strLen_append, strLen_append, strLen_append, sizeLine_eq, e5, e6]
      show 0 + 7 + _ + _ ≤ _
      omega
    refine ⟨a, D, [_], rfl, by show 1 ≤ 1000; decide, T.ox, ha, ?_⟩
    refine ⟨_, rfl, _, rfl, ?_⟩
    exact ⟨a, D, rfl, T.ox, T.noN, ha, fun dx h1 h2 => k dx h1 h2⟩
abbrev sNotRegisteredInit : Stmt := meth 5 0
theorem scNotRegisteredInit : FnScope ["self", "number"] ["self", "number"] (defScope sNotRegisteredInit) := ⟨rfl, rfl, rfl, by decide +kernel, rfl, by decide +kernel, by decide +kernel⟩
abbrev NotRegisteredE (K : PySem.W.Frag) (mg : Str → Option Value) (D fI : Addr) (fdI : FuncData) : Prop := ErrF K mg "NotRegistered" "number" D fI fdI "LookupError.__new__" (.type "LookupError" :: exT)
theorem okNotRegisteredInit {D fI : Addr} {fdI : FuncData} (F : Fun K "__init__" "NotRegistered.__init__" sNotRegisteredInit fI fdI) (gB : mg "LookupError" = none) (fB : PySem.W.findCls K (.type "LookupError") (.type "type") "__init__" = some (.val (.builtin "LookupError.__init__"))) (T : NotRegisteredE K mg D fI fdI) : FnOk P w K mg base CX0 1 fI fdI ["self", "number"] (spErrInit D "number") := by
  refine F.ok scNotRegisteredInit (fun vs H Q E h => ?_) (fun cdv A outer s H vs Q E hr h => ?_)
  · obtain ⟨a, n, rfl, _⟩ := h
    rfl
  · obtain ⟨a, n, rfl, h1, h2, ha, k⟩ := h
    refine ⟨_, pss_cons (ps_expr (pe_binit bxLookup (by rfl) gB fB (pa_cons (pv 0) (pa_cons (pe_joined (.cons pe_str (.cons (pe_fmtR (pv 1)) (.cons pe_str .nil)))) pa_nil))))
      (pss_one (ps_osb (f := "number") bxLookup (pv 0) (pv 1))), ?_⟩
    walk_at "wn"
    show tCons _ _ _ _ _
    walk_at "wn"
    show tJs _ _ _ _ _
    have e5 : (((" and its source" : String) : Str)).length = 15 := rfl
    have e6 : (((("no registration has number " : String) : Str))).length = 27 := rfl
    refine ⟨"no registration has number ", rfl, by decide, ?_⟩
    refine ⟨_, rfl, ?_⟩
    refine Or.inr ⟨n, rfl, h1, toString n, rfl, ?_, ?_⟩
    · rw [strLen_append, strLen_append, sizeLine_eq, e6]
      show 0 + 27 + _ ≤ _
      omega
    refine ⟨" and its source", rfl, ?_, ?_⟩
    · rw [strLen_append, strLen_append, strLen_append, sizeLine_eq, e5, e6]
      show 0 + 27 + _ + _ ≤ _
      omega
    refine ⟨a, D, [_], rfl, by show 1 ≤ 1000; decide, T.ox, ha, ?_⟩
    refine ⟨_, rfl, _, rfl, ?_⟩
    exact ⟨a, D, rfl, T.ox, T.noN, ha, fun dx h1 h2 => k dx h1 h2⟩
/-- the way out with an error of the class at D whose field is n -/
def Out (D : Addr) (f : Str) (n : Int) (H : Hp) (E : XK) : Prop := ∀ d H', H d = none → Same H H' → H' d = some (.xd [(f, .int n)]) → E (.ref D) (some d) H'
theorem out_made {D : Addr} {f : Str} {n : Int} {H : Hp} {Q : XK} (h1 : n.natAbs.log2 < 1920) (h2 : (Str.ofString (toString n)).length ≤ 700) (k : Out D f n H Q) :
    ([V.int n].length ≤ 1000 ∧ ∀ a, H a = none → spErrInit D f (.ref a :: ([V.int n] ++ [])) (upd H a (exo a D none)) (fun v H2 => v = .non ∧ ∃ (d : Addr) (fs : List (Str × V)), H2 a = some (exo a D (some d)) ∧ H2 d = some (exd d fs) ∧ H d = none ∧ Q (.ref D) (some d) (upd (del H2 a) d (.xd fs))) fun _ _ _ => False) := by
  refine ⟨by show 1 ≤ 1000; decide, fun a ha => ⟨a, n, rfl, h1, h2, upd_same, fun d hd nd => ⟨rfl, d, [(f, .int n)], upd_same, ?_, ?_, ?_⟩⟩⟩
  · rw [upd_ne nd, upd_same]
  · rw [upd_ne nd] at hd
    exact hd
  · rw [upd_ne nd] at hd
    refine k d _ hd (fun b o e => ?_) upd_same
    have n1 : b ≠ d := fun z => by rw [z, hd] at e; cases e
    have n2 : b ≠ a := fun z => by rw [z, ha] at e; cases e
    rw [upd_ne n1]
    show (if b = a then none else _) = _
    rw [if_neg n2, upd_ne n2, upd_ne n1, upd_ne n2]
    exact e
theorem Out.same {D : Addr} {f : Str} {n : Int} {H H1 : Hp} {E : XK} (k : Out D f n H E) (s : Same H H1) : Out D f n H1 E := fun d H' hd s' e => k d H' (s.free hd) (s.trans s') e
theorem small_int {n : Int} (h0 : 0 ≤ n) (h1 : n ≤ 1000) : n.natAbs.log2 < 1920 ∧ (Str.ofString (toString n)).length ≤ 700 := by
  refine ⟨?_, ?_⟩
  · have : n.natAbs.log2 ≤ n.natAbs := Nat.log2_le_self _
    omega
  · have := toString_length_le (v := n) h0 (k := 4) (by decide) (by omega)
    omega
end

/-! o.m(e, .., k = v, ..), o.m(k = v, ..) -/
def tMethK (C : Addr) (m : Str) (n j : Nat) (sp : Sp) (gV : List V → List V → List V) (E : XK) (ta : TE) (t tk : TA) : TE := fun σ H Q => ta σ H fun x H1 => ∃ a dx fs, x = .ref a ∧ H1 a = some (.ins C dx fs) ∧ fs.lookup m = none ∧ t σ H1 fun vs H2 => tk σ H2 fun zs H3 => vs.length = n ∧ zs.length = j ∧ sp (gV (x :: vs) zs) H3 Q E
def tMethK0 (C : Addr) (m : Str) (j : Nat) (sp : Sp) (gV : List V → List V → List V) (E : XK) (ta : TE) (tk : TA) : TE := fun σ H Q => ta σ H fun x H1 => ∃ a dx fs, x = .ref a ∧ H1 a = some (.ins C dx fs) ∧ fs.lookup m = none ∧ tk σ H1 fun zs H3 => zs.length = j ∧ sp (gV [x] zs) H3 Q E
section
variable {X : Cx} {CX : CXT} {k n : Nat} {f C : Addr} {fd : FuncData} {ps ks : List Str} {sp : Sp} {E : XK} {m : Str} {apos pos : Pos} {o e : Expr} {es : List Expr} {kws : List Keyword} {ta : TE} {t tk : TA} {g : List Value → List Value → List Value} {gV : List V → List V → List V}
theorem pe_methK {pl : Sem Bool} (he : PE X o ta) (c : Cls X.K C) (hm : Meth X.K C m f) (F : FnOk X.prog X.w X.K X.mg X.base CX k f fd ps sp) (hr : Room k X.A) (hb : KBn X.K fd ps (n + 1) ks g gV) (hx : Passes CX X E) (ha : PA X (e :: es) t) (hkw : PK X kws tk)
    (hall : (backToKw pos (keywordEach kws X.env)).all (·.1.isSome) = true := by rfl) (hks : (backToKw pos (keywordEach kws X.env)).filterMap (·.1) = ks := by rfl)
    (hst : starEach (e :: es) X.env = (false, eval e X.env) :: starEach es X.env := by rfl) (hpl : ((backTo pos (starEach (e :: es) X.env)).any (·.1) || (backToKw pos (keywordEach kws X.env)).any (·.1.isNone)) = false := by rfl)
    (ht : eval (.Call (.Attribute o m apos) (e :: es) kws pos) X.env = (do
      let ov ← eval o X.env
      standAt apos.atName
      let (f, first) ← holding [ov] (getMethod ov m pl)
      callWith pos f first (backTo pos (starEach (e :: es) X.env)) (backToKw pos (keywordEach kws X.env))) := by rfl) :
    PE X (.Call (.Attribute o m apos) (e :: es) kws pos) (tMethK C m n ks.length sp gV E ta t tk) := by
  refine ⟨fun pins s σ H Q I h => ?_⟩
  refine PySem.W.methodCall_KW (pl := pl) (thn (he.run pins s σ H _ I h) fun u s1 ⟨x, H1, I1, rx, a, dx, fs, ex, ea, l, q⟩ => ?_) ht
  subst ex
  obtain rfl : u = Value.ref a := rx
  refine getmeth_ok I1 ea c hm l ?_
  refine PySem.W.callWith_KW (first := [.ref a]) (h₀ := X.base) I.ok.mod.kin hm.kp hall (thn (ha.run pos pins s1 σ H1 _ I1 q) fun us s2 ⟨vs, H2, I2, r, q2⟩ => ?_) hpl hst
  refine thn (hkw.run pos pins s2 σ H2 _ I2 q2) fun ws s3 ⟨zs, H3, I3, rz, l1, l2, q3⟩ => ⟨I3.kIn, ?_⟩
  rw [hks]
  exact run_fnN (us := .ref a :: us) (vs := .ref a :: vs) F hr hb hx I3 (.cons rfl r) rz (by rw [List.length_cons, l1]) l2 q3
theorem pe_methK0 {pl : Sem Bool} (he : PE X o ta) (c : Cls X.K C) (hm : Meth X.K C m f) (F : FnOk X.prog X.w X.K X.mg X.base CX k f fd ps sp) (hr : Room k X.A) (hb : KBn X.K fd ps 1 ks g gV) (hx : Passes CX X E) (hkw : PK X kws tk)
    (hall : (backToKw pos (keywordEach kws X.env)).all (·.1.isSome) = true := by rfl) (hks : (backToKw pos (keywordEach kws X.env)).filterMap (·.1) = ks := by rfl)
    (hpl : ((backTo pos (starEach [] X.env)).any (·.1) || (backToKw pos (keywordEach kws X.env)).any (·.1.isNone)) = false := by rfl)
    (ht : eval (.Call (.Attribute o m apos) [] kws pos) X.env = (do
      let ov ← eval o X.env
      standAt apos.atName
      let (f, first) ← holding [ov] (getMethod ov m pl)
      callWith pos f first (backTo pos (starEach [] X.env)) (backToKw pos (keywordEach kws X.env))) := by rfl) :
    PE X (.Call (.Attribute o m apos) [] kws pos) (tMethK0 C m ks.length sp gV E ta tk) := by
  refine ⟨fun pins s σ H Q I h => ?_⟩
  refine PySem.W.methodCall_KW (pl := pl) (thn (he.run pins s σ H _ I h) fun u s1 ⟨x, H1, I1, rx, a, dx, fs, ex, ea, l, q⟩ => ?_) ht
  subst ex
  obtain rfl : u = Value.ref a := rx
  refine getmeth_ok I1 ea c hm l ?_
  refine PySem.W.callWith_KW0 (first := [.ref a]) (h₀ := X.base) I.ok.mod.kin hm.kp hall (thn (hkw.run pos pins s1 σ H1 _ I1 q) fun ws s3 ⟨zs, H3, I3, rz, l2, q3⟩ => ⟨I3.kIn, ?_⟩) hpl
  rw [hks]
  exact run_fnN (us := [.ref a]) (vs := [.ref a]) F hr hb hx I3 (.cons rfl .nil) rz rfl l2 q3
end
/-- all parameters by position or by name, of a def with positional defaults -/
theorem kb1 {K : PySem.W.Frag} {x qual : Str} {params : Arguments} {body : List Stmt} {scope : PySem.Scope} {dvs : List V} {kws : List (Str × V)} {f : Addr} {fd : FuncData} {ps : List Str} (F : FunD K x qual params body scope dvs kws f fd) (n : Nat) (ks : List Str) (hd : dvs ≠ [])
    (h : ∀ (T : Addr) (kV doc pm : Value) (an : Option Addr) (cdv ct : Value) (us its ws : List Value), us.length = n → its.length = dvs.length → ws.length = ks.length →
      ∃ k, bindArgs (PySem.W.fnOf x qual params body scope (.ref T) kV doc pm an cdv ct) ⟨us, ks.zip ws⟩ = seqItems? (.ref T) >>= k ∧ k (some its.toArray) = pure (ps.zip (us ++ ws))) : KBn K fd ps n ks (fun us ws => us ++ ws) (fun vs zs => vs ++ zs) := by
  obtain ⟨oc, od, dV, kV, doc, pm, an, cdv, ct, osl, rfl, lk, hcd, hD, hK⟩ := F.ex
  rcases hD with ⟨e, _⟩ | ⟨_, T, o, its, m, rfl, lT, oT, rT⟩
  · exact absurd e hd
  refine ⟨fun s us ws X l1 l2 => BindsTo.of_looks fun M => ?_, fun r1 r2 => r1.append r2⟩
  obtain ⟨k, e1, e2⟩ := h T kV doc pm an cdv ct us its ws l1 rT.length.symm l2
  rw [e1]
  exact looks_items X lT oT (.of_pure e2)
/-- a method: its promise, its places, what it binds where all is given -/
structure MX (P : Program) (w : World) (K : PySem.W.Frag) (mg : Str → Option Value) (base : Heap) (CX : CXT) (k : Nat) (C : Addr) (m : Str) (ps : List Str) (sp : Sp) (f : Addr) (fd : FuncData) : Prop where
  g : FnOk P w K mg base CX k f fd ps sp
  m : Meth K C m f
  b : Binds K fd ps []

theorem reg_fun (ad : Cell → Addr) (s l : Int) (T : Addr) : (fun j => if j = l then T else ad (.reg s j)) = fun j => setA ad (.reg s l) T (.reg s j) := by
  funext j
  by_cases h : j = l
  · rw [if_pos h, h, setA_same]
  · rw [if_neg h, setA_ne fun z => h (by cases z; rfl)]
def added (S : Sys) (s l : Int) (r : Reg) : Sys := { S with
  ents := fun j => if j = s then S.ents s ++ [l] else S.ents j
  reg := fun j i => if j = s ∧ i = l then r else S.reg j i
  que := fun j => if j = s then (if ready S r.src = true then qAdd l (S.que s) else S.que s) else S.que j }
section
variable {P : Program} {w : World} {K : PySem.W.Frag} {mg : Str → Option Value} {base : Heap} {C : Cs}
def spAdd (C : Cs) (D1 : Addr) : Sp := fun vs H Q E => ∃ (p sn n l s t : Int) (wd : Str), OnSys C vs H [.int p, .int sn, .int n, .int l, .str wd] fun S ad dx => Means S p sn s ∧ s ∈ S.sets ∧ Means S p n t ∧ t ∈ S.srcs ∧ n ≤ 1000 ∧ 0 ≤ l ∧ l ≤ 1000 ∧ wd ∈ wordsL ∧ l ∉ S.ents s ∧ Small S ∧
  (∀ l', (S.ents s).find? (keyOf (S.reg s) n t) = some l' → Out D1 "number" n H E) ∧
  ((S.ents s).find? (keyOf (S.reg s) n t) = none → ∀ H' ad' dx', At C H' (added S s l ⟨n, t, wd, true⟩) ad' dx' → Step H S ad H' (added S s l ⟨n, t, wd, true⟩) ad' → Q .non H')
theorem scAdd : FnScope ["self", "process", "set_number", "number", "label", "word", "waiting", "source"] ["self", "process", "set_number", "number", "label", "word"] (defScope sAdd) := ⟨rfl, rfl, rfl, by decide +kernel, rfl, by decide +kernel, by decide +kernel⟩
theorem okAdd {D1 fE1 : Addr} {fdE1 : FuncData} {dvs : List V} {kws : List (Str × V)} {f fW fS fL fD fO fR fI fP : Addr} {fd fdW fdS fdL fdD fdO fdR fdI fdP : FuncData} (F : FunD K "add" "System.add" (defArgs sAdd) (defBody sAdd) (defScope sAdd) dvs kws f fd) (T : ClsF K C.S sysF) (TW : ClsF K C.W wsF) (E1 : RegisteredE K mg D1 fE1 fdE1) (GE1 : FnOk P w K mg base CX0 1 fE1 fdE1 ["self", "number"] (spErrInit D1 "number"))
    (GW : MO P w K mg base 5 C.S "set_at" ["self", "process", "set_number"] (spSetAt C) fW fdW) (GS : MO P w K mg base 5 C.S "source_at" ["self", "process", "number"] (spSourceAt C) fS fdS)
    (GL : DO P w K mg base 3 "is_label" ["x"] spIsLabel fL fdL) (GD : DO P w K mg base 1 "is_word" ["x"] spIsWord fD fdD) (GO : MO P w K mg base 1 C.W "label_of" ["self", "number", "source"] (spLabelOf C.W C.R) fO fdO)
    (gR : mg "Registration" = some (.ref C.R)) (MR : Mk K C.R fR) (GR : FnOk P w K mg base CX0 1 fR fdR ["self", "number", "source", "word", "armed"] (spRegInit C.R)) (bR : Binds K fdR ["self", "number", "source", "word", "armed"] [])
    (GI : MO P w K mg base 1 C.S "is_ready" ["self", "source"] (spIsReady C) fI fdI) (GP : MO P w K mg base 2 C.W "put" ["self", "label", "kept", "ready"] (spPut C.W) fP fdP) :
    FnOk P w K mg base (L2.CX P w) 6 f fd ["self", "process", "set_number", "number", "label", "word"] (spAdd C D1) := by
  refine F.ok scAdd (fun vs H Q E h => ?_) (fun cdv A outer s H vs Q E hr h => ?_)
  · obtain ⟨_, _, _, _, _, _, _, _, _, _, rfl, _⟩ := h
    rfl
  · obtain ⟨p, sn, n, l, s, t, wd, S, ad, dx, rfl, A0, Ms, hs, Mt, ht, nz, l0, l1, hwd, hl, sm0, ke1, k⟩ := h
    have hu := hu_of hr
    have hr1 : Room 1 _ := hr.mono (by decide)
    have hr2 : Room 2 _ := hr.mono (by decide)
    have hr3 : Room 3 _ := hr.mono (by decide)
    refine ⟨_, pss_cons (ps_set (i := 6) scAdd.nd rfl (Or.inl rfl) (pe_meth (pv 0) T.cl GW.m GW.g hr GW.b .nil pass0 (pa_cons (pv 1) (pa_cons (pv 2) pa_nil))))
      (pss_cons (ps_set (i := 7) scAdd.nd rfl (Or.inl rfl) (pe_meth (pv 0) T.cl GS.m GS.g hr GS.b .nil pass0 (pa_cons (pv 1) (pa_cons (pv 3) pa_nil))))
      (pss_cons (ps_if (pt_not (pt_val (pe_call GL.g hr3 (by rfl) GL.m GL.k GL.b .nil pass0 (pa_cons (pv 4) pa_nil)))) (pss_one ps_never) pss_nil)
      (pss_cons (ps_if (pt_not (pt_val (pe_call GD.g hr1 (by rfl) GD.m GD.k GD.b .nil pass0 (pa_cons (pv 5) pa_nil)))) (pss_one ps_never) pss_nil)
      (pss_cons (ps_if (pt_cmpR oNotN (pe_meth (pv 6) TW.cl GO.m GO.g hr1 GO.b .nil pass0 (pa_cons (pv 3) (pa_cons (pv 7) pa_nil))) pe_non (nomark _)) (pss_one (ps_raise rfl (takes_of rfl rfl rfl rfl) (pmk_oxb bxRuntime E1.ox E1.iC E1.tI GE1 hr2 E1.bI .nil pass0 (by rfl) E1.gC (pa_cons (pv 3) pa_nil)))) pss_nil)
      (pss_cons (ps_if (pt_cmp (pc_din hu (pv 4) (pe_fld (pv 6) rfl)) rfl) (pss_one ps_never) pss_nil)
      (pss_one (ps_expr (pe_meth (pv 6) TW.cl GP.m GP.g hr2 GP.b .nil pass0 (pa_cons (pv 4) (pa_cons (pe_make MR GR hr2 (by rfl) gR bR .nil pass0 (pa_cons (pv 3) (pa_cons (pv 7) (pa_cons (pv 5) (pa_cons pe_bl pa_nil))))) (pa_cons (pe_meth (pv 0) T.cl GI.m GI.g hr1 GI.b .nil pass0 (pa_cons (pv 7) pa_nil)) pa_nil))))))))))), ?_⟩
    have hb := A0.at_ .box trivial
    walk_at "wn"
    refine ⟨_, rfl, ad .box, dx .box, _, rfl, hb, rfl, ?_⟩
    walk_at "wn"
    refine ⟨p, sn, s, S, ad, dx, rfl, A0, Ms, hs, ?_⟩
    walk_at "wn"
    refine ⟨_, rfl, ad .box, dx .box, _, rfl, hb, rfl, ?_⟩
    walk_at "wn"
    refine ⟨p, n, t, S, ad, dx, rfl, A0, Mt, ht, ?_⟩
    walk_at "wn"
    refine ⟨l, rfl, ?_⟩
    rw [decide_eq_true l0, decide_eq_true (show l ≤ 999999 by omega)]
    refine ⟨_, rfl, ?_⟩
    walk_at "wn"
    refine ⟨_, rfl, wd, rfl, hwd, ?_⟩
    refine ⟨_, rfl, ?_⟩
    walk_at "wn"
    have hw := A0.at_ (.ws s) hs
    refine ⟨_, rfl, ad (.ws s), dx (.ws s), _, rfl, hw, rfl, ?_⟩
    walk_at "wn"
    refine ⟨ad (.ws s), dx (.ws s), ad (.ent s), ad (.que s), n, t, S.ents s, fun j => ad (.reg s j), S.reg s, rfl, hw, A0.at_ (.ent s) hs, fun j hj => ⟨dx (.reg s j), A0.at_ (.reg s j) ⟨hs, hj⟩⟩, fun H1 s1 => ?_⟩
    have A1 := A0.same s1
    have n1 := small_int Mt.lo nz
    cases hfind : (S.ents s).find? (keyOf (S.reg s) n t) with
    | some l' =>
      walk_at "wn"
      rw [decide_eq_false (by intro z; cases z)]
      walk_at "wn"
      show tCons _ _ _ _ _
      walk_at "wn"
      exact out_made n1.1 n1.2 ((ke1 l' hfind).same s1)
    | none =>
      have k := k hfind
      have hw1 := A1.at_ (.ws s) hs
      have he1 := A1.at_ (.ent s) hs
      have hq1 := A1.at_ (.que s) hs
      walk_at "wn"
      refine ⟨_, rfl, _, rfl, ad (.ws s), C.W, dx (.ws s), _, _, rfl, hw1, TW.cl, TW.no _ (by decide), rfl, ?_⟩
      refine ⟨ad (.ent s), _, rfl, DGet.k (k := Sum.inl l) he1, ?_⟩
      rw [ent_val, if_neg hl]
      refine ⟨_, rfl, ?_⟩
      show if false = true then _ else _
      walk_at "wn"
      refine ⟨_, rfl, ad (.ws s), dx (.ws s), _, rfl, hw1, rfl, ?_⟩
      walk_at "wn"
      refine ⟨_, rfl, _, rfl, _, rfl, fun x dx2 hx hdx ndx => ?_⟩
      refine ⟨x, dx2, n, t, wd, true, rfl, upd_same, fun H2 k1 k2 => ⟨rfl, ?_⟩⟩
      have s2 : Same H1 H2 := fun b o e => by
        rw [k1 b (ne_of_none e hx), upd_ne (ne_of_none e hx), upd_ne (ne_of_none e hdx)]
        exact e
      have A2 := A1.same s2
      refine ⟨_, rfl, ad .box, dx .box, _, rfl, A2.at_ .box trivial, rfl, ?_⟩
      walk_at "wn"
      refine ⟨t, S, ad, dx, rfl, A2, ht, ?_⟩
      have he2 := A2.at_ (.ent s) hs
      have hq2 := A2.at_ (.que s) hs
      have z1 := sm0.que s hs
      have z2 := sm0.ents s hs
      refine ⟨ad (.ws s), dx (.ws s), ad (.ent s), ad (.que s), x, l, ready S t, S.que s, _, rfl, A2.at_ (.ws s) hs, hq2, he2, by omega, by unfold entKV; rw [List.length_map]; omega, fun H3 j1 j2 j3 => ?_⟩
      rw [ent_put, if_neg hl, reg_fun] at j1
      have nxe : x ≠ ad (.ent s) := fun z => by rw [z, he1] at hx; cases hx
      have nxq : x ≠ ad (.que s) := fun z => by rw [z, hq1] at hx; cases hx
      have fresh : H x = none := s1.free hx
      refine (fun z : At C _ _ _ _ ∧ Step H S ad _ _ _ => k H3 (setA ad (.reg s l) x) (setA dx (.reg s l) dx2) z.1 z.2) ?_
      refine At.re3 [.ent s, .que s, .reg s l] A0 (fun c lc => ?_) (fun c hc lc => ?_) (fun c hc lc => ?_) (fun c hc lc => ?_) (fun c hc c' hc' lc lc' z e => ?_) (fun b o nb e => ?_) (setA_ne (by intro z; cases z))
      · cases c with
        | reg s' l' =>
          obtain ⟨h1, h2⟩ := lc
          by_cases e : s' = s
          · subst e
            have h2 : l' ∈ (if s' = s' then S.ents s' ++ [l] else S.ents s') := h2
            rw [if_pos rfl] at h2
            rcases List.mem_append.mp h2 with y | y
            · exact .inr ⟨h1, y⟩
            · rw [List.mem_singleton.mp y]
              exact .inl (by simp)
          · have h2 : l' ∈ (if s' = s then S.ents s ++ [l] else S.ents s') := h2
            rw [if_neg e] at h2
            exact .inr ⟨h1, h2⟩
        | _ => exact .inr lc
      · simp only [List.mem_cons, List.not_mem_nil, or_false] at hc
        rcases hc with rfl | rfl | rfl
        · rw [setA_ne (by intro z; cases z), j1]
          show _ = some (HO.dK (entKV (if s = s then S.ents s ++ [l] else S.ents s) _))
          rw [if_pos rfl]
        · rw [setA_ne (by intro z; cases z), j2]
          show _ = some (HO.lst ((if s = s then _ else S.que s).map V.int))
          rw [if_pos rfl]
        · rw [setA_same, j3 x nxe nxq, k2]
          show _ = some (regO C.R (setA dx (.reg s l) dx2 (.reg s l)) (if s = s ∧ l = l then (⟨n, t, wd, true⟩ : Reg) else S.reg s l).num (if s = s ∧ l = l then (⟨n, t, wd, true⟩ : Reg) else S.reg s l).src (if s = s ∧ l = l then (⟨n, t, wd, true⟩ : Reg) else S.reg s l).word (if s = s ∧ l = l then (⟨n, t, wd, true⟩ : Reg) else S.reg s l).armed)
          rw [if_pos ⟨rfl, rfl⟩, setA_same]
      · have n1 : c ≠ .ent s := fun z => hc (by rw [z]; simp)
        have n2 : c ≠ .que s := fun z => hc (by rw [z]; simp)
        have n3 : c ≠ .reg s l := fun z => hc (by rw [z]; simp)
        refine ⟨setA_ne n3, ?_⟩
        cases c with
        | ent s' =>
          have ns : s' ≠ s := fun z => n1 (by rw [z])
          show HO.dK (entKV (if s' = s then S.ents s ++ [l] else S.ents s') fun j => setA ad (.reg s l) x (.reg s' j)) = _
          rw [if_neg ns]
          have ef : (fun j => setA ad (.reg s l) x (.reg s' j)) = fun j => ad (.reg s' j) := funext fun j => setA_ne fun z => ns (by cases z; rfl)
          rw [ef]
          rfl
        | que s' =>
          have ns : s' ≠ s := fun z => n2 (by rw [z])
          show HO.lst ((if s' = s then _ else S.que s').map V.int) = _
          rw [if_neg ns]
          rfl
        | reg s' l' =>
          have nr : ¬ (s' = s ∧ l' = l) := fun z => n3 (by rw [z.1, z.2])
          show regO C.R (setA dx (.reg s l) dx2 (.reg s' l')) (if s' = s ∧ l' = l then (⟨n, t, wd, true⟩ : Reg) else S.reg s' l').num (if s' = s ∧ l' = l then (⟨n, t, wd, true⟩ : Reg) else S.reg s' l').src (if s' = s ∧ l' = l then (⟨n, t, wd, true⟩ : Reg) else S.reg s' l').word (if s' = s ∧ l' = l then (⟨n, t, wd, true⟩ : Reg) else S.reg s' l').armed = _
          rw [if_neg nr, setA_ne n3]
          rfl
        | _ => rfl
      · simp only [List.mem_cons, List.not_mem_nil, or_false] at hc
        rcases hc with rfl | rfl | rfl
        · exact .inl ⟨setA_ne (by intro z; cases z), hs⟩
        · exact .inl ⟨setA_ne (by intro z; cases z), hs⟩
        · exact .inr (by rw [setA_same]; exact fresh)
      · have of : ∀ c, c ∈ ([.ent s, .que s, .reg s l] : List Cell) → H (setA ad (.reg s l) x c) = none → c = .reg s l := fun c hc z => by
          simp only [List.mem_cons, List.not_mem_nil, or_false] at hc
          rcases hc with rfl | rfl | rfl
          · rw [setA_ne (by intro z; cases z), A0.at_ (.ent s) hs] at z
            cases z
          · rw [setA_ne (by intro z; cases z), A0.at_ (.que s) hs] at z
            cases z
          · rfl
        rw [of c hc z, of c' hc' (by rw [← e]; exact z)]
      · rw [j3 b (nb (.ent s) (by simp) hs) (nb (.que s) (by simp) hs)]
        exact s2 _ _ (s1 _ _ e)
end

abbrev sDrop : Stmt := meth 28 5
abbrev sChange : Stmt := meth 32 14
abbrev sRemove : Stmt := meth 32 15
/-! WaitingSet.drop -/
theorem ent_drop (ls : List Int) (ad : Int → Addr) (l : Int) : dropK (entKV ls ad) (Sum.inl l) = entKV (ls.filter fun x => decide (x ≠ l)) ad := by
  unfold dropK entKV
  induction ls with
  | nil => rfl
  | cons x ls ih =>
    rw [List.map_cons, List.filter_cons, List.filter_cons, ih]
    by_cases h : x = l
    · have e1 : decide ((Sum.inl x : Key) ≠ Sum.inl l) = false := decide_eq_false fun z => z (by rw [h])
      have e2 : decide (x ≠ l) = false := decide_eq_false fun z => z h
      rw [e2]
      show (if decide ((Sum.inl x : Key) ≠ Sum.inl l) = true then _ else _) = _
      rw [e1]
      rfl
    · have e1 : decide ((Sum.inl x : Key) ≠ Sum.inl l) = true := decide_eq_true fun z => h (Sum.inl.inj z)
      have e2 : decide (x ≠ l) = true := decide_eq_true h
      rw [e2]
      show (if decide ((Sum.inl x : Key) ≠ Sum.inl l) = true then _ else _) = _
      rw [e1]
      rfl
section
variable {P : Program} {w : World} {K : PySem.W.Frag} {mg : Str → Option Value} {base : Heap} {CR CW : Addr}
def without (l : Int) (ls : List Int) : List Int := ls.filter fun x => decide (x ≠ l)
def spDrop (CW : Addr) : Sp := fun vs H Q _ => ∃ (a dx e q : Addr) (l : Int) (qs ls : List Int) (ad : Int → Addr), vs = [.ref a, .int l] ∧ H a = some (wsO CW dx e q) ∧ H q = some (.lst (qs.map V.int)) ∧ H e = some (.dK (entKV ls ad)) ∧ l ∈ ls ∧ qs.length ≤ 10000 ∧
  ∀ H' q', H q' = none → H' a = some (wsO CW dx e q') → H' q' = some (.lst ((without l qs).map V.int)) → H' e = some (.dK (entKV (without l ls) ad)) → (∀ b o, b ≠ a → b ≠ e → H b = some o → H' b = some o) → Q .non H'
theorem scDrop : FnScope ["self", "label", "pending"] ["self", "label"] (defScope sDrop) := ⟨rfl, rfl, rfl, by decide +kernel, rfl, by decide +kernel, by decide +kernel⟩
theorem okDrop {f : Addr} {fd : FuncData} (F : Fun K "drop" "WaitingSet.drop" sDrop f fd) (T : ClsF K CW wsF) : FnOk P w K mg base CX0 1 f fd ["self", "label"] (spDrop CW) := by
  refine F.ok scDrop (fun vs H Q E h => ?_) (fun cdv A outer s H vs Q E hr h => ?_)
  · obtain ⟨_, _, _, _, _, _, _, _, rfl, _⟩ := h
    rfl
  · obtain ⟨a, dx, e, q, l, qs, ls, ad, rfl, ha, hq, he, hl, hz, k⟩ := h
    have hu := hu_of hr
    refine ⟨_, pss_cons (ps_ddel (pe_fld (pv 0) rfl) (pv 1))
      (pss_one (ps_fld (pv 0) (pe_lc (own := [("pending", 2)]) (g := gName 2) (tt := tTest (tOp rNe (tVar 2) (tVar 1))) (te := tVar 2) rfl scDrop.nd (pi_list (pe_fld (pv 0) rfl)) (blkOk_by (N := ["self", "label", "pending"]) (sc := defScope sDrop) (by decide +kernel)) (fun _ _ _ _ _ => pg_name (i := 2) scDrop.nd rfl (Or.inl rfl)) (fun _ _ _ _ _ => pts_one (pt_cmpR op_ne (pv 2) (pv 1) (nomark _))) (fun _ _ _ _ _ => pv 2)) rfl)), ?_⟩
    have nae : a ≠ e := ne_of ha he (by intro z; cases z)
    have nqe : q ≠ e := ne_of hq he (by intro z; cases z)
    refine ⟨_, rfl, a, CW, dx, _, _, rfl, ha, T.cl, T.no _ (by decide), rfl, ?_⟩
    refine ⟨_, rfl, e, _, Sum.inl l, rfl, he, rfl, by rw [ent_val, if_pos hl]; rfl, ?_⟩
    rw [ent_drop]
    have g1 : ∀ b o, b ≠ e → H b = some o → upd H e (.dK (entKV (ls.filter fun x => decide (x ≠ l)) ad)) b = some o := fun b o n z => by rw [upd_ne n]; exact z
    have e1 : upd H e (.dK (entKV (ls.filter fun x => decide (x ≠ l)) ad)) e = some (.dK (entKV (without l ls) ad)) := upd_same
    generalize upd H e (.dK (entKV (ls.filter fun x => decide (x ≠ l)) ad)) = H1 at g1 e1
    have a1 := g1 _ _ nae ha
    have q1 := g1 _ _ nqe hq
    refine ⟨_, rfl, a, CW, dx, _, _, rfl, a1, T.cl, T.no _ (by decide), rfl, ?_⟩
    refine ⟨q, rfl, ⟨_, SqL.of q1⟩, fun D hD => lc_list (K := K) (a := q) (xs := qs.map V.int) (fun i H' => Same H1 H' ∧ H' D = some (.lst ((without l (qs.take i)).map V.int))) ⟨Same.new' hD, by rw [upd_same]; rfl⟩ (fun i H' _ h => SqL.of (h.1 _ _ q1)) ?_ ?_⟩
    · rintro i v H' hv ⟨sm, hD'⟩
      rw [List.getElem?_map] at hv
      cases el : qs[i]? with
      | none => rw [el] at hv; cases hv
      | some x =>
      rw [el] at hv
      cases hv
      obtain ⟨hi, _⟩ := List.getElem?_eq_some_iff.mp el
      have et : without l (qs.take (i + 1)) = without l (qs.take i) ++ (if x ≠ l then [x] else []) := by
        unfold without
        rw [List.take_add_one, el, List.filter_append]
        by_cases h : x = l
        · rw [if_neg (fun z => z h)]
          simp [h]
        · rw [if_pos h]
          simp [h]
      refine ⟨rfl, ?_⟩
      show tTest _ _ _ _
      walk_at "wn"
      by_cases h : x = l
      · subst h
        rw [et, if_neg (show ¬ (x ≠ x) from fun z => z rfl), List.append_nil]
        walk_at "wn"
        exact ⟨sm, hD'⟩
      · rw [decide_eq_false fun z => h (V.int.inj z), et, if_pos h, List.map_append]
        walk_at "wn"
        refine ⟨_, hD', ?_, fun b o z => ?_, upd_same⟩
        · rw [List.length_map]
          have : (without l (qs.take i)).length ≤ (qs.take i).length := List.length_filter_le _ _
          rw [List.length_take] at this
          rw [sizeLine_eq]
          omega
        · rw [upd_ne (ne_of_none z hD)]
          exact sm _ _ z
    · rintro H' ⟨sm, hD'⟩
      have hD0 : H D = none := by
        cases z : H D with
        | none => rfl
        | some o =>
          by_cases n : D = e
          · rw [n, e1] at hD
            cases hD
          · rw [g1 _ _ n z] at hD
            cases hD
      have eq : without l (qs.take (qs.map V.int).length) = without l qs := by rw [List.length_map, List.take_length]
      rw [eq] at hD'
      refine ⟨_, rfl, a, CW, dx, _, rfl, sm _ _ a1, T.cl, T.no _ (by decide), by show 2 < 1000; decide, ?_⟩
      have naD : a ≠ D := ne_of_none a1 hD
      have neD : e ≠ D := ne_of_none e1 hD
      refine k _ D hD0 upd_same ((upd_ne (Ne.symm naD)).trans hD') ((upd_ne (Ne.symm nae)).trans (sm _ _ e1)) fun b o n1 n2 z => ?_
      rw [upd_ne n1]
      exact sm _ _ (g1 _ _ n2 z)
end
/-! System.change, System.remove -/
def changed (S : Sys) (s l : Int) (r : Reg) : Sys := { S with
  reg := fun j i => if j = s ∧ i = l then r else S.reg j i
  que := fun j => if j = s then (if ready S r.src = true then qAdd l (S.que s) else S.que s) else S.que j }
def dropped (S : Sys) (s l : Int) : Sys := { S with
  ents := fun j => if j = s then without l (S.ents s) else S.ents j
  que := fun j => if j = s then without l (S.que s) else S.que j }
section
variable {P : Program} {w : World} {K : PySem.W.Frag} {mg : Str → Option Value} {base : Heap} {C : Cs}
def spChange (C : Cs) (D1 : Addr) : Sp := fun vs H Q E => ∃ (p sn n s t : Int) (wd : Str), OnSys C vs H [.int p, .int sn, .int n, .str wd] fun S ad dx => Means S p sn s ∧ s ∈ S.sets ∧ Means S p n t ∧ t ∈ S.srcs ∧ wd ∈ wordsL ∧ n ≤ 1000 ∧ Small S ∧ ((S.ents s).find? (keyOf (S.reg s) n t) = none → Out D1 "number" n H E) ∧
  ∀ l, (S.ents s).find? (keyOf (S.reg s) n t) = some l → ∀ H' ad' dx', At C H' (changed S s l ⟨n, t, wd, true⟩) ad' dx' → Step H S ad H' (changed S s l ⟨n, t, wd, true⟩) ad' → Q .non H'
theorem scChange : FnScope ["self", "process", "set_number", "number", "word", "waiting", "source", "label"] ["self", "process", "set_number", "number", "word"] (defScope sChange) := ⟨rfl, rfl, rfl, by decide +kernel, rfl, by decide +kernel, by decide +kernel⟩
theorem okChange {D1 fE1 : Addr} {fdE1 : FuncData} {f fW fS fD fO fR fI fP : Addr} {fd fdW fdS fdD fdO fdR fdI fdP : FuncData} (F : Fun K "change" "System.change" sChange f fd) (T : ClsF K C.S sysF) (TW : ClsF K C.W wsF) (E1 : NotRegisteredE K mg D1 fE1 fdE1) (GE1 : FnOk P w K mg base CX0 1 fE1 fdE1 ["self", "number"] (spErrInit D1 "number"))
    (GW : MO P w K mg base 5 C.S "set_at" ["self", "process", "set_number"] (spSetAt C) fW fdW) (GS : MO P w K mg base 5 C.S "source_at" ["self", "process", "number"] (spSourceAt C) fS fdS)
    (GD : DO P w K mg base 1 "is_word" ["x"] spIsWord fD fdD) (GO : MO P w K mg base 1 C.W "label_of" ["self", "number", "source"] (spLabelOf C.W C.R) fO fdO)
    (gR : mg "Registration" = some (.ref C.R)) (MR : Mk K C.R fR) (GR : FnOk P w K mg base CX0 1 fR fdR ["self", "number", "source", "word", "armed"] (spRegInit C.R)) (bR : Binds K fdR ["self", "number", "source", "word", "armed"] [])
    (GI : MO P w K mg base 1 C.S "is_ready" ["self", "source"] (spIsReady C) fI fdI) (GP : MO P w K mg base 2 C.W "put" ["self", "label", "kept", "ready"] (spPut C.W) fP fdP) :
    FnOk P w K mg base (L2.CX P w) 6 f fd ["self", "process", "set_number", "number", "word"] (spChange C D1) := by
  refine F.okX scChange (fun vs H Q E h => ?_) (fun cdv A outer s H vs Q E hr h => ?_)
  · obtain ⟨_, _, _, _, _, _, _, _, _, rfl, _⟩ := h
    rfl
  · obtain ⟨p, sn, n, s, t, wd, S, ad, dx, rfl, A0, Ms, hs, Mt, ht, hwd, nz, sm0, ke, k⟩ := h
    have hu := hu_of hr
    have hr1 : Room 1 _ := hr.mono (by decide)
    have hr2 : Room 2 _ := hr.mono (by decide)
    refine ⟨_, pss_cons (ps_set (i := 5) scChange.nd rfl (Or.inl rfl) (pe_meth (pv 0) T.cl GW.m GW.g hr GW.b .nil pass0 (pa_cons (pv 1) (pa_cons (pv 2) pa_nil))))
      (pss_cons (ps_set (i := 6) scChange.nd rfl (Or.inl rfl) (pe_meth (pv 0) T.cl GS.m GS.g hr GS.b .nil pass0 (pa_cons (pv 1) (pa_cons (pv 3) pa_nil))))
      (pss_cons (ps_if (pt_not (pt_val (pe_call GD.g hr1 (by rfl) GD.m GD.k GD.b .nil pass0 (pa_cons (pv 4) pa_nil)))) (pss_one ps_never) pss_nil)
      (pss_cons (ps_set (i := 7) scChange.nd rfl (Or.inl rfl) (pe_meth (pv 5) TW.cl GO.m GO.g hr1 GO.b .nil pass0 (pa_cons (pv 3) (pa_cons (pv 6) pa_nil))))
      (pss_cons (ps_if (pt_cmpR oIsN (pv 7) pe_non (nomark _)) (pss_one (ps_raise rfl (takes_of rfl rfl rfl rfl) (pmk_oxb bxLookup E1.ox E1.iC E1.tI GE1 hr2 E1.bI .nil pass0 (by rfl) E1.gC (pa_cons (pv 3) pa_nil)))) pss_nil)
      (pss_one (ps_expr (pe_meth (pv 5) TW.cl GP.m GP.g hr2 GP.b .nil pass0 (pa_cons (pv 7) (pa_cons (pe_make MR GR hr2 (by rfl) gR bR .nil pass0 (pa_cons (pv 3) (pa_cons (pv 6) (pa_cons (pv 4) (pa_cons pe_bl pa_nil))))) (pa_cons (pe_meth (pv 0) T.cl GI.m GI.g hr1 GI.b .nil pass0 (pa_cons (pv 6) pa_nil)) pa_nil)))))))))), ?_⟩
    have hb := A0.at_ .box trivial
    walk_at "wn"
    refine ⟨_, rfl, ad .box, dx .box, _, rfl, hb, rfl, ?_⟩
    walk_at "wn"
    refine ⟨p, sn, s, S, ad, dx, rfl, A0, Ms, hs, ?_⟩
    walk_at "wn"
    refine ⟨_, rfl, ad .box, dx .box, _, rfl, hb, rfl, ?_⟩
    walk_at "wn"
    refine ⟨p, n, t, S, ad, dx, rfl, A0, Mt, ht, ?_⟩
    walk_at "wn"
    refine ⟨wd, rfl, hwd, ?_⟩
    refine ⟨_, rfl, ?_⟩
    walk_at "wn"
    have hw := A0.at_ (.ws s) hs
    refine ⟨_, rfl, ad (.ws s), dx (.ws s), _, rfl, hw, rfl, ?_⟩
    walk_at "wn"
    refine ⟨ad (.ws s), dx (.ws s), ad (.ent s), ad (.que s), n, t, S.ents s, fun j => ad (.reg s j), S.reg s, rfl, hw, A0.at_ (.ent s) hs, fun j hj => ⟨dx (.reg s j), A0.at_ (.reg s j) ⟨hs, hj⟩⟩, fun H1 s1 => ?_⟩
    have n1 := small_int Mt.lo nz
    have A1 := A0.same s1
    cases hfind : (S.ents s).find? (keyOf (S.reg s) n t) with
    | none =>
      walk_at "wn"
      show tCons _ _ _ _ _
      walk_at "wn"
      exact out_made n1.1 n1.2 ((ke hfind).same s1)
    | some l =>
      have hl : l ∈ S.ents s := List.mem_of_find?_eq_some hfind
      have k := k l hfind
      have hw1 := A1.at_ (.ws s) hs
      have he1 := A1.at_ (.ent s) hs
      have hq1 := A1.at_ (.que s) hs
      walk_at "wn"
      rw [decide_eq_false (by intro z; cases z)]
      walk_at "wn"
      refine ⟨_, rfl, ad (.ws s), dx (.ws s), _, rfl, hw1, rfl, ?_⟩
      walk_at "wn"
      refine ⟨_, rfl, _, rfl, _, rfl, fun x dx2 hx hdx ndx => ?_⟩
      refine ⟨x, dx2, n, t, wd, true, rfl, upd_same, fun H2 k1 k2 => ⟨rfl, ?_⟩⟩
      have s2 : Same H1 H2 := fun b o e => by
        rw [k1 b (ne_of_none e hx), upd_ne (ne_of_none e hx), upd_ne (ne_of_none e hdx)]
        exact e
      have A2 := A1.same s2
      refine ⟨_, rfl, ad .box, dx .box, _, rfl, A2.at_ .box trivial, rfl, ?_⟩
      walk_at "wn"
      refine ⟨t, S, ad, dx, rfl, A2, ht, ?_⟩
      have he2 := A2.at_ (.ent s) hs
      have hq2 := A2.at_ (.que s) hs
      have z1 := sm0.que s hs
      have z2 := sm0.ents s hs
      refine ⟨ad (.ws s), dx (.ws s), ad (.ent s), ad (.que s), x, l, ready S t, S.que s, _, rfl, A2.at_ (.ws s) hs, hq2, he2, by omega, by unfold entKV; rw [List.length_map]; omega, fun H3 j1 j2 j3 => ?_⟩
      rw [ent_put, if_pos hl, reg_fun] at j1
      have nxe : x ≠ ad (.ent s) := fun z => by rw [z, he1] at hx; cases hx
      have nxq : x ≠ ad (.que s) := fun z => by rw [z, hq1] at hx; cases hx
      have fresh : H x = none := s1.free hx
      refine (fun z : At C _ _ _ _ ∧ Step H S ad _ _ _ => k H3 (setA ad (.reg s l) x) (setA dx (.reg s l) dx2) z.1 z.2) ?_
      refine At.re3 [.ent s, .que s, .reg s l] A0 (fun c lc => .inr ?_) (fun c hc lc => ?_) (fun c hc lc => ?_) (fun c hc lc => ?_) (fun c hc c' hc' lc lc' z e => ?_) (fun b o nb e => ?_) (setA_ne (by intro z; cases z))
      · cases c <;> exact lc
      · simp only [List.mem_cons, List.not_mem_nil, or_false] at hc
        rcases hc with rfl | rfl | rfl
        · rw [setA_ne (by intro z; cases z), j1]
          rfl
        · rw [setA_ne (by intro z; cases z), j2]
          show _ = some (HO.lst ((if s = s then _ else S.que s).map V.int))
          rw [if_pos rfl]
        · rw [setA_same, j3 x nxe nxq, k2]
          show _ = some (regO C.R (setA dx (.reg s l) dx2 (.reg s l)) (if s = s ∧ l = l then (⟨n, t, wd, true⟩ : Reg) else S.reg s l).num (if s = s ∧ l = l then (⟨n, t, wd, true⟩ : Reg) else S.reg s l).src (if s = s ∧ l = l then (⟨n, t, wd, true⟩ : Reg) else S.reg s l).word (if s = s ∧ l = l then (⟨n, t, wd, true⟩ : Reg) else S.reg s l).armed)
          rw [if_pos ⟨rfl, rfl⟩, setA_same]
      · have n1 : c ≠ .ent s := fun z => hc (by rw [z]; simp)
        have n2 : c ≠ .que s := fun z => hc (by rw [z]; simp)
        have n3 : c ≠ .reg s l := fun z => hc (by rw [z]; simp)
        refine ⟨setA_ne n3, ?_⟩
        cases c with
        | ent s' =>
          have ns : s' ≠ s := fun z => n1 (by rw [z])
          have ef : (fun j => setA ad (.reg s l) x (.reg s' j)) = fun j => ad (.reg s' j) := funext fun j => setA_ne fun z => ns (by cases z; rfl)
          show HO.dK (entKV (S.ents s') fun j => setA ad (.reg s l) x (.reg s' j)) = _
          rw [ef]
          rfl
        | que s' =>
          have ns : s' ≠ s := fun z => n2 (by rw [z])
          show HO.lst ((if s' = s then _ else S.que s').map V.int) = _
          rw [if_neg ns]
          rfl
        | reg s' l' =>
          have nr : ¬ (s' = s ∧ l' = l) := fun z => n3 (by rw [z.1, z.2])
          show regO C.R (setA dx (.reg s l) dx2 (.reg s' l')) (if s' = s ∧ l' = l then (⟨n, t, wd, true⟩ : Reg) else S.reg s' l').num (if s' = s ∧ l' = l then (⟨n, t, wd, true⟩ : Reg) else S.reg s' l').src (if s' = s ∧ l' = l then (⟨n, t, wd, true⟩ : Reg) else S.reg s' l').word (if s' = s ∧ l' = l then (⟨n, t, wd, true⟩ : Reg) else S.reg s' l').armed = _
          rw [if_neg nr, setA_ne n3]
          rfl
        | _ => rfl
      · simp only [List.mem_cons, List.not_mem_nil, or_false] at hc
        rcases hc with rfl | rfl | rfl
        · exact .inl ⟨setA_ne (by intro z; cases z), hs⟩
        · exact .inl ⟨setA_ne (by intro z; cases z), hs⟩
        · exact .inr (by rw [setA_same]; exact fresh)
      · have of : ∀ c, c ∈ ([.ent s, .que s, .reg s l] : List Cell) → H (setA ad (.reg s l) x c) = none → c = .reg s l := fun c hc z => by
          simp only [List.mem_cons, List.not_mem_nil, or_false] at hc
          rcases hc with rfl | rfl | rfl
          · rw [setA_ne (by intro z; cases z), A0.at_ (.ent s) hs] at z
            cases z
          · rw [setA_ne (by intro z; cases z), A0.at_ (.que s) hs] at z
            cases z
          · rfl
        rw [of c hc z, of c' hc' (by rw [← e]; exact z)]
      · rw [j3 b (nb (.ent s) (by simp) hs) (nb (.que s) (by simp) hs)]
        exact s2 _ _ (s1 _ _ e)
def spRemove (C : Cs) (D1 : Addr) : Sp := fun vs H Q E => ∃ (p sn n s t : Int), OnSys C vs H [.int p, .int sn, .int n] fun S ad dx => Means S p sn s ∧ s ∈ S.sets ∧ Means S p n t ∧ t ∈ S.srcs ∧ n ≤ 1000 ∧ Small S ∧ ((S.ents s).find? (keyOf (S.reg s) n t) = none → Out D1 "number" n H E) ∧
  ∀ l, (S.ents s).find? (keyOf (S.reg s) n t) = some l → ∀ H' ad' dx', At C H' (dropped S s l) ad' dx' → Step H S ad H' (dropped S s l) ad' → Q .non H'
theorem scRemove : FnScope ["self", "process", "set_number", "number", "waiting", "source", "label"] ["self", "process", "set_number", "number"] (defScope sRemove) := ⟨rfl, rfl, rfl, by decide +kernel, rfl, by decide +kernel, by decide +kernel⟩
theorem okRemove {D1 fE1 : Addr} {fdE1 : FuncData} {f fW fS fO fP : Addr} {fd fdW fdS fdO fdP : FuncData} (F : Fun K "remove" "System.remove" sRemove f fd) (T : ClsF K C.S sysF) (TW : ClsF K C.W wsF) (E1 : NotRegisteredE K mg D1 fE1 fdE1) (GE1 : FnOk P w K mg base CX0 1 fE1 fdE1 ["self", "number"] (spErrInit D1 "number"))
    (GW : MO P w K mg base 5 C.S "set_at" ["self", "process", "set_number"] (spSetAt C) fW fdW) (GS : MO P w K mg base 5 C.S "source_at" ["self", "process", "number"] (spSourceAt C) fS fdS)
    (GO : MO P w K mg base 1 C.W "label_of" ["self", "number", "source"] (spLabelOf C.W C.R) fO fdO) (GP : MO P w K mg base 1 C.W "drop" ["self", "label"] (spDrop C.W) fP fdP) :
    FnOk P w K mg base (L2.CX P w) 6 f fd ["self", "process", "set_number", "number"] (spRemove C D1) := by
  refine F.okX scRemove (fun vs H Q E h => ?_) (fun cdv A outer s H vs Q E hr h => ?_)
  · obtain ⟨_, _, _, _, _, _, _, _, rfl, _⟩ := h
    rfl
  · obtain ⟨p, sn, n, s, t, S, ad, dx, rfl, A0, Ms, hs, Mt, ht, nz, sm0, ke, k⟩ := h
    have hr1 : Room 1 _ := hr.mono (by decide)
    refine ⟨_, pss_cons (ps_set (i := 4) scRemove.nd rfl (Or.inl rfl) (pe_meth (pv 0) T.cl GW.m GW.g hr GW.b .nil pass0 (pa_cons (pv 1) (pa_cons (pv 2) pa_nil))))
      (pss_cons (ps_set (i := 5) scRemove.nd rfl (Or.inl rfl) (pe_meth (pv 0) T.cl GS.m GS.g hr GS.b .nil pass0 (pa_cons (pv 1) (pa_cons (pv 3) pa_nil))))
      (pss_cons (ps_set (i := 6) scRemove.nd rfl (Or.inl rfl) (pe_meth (pv 4) TW.cl GO.m GO.g hr1 GO.b .nil pass0 (pa_cons (pv 3) (pa_cons (pv 5) pa_nil))))
      (pss_cons (ps_if (pt_cmpR oIsN (pv 6) pe_non (nomark _)) (pss_one (ps_raise rfl (takes_of rfl rfl rfl rfl) (pmk_oxb bxLookup E1.ox E1.iC E1.tI GE1 (hr.mono (by decide)) E1.bI .nil pass0 (by rfl) E1.gC (pa_cons (pv 3) pa_nil)))) pss_nil)
      (pss_one (ps_expr (pe_meth (pv 4) TW.cl GP.m GP.g hr1 GP.b .nil pass0 (pa_cons (pv 6) pa_nil))))))), ?_⟩
    have hb := A0.at_ .box trivial
    walk_at "wn"
    refine ⟨_, rfl, ad .box, dx .box, _, rfl, hb, rfl, ?_⟩
    walk_at "wn"
    refine ⟨p, sn, s, S, ad, dx, rfl, A0, Ms, hs, ?_⟩
    walk_at "wn"
    refine ⟨_, rfl, ad .box, dx .box, _, rfl, hb, rfl, ?_⟩
    walk_at "wn"
    refine ⟨p, n, t, S, ad, dx, rfl, A0, Mt, ht, ?_⟩
    walk_at "wn"
    have hw := A0.at_ (.ws s) hs
    refine ⟨_, rfl, ad (.ws s), dx (.ws s), _, rfl, hw, rfl, ?_⟩
    walk_at "wn"
    refine ⟨ad (.ws s), dx (.ws s), ad (.ent s), ad (.que s), n, t, S.ents s, fun j => ad (.reg s j), S.reg s, rfl, hw, A0.at_ (.ent s) hs, fun j hj => ⟨dx (.reg s j), A0.at_ (.reg s j) ⟨hs, hj⟩⟩, fun H1 s1 => ?_⟩
    have n1 := small_int Mt.lo nz
    have A1 := A0.same s1
    cases hfind : (S.ents s).find? (keyOf (S.reg s) n t) with
    | none =>
      walk_at "wn"
      show tCons _ _ _ _ _
      walk_at "wn"
      exact out_made n1.1 n1.2 ((ke hfind).same s1)
    | some l =>
      have hl : l ∈ S.ents s := List.mem_of_find?_eq_some hfind
      have k := k l hfind
      have hw1 := A1.at_ (.ws s) hs
      have he1 := A1.at_ (.ent s) hs
      have hq1 := A1.at_ (.que s) hs
      walk_at "wn"
      rw [decide_eq_false (by intro z; cases z)]
      walk_at "wn"
      refine ⟨_, rfl, ad (.ws s), dx (.ws s), _, rfl, hw1, rfl, ?_⟩
      walk_at "wn"
      have z1 := sm0.que s hs
      refine ⟨ad (.ws s), dx (.ws s), ad (.ent s), ad (.que s), l, S.que s, S.ents s, fun j => ad (.reg s j), rfl, hw1, hq1, he1, hl, by omega, fun H2 q' j0 j1 j2 j3 j4 => ?_⟩
      have fresh : H q' = none := s1.free j0
      refine (fun z : At C _ _ _ _ ∧ Step H S ad _ _ _ => k H2 (setA ad (.que s) q') dx z.1 z.2) ?_
      refine At.re3 [.ws s, .ent s, .que s] A0 (fun c lc => .inr ?_) (fun c hc lc => ?_) (fun c hc lc => ?_) (fun c hc lc => ?_) (fun c hc c' hc' lc lc' z e => ?_) (fun b o nb e => ?_) (setA_ne (by intro z; cases z))
      · cases c with
        | reg s' l' =>
          obtain ⟨h1, h2⟩ := lc
          have h2 : l' ∈ (if s' = s then without l (S.ents s) else S.ents s') := h2
          by_cases e : s' = s
          · subst e
            rw [if_pos rfl] at h2
            exact ⟨h1, (List.mem_filter.mp h2).1⟩
          · rw [if_neg e] at h2
            exact ⟨h1, h2⟩
        | _ => exact lc
      · simp only [List.mem_cons, List.not_mem_nil, or_false] at hc
        rcases hc with rfl | rfl | rfl
        · rw [setA_ne (by intro z; cases z), j1]
          show _ = some (wsO C.W (dx (.ws s)) (setA ad (.que s) q' (.ent s)) (setA ad (.que s) q' (.que s)))
          rw [setA_ne (by intro z; cases z), setA_same]
        · rw [setA_ne (by intro z; cases z), j3]
          show _ = some (HO.dK (entKV (if s = s then without l (S.ents s) else S.ents s) fun j => setA ad (.que s) q' (.reg s j)))
          rw [if_pos rfl]
          have ef : (fun j => setA ad (.que s) q' (.reg s j)) = fun j => ad (.reg s j) := funext fun j => setA_ne (by intro z; cases z)
          rw [ef]
        · rw [setA_same, j2]
          show _ = some (HO.lst ((if s = s then without l (S.que s) else S.que s).map V.int))
          rw [if_pos rfl]
      · have n1 : c ≠ .ws s := fun z => hc (by rw [z]; simp)
        have n2 : c ≠ .ent s := fun z => hc (by rw [z]; simp)
        have n3 : c ≠ .que s := fun z => hc (by rw [z]; simp)
        refine ⟨setA_ne n3, ?_⟩
        cases c with
        | ws s' =>
          have ns : s' ≠ s := fun z => n1 (by rw [z])
          show wsO C.W (dx (.ws s')) (setA ad (.que s) q' (.ent s')) (setA ad (.que s) q' (.que s')) = _
          rw [setA_ne (by intro z; cases z), setA_ne (fun z => ns (by cases z; rfl))]
          rfl
        | ent s' =>
          have ns : s' ≠ s := fun z => n2 (by rw [z])
          have ef : (fun j => setA ad (.que s) q' (.reg s' j)) = fun j => ad (.reg s' j) := funext fun j => setA_ne (by intro z; cases z)
          show HO.dK (entKV (if s' = s then without l (S.ents s) else S.ents s') fun j => setA ad (.que s) q' (.reg s' j)) = _
          rw [if_neg ns, ef]
          rfl
        | que s' =>
          have ns : s' ≠ s := fun z => n3 (by rw [z])
          show HO.lst ((if s' = s then _ else S.que s').map V.int) = _
          rw [if_neg ns]
          rfl
        | _ => rfl
      · simp only [List.mem_cons, List.not_mem_nil, or_false] at hc
        rcases hc with rfl | rfl | rfl
        · exact .inl ⟨setA_ne (by intro z; cases z), hs⟩
        · exact .inl ⟨setA_ne (by intro z; cases z), hs⟩
        · exact .inr (by rw [setA_same]; exact fresh)
      · have of : ∀ c, c ∈ ([.ws s, .ent s, .que s] : List Cell) → H (setA ad (.que s) q' c) = none → c = .que s := fun c hc z => by
          simp only [List.mem_cons, List.not_mem_nil, or_false] at hc
          rcases hc with rfl | rfl | rfl
          · rw [setA_ne (by intro z; cases z), hw] at z
            cases z
          · rw [setA_ne (by intro z; cases z), A0.at_ (.ent s) hs] at z
            cases z
          · rfl
        rw [of c hc z, of c' hc' (by rw [← e]; exact z)]
      · exact j4 b o (nb (.ws s) (by simp) hs) (nb (.ent s) (by simp) hs) (s1 _ _ e)
end

abbrev sCopy : Stmt := meth 32 6
abbrev sClose : Stmt := meth 32 7
abbrev sFork : Stmt := meth 32 8
abbrev sFree : Stmt := meth 32 40
abbrev sFreeProc : Stmt := meth 32 38
theorem mem_without {l x : Int} {ls : List Int} : x ∈ without l ls ↔ x ∈ ls ∧ x ≠ l := by
  unfold without
  rw [List.mem_filter]
  simp
theorem inV_opt (t : Int) : ∀ l : List (Option Int), inV (.int t) (l.map optV) = decide (some t ∈ l)
  | [] => rfl
  | x :: l => by
    have ih := inV_opt t l
    unfold inV at ih ⊢
    rw [List.map_cons, List.any_cons, ih]
    have e : eqV (optV x) (V.int t) = decide (x = some t) := by
      cases x with
      | none => rfl
      | some y =>
        show decide (y = t) = _
        by_cases h : y = t
        · rw [decide_eq_true h, decide_eq_true (by rw [h])]
        · rw [decide_eq_false h, decide_eq_false (fun z => h (by cases z; rfl))]
    rw [e]
    by_cases h : x = some t
    · rw [decide_eq_true h, Bool.true_or]
      exact (decide_eq_true (by rw [h]; exact List.mem_cons_self)).symm
    · rw [decide_eq_false h, Bool.false_or]
      by_cases h2 : some t ∈ l
      · rw [decide_eq_true h2]
        exact (decide_eq_true (List.mem_cons_of_mem _ h2)).symm
      · rw [decide_eq_false h2]
        exact (decide_eq_false fun z => (List.mem_cons.mp z).elim (fun e => h e.symm) h2).symm
theorem flat_opts (l : List (Option Int)) : (l.map optV).all flatV = true := by
  rw [List.all_map, List.all_eq_true]
  intro x _
  cases x <;> rfl

def cleared (S : Sys) (p n : Int) : Sys := { S with tab := fun q => if q = p then (S.tab p).set n.toNat none else S.tab q }
section
variable {P : Program} {w : World} {K : PySem.W.Frag} {mg : Str → Option Value} {base : Heap} {C : Cs}
/-! free, of a number whose thing has another one -/
def spFree (C : Cs) : Sp := fun vs H Q _ => ∃ p n t : Int, OnSys C vs H [.int p, .int n] fun S ad dx => Means S p n t ∧ S.procs.length ≤ 1000 ∧ (∃ q ∈ S.procs, some t ∈ (cleared S p n).tab q) ∧ ∀ H', At C H' (cleared S p n) ad dx → Step H S ad H' (cleared S p n) ad → Q .non H'
abbrev nFree : List Str := ["self", "process", "number", "thing", "table"]
theorem scFree : FnScope nFree ["self", "process", "number"] (defScope sFree) := ⟨rfl, rfl, rfl, by decide +kernel, rfl, by decide +kernel, by decide +kernel⟩
theorem okFree {f : Addr} {fd : FuncData} (F : Fun K "free" "System.free" sFree f fd) (any : mg "any" = none) (T : ClsF K C.S sysF) :
    FnOk P w K mg base CX0 3 f fd ["self", "process", "number"] (spFree C) := by
  refine F.ok scFree (fun vs H Q E h => ?_) (fun cdv A outer s H vs Q E hr h => ?_)
  · obtain ⟨_, _, _, _, _, _, rfl, _⟩ := h
    rfl
  · obtain ⟨p, n, t, S, ad, dx, rfl, A0, M, hz, he, k⟩ := h
    have hu := hu_of hr
    refine ⟨_, pss_cons (ps_set (i := 3) scFree.nd rfl (Or.inr rfl) (pe_ix ix_list (pe_dget hu (pe_fld (pv 0) rfl) (pv 1) (fun _ _ => rfl)) (pv 2) (fun _ _ => rfl)))
      (pss_cons (ps_asg pe_non (pg_sub (pe_dget hu (pe_fld (pv 0) rfl) (pv 1) (fun _ _ => rfl)) (pv 2) set_list))
      (pss_one (ps_if (pt_not (pt_val (pe_callB (cr_any rfl) (by rfl) any (by decide +kernel) (pa_cons (pe_lock (pe_lc (own := [("table", 4)]) (g := gName 4) (tt := tYes) (te := tOp (rIn K false) (tVar 3) (tVar 4)) rfl scFree.nd (pi_values (pe_fld (pv 0) rfl)) (blkOk_by (N := nFree) (sc := defScope sFree) (by decide +kernel)) (fun _ _ _ _ _ => pg_name (i := 4) scFree.nd rfl (Or.inl rfl)) (fun _ _ _ _ _ => pts_nil) (fun _ _ _ _ _ => pe_cmpR op_in_seq (pv 3) (pv 4) (by rfl)))) pa_nil))))
        (pss_one ps_never) pss_nil))), ?_⟩
    have hb := A0.at_ .box trivial
    have ht := A0.at_ (.tab p) M.pr
    have hT : H (ad .tabD) = some (.dK (entKV S.procs fun p => ad (.tab p))) := A0.at_ .tabD trivial
    obtain ⟨m, rfl⟩ := Int.eq_ofNat_of_zero_le M.lo
    have hm : (S.tab p)[m]? = some (some t) := M.at_
    have hml : m < (S.tab p).length := (List.getElem?_eq_some_iff.mp hm).1
    have hat : atI ((S.tab p).map optV) (m : Int) = some (V.int t) := atI_nat (by rw [List.getElem?_map, hm]; rfl)
    have hv : valV (entKV S.procs fun p => ad (.tab p)) (Sum.inl p) = some (.ref (ad (.tab p))) := by rw [ent_val, if_pos M.pr]
    refine ⟨_, rfl, ad .box, C.S, dx .box, _, _, rfl, hb, T.cl, T.no _ (by decide), rfl, ?_⟩
    refine ⟨_, rfl, ad .tabD, _, rfl, hv ▸ DGet.k (k := Sum.inl p) hT, ?_⟩
    refine ⟨_, rfl, ad (.tab p), _, _, _, rfl, rfl, SqL.of ht, hat, ?_⟩
    walk_at "wn"
    refine ⟨_, rfl, ad .box, C.S, dx .box, _, _, rfl, hb, T.cl, T.no _ (by decide), rfl, ?_⟩
    refine ⟨_, rfl, ad .tabD, _, rfl, hv ▸ DGet.k (k := Sum.inl p) hT, ?_⟩
    refine ⟨_, rfl, ad (.tab p), _, _, m, rfl, rfl, ht, by rw [List.length_map]; exact ixN_nat hml, ?_⟩
    have ntT : ad (.tab p) ≠ ad .tabD := A0.ne (c := .tab p) (c' := .tabD) M.pr trivial (by intro z; cases z)
    have nbT : ad .box ≠ ad .tabD := A0.ne (c := .box) (c' := .tabD) trivial trivial (by intro z; cases z)
    obtain ⟨A1, st1⟩ : At C (upd H (ad (.tab p)) (.lst (((S.tab p).map optV).set m V.non))) (cleared S p m) ad dx ∧ Step H S ad (upd H (ad (.tab p)) (.lst (((S.tab p).map optV).set m V.non))) (cleared S p m) ad := by
      refine At.re2 [.tab p] A0 (fun c l => by cases c <;> exact l) (fun c hc => ?_) (fun c hc => ?_) (fun c hc l => ?_) (fun b o n e => ?_)
      · rw [List.mem_singleton.mp hc]
        exact M.pr
      · rw [List.mem_singleton.mp hc, upd_same]
        show _ = some (HO.lst ((if p = p then (S.tab p).set (m : Int).toNat none else S.tab p).map optV))
        rw [if_pos rfl, List.map_set, Int.toNat_natCast]
        rfl
      · cases c with
        | tab q =>
          have nq : q ≠ p := fun z => hc (by rw [z]; simp)
          show HO.lst ((if q = p then (S.tab p).set (m : Int).toNat none else S.tab q).map optV) = _
          rw [if_neg nq]
          rfl
        | _ => rfl
      · rw [upd_ne (n (.tab p) (by simp))]
        exact e
    have kk : ∀ H', Same (upd H (ad (.tab p)) (.lst (((S.tab p).map optV).set m V.non))) H' → Q .non H' := fun H' h => k H' (A1.same h) (st1.trans (Step.same h))
    generalize upd H (ad (.tab p)) (.lst (((S.tab p).map optV).set m V.non)) = H1 at A1 st1 kk
    have hb1 := A1.at_ .box trivial
    have hT1 : H1 (ad .tabD) = some (.dK (entKV S.procs fun p => ad (.tab p))) := A1.at_ .tabD trivial
    show tIfS (tNot (tB (tCB _ (tCons (tLockE _) tNil)))) _ _ _ _ H1
    refine g_ifs (g_not (g_tB (g_cb (g_cons ?_))))
    refine ⟨ad .tabD, _, hT1, trivial, fun od => ?_⟩
    refine ⟨_, rfl, ad .box, C.S, dx .box, _, _, rfl, by rw [upd_ne nbT]; exact hb1, T.cl, T.no _ (by decide), rfl, ?_⟩
    refine ⟨ad .tabD, od, _, rfl, upd_same, fun D hD => ?_⟩
    have nDT : D ≠ ad .tabD := fun z => by rw [z, upd_same] at hD; cases hD
    have hD0 : H1 D = none := by rw [upd_ne nDT] at hD; exact hD
    refine lc_it walk_values (fun i H' => Same (upd H1 (ad .tabD) (.frz od (.dK (entKV S.procs fun p => ad (.tab p))))) H' ∧ H' D = some (.lst (((S.procs.take i).map fun q => decide (some t ∈ (cleared S p m).tab q)).map V.bl))) ⟨Same.new' hD, upd_same⟩ (fun i H' _ h => h.1 _ _ upd_same) ?_ (fun H' h => ?_)
    · rintro i x H2 H3 hi ⟨sm, hd⟩ ⟨rfl, kx, ex⟩
      have hi' : i < S.procs.length := by unfold entKV at hi; rwa [List.length_map] at hi
      have e2 : S.procs[i]? = some S.procs[i] := List.getElem?_eq_getElem hi'
      have hs : S.procs[i] ∈ S.procs := List.getElem_mem hi'
      have et : S.procs.take (i + 1) = S.procs.take i ++ [S.procs[i]] := by rw [List.take_add_one, e2]; rfl
      unfold entKV at ex
      rw [List.getElem?_map, e2] at ex
      cases ex
      rw [et]
      generalize S.procs[i] = q at e2 hs
      have f1 : H3 (ad (.tab q)) = some (.lst (((cleared S p m).tab q).map optV)) := sm _ _ ((upd_ne (A1.ne (c := .tab q) (c' := .tabD) hs trivial (by intro z; cases z))).trans (A1.at_ (.tab q) hs))
      refine ⟨rfl, ?_⟩
      show tYes _ _ _
      refine g_yes ?_
      show if true = true then _ else _
      refine iteT ?_
      refine ⟨_, rfl, _, rfl, ad (.tab q), _, rfl, .inl (SqL.of f1), rfl, flat_opts _, ?_⟩
      refine ⟨_, hd, by rw [List.length_map, List.length_map, List.length_take, sizeLine_eq]; omega, fun b o z => ?_, ?_⟩
      · rw [upd_ne (fun y => by rw [y, hD] at z; cases z)]
        exact sm b o z
      · rw [upd_same, List.map_append, List.map_append]
        show some (HO.lst (_ ++ [V.bl (inV (.int t) (((cleared S p m).tab q).map optV))])) = _
        rw [inV_opt]
        rfl
    · obtain ⟨sm, hd⟩ := h
      have ee : S.procs.take (entKV S.procs fun p => ad (.tab p)).length = S.procs := by unfold entKV; rw [List.length_map, List.take_length]
      rw [ee] at hd
      refine ⟨sm _ _ upd_same, ?_⟩
      have sm2 : Same H1 (upd H' (ad .tabD) (.dK (entKV S.procs fun p => ad (.tab p)))) := fun b o z => by
        by_cases hb2 : b = ad .tabD
        · rw [hb2, upd_same, ← hT1, ← hb2, z]
        · rw [upd_ne hb2]
          exact sm _ _ (by rw [upd_ne hb2]; exact z)
      show tNil _ _ _
      refine g_nil ?_
      refine ⟨D, _, rfl, SqL.of (by rw [upd_ne nDT]; exact hd), ?_⟩
      refine g_bl ?_
      have hany : ((S.procs.map fun q => decide (some t ∈ (cleared S p m).tab q)).any id) = decide (∃ q ∈ S.procs, some t ∈ (cleared S p m).tab q) := by
        rw [List.any_map]
        by_cases he : ∃ q ∈ S.procs, some t ∈ (cleared S p m).tab q
        · rw [decide_eq_true he]
          obtain ⟨q, h1, h2⟩ := he
          exact List.any_eq_true.mpr ⟨q, h1, decide_eq_true h2⟩
        · rw [decide_eq_false he]
          refine List.any_eq_false.mpr fun q hq z => he ⟨q, hq, of_decide_eq_true z⟩
      rw [hany]
      rw [decide_eq_true he]
      refine iteF ?_
      exact kk _ sm2
/-! close -/
def spClose (C : Cs) : Sp := fun vs H Q _ => ∃ p n t : Int, OnSys C vs H [.int p, .int n] fun S ad dx => Means S p n t ∧ S.procs.length ≤ 1000 ∧ (∃ q ∈ S.procs, some t ∈ (cleared S p n).tab q) ∧ ∀ H', At C H' (cleared S p n) ad dx → Step H S ad H' (cleared S p n) ad → Q .non H'
theorem scClose : FnScope ["self", "process", "number"] ["self", "process", "number"] (defScope sClose) := ⟨rfl, rfl, rfl, by decide +kernel, rfl, by decide +kernel, by decide +kernel⟩
theorem okClose {f fT fF : Addr} {fd fdT fdF : FuncData} (F : Fun K "close" "System.close" sClose f fd) (T : ClsF K C.S sysF) (GT : MO P w K mg base 4 C.S "thing_at" ["self", "process", "number"] (spThingAt C) fT fdT) (GF : MO P w K mg base 3 C.S "free" ["self", "process", "number"] (spFree C) fF fdF) :
    FnOk P w K mg base CX0 5 f fd ["self", "process", "number"] (spClose C) := by
  refine F.ok scClose (fun vs H Q E h => ?_) (fun cdv A outer s H vs Q E hr h => ?_)
  · obtain ⟨_, _, _, _, _, _, rfl, _⟩ := h
    rfl
  · obtain ⟨p, n, t, S, ad, dx, rfl, A0, M, hz, he, k⟩ := h
    have hr3 : Room 3 _ := hr.mono (by decide)
    refine ⟨_, pss_cons (ps_expr (pe_meth (pv 0) T.cl GT.m GT.g hr GT.b .nil pass0 (pa_cons (pv 1) (pa_cons (pv 2) pa_nil))))
      (pss_one (ps_expr (pe_meth (pv 0) T.cl GF.m GF.g hr3 GF.b .nil pass0 (pa_cons (pv 1) (pa_cons (pv 2) pa_nil))))), ?_⟩
    have hb := A0.at_ .box trivial
    walk_at "wn"
    refine ⟨_, rfl, ad .box, dx .box, _, rfl, hb, rfl, ?_⟩
    walk_at "wn"
    refine ⟨p, n, t, S, ad, dx, rfl, A0, M, ?_⟩
    walk_at "wn"
    refine ⟨_, rfl, ad .box, dx .box, _, rfl, hb, rfl, ?_⟩
    walk_at "wn"
    exact ⟨p, n, t, S, ad, dx, rfl, A0, M, hz, he, k⟩
/-! a copy onto a number; what the number meant keeps another one -/
def copied (S : Sys) (p : Int) (m : Nat) (t : Int) : Sys := { S with tab := fun q => if q = p then (S.tab p).set m (some t) else S.tab q }
theorem copied_self {S : Sys} {p t : Int} {m : Nat} (h : (S.tab p)[m]? = some (some t)) : copied S p m t = S := by
  have e : (fun q => if q = p then (S.tab p).set m (some t) else S.tab q) = S.tab := funext fun q => by
    by_cases z : q = p
    · rw [if_pos z, z]
      refine List.ext_getElem? fun i => ?_
      rw [List.getElem?_set]
      by_cases hi : m = i
      · rw [if_pos hi, if_pos (List.getElem?_eq_some_iff.mp h).1, ← hi, h]
      · rw [if_neg hi]
    · rw [if_neg z]
  unfold copied
  rw [e]
theorem copied_clear {S : Sys} {p t : Int} {m : Nat} : copied (cleared S p (m : Int)) p m t = copied S p m t := by
  have e : (fun q => if q = p then ((cleared S p (m : Int)).tab p).set m (some t) else (cleared S p (m : Int)).tab q) = fun q => if q = p then (S.tab p).set m (some t) else S.tab q := funext fun q => by
    by_cases z : q = p
    · rw [if_pos z, if_pos z]
      show (if p = p then (S.tab p).set (m : Int).toNat none else S.tab p).set m (some t) = _
      rw [if_pos rfl, Int.toNat_natCast, List.set_set]
    · rw [if_neg z, if_neg z]
      show (if q = p then _ else S.tab q) = _
      rw [if_neg z]
  unfold copied
  rw [e]
  rfl
theorem At.cop {C : Cs} {H : Hp} {S : Sys} {ad dx : Cell → Addr} {p t : Int} {m : Nat} (A : At C H S ad dx) (hp : p ∈ S.procs) : At C (upd H (ad (.tab p)) (.lst (((S.tab p).map optV).set m (.int t)))) (copied S p m t) ad dx ∧ Step H S ad (upd H (ad (.tab p)) (.lst (((S.tab p).map optV).set m (.int t)))) (copied S p m t) ad := by
  refine At.re2 [.tab p] A (fun c l => by cases c <;> exact l) (fun c hc => ?_) (fun c hc => ?_) (fun c hc l => ?_) (fun b o n e => ?_)
  · rw [List.mem_singleton.mp hc]
    exact hp
  · rw [List.mem_singleton.mp hc, upd_same]
    show _ = some (HO.lst ((if p = p then (S.tab p).set m (some t) else S.tab p).map optV))
    rw [if_pos rfl, List.map_set]
    rfl
  · cases c with
    | tab q =>
      have nq : q ≠ p := fun z => hc (by rw [z]; simp)
      show HO.lst ((if q = p then (S.tab p).set m (some t) else S.tab q).map optV) = _
      rw [if_neg nq]
      rfl
    | _ => rfl
  · rw [upd_ne (n (.tab p) (by simp))]
    exact e
def spCopy (C : Cs) : Sp := fun vs H Q _ => ∃ (p n t : Int) (m : Nat), OnSys C vs H [.int p, .int n, .int (m : Int)] fun S ad dx => Means S p n t ∧ S.procs.length ≤ 1000 ∧ (m : Int) ≤ S.N - 1 ∧ (S.tab p).length = S.N.toNat ∧ (∀ u, (S.tab p)[m]? = some (some u) → u ≠ t → ∃ q ∈ S.procs, some u ∈ (cleared S p (m : Int)).tab q) ∧
  ∀ H', At C H' (copied S p m t) ad dx → Step H S ad H' (copied S p m t) ad → Q (.int (m : Int)) H'
theorem scCopy : FnScope ["self", "process", "number", "to", "thing", "goal", "table"] ["self", "process", "number", "to"] (defScope sCopy) := ⟨rfl, rfl, rfl, by decide +kernel, rfl, by decide +kernel, by decide +kernel⟩
theorem okCopy {dvs : List V} {kws : List (Str × V)} {f fT fN fF fR : Addr} {fd fdT fdN fdF fdR : FuncData} (F : FunD K "copy" "System.copy" (defArgs sCopy) (defBody sCopy) (defScope sCopy) dvs kws f fd) (T : ClsF K C.S sysF)
    (GT : MO P w K mg base 4 C.S "thing_at" ["self", "process", "number"] (spThingAt C) fT fdT) (GN : MO P w K mg base 3 C.S "is_table_number" ["self", "number"] (spIsTabNum C) fN fdN) (GF : MO P w K mg base 4 C.S "free_number" ["self", "process"] (spFreeNum C) fF fdF) (GR : MO P w K mg base 3 C.S "free" ["self", "process", "number"] (spFree C) fR fdR) :
    FnOk P w K mg base CX0 5 f fd ["self", "process", "number", "to"] (spCopy C) := by
  refine F.ok scCopy (fun vs H Q E h => ?_) (fun cdv A outer s H vs Q E hr h => ?_)
  · obtain ⟨_, _, _, _, _, _, _, rfl, _⟩ := h
    rfl
  · obtain ⟨p, n, t, m, S, ad, dx, rfl, A0, M, hpl, m1, hlen, hk, k⟩ := h
    have hu := hu_of hr
    have hr2 : Room 2 _ := hr.mono (by decide)
    have hr3 : Room 3 _ := hr.mono (by decide)
    refine ⟨_, pss_cons (ps_set (i := 4) scCopy.nd rfl (Or.inl rfl) (pe_meth (pv 0) T.cl GT.m GT.g hr GT.b .nil pass0 (pa_cons (pv 1) (pa_cons (pv 2) pa_nil))))
      (pss_cons (ps_if (PW.pt (pw_and (pt_cmpR oNotN (pv 3) pe_non (nomark _)) (pw_and1 (pt_not (pt_val (pe_meth (pv 0) T.cl GN.m GN.g hr3 GN.b .nil pass0 (pa_cons (pv 3) pa_nil))))))) (pss_one ps_never) pss_nil)
      (pss_cons (ps_set (i := 5) scCopy.nd rfl (Or.inl rfl) (pe_ifExp (pt_cmpR oIsN (pv 3) pe_non (nomark _)) (pe_meth (pv 0) T.cl GF.m GF.g hr GF.b .nil pass0 (pa_cons (pv 1) pa_nil)) (pv 3)))
      (pss_cons (ps_set (i := 6) scCopy.nd rfl (Or.inl rfl) (pe_dget hu (pe_fld (pv 0) rfl) (pv 1) (fun _ _ => rfl)))
      (pss_cons (ps_if (pt_cmpR op_ne (pe_ix ix_list (pv 6) (pv 5) (fun _ _ => rfl)) (pv 4) (nomark _))
        (pss_cons (ps_if (pt_cmpR oNotN (pe_ix ix_list (pv 6) (pv 5) (fun _ _ => rfl)) pe_non (nomark _)) (pss_one (ps_expr (pe_meth (pv 0) T.cl GR.m GR.g hr3 GR.b .nil pass0 (pa_cons (pv 1) (pa_cons (pv 5) pa_nil))))) pss_nil)
        (pss_one (ps_asg (pv 4) (pg_sub (pv 6) (pv 5) set_list)))) pss_nil)
      (pss_one (ps_ret (pv 5))))))), ?_⟩
    have hb := A0.at_ .box trivial
    walk_at "wn"
    refine ⟨_, rfl, ad .box, dx .box, _, rfl, hb, rfl, ?_⟩
    walk_at "wn"
    refine ⟨p, n, t, S, ad, dx, rfl, A0, M, ?_⟩
    have env : decide (V.int (m : Int) = .non) = false := decide_eq_false fun z => nomatch z
    walk_at "wn"
    rw [env]
    walk_at "wn"
    refine ⟨_, rfl, ad .box, dx .box, _, rfl, hb, rfl, ?_⟩
    walk_at "wn"
    refine ⟨(m : Int), S, ad, dx, rfl, A0, ?_⟩
    dsimp only
    rw [decide_eq_true (show (0 : Int) ≤ (m : Int) by omega), decide_eq_true m1]
    have hml : m < (S.tab p).length := by omega
    obtain ⟨y, hy⟩ : ∃ y, (S.tab p)[m]? = some y := ⟨_, List.getElem?_eq_getElem hml⟩
    refine ⟨_, rfl, ?_⟩
    refine iteF ?_
    walk_at "wn"
    rw [env]
    walk_at "wn"
    have ht := A0.at_ (.tab p) M.pr
    have hv : valV (entKV S.procs fun p => ad (.tab p)) (Sum.inl p) = some (.ref (ad (.tab p))) := by rw [ent_val, if_pos M.pr]
    have hat : atI ((S.tab p).map optV) (m : Int) = some (optV y) := atI_nat (by rw [List.getElem?_map, hy]; rfl)
    refine ⟨_, rfl, ad .box, C.S, dx .box, _, _, rfl, hb, T.cl, T.no _ (by decide), rfl, ?_⟩
    refine ⟨_, rfl, ad .tabD, _, rfl, hv ▸ DGet.k (k := Sum.inl p) (A0.at_ .tabD trivial), ?_⟩
    walk_at "wn"
    refine ⟨ad (.tab p), _, (m : Int), _, rfl, rfl, SqL.of ht, hat, ?_⟩
    walk_at "wn"

    cases y with
    | none =>
      refine g_rNe rfl ?_
      rw [decide_eq_false (show ¬ optV none = V.int t from fun z => nomatch z)]
      walk_at "wn"
      refine ⟨ad (.tab p), _, (m : Int), _, rfl, rfl, SqL.of ht, hat, ?_⟩
      walk_at "wn"
      refine ⟨ad (.tab p), _, (m : Int), m, rfl, rfl, ht, by rw [List.length_map]; exact ixN_nat hml, ?_⟩
      walk_at "wn"
      exact k _ (A0.cop M.pr).1 (A0.cop M.pr).2
    | some u =>
      by_cases hut : u = t
      · refine g_rNe rfl ?_
        rw [decide_eq_true (show optV (some u) = V.int t from congrArg V.int hut)]
        walk_at "wn"
        rw [copied_self (by rw [hy, hut])] at k
        exact k _ A0 (Step.refl)
      · refine g_rNe rfl ?_
        rw [decide_eq_false (show ¬ optV (some u) = V.int t from fun z => hut (V.int.inj z))]
        walk_at "wn"
        refine ⟨ad (.tab p), _, (m : Int), _, rfl, rfl, SqL.of ht, hat, ?_⟩
        walk_at "wn"
        rw [decide_eq_false (show ¬ optV (some u) = V.non from fun z => nomatch z)]
        walk_at "wn"
        refine ⟨_, rfl, ad .box, dx .box, _, rfl, hb, rfl, ?_⟩
        walk_at "wn"
        refine ⟨p, (m : Int), u, S, ad, dx, rfl, A0, ⟨M.pr, by omega, by omega, by rw [Int.toNat_natCast]; exact hy⟩, hpl, hk u hy hut, fun H1 A1 st1 => ?_⟩
        have hp1 : p ∈ (cleared S p (m : Int)).procs := M.pr
        have ht1 := A1.at_ (.tab p) hp1
        have hl1 : ((cleared S p (m : Int)).tab p).length = (S.tab p).length := by
          show (if p = p then (S.tab p).set (m : Int).toNat none else S.tab p).length = _
          rw [if_pos rfl, List.length_set]
        walk_at "wn"
        refine ⟨ad (.tab p), _, (m : Int), m, rfl, rfl, ht1, by rw [List.length_map, hl1]; exact ixN_nat hml, ?_⟩
        walk_at "wn"
        rw [← copied_clear] at k
        exact k _ (A1.cop hp1).1 (st1.trans (A1.cop hp1).2)
/-! fork -/
structure FreeP (S : Sys) (m : Nat) : Prop where
  no : (m : Int) ∉ S.procs
  lo : ∀ i : Nat, i < m → (i : Int) ∈ S.procs
  hi : (m : Int) < S.P
  P0 : S.P ≤ 1000
def spFreeProc (C : Cs) : Sp := fun vs H Q _ => ∃ m : Nat, OnSys C vs H [] fun S ad dx => FreeP S m ∧ Q (.int (m : Int)) H
theorem scFreeProc : FnScope ["self", "process"] ["self"] (defScope sFreeProc) := ⟨rfl, rfl, rfl, by decide +kernel, rfl, by decide +kernel, by decide +kernel⟩
theorem okFreeProc {f : Addr} {fd : FuncData} (F : Fun K "free_process" "System.free_process" sFreeProc f fd) (rng : mg "range" = none) (T : ClsF K C.S sysF) : FnOk P w K mg base CX0 1 f fd ["self"] (spFreeProc C) := by
  refine F.ok scFreeProc (fun vs H Q E h => ?_) (fun cdv A outer s H vs Q E hr h => ?_)
  · obtain ⟨_, _, _, _, rfl, _⟩ := h
    rfl
  · obtain ⟨m, S, ad, dx, rfl, A0, M, k⟩ := h
    have hu := hu_of hr
    refine ⟨_, pss_cons (ps_for PassesOwn.never rfl (pi_range1 (by rfl) rng (pa_cons (pe_fld (pv 0) rfl) pa_nil)) (pg_name (i := 1) scFreeProc.nd rfl (Or.inl rfl))
      (pss_one (ps_if (pt_cmp (pc_dnotin hu (pv 1) (pe_fld (pv 0) rfl)) rfl) (pss_one (ps_ret (pv 1))) pss_nil))) (pss_one ps_never), ?_⟩
    have hb := A0.at_ .box trivial
    have h1 := M.hi
    have h2 := M.P0
    walk_at "wn"
    show iRng1 _ _ _ _
    show tCons _ _ _ _ _
    walk_at "wn"
    refine ⟨_, rfl, ad .box, C.S, dx .box, _, _, rfl, hb, T.cl, T.no _ (by decide), rfl, ?_⟩
    walk_at "wn"
    refine ⟨_, rfl, by omega, by omega, ?_⟩
    refine for_range (lo := 0) (fun i σ' H1 => ∃ u : Option V, σ' = [some (.ref (ad .box)), u] ∧ H1 = H ∧ i ≤ m) ⟨_, rfl, rfl, Nat.zero_le _⟩ ?_ ?_
    · rintro i σ' H1 hi ⟨u, rfl, rfl, him⟩
      walk_at "wn"
      refine ⟨_, rfl, _, rfl, ad .box, C.S, dx .box, _, _, rfl, hb, T.cl, T.no _ (by decide), rfl, ?_⟩
      refine ⟨ad .tabD, _, rfl, DGet.k (k := Sum.inl (0 + (i : Int))) (A0.at_ .tabD trivial), ?_⟩
      rw [ent_val, Int.zero_add]
      by_cases hm : i = m
      · subst hm
        rw [if_neg M.no]
        refine ⟨_, rfl, ?_⟩
        show if true = true then _ else _
        walk_at "wn"
        exact k
      · rw [if_pos (M.lo i (by omega))]
        refine ⟨_, rfl, ?_⟩
        show if false = true then _ else _
        walk_at "wn"
        exact ⟨_, rfl, rfl, by omega⟩
    · rintro σ' H1 ⟨u, rfl, rfl, him⟩
      exact absurd him (by omega)
def forked (S : Sys) (p : Int) (m : Nat) : Sys := { S with procs := S.procs ++ [(m : Int)], tab := fun q => if q = (m : Int) then S.tab p else S.tab q }
def spFork (C : Cs) : Sp := fun vs H Q _ => ∃ (p : Int) (m : Nat), OnSys C vs H [.int p] fun S ad dx => p ∈ S.procs ∧ FreeP S m ∧ (S.tab p).length ≤ 900 ∧ S.procs.length ≤ 900 ∧ ∀ H' ad', At C H' (forked S p m) ad' dx → Step H S ad H' (forked S p m) ad' → Q (.int (m : Int)) H'
theorem scFork : FnScope ["self", "process", "table", "other"] ["self", "process"] (defScope sFork) := ⟨rfl, rfl, rfl, by decide +kernel, rfl, by decide +kernel, by decide +kernel⟩
theorem tab_fun (ad : Cell → Addr) (t : Int) (T : Addr) : (fun j => if j = t then T else ad (.tab j)) = fun j => setA ad (.tab t) T (.tab j) := by
  funext j
  by_cases h : j = t
  · rw [if_pos h, h, setA_same]
  · rw [if_neg h, setA_ne fun z => h (by cases z; rfl)]
theorem okFork {f fT fF : Addr} {fd fdT fdF : FuncData} (F : Fun K "fork" "System.fork" sFork f fd) (X : SysTxt mg) (T : ClsF K C.S sysF) (GT : MO P w K mg base 3 C.S "table_of" ["self", "process"] (spTableOf C) fT fdT) (GF : MO P w K mg base 1 C.S "free_process" ["self"] (spFreeProc C) fF fdF) :
    FnOk P w K mg base CX0 4 f fd ["self", "process"] (spFork C) := by
  refine F.ok scFork (fun vs H Q E h => ?_) (fun cdv A outer s H vs Q E hr h => ?_)
  · obtain ⟨_, _, _, _, _, rfl, _⟩ := h
    rfl
  · obtain ⟨p, m, S, ad, dx, rfl, A0, hp, M, hl, hz, k⟩ := h
    have hu := hu_of hr
    have hr1 : Room 1 _ := hr.mono (by decide)
    have hr3 : Room 3 _ := hr.mono (by decide)
    refine ⟨_, pss_cons (ps_set (i := 2) scFork.nd rfl (Or.inl rfl) (pe_meth (pv 0) T.cl GT.m GT.g hr3 GT.b .nil pass0 (pa_cons (pv 1) pa_nil)))
      (pss_cons (ps_set (i := 3) scFork.nd rfl (Or.inl rfl) (pe_meth0 (pv 0) T.cl GF.m GF.g hr1 GF.b .nil pass0))
      (pss_cons (ps_if (pt_cmpR oIsN (pv 3) pe_non (nomark _)) (pss_one ps_never) pss_nil)
      (pss_cons (ps_dput hu (pe_fld (pv 0) rfl) (pv 3) (pe_callTy call_list_of (by rfl) X.list PyProof.Rows.boot_list (pa_cons (pv 2) pa_nil)) rfl)
      (pss_one (ps_ret (pv 3)))))), ?_⟩
    have hb := A0.at_ .box trivial
    have ht := A0.at_ (.tab p) hp
    have hD : H (ad .tabD) = some (.dK (entKV S.procs fun p => ad (.tab p))) := A0.at_ .tabD trivial
    walk_at "wn"
    refine ⟨_, rfl, ad .box, dx .box, _, rfl, hb, rfl, ?_⟩
    walk_at "wn"
    refine ⟨p, S, ad, dx, rfl, A0, hp, ?_⟩
    walk_at "wn"
    refine ⟨_, rfl, ad .box, dx .box, _, rfl, hb, rfl, ?_⟩
    walk_at "wn"
    refine ⟨m, S, ad, dx, rfl, A0, M, ?_⟩
    walk_at "wn"
    have e : decide (V.int (m : Int) = V.non) = false := decide_eq_false fun z => nomatch z
    rw [e]
    walk_at "wn"
    refine ⟨_, rfl, ad (.tab p), _, rfl, .inl (SqL.of ht), fun r hr0 => ?_⟩
    have nbr : ad .box ≠ r := ne_of_none hb hr0
    have nDr : ad .tabD ≠ r := ne_of_none hD hr0
    refine ⟨_, rfl, ad .box, C.S, dx .box, _, _, rfl, by rw [upd_ne nbr]; exact hb, T.cl, T.no _ (by decide), rfl, ?_⟩
    refine ⟨_, rfl, ad .tabD, _, rfl, DPut.k (k := Sum.inl (m : Int)) (by rw [upd_ne nDr]; exact hD) (by unfold entKV; rw [List.length_map, sizeLine_eq]; omega), ?_⟩
    walk_at "wn"
    refine (fun z : At C _ _ _ _ ∧ Step H S ad _ _ _ => k _ (setA ad (.tab (m : Int)) r) z.1 z.2) ?_
    refine At.re3 [.tabD, .tab (m : Int)] A0 (fun c lc => ?_) (fun c hc lc => ?_) (fun c hc lc => ?_) (fun c hc lc => ?_) (fun c hc c' hc' lc lc' z e => ?_) (fun b o nb e => ?_) (setA_ne (by intro z; cases z))
    · cases c with
      | tab t =>
        rcases List.mem_append.mp (show t ∈ S.procs ++ [(m : Int)] from lc) with y | y
        · exact .inr y
        · rw [List.mem_singleton.mp y]
          exact .inl (by simp)
      | _ => exact .inr lc
    · simp only [List.mem_cons, List.not_mem_nil, or_false] at hc
      rcases hc with rfl | rfl
      · rw [setA_ne (by intro z; cases z), upd_same, ent_put, if_neg M.no, tab_fun]
        rfl
      · rw [setA_same, upd_ne (Ne.symm nDr), upd_same]
        show _ = some (HO.lst ((if (m : Int) = (m : Int) then S.tab p else S.tab (m : Int)).map optV))
        rw [if_pos rfl]
    · have n1 : c ≠ .tabD := fun z => hc (by rw [z]; simp)
      have n2 : c ≠ .tab (m : Int) := fun z => hc (by rw [z]; simp)
      refine ⟨setA_ne n2, ?_⟩
      cases c with
      | tabD => exact absurd rfl n1
      | tab j =>
        have nj : j ≠ (m : Int) := fun z => n2 (by rw [z])
        show HO.lst ((if j = (m : Int) then S.tab p else S.tab j).map optV) = _
        rw [if_neg nj]
        rfl
      | _ => rfl
    · simp only [List.mem_cons, List.not_mem_nil, or_false] at hc
      rcases hc with rfl | rfl
      · exact .inl ⟨setA_ne (by intro z; cases z), trivial⟩
      · exact .inr (by rw [setA_same]; exact hr0)
    · simp only [List.mem_cons, List.not_mem_nil, or_false] at hc hc'
      rcases hc with rfl | rfl
      · rw [setA_ne (by intro z; cases z), hD] at z
        cases z
      · rcases hc' with rfl | rfl
        · rw [setA_same, setA_ne (by intro z; cases z)] at e
          exact absurd e (Ne.symm nDr)
        · rfl
    · rw [upd_ne (nb .tabD (by simp) trivial), upd_ne (ne_of_none e hr0)]
      exact e
end

/-! a dict comprehension with two clauses: {k: v for t0 in i0 if .. for t1 in i1 if ..} -/
/-- one turn of any clause: the next item, the store, the tests, what the clause does, and round again -/
def oneTurn (t i : Expr) (ifs : List Expr) (it : Value) (env : Env) (deed : Sem Fin → Sem Fin) (round : Sem Fin) : Sem Fin := do
  standAt i.pos
  match ← pyNext it with
  | none => pure (.done .next)
  | some v =>
    letOwnedTupleGo t it v
    assign t env v
    let mut ok := true
    for c in ifs do
      if ok then ok ← isTrue c env (eval c env)
    if ok then deed round else round
abbrev testsOf (ifs : List Expr) (env : Env) : Sem Bool := forIn ifs true fun c r => if r = true then do let ok ← isTrue c env (eval c env); pure (ForInStep.yield ok) else pure (ForInStep.yield r)
theorem oneTurn_wp {M : Model} {A : Around} {t i : Expr} {ifs : List Expr} {it : Value} {env : Env} {deed : Sem Fin → Sem Fin} {round : Sem Fin} {Q : Fin → Shared → Prop} {E : Value → Shared → Prop} {s : Shared}
    (h : wpAny M A (pyNext it) (fun r s1 => match r with
      | none => Q (.done .next) s1
      | some v => wpAny M A (letOwnedTupleGo t it v) (fun _ s2 => wpAny M A (assign t env v) (fun _ s3 => wpAny M A (testsOf ifs env) (fun ok s4 => if ok = true then wpAny M A (deed round) Q E s4 else wpAny M A round Q E s4) E s3) E s2) E s1) E s) :
    wpAny M A (oneTurn t i ifs it env deed round) Q E s := by
  unfold oneTurn
  refine wpAny_bind (wpAny_standAt (wpAny_bind (wpAny_mono h (fun r s1 h1 => ?_) fun _ _ z => z)))
  cases r with
  | none => exact wpAny_pure h1
  | some v =>
    refine wpAny_bind (wpAny_mono h1 (fun _ s2 h2 => wpAny_bind (wpAny_mono h2 (fun _ s3 h3 => wpAny_bind (wpAny_mono h3 (fun ok s4 h4 => ?_) fun _ _ z => z)) fun _ _ z => z)) fun _ _ z => z)
    cases ok with
    | false => exact h4
    | true => exact h4
section
variable (kx vx t0 i0 t1 i1 : Expr) (ifs0 ifs1 : List Expr) (scope : Scope) (pos : Pos)
abbrev dcx : Expr := .DictComp kx vx [⟨t0, i0, ifs0, 0⟩, ⟨t1, i1, ifs1, 0⟩] scope pos
/-- what the first clause does: the second one's whole walk -/
def deed0 (acc : Value) (env : Env) (round : Sem Fin) : Sem Fin := do
  let x ← eval i1 env
  standAt i1.pos
  let y ← foldedSetIterable i1 env x
  let _ ← runOwn (.compStart (dcx kx vx t0 i0 t1 i1 ifs0 ifs1 scope pos) 1 (← holding [y] (pyIter y)) acc env) env
  round
def deed1 (D : Addr) (env : Env) (round : Sem Fin) : Sem Fin := do
  (do
    let kv ← eval kx env
    let vv ← holding [kv] (eval vx env)
    standAt { kx.pos with endLine := vx.pos.endLine, endCol := vx.pos.endCol }
    holding [kv, vv] (dictSet D kv vv))
  round
theorem turn0 (it acc : Value) (env : Env) : compTurn (dcx kx vx t0 i0 t1 i1 ifs0 ifs1 scope pos) 0 it acc env = oneTurn t0 i0 ifs0 it env (deed0 kx vx t0 i0 t1 i1 ifs0 ifs1 scope pos acc env) (again (.compLoop (dcx kx vx t0 i0 t1 i1 ifs0 ifs1 scope pos) 0 it acc env)) := by rfl
theorem turn1 (it : Value) (D : Addr) (env : Env) : compTurn (dcx kx vx t0 i0 t1 i1 ifs0 ifs1 scope pos) 1 it (.ref D) env = oneTurn t1 i1 ifs1 it env (deed1 kx vx D env) (again (.compLoop (dcx kx vx t0 i0 t1 i1 ifs0 ifs1 scope pos) 1 it (.ref D) env)) := by rfl
end
/-- the walk of one clause: what holds before each turn, and what each turn does with the item that has come -/
def Rounds (J : It) (g : TG) (tt : TT) (σ : L2.St) (vs : List Nat) (dd : L2.St → Hp → (Hp → Prop) → Prop) (H0 : Hp) (fin : Hp → Prop) : Prop :=
  ∃ W : Nat → Nat → Hp → Prop, (∃ m, W 0 m H0) ∧ ∀ i m H, W i m H → (J.stop i H ∧ fin H) ∨ (J.go i H ∧ ∃ Nx : Hp → Prop, (∀ H', Nx H' → ∃ m', m' < m ∧ W (i + 1) m' H') ∧
    ∀ x H', J.yld i H x H' → g x (wipe σ vs) H' fun σ2 H2 => wipe σ2 vs = wipe σ vs ∧ tt σ2 H2 fun b H3 => if b = true then dd σ2 H3 Nx else Nx H3)
theorem rounds_loop {Y : Cx} {e t i : Expr} {d : Nat} {ifs : List Expr} {deed : Sem Fin → Sem Fin} {acc : Value} {R : Result → Shared → Prop} {s : Shared} {J : It} {g : TG} {tt : TT} {σ : L2.St} {vs : List Nat} {dd : L2.St → Hp → (Hp → Prop) → Prop} {H0 : Hp} {fin : Hp → Prop}
    {fp : List Addr} {tn : Nat → Heap → Prop} {it : Addr} {pins : List (Addr × Obj)} (hc : Y.calm = true) (hx : Y.xe = fun _ _ => False)
    (hq : (Code.compLoop e d (.ref it) acc Y.env).quiet = true)
    (hn : ∀ (post : Fin → Shared → Prop) (E : Value → Shared → Prop) (s1 : Shared), wpAny (model Y.prog Y.w) Y.A ((compTurn e d (.ref it) acc Y.env).onRaise (fun x => do noteFrame x Y.env; theTreesLotGoes x)) post E s1 → wpAny (model Y.prog Y.w) (Y.A.under (.compLoop e d (.ref it) acc Y.env)) ((model Y.prog Y.w).den (.compLoop e d (.ref it) acc Y.env)) post E s1)
    (he : compTurn e d (.ref it) acc Y.env = oneTurn t i ifs (.ref it) Y.env deed (again (.compLoop e d (.ref it) acc Y.env)))
    (pg : PG Y t g) (pt : PTs Y ifs tt) (T : Turn Y.prog Y.w Y.K t J fp it tn)
    (ff : ∀ σ H s, Inv Y pins σ H s → (∀ b ∈ fp, H b = none) → ∀ b ∈ fp, FpOk Y pins H b)
    (I : Inv Y pins (wipe σ vs) H0 s) (st : tn 0 s.heap) (n0 : ∀ b ∈ fp, H0 b = none) (h : Rounds J g tt σ vs dd H0 fin)
    (hd : ∀ pl σ2 H3 s4 Nx (post : Fin → Shared → Prop) (E : Value → Shared → Prop), Inv Y (pins ++ pl) σ2 H3 s4 → dd σ2 H3 Nx →
      (∀ σ9 H' s', Inv Y (pins ++ pl) σ9 H' s' → σ9.length = σ2.length → (∀ (j : Nat) v, (wipe σ2 vs)[j]? = some (some v) → σ9[j]? = some (some v)) → Nx H' → wpAny (model Y.prog Y.w) Y.A (again (.compLoop e d (.ref it) acc Y.env)) post E s') →
      wpAny (model Y.prog Y.w) Y.A (deed (again (.compLoop e d (.ref it) acc Y.env))) post E s4)
    (hf : ∀ s' H', Inv Y pins (wipe σ vs) H' s' → fin H' → R (.ok .next) s') :
    codeAny (model Y.prog Y.w) Y.A (.compLoop e d (.ref it) acc Y.env) R s := by
  obtain ⟨W, ⟨m0, w0⟩, turn⟩ := h
  refine codeAny_loop hq (fun n s' => ∃ i H', Inv Y pins (wipe σ vs) H' s' ∧ tn i s'.heap ∧ (∀ b ∈ fp, H' b = none) ∧ W i n H') (fun n s1 ⟨k, H1, I1, st1, n1, w1⟩ => ?_) m0 ⟨0, H0, I, st, n0, w0⟩
  refine hn _ _ s1 (wpAny_noted ?_)
  rw [he]
  refine oneTurn_wp ?_
  rcases turn k n H1 w1 with ⟨stop, q⟩ | ⟨go, Nx, hN, step⟩
  · refine thnF (T.done Y rfl rfl rfl hc k pins s1 _ H1 (fun _ _ => False) I1 (ff _ _ _ I1 n1) st1 stop) fun r s2 ⟨hr, I2⟩ => ?_
    subst hr
    exact hf s2 H1 I2 q
  · refine thnF (T.item Y rfl rfl rfl hc k pins s1 _ H1 (fun _ _ => False) I1 (ff _ _ _ I1 n1) st1 go) fun r s2 ⟨u, hr, h2⟩ => ?_
    subst hr
    refine thnF h2 fun _ s3 ⟨x, H3, I3, rx, y3, st3, n3⟩ => ?_
    have ho := T.obj _ _ st3
    have a1 := pg.run _ s3 _ H3 x u _ (I3.pinned (ff _ _ _ I3 n3) ho) rx (step x H3 y3)
    rw [hx] at a1
    refine thnF a1 fun _ s4 ⟨σ4, H4, I4, e4, q4⟩ => ?_
    have a2 := pt.run _ s4 σ4 H4 _ I4 q4
    rw [hx] at a2
    refine thnF a2 fun b s5 ⟨H5, I5, q5⟩ => ?_
    -- round again
    have round : ∀ σ9 H' s', Inv Y (pins ++ pinsAt fp s3.heap) σ9 H' s' → σ9.length = σ4.length → (∀ (j : Nat) v, (wipe σ4 vs)[j]? = some (some v) → σ9[j]? = some (some v)) → Nx H' →
        ∃ m, m < n ∧ ∃ i H', Inv Y pins (wipe σ vs) H' s' ∧ tn i s'.heap ∧ (∀ b ∈ fp, H' b = none) ∧ W i m H' := fun σ9 H' s' I' hl hk nx => by
      obtain ⟨m, hm, w'⟩ := hN H' nx
      have stay : ∀ b ∈ fp, ∀ o, s3.heap.get? b = some o → s'.heap.get? b = some o ∧ H' b = none := fun b hb o eo =>
        let z := I'.pin (b, o) (List.mem_append_right _ (List.mem_append_right _ (mem_pinsAt hb eo)))
        ⟨z.1, z.2.1⟩
      refine ⟨m, hm, k + 1, H', I'.unpinned.weak (by rw [hl, ← wipe_length σ4 vs, e4]) (fun j v e => hk j v (by rw [e4]; exact e)), T.keep _ _ _ st3 fun b hb o eo => (stay b hb o eo).1, fun b hb => ?_, w'⟩
      obtain ⟨o, eo, _⟩ := ho b hb
      exact (stay b hb o eo).2
    cases b with
    | false => exact wpAny_pure ⟨rfl, round σ4 H5 s5 I5 rfl (fun j v e => (wipe_some e).1) q5⟩
    | true => exact hd _ σ4 H5 s5 Nx _ _ I5 q5 fun σ9 H' s' I' hl hk nx => wpAny_pure ⟨rfl, round σ9 H' s' I' hl hk nx⟩
section
variable {prog : Program} {w : World} {A : Around} {R : Result → Shared → Prop} {s : Shared} {kx vx t0 i0 t1 i1 : Expr} {ifs0 ifs1 : List Expr} {scope : Scope} {pos : Pos} {it acc : Value} {env : Env}
/-- the second clause's start: iter() of what is an iterator already, asked once or twice -/
theorem start1 (h0 : codeAny (model prog w) A (.compLoop (dcx kx vx t0 i0 t1 i1 ifs0 ifs1 scope pos) 1 it acc env) R s)
    (h : wpAny (model prog w) A (pyIter it) (fun it' s' => codeAny (model prog w) A (.compLoop (dcx kx vx t0 i0 t1 i1 ifs0 ifs1 scope pos) 1 it' acc env) R s') (notedBy (model prog w) A env fun x s' => R (.error x) s') s) :
    codeAny (model prog w) A (.compStart (dcx kx vx t0 i0 t1 i1 ifs0 ifs1 scope pos) 1 it acc env) R s := by
  refine codeAny_of_tree ?_
  show wpAny _ A ((compStart (dcx kx vx t0 i0 t1 i1 ifs0 ifs1 scope pos) 1 it acc env).onRaise (fun x => do noteFrame x env; standAt theWindowsPlace)) _ _ s
  refine wpAny_notedAt ?_
  unfold compStart
  show wpAny _ A (ask >>= _) _ _ s
  refine wpAny_bind (wpAny_askSetting (wpAny_ite ?_))
  have twice : wpAny (model prog w) A (standAt i1.pos) (fun _ s1 => wpAny (model prog w) A (pyIter it) (fun it' s' => codeAny (model prog w) A (.compLoop (dcx kx vx t0 i0 t1 i1 ifs0 ifs1 scope pos) 1 it' acc env) R s') (notedBy (model prog w) A env fun x s' => R (.error x) s') s1) (notedBy (model prog w) A env fun x s' => R (.error x) s') s := wpAny_standAt h
  split
  · first
      | exact wpAny_pure ⟨rfl, h0⟩
      | exact wpAny_bind (wpAny_pure (wpAny_pure ⟨rfl, h0⟩))
  · refine wpAny_bind (wpAny_rule ?_)
    exact wpAny_bind (wpAny_mono twice (fun _ s1 h1 => wpAny_bind (wpAny_mono h1 (fun it' s' h' => wpAny_pure ⟨rfl, h'⟩) fun _ _ z => z)) fun _ _ z => z)
/-- what the first clause does, by its pieces -/
theorem deed0_wp {round : Sem Fin} {Q : Fin → Shared → Prop} {E : Value → Shared → Prop} (hs : ∀ x, foldedSetIterable i1 env x = pure x)
    (h : wpAny (model prog w) A (eval i1 env) (fun x s1 => wpAny (model prog w) A (pyIter x) (fun it1 s2 => codeAny (model prog w) A (.compStart (dcx kx vx t0 i0 t1 i1 ifs0 ifs1 scope pos) 1 it1 acc env) (fun r s' => match r with
        | .ok _ => wpAny (model prog w) A round Q E s'
        | .error _ => False) s2) E s1) E s) : wpAny (model prog w) A (deed0 kx vx t0 i0 t1 i1 ifs0 ifs1 scope pos acc env round) Q E s := by
  unfold deed0
  refine wpAny_bind (wpAny_mono h (fun x s1 h1 => wpAny_bind (wpAny_standAt (wpAny_bind (wpAny_of_eq (hs x) (wpAny_bind (wpAny_holding (wpAny_mono h1 (fun it1 s2 h2 => ?_) fun _ _ z => z))))))) fun _ _ z => z)
  refine wpAny_bind (wpAny_runOwn ?_)
  rw [Around.mark_none]
  refine codeAny_mono h2 fun r s' hr => ?_
  cases r with
  | ok f => exact hr
  | error e => exact hr.elim
theorem deed1_wp {round : Sem Fin} {Q : Fin → Shared → Prop} {E : Value → Shared → Prop} {D : Addr}
    (h : wpAny (model prog w) A (eval kx env) (fun kv s1 => wpAny (model prog w) A (eval vx env) (fun vv s2 => wpAny (model prog w) A (dictSet D kv vv) (fun _ s3 => wpAny (model prog w) A round Q E s3) E s2) E s1) E s) :
    wpAny (model prog w) A (deed1 kx vx D env round) Q E s := by
  unfold deed1
  exact wpAny_bind (wpAny_bind (wpAny_mono h (fun kv s1 h1 => wpAny_bind (wpAny_holding (wpAny_mono h1 (fun vv s2 h2 => wpAny_bind (wpAny_standAt (wpAny_holding h2))) fun _ _ z => z))) fun _ _ z => z))
end
section
variable {X : Cx}
/-- true of the block's context, wherever the block stands -/
abbrev Blk (X : Cx) (scope : Scope) (F : Cx → Prop) : Prop := ∀ (s : Shared) (H : Hp) (C : Addr) (cl : List (Str × Addr)) (fp : List Addr), F (X.blk s H scope (compEnvC scope cl C X.env) fp)
def tDc2 (wi : TI) (g : TG) (tt : TT) (wi1 : TI) (g1 : TG) (tt1 : TT) (tk tv : TE) (vs vs1 : List Nat) : TE := fun σ H Q => wi σ H fun J H1 => ∀ D, H1 D = none →
  Rounds J g tt σ vs (fun σ2 H3 Nx => wi1 σ2 H3 fun J1 H4 => Rounds J1 g1 tt1 σ2 vs1 (fun σ3 H6 Nx1 => tk σ3 H6 fun y H7 => tv σ3 H7 fun z H8 => ∃ kvs k, y = kV k ∧ H8 D = some (.dK kvs) ∧ kvs.length < sizeLine ∧ Nx1 (upd H8 D (.dK (putK kvs k z)))) H4 Nx) (upd H1 D (.dK [])) (Q (.ref D))
theorem pe_dc2 {kx vx t0 i0 t1 i1 : Expr} {ifs0 ifs1 : List Expr} {scope : Scope} {own : List (Str × Nat)} {vs1 : List Nat} {pos : Pos} {wi wi1 : TI} {g g1 : TG} {tt tt1 : TT} {tk tv : TE} (hc : X.calm = true) (hN : X.N.Nodup) (hi : PI X t0 i0 wi) (ok : BlkOk X.N X.env.scope scope own) (hv : ∀ i ∈ vs1, i ∈ own.map (·.2))
    (hg : Blk X scope fun Y => PG Y t0 g) (ht : Blk X scope fun Y => PTs Y ifs0 tt) (hi1 : Blk X scope fun Y => PI Y t1 i1 wi1) (hg1 : Blk X scope fun Y => PG Y t1 g1) (ht1 : Blk X scope fun Y => PTs Y ifs1 tt1)
    (hk : Blk X scope fun Y => PE Y kx tk) (he : Blk X scope fun Y => PE Y vx tv) (hs : ∀ x, foldedSetIterable i0 X.env x = pure x := by intro _; rfl) (hs1 : ∀ env x, foldedSetIterable i1 env x = pure x := by intro _ _; rfl) :
    PE X (dcx kx vx t0 i0 t1 i1 ifs0 ifs1 scope pos) (tDc2 wi g tt wi1 g1 tt1 tk tv (own.map (·.2)) vs1) := by
  refine ⟨fun pins s σ H Q I h => ?_⟩
  rw [arm_eval_DictComp]
  have hfree : ∀ y ∈ scope.names, y.2 = .free → ∃ c, X.env.cells.lookup y.1 = some c := fun y hy e => I.ok.has _ (ok.free y hy e)
  refine wpAny_comprehension_free (use := none) rfl hs (closure_ok hfree) ok.kind (fun y hy e => by rw [ok.uniq y hy, e]) (thn (hi.run pins s σ H _ I h) fun xv s1 hx => thn hx fun itv s2 ⟨it, fp, tn, J, H2, e, I2, T, st2, f2, q⟩ => ?_)
  subst e
  refine wpAny_newObj_type (newEnv_comp ?_)
  generalize hD : s2.heap.objs.size = D
  have q := q D (I2.hok.fresh (Nat.le_of_eq hD))
  generalize hs3 : ({ s2 with heap := s2.heap.push { cls := .type "dict", data := .dict #[] } } : Shared) = s3
  have h3 : s3.heap = s2.heap.push { cls := .type "dict", data := .dict #[] } := by rw [← hs3]
  have I3 : Inv X pins σ (upd H2 D (.dK [])) s3 := by
    rw [← hs3]
    refine I2.laid (t' := s2.toks) (fun b o e => Heap.get?_push_of_some _ e) (Nat.le_of_eq hD) ?_
    rw [← hD]
    exact dk_empty s2.heap I2.big
  have f3 : ∀ b ∈ fp, FpOk X pins (upd H2 D (.dK [])) b ∧ b < s3.heap.objs.size := fun b hb => by
    obtain ⟨o, eo, _⟩ := T.obj _ _ st2 b hb
    have lt : b < s2.heap.objs.size := Heap.lt_size eo
    refine ⟨⟨?_, (f2 b hb).2⟩, by rw [h3, Heap.size_push]; exact Nat.lt_succ_of_lt lt⟩
    rw [upd_ne (by rw [← hD]; exact Nat.ne_of_lt lt)]
    exact (f2 b hb).1
  have st3 : tn 0 s3.heap := T.keep _ _ _ st2 fun b _ o eo => by rw [h3]; exact Heap.get?_push_of_some _ eo
  have I4 := block_start I3 ok hN f3
  have pg := hg s3 (upd H2 D (.dK [])) s3.heap.objs.size (cellsFrom (s3.heap.objs.size + 1) scope.names (cloFrom X.env.cells scope.names [])) fp
  have pt := ht s3 (upd H2 D (.dK [])) s3.heap.objs.size (cellsFrom (s3.heap.objs.size + 1) scope.names (cloFrom X.env.cells scope.names [])) fp
  have pi := hi1 s3 (upd H2 D (.dK [])) s3.heap.objs.size (cellsFrom (s3.heap.objs.size + 1) scope.names (cloFrom X.env.cells scope.names [])) fp
  have pg1 := hg1 s3 (upd H2 D (.dK [])) s3.heap.objs.size (cellsFrom (s3.heap.objs.size + 1) scope.names (cloFrom X.env.cells scope.names [])) fp
  have pt1 := ht1 s3 (upd H2 D (.dK [])) s3.heap.objs.size (cellsFrom (s3.heap.objs.size + 1) scope.names (cloFrom X.env.cells scope.names [])) fp
  have pk := hk s3 (upd H2 D (.dK [])) s3.heap.objs.size (cellsFrom (s3.heap.objs.size + 1) scope.names (cloFrom X.env.cells scope.names [])) fp
  have pe := he s3 (upd H2 D (.dK [])) s3.heap.objs.size (cellsFrom (s3.heap.objs.size + 1) scope.names (cloFrom X.env.cells scope.names [])) fp
  show codeAny _ _ (.compStart (dcx kx vx t0 i0 t1 i1 ifs0 ifs1 scope pos) 0 (.ref it) (.ref D) (compEnvC scope (cellsFrom (s3.heap.objs.size + 1) scope.names (cloFrom X.env.cells scope.names [])) s3.heap.objs.size X.env)) (compPost (model X.prog X.w) X.A X.xe none (EP X pins σ Q) (.ref D) s3.heap.objs.size) { s3 with heap := pushCells (s3.heap.push { cls := .type "dict", data := .dict #[] }) scope.names }
  generalize hce : compEnvC scope (cellsFrom (s3.heap.objs.size + 1) scope.names (cloFrom X.env.cells scope.names [])) s3.heap.objs.size X.env = ce at I4 pg pt pi pg1 pt1 pk pe ⊢
  have cL : ce.locals = s3.heap.objs.size := by rw [← hce]; rfl
  generalize hs4 : ({ s3 with heap := pushCells (s3.heap.push { cls := .type "dict", data := .dict #[] }) scope.names } : Shared) = s4 at I4 ⊢
  have st4 : tn 0 s4.heap := T.keep _ _ _ st3 fun b _ o eo => by rw [← hs4]; exact pushCells_keeps _ _ _ _ (Heap.get?_push_of_some _ eo)
  have loop : codeAny (model X.prog X.w) X.A (.compLoop (dcx kx vx t0 i0 t1 i1 ifs0 ifs1 scope pos) 0 (.ref it) (.ref D) ce) (compPost (model X.prog X.w) X.A X.xe none (EP X pins σ Q) (.ref D) s3.heap.objs.size) s4 := by
    refine rounds_loop (Y := X.blk s3 (upd H2 D (.dK [])) scope ce fp) (deed := deed0 kx vx t0 i0 t1 i1 ifs0 ifs1 scope pos (.ref D) ce) hc rfl rfl (fun _ _ _ h => h) (turn0 kx vx t0 i0 t1 i1 ifs0 ifs1 scope pos (.ref it) (.ref D) ce) pg pt T (fun σ' H' s' I' hn b hb => ⟨hn b hb, (I'.ok.exf b hb).1, I'.ok.exfs b hb, .inl hb, fun x c eo => (I'.ok.exf b hb).2 x c eo, fun p hp => absurd (show p ∈ ([] : List (Addr × Obj)) ++ [] from hp) (by simp)⟩)
      I4 st4 (fun b hb => (f3 b hb).1.1) q (fun pl σ2 H3 s5 Nx post E I5 dd round => ?_) (fun s' H' I' q' => ?_)
    · refine deed0_wp (hs1 ce) ?_
      have a := pi.run _ s5 σ2 H3 _ I5 dd
      refine thnF a fun x s6 hx6 => thnF hx6 fun itv s7 ⟨it1, fp1, tn1, J1, H4, e1, I7, T1, st7, f7, q1⟩ => ?_
      subst e1
      have loop1 : codeAny (model X.prog X.w) X.A (.compLoop (dcx kx vx t0 i0 t1 i1 ifs0 ifs1 scope pos) 1 (.ref it1) (.ref D) ce) (fun r s' => match r with
          | .ok _ => wpAny (model X.prog X.w) X.A (again (.compLoop (dcx kx vx t0 i0 t1 i1 ifs0 ifs1 scope pos) 0 (.ref it) (.ref D) ce)) post E s'
          | .error _ => False) s7 := by
        refine rounds_loop (Y := X.blk s3 (upd H2 D (.dK [])) scope ce fp) (deed := deed1 kx vx D ce) hc rfl rfl (fun _ _ _ h => h) (turn1 kx vx t0 i0 t1 i1 ifs0 ifs1 scope pos (.ref it1) D ce) pg1 pt1 T1 (fun σ' H' s' I' hn b hb => ⟨hn b hb, (f7 b hb).2⟩)
          (I7.weak (wipe_length σ2 vs1) fun j v eo => (wipe_some eo).1) st7 (fun b hb => (f7 b hb).1) q1 (fun pl1 σ3 H6 s8 Nx1 post1 E1 I8 dd1 round1 => ?_) (fun s' H' I' nx => ?_)
        · refine deed1_wp ?_
          refine thnF (pk.run _ s8 σ3 H6 _ I8 dd1) fun kv s9 ⟨yk, H9, I9, rk, q9⟩ => ?_
          refine thnF (pe.run _ s9 σ3 H9 _ I9 q9) fun vv s10 ⟨yv, H10, I10, rv, kvs, k, ek, hD10, hz, nx⟩ => ?_
          subst ek
          exact d_dictSet (X := X.blk s3 (upd H2 D (.dK [])) scope ce fp) I10 hD10 hz rk rv fun s11 I11 => round1 σ3 _ s11 I11 rfl (fun j v eo => (wipe_some eo).1) nx
        · refine round _ H' s' I' (wipe_length σ2 vs1) (fun j v eo => ?_) nx
          obtain ⟨e3, e4⟩ := wipe_some eo
          rw [wipe_out fun z => e4 (hv j z)]
          exact e3
      exact start1 loop1 (T1.self X.A 0 _ _ _ st7 loop1)
    · have I7 : Inv X pins σ H' s' := I3.call' (ch := fp) I'.os I'.base I'.hok I'.bare fun b hb => ⟨(f3 b hb).1.2.2.2.1, (f3 b hb).1.2.1, (f3 b hb).1.2.2.2.2.1, (f3 b hb).1.2.2.2.2.2⟩
      have nC : H' s3.heap.objs.size = none := by
        have z : H' ce.locals = none := I'.free
        rw [cL] at z
        exact z
      obtain ⟨m, hn, _⟩ := I'.loc
      have hn : s'.heap.Ns ce.locals m := hn
      rw [cL] at hn
      obtain ⟨a0, a1, a2, a3, a4, a5⟩ := I3.fpOk (H' := H') (Nat.le_refl _) nC
      exact ⟨m, hn, fun h'' sb => ⟨.ref D, H', I7.turned (t' := s'.toks) (fun b o hb eo => (sb.2 b hb).trans eo) a0 a1 a3 a4 a5, rfl, q'⟩⟩
  exact codeAny_compStart_dict loop (T.self X.A 0 _ _ _ st4 loop)
end
/-- any walk, by what holds before its turn i -/
theorem rounds_it {J : It} {n : Nat} {G : Hp → Prop} {Y : Nat → Hp → V → Hp → Prop} {g : TG} {tt : TT} {σ : L2.St} {vs : List Nat} {dd : L2.St → Hp → (Hp → Prop) → Prop} {H0 : Hp} {fin : Hp → Prop} (w : Walk J n G Y) (Pv : Nat → Hp → Prop) (h0 : Pv 0 H0) (hG : ∀ i H, i ≤ n → Pv i H → G H)
    (hs : ∀ i x H H', i < n → Pv i H → Y i H x H' → g x (wipe σ vs) H' fun σ2 H2 => wipe σ2 vs = wipe σ vs ∧ tt σ2 H2 fun b H3 => if b = true then dd σ2 H3 (Pv (i + 1)) else Pv (i + 1) H3) (hd : ∀ H, Pv n H → fin H) : Rounds J g tt σ vs dd H0 fin := by
  refine ⟨fun i m H => m + i = n ∧ Pv i H, ⟨n, rfl, h0⟩, fun i m H ⟨e, p⟩ => ?_⟩
  have hi : i ≤ n := by omega
  by_cases hlt : i < n
  · exact .inr ⟨w.goes i H hlt (hG i H hi p), Pv (i + 1), fun H' p' => ⟨m - 1, by omega, by omega, p'⟩, fun x H' y => hs i x H H' hlt p (w.yields i H x H' hlt (hG i H hi p) y)⟩
  · obtain rfl : i = n := by omega
    exact .inl ⟨w.stops H (hG i H hi p), hd H p⟩
/-- the same for the one-clause comprehensions and the list of two clauses -/
theorem tDc_of {wi : TI} {g : TG} {tt : TT} {tk tv : TE} {vs : List Nat} {σ : L2.St} {H : Hp} {Q : VK} (h : wi σ H fun J H1 => ∀ D, H1 D = none → Rounds J g tt σ vs (fun σ2 H3 Nx => tk σ2 H3 fun y H4 => tv σ2 H4 fun z H5 => ∃ kvs k, y = kV k ∧ H5 D = some (.dK kvs) ∧ kvs.length < sizeLine ∧ Nx (upd H5 D (.dK (putK kvs k z)))) (upd H1 D (.dK [])) (Q (.ref D))) : tDc wi g tt tk tv vs σ H Q := h
theorem tLc2_of {wi wi1 : TI} {g g1 : TG} {tt tt1 : TT} {te : TE} {vs vs1 : List Nat} {σ : L2.St} {H : Hp} {Q : VK} (h : wi σ H fun J H1 => ∀ D, H1 D = none → Rounds J g tt σ vs (fun σ2 H3 Nx => wi1 σ2 H3 fun J1 H4 => Rounds J1 g1 tt1 σ2 vs1 (fun σ3 H6 Nx1 => te σ3 H6 fun y H7 => ∃ acc, H7 D = some (.lst acc) ∧ acc.length < sizeLine ∧ Nx1 (upd H7 D (.lst (acc ++ [y])))) H4 Nx) (upd H1 D (.lst [])) (Q (.ref D))) : tLc2 wi g tt wi1 g1 tt1 te vs vs1 σ H Q := h

abbrev sThings : Stmt := meth 32 46
abbrev sNumbersOf : Stmt := meth 32 47
abbrev sNameOf : Stmt := meth 32 48
abbrev sRegistrations : Stmt := meth 32 23
/-- the things of the tables, in the order in which they are met -/
def rowThings (acc : List Int) : List (Option Int) → List Int
  | [] => acc
  | none :: l => rowThings acc l
  | some t :: l => rowThings (qAdd t acc) l
def thingsOf (S : Sys) : List Int → List Int → List Int
  | acc, [] => acc
  | acc, p :: ps => thingsOf S (rowThings acc (S.tab p)) ps
theorem rowThings_app (acc : List Int) (l : List (Option Int)) (x : Option Int) : rowThings acc (l ++ [x]) = match x with
    | none => rowThings acc l
    | some t => qAdd t (rowThings acc l) := by
  induction l generalizing acc with
  | nil => cases x <;> rfl
  | cons y l ih => cases y <;> exact ih _
theorem thingsOf_app (S : Sys) (acc ps : List Int) (p : Int) : thingsOf S acc (ps ++ [p]) = rowThings (thingsOf S acc ps) (S.tab p) := by
  induction ps generalizing acc with
  | nil => rfl
  | cons y l ih => exact ih _
theorem qAdd_len (t : Int) (l : List Int) : (qAdd t l).length ≤ l.length + 1 := by
  unfold qAdd
  split
  · omega
  · rw [List.length_append]
    exact Nat.le_refl _
theorem rowThings_len (acc : List Int) (l : List (Option Int)) : (rowThings acc l).length ≤ acc.length + l.length := by
  induction l generalizing acc with
  | nil => exact Nat.le_refl _
  | cons y l ih =>
    rw [List.length_cons]
    cases y with
    | none =>
      have h : (rowThings acc (none :: l)).length ≤ acc.length + l.length := ih acc
      omega
    | some t =>
      have h : (rowThings acc (some t :: l)).length ≤ (qAdd t acc).length + l.length := ih _
      have := qAdd_len t acc
      omega
def trueKV (ls : List Int) : List (Key × V) := ls.map fun t => (Sum.inl t, .bl true)
theorem true_put (ls : List Int) (t : Int) : putK (trueKV ls) (Sum.inl t) (.bl true) = trueKV (qAdd t ls) := by
  have any : ∀ l : List Int, (valV (trueKV l) (Sum.inl t)).isSome = decide (t ∈ l) := fun l => by
    induction l with
    | nil => rfl
    | cons x l ih =>
      unfold trueKV at ih ⊢
      rw [List.map_cons]
      by_cases h : x = t
      · subst h
        rw [valV_pos rfl, decide_eq_true List.mem_cons_self]
        rfl
      · rw [valV_neg (fun z => h (Sum.inl.inj z)), ih]
        exact decide_eq_decide.mpr ⟨fun z => List.mem_cons_of_mem _ z, fun z => (List.mem_cons.mp z).elim (fun e => absurd e.symm h) id⟩
  unfold putK qAdd
  rw [valV_any, any]
  by_cases h : t ∈ ls
  · rw [decide_eq_true h, if_pos h]
    show List.map _ (trueKV ls) = _
    unfold trueKV
    rw [List.map_map]
    refine List.map_congr_left fun x _ => ?_
    show (if (Sum.inl x : Key) = Sum.inl t then _ else _) = _
    split <;> rename_i e
    · rw [show x = t from Sum.inl.inj e]
    · rfl
  · rw [decide_eq_false h, if_neg h]
    show trueKV ls ++ _ = _
    unfold trueKV
    rw [List.map_append]
    rfl
section
variable {P : Program} {w : World} {K : PySem.W.Frag} {mg : Str → Option Value} {base : Heap} {C : Cs}
structure RegTxt (mg : Str → Option Value) : Prop where
  sorted : mg "sorted" = none
  list : mg "list" = none
  enum : mg "enumerate" = none
/-- what a system's tables ask of the heap -/
structure TabAt (C : Cs) (H : Hp) (S : Sys) (ad dx : Cell → Addr) : Prop where
  box : H (ad .box) = some (co C S ad dx .box)
  tabD : H (ad .tabD) = some (co C S ad dx .tabD)
  tab : ∀ p ∈ S.procs, H (ad (.tab p)) = some (co C S ad dx (.tab p))
theorem At.tabAt {H : Hp} {S : Sys} {ad dx : Cell → Addr} (A : At C H S ad dx) : TabAt C H S ad dx := ⟨A.at_ _ trivial, A.at_ _ trivial, fun p hp => A.at_ (.tab p) hp⟩
theorem TabAt.same {H H' : Hp} {S : Sys} {ad dx : Cell → Addr} (A : TabAt C H S ad dx) (s : Same H H') : TabAt C H' S ad dx := ⟨s _ _ A.box, s _ _ A.tabD, fun p hp => s _ _ (A.tab p hp)⟩
def OnTab (C : Cs) (vs : List V) (H : Hp) (rest : List V) (k : Sys → (Cell → Addr) → (Cell → Addr) → Prop) : Prop := ∃ (S : Sys) (ad dx : Cell → Addr), vs = .ref (ad .box) :: rest ∧ TabAt C H S ad dx ∧ k S ad dx
def spThings (C : Cs) : Sp := fun vs H Q _ => OnTab C vs H [] fun S ad _ => S.procs.length ≤ 6 ∧ (∀ p ∈ S.procs, (S.tab p).length ≤ 8) ∧
  ∀ (ys : List Int) (H' : Hp) (r : Addr), ys.Perm S.procs → ys.Pairwise (· ≤ ·) → Same H H' → H r = none → H' r = some (.lst ((thingsOf S [] ys).map V.int)) → Q (.ref r) H'
abbrev nThings : List Str := ["self", "tables", "process", "table", "thing"]
theorem scThings : FnScope nThings ["self"] (defScope sThings) := ⟨rfl, rfl, rfl, by decide +kernel, rfl, by decide +kernel, by decide +kernel⟩
theorem okThings {f : Addr} {fd : FuncData} (F : Fun K "things" "System.things" sThings f fd) (X : RegTxt mg) (T : ClsF K C.S sysF) : FnOk P w K mg base CX0 1 f fd ["self"] (spThings C) := by
  refine F.ok scThings (fun vs H Q E h => ?_) (fun cdv A outer s H vs Q E hr h => ?_)
  · obtain ⟨_, _, _, rfl, _⟩ := h
    rfl
  · obtain ⟨S, ad, dx, rfl, A0, hp, ht, k⟩ := h
    have hu := hu_of hr
    refine ⟨_, pss_cut (ps_setLc (i := 1) (own := [("process", 2)]) (g := gName 2) (tt := tYes) (te := tDGet (tFld K (tVar 0) "tables") (tVar 2)) rfl scThings.nd rfl rfl rfl (pi_list (pe_callB (call_sortedDI rfl) (by rfl) X.sorted (by decide +kernel) (pa_cons (pe_fld (pv 0) rfl) pa_nil))) (blkOk_by (N := nThings) (sc := defScope sThings) (by decide +kernel))
        (fun _ _ _ _ _ => pg_name (i := 2) scThings.nd rfl (Or.inl rfl)) (fun _ _ _ _ _ => pts_nil) (fun _ _ _ _ _ => pe_dget hu (pe_fld (pv 0) rfl) (pv 2) (fun _ _ => rfl)))
      (pss_one (ps_ret (pe_callTy (call_listD rfl) (by rfl) X.list (by decide +kernel) (pa_cons (pe_dc2 (own := [("table", 3), ("thing", 4)]) (vs1 := [4]) (g := gName 3) (tt := tYes) (wi1 := iList K (tVar 3)) (g1 := gName 4) (tt1 := tTest (tOp rNotN (tVar 4) (tC .non))) (tk := tVar 4) (tv := tC (.bl true)) rfl scThings.nd (pi_list (pv 1)) (blkOk_by (N := nThings) (sc := defScope sThings) (by decide +kernel)) (by decide)
        (fun _ _ _ _ _ => pg_name (i := 3) scThings.nd rfl (Or.inl rfl)) (fun _ _ _ _ _ => pts_nil) (fun _ _ _ _ _ => pi_list (pv 3)) (fun _ _ _ _ _ => pg_name (i := 4) scThings.nd rfl (Or.inl rfl)) (fun _ _ _ _ _ => pts_one (pt_cmpR oNotN (pv 4) pe_non (nomark _))) (fun _ _ _ _ _ => pv 4) (fun _ _ _ _ _ => pe_bl)) pa_nil)))), ?_⟩
    have hb := A0.box
    refine ⟨fun σ' H1 => ∃ (ys : List Int) (a : Addr), ys.Perm S.procs ∧ ys.Pairwise (· ≤ ·) ∧ σ' = [some (.ref (ad .box)), some (.ref a), none, none, none] ∧ Same H H1 ∧ H1 a = some (.lst (ys.map fun p => .ref (ad (.tab p)))), ?_, ?_⟩
    · walk_at "wn"
      unfold tLc iList
      walk_at "wn"
      refine ⟨_, rfl, ad .box, C.S, dx .box, _, _, rfl, hb, T.cl, T.no _ (by decide), rfl, ?_⟩
      walk_at "wn"
      refine ⟨ad .tabD, _, S.procs, rfl, .inl (A0.tabD), by unfold entKV; rw [List.map_map]; rfl, by omega, fun ys q pm pw hq => ?_⟩
      have s1 := Same.new' (o := .lst (ys.map V.int)) hq
      refine ⟨q, rfl, ⟨_, SqL.of upd_same⟩, fun D hD => ?_⟩
      refine lc_list (K := K) (a := q) (xs := ys.map V.int) (fun i H' => Same (upd H q (.lst (ys.map V.int))) H' ∧ H' D = some (.lst ((ys.take i).map fun p => .ref (ad (.tab p))))) ⟨Same.new' hD, upd_same⟩ (fun i H' _ h => SqL.of (h.1 _ _ upd_same)) ?_ ?_
      · rintro i v H' hv ⟨sm, hd⟩
        rw [List.getElem?_map] at hv
        cases ey : ys[i]? with
        | none => rw [ey] at hv; cases hv
        | some p =>
        rw [ey] at hv
        cases hv
        have hin : p ∈ S.procs := pm.mem_iff.mp (List.mem_of_getElem? ey)
        have hv : valV (entKV S.procs fun p => ad (.tab p)) (Sum.inl p) = some (.ref (ad (.tab p))) := by rw [ent_val, if_pos hin]
        have s2 := s1.trans sm
        walk_at "wn"
        refine ⟨rfl, ?_⟩
        have lp := pm.length_eq
        refine ⟨_, rfl, ad .box, C.S, dx .box, _, _, rfl, s2 _ _ hb, T.cl, T.no _ (by decide), rfl, _, rfl, ad .tabD, _, rfl, hv ▸ DGet.k (k := Sum.inl p) (s2 _ _ (A0.tabD)), _, hd, ?_, fun b o e => ?_, ?_⟩
        · rw [List.length_map, List.length_take, sizeLine_eq]
          omega
        · rw [upd_ne (ne_of_none e hD)]
          exact sm _ _ e
        · rw [upd_same, List.take_add_one, ey, Option.toList_some, List.map_append]
          rfl
      · rintro H' ⟨sm, hd⟩
        rw [List.length_map, List.take_length] at hd
        walk_at "wn"
        exact ⟨ys, D, pm, pw, rfl, s1.trans sm, hd⟩
    · rintro σ' H1 ⟨ys, a, pm, pw, rfl, sm, ha⟩
      walk_at "wn"
      show iList _ (tVar 1) _ _ _
      refine ⟨_, rfl, a, rfl, ⟨_, SqL.of ha⟩, fun D hD => ?_⟩
      have lp := pm.length_eq
      have tl : ∀ i, (thingsOf S [] (ys.take i)).length ≤ 8 * (ys.take i).length := fun i => by
        induction i with
        | zero => simp [thingsOf]
        | succ i ih =>
          rw [List.take_add_one]
          cases ey : ys[i]? with
          | none => rw [Option.toList_none, List.append_nil]; exact ih
          | some p =>
            rw [Option.toList_some, thingsOf_app, List.length_append]
            have a1 := rowThings_len (thingsOf S [] (ys.take i)) (S.tab p)
            have a2 := ht p (pm.mem_iff.mp (List.mem_of_getElem? ey))
            show _ ≤ 8 * (_ + 1)
            omega
      refine rounds_it (walk_list (K := K) (xs := ys.map fun p => .ref (ad (.tab p)))) (fun i H' => Same H1 H' ∧ H' D = some (.dK (trueKV (thingsOf S [] (ys.take i))))) ⟨Same.new' hD, upd_same⟩ (fun i H' _ h => SqL.of (h.1 _ _ ha)) ?_ ?_
      · rintro i x H2 H3 hi ⟨sm2, hd⟩ ⟨rfl, ex⟩
        rw [List.getElem?_map] at ex
        cases ey : ys[i]? with
        | none => rw [ey] at ex; cases ex
        | some p =>
        rw [ey] at ex
        cases ex
        have hin : p ∈ S.procs := pm.mem_iff.mp (List.mem_of_getElem? ey)
        have row := A0.tab p hin
        have li := tl i
        have le : (ys.take i).length ≤ 6 := by rw [List.length_take]; omega
        have l8 := ht p hin
        walk_at "wn"
        refine ⟨rfl, ?_⟩
        walk_at "wn"
        refine ⟨_, rfl, ad (.tab p), rfl, ⟨_, SqL.of (sm2 _ _ (sm _ _ row))⟩, ?_⟩
        refine rounds_it (walk_list (K := K) (xs := (S.tab p).map optV)) (fun j H' => Same H1 H' ∧ H' D = some (.dK (trueKV (rowThings (thingsOf S [] (ys.take i)) ((S.tab p).take j))))) ⟨sm2, hd⟩ (fun j H' _ h => SqL.of (h.1 _ _ (sm _ _ row))) ?_ ?_
        · rintro j x H4 H5 hj ⟨sm4, hd4⟩ ⟨rfl, ex⟩
          rw [List.getElem?_map] at ex
          cases et : (S.tab p)[j]? with
          | none => rw [et] at ex; cases ex
          | some o =>
          rw [et] at ex
          cases ex
          rw [List.take_add_one, et, Option.toList_some, rowThings_app]
          walk_at "wn"
          refine ⟨rfl, ?_⟩
          cases o with
          | none =>
            walk_at "wn"
            exact ⟨sm4, hd4⟩
          | some t =>
            walk_at "wn"
            refine ⟨_, rfl, _, Sum.inl t, rfl, hd4, ?_, fun b q e => ?_, ?_⟩
            · have := rowThings_len (thingsOf S [] (ys.take i)) ((S.tab p).take j)
              rw [List.length_take] at this
              unfold trueKV
              rw [List.length_map, sizeLine_eq]
              omega
            · rw [upd_ne (ne_of_none e hD)]
              exact sm4 _ _ e
            · rw [upd_same, true_put]
        · rintro H' ⟨sm4, hd4⟩
          rw [List.length_map, List.take_length] at hd4
          refine ⟨sm4, ?_⟩
          rw [List.take_add_one, ey, Option.toList_some, thingsOf_app]
          exact hd4
      · rintro H' ⟨sm2, hd⟩
        rw [List.length_map, List.take_length] at hd
        walk_at "wn"
        refine ⟨D, _, rfl, .inl hd, fun r hr => ?_⟩
        have e : (trueKV (thingsOf S [] ys)).map (fun kv => kV kv.1) = (thingsOf S [] ys).map V.int := by
          unfold trueKV
          rw [List.map_map]
          rfl
        rw [e]
        exact k ys _ r pm pw ((sm.trans sm2).trans (Same.new' hr)) ((sm.trans sm2).free hr) upd_same
end

/-- the places of a thing: in one row from the index k on, and in the tables -/
def rowAt (t p : Int) : Nat → List (Option Int) → List (Int × Nat)
  | _, [] => []
  | k, x :: l => if x = some t then (p, k) :: rowAt t p (k + 1) l else rowAt t p (k + 1) l
def placesIn (S : Sys) (t : Int) : List Int → List (Int × Nat)
  | [] => []
  | p :: ps => rowAt t p 0 (S.tab p) ++ placesIn S t ps
theorem rowAt_app (t p : Int) (x : Option Int) : ∀ (l : List (Option Int)) (k : Nat), rowAt t p k (l ++ [x]) = rowAt t p k l ++ (if x = some t then [(p, k + l.length)] else [])
  | [], k => by
    show (if x = some t then (p, k) :: [] else []) = [] ++ _
    split <;> rfl
  | y :: l, k => by
    have ih := rowAt_app t p x l (k + 1)
    rw [Nat.add_right_comm k 1 l.length, Nat.add_assoc] at ih
    show (if y = some t then (p, k) :: rowAt t p (k + 1) (l ++ [x]) else rowAt t p (k + 1) (l ++ [x])) = (if y = some t then (p, k) :: rowAt t p (k + 1) l else rowAt t p (k + 1) l) ++ _
    rw [ih]
    split <;> rfl
theorem placesIn_app (S : Sys) (t p : Int) : ∀ ps : List Int, placesIn S t (ps ++ [p]) = placesIn S t ps ++ rowAt t p 0 (S.tab p)
  | [] => by
    show rowAt t p 0 (S.tab p) ++ [] = [] ++ _
    rw [List.append_nil]
    rfl
  | q :: ps => by
    show rowAt t q 0 (S.tab q) ++ placesIn S t (ps ++ [p]) = (rowAt t q 0 (S.tab q) ++ placesIn S t ps) ++ _
    rw [placesIn_app S t p ps, List.append_assoc]
theorem rowAt_len (t p : Int) : ∀ (l : List (Option Int)) (k : Nat), (rowAt t p k l).length ≤ l.length
  | [], _ => Nat.le_refl _
  | x :: l, k => by
    have ih := rowAt_len t p l (k + 1)
    show (if x = some t then (p, k) :: rowAt t p (k + 1) l else rowAt t p (k + 1) l).length ≤ l.length + 1
    split
    · rw [List.length_cons]
      omega
    · omega
theorem placesIn_len {S : Sys} (t : Int) {ps : List Int} (h : ∀ p ∈ ps, (S.tab p).length ≤ 8) : (placesIn S t ps).length ≤ 8 * ps.length := by
  induction ps with
  | nil => exact Nat.le_refl _
  | cons p ps ih =>
    have a := ih fun q hq => h q (List.mem_cons_of_mem _ hq)
    have b := h p List.mem_cons_self
    have c := rowAt_len t p (S.tab p) 0
    show (rowAt t p 0 (S.tab p) ++ placesIn S t ps).length ≤ 8 * (ps.length + 1)
    rw [List.length_append]
    omega
def PlAt (H : Hp) (v : V) (r : Int × Nat) : Prop := ∃ T, v = .ref T ∧ H T = some (.tup [.int r.1, .int (r.2 : Int)])
theorem plAts_keep {H H' : Hp} {vs : List V} {rs : List (Int × Nat)} (p : Paired (PlAt H) vs rs) (s : ∀ b x y, H b = some (.tup [x, y]) → H' b = some (.tup [x, y])) : Paired (PlAt H') vs rs := by
  induction p with
  | nil => exact .nil
  | cons r _ ih =>
    obtain ⟨T, h1, h2⟩ := r
    exact .cons ⟨T, h1, s _ _ _ h2⟩ ih
theorem plAts_same {H H' : Hp} {vs : List V} {rs : List (Int × Nat)} (p : Paired (PlAt H) vs rs) (s : Same H H') : Paired (PlAt H') vs rs := plAts_keep p fun b x y h => s _ _ h
theorem plAts_snoc {H : Hp} {vs : List V} {rs : List (Int × Nat)} {v : V} {r : Int × Nat} (p : Paired (PlAt H) vs rs) (h : PlAt H v r) : Paired (PlAt H) (vs ++ [v]) (rs ++ [r]) := by
  induction p with
  | nil => exact .cons h .nil
  | cons q _ ih => exact .cons q ih
section
variable {P : Program} {w : World} {K : PySem.W.Frag} {mg : Str → Option Value} {base : Heap} {C : Cs}
def spNumbersOf (C : Cs) : Sp := fun vs H Q _ => ∃ t : Int, OnTab C vs H [.int t] fun S ad _ => S.procs.length ≤ 6 ∧ (∀ p ∈ S.procs, (S.tab p).length ≤ 8) ∧
  ∀ (ys : List Int) (H' : Hp) (r : Addr) (rs : List V), ys.Perm S.procs → ys.Pairwise (· ≤ ·) → Same H H' → H r = none → H' r = some (.lst rs) → Paired (PlAt H') rs (placesIn S t ys) → Q (.ref r) H'
abbrev nNumsOf : List Str := ["self", "thing", "process", "number", "meant"]
theorem scNumsOf : FnScope nNumsOf ["self", "thing"] (defScope sNumbersOf) := ⟨rfl, rfl, rfl, by decide +kernel, rfl, by decide +kernel, by decide +kernel⟩
theorem okNumbersOf {f : Addr} {fd : FuncData} (F : Fun K "numbers_of" "System.numbers_of" sNumbersOf f fd) (X : RegTxt mg) (T : ClsF K C.S sysF) : FnOk P w K mg base CX0 1 f fd ["self", "thing"] (spNumbersOf C) := by
  refine F.ok scNumsOf (fun vs H Q E h => ?_) (fun cdv A outer s H vs Q E hr h => ?_)
  · obtain ⟨_, _, _, _, rfl, _⟩ := h
    rfl
  · obtain ⟨t, S, ad, dx, rfl, A0, hp, ht, k⟩ := h
    have hu := hu_of hr
    refine ⟨_, pss_one (ps_ret (pe_lc2 (own := [("process", 2), ("number", 3), ("meant", 4)]) (vs1 := [3, 4]) (g := gName 2) (tt := tYes) (wi1 := iEnum K (tCons (tDGet (tFld K (tVar 0) "tables") (tVar 2)) tNil)) (g1 := gTup K 2 (gCons (gName 3) (gCons (gName 4) gNil))) (tt1 := tTest (tOp rEq (tVar 4) (tVar 1))) (te := tTup (tCons (tVar 2) (tCons (tVar 3) tNil)))
        rfl scNumsOf.nd (pi_list (pe_callB (call_sortedDI rfl) (by rfl) X.sorted (by decide +kernel) (pa_cons (pe_fld (pv 0) rfl) pa_nil))) (blkOk_by (N := nNumsOf) (sc := defScope sNumbersOf) (by decide +kernel)) (by decide)
        (fun _ _ _ _ _ => pg_name (i := 2) scNumsOf.nd rfl (Or.inl rfl)) (fun _ _ _ _ _ => pts_nil) (fun _ _ _ _ _ => pi_enum (by rfl) X.enum (pa_cons (pe_dget hu (pe_fld (pv 0) rfl) (pv 2) (fun _ _ => rfl)) pa_nil))
        (fun _ _ _ _ _ => pg_tup rfl (pgs_cons (pg_name (i := 3) scNumsOf.nd rfl (Or.inl rfl)) (pgs_cons (pg_name (i := 4) scNumsOf.nd rfl (Or.inl rfl)) pgs_nil))) (fun _ _ _ _ _ => pts_one (pt_cmpR op_eq (pv 4) (pv 1) (nomark _))) (fun _ _ _ _ _ => pe_tup (pa_cons (pv 2) (pa_cons (pv 3) pa_nil))))), ?_⟩
    have hb := A0.box
    walk_at "wn"
    refine tLc2_of ?_
    unfold iList
    walk_at "wn"
    refine ⟨_, rfl, ad .box, C.S, dx .box, _, _, rfl, hb, T.cl, T.no _ (by decide), rfl, ?_⟩
    walk_at "wn"
    refine ⟨ad .tabD, _, S.procs, rfl, .inl (A0.tabD), by unfold entKV; rw [List.map_map]; rfl, by omega, fun ys q pm pw hq => ?_⟩
    have s1 := Same.new' (o := .lst (ys.map V.int)) hq
    have lp := pm.length_eq
    have hty : ∀ i, ∀ p ∈ ys.take i, (S.tab p).length ≤ 8 := fun i p hp => ht p (pm.mem_iff.mp (List.mem_of_mem_take hp))
    refine ⟨q, rfl, ⟨_, SqL.of upd_same⟩, fun D hD => ?_⟩
    generalize hH1 : upd H q (.lst (ys.map V.int)) = H1 at s1 hD ⊢
    have hq1 : H1 q = some (.lst (ys.map V.int)) := by rw [← hH1]; exact upd_same
    refine rounds_it (walk_list (K := K) (xs := ys.map V.int)) (fun i H' => ∃ rs, Same H1 H' ∧ H' D = some (.lst rs) ∧ Paired (PlAt H') rs (placesIn S t (ys.take i))) ⟨[], Same.new' hD, upd_same, .nil⟩ (fun i H' _ ⟨_, sm, _⟩ => SqL.of (sm _ _ hq1)) ?_ ?_
    · rintro i x H2 H3 hi ⟨rs, sm, hd, pr⟩ ⟨rfl, ex⟩
      rw [List.getElem?_map] at ex
      cases ey : ys[i]? with
      | none => rw [ey] at ex; cases ex
      | some p =>
      rw [ey] at ex
      cases ex
      have hin : p ∈ S.procs := pm.mem_iff.mp (List.mem_of_getElem? ey)
      have hv : valV (entKV S.procs fun p => ad (.tab p)) (Sum.inl p) = some (.ref (ad (.tab p))) := by rw [ent_val, if_pos hin]
      have row := s1 _ _ (A0.tab p hin)
      have hb1 := s1 _ _ hb
      have hT1 := s1 _ _ (A0.tabD)
      have l8 := ht p hin
      have li := placesIn_len t (hty i)
      have le : (ys.take i).length ≤ 6 := by rw [List.length_take]; omega
      walk_at "wn"
      refine ⟨rfl, ?_⟩
      walk_at "wn"
      refine ⟨_, rfl, ad .box, C.S, dx .box, _, _, rfl, sm _ _ hb1, T.cl, T.no _ (by decide), rfl, _, rfl, ad .tabD, _, rfl, hv ▸ DGet.k (k := Sum.inl p) (sm _ _ hT1), ?_⟩
      refine ⟨ad (.tab p), _, rfl, SqL.of (sm _ _ row), ?_⟩
      refine rounds_it (walk_enum (xs := (S.tab p).map optV)) (fun j H' => ∃ rs, Same H1 H' ∧ H' D = some (.lst rs) ∧ Paired (PlAt H') rs (placesIn S t (ys.take i) ++ rowAt t p 0 ((S.tab p).take j))) ⟨rs, sm, hd, by rw [List.take_zero]; show Paired _ _ (_ ++ []); rw [List.append_nil]; exact pr⟩ (fun j H' _ ⟨_, sm, _⟩ => SqL.of (sm _ _ row)) ?_ ?_
      · rintro j x H4 H5 hj ⟨rs, sm, hd, pr⟩ ⟨T1, x1, y1, rfl, nT, rfl, ex, ey1⟩
        have s2 := Same.new' (o := .tup [x1, y1]) nT
        obtain rfl := Option.some.inj ex
        have ey1 : ((S.tab p).map optV)[j]? = some y1 := ey1
        rw [List.getElem?_map] at ey1
        cases et : (S.tab p)[j]? with
        | none => rw [et] at ey1; cases ey1
        | some o =>
        rw [et] at ey1
        cases ey1
        have jl : ((S.tab p).take j).length = j := by
          have := (List.getElem?_eq_some_iff.mp et).1
          rw [List.length_take]
          omega
        rw [List.take_add_one, et, Option.toList_some, rowAt_app, jl, Nat.zero_add, ← List.append_assoc]
        have hd1 := s2 _ _ hd
        have pr1 := plAts_same pr s2
        have sm1 := sm.trans s2
        refine ⟨T1, _, rfl, SqT.of upd_same, rfl, _, _, rfl, ?_⟩
        walk_at "wn"
        refine ⟨_, _, rfl, ?_⟩
        walk_at "wn"
        refine ⟨rfl, rfl, ?_⟩
        generalize upd H4 T1 (.tup [V.int (j : Int), optV o]) = H6 at sm1 hd1 pr1
        have sc : scal (optV o) (.int t) = true := by cases o <;> rfl
        have dc : decide (optV o = .int t) = decide (o = some t) := by
          cases o with
          | none => rfl
          | some u => exact decide_eq_decide.mpr ⟨fun z => by rw [V.int.inj z], fun z => by rw [Option.some.inj z]; rfl⟩
        walk_at "wn"
        refine ⟨sc, _, rfl, ?_⟩
        rw [dc]
        by_cases ho : o = some t
        · subst ho
          rw [if_pos rfl, decide_eq_true rfl]
          refine iteT ?_
          walk_at "wn"
          refine ⟨by show 2 ≤ sizeLine; decide, fun T2 hT2 => ?_⟩
          have nT2 : T2 ≠ D := fun z => by rw [z, hd1] at hT2; cases hT2
          have s3 := Same.new' (o := .tup [.int p, .int (j : Int)]) hT2
          have kp : ∀ b x y, upd H6 T2 (.tup [.int p, .int (j : Int)]) b = some (.tup [x, y]) → upd (upd H6 T2 (.tup [.int p, .int (j : Int)])) D (.lst (rs ++ [.ref T2])) b = some (.tup [x, y]) := fun b x y h => by
            rw [upd_ne (fun z => by rw [z, upd_ne (Ne.symm nT2), hd1] at h; cases h)]
            exact h
          refine ⟨rs, s3 _ _ hd1, ?_, _, fun b o z => ?_, upd_same, plAts_snoc (plAts_keep (plAts_same pr1 s3) kp) ⟨T2, rfl, kp _ _ _ upd_same⟩⟩
          · have h1 := pr1.length
            rw [List.length_append] at h1
            have h2 := rowAt_len t p ((S.tab p).take j) 0
            rw [List.length_take] at h2
            rw [sizeLine_eq]
            omega
          · rw [upd_ne (fun y => by rw [y] at z; rw [hD] at z; cases z)]
            exact (sm1.trans s3) b o z
        · rw [if_neg ho, decide_eq_false ho, List.append_nil]
          refine iteF ?_
          exact ⟨rs, sm1, hd1, pr1⟩
      · rintro H' ⟨rs, sm, hd, pr⟩
        rw [List.length_map, List.take_length] at pr
        refine ⟨rs, sm, hd, ?_⟩
        rw [List.take_add_one, ey, Option.toList_some, placesIn_app]
        exact pr
    · rintro H' ⟨rs, sm, hd, pr⟩
      rw [List.length_map, List.take_length] at pr
      exact k ys _ D rs pm pw (s1.trans sm) (s1.free hD) hd pr
def spNameOf (C : Cs) : Sp := fun vs H Q _ => ∃ t : Int, OnTab C vs H [.int t] fun S ad _ => S.procs.length ≤ 6 ∧ (∀ p ∈ S.procs, (S.tab p).length ≤ 8) ∧ (∃ p ∈ S.procs, ∃ n : Nat, (S.tab p)[n]? = some (some t)) ∧
  ∀ (ys : List Int) (H' : Hp) (v : V) (r : Int × Nat), ys.Perm S.procs → ys.Pairwise (· ≤ ·) → Same H H' → (placesIn S t ys)[0]? = some r → PlAt H' v r → Q v H'
theorem scNameOf : FnScope ["self", "thing"] ["self", "thing"] (defScope sNameOf) := ⟨rfl, rfl, rfl, by decide +kernel, rfl, by decide +kernel, by decide +kernel⟩
theorem rowAt_some {t p : Int} : ∀ {l : List (Option Int)} {n k : Nat}, l[n]? = some (some t) → rowAt t p k l ≠ []
  | x :: l, 0, k, h => by
    rw [List.getElem?_cons_zero] at h
    cases h
    show (if some t = some t then _ else _) ≠ []
    rw [if_pos rfl]
    exact fun z => by cases z
  | x :: l, n + 1, k, h => by
    rw [List.getElem?_cons_succ] at h
    have ih := rowAt_some (p := p) (k := k + 1) h
    show (if x = some t then _ else _) ≠ []
    split
    · exact fun z => by cases z
    · exact ih
theorem placesIn_some {S : Sys} {t p : Int} {n : Nat} (h : (S.tab p)[n]? = some (some t)) : ∀ {ps : List Int}, p ∈ ps → placesIn S t ps ≠ []
  | q :: ps, hp => by
    show rowAt t q 0 (S.tab q) ++ placesIn S t ps ≠ []
    rcases List.mem_cons.mp hp with e | e
    · subst e
      exact fun z => rowAt_some h (List.append_eq_nil_iff.mp z).1
    · exact fun z => placesIn_some h e (List.append_eq_nil_iff.mp z).2
theorem okNameOf {f fN : Addr} {fd fdN : FuncData} (F : Fun K "name_of" "System.name_of" sNameOf f fd) (T : ClsF K C.S sysF) (GN : MO P w K mg base 1 C.S "numbers_of" ["self", "thing"] (spNumbersOf C) fN fdN) : FnOk P w K mg base CX0 2 f fd ["self", "thing"] (spNameOf C) := by
  refine F.ok scNameOf (fun vs H Q E h => ?_) (fun cdv A outer s H vs Q E hr h => ?_)
  · obtain ⟨_, _, _, _, rfl, _⟩ := h
    rfl
  · obtain ⟨t, S, ad, dx, rfl, A0, hp, ht, ⟨p, hpS, n, hn⟩, k⟩ := h
    refine ⟨_, pss_one (ps_ret (pe_ix ix_list (pe_meth (pv 0) T.cl GN.m GN.g hr GN.b .nil pass0 (pa_cons (pv 1) pa_nil)) pe_int (fun _ _ => rfl))), ?_⟩
    have hb := A0.box
    walk_at "wn"
    refine ⟨_, rfl, ad .box, dx .box, _, rfl, hb, rfl, ?_⟩
    walk_at "wn"
    refine ⟨t, S, ad, dx, rfl, A0, hp, ht, fun ys H' r rs pm pw sm nr hrs pr => ?_⟩
    walk_at "wn"
    have ne := placesIn_some hn (pm.mem_iff.mpr hpS)
    have kk := k ys H'
    generalize placesIn S t ys = pl at pr ne kk
    cases pr with
    | nil => exact absurd rfl ne
    | @cons v1 r1 vs1 rs1 a b =>
      refine ⟨r, _, _, _, rfl, rfl, SqL.of hrs, atI_nat (xs := v1 :: vs1) (v := v1) (j := 0) rfl, kk v1 r1 pm pw sm rfl a⟩
end

theorem sort_uniq : ∀ {a b : List Int}, a.Perm b → a.Pairwise (· ≤ ·) → b.Pairwise (· ≤ ·) → a = b
  | [], b, p, _, _ => (List.nil_perm.mp p).symm
  | x :: a, [], p, _, _ => absurd p.length_eq (by simp)
  | x :: a, y :: b, p, ha, hb => by
    obtain ⟨h1, h2⟩ := List.pairwise_cons.mp ha
    obtain ⟨h3, h4⟩ := List.pairwise_cons.mp hb
    have e : x = y := by
      have m1 : x ∈ y :: b := p.mem_iff.mp List.mem_cons_self
      have m2 : y ∈ x :: a := p.mem_iff.mpr List.mem_cons_self
      rcases List.mem_cons.mp m1 with e | e
      · exact e
      · rcases List.mem_cons.mp m2 with e2 | e2
        · exact e2.symm
        · have := h3 x e
          have := h1 y e2
          omega
    subst e
    rw [sort_uniq ((List.perm_cons x).mp p) h2 h4]
theorem mem_qAdd {t u : Int} {l : List Int} : t ∈ qAdd u l ↔ t = u ∨ t ∈ l := by
  unfold qAdd
  split <;> rename_i h
  · exact ⟨.inr, fun z => z.elim (fun e => e ▸ h) id⟩
  · rw [List.mem_append, List.mem_singleton]
    exact ⟨fun z => z.symm, fun z => z.symm⟩
theorem qAdd_nodup {u : Int} {l : List Int} (h : l.Nodup) : (qAdd u l).Nodup := by
  unfold qAdd
  split <;> rename_i h2
  · exact h
  · exact List.nodup_append.mpr ⟨h, by simp, fun a ha b hb e => h2 (by rw [List.mem_singleton] at hb; rw [← hb, ← e]; exact ha)⟩
theorem mem_row {t : Int} : ∀ {l : List (Option Int)} {acc : List Int}, t ∈ rowThings acc l ↔ t ∈ acc ∨ ∃ n : Nat, l[n]? = some (some t)
  | [], acc => ⟨.inl, fun z => z.elim id fun ⟨n, h⟩ => by simp at h⟩
  | x :: l, acc => by
    have sh : (∃ n : Nat, (x :: l)[n]? = some (some t)) ↔ x = some t ∨ ∃ n : Nat, l[n]? = some (some t) := ⟨fun ⟨n, h⟩ => by
      cases n with
      | zero => exact .inl (by simpa using h)
      | succ n => exact .inr ⟨n, by simpa using h⟩, fun z => z.elim (fun e => ⟨0, by simp [e]⟩) fun ⟨n, h⟩ => ⟨n + 1, by simpa using h⟩⟩
    rw [sh]
    cases x with
    | none =>
      have ih := mem_row (t := t) (l := l) (acc := acc)
      show t ∈ rowThings acc l ↔ _
      rw [ih]
      simp
    | some u =>
      have ih := mem_row (t := t) (l := l) (acc := qAdd u acc)
      show t ∈ rowThings (qAdd u acc) l ↔ _
      rw [ih, mem_qAdd]
      constructor
      · rintro ((e | e) | e)
        · exact .inr (.inl (by rw [e]))
        · exact .inl e
        · exact .inr (.inr e)
      · rintro (e | e | e)
        · exact .inl (.inr e)
        · exact .inl (.inl (Option.some.inj e).symm)
        · exact .inr e
theorem mem_things {S : Sys} {t : Int} : ∀ {ps acc : List Int}, t ∈ thingsOf S acc ps ↔ t ∈ acc ∨ ∃ p ∈ ps, ∃ n : Nat, (S.tab p)[n]? = some (some t)
  | [], acc => ⟨.inl, fun z => z.elim id fun ⟨p, hp, _⟩ => absurd hp List.not_mem_nil⟩
  | q :: ps, acc => by
    have ih := mem_things (S := S) (t := t) (ps := ps) (acc := rowThings acc (S.tab q))
    show t ∈ thingsOf S (rowThings acc (S.tab q)) ps ↔ _
    rw [ih, mem_row]
    constructor
    · rintro ((e | e) | ⟨p, hp, e⟩)
      · exact .inl e
      · exact .inr ⟨q, List.mem_cons_self, e⟩
      · exact .inr ⟨p, List.mem_cons_of_mem _ hp, e⟩
    · rintro (e | ⟨p, hp, e⟩)
      · exact .inl (.inl e)
      · rcases List.mem_cons.mp hp with z | z
        · subst z
          exact .inl (.inr e)
        · exact .inr ⟨p, z, e⟩
theorem row_nodup : ∀ {l : List (Option Int)} {acc : List Int}, acc.Nodup → (rowThings acc l).Nodup
  | [], _, h => h
  | none :: l, _, h => row_nodup (l := l) h
  | some _ :: l, _, h => row_nodup (l := l) (qAdd_nodup h)
theorem things_nodup {S : Sys} : ∀ {ps acc : List Int}, acc.Nodup → (thingsOf S acc ps).Nodup
  | [], _, h => h
  | _ :: ps, _, h => things_nodup (ps := ps) (row_nodup h)
theorem things_len {S : Sys} : ∀ {ps acc : List Int}, (∀ p ∈ ps, (S.tab p).length ≤ 8) → (thingsOf S acc ps).length ≤ acc.length + 8 * ps.length
  | [], _, _ => Nat.le_refl _
  | p :: ps, acc, h => by
    have a := things_len (S := S) (ps := ps) (acc := rowThings acc (S.tab p)) fun q hq => h q (List.mem_cons_of_mem _ hq)
    have b := h p List.mem_cons_self
    have c := rowThings_len acc (S.tab p)
    show (thingsOf S (rowThings acc (S.tab p)) ps).length ≤ acc.length + 8 * (ps.length + 1)
    omega
/-- what a row of registrations() shows of the label l in the set s -/
def RgAt (S : Sys) (ys : List Int) (s : Int) (H : Hp) (v : V) (l : Int) : Prop := ∃ (T : Addr) (v1 v2 : V) (r1 r2 : Int × Nat), v = .ref T ∧ H T = some (.tup [v1, .int l, .int (S.reg s l).num, v2, .str (S.reg s l).word, .bl (S.reg s l).armed]) ∧
  (placesIn S s ys)[0]? = some r1 ∧ PlAt H v1 r1 ∧ (placesIn S (S.reg s l).src ys)[0]? = some r2 ∧ PlAt H v2 r2
theorem PlAt.keep {H H' : Hp} {v : V} {r : Int × Nat} (h : PlAt H v r) (s : ∀ b o, H b = some o → (∀ xs, o ≠ .tup xs) ∨ H' b = some o) : PlAt H' v r := by
  obtain ⟨T, h1, h2⟩ := h
  exact ⟨T, h1, (s _ _ h2).elim (fun z => absurd rfl (z _)) id⟩
theorem PlAt.upd {H : Hp} {v : V} {r : Int × Nat} {D : Addr} {o o' : HO} (h : PlAt H v r) (hD : H D = some o) (n : ∀ xs, o ≠ .tup xs) : PlAt (upd H D o') v r := h.keep fun b o2 e => by
  by_cases z : b = D
  · rw [z, hD] at e
    cases e
    exact .inl n
  · exact .inr (by rw [upd_ne z]; exact e)
theorem rgs_keep {S : Sys} {ys : List Int} {s : Int} {H H' : Hp} {vs : List V} {ls : List Int} (p : Paired (RgAt S ys s H) vs ls) (k : ∀ b o, H b = some o → (∀ xs, o ≠ .tup xs) ∨ H' b = some o) : Paired (RgAt S ys s H') vs ls := by
  induction p with
  | nil => exact .nil
  | cons r _ ih =>
    obtain ⟨T, v1, v2, r1, r2, h1, h2, h3, h4, h5, h6⟩ := r
    exact .cons ⟨T, v1, v2, r1, r2, h1, (k _ _ h2).elim (fun z => absurd rfl (z _)) id, h3, h4.keep k, h5, h6.keep k⟩ ih
theorem paired_snoc {α β : Type} {R : α → β → Prop} {xs : List α} {ys : List β} {x : α} {y : β} (p : Paired R xs ys) (h : R x y) : Paired R (xs ++ [x]) (ys ++ [y]) := by
  induction p with
  | nil => exact .cons h .nil
  | cons q _ ih => exact .cons q ih
section
variable {P : Program} {w : World} {K : PySem.W.Frag} {mg : Str → Option Value} {base : Heap} {C : Cs}
def spRegistrations (C : Cs) : Sp := fun vs H Q _ => OnSys C vs H [] fun S ad dx => ∃ s, S.sets = [s] ∧ S.procs.length ≤ 6 ∧ (∀ p ∈ S.procs, (S.tab p).length ≤ 8) ∧ (∃ p ∈ S.procs, ∃ n : Nat, (S.tab p)[n]? = some (some s)) ∧
  (S.ents s).length ≤ 1000 ∧ (∀ l ∈ S.ents s, ∃ p ∈ S.procs, ∃ n : Nat, (S.tab p)[n]? = some (some (S.reg s l).src)) ∧
  ∀ (ys : List Int) (H' : Hp) (r : Addr) (rs : List V), ys.Perm S.procs → ys.Pairwise (· ≤ ·) → Same H H' → H r = none → H' r = some (.lst rs) → Paired (RgAt S ys s H') rs (S.ents s) → Q (.ref r) H'
abbrev nRegs : List Str := ["self", "names", "thing", "label", "kept"]
theorem scRegs : FnScope nRegs ["self"] (defScope sRegistrations) := ⟨rfl, rfl, rfl, by decide +kernel, rfl, by decide +kernel, by decide +kernel⟩
theorem okRegistrations {f fT fN : Addr} {fd fdT fdN : FuncData} (F : Fun K "registrations" "System.registrations" sRegistrations f fd) (T : ClsF K C.S sysF) (TW : ClsF K C.W wsF) (TR : ClsF K C.R regF)
    (GT : MO P w K mg base 1 C.S "things" ["self"] (spThings C) fT fdT) (GN : MO P w K mg base 2 C.S "name_of" ["self", "thing"] (spNameOf C) fN fdN) : FnOk P w K mg base CX0 3 f fd ["self"] (spRegistrations C) := by
  refine F.ok scRegs (fun vs H Q E h => ?_) (fun cdv A outer s H vs Q E hr h => ?_)
  · obtain ⟨_, _, _, rfl, _⟩ := h
    rfl
  · obtain ⟨S, ad, dx, rfl, A0, s0, hsets, hp, ht, hs0, hel, hsrc, k⟩ := h
    have hu := hu_of hr
    have r1 : Room 1 _ := hr.mono (by decide)
    refine ⟨_, pss_cut (ps_set (i := 1) scRegs.nd rfl (Or.inr rfl) (pe_dc (own := [("thing", 2)]) (g := gName 2) (tt := tYes) (tk := tVar 2) (tv := tMeth C.S "name_of" (spNameOf C) [] (fun _ _ _ => False) (tVar 0) (tCons (tVar 2) tNil)) rfl scRegs.nd (pi_list (pe_meth0 (pv 0) T.cl GT.m GT.g r1 GT.b .nil pass0)) (blkOk_by (N := nRegs) (sc := defScope sRegistrations) (by decide +kernel))
        (fun _ _ _ _ _ => pg_name (i := 2) scRegs.nd rfl (Or.inl rfl)) (fun _ _ _ _ _ => pts_nil) (fun _ _ _ _ _ => pv 2) (fun _ _ _ _ _ => pe_meth (pv 0) T.cl GN.m GN.g hr GN.b .nil pass0 (pa_cons (pv 2) pa_nil))))
      (pss_one (ps_lock (ps_ret (pe_lc2 (own := [("thing", 2), ("label", 3), ("kept", 4)]) (vs1 := [3, 4]) (g := gName 2) (tt := tTest (tDIn (tVar 2) (tFld K (tVar 0) "sets"))) (wi1 := iItems (tFld K (tDGet (tFld K (tVar 0) "sets") (tVar 2)) "entries")) (g1 := gTup K 2 (gCons (gName 3) (gCons (gName 4) gNil))) (tt1 := tYes)
        (te := tTup (tCons (tDGet (tVar 1) (tVar 2)) (tCons (tVar 3) (tCons (tFld K (tVar 4) "number") (tCons (tDGet (tVar 1) (tFld K (tVar 4) "source")) (tCons (tFld K (tVar 4) "word") (tCons (tFld K (tVar 4) "armed") tNil)))))))
        rfl scRegs.nd (pi_list (pe_meth0 (pv 0) T.cl GT.m GT.g r1 GT.b .nil pass0)) (blkOk_by (N := nRegs) (sc := defScope sRegistrations) (by decide +kernel)) (by decide)
        (fun _ _ _ _ _ => pg_name (i := 2) scRegs.nd rfl (Or.inl rfl)) (fun _ _ _ _ _ => pts_one (pt_cmp (pc_din hu (pv 2) (pe_fld (pv 0) rfl)) rfl)) (fun _ _ _ _ _ => pi_items (pe_fld (pe_dget hu (pe_fld (pv 0) rfl) (pv 2) (fun _ _ => rfl)) rfl))
        (fun _ _ _ _ _ => pg_tup rfl (pgs_cons (pg_name (i := 3) scRegs.nd rfl (Or.inl rfl)) (pgs_cons (pg_name (i := 4) scRegs.nd rfl (Or.inl rfl)) pgs_nil))) (fun _ _ _ _ _ => pts_nil)
        (fun _ _ _ _ _ => pe_tup (pa_cons (pe_dget hu (pv 1) (pv 2) (fun _ _ => rfl)) (pa_cons (pv 3) (pa_cons (pe_fld (pv 4) rfl) (pa_cons (pe_dget hu (pv 1) (pe_fld (pv 4) rfl) (fun _ _ => rfl)) (pa_cons (pe_fld (pv 4) rfl) (pa_cons (pe_fld (pv 4) rfl) pa_nil))))))))))), ?_⟩
    have hb := A0.at_ .box trivial
    have Tb := A0.tabAt
    refine ⟨fun σ' H1 => ∃ (ys : List Int) (D : Addr) (kvs : List (Key × V)), ys.Perm S.procs ∧ ys.Pairwise (· ≤ ·) ∧ σ' = [some (.ref (ad .box)), some (.ref D), none, none, none] ∧ Same H H1 ∧ H1 D = some (.dK kvs) ∧ H D = none ∧
      ∀ t ∈ thingsOf S [] ys, ∃ v r, valV kvs (Sum.inl t) = some v ∧ (placesIn S t ys)[0]? = some r ∧ PlAt H1 v r, ?_, ?_⟩
    · walk_at "wn"
      refine tDc_of ?_
      unfold iList
      walk_at "wn"
      refine ⟨_, rfl, ad .box, dx .box, _, rfl, hb, rfl, ?_⟩
      walk_at "wn"
      refine ⟨S, ad, dx, rfl, Tb, hp, ht, fun ys H1 r pm pw s1 nr hr1 => ?_⟩
      refine ⟨r, rfl, ⟨_, SqL.of hr1⟩, fun D hD => ?_⟩
      have tlen := things_len (S := S) (ps := ys) (acc := []) fun p hp => ht p (pm.mem_iff.mp hp)
      have lp := pm.length_eq
      refine rounds_it (walk_list (K := K) (xs := (thingsOf S [] ys).map V.int)) (fun i H' => ∃ kvs : List (Key × V), Same H1 H' ∧ H' D = some (.dK kvs) ∧ kvs.length ≤ i ∧ ∀ t ∈ (thingsOf S [] ys).take i, ∃ v r, valV kvs (Sum.inl t) = some v ∧ (placesIn S t ys)[0]? = some r ∧ PlAt H' v r) ⟨[], Same.new' hD, upd_same, Nat.zero_le _, fun t h => absurd h (by simp)⟩ (fun i H' _ ⟨_, sm, _⟩ => SqL.of (sm _ _ hr1)) ?_ ?_
      · rintro i x H2 H3 hi ⟨kvs, sm, hd, kl, hk⟩ ⟨rfl, ex⟩
        rw [List.getElem?_map] at ex
        rw [List.length_map] at hi
        cases et : (thingsOf S [] ys)[i]? with
        | none => rw [et] at ex; cases ex
        | some t =>
        rw [et] at ex
        cases ex
        obtain ⟨p, hpy, n, hn⟩ := (mem_things.mp (List.mem_of_getElem? et)).resolve_left List.not_mem_nil
        have s3 := s1.trans sm
        walk_at "wn"
        refine ⟨rfl, ?_⟩
        walk_at "wn"
        refine ⟨_, rfl, ad .box, dx .box, _, rfl, s3 _ _ hb, rfl, ?_⟩
        walk_at "wn"
        refine ⟨t, S, ad, dx, rfl, Tb.same s3, hp, ht, ⟨p, pm.mem_iff.mp hpy, n, hn⟩, fun ys2 H4 v r pm2 pw2 s4 e4 pl => ?_⟩
        obtain rfl := sort_uniq (pm2.trans pm.symm) pw2 pw
        have hd4 := s4 _ _ hd
        simp only [List.length_nil, Nat.zero_add] at tlen
        refine ⟨kvs, Sum.inl t, rfl, hd4, by rw [sizeLine_eq]; omega, _, fun b o e => ?_, upd_same, ?_, fun t' ht' => ?_⟩
        · rw [upd_ne (ne_of_none e hD)]
          exact s4 _ _ (sm _ _ e)
        · have := length_putK kvs (Sum.inl t) v
          omega
        · rw [valV_put]
          by_cases z : t' = t
          · subst z
            exact ⟨v, r, if_pos rfl, e4, pl.upd hd4 fun xs z => by cases z⟩
          · rw [List.take_add_one, et, Option.toList_some, List.mem_append, List.mem_singleton] at ht'
            obtain ⟨v', r', a1, a2, a3⟩ := hk t' (ht'.resolve_right z)
            exact ⟨v', r', by rw [if_neg (fun y => z (Sum.inl.inj y))]; exact a1, a2, (a3.keep fun b o e => .inr (s4 _ _ e)).upd hd4 fun xs z => by cases z⟩
      · rintro H' ⟨kvs, sm, hd, kl, hk⟩
        rw [List.length_map, List.take_length] at hk
        walk_at "wn"
        exact ⟨ys, D, kvs, pm, pw, rfl, s1.trans sm, hd, s1.free hD, hk⟩
    · rintro σ' H1 ⟨ys, D, kvs, pm, pw, rfl, sm, hD, nD, hk⟩
      have hs : s0 ∈ S.sets := by rw [hsets]; exact List.mem_singleton.mpr rfl
      have he := A0.at_ (.ent s0) hs
      refine ⟨ad (.ent s0), _, sm _ _ he, trivial, fun od => ?_⟩
      have hL : ∀ b, b ≠ ad (.ent s0) → upd H1 (ad (.ent s0)) (.frz od (co C S ad dx (.ent s0))) b = H1 b := fun b n => upd_ne n
      have hLe : upd H1 (ad (.ent s0)) (.frz od (co C S ad dx (.ent s0))) (ad (.ent s0)) = some (.frz od (co C S ad dx (.ent s0))) := upd_same
      generalize upd H1 (ad (.ent s0)) (.frz od (co C S ad dx (.ent s0))) = HL at hL hLe ⊢
      have cellL : ∀ c, live S c → c ≠ .ent s0 → HL (ad c) = some (co C S ad dx c) := fun c lc n => by
        rw [hL _ (A0.ne lc hs n)]
        exact sm _ _ (A0.at_ c lc)
      have TbL : TabAt C HL S ad dx := ⟨cellL .box trivial (by intro z; cases z), cellL .tabD trivial (by intro z; cases z), fun p hp => cellL (.tab p) hp (by intro z; cases z)⟩
      have nDe : D ≠ ad (.ent s0) := fun z => by rw [z, he] at nD; cases nD
      have hDL : HL D = some (.dK kvs) := (hL D nDe).trans hD
      walk_at "wn"
      refine tLc2_of ?_
      unfold iList
      walk_at "wn"
      refine ⟨_, rfl, ad .box, dx .box, _, rfl, TbL.box, rfl, ?_⟩
      walk_at "wn"
      refine ⟨S, ad, dx, rfl, TbL, hp, ht, fun ys2 H2 r pm2 pw2 s2 nr hr2 => ?_⟩
      obtain rfl := sort_uniq (pm2.trans pm.symm) pw2 pw
      refine ⟨r, rfl, ⟨_, SqL.of hr2⟩, fun D2 hD2 => ?_⟩
      have nd : (thingsOf S [] ys2).Nodup := things_nodup List.nodup_nil
      have ms : s0 ∈ thingsOf S [] ys2 := mem_things.mpr (.inr (by
        obtain ⟨p, hpS, n, hn⟩ := hs0
        exact ⟨p, pm.mem_iff.mpr hpS, n, hn⟩))
      have cell2 : ∀ c, live S c → c ≠ .ent s0 → H2 (ad c) = some (co C S ad dx c) := fun c lc n => s2 _ _ (cellL c lc n)
      have e2 := s2 _ _ hLe
      have hD2n := s2 _ _ hDL
      have box2 := cell2 .box trivial (by intro z; cases z)
      have set2 := cell2 .setD trivial (by intro z; cases z)
      have ws2 := cell2 (.ws s0) hs (by intro z; cases z)
      have pl2 : ∀ {v r}, PlAt H1 v r → PlAt H2 v r := fun {v r} ⟨T, a1, a2⟩ => ⟨T, a1, s2 _ _ ((hL T fun z => by rw [z, sm _ _ he] at a2; cases a2).trans a2)⟩
      refine rounds_it (walk_list (K := K) (xs := (thingsOf S [] ys2).map V.int)) (fun i H' => ∃ rs, Same H2 H' ∧ H' D2 = some (.lst rs) ∧ Paired (RgAt S ys2 s0 H') rs (if s0 ∈ (thingsOf S [] ys2).take i then S.ents s0 else [])) ⟨[], Same.new' hD2, upd_same, by rw [List.take_zero, if_neg List.not_mem_nil]; exact .nil⟩ (fun i H' _ ⟨_, sm, _⟩ => SqL.of (sm _ _ hr2)) ?_ ?_
      · rintro i x H3 H4 hi ⟨rs, s3, hd, pr⟩ ⟨rfl, ex⟩
        rw [List.getElem?_map] at ex
        cases et : (thingsOf S [] ys2)[i]? with
        | none => rw [et] at ex; cases ex
        | some t =>
        rw [et] at ex
        cases ex
        walk_at "wn"
        refine ⟨rfl, ?_⟩
        walk_at "wn"
        refine ⟨_, rfl, _, rfl, ad .box, C.S, dx .box, _, _, rfl, s3 _ _ box2, T.cl, T.no _ (by decide), rfl, ?_⟩
        refine ⟨ad .setD, _, rfl, DGet.k (k := Sum.inl t) (s3 _ _ set2), ?_⟩
        rw [ent_val, hsets]
        by_cases z : t = s0
        · subst z
          have nin : t ∉ (thingsOf S [] ys2).take i := fun h => by
            obtain ⟨j, hj, e⟩ := List.mem_take_iff_getElem.mp h
            have h1 := List.getElem?_eq_some_iff.mp et
            obtain ⟨hi2, e3⟩ := h1
            have := (List.getElem_inj nd).mp (e.trans e3.symm)
            omega
          rw [if_neg nin] at pr
          rw [if_pos (List.mem_singleton.mpr rfl)]
          refine ⟨_, rfl, ?_⟩
          refine iteT ?_
          cases pr
          have hv : valV (entKV S.sets fun s => ad (.ws s)) (Sum.inl t) = some (.ref (ad (.ws t))) := by rw [ent_val, if_pos hs]
          refine ⟨_, rfl, ad .box, C.S, dx .box, _, _, rfl, s3 _ _ box2, T.cl, T.no _ (by decide), rfl, _, rfl, ad .setD, _, rfl, hv ▸ DGet.k (k := Sum.inl t) (s3 _ _ set2), ad (.ws t), C.W, dx (.ws t), _, _, rfl, s3 _ _ ws2, TW.cl, TW.no _ (by decide), rfl, ad (.ent t), od, _, rfl, s3 _ _ e2, ?_⟩
          refine rounds_it (walk_items (kvs := entKV (S.ents t) fun l => ad (.reg t l)) (o := od) (d := ad (.ent t))) (fun j H' => ∃ rs, Same H2 H' ∧ H' D2 = some (.lst rs) ∧ Paired (RgAt S ys2 t H') rs ((S.ents t).take j)) ⟨[], s3, hd, .nil⟩ (fun j H' _ ⟨_, sm, _⟩ => sm _ _ e2) ?_ ?_
          · rintro j x H5 H6 hj ⟨rs, s5, hd5, pr5⟩ ⟨T1, x1, y1, rfl, nT, rfl, ex, ey⟩
            cases el : (S.ents t)[j]? with
            | none =>
              have h1 := List.getElem?_eq_none_iff.mp el
              have h2 : j < ((S.ents t).map fun l => ((Sum.inl l : Key), V.ref (ad (.reg t l)))).length := hj
              rw [List.length_map] at h2
              omega
            | some l =>
            have ek : (entKV (S.ents t) fun l => ad (.reg t l))[j]? = some (Sum.inl l, .ref (ad (.reg t l))) := by
              unfold entKV
              rw [List.getElem?_map, el]
              rfl
            have ex : ((entKV (S.ents t) fun l => ad (.reg t l))[j]?.map fun kv => kV kv.1) = some x1 := ex
            have ey : ((entKV (S.ents t) fun l => ad (.reg t l))[j]?.map Prod.snd) = some y1 := ey
            rw [ek] at ex ey
            obtain rfl := Option.some.inj ex
            obtain rfl := Option.some.inj ey
            have hl : l ∈ S.ents t := List.mem_of_getElem? el
            have jlt : j < (S.ents t).length := (List.getElem?_eq_some_iff.mp el).1
            obtain ⟨v1, q1, a1, a2, a3⟩ := hk t ms
            obtain ⟨v2, q2, b1, b2, b3⟩ := hk (S.reg t l).src (mem_things.mpr (.inr (by
              obtain ⟨p, hpS, n, hn⟩ := hsrc l hl
              exact ⟨p, pm.mem_iff.mpr hpS, n, hn⟩)))
            have s6 := Same.new' (o := .tup [kV (Sum.inl l), .ref (ad (.reg t l))]) nT
            have s7 := s5.trans s6
            have hd6 := s6 _ _ hd5
            have pr6 := rgs_keep pr5 fun b o h => .inr (s6 _ _ h)
            have reg6 := s7 _ _ (cell2 (.reg t l) ⟨hs, hl⟩ (by intro z; cases z))
            have D6 := s7 _ _ hD2n
            refine ⟨T1, _, rfl, SqT.of upd_same, rfl, _, _, rfl, ?_⟩
            walk_at "wn"
            refine ⟨_, _, rfl, ?_⟩
            walk_at "wn"
            refine ⟨rfl, rfl, ?_⟩
            generalize upd H5 T1 (.tup [kV (Sum.inl l), .ref (ad (.reg t l))]) = H6 at s7 hd6 pr6 reg6 D6 ⊢
            walk_at "wn"
            refine ⟨_, rfl, _, rfl, D, _, rfl, a1 ▸ DGet.k (k := Sum.inl t) D6, ?_⟩
            walk_at "wn"
            refine ⟨_, rfl, ad (.reg t l), C.R, dx (.reg t l), _, _, rfl, reg6, TR.cl, TR.no _ (by decide), rfl, ?_⟩
            walk_at "wn"
            refine ⟨_, rfl, _, rfl, ad (.reg t l), C.R, dx (.reg t l), _, _, rfl, reg6, TR.cl, TR.no _ (by decide), rfl, D, _, rfl, b1 ▸ DGet.k (k := Sum.inl (S.reg t l).src) D6, ?_⟩
            walk_at "wn"
            refine ⟨_, rfl, ad (.reg t l), C.R, dx (.reg t l), _, _, rfl, reg6, TR.cl, TR.no _ (by decide), rfl, ?_⟩
            walk_at "wn"
            refine ⟨_, rfl, ad (.reg t l), C.R, dx (.reg t l), _, _, rfl, reg6, TR.cl, TR.no _ (by decide), rfl, ?_⟩
            walk_at "wn"
            refine ⟨by show 6 ≤ sizeLine; decide, fun T2 hT2 => ?_⟩
            have nT2 : T2 ≠ D2 := fun z => by rw [z, hd6] at hT2; cases hT2
            have s8 := Same.new' (o := .tup [v1, .int l, .int (S.reg t l).num, v2, .str (S.reg t l).word, .bl (S.reg t l).armed]) hT2
            have kp : ∀ b o, H6 b = some o → (∀ xs, o ≠ .tup xs) ∨ upd (upd H6 T2 (.tup [v1, .int l, .int (S.reg t l).num, v2, .str (S.reg t l).word, .bl (S.reg t l).armed])) D2 (.lst (rs ++ [.ref T2])) b = some o := fun b o h => by
              by_cases z : b = D2
              · rw [z, hd6] at h
                cases h
                exact .inl fun xs y => by cases y
              · exact .inr (by rw [upd_ne z]; exact s8 _ _ h)
            have l1 := pr6.length
            rw [List.length_take] at l1
            refine ⟨rs, s8 _ _ hd6, by rw [sizeLine_eq]; omega, _, fun b o h => ?_, upd_same, ?_⟩
            · rw [upd_ne (ne_of_none h hD2)]
              exact (s7.trans s8) _ _ h
            · rw [List.take_add_one, el, Option.toList_some]
              exact paired_snoc (rgs_keep pr6 kp) ⟨T2, v1, v2, q1, q2, rfl, (upd_ne nT2).trans upd_same, a2, ((pl2 a3).keep fun b o h => .inr (s7 _ _ h)).keep kp, b2, ((pl2 b3).keep fun b o h => .inr (s7 _ _ h)).keep kp⟩
          · rintro H' ⟨rs, s5, hd5, pr5⟩
            have e : (S.ents t).take (entKV (S.ents t) fun l => ad (.reg t l)).length = S.ents t := by
              unfold entKV
              rw [List.length_map, List.take_length]
            rw [e] at pr5
            refine ⟨rs, s5, hd5, ?_⟩
            rw [List.take_add_one, et, Option.toList_some, if_pos (List.mem_append_right _ (List.mem_singleton.mpr rfl))]
            exact pr5
        · rw [if_neg (fun h => z (List.mem_singleton.mp h))]
          refine ⟨_, rfl, ?_⟩
          refine iteF ?_
          have e : (if s0 ∈ (thingsOf S [] ys2).take (i + 1) then S.ents s0 else []) = if s0 ∈ (thingsOf S [] ys2).take i then S.ents s0 else [] := by
            rw [List.take_add_one, et, Option.toList_some]
            by_cases h : s0 ∈ (thingsOf S [] ys2).take i
            · rw [if_pos h, if_pos (List.mem_append_left _ h)]
            · rw [if_neg h, if_neg (fun y => (List.mem_append.mp y).elim h fun w => z (List.mem_singleton.mp w).symm)]
          exact ⟨rs, s3, hd, by rw [e]; exact pr⟩
      · rintro H' ⟨rs, s3, hd, pr⟩
        rw [List.length_map, List.take_length, if_pos ms] at pr
        have e3 := s3 _ _ e2
        have nE : D2 ≠ ad (.ent s0) := fun z => by rw [z, e2] at hD2; cases hD2
        refine ⟨e3, k ys2 _ D2 rs pm pw (fun b o h => ?_) ?_ ((upd_ne nE).trans hd) (rgs_keep pr fun b o h => ?_)⟩
        · by_cases z : b = ad (.ent s0)
          · rw [z, he] at h
            cases h
            rw [z]
            exact upd_same
          · rw [upd_ne z]
            exact s3 _ _ (s2 _ _ ((hL b z).trans (sm _ _ h)))
        · cases h : H D2 with
          | none => rfl
          | some o => exact absurd (s2 _ _ ((hL D2 nE).trans (sm _ _ h))) (by rw [hD2]; exact fun z => by cases z)
        · by_cases z : b = ad (.ent s0)
          · rw [z, e3] at h
            cases h
            exact .inl fun xs y => by cases y
          · exact .inr (by rw [upd_ne z]; exact h)
end

/-! several except clauses, each of which names what it caught -/
structure HdA where
  c : Value
  i : Nat
  ts : Addr → Value → Option Addr → TS
def wAll (K : PySem.W.Frag) (Wz : WX) (D : Ends) : List HdA → WX
  | [] => Wz
  | h :: r => wAs K h.c h.i h.ts (wAll K Wz D r) D
inductive HdsA (X : Cx) : List ExceptHandler → List HdA → Prop
  | nil : HdsA X [] []
  | cons {x n : Str} {c : Value} {i : Nat} {ts : Addr → Value → Option Addr → TS} {b1 : Stmt} {suite : List Stmt} {np pos1 : Pos} {hds : List ExceptHandler} {l : List HdA} (hi : X.N[i]? = some n) (hln : X.env.kindOf n = some .local) (hc : Names X x c)
      (hsu : ∀ (a : Addr) (oe : Obj) (cls : Value) (d : Option Addr) (pn : List (Addr × Obj)), Zc cls d oe → (∃ us, oe.data = .fields us) → PSs (X.suite a ((a, oe) :: pn)) (b1 :: suite) (ts a cls d)) (r : HdsA X hds l) : HdsA X (.ExceptHandler (some (.Name x np)) (some n) (b1 :: suite) pos1 :: hds) (⟨c, i, ts⟩ :: l)
section
variable {X : Cx} {body : List Stmt} {h1 : ExceptHandler} {hds : List ExceptHandler} {l : List HdA} {pos : Pos} {tb : WX → TS} {Wz : WX}
theorem ps_try_all (hs : X.stack = X.env :: X.outer) (hf : X.env.frame = some X.env.locals) (nd : X.N.Nodup) (tk : Takes X Wz) (hb : ∀ (W : WX) (pn : List (Addr × Obj)) (xe : Value → Shared → Prop), Takes (X.tr pn xe) W → PassesOwn (model X.prog X.w) X.A X.env xe → PSs (X.tr pn xe) body (tb W))
    (hh : HdsA X (h1 :: hds) l) : PS X (.Try body (h1 :: hds) [] [] pos) (fun D σ H => tb (wAll X.K Wz D l) D σ H) := by
  constructor
  intro pins s σ H D I h
  have ok := I.ok
  have frs1 : X.A.frames = some (X.env :: X.outer) := ok.frames.trans (by rw [hs])
  refine wpAny_Try_except (wpAny_mono ((hb (wAll X.K Wz D l) (X.pn ++ pins) (fun e s₁ => wpAny (model X.prog X.w) X.A (noteFrame e X.env) (fun _ s₂ => wpAny (model X.prog X.w) X.A (setFlight e none) (fun _ s₃ => wpAny (model X.prog X.w) X.A (handleBy e X.env (h1 :: hds)) (SP X pins D) X.xe s₃) X.xe s₂) X.xe s₁) (fun u s' xx => ?_) PassesOwn.looking).run [] s σ H D (I.toTry _) h) (fun f s1 hsp => ?_) (fun e s1 he => he))
  · obtain ⟨a, B, sI, pins1, σ1, H1, cls, d, rfl, Jt, nb, up, sky, na, os, ag, w⟩ := xx
    have J : Inv X pins σ1 H1 sI := Jt.ofTry ok
    rw [hs] at sky
    show wpAny (model X.prog X.w) X.A (noteFrame (.ref a) X.env) _ _ _
    refine Sky.land Zc.steady frs1 hf sky fun h3 fl3 up3 => ?_
    have J3 : Inv X pins σ1 H1 { s' with heap := h3 } := J.landed nb fl3.1 (up.trans up3) os ag
    obtain ⟨oe3, vs3, he3, hz3, hd3⟩ := fl3.there
    have nfr : a ∉ frs (X.env :: X.outer) := fun hm => by
      obtain ⟨_, o1, e1, hnf⟩ := fl3.2.2.1.mem hm
      rw [he3] at e1
      cases e1
      exact hnf _ hd3
    have nL : a ≠ X.env.locals := fun z => nfr (List.mem_filterMap.mpr ⟨X.env, List.mem_cons_self, hf.trans (by rw [z])⟩)
    have nF : a ∉ X.fs := fun hm => by
      obtain ⟨e1, he1, q⟩ := List.mem_filterMap.mp hm
      exact nfr (List.mem_filterMap.mpr ⟨e1, List.mem_cons_of_mem _ he1, q⟩)
    have S3 := J3.suite he3 hd3 na nL nF
    have go : ∀ {hs2 : List ExceptHandler} {l2 : List HdA}, HdsA X hs2 l2 → wAll X.K Wz D l2 cls d σ1 H1 → wpAny (model X.prog X.w) X.A (handleBy (.ref a) X.env hs2) (SP X pins D) X.xe { s' with heap := h3 } := by
      intro hs2 l2 hk
      induction hk with
      | nil =>
        intro w
        obtain ⟨k1, k2, k3, oe, vs, T, oT, tsx, he, hz, hd, hT, hr⟩ := id fl3
        refine wpAny_handleBy_nil ?_
        unfold PySem.passOn
        refine wpAny_bind (wpAny_field he hd hT ?_)
        rw [if_neg (show ¬ ((Value.ref T == Value.none) = true) from by simp)]
        have fin : wpAny (model X.prog X.w) X.A (setFlight (.ref a) X.env.frame) (fun _ s4 => wpAny (model X.prog X.w) X.A (throw (.ref a) : Sem Flow) (SP X pins D) X.xe s4) X.xe { s' with heap := h3 } := by
          rw [hf]
          refine HandSPX.setFlight_upZ fl3 fun h4 hh4 up4 => wpAny_throw (tk _ _ ⟨a, B, sI, pins, σ1, H1, cls, d, rfl, J, nb, (up.trans up3).trans up4, .inr (.inr (by rw [hs]; exact hh4)), na, os, ag, w⟩)
        first
          | exact wpAny_bind (wpAny_pure (wpAny_bind fin))
          | exact wpAny_bind fin
      | @cons x n c i ts b1 suite np pos1 hds2 l3 hi hln hc hsu r ih =>
        rintro ⟨b, hb1, hyes, hno⟩
        refine wpAny_handleBy_cons (codeAny_handlers_test ?_) (by intro q; cases q)
        have LT : PySem.W.Looks (model X.prog X.w) h3 (typeOf (.ref a)) cls := fun A Q E s k q => wpAny_typeOf_ref (k _ _ he3) (hz3.1.symm ▸ q)
        have LM := PySem.W.exm_one (M := model X.prog X.w) (J3.kIn) LT hb1
        have test : ∀ {Q : Value → Shared → Prop} {E : Value → Shared → Prop}, Q c { s' with heap := h3 } → wpAny (model X.prog X.w) (X.A.mark (some (.ref a))) (eval (.Name x np) X.env) Q E { s' with heap := h3 } := fun {Q E} q => by
          rcases hc with ⟨hg, hdbg, hm | ⟨hm, hv, hnn⟩⟩
          · exact ld_glob (X := X.suite a ((a, oe3) :: (X.pn ++ pins))) S3 hg hm q hdbg
          · exact ld_blt (X := X.suite a ((a, oe3) :: (X.pn ++ pins))) S3 hg hm hv q hnn hdbg
        refine test (LM.here ?_)
        cases b with
        | false =>
          show wpAny _ X.A (handleBy (.ref a) X.env hds2) _ _ _
          exact ih (hno rfl)
        | true =>
          refine codeAny_handlers_suite_as (HandSPX.lands_againZ fl3 fun h4 fl4 up4 => ?_)
          have J4 : Inv X pins σ1 H1 { s' with heap := h4 } := J.landed nb fl4.1 ((up.trans up3).trans up4) os ag
          obtain ⟨oe4, vs4, he4, hz4, hd4⟩ := fl4.there
          have hloc : Loc X.env.scope n := .inl hln
          refine store_ok (X := X.suite a ((a, oe4) :: (X.pn ++ pins))) (v := .ref a) (J4.suite he4 hd4 na nL nF) nd hi hloc rfl (fun s5 S5 => wpAny_mono ((hsu a oe4 cls d (X.pn ++ pins) hz4 ⟨_, hd4⟩).run [] s5 _ H1 _ S5 (hyes rfl a na)) (fun f s6 hsp => ?_) (fun _ _ z => False.elim z)) (.inr hln)
          have gone : ∀ {σ6 : L2.St} {H6 : Hp} {Q : Shared → Prop}, Inv (X.suite a ((a, oe4) :: (X.pn ++ pins))) [] σ6 H6 s6 → (∀ s7, Inv X pins (σ6.set i none) H6 s7 → Q s7) → wpAny (model X.prog X.w) X.A (do bindName X.env n .none; unbindBehindTheSuite X.env n pos1) (fun _ s7 => Q s7) X.xe s6 := fun S6 hq => gone_ok (S6.unsuite ok) nd hi hln hq
          cases f with
          | ret u =>
            obtain ⟨v6, σ6, H6, S6, r6, q6⟩ := hsp
            exact gone S6 fun s7 J7 => ⟨_, _, _, J7, r6, q6⟩
          | _ =>
            obtain ⟨σ6, H6, S6, q6⟩ := hsp
            exact gone S6 fun s7 J7 => ⟨_, _, J7, q6⟩
    exact go hh w
  · cases f with
    | next =>
      obtain ⟨σ1, H1, J1, q⟩ := hsp
      exact wpAny_execs_nil ⟨σ1, H1, J1.ofTry ok, q⟩
    | ret u =>
      obtain ⟨v, σ1, H1, J1, r, q⟩ := hsp
      exact ⟨v, σ1, H1, J1.ofTry ok, r, q⟩
    | _ =>
      obtain ⟨σ1, H1, J1, q⟩ := hsp
      exact ⟨σ1, H1, J1.ofTry ok, q⟩
end

structure FnG (P : Program) (w : World) (K : PySem.W.Frag) (mg : Str → Option Value) (base : Heap) (CX : CXT) (k : Nat) (f : Addr) (fd : FuncData) (ps : List Str) (sp : Sp) : Prop where
  size : ∀ vs H Q E, sp vs H Q E → vs.length = ps.length
  go : ∀ (A : Around), Room k A → A.guards = some [] → ∀ (outer : List Env) (s : Shared) (H : Hp), Env0 P w K mg base A outer s H → ∀ (args : Args) (us : List Value) (vs : List V), BindsTo s fd args (ps.zip us) → Vals vs us →
    ∀ (Q : VK) (E : XK), sp vs H Q E → codeAny (model P w) A (.call (.ref f) args) (CR CX outer P w H s Q E) s
section
variable {P : Program} {w : World} {K : PySem.W.Frag} {mg : Str → Option Value} {base : Heap} {CX : CXT} {k : Nat} {f : Addr} {fd : FuncData} {ps : List Str} {sp : Sp}
theorem FnG.of (F : FnOk P w K mg base CX k f fd ps sp) : FnG P w K mg base CX k f fd ps sp :=
  ⟨F.len, fun A hr _ outer s H e args us vs hb r Q E h => F.run A outer s H args us vs Q E hr e hb r h⟩
/-- the body, from «no repr is under way» -/
theorem okG {x qual : Str} {st : Stmt} {N : List Str} (F : Fun K x qual st f fd) (S : FnScope N ps (defScope st)) (len : ∀ vs H Q E, sp vs H Q E → vs.length = ps.length)
    (body : ∀ (cdv : Value) (A : Around) (outer : List Env) (s : Shared) (H : Hp) (vs : List V) (Q : VK) (E : XK), Room k (A.deeper (envOfC qual (defScope st) s.heap.objs.size f cdv)) → A.guards = some [] → sp vs H Q E →
      ∃ t, PSs (cxOf CX P w K mg base N qual (defScope st) f cdv A outer s H E) (defBody st) t ∧ t { nx := fun _ H' => Q .non H', rt := Q } (start N vs) H) : FnG P w K mg base CX (k + 1) f fd ps sp := by
  refine ⟨len, fun A hr hg outer s H e args us vs hb r Q E h => ?_⟩
  obtain ⟨oc, od, kV, doc, pm, an, cdv, ct, osl, rfl, lk, hcd⟩ := F.ex
  have hl := len _ _ _ _ h
  have KX : K.In s.heap := e.mod.kin.keeps fun b o z => (e.bs b o z).1
  have lim : s.heap.NoLimit := e.mod.nolimit.keeps fun b o z => (e.bs b o z).1
  have kinds : ∀ y ∈ ps.zip us, (defScope st).names.lookup y.1 = some .local ∨ ((defScope st).names.lookup y.1 = some .cell ∧ ((cellsFrom (s.heap.objs.size + 1) (defScope st).names []).lookup y.1).isSome = true) := by
    rintro ⟨n, v⟩ hy
    rcases S.par n (List.of_mem_zip hy).1 with q | q
    · exact Or.inl q
    · exact Or.inr ⟨q, PySem.W.cellsFrom_some _ _ _ (Or.inl q)⟩
  refine codeAny_call_function hr.depth (KX _ _ lk) rfl S.co S.gen rfl (PySem.W.codeRec_of KX hcd) (hb _ _ _ _ ?_)
  refine wpAny_newFunctionEnv_cells S.kind kinds fun env henv s1 ic => ?_
  cases henv
  refine ⟨lim.keeps ic.toInCall.keep, codeAny_func ?_⟩
  obtain ⟨t, ht, q⟩ := body cdv A outer s H vs Q E (hr.deeper _) hg h
  have I := inv_start (E := E) (CX := CX) S hr.hd e hl r ic
  refine wpAny_mono (ht.run [] s1 _ H _ I q) (fun fl s' z => ?_) fun _ _ z => z
  cases fl with
  | next =>
    obtain ⟨_, H', J, z⟩ := z
    exact ⟨V.non, H', J.os, J.bare, J.base, J.hok, rfl, z⟩
  | ret u =>
    obtain ⟨v, _, H', J, rv, z⟩ := z
    exact ⟨v, H', J.os, J.bare, J.base, J.hok, rv, z⟩
  | brk =>
    obtain ⟨_, _, _, z⟩ := z
    exact False.elim z
  | cont =>
    obtain ⟨_, _, _, z⟩ := z
    exact False.elim z
end
section
variable {X : Cx} {CX : CXT} {k : Nat} {f : Addr} {fd : FuncData} {ps : List Str} {sp : Sp} {dvs : List V} {ds : List Value} {E : XK} {x : Str} {p pos : Pos} {e : Expr} {es : List Expr} {t : TA}
theorem pe_callG (F : FnG X.prog X.w X.K X.mg X.base CX k f fd ps sp) (hr : Room k X.A) (gd : X.A.guards = some []) (hg : Gl X x) (hm : X.mg x = some (.ref f)) (hk : PySem.W.keepIn X.K (.ref f) = true) (hb : Binds X.K fd ps ds) (hd : Vals dvs ds) (hx : Passes CX X E)
    (ha : PA X (e :: es) t) (hdb : (x == ("__debug__" : Str)) = false := by decide) (he : starEach (e :: es) X.env = (false, eval e X.env) :: starEach es X.env := by rfl) (hpl : (backTo pos (starEach es X.env)).any (·.1) = false := by rfl) :
    PE X (.Call (.Name x p) (e :: es) [] pos) (tCall sp dvs E t) := by
  constructor
  intro pins s σ H Q I h
  refine wpAny_Call_Name_kw (ld_glob I hg hm (PySem.W.callWith_K (h₀ := X.base) I.ok.mod.kin hk (thn (ha.run pos pins s σ H _ I h) ?_) he hpl) hdb)
  rintro us s1 ⟨vs, H1, I1, r, q⟩
  refine ⟨I1.kIn, ?_⟩
  have r2 : Vals (vs ++ dvs) (us ++ ds) := r.append hd
  have hl : (us ++ ds).length = ps.length := r2.length.symm.trans (F.size _ _ _ _ q)
  refine wpAny_call (codeAny_mono (F.go X.A hr gd X.stack s1 H1 I1.env0 ⟨us, []⟩ _ _ (hb s1 us I1.kIn hl) r2 Q E q) ?_)
  rintro (er | fl) s' z
  · exact hx pins σ H1 s1 er s' I1 z
  · cases fl with
    | ret u => exact I1.after z
    | next => exact z.elim
    | brk => exact z.elim
    | cont => exact z.elim
end
section
variable {P : Program} {w : World} {K : PySem.W.Frag} {mg : Str → Option Value} {base : Heap}
/-- a def whose code is known -/
theorem okC {CX : CXT} {x qual : Str} {st : Stmt} {N ps : List Str} {k : Nat} {f c : Addr} {fd : FuncData} {sp : Sp} (F : Fun K x qual st f fd) (hc : fd.code = .ref c) (S : FnScope N ps (defScope st)) (len : ∀ vs H Q E, sp vs H Q E → vs.length = ps.length)
    (body : ∀ (A : Around) (outer : List Env) (s : Shared) (H : Hp) (vs : List V) (Q : VK) (E : XK), Room k (A.deeper (envOfC qual (defScope st) s.heap.objs.size f (.ref c))) → sp vs H Q E →
      ∃ t, PSs (cxOf CX P w K mg base N qual (defScope st) f (.ref c) A outer s H E) (defBody st) t ∧ t { nx := fun _ H' => Q .non H', rt := Q } (start N vs) H) : FnOk P w K mg base CX (k + 1) f fd ps sp := by
  obtain ⟨oc, od, kV, doc, pm, an, cdv, ct, osl, rfl, lk, hcd⟩ := F.ex
  obtain rfl : cdv = .ref c := hc
  exact ⟨len, fun A outer s H args us vs Q E hr e hb r h => LamX.run_ofS lk hcd S hr e hb r (len _ _ _ _ h) fun hr' => body A outer s H vs Q E hr' h⟩
end
/-! the law's call where a code's table grows -/
theorem law_T {P : Program} {w : World} {K : PySem.W.Frag} {mg mb : Str → Option Value} {k : Nat} {fa a Pt : Addr} {fd : FuncData} {x : Str} {sp : Sp} {s : Shared} {vs : List Value} {ns : List Int}
    (KX : K.In s.heap) (hns : s.heap.Ns mainGlobals mg) (hb : s.heap.Ns builtinsNs mb) (hbb : ∀ x : Str, x ≠ "__name__" → mb x = bootBuiltins x) (hlim : s.heap.NoLimit) (hg : s.gens = #[])
    (ha : s.heap.get? a = some { cls := .type "list", data := .seq vs.toArray }) (hi : IntsAre vs ns) (hl : ns.length ≤ sizeLine) (hr : Room k callerA)
    (hPt : s.heap.get? Pt = some (PySem.W.tabObj #[])) (nPt : K.lookup Pt = none) (tPt : isCodeTable s.heap Pt)
    (F : ∀ base : Heap, K.In base → base.Ns mainGlobals mg → (∀ x : Str, x ≠ "__name__" → mb x = bootBuiltins x) → base.Ns builtinsNs mb → base.BuiltinsAt mg Pt → FnG P w K mg base CX0 k fa fd [x] sp) (hbm : s.heap.BuiltinsAt mg Pt) (hbind : ∀ (s : Shared) (u : Value), BindsTo s fd ⟨[u], []⟩ [(x, u)])
    (hsp : ∀ H : Hp, SqL K H a (ns.map V.int) → H Pt = some (.tbl #[]) → sp [.ref a] H (fun v _ => v = .bl true) fun _ _ _ => False) :
    codeAny (model P w) callerA (.call (.ref fa) ⟨[.ref a], []⟩) (fun r s' => r = .ok (.ret (.bool true)) ∧ OldK s.heap s'.heap ∧ s'.os = s.os ∧ AllBare s'.gens) s := by
  have rv := vals_ints hi
  have nPa : Pt ≠ a := fun z => by
    rw [z, ha] at hPt
    cases hPt
  have run : ∀ H : Hp, (∀ b u, H b = some u → (b = a ∧ ∃ o ys, u = .frz o (.lst ys)) ∨ (b = Pt ∧ u = .tbl #[])) → (∀ u, H a = some u → K.lookup a = none) → HOk P w H s.heap → SqL K H a (ns.map V.int) → H Pt = some (.tbl #[]) →
      codeAny (model P w) callerA (.call (.ref fa) ⟨[.ref a], []⟩) (fun r s' => r = .ok (.ret (.bool true)) ∧ OldK s.heap s'.heap ∧ s'.os = s.os ∧ AllBare s'.gens) s := by
    intro H only noK ok hS hP
    have old : ∀ {b : Addr} {o : Obj}, s.heap.get? b = some o → H b = none → (hidT s.heap H).get? b = some o := fun e n => hidT_get e n
    have free : ∀ {b : Addr}, b ≠ a → b ≠ Pt → H b = none := fun {b} n1 n2 => by
      cases e : H b with
      | none => rfl
      | some u =>
        rcases only b u e with z | z
        · exact absurd z.1 n1
        · exact absurd z.1 n2
    have spaces : ∀ {b : Addr} {m : Str → Option Value}, s.heap.Ns b m → (hidT s.heap H).Ns b m := by
      rintro b m ⟨o, es, ep, e, d, r⟩
      refine ⟨o, es, ep, old e (free (fun z => ?_) fun z => ?_), d, r⟩
      · subst z
        rw [ha] at e
        cases e
        cases d
      · subst z
        rw [hPt] at e
        cases e
        cases d
    have bmh : (hidT s.heap H).BuiltinsAt mg Pt := by
      obtain ⟨bm, o, b1, b2, b3, b4, b5, b6, b7, b8⟩ := hbm
      refine ⟨bm, o, b1, b2, b3, b4, old b5 (free (fun z => ?_) b4), b6, b7, b8⟩
      rw [z, ha] at b5
      cases b5
      cases b8
    have kb : K.In (hidT s.heap H) := fun b o e => by
      refine old (KX b o e) ?_
      cases q : H b with
      | none => rfl
      | some u =>
        rcases only b u q with ⟨rfl, _⟩ | ⟨rfl, _⟩
        · rw [noK u q] at e
          cases e
        · rw [nPt] at e
          cases e
    have md : Mod K mg (hidT s.heap H) := ⟨kb, spaces hns, ⟨mb, spaces hb, hbb⟩, hlim.elim fun mc z => ⟨mc, spaces z.1, z.2⟩⟩
    have e0 : Env0 P w K mg (hidT s.heap H) callerA [] s H := ⟨rfl, md, fun b o e => of_hidT e, Nat.le_of_eq (hidT_size _ _), trivial, fun b hb => (nomatch (show b ∈ ([] : List Addr) from hb)), ok, .of_eq hg⟩
    refine codeAny_mono ((F _ kb (spaces hns) hbb (spaces hb) bmh).go callerA hr rfl [] s H e0 ⟨[.ref a], []⟩ [.ref a] [.ref a] (hbind s _) (.cons rfl .nil) _ _ (hsp H hS hP)) ?_
    rintro (er | fl) s' z
    · exact z.elim
    cases fl with
    | next => exact z.elim
    | brk => exact z.elim
    | cont => exact z.elim
    | ret u =>
      obtain ⟨v, H', os, bare, un, ok', rv', rfl⟩ := z
      obtain rfl : u = Value.bool true := rv'
      have fin : ∀ b o, s.heap.get? b = some o → b ≠ Pt → s'.heap.get? b = some o := fun b o e nb => by
        cases q : H b with
        | none => exact un.keep b o e q (fun z => nomatch z) (by simp)
        | some u =>
          rcases only b u q with ⟨rfl, ob, ys, rfl⟩ | ⟨rfl, _⟩
          · have e1 := (ok _ _ q).1
            have e2 := (ok' _ _ (un.frzs _ _ _ q)).1
            rw [e] at e1
            cases e1
            exact e2
          · exact absurd rfl nb
      obtain ⟨more, hm⟩ := un.tbls _ _ hP
      have eP : s'.heap.get? Pt = some { cls := Value.none, data := Data.fields (#[] ++ more) } := ok' _ _ hm
      refine ⟨rfl, ⟨fun b o e => ?_, fun b o e => ?_⟩, os, bare⟩
      · by_cases nb : b = Pt
        · subst nb
          rw [hPt] at e
          cases e
          exact .inr (.inl ⟨tPt, rfl, #[], more, rfl, eP⟩)
        · exact .inl (fin b o e nb)
      · by_cases nb : b = Pt
        · subst nb
          exact ⟨_, eP⟩
        · exact ⟨_, fin b o e nb⟩
  have lenV := hi.length
  cases hk : K.lookup a with
  | some o =>
    have e := KX a o hk
    rw [ha] at e
    cases e
    refine run (fun b => if b = Pt then some (.tbl #[]) else none) (fun b u z => ?_) (fun u z => ?_) (fun b u z => ?_) (.inr ⟨_, vs.toArray, _, hk, rfl, rfl, rfl, by rw [List.size_toArray, lenV]; exact hl, by simpa using rv⟩) (if_pos rfl)
    · by_cases hb : b = Pt
      · try dsimp only at z
        rw [if_pos hb] at z
        cases z
        exact .inr ⟨hb, rfl⟩
      · try dsimp only at z
        rw [if_neg hb] at z
        cases z
    · try dsimp only at z
      rw [if_neg nPa.symm] at z
      cases z
    · by_cases hb : b = Pt
      · try dsimp only at z
        rw [if_pos hb] at z
        cases z
        subst hb
        exact hPt
      · try dsimp only at z
        rw [if_neg hb] at z
        cases z
  | none =>
    refine run (fun b => if b = a then some (.frz { cls := .type "list", data := .seq vs.toArray } (.lst (ns.map V.int))) else if b = Pt then some (.tbl #[]) else none) (fun b u z => ?_) (fun _ _ => hk) (fun b u z => ?_) (.inl (.inr ⟨_, if_pos rfl⟩)) ?_
    · try dsimp only at z
      by_cases hb : b = a
      · rw [if_pos hb] at z
        cases z
        exact .inl ⟨hb, _, _, rfl⟩
      · rw [if_neg hb] at z
        by_cases hb2 : b = Pt
        · rw [if_pos hb2] at z
          cases z
          exact .inr ⟨hb2, rfl⟩
        · rw [if_neg hb2] at z
          cases z
    · try dsimp only at z
      by_cases hb : b = a
      · rw [if_pos hb] at z
        cases z
        subst hb
        exact ⟨ha, by rw [List.length_map]; exact hl, vs, _, rv, ha⟩
      · rw [if_neg hb] at z
        by_cases hb2 : b = Pt
        · rw [if_pos hb2] at z
          cases z
          subst hb2
          exact hPt
        · rw [if_neg hb2] at z
          cases z
    · try dsimp only
      rw [if_neg nPa, if_pos rfl]
theorem walkT {l : PySem.W.OpenLaw} {n k : Nat} {q : Program} {loose : List Str} {XP : (Str → Option Value) → Heap → Prop} {YP : World → Heap → Prop} {d : DefRec} {K : Params → PySem.W.Frag} {sp : PySem.W.Frag → (Str → Option Value) → Sp} {x : Str} {Pt : Addr}
    (hn : l.most = some n) (hn2 : n ≤ sizeLine) (hdf : d.params.defaults = []) (hr : Room k callerA) (hY : ∀ (w : World) (h : Heap), YP w h → (K w.params).In h) (hT : ∀ (w : World) (h : Heap), YP w h → h.get? Pt = some (PySem.W.tabObj #[])) (nT : ∀ w : World, (K w.params).lookup Pt = none)
    (tT : ∀ (w : World) (h : Heap), (K w.params).In h → isCodeTable h Pt)
    (F : ∀ (w : World) (mg : Str → Option Value) (fa : Addr) (h : Heap), (K w.params).In h → h.Ns mainGlobals mg → mg d.name = some (.ref fa) →
      ∃ fd : FuncData, (∀ (s : Shared) (u : Value), BindsTo s fd ⟨[u], []⟩ [(x, u)]) ∧ (∀ base : Heap, (K w.params).In base → base.Ns mainGlobals mg → base.BuiltinsAt mg Pt → FnG l.prog w (K w.params) mg base CX0 k fa fd [x] (sp (K w.params) mg)) ∧
        ∀ (H : Hp) (a : Addr) (ns : List Int), ns.length ≤ n → SqL (K w.params) H a (ns.map V.int) → H Pt = some (.tbl #[]) → sp (K w.params) mg [.ref a] H (fun v _ => v = .bl true) fun _ _ _ => False) :
    PySem.W.WalkO q loose XP YP l.row.toRowW d [] (fun f vs => PySem.call f vs) := by
  refine Att.attach_call hn hdf fun w s₀ s₁ mg mb fa o pm cd doc a vs ns G Y ho hd hcd hmg hobj hints hlen hg => ?_
  obtain ⟨fd, hb, hF, hsp⟩ := F w mg fa _ (hY w _ Y) G.T.g hmg
  have hbm : s₁.heap.BuiltinsAt mg Pt := by
    obtain ⟨bm, ob, b1, b2, b3, b4, b5, b6⟩ := G.T.bmain
    refine ⟨bm, ob, b1, b2, fun z => ?_, fun z => ?_, b3, b4, b5, b6⟩
    · obtain ⟨o, es, ep, e, d, r⟩ := G.T.g
      rw [z, e] at b3
      cases b3
      rw [d] at b6
      cases b6
    · rw [z, hT w _ Y] at b3
      cases b3
      cases b6
  exact law_T (hY w _ Y) G.T.g G.T.b G.T.builtins G.T.nolimit hg hobj hints (Nat.le_trans hlen hn2) hr (hT w _ Y) (nT w) (tT w _ (hY w _ Y)) (fun base k1 k2 _ _ k3 => hF base k1 k2 k3) hbm hb fun H hS hP => hsp H a ns hlen hS hP
/-! how long a datum's repr may be -/
mutual
def wt : PyData → Nat
  | .none => 4
  | .bool _ => 5
  | .int _ => 2000
  | .str x => 10 * x.length + 2
  | .list xs => wtA xs + 3
  | .tuple xs => wtA xs + 3
  | .dict _ => 0
def wtA : List PyData → Nat
  | [] => 0
  | x :: xs => wt x + 2 + wtA xs
end
mutual
def okR : PyData → Bool
  | .none => true
  | .bool _ => true
  | .int i => decide (i.natAbs.log2 < 1920)
  | .str x => x.cps.toList.all fun c => decide (c < 16 ^ 8)
  | .list xs => okRA xs
  | .tuple xs => okRA xs
  | .dict _ => false
def okRA : List PyData → Bool
  | [] => true
  | x :: xs => okR x && okRA xs
end
mutual
theorem okR_show : ∀ d : PyData, okR d = true → d.showable = true ∧ d.hasDict = false
  | .none, _ => by simp [PyData.showable, PyData.hasDict]
  | .bool _, _ => by simp [PyData.showable, PyData.hasDict]
  | .str _, _ => by simp [PyData.showable, PyData.hasDict]
  | .int i, h => by
    simp only [okR] at h
    simp only [PyData.showable, PyData.hasDict]
    exact ⟨h, trivial⟩
  | .list xs, h => by
    simp only [okR] at h
    simp only [PyData.showable, PyData.hasDict]
    exact okRA_show xs h
  | .tuple xs, h => by
    simp only [okR] at h
    simp only [PyData.showable, PyData.hasDict]
    exact okRA_show xs h
  | .dict _, h => by simp only [okR] at h; cases h
theorem okRA_show : ∀ ds : List PyData, okRA ds = true → PyData.showableAll ds = true ∧ PyData.hasDictAll ds = false
  | [], _ => by simp [PyData.showableAll, PyData.hasDictAll]
  | d :: ds, h => by
    simp only [okRA, Bool.and_eq_true] at h
    have h1 := okR_show d h.1
    have h2 := okRA_show ds h.2
    simp only [PyData.showableAll, PyData.hasDictAll, h1.1, h1.2, h2.1, h2.2, Bool.and_self, Bool.or_self, and_self]
end
theorem shownAll_length : ∀ ds : List PyData, (PyData.shownAll ds).length = ds.length
  | [] => rfl
  | d :: ds => by simp only [PyData.shownAll, List.length_cons, shownAll_length ds]
mutual
theorem shown_le : ∀ d : PyData, okR d = true → d.shown.length ≤ wt d
  | .none, _ => by simp only [PyData.shown, wt]; decide +kernel
  | .bool b, _ => by cases b <;> (simp only [PyData.shown, wt]; decide +kernel)
  | .int i, h => by
    simp only [okR] at h
    have e := int_text_length_le (k := 1920) (by decide) (of_decide_eq_true h)
    simp only [PyData.shown, wt]
    rw [PySem.ofString_length]
    omega
  | .str x, h => by
    simp only [okR, List.all_eq_true, decide_eq_true_eq] at h
    simp only [PyData.shown, wt]
    exact StrLaws.reprText_len x h
  | .list xs, h => by
    simp only [okR] at h
    have e := listText_len_le (PyData.shownAll xs)
    have f := shownAll_le xs h
    rw [shownAll_length] at e
    simp only [PyData.shown, wt]
    omega
  | .tuple xs, h => by
    simp only [okR] at h
    have e := fmt_text (PyData.shownAll xs)
    have f := shownAll_le xs h
    have g : piled (PyData.shownAll xs) = ((PyData.shownAll xs).map (·.length)).sum + 2 * xs.length := by
      rw [← shownAll_length xs]
      unfold piled
      generalize PyData.shownAll xs = l
      induction l with
      | nil => rfl
      | cons a l ih => simp only [List.map_cons, List.sum_cons, List.length_cons] at ih ⊢; omega
    simp only [PyData.shown, wt]
    omega
  | .dict _, h => by simp only [okR] at h; cases h
theorem shownAll_le : ∀ ds : List PyData, okRA ds = true → ((PyData.shownAll ds).map (·.length)).sum + 2 * ds.length ≤ wtA ds
  | [], _ => by simp [PyData.shownAll, wtA]
  | d :: ds, h => by
    simp only [okRA, Bool.and_eq_true] at h
    have h1 := shown_le d h.1
    have h2 := shownAll_le ds h.2
    simp only [PyData.shownAll, wtA, List.map_cons, List.sum_cons, List.length_cons]
    omega
end
/-- repr(x), x data -/
def rRepr (K : PySem.W.Frag) : List V → Hp → VK → Prop := fun xs H Q => ∃ x d, xs = [x] ∧ Dp K H x d ∧ okR d = true ∧ d.depth ≤ 40 ∧ wt d ≤ 16777216 ∧ Q (.str d.shown) H
section
variable {X : Cx}
theorem cRepr (gd : X.A.guards = some []) (hu : X.A.units + 64 < cLine) : CallR X (.builtin "repr") (rRepr X.K) := by
  intro pins s σ H xs us Q I r h
  obtain ⟨x, d, rfl, dp, ok, dd, dz, q⟩ := h
  obtain ⟨u, rfl, rx⟩ := vals1 r
  obtain ⟨as, rd⟩ := Dp.reads I d x u dp rx
  have sh := okR_show d ok
  have sz : d.shown.length ≤ sizeLine := Nat.le_trans (shown_le d ok) (by rw [sizeLine_eq]; exact dz)
  cases rd with
  | none => exact PySem.P.repr_of_none ⟨.str _, H, I.tok _, ⟨_, rfl⟩, q⟩
  | bool b => exact PySem.P.repr_of_bool ⟨.str _, H, I.tok _, ⟨_, rfl⟩, q⟩
  | int i t => exact PySem.P.repr_of_int (by simpa [okR] using ok) ⟨.str _, H, I.tok _, ⟨_, rfl⟩, q⟩
  | str z t => exact PySem.P.repr_of_str ⟨.str _, H, I.tok _, ⟨_, rfl⟩, q⟩ sz
  | list h1 h2 h3 h4 => exact repr_of_reads' (.list h1 h2 h3 h4) sh.1 (PyData.noDict_hsm sh.2) gd (by omega) (fun _ _ e => e) (fun h' u tk hk => ⟨.str _, H, I.kept hk, ⟨_, rfl⟩, q⟩) sz
  | tuple h1 h2 h3 h4 => exact repr_of_reads' (.tuple h1 h2 h3 h4) sh.1 (PyData.noDict_hsm sh.2) gd (by omega) (fun _ _ e => e) (fun h' u tk hk => ⟨.str _, H, I.kept hk, ⟨_, rfl⟩, q⟩) sz
  | dict => simp only [okR] at ok; cases ok
end

abbrev sOutcome : Stmt := top 37
abbrev sHome : Stmt := top 38
abbrev sAdded : Stmt := top 39
abbrev sDone : Stmt := top 40
abbrev sIsLevel : Stmt := top 41
abbrev sLaw : Stmt := top 42
theorem takes_len {X : Cx} {W : WX} (tk : Takes X W) : Takes X fun cls d σ H => σ.length = X.N.length → W cls d σ H := fun u s' ⟨a, B, sI, pins, σ, H, cls, d, h1, I, h2, h3, h4, h5, h6, h7, h8⟩ => tk u s' ⟨a, B, sI, pins, σ, H, cls, d, h1, I, h2, h3, h4, h5, h6, h7, h8 I.len⟩
theorem takes0 {X : Cx} : Takes X (fun _ _ _ _ => False) := fun u s' ⟨_, _, _, _, _, _, _, _, _, _, _, _, _, _, _, _, w⟩ => w.elim
/-- what is raised with the field f at n is told as [wd, n] -/
def TellsAs (D : Addr) (f wd : Str) (E : XK) (Q : VK) : Prop := ∀ (dd : Addr) (n : Int) (H' : Hp), H' dd = some (.xd [(f, .int n)]) → (∀ l, H' l = none → Q (.ref l) (upd H' l (.lst [.str wd, .int n]))) → E (.ref D) (some dd) H'
/-- what is handed to _law_outcome returns, or raises one of two errors -/
def TOut (D1 D3 : Addr) (tl : XK → Hp → VK → Prop) (H : Hp) (Q : VK) : Prop :=
  ∀ E : XK, TellsAs D1 "number" "registered" E Q → TellsAs D3 "number" "not registered" E Q → tl E H Q
theorem scOutcome : FnScope ["_law_deed", "e"] ["_law_deed"] (defScope sOutcome) := ⟨rfl, rfl, rfl, by decide +kernel, rfl, by decide +kernel, by decide +kernel⟩
abbrev tHd (K : PySem.W.Frag) (D : Addr) (wd f : Str) : Addr → Value → Option Addr → TS := fun a cls d => tRet (tLst (tCons (tC (.str wd)) (tCons (tXf a cls d D f (tVar 1)) tNil)))
theorem out_gives {X : Cx} {D1 D3 f1 f3 : Addr} {fd1 fd3 : FuncData} {g : Addr} {cdg : Value} {q : Str} (T1 : RegisteredE X.K X.mg D1 f1 fd1) (T3 : NotRegisteredE X.K X.mg D3 f3 fd3)
    (x31 : PySem.W.exmOne X.K (.ref D3) (.ref D1) = some false) :
    LamX.GivesTo X ["_law_deed", "e"] "_law_outcome" (defScope sOutcome) g cdg (defBody sOutcome) "_law_deed" q (TOut D1 D3) := by
  intro f c' s H Q tl hPE hc' hT
  refine ⟨_, pss_one (ps_try_all (l := [⟨.ref D1, 1, tHd X.K D1 "registered" "number"⟩, ⟨.ref D3, 1, tHd X.K D3 "not registered" "number"⟩]) (Wz := fun _ _ _ _ => False)
      (tb := fun W Ds σ H1 => (σ[0]? = some (some (.ref f)) ∧ H1 c' = some (LamX.CodeO c' q) ∧ tl (fun cls d H' => ∀ σ' : L2.St, σ'.length = 2 → W cls d σ' H') H1 Ds.rt))
      rfl rfl scOutcome.nd takes0
      (fun W pn xe tk _ => pss_one (ps_ret (hPE _ pn xe _ _ _ (takes_len tk) (fun cls d σ' H' h hl => h σ' hl))))
      (.cons rfl rfl ⟨rfl, by decide, Or.inl T1.gC⟩ (fun a oe cls d pn hz hf => pss_one (ps_ret (pe_lst (pa_cons pe_str (pa_cons (pe_xf T1.xf T1.noN hz hf (pv 1)) pa_nil)))))
      (.cons rfl rfl ⟨rfl, by decide, Or.inl T3.gC⟩ (fun a oe cls d pn hz hf => pss_one (ps_ret (pe_lst (pa_cons pe_str (pa_cons (pe_xf T3.xf T3.noN hz hf (pv 1)) pa_nil))))) .nil))), ?_⟩
  refine ⟨rfl, hc', hT _ (fun dd n H' hd k σ' hl => ⟨true, T1.te, fun _ a ha => ?_, fun z => Bool.noConfusion z⟩)
    (fun dd n H' hd k σ' hl => ⟨false, x31, (fun z => Bool.noConfusion z), fun _ => ⟨true, T3.te, fun _ a ha => ?_, fun z => Bool.noConfusion z⟩⟩)⟩
  all_goals
    have e1 : (σ'.set 1 (some (V.ref a)))[1]? = some (some (V.ref a)) := by rw [List.getElem?_set_self (by omega)]
    exact ⟨_, e1, rfl, rfl, dd, _, _, rfl, hd, rfl, by show 2 ≤ sizeLine; decide, fun l hl2 => k l hl2⟩
/-- what _law_outcome rests on -/
structure OutTxt (K : PySem.W.Frag) (mg : Str → Option Value) (D1 f1 : Addr) (fd1 : FuncData) (D3 f3 : Addr) (fd3 : FuncData) (g : Addr) (fd : FuncData) : Prop where
  fn : Fun K "_law_outcome" "_law_outcome" sOutcome g fd
  gm : mg "_law_outcome" = some (.ref g)
  bd : Binds K fd ["_law_deed"] []
  er1 : RegisteredE K mg D1 f1 fd1
  er3 : NotRegisteredE K mg D3 f3 fd3
  x31 : PySem.W.exmOne K (.ref D3) (.ref D1) = some false
/-- _law_outcome(lambda: e) -/
theorem pe_out {X : Cx} {D1 f1 D3 f3 g c Pt : Addr} {fd1 fd3 fd : FuncData} {T : List (Addr × Str)} {k : Nat} {params : Arguments} {body : Expr} {scope : PySem.Scope} {t : XK → TE} {p lpos pos : Pos} (R : OutTxt X.K X.mg D1 f1 fd1 D3 f3 fd3 g fd) (hg : Gl X "_law_outcome")
    (TB : LamX.TabB X.base X.mg c Pt) (hcode : X.env.code = .ref c) (hmT : (Pt, X.env.qual ++ "<lambda>") ∈ T) (hu : ∀ p ∈ T, p.1 = Pt → p.2 = X.env.qual ++ "<lambda>") (hr : Room (k + 2) X.A) (L : LamX.LamS X.env.scope scope) (hdef : defaultsOf params X.env = ([], []))
    (hbind : ∀ (q : Str) (cl : List (Str × Addr)) (pm cv ctv : Value), bindArgs (PySem.W.kla_fn "<lambda>" q params body scope cl pm cv ctv) ⟨[], []⟩ = pure [])
    (hbody : ∀ (A : Around) (outer : List Env) (s : Shared) (H : Hp) (E : XK) (f c' : Addr), Room k (A.deeper (LamX.lamEnv X scope s.heap.objs.size f c')) → PE (LamX.lamCx X A outer s H E scope f c') body (t E)) :
    PE X (.Call (.Name "_law_outcome" p) [.Lambda params body scope lpos] [] pos) (LamX.tLam T (TOut D1 D3) t) := by
  obtain ⟨oc, od, kV, doc, pm, an, cdv, ct, osl, e, lk, hcg⟩ := R.fn.ex
  have bd := R.bd
  subst e
  exact LamX.pe_lamcall hg R.gm R.fn.kp lk hcg bd scOutcome rfl (by exact Or.inl rfl) (out_gives R.er1 R.er3 R.x31) TB hcode hmT hu hr L hdef hbind hbody

open LamX
theorem co_tbl {C : Cs} {S : Sys} {ad dx : Cell → Addr} {c : Cell} (ps : Array Value) : co C S ad dx c ≠ .tbl ps := fun z => by
  cases c <;> (unfold co at z; first | (unfold sysO at z; cases z) | (unfold wsO at z; cases z) | (unfold regO at z; cases z) | cases z)
theorem At.extN {C : Cs} {H H1 : Hp} {S : Sys} {ad dx : Cell → Addr} (A : At C H S ad dx) (e : ExtN H H1) : At C H1 S ad dx := ⟨fun c hc => e _ _ (A.at_ c hc) co_tbl, A.inj⟩
theorem code_ne {C : Cs} {S : Sys} {ad dx : Cell → Addr} {c : Cell} {a : Addr} {q : Str} : co C S ad dx c ≠ CodeO a q := fun z => by
  unfold CodeO at z
  cases c <;> (unfold co at z; first | (unfold sysO at z; cases z) | (unfold wsO at z; cases z) | (unfold regO at z; cases z) | cases z)
/-- where tables and code objects stay -/
theorem Tabs.by {T : List (Addr × Str)} {H H' : Hp} (t : Tabs T H) (e1 : ∀ b ps, H b = some (.tbl ps) → H' b = some (.tbl ps)) (e2 : ∀ b q, H b = some (CodeO b q) → H' b = some (CodeO b q)) : Tabs T H' := fun p hp => by
  obtain ⟨ps, h1, h2, h3⟩ := t p hp
  refine ⟨ps, e1 _ _ h1, h2, fun pos cv hc => ?_⟩
  obtain ⟨c, x1, x2⟩ := h3 pos cv hc
  exact ⟨c, x1, e2 _ _ x2⟩
theorem Tabs.step {T : List (Addr × Str)} {C : Cs} {H H' : Hp} {S S' : Sys} {ad ad' dx : Cell → Addr} (t : Tabs T H) (A : At C H S ad dx) (st : Step H S ad H' S' ad') : Tabs T H' :=
  Tabs.by t (fun b ps h => st.keep b _ (fun ⟨c, lc, ec⟩ => by rw [← ec, A.at_ c lc] at h; exact co_tbl ps (Option.some.inj h)) h) (fun b q h => st.keep b _ (fun ⟨c, lc, ec⟩ => by rw [← ec, A.at_ c lc] at h; exact code_ne (Option.some.inj h)) h)
theorem Tabs.lst {T : List (Addr × Str)} {H : Hp} {l : Addr} {us : List V} {o : HO} (t : Tabs T H) (hl : H l = some (.lst us)) : Tabs T (upd H l o) :=
  Tabs.by t (fun b ps h => by rw [upd_ne (fun z => by rw [z, hl] at h; cases h)]; exact h) (fun b q h => by rw [upd_ne (fun z => by rw [z, hl] at h; unfold CodeO at h; cases h)]; exact h)
/-- the heap without its tables -/
def hT (H : Hp) : Hp := fun b => match H b with
  | some (.tbl _) => none
  | r => r
theorem hT_at {H : Hp} {b : Addr} {o : HO} (h : H b = some o) (n : ∀ ps, o ≠ .tbl ps) : hT H b = some o := by
  unfold hT
  rw [h]
  cases o <;> first | rfl | exact absurd rfl (n _)
theorem hT_of {H : Hp} {b : Addr} {o : HO} (h : hT H b = some o) : H b = some o ∧ ∀ ps, o ≠ .tbl ps := by
  unfold hT at h
  cases e : H b with
  | none => rw [e] at h; cases h
  | some u =>
    rw [e] at h
    cases u <;> first | (cases h; exact ⟨rfl, fun ps z => by cases z⟩) | cases h
theorem hT_none {H : Hp} {b : Addr} (h : H b = none) : hT H b = none := by
  unfold hT
  rw [h]
theorem extN_hT {H H1 : Hp} (e : ExtN H H1) : Same (hT H) H1 := fun b o h => e b o (hT_of h).1 (hT_of h).2
theorem Same.frees {H H' : Hp} (s : Same H H') {b : Addr} (h : H' b = none) : H b = none := by
  cases q : H b with
  | none => rfl
  | some o => rw [s b o q] at h; cases h
theorem BagAt.lst {H : Hp} {p : Addr} (b : BagAt H p) : ∃ xs, H p = some (.lst xs) := by
  obtain ⟨x, y, h, _⟩ := b
  exact ⟨_, h⟩
theorem Tabs.off {T : List (Addr × Str)} {H H' : Hp} {l : Addr} {us : List V} (t : Tabs T H) (hl : H l = some (.lst us)) (k : ∀ q o, q ≠ l → H q = some o → H' q = some o) : Tabs T H' :=
  Tabs.by t (fun b ps h => k b _ (fun z => by rw [z, hl] at h; cases h) h) (fun b q h => k b _ (fun z => by rw [z, hl] at h; unfold CodeO at h; cases h) h)
def upF {α : Type} (f : Int → α) (n : Int) (a : α) : Int → α := fun k => if k = n then a else f k
theorem upF_at {α : Type} {f : Int → α} {n : Int} {a : α} : upF f n a n = a := if_pos rfl
theorem upF_ne {α : Type} {f : Int → α} {n k : Int} {a : α} (h : k ≠ n) : upF f n a k = f k := if_neg h
theorem nodup_snoc {ks : List Int} {n : Int} (h : ks.Nodup) (hn : n ∉ ks) : (ks ++ [n]).Nodup := by
  rw [List.nodup_append]
  refine ⟨h, by simp, fun a ha b hb => ?_⟩
  rw [List.mem_singleton.mp hb]
  exact fun z => hn (z ▸ ha)
theorem set_at {α : Type} {l : List α} {n i : Nat} {a : α} : (l.set n a)[i]? = if n = i ∧ i < l.length then some a else l[i]? := by
  rw [List.getElem?_set]
  by_cases h : n = i
  · subst h
    by_cases h2 : n < l.length
    · rw [if_pos rfl, if_pos h2, if_pos ⟨rfl, h2⟩]
    · rw [if_pos rfl, if_neg h2, if_neg (fun z => h2 z.2), List.getElem?_eq_none (by omega)]
  · rw [if_neg h, if_neg (fun z => h z.1)]
/-! dicts of values by ints -/
def vKV (ls : List Int) (f : Int → V) : List (Key × V) := ls.map fun l => (Sum.inl l, f l)
theorem v_val (ls : List Int) (f : Int → V) (l : Int) : valV (vKV ls f) (Sum.inl l) = if l ∈ ls then some (f l) else none := by
  induction ls with
  | nil => rfl
  | cons x ls ih =>
    unfold vKV at ih ⊢
    rw [List.map_cons]
    by_cases h : x = l
    · subst h
      rw [valV_pos rfl, if_pos List.mem_cons_self]
    · rw [valV_neg (fun z => h (Sum.inl.inj z)), ih]
      by_cases h2 : l ∈ ls
      · rw [if_pos h2, if_pos (List.mem_cons_of_mem _ h2)]
      · rw [if_neg h2, if_neg fun z => (List.mem_cons.mp z).elim (fun e => h e.symm) h2]
theorem v_put (ls : List Int) (f : Int → V) (l : Int) (b : V) : putK (vKV ls f) (Sum.inl l) b = vKV (if l ∈ ls then ls else ls ++ [l]) (upF f l b) := by
  unfold putK
  rw [valV_any, v_val]
  by_cases h : l ∈ ls
  · rw [if_pos h, if_pos h]
    show List.map _ (vKV ls f) = _
    unfold vKV
    rw [List.map_map]
    refine List.map_congr_left fun x _ => ?_
    by_cases e : x = l
    · show (if (Sum.inl x : Key) = Sum.inl l then _ else _) = _
      rw [if_pos (by rw [e])]
      show (_, b) = (_, upF f l b x)
      rw [e, upF_at]
    · show (if (Sum.inl x : Key) = Sum.inl l then _ else _) = _
      rw [if_neg (fun z => e (Sum.inl.inj z))]
      show _ = (_, upF f l b x)
      rw [upF_ne e]
  · rw [if_neg h, if_neg h]
    show vKV ls f ++ _ = _
    unfold vKV
    rw [List.map_append]
    have e1 : ls.map (fun j => ((Sum.inl j : Key), upF f l b j)) = ls.map fun j => (Sum.inl j, f j) := List.map_congr_left fun x hx => by rw [upF_ne fun z : x = l => h (z ▸ hx)]
    rw [e1]
    congr 1
    show [(_, b)] = [(_, upF f l b l)]
    rw [upF_at]
theorem v_drop (ls : List Int) (f : Int → V) (l : Int) : dropK (vKV ls f) (Sum.inl l) = vKV (without l ls) f := by
  induction ls with
  | nil => rfl
  | cons x ls ih =>
    unfold vKV dropK without at ih ⊢
    rw [List.map_cons, List.filter_cons, List.filter_cons]
    by_cases h : x = l
    · rw [if_neg (by simp [h]), if_neg (by simp [h])]
      exact ih
    · rw [if_pos (by simp [h]), if_pos (by simp [h]), List.map_cons]
      exact congrArg _ ih
theorem v_congr {ls : List Int} {f g : Int → V} (h : ∀ k ∈ ls, f k = g k) : vKV ls f = vKV ls g := List.map_congr_left fun k hk => by rw [h k hk]
theorem v_len (ls : List Int) (f : Int → V) : (vKV ls f).length = ls.length := List.length_map ..
abbrev iv (f : Int → Int) : Int → V := fun k => .int (f k)
theorem iv_up {f : Int → Int} {n a : Int} : upF (iv f) n (.int a) = iv (upF f n a) := funext fun k => by
  unfold upF iv
  dsimp only
  by_cases h : k = n
  · rw [if_pos h, if_pos h]
  · rw [if_neg h, if_neg h]
theorem dget {H : Hp} {D : Addr} {ks : List Int} {f : Int → Int} {n : Int} (h : H D = some (.dK (vKV ks (iv f)))) (hn : n ∈ ks) : DGet H D (.int n) (some (.int (f n))) := by
  have hv : valV (vKV ks (iv f)) (Sum.inl n) = some (.int (f n)) := by rw [v_val, if_pos hn]
  exact hv ▸ DGet.k (k := Sum.inl n) h
/-- a heap at a law's work: its system, and the law's own objects O -/
structure LW (C : Cs) (T : List (Addr × Str)) (Hb : Hp) (x : Addr) (H : Hp) (S : Sys) (ad dx : Cell → Addr) (O : Hp) : Prop where
  at_ : At C H S ad dx
  box : ad .box = x
  tab : Tabs T H
  on : ∀ b o, O b = some o → H b = some o
  no : ∀ b o, O b = some o → ¬ own S ad b
  ob : ∀ b o, O b = some o → hT Hb b = none
  nt : ∀ b o, O b = some o → (∀ ps, o ≠ .tbl ps) ∧ ∀ q, o ≠ CodeO b q
  old : ∀ q o, hT Hb q = some o → H q = some o
  nb : ∀ b, own S ad b → hT Hb b = none
section
variable {C : Cs} {T : List (Addr × Str)} {Hb H H1 H' : Hp} {x b : Addr} {S S' : Sys} {ad ad' dx dx' : Cell → Addr} {O : Hp} {o o' : HO}
theorem LW.same (W : LW C T Hb x H S ad dx O) (s : Same H H') : LW C T Hb x H' S ad dx O :=
  ⟨W.at_.same s, W.box, W.tab.ext s, fun b o h => s _ _ (W.on b o h), W.no, W.ob, W.nt, fun q o h => s _ _ (W.old q o h), W.nb⟩
theorem LW.extN (W : LW C T Hb x H S ad dx O) (e : ExtN H H1) (t : Tabs T H1) : LW C T Hb x H1 S ad dx O :=
  ⟨W.at_.extN e, W.box, t, fun b o h => e _ _ (W.on b o h) (W.nt b o h).1, W.no, W.ob, W.nt, fun q o h => e _ _ (W.old q o h) (hT_of h).2, W.nb⟩
theorem LW.hTn (W : LW C T Hb x H S ad dx O) {b : Addr} (h : H b = none) : hT Hb b = none := by
  cases q : hT Hb b with
  | none => rfl
  | some o => rw [W.old b o q] at h; cases h
theorem LW.step (W : LW C T Hb x H S ad dx O) (A : At C H' S' ad' dx') (st : Step H S ad H' S' ad') : LW C T Hb x H' S' ad' dx' O := by
  refine ⟨A, st.box.trans W.box, Tabs.step W.tab W.at_ st, fun b o h => st.keep _ _ (W.no b o h) (W.on b o h), fun b o h z => ?_, W.ob, W.nt, fun q o h => st.keep _ _ (fun z => by rw [W.nb q z] at h; cases h) (W.old q o h), fun b hb => ?_⟩
  · rcases st.new b z with y | y
    · exact W.no b o h y
    · rw [W.on b o h] at y; cases y
  · rcases st.new b hb with z | z
    · exact W.nb b z
    · exact W.hTn z
/-- one of the law's own objects is written -/
theorem LW.put (W : LW C T Hb x H S ad dx O) (hb : O b = some o) (n1 : ∀ ps, o' ≠ .tbl ps) (n2 : ∀ q, o' ≠ CodeO b q) (h : H' b = some o') (k : ∀ q u, q ≠ b → H q = some u → H' q = some u) : LW C T Hb x H' S ad dx (upd O b o') := by
  have nn := W.nt b o hb
  have e := W.on b o hb
  refine ⟨⟨fun c hc => k _ _ (fun z => W.no b o hb ⟨c, hc, z⟩) (W.at_.at_ c hc), W.at_.inj⟩, W.box, Tabs.by W.tab (fun d ps h => k d _ (fun z => nn.1 ps (by rw [z, e] at h; exact Option.some.inj h)) h) (fun d q h => k d _ (fun z => nn.2 q (by rw [z, e] at h; exact Option.some.inj h)) h), fun d u hd => ?_, fun d u hd => ?_, fun d u hd => ?_, fun d u hd => ?_, fun q u hq => k q u (fun z => by rw [z, W.ob b o hb] at hq; cases hq) (W.old q u hq), W.nb⟩
  all_goals
    by_cases z : d = b
    · subst z
      rw [upd_same] at hd
      cases hd
      first | exact h | exact W.no _ _ hb | exact W.ob _ _ hb | exact ⟨n1, n2⟩
    · rw [upd_ne z] at hd
      first | exact k _ _ z (W.on _ _ hd) | exact W.no _ _ hd | exact W.ob _ _ hd | exact W.nt _ _ hd
/-- one more object of the law's own -/
theorem LW.new (W : LW C T Hb x H S ad dx O) (hb : H b = none) (n1 : ∀ ps, o ≠ .tbl ps) (n2 : ∀ q, o ≠ CodeO b q) (h : H' b = some o) (s : Same H H') : LW C T Hb x H' S ad dx (upd O b o) := by
  have W1 := W.same s
  refine ⟨W1.at_, W1.box, W1.tab, fun d u hd => ?_, fun d u hd => ?_, fun d u hd => ?_, fun d u hd => ?_, W1.old, W1.nb⟩
  all_goals
    by_cases z : d = b
    · subst z
      rw [upd_same] at hd
      cases hd
      first | exact h | exact W.at_.not_own hb | exact W.hTn hb | exact ⟨n1, n2⟩
    · rw [upd_ne z] at hd
      first | exact W1.on _ _ hd | exact W1.no _ _ hd | exact W1.ob _ _ hd | exact W1.nt _ _ hd
theorem LW.fresh (W : LW C T Hb x H S ad dx O) (hb : H b = none) : O b = none := by
  cases e : O b with
  | none => rfl
  | some o => rw [W.on b o e] at hb; cases hb
theorem LW.sq {K : PySem.W.Frag} {a : Addr} {xs : List V} (W : LW C T Hb x H S ad dx O) (h : SqL K Hb a xs) : SqL K H a xs := by
  rcases h with (h | ⟨o, h⟩) | h
  · exact .inl (.inl (W.old _ _ (hT_at h fun ps z => by cases z)))
  · exact .inl (.inr ⟨o, W.old _ _ (hT_at h fun ps z => by cases z)⟩)
  · exact .inr h
theorem LW.hb (W : LW C T Hb x H S ad dx O) : H x = some (sysO C.S (dx .box) S (ad .tabD) (ad .srcD) (ad .setD)) := by rw [← W.box]; exact W.at_.at_ .box trivial
theorem lst_tc {b : Addr} {xs : List V} : (∀ ps, HO.lst xs ≠ .tbl ps) ∧ ∀ q, HO.lst xs ≠ CodeO b q := ⟨fun ps z => (by cases z), fun q z => (by unfold CodeO at z; cases z)⟩
theorem tup_tc {b : Addr} {xs : List V} : (∀ ps, HO.tup xs ≠ .tbl ps) ∧ ∀ q, HO.tup xs ≠ CodeO b q := ⟨fun ps z => (by cases z), fun q z => (by unfold CodeO at z; cases z)⟩
theorem dK_tc {b : Addr} {xs : List (Key × V)} : (∀ ps, HO.dK xs ≠ .tbl ps) ∧ ∀ q, HO.dK xs ≠ CodeO b q := ⟨fun ps z => (by cases z), fun q z => (by unfold CodeO at z; cases z)⟩
/-- a draw from the bag p -/
theorem LW.draw {p : Addr} (W : LW C T Hb x H S ad dx O) (hp : BagAt O p) (e : ∀ b, b ≠ p → H' b = H b) (bg : BagAt H' p) : ∃ xs, BagAt (upd O p (.lst xs)) p ∧ LW C T Hb x H' S ad dx (upd O p (.lst xs)) := by
  obtain ⟨ys, hy⟩ := hp.lst
  obtain ⟨a, b, h, r⟩ := bg
  exact ⟨_, ⟨a, b, upd_same, r⟩, W.put hy (lst_tc (b := p)).1 lst_tc.2 h fun q u n hq => (e q n).trans hq⟩
theorem LW.bagH {p : Addr} (W : LW C T Hb x H S ad dx O) (hp : BagAt O p) : BagAt H p := by
  obtain ⟨a, b, h, r⟩ := hp
  exact ⟨a, b, W.on _ _ h, r⟩
end
theorem OutS {D : Addr} {f wd : Str} {E : XK} {Q : VK} (h : TellsAs D f wd E Q) {H1 : Hp} {n : Int} (k : ∀ H' l, Same H1 H' → H' l = some (.lst [.str wd, .int n]) → Q (.ref l) H') : Out D f n H1 E := fun d H2 hd s2 h2 => h d n H2 h2 fun l hl =>
  k _ l (s2.trans (Same.new' hl)) upd_same
/-- a deed, handed to _law_outcome -/
theorem out_any {C : Cs} {T : List (Addr × Str)} {Hb H O : Hp} {x D1 D3 : Addr} {S : Sys} {ad dx : Cell → Addr} {σ : L2.St} {t : XK → TE} {Q : VK} {sp : Sp} {vs : List V}
    (W : LW C T Hb x H S ad dx O) (hb : ∀ (E : XK) (H1 : Hp) (k : VK), sp vs H1 k E → t E σ H1 k)
    (h : ∀ (H1 : Hp) (E : XK), LW C T Hb x H1 S ad dx O → TellsAs D1 "number" "registered" E Q → TellsAs D3 "number" "not registered" E Q → sp vs H1 Q E) : tLam T (TOut D1 D3) t σ H Q :=
  ⟨W.tab, fun H1 e1 t1 E h1 h3 => hb E H1 Q (h H1 E (W.extN e1 t1) h1 h3)⟩

/-- a registration, as the law keeps it -/
structure Rg where
  n : Int
  src : Int
  lab : Int
  word : Str
abbrev rgT (r : Rg) : List V := [.int r.n, .int r.src, .int r.lab, .str r.word]
def RgT (H : Hp) (v : V) (r : Rg) : Prop := ∃ t, v = .ref t ∧ H t = some (.tup (rgT r))
theorem rgT_keep {H H' : Hp} {vs : List V} {rs : List Rg} (p : Paired (RgT H) vs rs) (k : ∀ b xs, H b = some (.tup xs) → H' b = some (.tup xs)) : Paired (RgT H') vs rs := by
  induction p with
  | nil => exact .nil
  | cons r _ ih =>
    obtain ⟨t, e1, e2⟩ := r
    exact .cons ⟨t, e1, k _ _ e2⟩ ih
def keyR (n t : Int) (r : Rg) : Bool := decide (r.n = n) && decide (r.src = t)
def hits (n t : Int) : Nat → List Rg → List Int
  | _, [] => []
  | k, r :: rs => if keyR n t r = true then (k : Int) :: hits n t (k + 1) rs else hits n t (k + 1) rs
theorem hits_app (n t : Int) (r : Rg) : ∀ (rs : List Rg) (k : Nat), hits n t k (rs ++ [r]) = hits n t k rs ++ if keyR n t r = true then [((k + rs.length : Nat) : Int)] else []
  | [], k => by
    show (if keyR n t r = true then _ else _) = _
    rw [List.length_nil, Nat.add_zero]
    rfl
  | x :: rs, k => by
    show (if keyR n t x = true then (k : Int) :: hits n t (k + 1) (rs ++ [r]) else hits n t (k + 1) (rs ++ [r])) = _ ++ _
    rw [hits_app n t r rs (k + 1), List.length_cons, show k + 1 + rs.length = k + (rs.length + 1) by omega]
    show _ = (if keyR n t x = true then _ else _) ++ _
    split <;> rfl
theorem hits_len (n t : Int) : ∀ (rs : List Rg) (k : Nat), (hits n t k rs).length ≤ rs.length
  | [], _ => Nat.le_refl _
  | x :: rs, k => by
    have := hits_len n t rs (k + 1)
    unfold hits
    split
    · rw [List.length_cons, List.length_cons]
      omega
    · rw [List.length_cons]
      omega
theorem hits_cases (n t : Int) : ∀ (rs : List Rg) (k : Nat), (hits n t k rs = [] ∧ rs.find? (keyR n t) = none) ∨ ∃ i r l, hits n t k rs = ((k + i : Nat) : Int) :: l ∧ rs[i]? = some r ∧ rs.find? (keyR n t) = some r ∧ r.n = n ∧ r.src = t
  | [], _ => .inl ⟨rfl, rfl⟩
  | x :: rs, k => by
    cases hx : keyR n t x with
    | true =>
      have e := hx
      unfold keyR at e
      rw [Bool.and_eq_true, decide_eq_true_eq, decide_eq_true_eq] at e
      exact .inr ⟨0, x, hits n t (k + 1) rs, by show (if keyR n t x = true then _ else _) = _; rw [if_pos hx]; rfl, rfl, by rw [List.find?_cons_of_pos hx], e.1, e.2⟩
    | false =>
      have e : hits n t k (x :: rs) = hits n t (k + 1) rs := by show (if keyR n t x = true then _ else _) = _; rw [if_neg (by rw [hx]; intro z; cases z)]
      rcases hits_cases n t rs (k + 1) with ⟨a, b⟩ | ⟨i, r, l, a, b, c, d⟩
      · exact .inl ⟨by rw [e, a], by rw [List.find?_cons_of_neg (by rw [hx]; intro z; cases z), b]⟩
      · exact .inr ⟨i + 1, r, l, by rw [e, a, show k + 1 + i = k + (i + 1) by omega], b, by rw [List.find?_cons_of_neg (by rw [hx]; intro z; cases z), c], d⟩
theorem paired_get {α β : Type} {R : α → β → Prop} : ∀ {xs : List α} {ys : List β}, Paired R xs ys → ∀ {i : Nat} {y : β}, ys[i]? = some y → ∃ x, xs[i]? = some x ∧ R x y
  | _, _, .nil, i, y, h => by cases i <;> cases h
  | _, _, .cons r p, 0, y, h => by
    cases h
    exact ⟨_, rfl, r⟩
  | _, _, .cons r p, i + 1, y, h => paired_get p (i := i) h
theorem paired_at {α β : Type} {R : α → β → Prop} : ∀ {xs : List α} {ys : List β}, Paired R xs ys → ∀ {i : Nat} {x : α}, xs[i]? = some x → ∃ y, ys[i]? = some y ∧ R x y
  | _, _, .nil, i, y, h => by cases i <;> cases h
  | _, _, .cons r p, 0, y, h => by
    cases h
    exact ⟨_, rfl, r⟩
  | _, _, .cons r p, i + 1, y, h => paired_at p (i := i) h
theorem paired_set {α β : Type} {R : α → β → Prop} : ∀ {xs : List α} {ys : List β}, Paired R xs ys → ∀ {i : Nat} {x : α} {y : β}, R x y → Paired R (xs.set i x) (ys.set i y)
  | _, _, .nil, i, x, y, h => .nil
  | _, _, .cons r p, 0, x, y, h => .cons h p
  | _, _, .cons r p, i + 1, x, y, h => .cons r (paired_set p h)
theorem paired_erase {α β : Type} {R : α → β → Prop} : ∀ {xs : List α} {ys : List β}, Paired R xs ys → ∀ {i : Nat}, Paired R (xs.eraseIdx i) (ys.eraseIdx i)
  | _, _, .nil, i => .nil
  | _, _, .cons r p, 0 => p
  | _, _, .cons r p, i + 1 => .cons r (paired_erase p)
theorem paired_len {α β : Type} {R : α → β → Prop} : ∀ {xs : List α} {ys : List β}, Paired R xs ys → xs.length = ys.length
  | _, _, .nil => rfl
  | _, _, .cons _ p => congrArg Nat.succ (paired_len p)
theorem two_eqv (a b c d : Int) : PyData.eqv (.tuple [.int a, .int b]) (.tuple [.int c, .int d]) = (decide (a = c) && decide (b = d)) := by
  simp only [PyData.eqv, PyData.eqvAll, Bool.and_true]
  rfl
theorem two_shaped (a b : Int) : SeqAt.shaped (.tuple [.int a, .int b]) = true := by
  unfold SeqAt.shaped
  rw [Bool.and_eq_true]
  exact ⟨by simp [PyData.canLay0, PyData.canLayAll0], decide_eq_true (by simp [PyData.depth, PyData.depthAll])⟩
theorem dp_ints {K : PySem.W.Frag} {H : Hp} : ∀ l : List Int, DpAll K H (l.map V.int) (l.map PyData.int)
  | [] => .nil
  | _ :: l => .cons (.int _) (dp_ints l)
theorem ints_lay : ∀ l : List Int, PyData.canLayAll0 (l.map PyData.int) = true ∧ PyData.depthAll (l.map PyData.int) = 0
  | [] => ⟨rfl, rfl⟩
  | c :: l => by
    obtain ⟨a, b⟩ := ints_lay l
    refine ⟨?_, ?_⟩
    · simp only [List.map_cons, PyData.canLayAll0, a, Bool.and_true, PyData.canLay0]
    · simp only [List.map_cons, PyData.depthAll, b, PyData.depth]
      rfl
theorem ints_shaped (l : List Int) : SeqAt.shaped (.list (l.map PyData.int)) = true := by
  obtain ⟨a, b⟩ := ints_lay l
  unfold SeqAt.shaped
  rw [Bool.and_eq_true]
  refine ⟨by simp only [PyData.canLay0]; exact a, decide_eq_true ?_⟩
  simp only [PyData.depth, b]
  decide
theorem ints_nil (l : List Int) : PyData.eqv (.list (l.map PyData.int)) (.list []) = l.isEmpty := by
  cases l with
  | nil => rfl
  | cons a b => rfl
section
variable {K : PySem.W.Frag} {H : Hp} {a b : Addr} {Q : VK}
theorem q_neNil {l : List Int} (h1 : H a = some (.lst (l.map V.int))) (h2 : H b = some (.lst [])) (k : Q (.bl (!l.isEmpty)) H) : rNeD K (.ref a) (.ref b) H Q := by
  refine ⟨_, _, .lst (SqL.of h1) (dp_ints l), .lst (SqL.of h2) .nil, ints_shaped l, rfl, ?_⟩
  rw [ints_nil]
  exact k
theorem q_eqNil {l : List Int} (h1 : H a = some (.lst (l.map V.int))) (h2 : H b = some (.lst [])) (k : Q (.bl l.isEmpty) H) : rEqD K (.ref a) (.ref b) H Q := by
  refine ⟨_, _, .lst (SqL.of h1) (dp_ints l), .lst (SqL.of h2) .nil, ints_shaped l, rfl, ?_⟩
  rw [ints_nil]
  exact k
end
def rgD (r : Rg) : PyData := .tuple [.int r.n, .int r.src, .int r.lab, .str r.word]
theorem dp_rgs {K : PySem.W.Frag} {H : Hp} {vs : List V} {rs : List Rg} (p : Paired (RgT H) vs rs) : DpAll K H vs (rs.map rgD) := by
  induction p with
  | nil => exact .nil
  | cons r _ ih =>
    obtain ⟨T, rfl, h⟩ := r
    exact .cons (.tup (SqT.of h) (.cons (.int _) (.cons (.int _) (.cons (.int _) (.cons (.str _) .nil))))) ih
theorem word_ok {wd : Str} (h : wd ∈ wordsL) : PyData.strOk wd = true := by
  unfold wordsL at h
  simp only [List.mem_cons, List.not_mem_nil, or_false] at h
  rcases h with z | z | z <;> rw [z] <;> decide +kernel
theorem rgs_lay : ∀ rs : List Rg, (∀ r ∈ rs, r.word ∈ wordsL) → PyData.canLayAll0 (rs.map rgD) = true ∧ PyData.depthAll (rs.map rgD) ≤ 1
  | [], _ => ⟨rfl, Nat.zero_le _⟩
  | r :: rs, h => by
    obtain ⟨a, b⟩ := rgs_lay rs fun q hq => h q (List.mem_cons_of_mem _ hq)
    have h0 := word_ok (h r List.mem_cons_self)
    refine ⟨?_, ?_⟩
    · simp [rgD, PyData.canLayAll0, PyData.canLay0, a, h0]
    · simp only [List.map_cons, rgD, PyData.depthAll, PyData.depth]
      omega
theorem rgs_shaped {rs : List Rg} (h : ∀ r ∈ rs, r.word ∈ wordsL) : SeqAt.shaped (.list (rs.map rgD)) = true := by
  obtain ⟨a, b⟩ := rgs_lay rs h
  unfold SeqAt.shaped
  rw [Bool.and_eq_true]
  refine ⟨by simp only [PyData.canLay0]; exact a, decide_eq_true ?_⟩
  simp only [PyData.depth]
  have e : ∀ n : Nat, n ≤ 1 → n + 1 ≤ 3 := fun n h => by omega
  refine Nat.le_trans (e _ b) ?_
  decide
theorem q_neNilR {K : PySem.W.Frag} {H : Hp} {a b : Addr} {Q : VK} {vs : List V} {rs : List Rg} (h1 : H a = some (.lst vs)) (p : Paired (RgT H) vs rs) (hw : ∀ r ∈ rs, r.word ∈ wordsL) (h2 : H b = some (.lst [])) (k : Q (.bl (!rs.isEmpty)) H) : rNeD K (.ref a) (.ref b) H Q := by
  refine ⟨_, _, .lst (SqL.of h1) (dp_rgs p), .lst (SqL.of h2) .nil, rgs_shaped hw, rfl, ?_⟩
  cases rs <;> exact k
theorem paired_app {α β : Type} {R : α → β → Prop} {xs : List α} {ys : List β} {x : α} {y : β} (p : Paired R xs ys) (h : R x y) : Paired R (xs ++ [x]) (ys ++ [y]) := by
  induction p with
  | nil => exact .cons h .nil
  | cons r _ ih => exact .cons r ih
section
variable {P : Program} {w : World} {K : PySem.W.Frag} {mg : Str → Option Value} {base : Heap} {C : Cs}
structure LawTx (mg : Str → Option Value) : Prop where
  range : mg "range" = none
  max : mg "max" = none
  min : mg "min" = none
  len : mg "len" = none
  enum : mg "enumerate" = none
  repr : mg "repr" = none
  sorted : mg "sorted" = none
def spAdded : Sp := fun vs H Q _ => ∃ (R : Addr) (n t l : Int) (ws : List V) (rs : List Rg), vs = [.ref R, .int n, .int t, .int l] ∧ H R = some (.lst ws) ∧ Paired (RgT H) ws rs ∧ rs.length ≤ 1000 ∧ (∀ r ∈ rs, r.word ∈ wordsL) ∧
  (∀ r, rs.find? (keyR n t) = some r → ∀ H' q, Same H H' → H' q = some (.lst [.str "registered", .int n]) → Q (.ref q) H') ∧
  (rs.find? (keyR n t) = none → ∀ H' q, H q = none → H' q = some (.tup (rgT ⟨n, t, l, "level"⟩)) → H' R = some (.lst (ws ++ [.ref q])) → (∀ b o, b ≠ R → H b = some o → H' b = some o) → Q .non H')
abbrev nAdded : List Str := ["_law_regs", "_law_n", "_law_source", "_law_label", "_law_reg"]
theorem scAdded : FnScope nAdded ["_law_regs", "_law_n", "_law_source", "_law_label"] (defScope sAdded) := ⟨rfl, rfl, rfl, by decide +kernel, rfl, by decide +kernel, by decide +kernel⟩
theorem okAdded {f : Addr} {fd : FuncData} (F : Fun K "_law_added" "_law_added" sAdded f fd) : FnOk P w K mg base CX0 1 f fd ["_law_regs", "_law_n", "_law_source", "_law_label"] spAdded := by
  refine F.ok scAdded (fun vs H Q E h => ?_) (fun cdv A outer s H vs Q E hr h => ?_)
  · obtain ⟨_, _, _, _, _, _, rfl, _⟩ := h
    rfl
  · obtain ⟨R, n, t, l, ws, rs, rfl, hR, pr, hl, hw, k1, k3⟩ := h
    have hu := hr.units
    have wl := paired_len pr
    refine ⟨_, pss_cons (ps_if (pt_cmpR (op_neD hu) (pe_lc (own := [("_law_reg", 4)]) (g := gName 4) (tt := tTest (tOp (rEqD K) (tSl (rSlT K) (tVar 4) tNoPart (tPart (tC (.int 2)))) (tTup (tCons (tVar 1) (tCons (tVar 2) tNil))))) (te := tVar 4) rfl scAdded.nd (pi_list (pv 0)) (blkOk_by (N := nAdded) (sc := defScope sAdded) (by decide +kernel)) (fun _ _ _ _ _ => pg_name (i := 4) scAdded.nd rfl (Or.inl rfl))
        (fun _ _ _ _ _ => pts_one (pt_cmpR (op_eqD hu) (pe_slice sl_tup (pv 4) po_none (po_some pe_int)) (pe_tup (pa_cons (pv 1) (pa_cons (pv 2) pa_nil))) (nomark _))) (fun _ _ _ _ _ => pv 4)) (pe_lst pa_nil) (nomark _)) (pss_one (ps_ret (pe_lst (pa_cons pe_str (pa_cons (pv 1) pa_nil))))) pss_nil)
      (pss_cons (ps_expr (pe_bm PySem.F.plainAttrs_list PySem.F.slot_list_append PySem.F.type_list_append mt_append (pv 0) (pa_cons (pe_tup (pa_cons (pv 1) (pa_cons (pv 2) (pa_cons (pv 3) (pa_cons pe_str pa_nil))))) pa_nil)))
      (pss_one (ps_ret pe_non))), ?_⟩
    walk_at "wn"
    unfold tLc iList
    walk_at "wn"
    refine ⟨R, rfl, ⟨_, SqL.of hR⟩, fun D hD => ?_⟩
    refine lc_list (K := K) (a := R) (xs := ws) (fun i H' => ∃ vs, Same H H' ∧ H' D = some (.lst vs) ∧ Paired (RgT H') vs ((rs.take i).filter (keyR n t))) ⟨[], Same.new' hD, upd_same, .nil⟩ (fun i H' _ ⟨_, sm, _⟩ => SqL.of (sm _ _ hR)) ?_ ?_
    · rintro i v H1 hv ⟨vs, sm, hd, pv1⟩
      obtain ⟨r, er, t1, rfl, ht1⟩ := paired_at pr hv
      have ht2 := sm _ _ ht1
      refine ⟨rfl, ?_⟩
      walk_at "wn"
      refine ⟨t1, _, rfl, SqT.of ht2, by show ¬ (0 = 0 ∧ 2 = 4); decide, fun c hc => ?_⟩
      have s3 := Same.new' (o := .tup [.int r.n, .int r.src]) hc
      show tTup _ _ (upd H1 c (.tup [.int r.n, .int r.src])) _
      walk_at "wn"
      refine ⟨by show 2 ≤ sizeLine; decide, fun d hd0 => ?_⟩
      have s4 := Same.new' (o := .tup [.int n, .int t]) hd0
      refine ⟨_, _, .tup (SqT.of (s4 _ _ upd_same)) (.cons (.int _) (.cons (.int _) .nil)), .tup (SqT.of upd_same) (.cons (.int _) (.cons (.int _) .nil)), two_shaped _ _, two_shaped _ _, ?_⟩
      rw [two_eqv]
      have s34 := s3.trans s4
      have s5 := sm.trans s34
      have hd5 := s34 _ _ hd
      have il : i < rs.length := (List.getElem?_eq_some_iff.mp er).1
      have et : rs.take (i + 1) = rs.take i ++ [r] := by rw [List.take_add_one, er]; rfl
      rw [et, List.filter_append]
      have vl := paired_len pv1
      have fl := List.length_filter_le (keyR n t) (rs.take i)
      rw [List.length_take] at fl
      have p5 := rgT_keep pv1 fun b xs e => s34 _ _ e
      have t5 := s5 _ _ ht1
      generalize upd (upd H1 c (.tup [.int r.n, .int r.src])) d (.tup [.int n, .int t]) = H5 at s5 hd5 p5 t5 ⊢
      have kp : ∀ {us : List V} b xs, H5 b = some (.tup xs) → upd H5 D (.lst us) b = some (.tup xs) := fun {us} b xs e => (upd_ne fun z => by rw [z, hd5] at e; cases e).trans e
      refine ⟨_, rfl, ?_⟩
      refine ite2 (fun hc => ?_) (fun hc => ?_)
      · walk_at "wn"
        rw [List.filter_cons, if_pos (show keyR n t r = true from hc)]
        refine ⟨vs, hd5, by rw [sizeLine_eq]; omega, vs ++ [.ref t1], fun b o e => ?_, upd_same, paired_app (rgT_keep p5 kp) ⟨t1, rfl, kp _ _ t5⟩⟩
        rw [upd_ne (ne_of_none e hD)]
        exact s5 _ _ e
      · rw [List.filter_cons, if_neg (show ¬ keyR n t r = true from hc), List.filter_nil, List.append_nil]
        exact ⟨vs, s5, hd5, p5⟩
    · rintro H' ⟨vs, sm, hd, pv1⟩
      rw [wl, List.take_length] at pv1
      walk_at "wn"
      refine ⟨Nat.zero_le _, fun z hz => ?_⟩
      have sz := Same.new' (o := .lst []) hz
      have hw2 : ∀ r ∈ rs.filter (keyR n t), r.word ∈ wordsL := fun r h => hw r (List.mem_filter.mp h).1
      refine q_neNilR (sz _ _ hd) (rgT_keep pv1 fun b xs e => sz _ _ e) hw2 upd_same ?_
      have s2 := sm.trans sz
      generalize upd H' z (.lst []) = H2 at s2 ⊢
      refine ⟨_, rfl, ?_⟩
      cases hf : rs.find? (keyR n t) with
      | none =>
        have e : rs.filter (keyR n t) = [] := List.filter_eq_nil_iff.mpr (List.find?_eq_none.mp hf)
        rw [e]
        refine iteF ?_
        have hR2 := s2 _ _ hR
        walk_at "wn"
        refine ⟨by show 4 ≤ sizeLine; decide, fun q hq => ?_⟩
        have s4 := s2.trans (Same.new' (o := .tup [.int n, .int t, .int l, .str "level"]) hq)
        have nqR : q ≠ R := fun z => by rw [z, hR2] at hq; cases hq
        walk_at "wn"
        refine ⟨R, ws, _, rfl, rfl, s4 _ _ hR, by rw [wl, sizeLine_eq]; omega, ?_⟩
        walk_at "wn"
        refine k3 hf _ q (s2.free hq) ((upd_ne nqR).trans upd_same) upd_same fun b o nb e => ?_
        rw [upd_ne nb]
        exact s4 _ _ e
      | some r =>
        have hm : r ∈ rs.filter (keyR n t) := List.mem_filter.mpr ⟨List.mem_of_find?_eq_some hf, List.find?_some hf⟩
        cases hfl : rs.filter (keyR n t) with
        | nil => rw [hfl] at hm; cases hm
        | cons x y =>
          refine iteT ?_
          walk_at "wn"
          exact ⟨by show 2 ≤ sizeLine; decide, fun q hq => k1 r hf _ q (s2.trans (Same.new' hq)) upd_same⟩
end

/-! the places of the law's own objects, and what stands there -/
structure Pl where
  p : Addr
  x : Addr
  L : Addr
  D : Nat → Addr
structure Tbs where
  ks : Nat → List Int
  th : Nat → Int → Int
def Tbs.put (m : Tbs) (i : Nat) (ks : List Int) (th : Int → Int) : Tbs := ⟨fun j => if j = i then ks else m.ks j, fun j => if j = i then th else m.th j⟩
def Pl.put (a : Pl) (i : Nat) (d : Addr) : Pl := { a with D := fun j => if j = i then d else a.D j }
/-- the bag, the list of nl tables, the nd tables, the registrations, if any -/
structure Pic (O : Hp) (a : Pl) (nl nd : Nat) (m : Tbs) (ro : Option (Addr × List Rg)) : Prop where
  bag : BagAt O a.p
  tl : O a.L = some (.lst ((List.range nl).map fun i => .ref (a.D i)))
  dict : ∀ i, i < nd → O (a.D i) = some (.dK (vKV (m.ks i) (iv (m.th i))))
  regs : ∀ R rs, ro = some (R, rs) → (∃ vs, O R = some (.lst vs) ∧ Paired (RgT O) vs rs) ∧ a.p ≠ R ∧ a.L ≠ R
  pL : a.p ≠ a.L
  DD : ∀ i j, i < nd → j < nd → a.D i = a.D j → i = j
section
variable {O : Hp} {a : Pl} {nl nd : Nat} {m : Tbs} {ro : Option (Addr × List Rg)} {R : Addr} {rs rs' : List Rg}
theorem Pic.Dp (W : Pic O a nl nd m ro) {i : Nat} (hi : i < nd) : a.D i ≠ a.p := fun z => by
  obtain ⟨xs, h⟩ := W.bag.lst
  rw [← z, W.dict i hi] at h
  cases h
theorem Pic.DL (W : Pic O a nl nd m ro) {i : Nat} (hi : i < nd) : a.D i ≠ a.L := fun z => by
  have h := W.tl
  rw [← z, W.dict i hi] at h
  cases h
theorem Pic.DR (W : Pic O a nl nd m (some (R, rs))) {i : Nat} (hi : i < nd) : a.D i ≠ R := fun z => by
  obtain ⟨⟨xs, h, _⟩, _⟩ := W.regs R rs rfl
  rw [← z, W.dict i hi] at h
  cases h
/-- where the object at b is written -/
theorem Pic.keepR {b : Addr} {o o' : HO} (h0 : O b = some o) (nt : ∀ xs, o ≠ .tup xs) (hR : R ≠ b) (h : (∃ vs, O R = some (.lst vs) ∧ Paired (RgT O) vs rs) ∧ a.p ≠ R ∧ a.L ≠ R) : (∃ vs, upd O b o' R = some (.lst vs) ∧ Paired (RgT (upd O b o')) vs rs) ∧ a.p ≠ R ∧ a.L ≠ R := by
  obtain ⟨⟨vs, h1, h2⟩, h3⟩ := h
  exact ⟨⟨vs, (upd_ne hR).trans h1, rgT_keep h2 fun c xs e => (upd_ne fun z => by rw [z, h0] at e; exact nt xs (Option.some.inj e)).trans e⟩, h3⟩
theorem Pic.draw (W : Pic O a nl nd m ro) {xs : List V} (b : BagAt (upd O a.p (.lst xs)) a.p) : Pic (upd O a.p (.lst xs)) a nl nd m ro := by
  obtain ⟨ys, hp⟩ := W.bag.lst
  exact ⟨b, (upd_ne (Ne.symm W.pL)).trans W.tl, fun i hi => (upd_ne (W.Dp hi)).trans (W.dict i hi), fun R rs e => Pic.keepR hp (fun xs z => by cases z) (Ne.symm (W.regs R rs e).2.1) (W.regs R rs e), W.pL, W.DD⟩
theorem Pic.putD (W : Pic O a nl nd m ro) {i : Nat} (hi : i < nd) (ks : List Int) (th : Int → Int) : Pic (upd O (a.D i) (.dK (vKV ks (iv th)))) a nl nd (m.put i ks th) ro := by
  obtain ⟨y, z, hp, r⟩ := W.bag
  refine ⟨⟨y, z, (upd_ne (Ne.symm (W.Dp hi))).trans hp, r⟩, (upd_ne (Ne.symm (W.DL hi))).trans W.tl, fun j hj => ?_, fun R rs e => ?_, W.pL, W.DD⟩
  · unfold Tbs.put
    dsimp only
    by_cases e : j = i
    · rw [if_pos e, if_pos e, e, upd_same]
    · rw [if_neg e, if_neg e, upd_ne (fun z => e (W.DD j i hj hi z))]
      exact W.dict j hj
  · subst e
    exact Pic.keepR (W.dict i hi) (fun xs z => by cases z) (Ne.symm (W.DR hi)) (W.regs R rs rfl)
theorem Pic.putR (W : Pic O a nl nd m (some (R, rs))) {vs : List V} (p : Paired (RgT O) vs rs') : Pic (upd O R (.lst vs)) a nl nd m (some (R, rs')) := by
  obtain ⟨⟨vs0, h, p0⟩, pR, LR⟩ := W.regs R rs rfl
  obtain ⟨y, z, hp, r⟩ := W.bag
  refine ⟨⟨y, z, (upd_ne pR).trans hp, r⟩, (upd_ne LR).trans W.tl, fun i hi => (upd_ne (W.DR hi)).trans (W.dict i hi), fun R2 rs2 e => ?_, W.pL, W.DD⟩
  cases e
  exact ⟨⟨vs, upd_same, rgT_keep p fun b xs e => (upd_ne fun z => by rw [z, h] at e; cases e).trans e⟩, pR, LR⟩
theorem Pic.new (W : Pic O a nl nd m ro) {t : Addr} {o : HO} (ht : O t = none) : Pic (upd O t o) a nl nd m ro := by
  have k : ∀ b u, O b = some u → upd O t o b = some u := fun b u e => (upd_ne (ne_of_none e ht)).trans e
  obtain ⟨y, z, hp, r⟩ := W.bag
  refine ⟨⟨y, z, k _ _ hp, r⟩, k _ _ W.tl, fun i hi => k _ _ (W.dict i hi), fun R rs e => ?_, W.pL, W.DD⟩
  obtain ⟨⟨vs0, h, p0⟩, r⟩ := W.regs R rs e
  exact ⟨⟨vs0, k _ _ h, rgT_keep p0 fun b xs e => k _ _ e⟩, r⟩
/-- one more table, not in the list yet -/
theorem Pic.newD (W : Pic O a nl nd m ro) (hl : nl ≤ nd) {d : Addr} (hd : O d = none) (ks : List Int) (th : Int → Int) : Pic (upd O d (.dK (vKV ks (iv th)))) (a.put nd d) nl (nd + 1) (m.put nd ks th) ro := by
  have N := W.new (o := .dK (vKV ks (iv th))) hd
  have ne : ∀ i, i < nd → a.D i ≠ d := fun i hi z => by rw [← z, W.dict i hi] at hd; cases hd
  have eD : ∀ i, i < nd → (a.put nd d).D i = a.D i := fun i hi => if_neg (Nat.ne_of_lt hi)
  have eN : (a.put nd d).D nd = d := if_pos rfl
  refine ⟨N.bag, ?_, fun i hi => ?_, N.regs, W.pL, fun i j hi hj e => ?_⟩
  · rw [show (a.put nd d).L = a.L from rfl, N.tl]
    congr 2
    refine List.map_congr_left fun i hi => ?_
    rw [eD i (by have := List.mem_range.mp hi; omega)]
  · unfold Tbs.put
    dsimp only
    by_cases z : i = nd
    · rw [z, eN, if_pos rfl, if_pos rfl, upd_same]
    · rw [eD i (by omega), if_neg z, if_neg z]
      exact N.dict i (by omega)
  · by_cases z : i = nd
    · by_cases y : j = nd
      · omega
      · rw [z, eN, eD j (by omega)] at e
        exact absurd e.symm (ne j (by omega))
    · by_cases y : j = nd
      · rw [y, eN, eD i (by omega)] at e
        exact absurd e (ne i (by omega))
      · rw [eD i (by omega), eD j (by omega)] at e
        exact W.DD i j (by omega) (by omega) e
/-- the next table comes into the list -/
theorem Pic.app (W : Pic O a nl nd m none) (hl : nl < nd) : Pic (upd O a.L (.lst (((List.range nl).map fun i => .ref (a.D i)) ++ [.ref (a.D nl)]))) a (nl + 1) nd m none := by
  obtain ⟨y, z, hp, r⟩ := W.bag
  refine ⟨⟨y, z, (upd_ne W.pL).trans hp, r⟩, ?_, fun i hi => (upd_ne (W.DL hi)).trans (W.dict i hi), (fun R rs e => by cases e), W.pL, W.DD⟩
  rw [upd_same, List.range_succ, List.map_append]
  rfl
end
/-- the heap at the law's work -/
inductive Mid (C : Cs) (T : List (Addr × Str)) (Hb : Hp) (a : Pl) (nl nd : Nat) (H : Hp) (S : Sys) (ad dx : Cell → Addr) (m : Tbs) (ro : Option (Addr × List Rg)) : Prop
  | mk {O : Hp} : LW C T Hb a.x H S ad dx O → Pic O a nl nd m ro → Mid C T Hb a nl nd H S ad dx m ro
section
variable {C : Cs} {T : List (Addr × Str)} {Hb H H1 H' : Hp} {a : Pl} {nl nd : Nat} {S S' : Sys} {ad ad' dx dx' : Cell → Addr} {m : Tbs} {ro : Option (Addr × List Rg)} {R : Addr} {rs rs' : List Rg}
theorem Mid.same (W : Mid C T Hb a nl nd H S ad dx m ro) (s : Same H H') : Mid C T Hb a nl nd H' S ad dx m ro := by
  cases W with
  | mk W P => exact .mk (W.same s) P
theorem Mid.draw (W : Mid C T Hb a nl nd H S ad dx m ro) (e : ∀ b, b ≠ a.p → H' b = H b) (bg : BagAt H' a.p) : Mid C T Hb a nl nd H' S ad dx m ro := by
  cases W with
  | mk W P =>
    obtain ⟨xs, b, W1⟩ := W.draw P.bag e bg
    exact .mk W1 (P.draw b)
theorem Mid.step (W : Mid C T Hb a nl nd H S ad dx m ro) (A : At C H' S' ad' dx') (st : Step H S ad H' S' ad') : Mid C T Hb a nl nd H' S' ad' dx' m ro := by
  cases W with
  | mk W P => exact .mk (W.step A st) P
theorem Mid.at_ (W : Mid C T Hb a nl nd H S ad dx m ro) : At C H S ad dx := by
  cases W with
  | mk W P => exact W.at_
theorem Mid.box (W : Mid C T Hb a nl nd H S ad dx m ro) : ad .box = a.x := by
  cases W with
  | mk W P => exact W.box
theorem Mid.hb (W : Mid C T Hb a nl nd H S ad dx m ro) : H a.x = some (sysO C.S (dx .box) S (ad .tabD) (ad .srcD) (ad .setD)) := by
  cases W with
  | mk W P => exact W.hb
theorem Mid.tab (W : Mid C T Hb a nl nd H S ad dx m ro) : Tabs T H := by
  cases W with
  | mk W P => exact W.tab
theorem Mid.sq {K : PySem.W.Frag} {b : Addr} {xs : List V} (W : Mid C T Hb a nl nd H S ad dx m ro) (h : SqL K Hb b xs) : SqL K H b xs := by
  cases W with
  | mk W P => exact W.sq h
theorem Mid.bag (W : Mid C T Hb a nl nd H S ad dx m ro) : BagAt H a.p := by
  cases W with
  | mk W P => exact W.bagH P.bag
theorem Mid.tl (W : Mid C T Hb a nl nd H S ad dx m ro) : H a.L = some (.lst ((List.range nl).map fun i => .ref (a.D i))) := by
  cases W with
  | mk W P => exact W.on _ _ P.tl
theorem Mid.dict (W : Mid C T Hb a nl nd H S ad dx m ro) {i : Nat} (hi : i < nd) : H (a.D i) = some (.dK (vKV (m.ks i) (iv (m.th i)))) := by
  cases W with
  | mk W P => exact W.on _ _ (P.dict i hi)
theorem Mid.regs (W : Mid C T Hb a nl nd H S ad dx m (some (R, rs))) : ∃ vs, H R = some (.lst vs) ∧ Paired (RgT H) vs rs := by
  cases W with
  | mk W P =>
    obtain ⟨⟨vs, h, p⟩, _⟩ := P.regs R rs rfl
    exact ⟨vs, W.on _ _ h, rgT_keep p fun b xs e => W.on _ _ e⟩
theorem Mid.putD (W : Mid C T Hb a nl nd H S ad dx m ro) {i : Nat} (hi : i < nd) {ks : List Int} {th : Int → Int} (h : H' (a.D i) = some (.dK (vKV ks (iv th)))) (k : ∀ q u, q ≠ a.D i → H q = some u → H' q = some u) : Mid C T Hb a nl nd H' S ad dx (m.put i ks th) ro := by
  cases W with
  | mk W P => exact .mk (W.put (P.dict i hi) (dK_tc (b := a.D i)).1 dK_tc.2 h k) (P.putD hi ks th)
theorem Mid.newD (W : Mid C T Hb a nl nd H S ad dx m ro) (hl : nl ≤ nd) {d : Addr} (hd : H d = none) {ks : List Int} {th : Int → Int} (h : H' d = some (.dK (vKV ks (iv th)))) (s : Same H H') : Mid C T Hb (a.put nd d) nl (nd + 1) H' S ad dx (m.put nd ks th) ro := by
  cases W with
  | mk W P => exact .mk (W.new hd (dK_tc (b := d)).1 dK_tc.2 h s) (P.newD hl (W.fresh hd) ks th)
theorem Mid.app (W : Mid C T Hb a nl nd H S ad dx m none) (hl : nl < nd) (h : H' a.L = some (.lst (((List.range nl).map fun i => .ref (a.D i)) ++ [.ref (a.D nl)]))) (k : ∀ q u, q ≠ a.L → H q = some u → H' q = some u) : Mid C T Hb a (nl + 1) nd H' S ad dx m none := by
  cases W with
  | mk W P => exact .mk (W.put P.tl (lst_tc (b := a.L)).1 lst_tc.2 h k) (P.app hl)
theorem Mid.newRs (W : Mid C T Hb a nl nd H S ad dx m none) (hd : H R = none) (h : H' R = some (.lst [])) (s : Same H H') : Mid C T Hb a nl nd H' S ad dx m (some (R, [])) := by
  have pR : a.p ≠ R := fun z => by
    obtain ⟨xs, e⟩ := W.bag.lst
    rw [z, hd] at e
    cases e
  have LR : a.L ≠ R := fun z => by
    have e := W.tl
    rw [z, hd] at e
    cases e
  cases W with
  | mk W P =>
    have N := P.new (o := .lst []) (W.fresh hd)
    exact .mk (W.new hd (lst_tc (b := R)).1 lst_tc.2 h s) ⟨N.bag, N.tl, N.dict, (fun R2 rs e => by cases e; exact ⟨⟨[], upd_same, .nil⟩, pR, LR⟩), N.pL, N.DD⟩
/-- the registrations are written; what stands in the list was there, or is a new tuple -/
theorem Mid.putR (W : Mid C T Hb a nl nd H S ad dx m (some (R, rs))) {g : List V → List V} (h : ∀ vs, H R = some (.lst vs) → H' R = some (.lst (g vs))) (k : ∀ q u, q ≠ R → H q = some u → H' q = some u) (p : ∀ (O : Hp) vs, Paired (RgT O) vs rs → Paired (RgT O) (g vs) rs') : Mid C T Hb a nl nd H' S ad dx m (some (R, rs')) := by
  cases W with
  | mk W P =>
    obtain ⟨⟨vs, h0, p0⟩, _⟩ := P.regs R rs rfl
    exact .mk (W.put h0 (lst_tc (b := R)).1 lst_tc.2 (h vs (W.on _ _ h0)) k) (P.putR (p _ vs p0))
theorem Mid.newR (W : Mid C T Hb a nl nd H S ad dx m (some (R, rs))) {g : List V → List V} {t : Addr} {r : Rg} (ht : H t = none) (h1 : H' t = some (.tup (rgT r))) (h : ∀ vs, H R = some (.lst vs) → H' R = some (.lst (g vs))) (k : ∀ q u, q ≠ R → H q = some u → H' q = some u) (p : ∀ (O : Hp) vs, RgT O (.ref t) r → Paired (RgT O) vs rs → Paired (RgT O) (g vs) rs') : Mid C T Hb a nl nd H' S ad dx m (some (R, rs')) := by
  cases W with
  | @mk O W P =>
    obtain ⟨⟨vs, h0, p0⟩, _⟩ := P.regs R rs rfl
    have hR := W.on _ _ h0
    have ntR : t ≠ R := fun z => by rw [z, hR] at ht; cases ht
    have Ht : O t = none := W.fresh ht
    have W1 : LW C T Hb a.x (upd H t (.tup (rgT r))) S ad dx (upd O t (.tup (rgT r))) := W.new ht (tup_tc (b := t)).1 tup_tc.2 upd_same (Same.new' ht)
    have P1 := P.new (o := .tup (rgT r)) Ht
    have h2 : upd O t (.tup (rgT r)) R = some (.lst vs) := (upd_ne (Ne.symm ntR)).trans h0
    refine .mk (W1.put h2 (lst_tc (b := R)).1 lst_tc.2 (h vs hR) fun q u n e => ?_) (P1.putR (p _ vs ⟨t, rfl, upd_same⟩ (rgT_keep p0 fun b xs e => (upd_ne (ne_of_none e Ht)).trans e)))
    by_cases z : q = t
    · subst z
      rw [upd_same] at e
      cases e
      exact h1
    · rw [upd_ne z] at e
      exact k q u n e
/-- a deed, handed to _law_outcome -/
theorem Mid.out {D1 D3 : Addr} {σ : L2.St} {t : XK → TE} {Q : VK} {sp : Sp} {vs : List V} (W : Mid C T Hb a nl nd H S ad dx m ro) (hb : ∀ (E : XK) (H1 : Hp) (k : VK), sp vs H1 k E → t E σ H1 k)
    (h : ∀ (H1 : Hp) (E : XK), Mid C T Hb a nl nd H1 S ad dx m ro → TellsAs D1 "number" "registered" E Q → TellsAs D3 "number" "not registered" E Q → sp vs H1 Q E) : tLam T (TOut D1 D3) t σ H Q := by
  cases W with
  | mk W P => exact out_any W hb fun H1 E W1 => h H1 E (.mk W1 P)
end

def addK (ks : List Int) (n : Int) : List Int := if n ∈ ks then ks else ks ++ [n]
theorem mem_addK {ks : List Int} {n j : Int} : j ∈ addK ks n ↔ j ∈ ks ∨ j = n := by
  unfold addK
  split
  · rename_i h
    exact ⟨.inl, fun z => z.elim id fun e => e ▸ h⟩
  · rw [List.mem_append, List.mem_singleton]
theorem range_sub : ∀ (N : Nat) (ks : List Int), ks.Nodup → (∀ n ∈ ks, 0 ≤ n ∧ n < (N : Int)) → ks.length ≤ N
  | 0, ks, _, h => by
    cases ks with
    | nil => exact Nat.le_refl _
    | cons a l => have := h a List.mem_cons_self; omega
  | N + 1, ks, nd, h => by
    have ih := range_sub N (without (N : Int) ks) (nd.filter _) fun n hn => by
      obtain ⟨h1, h2⟩ := mem_without.mp hn
      have := h n h1
      omega
    have e : ks.length ≤ (without (N : Int) ks).length + 1 := by
      clear ih h
      induction ks with
      | nil => exact Nat.zero_le _
      | cons a l ih =>
        obtain ⟨ha, nl⟩ := List.nodup_cons.mp nd
        unfold without at ih ⊢
        rw [List.filter_cons]
        by_cases z : a = (N : Int)
        · rw [if_neg (by simp [z])]
          have : List.filter (fun x => decide (x ≠ (N : Int))) l = l := List.filter_eq_self.mpr fun x hx => decide_eq_true fun y => ha (z ▸ y ▸ hx)
          rw [this]
          exact Nat.le_refl _
        · rw [if_pos (by simp [z])]
          have := ih nl
          simp only [List.length_cons]
          omega
    omega
/-- the system and the law's tables -/
structure Fit (np : Nat) (S : Sys) (m : Tbs) : Prop where
  np1 : 0 < np
  np5 : np ≤ 5
  P : S.P = 5
  procs : S.procs = (List.range np).map fun i : Nat => (i : Int)
  N : S.N = 8
  sets : S.sets = [0]
  srcs : S.srcs = [1, 2, 3, 4]
  len : ∀ i : Nat, i < np → (S.tab i).length = 8
  bd : ∀ (i : Nat) (n : Int), i < np → n ∈ m.ks i → 1 ≤ n ∧ n ≤ 7 ∧ 1 ≤ m.th i n ∧ m.th i n ≤ 4 ∧ (S.tab i)[n.toNat]? = some (some (m.th i n))
  off : ∀ (i j : Nat), i < np → 1 ≤ j → j < 8 → (j : Int) ∉ m.ks i → (S.tab i)[j]? = some none
  set : ∀ i : Nat, i < np → (S.tab i)[0]? = some (some 0)
  k0 : m.ks 0 = [1, 2, 3, 4]
  t0 : m.th 0 = fun j => j
  kl : ∀ i : Nat, i < np → (m.ks i).Nodup
structure RgF (S : Sys) (rs : List Rg) (turn : Nat) : Prop where
  ents : S.ents 0 = rs.map (·.lab)
  reg : ∀ r ∈ rs, S.reg 0 r.lab = ⟨r.n, r.src, r.word, true⟩
  nd : (rs.map (·.lab)).Nodup
  ok : ∀ r ∈ rs, 0 ≤ r.n ∧ r.n ≤ 7 ∧ 1 ≤ r.src ∧ r.src ≤ 4 ∧ 0 ≤ r.lab ∧ r.lab < (turn : Int) ∧ (r.word = "level" ∨ r.word = "edge")
/-- nothing is unread yet -/
structure Cold (S : Sys) : Prop where
  unit : ∀ t, S.unit t = (0, false)
  que : S.que 0 = []
section
variable {np : Nat} {S S' : Sys} {m : Tbs}
theorem Fit.mem (F : Fit np S m) {i : Nat} (hi : i < np) : (i : Int) ∈ S.procs := by
  rw [F.procs, List.mem_map]
  exact ⟨i, List.mem_range.mpr hi, rfl⟩
theorem Fit.pl (F : Fit np S m) : S.procs.length ≤ 6 := by
  have := F.np5
  rw [F.procs, List.length_map, List.length_range]
  omega
theorem Fit.means (F : Fit np S m) {i : Nat} {n : Int} (hi : i < np) (h : n ∈ m.ks i) : Means S i n (m.th i n) := by
  obtain ⟨a, b, _, _, e⟩ := F.bd i n hi h
  exact ⟨F.mem hi, by omega, by rw [F.N]; omega, e⟩
theorem Fit.meansSet (F : Fit np S m) {i : Nat} (hi : i < np) : Means S i 0 0 := ⟨F.mem hi, by decide, by rw [F.N]; decide, F.set i hi⟩
theorem Fit.src0 (F : Fit np S m) {t : Int} (t1 : 1 ≤ t) (t4 : t ≤ 4) : t ∈ m.ks 0 ∧ m.th 0 t = t := by
  rw [F.k0, F.t0]
  refine ⟨?_, rfl⟩
  simp only [List.mem_cons, List.not_mem_nil, or_false]
  omega
theorem Fit.srcAt (F : Fit np S m) {t : Int} (t1 : 1 ≤ t) (t4 : t ≤ 4) : (S.tab 0)[t.toNat]? = some (some t) := by
  obtain ⟨a, b⟩ := F.src0 t1 t4
  have e := (F.bd 0 t F.np1 a).2.2.2.2
  rw [b] at e
  exact e
theorem Fit.msrc (F : Fit np S m) {t : Int} (t1 : 1 ≤ t) (t4 : t ≤ 4) : t ∈ S.srcs := by
  rw [F.srcs]
  simp only [List.mem_cons, List.not_mem_nil, or_false]
  omega
/-- a change of the number n of the process i, not the first one -/
theorem Fit.re (F : Fit np S m) {i : Nat} {n : Int} (hi : i < np) (i1 : 1 ≤ i) (n1 : 1 ≤ n) (n7 : n ≤ 7) {ks : List Int} {th : Int → Int} {y : Option Int} (e0 : S'.P = S.P) (e1 : S'.procs = S.procs) (e2 : S'.N = S.N) (e3 : S'.sets = S.sets) (e4 : S'.srcs = S.srcs) (et : S'.tab = fun q => if q = (i : Int) then (S.tab i).set n.toNat y else S.tab q)
    (nd : ks.Nodup) (k1 : ∀ j, j ≠ n → (j ∈ ks ↔ j ∈ m.ks i)) (k2 : ∀ j, j ≠ n → th j = m.th i j) (k3 : n ∈ ks → 1 ≤ th n ∧ th n ≤ 4 ∧ y = some (th n)) (k4 : n ∉ ks → y = none) : Fit np S' (m.put i ks th) := by
  have ti : ∀ j : Nat, S'.tab (j : Int) = if j = i then (S.tab i).set n.toNat y else S.tab j := fun j => by
    rw [et]
    dsimp only
    by_cases z : j = i
    · rw [if_pos z, if_pos (by rw [z])]
    · rw [if_neg z, if_neg (fun h => z (by omega))]
  have li := F.len i hi
  have z0 : (0 : Nat) ≠ i := by omega
  refine ⟨F.np1, F.np5, e0.trans F.P, e1.trans F.procs, e2.trans F.N, e3.trans F.sets, e4.trans F.srcs, fun j hj => ?_, fun j k hj hk => ?_, fun j k hj k1' hk hn => ?_, fun j hj => ?_, ?_, ?_, fun j hj => ?_⟩
  · rw [ti j]
    split
    · rw [List.length_set]
      exact li
    · exact F.len j hj
  · rw [ti j]
    unfold Tbs.put at hk ⊢
    dsimp only at hk ⊢
    by_cases z : j = i
    · rw [if_pos z] at hk
      rw [if_pos z, if_pos z, set_at]
      by_cases e : k = n
      · rw [e] at hk ⊢
        obtain ⟨a, b, c⟩ := k3 hk
        rw [if_pos ⟨rfl, by omega⟩, c]
        exact ⟨n1, n7, a, b, rfl⟩
      · obtain ⟨a, b, c, d, f⟩ := F.bd i k hi ((k1 k e).mp hk)
        rw [if_neg (fun y => e (by omega)), k2 k e]
        exact ⟨a, b, c, d, f⟩
    · rw [if_neg z] at hk
      rw [if_neg z, if_neg z]
      exact F.bd j k hj hk
  · rw [ti j]
    unfold Tbs.put at hn
    dsimp only at hn
    by_cases z : j = i
    · rw [if_pos z] at hn
      rw [if_pos z, set_at]
      by_cases e : (k : Int) = n
      · rw [e] at hn
        rw [if_pos ⟨by omega, by omega⟩, k4 hn]
      · rw [if_neg (fun y => e (by omega))]
        exact F.off i k hi k1' hk fun y => hn ((k1 _ e).mpr y)
    · rw [if_neg z] at hn
      rw [if_neg z]
      exact F.off j k hj k1' hk hn
  · rw [ti j]
    split
    · rw [set_at, if_neg (fun y => by omega)]
      exact F.set i hi
    · exact F.set j hj
  · show (if (0 : Nat) = i then ks else m.ks 0) = _
    rw [if_neg z0]
    exact F.k0
  · show (if (0 : Nat) = i then th else m.th 0) = _
    rw [if_neg z0]
    exact F.t0
  · unfold Tbs.put
    dsimp only
    split
    · exact nd
    · exact F.kl j hj
theorem Fit.keeps (F : Fit np S m) {i : Nat} {n u : Int} (i1 : 1 ≤ i) (u1 : 1 ≤ u) (u4 : u ≤ 4) : ∃ q ∈ S.procs, some u ∈ (cleared S i n).tab q := by
  refine ⟨0, F.mem (i := 0) F.np1, List.mem_of_getElem? (i := u.toNat) ?_⟩
  show (if (0 : Int) = (i : Int) then (S.tab i).set n.toNat none else S.tab 0)[u.toNat]? = _
  rw [if_neg (by omega)]
  exact F.srcAt u1 u4
theorem Fit.close (F : Fit np S m) {i : Nat} {n : Int} (hi : i < np) (i1 : 1 ≤ i) (n1 : 1 ≤ n) (n7 : n ≤ 7) : Fit np (cleared S i n) (m.put i (without n (m.ks i)) (m.th i)) :=
  F.re hi i1 n1 n7 rfl rfl rfl rfl rfl rfl ((F.kl i hi).filter _) (fun j nj => by rw [mem_without]; exact ⟨fun z => z.1, fun z => ⟨z, nj⟩⟩) (fun _ _ => rfl) (fun z => absurd rfl (mem_without.mp z).2) fun _ => rfl
theorem Fit.copy (F : Fit np S m) {i : Nat} {n t : Int} (hi : i < np) (i1 : 1 ≤ i) (n1 : 1 ≤ n) (n7 : n ≤ 7) (t1 : 1 ≤ t) (t4 : t ≤ 4) : Fit np (copied S i n.toNat t) (m.put i (addK (m.ks i) n) (upF (m.th i) n t)) := by
  refine F.re hi i1 n1 n7 (y := some t) rfl rfl rfl rfl rfl rfl ?_ (fun j nj => ?_) (fun j nj => upF_ne nj) (fun _ => ?_) fun z => absurd (mem_addK.mpr (.inr rfl)) z
  · unfold addK
    split
    · exact F.kl i hi
    · rename_i h
      exact nodup_snoc (F.kl i hi) h
  · rw [mem_addK]
    exact ⟨fun z => z.resolve_right nj, .inl⟩
  · rw [upF_at]
    exact ⟨t1, t4, rfl⟩
theorem Fit.fork (F : Fit np S m) (h : np < 5) : Fit (np + 1) (forked S 0 np) (m.put np [1, 2, 3, 4] fun j => j) := by
  have ti : ∀ j : Nat, (forked S 0 np).tab (j : Int) = if j = np then S.tab 0 else S.tab j := fun j => by
    show (if (j : Int) = (np : Int) then S.tab 0 else S.tab j) = _
    by_cases z : j = np
    · rw [if_pos z, if_pos (by rw [z])]
    · rw [if_neg z, if_neg (fun h => z (by omega))]
  have p := F.np1
  have z0 : (0 : Nat) ≠ np := by omega
  refine ⟨by omega, by omega, F.P, ?_, F.N, F.sets, F.srcs, fun j hj => ?_, fun j k hj hk => ?_, fun j k hj k1 hk hn => ?_, fun j hj => ?_, ?_, ?_, fun j hj => ?_⟩
  · show S.procs ++ [(np : Int)] = _
    rw [F.procs, List.range_succ, List.map_append]
    rfl
  · rw [ti j]
    split
    · exact F.len 0 p
    · exact F.len j (by omega)
  · rw [ti j]
    unfold Tbs.put at hk ⊢
    dsimp only at hk ⊢
    by_cases z : j = np
    · rw [if_pos z] at hk
      rw [if_pos z, if_pos z]
      have b := F.bd 0 k p (by rw [F.k0]; exact hk)
      rw [F.t0] at b
      exact b
    · rw [if_neg z] at hk
      rw [if_neg z, if_neg z]
      exact F.bd j k (by omega) hk
  · rw [ti j]
    unfold Tbs.put at hn
    dsimp only at hn
    by_cases z : j = np
    · rw [if_pos z] at hn
      rw [if_pos z]
      exact F.off 0 k p k1 hk (by rw [F.k0]; exact hn)
    · rw [if_neg z] at hn
      rw [if_neg z]
      exact F.off j k (by omega) k1 hk hn
  · rw [ti j]
    split
    · exact F.set 0 p
    · exact F.set j (by omega)
  · show (if (0 : Nat) = np then _ else m.ks 0) = _
    rw [if_neg z0]
    exact F.k0
  · show (if (0 : Nat) = np then _ else m.th 0) = _
    rw [if_neg z0]
    exact F.t0
  · unfold Tbs.put
    dsimp only
    split
    · decide
    · exact F.kl j (by omega)
theorem Fit.of (F : Fit np S m) (e0 : S'.P = S.P) (e1 : S'.procs = S.procs) (e2 : S'.N = S.N) (e3 : S'.sets = S.sets) (e4 : S'.srcs = S.srcs) (e6 : S'.tab = S.tab) : Fit np S' m :=
  ⟨F.np1, F.np5, e0.trans F.P, e1.trans F.procs, e2.trans F.N, e3.trans F.sets, e4.trans F.srcs, fun i h => by rw [e6]; exact F.len i h, fun i n h h2 => by rw [e6]; exact F.bd i n h h2, fun i j h h2 h3 h4 => by rw [e6]; exact F.off i j h h2 h3 h4, fun i h => by rw [e6]; exact F.set i h, F.k0, F.t0, F.kl⟩
theorem Cold.rdy (h : Cold S) (t : Int) : ready S t = false := by
  unfold ready
  rw [h.unit t]
  rfl
theorem Fit.small (F : Fit np S m) {rs : List Rg} {turn : Nat} (R : RgF S rs turn) (h : rs.length ≤ 900) (hq : (S.que 0).length ≤ 900) : Small S := by
  refine ⟨fun s hs => ?_, fun s hs => ?_, by rw [F.srcs]; decide, by rw [F.sets]; decide, by rw [F.sets]; decide⟩
  · rw [F.sets, List.mem_singleton] at hs
    rw [hs]
    exact hq
  · rw [F.sets, List.mem_singleton] at hs
    rw [hs, R.ents, List.length_map]
    exact h
end
theorem tl_at {np i : Nat} {f : Nat → V} (hi : i < np) : atI ((List.range np).map f) (i : Int) = some (f i) := atI_nat (by rw [List.getElem?_map, List.getElem?_range hi]; rfl)
theorem m_get {H : Hp} {D : Addr} {ks : List Int} {f : Int → Int} (h : H D = some (.dK (vKV ks (iv f)))) (n : Int) : DGet H D (.int n) (if n ∈ ks then some (.int (f n)) else none) := by
  have hv := v_val ks (iv f) n
  exact hv ▸ DGet.k (k := Sum.inl n) h
theorem lev_word {wd : Str} (h : wd = "level" ∨ wd = "edge") : wd ∈ wordsL := by
  rcases h with z | z <;> rw [z] <;> decide
section
variable {np : Nat} {S S' : Sys} {m : Tbs} {rs : List Rg} {n t l : Int} {turn : Nat}
theorem RgF.find (R : RgF S rs turn) : (S.ents 0).find? (keyOf (S.reg 0) n t) = (rs.find? (keyR n t)).map (·.lab) := by
  rw [R.ents]
  have go : ∀ l : List Rg, (∀ r ∈ l, r ∈ rs) → (l.map (·.lab)).find? (keyOf (S.reg 0) n t) = (l.find? (keyR n t)).map (·.lab) := fun l => by
    induction l with
    | nil => exact fun _ => rfl
    | cons r l ih =>
      intro h
      have e : keyOf (S.reg 0) n t r.lab = keyR n t r := by
        unfold keyOf keyR
        rw [R.reg r (h r List.mem_cons_self)]
      rw [List.map_cons]
      cases hk : keyR n t r with
      | true => rw [List.find?_cons_of_pos hk, List.find?_cons_of_pos (e.trans hk)]; rfl
      | false => rw [List.find?_cons_of_neg (by rw [e, hk]; intro z; cases z), List.find?_cons_of_neg (by rw [hk]; intro z; cases z)]; exact ih fun x hx => h x (List.mem_cons_of_mem _ hx)
  exact go rs fun _ h => h
theorem RgF.fresh (R : RgF S rs turn) : (turn : Int) ∉ rs.map (·.lab) := fun h => by
  obtain ⟨r, hr, e⟩ := List.mem_map.mp h
  have := R.ok r hr
  omega
theorem RgF.next (R : RgF S rs turn) : RgF S rs (turn + 1) := ⟨R.ents, R.reg, R.nd, fun r h => by
  have := R.ok r h
  exact ⟨this.1, this.2.1, this.2.2.1, this.2.2.2.1, this.2.2.2.2.1, by omega, this.2.2.2.2.2.2⟩⟩
theorem RgF.add (R : RgF S rs turn) (h : 0 ≤ n ∧ n ≤ 7 ∧ 1 ≤ t ∧ t ≤ 4) : RgF (added S 0 (turn : Int) ⟨n, t, "level", true⟩) (rs ++ [⟨n, t, (turn : Int), "level"⟩]) (turn + 1) := by
  refine ⟨?_, fun r hm => ?_, ?_, fun r hm => ?_⟩
  · show (if (0 : Int) = 0 then S.ents 0 ++ [(turn : Int)] else S.ents 0) = _
    rw [if_pos rfl, R.ents, List.map_append]
    rfl
  · show (if (0 : Int) = 0 ∧ r.lab = (turn : Int) then (⟨n, t, "level", true⟩ : Reg) else S.reg 0 r.lab) = _
    rcases List.mem_append.mp hm with y | y
    · rw [if_neg (fun z => R.fresh (List.mem_map.mpr ⟨r, y, z.2⟩))]
      exact R.reg r y
    · rw [List.mem_singleton.mp y, if_pos ⟨rfl, rfl⟩]
  · rw [List.map_append]
    exact nodup_snoc R.nd R.fresh
  · rcases List.mem_append.mp hm with y | y
    · exact R.next.ok r y
    · rw [List.mem_singleton.mp y]
      exact ⟨h.1, h.2.1, h.2.2.1, h.2.2.2, by show (0 : Int) ≤ (turn : Int); omega, by show (turn : Int) < ((turn + 1 : Nat) : Int); omega, .inl rfl⟩
theorem Cold.add {r : Reg} (h : Cold S) : Cold (added S 0 l r) := ⟨h.unit, by
  show (if (0 : Int) = 0 then (if ready S r.src = true then _ else S.que 0) else S.que 0) = _
  rw [if_pos rfl, h.rdy]
  exact h.que⟩
theorem Cold.change {r : Reg} (h : Cold S) : Cold (changed S 0 l r) := ⟨h.unit, by
  show (if (0 : Int) = 0 then (if ready S r.src = true then _ else S.que 0) else S.que 0) = _
  rw [if_pos rfl, h.rdy]
  exact h.que⟩
theorem Cold.drop (h : Cold S) : Cold (dropped S 0 l) := ⟨h.unit, by
  show (if (0 : Int) = 0 then without l (S.que 0) else S.que 0) = _
  rw [if_pos rfl, h.que]
  rfl⟩
theorem nodup_lab {r : Rg} {i : Nat} (nd : (rs.map (·.lab)).Nodup) (hi : rs[i]? = some r) {j : Nat} {q : Rg} (hj : rs[j]? = some q) (e : q.lab = r.lab) : j = i := by
  have a : (rs.map (·.lab))[j]? = some r.lab := by rw [List.getElem?_map, hj, ← e]; rfl
  have b : (rs.map (·.lab))[i]? = some r.lab := by rw [List.getElem?_map, hi]; rfl
  exact nodup_idx nd a b
theorem RgF.drop {r : Rg} {i : Nat} (R : RgF S rs turn) (hi : rs[i]? = some r) : RgF (dropped S 0 r.lab) (rs.eraseIdx i) turn := by
  have go : ∀ (l : List Rg) (i : Nat), (l.map (·.lab)).Nodup → l[i]? = some r → without r.lab (l.map (·.lab)) = (l.eraseIdx i).map (·.lab) := fun l => by
    induction l with
    | nil => exact fun i _ h => by cases i <;> cases h
    | cons x l ih =>
      intro i nd h
      obtain ⟨nx, nd2⟩ := List.nodup_cons.mp nd
      cases i with
      | zero =>
        cases h
        show List.filter _ (r.lab :: l.map (·.lab)) = l.map (·.lab)
        rw [List.filter_cons, if_neg (by simp)]
        exact List.filter_eq_self.mpr fun y hy => decide_eq_true fun z => nx (by rw [z] at hy; exact hy)
      | succ i =>
        have hm : r.lab ∈ l.map (·.lab) := List.mem_map.mpr ⟨r, List.mem_of_getElem? h, rfl⟩
        have ne : x.lab ≠ r.lab := fun z => nx (by rw [← z] at hm; exact hm)
        show List.filter _ (x.lab :: l.map (·.lab)) = x.lab :: (l.eraseIdx i).map (·.lab)
        rw [List.filter_cons, if_pos (decide_eq_true ne)]
        exact congrArg _ (ih i nd2 h)
  have sub : ∀ q ∈ rs.eraseIdx i, q ∈ rs := fun q h => (List.eraseIdx_sublist rs i).subset h
  refine ⟨?_, fun q hq => R.reg q (sub q hq), R.nd.sublist ((List.eraseIdx_sublist rs i).map _), fun q hq => R.ok q (sub q hq)⟩
  show (if (0 : Int) = 0 then without r.lab (S.ents 0) else S.ents 0) = _
  rw [if_pos rfl, R.ents]
  exact go rs i R.nd hi
theorem RgF.change {r : Rg} {i : Nat} (R : RgF S rs turn) (hi : rs[i]? = some r) : RgF (changed S 0 r.lab ⟨r.n, r.src, "edge", true⟩) (rs.set i ⟨r.n, r.src, r.lab, "edge"⟩) turn := by
  have il := (List.getElem?_eq_some_iff.mp hi).1
  have em : (rs.set i ⟨r.n, r.src, r.lab, "edge"⟩).map (·.lab) = rs.map (·.lab) := by
    refine List.ext_getElem? fun j => ?_
    rw [List.getElem?_map, List.getElem?_map, List.getElem?_set]
    by_cases e : i = j
    · rw [if_pos e, if_pos il, ← e, hi]
      rfl
    · rw [if_neg e]
  have at_ : ∀ q, q ∈ rs.set i ⟨r.n, r.src, r.lab, "edge"⟩ → q = ⟨r.n, r.src, r.lab, "edge"⟩ ∨ (q ∈ rs ∧ q.lab ≠ r.lab) := fun q hq => by
    obtain ⟨j, hj⟩ := List.getElem?_of_mem hq
    rw [List.getElem?_set] at hj
    by_cases e : i = j
    · rw [if_pos e, if_pos il] at hj
      exact .inl (Option.some.inj hj).symm
    · rw [if_neg e] at hj
      exact .inr ⟨List.mem_of_getElem? hj, fun z => e (nodup_lab R.nd hi hj z).symm⟩
  refine ⟨R.ents.trans em.symm, fun q hq => ?_, by rw [em]; exact R.nd, fun q hq => ?_⟩
  · show (if (0 : Int) = 0 ∧ q.lab = r.lab then (⟨r.n, r.src, "edge", true⟩ : Reg) else S.reg 0 q.lab) = _
    rcases at_ q hq with e | ⟨h1, h2⟩
    · rw [e, if_pos ⟨rfl, rfl⟩]
    · rw [if_neg (fun z => h2 z.2)]
      exact R.reg q h1
  · rcases at_ q hq with e | ⟨h1, h2⟩
    · have := R.ok r (List.mem_of_getElem? hi)
      rw [e]
      exact ⟨this.1, this.2.1, this.2.2.1, this.2.2.2.1, this.2.2.2.2.1, this.2.2.2.2.2.1, .inr rfl⟩
    · exact R.ok q h1
end

/-! the system while it is made -/
def mkS : Nat → Sys
  | 0 => newSet (newSys 5 8) 0 0
  | k + 1 => newSource (mkS k) 0 (k + 1)
theorem mk_set : (0 : Int) ∈ (newSys 5 8).procs ∧ firstFree ((newSys 5 8).tab 0) 0 ∧ ((newSys 5 8).tab 0).length ≤ 1000 ∧ (newSys 5 8).sets.length ≤ 1000 ∧ (newSys 5 8).next ∉ (newSys 5 8).sets :=
  ⟨by decide, ⟨rfl, fun i hi => absurd hi (Nat.not_lt_zero _)⟩, by decide, by decide, by decide⟩
theorem mk_tab : (mkS 0).tab 0 = [some 0, none, none, none, none, none, none, none] ∧ (mkS 1).tab 0 = [some 0, some 1, none, none, none, none, none, none] ∧ (mkS 2).tab 0 = [some 0, some 1, some 2, none, none, none, none, none] ∧ (mkS 3).tab 0 = [some 0, some 1, some 2, some 3, none, none, none, none] ∧ (mkS 4).tab 0 = [some 0, some 1, some 2, some 3, some 4, none, none, none] := ⟨rfl, rfl, rfl, rfl, rfl⟩
theorem lt_cases {P : Nat → Prop} {n : Nat} (h0 : P 0) (h1 : P 1) (h2 : P 2) (h3 : P 3) (hn : n < 4) : P n := by
  match n, hn with
  | 0, _ => exact h0
  | 1, _ => exact h1
  | 2, _ => exact h2
  | 3, _ => exact h3
theorem mk_src (k : Nat) (hk : k < 4) : (0 : Int) ∈ (mkS k).procs ∧ firstFree ((mkS k).tab 0) (k + 1) ∧ ((mkS k).tab 0).length ≤ 1000 ∧ (mkS k).srcs.length ≤ 1000 ∧ (mkS k).next ∉ (mkS k).srcs := by
  have ff : ∀ (l : List (Option Int)) (n : Nat), l[n]? = some none → ((l.take n).all fun x => x.isSome) = true → firstFree l n := fun l n h1 h2 => ⟨h1, fun i hi => by
    have hl := (List.getElem?_eq_some_iff.mp h1).1
    have e : l[i]? = some (l[i]'(by omega)) := List.getElem?_eq_getElem _
    have h3 := List.all_eq_true.mp h2 (l[i]'(by omega)) (List.mem_take_iff_getElem.mpr ⟨i, by omega, rfl⟩)
    obtain ⟨x, hx⟩ := Option.isSome_iff_exists.mp h3
    exact ⟨x, by rw [e, hx]⟩⟩
  refine lt_cases (P := fun k => (0 : Int) ∈ (mkS k).procs ∧ firstFree ((mkS k).tab 0) (k + 1) ∧ ((mkS k).tab 0).length ≤ 1000 ∧ (mkS k).srcs.length ≤ 1000 ∧ (mkS k).next ∉ (mkS k).srcs) ?_ ?_ ?_ ?_ hk <;> exact ⟨by decide, ff _ _ rfl (by decide), by decide, by decide, by decide⟩
def m0 : Tbs := ⟨fun _ => [1, 2, 3, 4], fun _ j => j⟩
theorem Fit.start : Fit 1 (mkS 4) m0 := by
  have t0 : (mkS 4).tab ((0 : Nat) : Int) = [some 0, some 1, some 2, some 3, some 4, none, none, none] := rfl
  have z : ∀ i : Nat, i < 1 → (mkS 4).tab (i : Int) = [some 0, some 1, some 2, some 3, some 4, none, none, none] := fun i hi => by
    obtain rfl : i = 0 := by omega
    exact t0
  refine ⟨by decide, by decide, rfl, rfl, rfl, rfl, rfl, fun i hi => by rw [z i hi]; rfl, fun i n hi hn => ?_, fun i j hi j1 hj hn => ?_, fun i hi => by rw [z i hi]; rfl, rfl, rfl, fun i hi => by show ([1, 2, 3, 4] : List Int).Nodup; decide⟩
  · rw [z i hi]
    have hn : n ∈ ([1, 2, 3, 4] : List Int) := hn
    simp only [List.mem_cons, List.not_mem_nil, or_false] at hn
    rcases hn with rfl | rfl | rfl | rfl <;> exact ⟨by decide, by decide, (by unfold m0; dsimp only; decide), (by unfold m0; dsimp only; decide), rfl⟩
  · rw [z i hi]
    have nn : (j : Int) ∉ ([1, 2, 3, 4] : List Int) := hn
    simp only [List.mem_cons, List.not_mem_nil, or_false, not_or] at nn
    rcases (show j = 5 ∨ j = 6 ∨ j = 7 by omega) with rfl | rfl | rfl <;> rfl
theorem RgF.start : RgF (mkS 4) [] 0 := ⟨rfl, fun r h => absurd h List.not_mem_nil, List.nodup_nil, fun r h => absurd h List.not_mem_nil⟩
theorem Cold.start : Cold (mkS 4) := by
  refine ⟨fun t => ?_, rfl⟩
  show (if t = 4 then _ else if t = 3 then _ else if t = 2 then _ else if t = 1 then _ else _ : Int × Bool) = _
  repeat (split; · rfl)
  rfl
theorem Cold.of {S S' : Sys} (h : Cold S) (e1 : S'.unit = S.unit) (e2 : S'.que = S.que) : Cold S' := ⟨fun t => by rw [e1]; exact h.unit t, by rw [e2]; exact h.que⟩
theorem RgF.of {S S' : Sys} {rs : List Rg} {turn : Nat} (R : RgF S rs turn) (e1 : S'.ents = S.ents) (e2 : S'.reg = S.reg) : RgF S' rs turn := ⟨by rw [e1]; exact R.ents, fun r h => by rw [e2]; exact R.reg r h, R.nd, R.ok⟩
theorem Fit.freeP {np : Nat} {S : Sys} {m : Tbs} (F : Fit np S m) (h : np < 5) : FreeP S np := by
  refine ⟨fun z => ?_, fun i hi => F.mem hi, by rw [F.P]; omega, by rw [F.P]; decide⟩
  rw [F.procs, List.mem_map] at z
  obtain ⟨i, hi, e⟩ := z
  have := List.mem_range.mp hi
  omega
/-- the law's tables are being made: np processes, nl of their tables in the list -/
inductive Making (C : Cs) (T : List (Addr × Str)) (Hb : Hp) (p x L d : Addr) (nl np : Nat) : Hp → Prop
  | mk {H : Hp} {a : Pl} {S : Sys} {ad dx : Cell → Addr} {m : Tbs} : a.p = p → a.x = x → a.L = L → (nl < np → a.D nl = d) → Mid C T Hb a nl np H S ad dx m none → Fit np S m → Cold S → RgF S [] 0 → Making C T Hb p x L d nl np H
section
variable {P : Program} {w : World} {K : PySem.W.Frag} {mg : Str → Option Value} {base : Heap} {C : Cs}
def spHome (C : Cs) (T : List (Addr × Str)) : Sp := fun vs H Q _ => ∃ (p : Addr) (Hb : Hp), vs = [.ref p] ∧ Hb p = none ∧ Same Hb H ∧ BagAt H p ∧ Tabs T Hb ∧
  ∀ H' r x L d np, H' r = some (.tup [.ref x, .ref L]) → 1 ≤ np → np ≤ 5 → Making C T Hb p x L d np np H' → Q (.ref r) H'
abbrev nHome : List Str := ["_law_bag_here", "_law_box", "_law_tables", "_law_source", "_law_p", "_law_here", "_law_n", "_law_way"]
theorem scHome : FnScope nHome ["_law_bag_here"] (defScope sHome) := ⟨rfl, rfl, rfl, by decide +kernel, rfl, by decide +kernel, by decide +kernel⟩
theorem okHome {T0 : List (Addr × Str)} {f fT fI fNs fNe fC fL fF : Addr} {fd fdT fdI fdNs fdNe fdC fdL fdF : FuncData} {g : List Value → List Value → List Value} (F : Fun K "_law_home" "_law_home" sHome f fd) (X : LawTx mg) (T : ClsF K C.S sysF)
    (GT : DO P w K mg base 1 "_law_take" ["_law_bag_here", "_law_many"] spTake fT fdT)
    (gS : mg "System" = some (.ref C.S)) (MS : Mk K C.S fI) (GI : FnOk P w K mg base CX0 3 fI fdI ["self", "processes", "numbers"] (spSysInit C)) (kI : KBn K fdI ["self", "processes", "numbers"] 1 ["processes", "numbers"] g (fun vs zs => vs ++ zs))
    (GNs : MO P w K mg base 6 C.S "new_source" ["self", "process"] (spNewSource C) fNs fdNs) (GNe : MO P w K mg base 6 C.S "new_set" ["self", "process"] (spNewSet C) fNe fdNe)
    (GC : MO P w K mg base 5 C.S "copy" ["self", "process", "number", "to"] (spCopy C) fC fdC) (GL : MO P w K mg base 5 C.S "close" ["self", "process", "number"] (spClose C) fL fdL) (GF : MO P w K mg base 4 C.S "fork" ["self", "process"] (spFork C) fF fdF) :
    FnOk P w K mg base CX0 7 f fd ["_law_bag_here"] (spHome C T0) := by
  refine F.ok scHome (fun vs H Q E h => ?_) (fun cdv A outer s H vs Q E hr h => ?_)
  · obtain ⟨_, _, rfl, _⟩ := h
    rfl
  · obtain ⟨p, Hb, rfl, n0, s2, b2, tbb, k⟩ := h
    have hu := hu_of hr
    have r1 : Room 1 _ := hr.mono (by decide)
    have r4 : Room 4 _ := hr.mono (by decide)
    have r5 : Room 5 _ := hr.mono (by decide)
    refine ⟨_, pss_cut (ps_par (i := 1) (j := 2) (by rfl) scHome.nd rfl rfl (by decide) rfl rfl (pa_cons (pe_makeK0 (ks := ["processes", "numbers"]) MS GI r4 (by rfl) gS kI pass0 (pk_cons pe_int (pk_cons pe_int pk_nil))) (pa_cons (pe_lst (pa_cons (pe_disp (pps_cons pe_int pe_int (pps_cons pe_int pe_int (pps_cons pe_int pe_int (pps_cons pe_int pe_int pps_nil)))) (by rfl) (by rfl) (fun z => by cases z) (by decide)) pa_nil)) pa_nil)) (by rfl))
      (pss_cut (ps_expr (pe_meth (pv 1) T.cl GNe.m GNe.g hr GNe.b .nil pass0 (pa_cons pe_int pa_nil)))
      (pss_cut (ps_for PassesOwn.never rfl (pi_range1 (by rfl) X.range (pa_cons pe_int pa_nil)) (pg_name (i := 3) scHome.nd rfl (Or.inl rfl))
        (pss_one (ps_expr (pe_meth (pv 1) T.cl GNs.m GNs.g hr GNs.b .nil pass0 (pa_cons pe_int pa_nil)))))
      (pss_cut (ps_for PassesOwn.never rfl (pi_range2 (by rfl) X.range (pa_cons pe_int (pa_cons (pe_op op_add pe_int (pe_call GT.g r1 (by rfl) GT.m GT.k GT.b .nil pass0 (pa_cons (pv 0) (pa_cons pe_int pa_nil)))) pa_nil))) (pg_name (i := 4) scHome.nd rfl (Or.inl rfl))
        (pss_cut (ps_expr (pe_meth (pv 1) T.cl GF.m GF.g r4 GF.b .nil pass0 (pa_cons pe_int pa_nil)))
        (pss_cut (ps_set (i := 5) scHome.nd rfl (Or.inl rfl) (pe_disp (pps_cons pe_int pe_int (pps_cons pe_int pe_int (pps_cons pe_int pe_int (pps_cons pe_int pe_int pps_nil)))) (by rfl) (by rfl) (fun z => by cases z) (by decide)))
        (pss_cut (ps_for PassesOwn.never rfl (pi_range2 (by rfl) X.range (pa_cons pe_int (pa_cons pe_int pa_nil))) (pg_name (i := 6) scHome.nd rfl (Or.inl rfl))
          (pss_cut (ps_par (i := 7) (j := 3) (by rfl) scHome.nd rfl rfl (by decide) rfl rfl (pa_cons (pe_call GT.g r1 (by rfl) GT.m GT.k GT.b .nil pass0 (pa_cons (pv 0) (pa_cons pe_int pa_nil))) (pa_cons (pe_op op_add pe_int (pe_call GT.g r1 (by rfl) GT.m GT.k GT.b .nil pass0 (pa_cons (pv 0) (pa_cons pe_int pa_nil)))) pa_nil)) (by rfl))
          (pss_cut (ps_if (PW.pt (pw_and (pt_cmpR op_eq (pv 7) pe_int (nomark _)) (pw_and1 (pt_cmp (pc_din hu (pv 6) (pv 5)) rfl))))
            (pss_cons (ps_expr (pe_meth (pv 1) T.cl GL.m GL.g r5 GL.b .nil pass0 (pa_cons (pv 4) (pa_cons (pv 6) pa_nil)))) (pss_one (ps_expr (pe_dpop1 (pv 5) (pv 6) ⟨rfl, rfl, rfl, rfl⟩)))) pss_nil)
          (pss_one (ps_if (PW.pt (pw_and (pt_cmpR op_eq (pv 7) pe_int (nomark _)) (pw_and1 (pt_cmp (pc_din hu (pv 3) (pv 5)) rfl))))
            (pss_cons (ps_expr (pe_meth (pv 1) T.cl GC.m GC.g r5 GC.b .nil pass0 (pa_cons (pv 4) (pa_cons (pv 3) (pa_cons (pv 6) pa_nil)))))
              (pss_one (ps_dput hu (pv 5) (pv 6) (pe_dget hu (pv 5) (pv 3) (fun _ _ => rfl)) rfl))) pss_nil)))))
        (pss_one (ps_expr (pe_bm PySem.F.plainAttrs_list PySem.F.slot_list_append PySem.F.type_list_append mt_append (pv 2) (pa_cons (pv 5) pa_nil))))))))
      (pss_one (ps_ret (pe_tup (pa_cons (pv 1) (pa_cons (pv 2) pa_nil)))))))), ?_⟩
    have D4 : ∀ {j : Nat}, j < 4 → (mkS j).procs = [0] := fun {j} _ => by
      induction j with
      | zero => rfl
      | succ j ih => exact ih (by omega)
    refine ⟨fun σ' H' => ∃ (x L d : Addr) (a : Pl) (ad dx : Cell → Addr), a.p = p ∧ a.x = x ∧ a.L = L ∧ σ' = [some (.ref p), some (.ref x), some (.ref L), none, none, none, none, none] ∧ Mid C T0 Hb a 1 1 H' (newSys 5 8) ad dx m0 none, ?_, ?_⟩
    · show tPar 1 2 _ _ _ _
      refine ⟨rfl, rfl, fun x dx0 hx hd nd => ?_⟩
      refine ⟨x, dx0, 5, 8, rfl, upd_same, by decide, by decide, by decide, by decide, fun H3 ad dx hbx A3 k3 n3 => ⟨rfl, ?_⟩⟩
      have hx0 : hT Hb x = none := hT_none (Same.frees s2 hx)
      have sH2 : Same H H3 := fun b o e => k3 b o (ne_of_none e hx) (by rw [upd_ne (ne_of_none e hx), upd_ne (ne_of_none e hd)]; exact e)
      have old : ∀ q o, hT Hb q = some o → H3 q = some o := fun q o h => sH2 _ _ (s2 _ _ (hT_of h).1)
      obtain ⟨b1a, b1b, hp1, hpr⟩ := b2
      have fresh : ∀ b, own (newSys 5 8) ad b → hT Hb b = none ∧ H b = none := fun b hb => by
        rcases n3 b hb with z | z
        · rw [z]
          exact ⟨hx0, hx⟩
        · by_cases e : b = x
          · rw [e]
            exact ⟨hx0, hx⟩
          · rw [upd_ne e] at z
            by_cases e2 : b = dx0
            · rw [e2]
              exact ⟨hT_none (Same.frees s2 hd), hd⟩
            · rw [upd_ne e2] at z
              exact ⟨hT_none (Same.frees s2 z), z⟩
      have on1 : ∀ b o, upd (fun _ => none) p (HO.lst [.int b1a, .int b1b]) b = some o → b = p ∧ o = .lst [.int b1a, .int b1b] := fun b o e => by
        by_cases z : b = p
        · rw [z, upd_same] at e
          exact ⟨z, (Option.some.inj e).symm⟩
        · rw [upd_ne z] at e
          cases e
      have W3 : LW C T0 Hb x H3 (newSys 5 8) ad dx (upd (fun _ => none) p (.lst [.int b1a, .int b1b])) := by
        refine ⟨A3, hbx, tbb.ext fun b o h => sH2 _ _ (s2 b o h), fun b o e => ?_, fun b o e z => ?_, fun b o e => ?_, fun b o e => ?_, old, fun b hb => (fresh b hb).1⟩
        · obtain ⟨rfl, rfl⟩ := on1 b o e
          exact sH2 _ _ hp1
        · obtain ⟨rfl, rfl⟩ := on1 b o e
          rw [(fresh _ z).2] at hp1
          cases hp1
        · obtain ⟨rfl, rfl⟩ := on1 b o e
          exact hT_none n0
        · obtain ⟨rfl, rfl⟩ := on1 b o e
          exact lst_tc
      have hpO : upd (fun _ => none) p (HO.lst [.int b1a, .int b1b]) p = some (.lst [.int b1a, .int b1b]) := upd_same
      generalize upd (fun _ => none) p (HO.lst [.int b1a, .int b1b]) = O at W3 hpO
      walk_at "wn"
      intro D0 hD0
      refine ⟨upd_same, [(Sum.inl 1, .int 1), (Sum.inl 2, .int 2), (Sum.inl 3, .int 3), (Sum.inl 4, .int 4)], rfl, by decide, ?_⟩
      have s4 : Same H3 (upd (upd H3 D0 (.dK [])) D0 (.dK (vKV [1, 2, 3, 4] (iv fun j => j)))) := fun b o e => by rw [upd_ne (ne_of_none e hD0), upd_ne (ne_of_none e hD0)]; exact e
      have W4 := W3.new hD0 (dK_tc (b := D0)).1 dK_tc.2 (upd_same (a := D0)) s4
      have f0 := W3.fresh hD0
      show tNil _ (upd (upd H3 D0 (.dK [])) D0 (.dK (vKV [1, 2, 3, 4] (iv fun j => j)))) _
      generalize upd (upd H3 D0 (.dK [])) D0 (.dK (vKV [1, 2, 3, 4] (iv fun j => j))) = H4 at s4 W4 ⊢
      walk_at "wn"
      refine ⟨by show 1 ≤ sizeLine; decide, fun L hL => ?_⟩
      have W5 := W4.new hL (lst_tc (b := L)).1 lst_tc.2 (upd_same (a := L)) (Same.new' (o := .lst [.ref D0]) hL)
      have f1 := W4.fresh hL
      walk_at "wn"
      refine ⟨_, _, rfl, ?_⟩
      have n0L : D0 ≠ L := fun z => by rw [← z, upd_same] at f1; cases f1
      have npD : p ≠ D0 := fun z => by rw [← z, hpO] at f0; cases f0
      have npL : p ≠ L := fun z => by rw [← z, upd_ne npD, hpO] at f1; cases f1
      exact ⟨x, L, 0, ⟨p, x, L, fun _ => D0⟩, ad, dx, rfl, rfl, rfl, rfl, .mk W5 ⟨⟨b1a, b1b, (upd_ne npL).trans ((upd_ne npD).trans hpO), hpr⟩, upd_same, fun i hi => (upd_ne n0L).trans upd_same, (fun R rs e => by cases e), npL, fun i j hi hj _ => by omega⟩⟩
    rintro σ' H3 ⟨x, L, d, a, ad, dx, rfl, rfl, rfl, rfl, W3⟩
    refine ⟨fun σ' H' => ∃ ad dx, σ' = [some (.ref a.p), some (.ref a.x), some (.ref a.L), none, none, none, none, none] ∧ Mid C T0 Hb a 1 1 H' (mkS 0) ad dx m0 none, ?_, ?_⟩
    · obtain ⟨q1, q2, q3, q4, q5⟩ := mk_set
      walk_at "wn"
      refine ⟨_, rfl, a.x, dx .box, _, rfl, W3.hb, rfl, ?_⟩
      walk_at "wn"
      refine ⟨0, 0, newSys 5 8, ad, dx, by rw [W3.box]; rfl, W3.at_, q1, q2, q3, q4, q5, fun H4 ad4 dx4 A4 st4 => ?_⟩
      walk_at "wn"
      exact ⟨ad4, dx4, rfl, W3.step A4 st4⟩
    clear W3 ad dx
    rintro σ' H4 ⟨ad, dx, rfl, W4⟩
    refine ⟨fun σ' H' => ∃ u3 ad dx, σ' = [some (.ref a.p), some (.ref a.x), some (.ref a.L), u3, none, none, none, none] ∧ Mid C T0 Hb a 1 1 H' (mkS 4) ad dx m0 none, ?_, ?_⟩
    · walk_at "wn"
      show iRng1 _ _ _ _
      show tCons _ _ _ _ _
      walk_at "wn"
      refine ⟨4, rfl, by decide, by decide, ?_⟩
      refine for_range (lo := 0) (fun j σ' H' => ∃ u3 ad dx, σ' = [some (.ref a.p), some (.ref a.x), some (.ref a.L), u3, none, none, none, none] ∧ Mid C T0 Hb a 1 1 H' (mkS j) ad dx m0 none) ⟨_, _, _, rfl, W4⟩ ?_ (fun σ' H' h => h)
      clear W4 ad dx
      rintro j σ' H5 hj ⟨u3, ad, dx, rfl, W5⟩
      obtain ⟨q1, q2, q3, q4, q5⟩ := mk_src j hj
      walk_at "wn"
      refine ⟨_, rfl, a.x, dx .box, _, rfl, W5.hb, rfl, ?_⟩
      walk_at "wn"
      refine ⟨0, j + 1, mkS j, ad, dx, by rw [W5.box]; rfl, W5.at_, q1, q2, q3, q4, q5, fun H6 ad6 A6 st6 => ?_⟩
      walk_at "wn"
      exact ⟨_, ad6, dx, rfl, W5.step A6 st6⟩
    clear W4 ad dx
    rintro σ' H5 ⟨u3, ad, dx, rfl, W5⟩
    have d5 : Making C T0 Hb a.p a.x a.L 0 1 1 H5 := .mk rfl rfl rfl (fun h => absurd h (Nat.lt_irrefl _)) W5 Fit.start Cold.start RgF.start
    have bg5 := W5.bag
    clear W5 ad dx
    obtain ⟨p, x, L, DD⟩ := a
    have d5 : Making C T0 Hb p x L 0 1 1 H5 := d5
    refine ⟨fun σ' H' => ∃ u3 u4 u5 u6 u7 d np, σ' = [some (.ref p), some (.ref x), some (.ref L), u3, u4, u5, u6, u7] ∧ 1 ≤ np ∧ np ≤ 5 ∧ Making C T0 Hb p x L d np np H', ?_, ?_⟩
    · walk_at "wn"
      show iRng2 _ _ _ _
      show tCons _ _ _ _ _
      walk_at "wn"
      refine ⟨p, 4, rfl, bg5, by decide, by decide, fun kk H6 k0 k1 e6 b6 => ?_⟩
      have d6 : Making C T0 Hb p x L 0 1 1 H6 := by
        cases d5 with
        | mk q1 q2 q3 q4 W F Z R =>
          subst q1
          exact .mk rfl q2 q3 q4 (W.draw e6 b6) F Z R
      clear d5 bg5 e6 b6
      walk_at "wn"
      refine ⟨1, 2 + kk, rfl, ⟨by decide, by decide, by omega, by omega⟩, ?_⟩
      refine for_range (lo := 1) (fun i σ' H' => ∃ u3 u4 u5 u6 u7 d, σ' = [some (.ref p), some (.ref x), some (.ref L), u3, u4, u5, u6, u7] ∧ Making C T0 Hb p x L d (i + 1) (i + 1) H') ⟨_, _, _, _, _, _, rfl, d6⟩ ?_ (fun σ' H' ⟨_, _, _, _, _, d, e, h⟩ => ⟨_, _, _, _, _, d, _, e, by omega, by omega, h⟩)
      clear d6 u3
      rintro i σ' H7 hi ⟨u3, u4, u5, u6, u7, d, rfl, d7⟩
      have hi4 : i < 4 := by omega
      have ep : (1 : Int) + (i : Int) = ((i + 1 : Nat) : Int) := by omega
      rw [ep]
      walk_at "wn"
      refine ⟨fun σ' H' => ∃ (a : Pl) (S : Sys) (ad dx : Cell → Addr) (m : Tbs), a.p = p ∧ a.x = x ∧ a.L = L ∧ σ' = [some (.ref p), some (.ref x), some (.ref L), u3, some (.int ((i + 1 : Nat) : Int)), u5, u6, u7] ∧ Mid C T0 Hb a (i + 1) (i + 1) H' (forked S 0 (i + 1)) ad dx m none ∧ Fit (i + 1) S m ∧ Cold S ∧ RgF S [] 0, ?_, ?_⟩
      · cases d7 with
        | @mk a S ad dx m q1 q2 q3 q4 W F Z R =>
        subst q1 q2 q3
        walk_at "wn"
        refine ⟨_, rfl, a.x, dx .box, _, rfl, W.hb, rfl, ?_⟩
        walk_at "wn"
        refine ⟨0, i + 1, S, ad, dx, by rw [W.box]; rfl, W.at_, F.mem (i := 0) F.np1, F.freeP (by omega), ?_, by have := F.pl; omega, fun H8 ad8 A8 st8 => ?_⟩
        · have := F.len 0 F.np1
          show (S.tab ((0 : Nat) : Int)).length ≤ 900
          omega
        · walk_at "wn"
          exact ⟨a, S, ad8, dx, m, rfl, rfl, rfl, rfl, W.step A8 st8, F, Z, R⟩
      clear d7
      rintro σ' H8 ⟨a, S, ad, dx, m, rfl, rfl, rfl, rfl, W8, F8, Z8, R8⟩
      have F9 := F8.fork (by omega)
      refine ⟨fun σ' H' => ∃ d, σ' = [some (.ref a.p), some (.ref a.x), some (.ref a.L), u3, some (.int ((i + 1 : Nat) : Int)), some (.ref d), u6, u7] ∧ Making C T0 Hb a.p a.x a.L d (i + 1) (i + 2) H', ?_, ?_⟩
      · walk_at "wn"
        intro D0 hD0
        refine ⟨upd_same, [(Sum.inl 1, .int 1), (Sum.inl 2, .int 2), (Sum.inl 3, .int 3), (Sum.inl 4, .int 4)], rfl, by decide, ?_⟩
        have s4 : Same H8 (upd (upd H8 D0 (.dK [])) D0 (.dK (vKV [1, 2, 3, 4] (iv fun j => j)))) := fun b o e => by rw [upd_ne (ne_of_none e hD0), upd_ne (ne_of_none e hD0)]; exact e
        have W9 := W8.newD (Nat.le_refl _) hD0 (upd_same (a := D0)) s4
        walk_at "wn"
        exact ⟨D0, rfl, .mk (a := a.put (i + 1) D0) rfl rfl rfl (fun _ => if_pos rfl) W9 F9 (Z8.of rfl rfl) (R8.of rfl rfl)⟩
      clear W8 F8 Z8 R8 F9 ad dx m S
      obtain ⟨p, x, L, DD⟩ := a
      rintro σ' H9 ⟨d, rfl, d9⟩
      have d9 : Making C T0 Hb p x L d (i + 1) (i + 2) H9 := d9
      refine ⟨fun σ' H' => ∃ u3 u6 u7, σ' = [some (.ref p), some (.ref x), some (.ref L), u3, some (.int ((i + 1 : Nat) : Int)), some (.ref d), u6, u7] ∧ Making C T0 Hb p x L d (i + 1) (i + 2) H', ?_, ?_⟩
      · walk_at "wn"
        show iRng2 _ _ _ _
        show tCons _ _ _ _ _
        walk_at "wn"
        refine ⟨1, 8, rfl, ⟨by decide, by decide, by decide, by decide⟩, ?_⟩
        refine for_range (lo := 1) (fun j σ' H' => ∃ u3 u6 u7, σ' = [some (.ref p), some (.ref x), some (.ref L), u3, some (.int ((i + 1 : Nat) : Int)), some (.ref d), u6, u7] ∧ Making C T0 Hb p x L d (i + 1) (i + 2) H') ⟨_, _, _, rfl, d9⟩ ?_ (fun σ' H' h => h)
        clear d9 u3 u4 u5 u6 u7
        rintro j σ' H10 hj ⟨u3, u6, u7, rfl, d10⟩
        have hj7 : j < 7 := hj
        have ej : (1 : Int) + (j : Int) = ((j + 1 : Nat) : Int) := by omega
        rw [ej]
        walk_at "wn"
        refine ⟨fun σ' H' => ∃ wy t : Int, 1 ≤ t ∧ t ≤ 4 ∧ σ' = [some (.ref p), some (.ref x), some (.ref L), some (.int t), some (.int ((i + 1 : Nat) : Int)), some (.ref d), some (.int ((j + 1 : Nat) : Int)), some (.int wy)] ∧ Making C T0 Hb p x L d (i + 1) (i + 2) H', ?_, ?_⟩
        · cases d10 with
          | @mk a S ad dx m q1 q2 q3 q4 W F Z R =>
          obtain ⟨p', x', L', DD'⟩ := a
          obtain rfl : p = p' := q1.symm
          obtain rfl : x = x' := q2.symm
          obtain rfl : L = L' := q3.symm
          show tPar 7 3 _ _ _ _
          show tCons _ _ _ _ _
          walk_at "wn"
          refine ⟨p, 4, rfl, W.bag, by decide, by decide, fun wy H11 w0 w1 e11 b11 => ?_⟩
          have W1 := W.draw e11 b11
          walk_at "wn"
          refine ⟨p, 4, rfl, W1.bag, by decide, by decide, fun t H12 t0 t4 e12 b12 => ?_⟩
          have W2 := W1.draw e12 b12
          walk_at "wn"
          refine ⟨_, _, rfl, ?_⟩
          exact ⟨wy, 1 + t, by omega, by omega, rfl, .mk rfl rfl rfl q4 W2 F Z R⟩
        clear d10
        rintro σ' H12 ⟨wy, t, t1, t4, rfl, d12⟩
        refine ⟨fun σ' H' => σ' = [some (.ref p), some (.ref x), some (.ref L), some (.int t), some (.int ((i + 1 : Nat) : Int)), some (.ref d), some (.int ((j + 1 : Nat) : Int)), some (.int wy)] ∧ Making C T0 Hb p x L d (i + 1) (i + 2) H', ?_, ?_⟩
        · cases d12 with
          | @mk a S ad dx m q1 q2 q3 q4 W F Z R =>
          obtain ⟨p', x', L', DD'⟩ := a
          obtain rfl : p = p' := q1.symm
          obtain rfl : x = x' := q2.symm
          obtain rfl : L = L' := q3.symm
          have eD : DD' (i + 1) = d := q4 (by omega)
          subst eD
          have Dd := W.dict (i := i + 1) (by omega)
          have done : ∀ {H'}, Making C T0 Hb p x L (DD' (i + 1)) (i + 1) (i + 2) H' → Making C T0 Hb p x L (DD' (i + 1)) (i + 1) (i + 2) H' := id
          walk_at "wn"
          by_cases hw : wy = 0
          · rw [decide_eq_true (by rw [hw])]
            refine iteT ?_
            refine ⟨_, rfl, _, rfl, DD' (i + 1), _, rfl, m_get Dd ((j + 1 : Nat) : Int), ?_⟩
            by_cases hn : ((j + 1 : Nat) : Int) ∈ m.ks (i + 1)
            · rw [if_pos hn]
              refine ⟨_, rfl, ?_⟩
              refine iteT ?_
              have b := F.bd (i + 1) _ (by omega) hn
              walk_at "wn"
              refine ⟨_, rfl, x, dx .box, _, rfl, W.hb, rfl, ?_⟩
              walk_at "wn"
              refine ⟨((i + 1 : Nat) : Int), ((j + 1 : Nat) : Int), _, S, ad, dx, by rw [W.box]; rfl, W.at_, F.means (by omega) hn, by have := F.pl; omega, F.keeps (by omega) b.2.2.1 b.2.2.2.1, fun H13 A13 st13 => ?_⟩
              have W3 := W.step A13 st13
              have D3 := W3.dict (i := i + 1) (by omega)
              walk_at "wn"
              refine ⟨_, rfl, DD' (i + 1), rfl, .inl ⟨_, .inl D3⟩, ?_⟩
              walk_at "wn"
              refine ⟨_, Sum.inl ((j + 1 : Nat) : Int), .int (m.th (i + 1) ((j + 1 : Nat) : Int)), D3, rfl, by rw [v_val, if_pos hn], ?_⟩
              walk_at "wn"
              exact ⟨rfl, .mk rfl rfl rfl q4 (W3.putD (i := i + 1) (by omega) (by rw [upd_same, v_drop]) fun q u nq e => (upd_ne nq).trans e) (F.close (by omega) (by omega) (by omega) (by omega)) (Z.of rfl rfl) (R.of rfl rfl)⟩
            · rw [if_neg hn]
              refine ⟨_, rfl, ?_⟩
              refine iteF ?_
              walk_at "wn"
              exact ⟨rfl, .mk rfl rfl rfl q4 W F Z R⟩
          · rw [decide_eq_false (fun z => hw (V.int.inj z))]
            refine iteF ?_
            refine iteF ?_
            walk_at "wn"
            exact ⟨rfl, .mk rfl rfl rfl q4 W F Z R⟩
        clear d12
        rintro σ' H13 ⟨rfl, d13⟩
        cases d13 with
        | @mk a S ad dx m q1 q2 q3 q4 W F Z R =>
        obtain ⟨p', x', L', DD'⟩ := a
        obtain rfl : p = p' := q1.symm
        obtain rfl : x = x' := q2.symm
        obtain rfl : L = L' := q3.symm
        have eD : DD' (i + 1) = d := q4 (by omega)
        subst eD
        have Dd := W.dict (i := i + 1) (by omega)
        have kz : (m.ks (i + 1)).length ≤ 8 := range_sub 8 _ (F.kl (i + 1) (by omega)) fun n hn => by have := F.bd (i + 1) n (by omega) hn; omega
        walk_at "wn"
        by_cases hw : wy = 1
        · rw [decide_eq_true (by rw [hw])]
          refine iteT ?_
          refine ⟨_, rfl, _, rfl, DD' (i + 1), _, rfl, m_get Dd t, ?_⟩
          by_cases ht : t ∈ m.ks (i + 1)
          · rw [if_pos ht]
            refine ⟨_, rfl, ?_⟩
            refine iteT ?_
            have b := F.bd (i + 1) _ (by omega) ht
            walk_at "wn"
            refine ⟨_, rfl, x, dx .box, _, rfl, W.hb, rfl, ?_⟩
            walk_at "wn"
            refine ⟨((i + 1 : Nat) : Int), t, _, j + 1, S, ad, dx, by rw [W.box]; rfl, W.at_, F.means (by omega) ht, by have := F.pl; omega, by rw [F.N]; omega, by rw [F.N]; exact F.len (i + 1) (by omega), fun u hu ne => ?_, fun H14 A14 st14 => ?_⟩
            · by_cases hj : ((j + 1 : Nat) : Int) ∈ m.ks (i + 1)
              · have b := F.bd (i + 1) _ (by omega) hj
                rw [Int.toNat_natCast, hu] at b
                have e : u = m.th (i + 1) ((j + 1 : Nat) : Int) := Option.some.inj (Option.some.inj b.2.2.2.2)
                exact F.keeps (by omega) (by omega) (by omega)
              · rw [F.off (i + 1) (j + 1) (by omega) (by omega) (by omega) hj] at hu
                cases hu
            · have W3 := W.step A14 st14
              have D3 := W3.dict (i := i + 1) (by omega)
              walk_at "wn"
              refine ⟨_, rfl, _, rfl, DD' (i + 1), _, rfl, dget D3 ht, _, rfl, _, rfl, DD' (i + 1), _, rfl, DPut.k (k := Sum.inl ((j + 1 : Nat) : Int)) D3 (by rw [v_len, sizeLine_eq]; omega), ?_⟩
              walk_at "wn"
              have Fc := F.copy (i := i + 1) (n := ((j + 1 : Nat) : Int)) (t := m.th (i + 1) t) (by omega) (by omega) (by omega) (by omega) b.2.2.1 b.2.2.2.1
              rw [Int.toNat_natCast] at Fc
              exact ⟨_, _, _, rfl, .mk rfl rfl rfl q4 (W3.putD (i := i + 1) (by omega) (by rw [upd_same, v_put, iv_up]; rfl) fun q u nq e => (upd_ne nq).trans e) Fc (Z.of rfl rfl) (R.of rfl rfl)⟩
          · rw [if_neg ht]
            refine ⟨_, rfl, ?_⟩
            refine iteF ?_
            walk_at "wn"
            exact ⟨_, _, _, rfl, .mk rfl rfl rfl q4 W F Z R⟩
        · rw [decide_eq_false (fun z => hw (V.int.inj z))]
          refine iteF ?_
          refine iteF ?_
          walk_at "wn"
          exact ⟨_, _, _, rfl, .mk rfl rfl rfl q4 W F Z R⟩
      clear d9 u3 u4 u5 u6 u7
      rintro σ' H10 ⟨u3, u6, u7, rfl, d10⟩
      cases d10 with
      | @mk a S ad dx m q1 q2 q3 q4 W F Z R =>
      obtain ⟨p', x', L', DD'⟩ := a
      obtain rfl : p = p' := q1.symm
      obtain rfl : x = x' := q2.symm
      obtain rfl : L = L' := q3.symm
      have eD : DD' (i + 1) = d := q4 (by omega)
      subst eD
      have tl : H10 L = some (.lst ((List.range (i + 1)).map fun j => .ref (DD' j))) := W.tl
      walk_at "wn"
      refine ⟨L, _, _, rfl, rfl, tl, by rw [List.length_map, List.length_range, sizeLine_eq]; omega, ?_⟩
      walk_at "wn"
      have Wa := W.app (H' := upd H10 L (.lst (((List.range (i + 1)).map fun j => .ref (DD' j)) ++ [.ref (DD' (i + 1))]))) (by omega) upd_same fun q u nq e => (upd_ne nq).trans e
      exact ⟨_, _, _, _, _, 0, rfl, .mk (a := ⟨p, x, L, DD'⟩) rfl rfl rfl (fun h => absurd h (Nat.lt_irrefl _)) Wa F Z R⟩
    clear d5
    rintro σ' H6 ⟨u3', u4, u5, u6, u7, d, np, rfl, h1, h5, d6⟩
    walk_at "wn"
    refine ⟨by show 2 ≤ sizeLine; decide, fun r hr => ?_⟩
    have d7 : Making C T0 Hb p x L d np np (upd H6 r (.tup [.ref x, .ref L])) := by
      cases d6 with
      | mk q1 q2 q3 q4 W F Z R => exact .mk q1 q2 q3 q4 (W.same (Same.new' hr)) F Z R
    exact k _ r x L d np upd_same h1 h5 d7
end

/-- the law between two turns -/
inductive Doing (C : Cs) (T : List (Addr × Str)) (Hb : Hp) (p x L R : Addr) (np turn : Nat) : Hp → Prop
  | mk {H : Hp} {a : Pl} {S : Sys} {ad dx : Cell → Addr} {m : Tbs} {rs : List Rg} : a.p = p → a.x = x → a.L = L → Mid C T Hb a np np H S ad dx m (some (R, rs)) → Fit np S m → Cold S → RgF S rs turn → rs.length ≤ turn → Doing C T Hb p x L R np turn H
def errW : List Str := ["registered", "not registered"]
/-- what is told by an outcome and what is due -/
inductive Agree (H : Hp) : V → V → Prop
  | non : Agree H .non .non
  | err (wd : Str) (l1 l2 : Addr) (n : Int) : wd ∈ errW → 0 ≤ n → n ≤ 1000 → H l1 = some (.lst [.str wd, .int n]) → H l2 = some (.lst [.str wd, .int n]) → Agree H (.ref l1) (.ref l2)
section
variable {C : Cs} {T : List (Addr × Str)} {Hb H H' : Hp} {p x L R : Addr} {np turn : Nat}
theorem Doing.same (d : Doing C T Hb p x L R np turn H) (s : Same H H') : Doing C T Hb p x L R np turn H' := by
  cases d with
  | mk q1 q2 q3 W F Z R l => exact .mk q1 q2 q3 (W.same s) F Z R l
theorem Doing.draw (d : Doing C T Hb p x L R np turn H) (e : ∀ b, b ≠ p → H' b = H b) (bg : BagAt H' p) : Doing C T Hb p x L R np turn H' := by
  cases d with
  | mk q1 q2 q3 W F Z R l =>
    subst q1
    exact .mk rfl q2 q3 (W.draw e bg) F Z R l
theorem Doing.bag (d : Doing C T Hb p x L R np turn H) : BagAt H p := by
  cases d with
  | mk q1 q2 q3 W _ _ _ _ =>
    subst q1
    exact W.bag
theorem Doing.tab (d : Doing C T Hb p x L R np turn H) : Tabs T H := by
  cases d with
  | mk q1 q2 q3 W _ _ _ _ => exact W.tab
theorem Doing.sq {K : PySem.W.Frag} {b : Addr} {xs : List V} (d : Doing C T Hb p x L R np turn H) (h : SqL K Hb b xs) : SqL K H b xs := by
  cases d with
  | mk q1 q2 q3 W _ _ _ _ => exact W.sq h
theorem Agree.same {v1 v2 : V} (h : Agree H v1 v2) (s : Same H H') : Agree H' v1 v2 := by
  cases h with
  | non => exact .non
  | err wd l1 l2 n h1 h2 h3 h4 h5 => exact .err wd l1 l2 n h1 h2 h3 (s _ _ h4) (s _ _ h5)
theorem fin2 {Q : VK} {v1 v2 : V} (d : Doing C T Hb p x L R np turn H) (ag : Agree H v1 v2) (k : ∀ H' r v1 v2, H' r = some (.lst [v1, v2]) → Agree H' v1 v2 → Doing C T Hb p x L R np turn H' → Q (.ref r) H') : [v1, v2].length ≤ sizeLine ∧ ∀ r, H r = none → Q (.ref r) (upd H r (.lst [v1, v2])) :=
  ⟨by show 2 ≤ sizeLine; decide, fun r hr => k _ r _ _ upd_same (ag.same (Same.new' hr)) (d.same (Same.new' hr))⟩
end
section
variable {P : Program} {w : World} {K : PySem.W.Frag} {mg : Str → Option Value} {base : Heap} {C : Cs}
/-- a method that may raise -/
structure ME (P : Program) (w : World) (K : PySem.W.Frag) (mg : Str → Option Value) (base : Heap) (k : Nat) (C : Addr) (m : Str) (ps : List Str) (sp : Sp) (f : Addr) (fd : FuncData) : Prop where
  g : FnOk P w K mg base (L2.CX P w) k f fd ps sp
  m : Meth K C m f
  b : Binds K fd ps []
abbrev kVs : List V → List V → List V := fun vs zs => vs ++ zs
abbrev kUs : List Value → List Value → List Value := fun us ws => us ++ ws
abbrev nDone : List Str := ["_law_bag_here", "_law_box", "_law_tables", "_law_regs", "_law_label", "_law_p", "_law_here", "_law_n", "_law_way", "_law_found", "_law_k", "_law_reg"]
abbrev pDone : List Str := ["_law_bag_here", "_law_box", "_law_tables", "_law_regs", "_law_label"]
theorem scDone : FnScope nDone pDone (defScope sDone) := ⟨rfl, rfl, rfl, by decide +kernel, rfl, by decide +kernel, by decide +kernel⟩
abbrev qDone : Str := "_law_done.<locals>.<lambda>"
def spDone (C : Cs) (T : List (Addr × Str)) : Sp := fun vs H Q _ => ∃ (p x L R : Addr) (np turn : Nat) (Hb : Hp), vs = [.ref p, .ref x, .ref L, .ref R, .int (turn : Int)] ∧ Doing C T Hb p x L R np turn H ∧ turn ≤ 100 ∧
  ∀ H' r v1 v2, H' r = some (.lst [v1, v2]) → Agree H' v1 v2 → Doing C T Hb p x L R np (turn + 1) H' → Q (.ref r) H'
theorem okDone {c Pt D1 f1 D3 f3 f fT fO fA fAd fRm fCh : Addr} {fd fd1 fd3 fdT fdO fdA fdAd fdRm fdCh : FuncData} {dsA : List Value} (F : Fun K "_law_done" "_law_done" sDone f fd) (hc : fd.code = .ref c) (X : LawTx mg) (T : ClsF K C.S sysF) (R : OutTxt K mg D1 f1 fd1 D3 f3 fd3 fO fdO) (TB : TabB base mg c Pt)
    (GT : DO P w K mg base 1 "_law_take" ["_law_bag_here", "_law_many"] spTake fT fdT)
    (GA : DO P w K mg base 1 "_law_added" ["_law_regs", "_law_n", "_law_source", "_law_label"] spAdded fA fdA)
    (gAd : FnOk P w K mg base (L2.CX P w) 6 fAd fdAd ["self", "process", "set_number", "number", "label", "word"] (spAdd C D1)) (mAd : Meth K C.S "add" fAd) (bAd : Binds K fdAd ["self", "process", "set_number", "number", "label", "word"] dsA) (dAd : Vals [.str "level"] dsA)
    (GR : ME P w K mg base 6 C.S "remove" ["self", "process", "set_number", "number"] (spRemove C D3) fRm fdRm)
    (gCh : FnOk P w K mg base (L2.CX P w) 6 fCh fdCh ["self", "process", "set_number", "number", "word"] (spChange C D3)) (mCh : Meth K C.S "change" fCh) (kCh : KBn K fdCh ["self", "process", "set_number", "number", "word"] 4 ["word"] kUs kVs) :
    FnOk P w K mg base CX0 9 f fd pDone (spDone C [(Pt, qDone)]) := by
  refine okC F hc scDone (fun vs H Q E h => ?_) (fun A outer s H vs Q E hr h => ?_)
  · obtain ⟨_, _, _, _, _, _, _, rfl, _⟩ := h
    rfl
  · obtain ⟨p, x, L, R', np, turn, Hb, rfl, d0, ht, k⟩ := h
    have hu := hr.units
    have hu1 := hu_of hr
    have r1 : Room 1 _ := hr.mono (by decide)
    refine ⟨_, PSs.nox (pss_cons (ps_set (i := 5) scDone.nd rfl (Or.inr rfl) (pe_call GT.g r1 (by rfl) GT.m GT.k GT.b .nil pass0 (pa_cons (pv 0) (pa_cons (pe_callB cLenQ (by rfl) X.len PySem.boot_len (pa_cons (pv 2) pa_nil)) pa_nil))))
      (pss_cons (ps_set (i := 6) scDone.nd rfl (Or.inr rfl) (pe_ix ix_list (pv 2) (pv 5) (fun _ _ => rfl)))
      (pss_cons (ps_asg (pe_tup (pa_cons (pe_call GT.g r1 (by rfl) GT.m GT.k GT.b .nil pass0 (pa_cons (pv 0) (pa_cons pe_int pa_nil))) (pa_cons (pe_call GT.g r1 (by rfl) GT.m GT.k GT.b .nil pass0 (pa_cons (pv 0) (pa_cons pe_int pa_nil))) pa_nil))) (pg_tup rfl (pgs_cons (pg_name (i := 7) scDone.nd rfl (Or.inr rfl)) (pgs_cons (pg_name (i := 8) scDone.nd rfl (Or.inl rfl)) pgs_nil))))
      (pss_cons (ps_if (pt_cmp (pc_dnotin hu1 (pv 7) (pv 6)) rfl) (pss_one (ps_ret (pe_lst (pa_cons pe_non (pa_cons pe_non pa_nil))))) pss_nil)
      (pss_cons (ps_setLc (i := 9) (own := [("_law_k", 10), ("_law_reg", 11)]) (g := gTup K 2 (gCons (gName 10) (gCons (gName 11) gNil))) (tt := tTest (tOp (rEqD K) (tSl (rSlT K) (tVar 11) tNoPart (tPart (tC (.int 2)))) (tTup (tCons (tVar 7) (tCons (tDGet (tVar 6) (tVar 7)) tNil))))) (te := tVar 10) rfl scDone.nd rfl rfl (sw_true rfl rfl rfl (by decide +kernel))
        (pi_enum (by rfl) X.enum (pa_cons (pv 3) pa_nil)) (blkOk_by (N := nDone) (sc := defScope sDone) (by decide +kernel))
        (fun _ _ _ _ _ => pg_tup rfl (pgs_cons (pg_name (i := 10) scDone.nd rfl (Or.inl rfl)) (pgs_cons (pg_name (i := 11) scDone.nd rfl (Or.inl rfl)) pgs_nil)))
        (fun _ _ _ _ _ => pts_one (pt_cmpR (op_eqD hu) (pe_slice sl_tup (pv 11) po_none (po_some pe_int)) (pe_tup (pa_cons (pv 7) (pa_cons (pe_dget hu1 (pv 6) (pv 7) (fun _ _ => rfl)) pa_nil))) (nomark _)))
        (fun _ _ _ _ _ => pv 10))
      (pss_cons (ps_if (pt_cmpR op_lt (pv 8) pe_int (nomark _)) (pss_one (ps_ret (pe_lst (pa_cons
          (pe_out (k := 6) (T := [(Pt, qDone)]) (t := fun E => tMeth C.S "add" (spAdd C D1) [.str "level"] E (tVar 1) (tCons (tVar 5) (tCons (tC (.int 0)) (tCons (tVar 7) (tCons (tVar 4) tNil))))) R (by rfl) TB rfl (List.mem_singleton.mpr (by rfl)) (fun p hp _ => by rw [List.mem_singleton.mp hp]; rfl) hr (lamS_by (sc := defScope sDone) (by decide +kernel)) rfl (fun _ _ _ _ _ => rfl) (fun A outer s H E f c' hr2 => by exact pe_meth (pv 1) T.cl mAd gAd hr2 bAd dAd (passX (takes_of rfl rfl rfl rfl)) (pa_cons (pv 5) (pa_cons pe_int (pa_cons (pv 7) (pa_cons (pv 4) pa_nil))))))
          (pa_cons (pe_call GA.g r1 (by rfl) GA.m GA.k GA.b .nil pass0 (pa_cons (pv 3) (pa_cons (pv 7) (pa_cons (pe_dget hu1 (pv 6) (pv 7) (fun _ _ => rfl)) (pa_cons (pv 4) pa_nil))))) pa_nil))))) pss_nil)
      (pss_cons (ps_if (pt_cmpR op_eq (pv 8) pe_int (nomark _))
          (pss_cons (ps_if (pt_cmpR (op_eqD hu) (pv 9) (pe_lst pa_nil) (nomark _)) (pss_one (ps_ret (pe_lst (pa_cons
            (pe_out (k := 6) (T := [(Pt, qDone)]) (t := fun E => tMeth C.S "remove" (spRemove C D3) [] E (tVar 1) (tCons (tVar 5) (tCons (tC (.int 0)) (tCons (tVar 7) tNil)))) R (by rfl) TB rfl (List.mem_singleton.mpr (by rfl)) (fun p hp _ => by rw [List.mem_singleton.mp hp]; rfl) hr (lamS_by (sc := defScope sDone) (by decide +kernel)) rfl (fun _ _ _ _ _ => rfl) (fun A outer s H E f c' hr2 => by exact pe_meth (pv 1) T.cl GR.m GR.g hr2 GR.b .nil (passX (takes_of rfl rfl rfl rfl)) (pa_cons (pv 5) (pa_cons pe_int (pa_cons (pv 7) pa_nil)))))
            (pa_cons (pe_lst (pa_cons pe_str (pa_cons (pv 7) pa_nil))) pa_nil))))) pss_nil)
          (pss_cons (ps_expr (pe_bm PySem.F.plainAttrs_list PySem.F.slot_list_pop PySem.F.type_list_pop mt_popAt (pv 3) (pa_cons (pe_ix ix_list (pv 9) pe_int (fun _ _ => rfl)) pa_nil)))
          (pss_one (ps_ret (pe_lst (pa_cons
            (pe_out (k := 6) (T := [(Pt, qDone)]) (t := fun E => tMeth C.S "remove" (spRemove C D3) [] E (tVar 1) (tCons (tVar 5) (tCons (tC (.int 0)) (tCons (tVar 7) tNil)))) R (by rfl) TB rfl (List.mem_singleton.mpr (by rfl)) (fun p hp _ => by rw [List.mem_singleton.mp hp]; rfl) hr (lamS_by (sc := defScope sDone) (by decide +kernel)) rfl (fun _ _ _ _ _ => rfl) (fun A outer s H E f c' hr2 => by exact pe_meth (pv 1) T.cl GR.m GR.g hr2 GR.b .nil (passX (takes_of rfl rfl rfl rfl)) (pa_cons (pv 5) (pa_cons pe_int (pa_cons (pv 7) pa_nil)))))
            (pa_cons pe_non pa_nil))))))) pss_nil)
      (pss_cons (ps_if (pt_cmpR (op_eqD hu) (pv 9) (pe_lst pa_nil) (nomark _)) (pss_one (ps_ret (pe_lst (pa_cons
          (pe_out (k := 6) (T := [(Pt, qDone)]) (t := fun E => tMethK C.S "change" 3 1 (spChange C D3) kVs E (tVar 1) (tCons (tVar 5) (tCons (tC (.int 0)) (tCons (tVar 7) tNil))) (tCons (tC (.str "edge")) tNil)) R (by rfl) TB rfl (List.mem_singleton.mpr (by rfl)) (fun p hp _ => by rw [List.mem_singleton.mp hp]; rfl) hr (lamS_by (sc := defScope sDone) (by decide +kernel)) rfl (fun _ _ _ _ _ => rfl) (fun A outer s H E f c' hr2 => by exact pe_methK (ks := ["word"]) (pv 1) T.cl mCh gCh hr2 kCh (passX (takes_of rfl rfl rfl rfl)) (pa_cons (pv 5) (pa_cons pe_int (pa_cons (pv 7) pa_nil))) (pk_cons pe_str pk_nil)))
          (pa_cons (pe_lst (pa_cons pe_str (pa_cons (pv 7) pa_nil))) pa_nil))))) pss_nil)
      (pss_cons (ps_asg (pe_op op_catT (pe_slice sl_tup (pe_ix ix_list (pv 3) (pe_ix ix_list (pv 9) pe_int (fun _ _ => rfl)) (fun _ _ => rfl)) po_none (po_some pe_int)) (pe_tup (pa_cons pe_str pa_nil))) (pg_sub (pv 3) (pe_ix ix_list (pv 9) pe_int (fun _ _ => rfl)) set_list))
      (pss_one (ps_ret (pe_lst (pa_cons
          (pe_out (k := 6) (T := [(Pt, qDone)]) (t := fun E => tMethK C.S "change" 3 1 (spChange C D3) kVs E (tVar 1) (tCons (tVar 5) (tCons (tC (.int 0)) (tCons (tVar 7) tNil))) (tCons (tC (.str "edge")) tNil)) R (by rfl) TB rfl (List.mem_singleton.mpr (by rfl)) (fun p hp _ => by rw [List.mem_singleton.mp hp]; rfl) hr (lamS_by (sc := defScope sDone) (by decide +kernel)) rfl (fun _ _ _ _ _ => rfl) (fun A outer s H E f c' hr2 => by exact pe_methK (ks := ["word"]) (pv 1) T.cl mCh gCh hr2 kCh (passX (takes_of rfl rfl rfl rfl)) (pa_cons (pv 5) (pa_cons pe_int (pa_cons (pv 7) pa_nil))) (pk_cons pe_str pk_nil)))
          (pa_cons pe_non pa_nil)))))))))))))), ?_⟩
    cases d0 with
    | @mk a S ad dx m rs q1 q2 q3 W0 F0 Z0 R0 rl =>
    obtain ⟨p', x', L', DD⟩ := a
    obtain rfl : p = p' := q1.symm
    obtain rfl : x = x' := q2.symm
    obtain rfl : L = L' := q3.symm
    have mk : ∀ {H' : Hp} {S' : Sys} {ad' dx' : Cell → Addr} {rs' : List Rg}, Mid C [(Pt, qDone)] Hb ⟨p, x, L, DD⟩ np np H' S' ad' dx' m (some (R', rs')) → Fit np S' m → Cold S' → RgF S' rs' (turn + 1) → rs'.length ≤ turn + 1 → Doing C [(Pt, qDone)] Hb p x L R' np (turn + 1) H' := fun W F Z R l => .mk (a := ⟨p, x, L, DD⟩) rfl rfl rfl W F Z R l
    have tl0 : H L = some (.lst ((List.range np).map fun i => .ref (DD i))) := W0.tl
    have np1 := F0.np1
    have np5 := F0.np5
    walk_at "wn"
    have lenL : ((List.range np).map fun i => V.ref (DD i)).length = np := by rw [List.length_map, List.length_range]
    rw [lenL]
    refine ⟨p, (np : Int), rfl, W0.bag, by omega, by omega, fun i0 H1 i1 i2 e1 b1 => ?_⟩
    obtain ⟨i, rfl⟩ := Int.eq_ofNat_of_zero_le i1
    have hi : i < np := by omega
    have W1 := W0.draw e1 b1
    walk_at "wn"
    refine ⟨L, _, (i : Int), _, rfl, rfl, SqL.of W1.tl, tl_at hi, ?_⟩
    walk_at "wn"
    refine ⟨p, 8, rfl, W1.bag, by decide, by decide, fun n H2 n0 n8 e2 b2 => ?_⟩
    have W2 := W1.draw e2 b2
    walk_at "wn"
    refine ⟨p, 5, rfl, W2.bag, by decide, by decide, fun wy H4 w0 w1 e4 b4 => ?_⟩
    have W4 := W2.draw e4 b4
    walk_at "wn"
    refine ⟨by show 2 ≤ sizeLine; decide, fun tp htp => ?_⟩
    have W3 := W4.same (Same.new' (o := .tup [.int n, .int wy]) htp)
    clear W0 W1 W2 W4 e1 e2 e4 b1 b2 b4 tl0
    walk_at "wn"
    refine ⟨tp, _, rfl, SqT.of upd_same, rfl, _, _, rfl, ?_⟩
    walk_at "wn"
    refine ⟨_, _, rfl, ?_⟩
    walk_at "wn"
    refine ⟨rfl, ?_⟩
    generalize upd H4 tp (.tup [.int n, .int wy]) = H3 at W3 ⊢
    have Dd : H3 (DD i) = some (.dK (vKV (m.ks i) (iv (m.th i)))) := W3.dict hi
    walk_at "wn"
    refine ⟨_, rfl, _, rfl, DD i, _, rfl, m_get Dd n, ?_⟩
    by_cases hn : n ∈ m.ks i
    case neg =>
      rw [if_neg hn]
      refine ⟨_, rfl, ?_⟩
      refine iteT ?_
      walk_at "wn"
      exact fin2 (mk W3 F0 Z0 R0.next (by omega)) .non k
    rw [if_pos hn]
    refine ⟨_, rfl, ?_⟩
    refine iteF ?_
    obtain ⟨_, n7, t1, t4, _⟩ := F0.bd i n hi hn
    have Mn := F0.means hi hn
    have Dn := dget Dd hn
    generalize et : m.th i n = t at t1 t4 Mn Dn
    obtain ⟨ws, hR, pr⟩ := W3.regs
    have wl := paired_len pr
    walk_at "wn"
    unfold tLc iEnum
    walk_at "wn"
    refine ⟨R', _, rfl, SqL.of hR, fun fr hfr => ?_⟩
    refine lc_it (walk_enum (xs := ws)) (fun i H' => Same H3 H' ∧ H' fr = some (.lst ((hits n t 0 (rs.take i)).map V.int))) ⟨Same.new' hfr, upd_same⟩ (fun i H' _ h => Same.seq h.1 (SqL.of hR)) ?_ ?_
    · rintro j x0 H1 H2 hj ⟨sm, hd⟩ ⟨T1, x1, y1, rfl, nT, rfl, ex, ey⟩
      have smT := sm.trans (Same.new' (o := .tup [x1, y1]) nT)
      have hdT := (Same.new' (o := .tup [x1, y1]) nT) _ _ hd
      obtain rfl := Option.some.inj ex
      obtain ⟨r, er, tr, rfl, ht1⟩ := paired_at pr (show ws[j]? = some y1 from ey)
      refine ⟨T1, _, rfl, SqT.of upd_same, rfl, _, _, rfl, ?_⟩
      walk_at "wn"
      refine ⟨_, _, rfl, ?_⟩
      walk_at "wn"
      refine ⟨rfl, rfl, ?_⟩
      generalize upd H1 T1 (.tup [V.int (j : Nat), .ref tr]) = H2 at smT hdT ⊢
      have ht2 := smT _ _ ht1
      walk_at "wn"
      refine ⟨tr, _, rfl, SqT.of ht2, by show ¬ (0 = 0 ∧ 2 = 4); decide, fun c hc => ?_⟩
      have s3 := Same.new' (o := .tup [.int r.n, .int r.src]) hc
      show tTup _ _ (upd H2 c (.tup [.int r.n, .int r.src])) _
      have Dc := dget ((smT.trans s3) _ _ Dd) hn
      have Dc := dget ((smT.trans s3) _ _ Dd) hn
      rw [et] at Dc
      walk_at "wn"
      refine ⟨_, rfl, _, rfl, DD i, _, rfl, Dc, ?_⟩
      walk_at "wn"
      refine ⟨by show 2 ≤ sizeLine; decide, fun d hd0 => ?_⟩
      have s4 := Same.new' (o := .tup [.int n, .int t]) hd0
      refine ⟨_, _, .tup (SqT.of (s4 _ _ upd_same)) (.cons (.int _) (.cons (.int _) .nil)), .tup (SqT.of upd_same) (.cons (.int _) (.cons (.int _) .nil)), two_shaped _ _, two_shaped _ _, ?_⟩
      rw [two_eqv]
      have s5 := smT.trans (s3.trans s4)
      have hd5 := s4 _ _ (s3 _ _ hdT)
      have il : j < rs.length := by rw [← wl]; exact hj
      have ett : rs.take (j + 1) = rs.take j ++ [r] := by rw [List.take_add_one, er]; rfl
      rw [ett, hits_app, List.length_take, Nat.min_eq_left (by omega), Nat.zero_add]
      refine ⟨_, rfl, ?_⟩
      refine ite2 (fun hc => ?_) (fun hc => ?_)
      · walk_at "wn"
        rw [if_pos (show keyR n t r = true from hc)]
        have := hits_len n t (rs.take j) 0
        rw [List.length_take] at this
        refine ⟨_, hd5, by rw [List.length_map, sizeLine_eq]; omega, fun b o e => ?_, by rw [upd_same, List.map_append]; rfl⟩
        rw [upd_ne (ne_of_none e hfr)]
        exact s5 _ _ e
      · rw [if_neg (show ¬ keyR n t r = true from hc), List.append_nil]
        exact ⟨s5, hd5⟩
    rintro H9 ⟨s9, h9⟩
    rw [wl, List.take_length] at h9
    have W9 := W3.same s9
    have small := F0.small R0 (show rs.length ≤ 900 by omega) (by rw [Z0.que]; exact Nat.zero_le _)
    have find := R0.find (n := n) (t := t)
    have msr := F0.msrc t1 t4
    have mst : (0 : Int) ∈ S.sets := by rw [F0.sets]; exact List.mem_singleton.mpr rfl
    have hwL : ∀ r ∈ rs, r.word ∈ wordsL := fun r h => lev_word (R0.ok r h).2.2.2.2.2.2
    have hlab : (turn : Int) ∉ S.ents 0 := by rw [R0.ents]; exact R0.fresh
    have boxM : ∀ {vs rest rest2 : List V} {H' : Hp} {kk}, OnSys C vs H' rest kk → vs = .ref x :: rest2 → ∃ dx1 S1 t1 s1 v1, H' x = some (sysO C.S dx1 S1 t1 s1 v1) := fun {vs} {rest} {rest2} {H'} {kk} ⟨S1, ad1, dx1, e, A1, _⟩ e2 => by
      have h := A1.at_ .box trivial
      have e3 : ad1 .box = x := V.ref.inj (List.cons.inj (e.symm.trans e2)).1
      rw [e3] at h
      exact ⟨_, _, _, _, _, h⟩
    clear W3 hfr hR pr
    walk_at "wn"
    refine ite2 (fun c0 => ?_) (fun c0 => ?_)
    · walk_at "wn"
      refine W9.out (sp := spAdd C D1) (vs := [.ref x, .int (i : Int), .int 0, .int n, .int (turn : Int), .str "level"]) (fun E H' k h => ?_) (fun H4 E W4 tA tC => ?_)
      · obtain ⟨_, _, _, _, _, _, _, hO⟩ := id h
        obtain ⟨dx1, S1, t1, s1, v1, hb1⟩ := boxM hO rfl
        walk_at "wn"
        refine ⟨_, rfl, x, dx1, _, rfl, hb1, rfl, ?_⟩
        walk_at "wn"
        exact h
      refine ⟨i, 0, n, (turn : Int), 0, t, "level", S, ad, dx, by rw [W4.box], W4.at_, F0.meansSet hi, mst, Mn, msr, by omega, by omega, by omega, by decide, hlab, small, fun l' hf => OutS tA fun H5 q s5 h5 => ?_, fun hf H5 ad5 dx5 A5 st5 => ?_⟩
      · have W5 := W4.same s5
        obtain ⟨ws, hR, pr⟩ := W5.regs
        have D5 := dget (W5.dict hi) hn
        rw [et] at D5
        rw [find] at hf
        walk_at "wn"
        refine ⟨_, rfl, _, rfl, DD i, _, rfl, D5, ?_⟩
        walk_at "wn"
        refine ⟨R', n, t, (turn : Int), ws, rs, rfl, hR, pr, by omega, hwL, fun r' _ H6 q2 s6 h6 => ?_, fun e => ?_⟩
        · exact fin2 (mk (W5.same s6) F0 Z0 R0.next (by omega)) (.err "registered" q q2 n (by decide) n0 (by omega) (s6 _ _ h5) h6) k
        · rw [e] at hf; cases hf
      · have W5 := W4.step A5 st5
        obtain ⟨ws, hR, pr⟩ := W5.regs
        have D5 := dget (W5.dict hi) hn
        rw [et] at D5
        rw [find] at hf
        have hf := Option.map_eq_none_iff.mp hf
        walk_at "wn"
        refine ⟨_, rfl, _, rfl, DD i, _, rfl, D5, ?_⟩
        walk_at "wn"
        refine ⟨R', n, t, (turn : Int), ws, rs, rfl, hR, pr, by omega, hwL, fun r' e => ?_, fun _ H6 q hq h6 hR6 k6 => ?_⟩
        · rw [hf] at e; cases e
        · have W6 := W5.newR (r := ⟨n, t, (turn : Int), "level"⟩) (g := fun vs => vs ++ [.ref q]) (rs' := rs ++ [⟨n, t, (turn : Int), "level"⟩]) hq h6 (fun vs e => by rw [hR] at e; cases e; exact hR6) k6 fun O vs h p => paired_app p h
          exact fin2 (mk W6 (F0.of rfl rfl rfl rfl rfl rfl) Z0.add (R0.add ⟨n0, by omega, t1, t4⟩) (by rw [List.length_append]; show rs.length + 1 ≤ _; omega)) .non k
    walk_at "wn"
    have popAt : ∀ {j : Nat} {H' : Hp} {ws : List V} {r : Rg}, Paired (RgT H') ws rs → rs[j]? = some r → ∃ y, ws[j]? = some (.ref y) ∧ H' y = some (.tup (rgT r)) ∧ j < ws.length := fun pr hj => by
      obtain ⟨v, h1, y, rfl, h2⟩ := paired_get pr hj
      exact ⟨y, h1, h2, (List.getElem?_eq_some_iff.mp h1).1⟩
    refine ite2 (fun c1 => ?_) (fun c1 => ?_)
    · walk_at "wn"
      refine ⟨Nat.zero_le _, fun z hz => ?_⟩
      have sz := Same.new' (o := .lst []) hz
      have Wz := W9.same sz
      refine q_eqNil (sz _ _ h9) upd_same ?_
      have hz9 := sz _ _ h9
      generalize upd H9 z (.lst []) = Hz at Wz hz9 ⊢
      clear W9 sz hz h9
      refine ⟨_, rfl, ?_⟩
      rcases hits_cases n t rs 0 with ⟨e1, e2⟩ | ⟨j, r, lst, e1, e2, e3, e4, e5⟩
      · rw [e1]
        refine iteT ?_
        walk_at "wn"
        refine Wz.out (sp := spRemove C D3) (vs := [.ref x, .int (i : Int), .int 0, .int n]) (fun E H' k h => ?_) (fun H4 E W4 tA tC => ?_)
        · obtain ⟨_, _, _, _, _, hO⟩ := id h
          obtain ⟨dx1, S1, t1, s1, v1, hb1⟩ := boxM hO rfl
          refine ⟨_, rfl, x, dx1, _, rfl, hb1, rfl, ?_⟩
          walk_at "wn"
          exact h
        refine ⟨i, 0, n, 0, t, S, ad, dx, by rw [W4.box], W4.at_, F0.meansSet hi, mst, Mn, msr, by omega, small, fun hf => OutS tC fun H5 q s5 h5 => ?_, fun l' hf => ?_⟩
        · walk_at "wn"
          refine ⟨by show 2 ≤ sizeLine; decide, fun q2 hq2 => ?_⟩
          have s6 := Same.new' (o := .lst [.str "not registered", .int n]) hq2
          walk_at "wn"
          exact fin2 (mk ((W4.same s5).same s6) F0 Z0 R0.next (by omega)) (.err "not registered" q q2 n (by decide) n0 (by omega) (s6 _ _ h5) upd_same) k
        · rw [find, e2] at hf; cases hf
      · rw [e1] at hz9 ⊢
        refine iteF ?_
        obtain ⟨ws, hR, pr⟩ := Wz.regs
        obtain ⟨y, hy, hty, jl⟩ := popAt pr e2
        have at0 : atI (((((0 + j : Nat) : Int)) :: lst).map V.int) 0 = some (.int (j : Int)) := by rw [Nat.zero_add]; exact atI_nat (j := 0) rfl
        walk_at "wn"
        refine ⟨fr, _, 0, .int (j : Int), rfl, rfl, SqL.of hz9, at0, ?_⟩
        walk_at "wn"
        refine ⟨R', ws, (j : Int), j, .ref y, rfl, rfl, hR, by omega, by have := paired_len pr; omega, seqIndex_of (by omega) (by omega), hy, ?_⟩
        have Wp := Wz.putR (g := fun vs => vs.eraseIdx j) (rs' := rs.eraseIdx j) (fun vs e => by rw [hR] at e; cases e; exact upd_same) (fun q u nq e => (upd_ne nq).trans e) fun O vs p => paired_erase p
        generalize upd Hz R' (.lst (ws.eraseIdx j)) = Hp' at Wp ⊢
        walk_at "wn"
        refine Wp.out (sp := spRemove C D3) (vs := [.ref x, .int (i : Int), .int 0, .int n]) (fun E H' k h => ?_) (fun H4 E W4 tA tC => ?_)
        · obtain ⟨_, _, _, _, _, hO⟩ := id h
          obtain ⟨dx1, S1, t1, s1, v1, hb1⟩ := boxM hO rfl
          refine ⟨_, rfl, x, dx1, _, rfl, hb1, rfl, ?_⟩
          walk_at "wn"
          exact h
        refine ⟨i, 0, n, 0, t, S, ad, dx, by rw [W4.box], W4.at_, F0.meansSet hi, mst, Mn, msr, by omega, small, fun hf => ?_, fun l' hf H5 ad5 dx5 A5 st5 => ?_⟩
        · rw [find, e3] at hf; cases hf
        · rw [find, e3] at hf
          cases hf
          walk_at "wn"
          refine fin2 (mk (W4.step A5 st5) (F0.of rfl rfl rfl rfl rfl rfl) Z0.drop (R0.drop e2).next ?_) .non k
          have := (List.eraseIdx_sublist rs j).length_le
          omega
    walk_at "wn"
    refine ⟨Nat.zero_le _, fun z hz => ?_⟩
    have sz := Same.new' (o := .lst []) hz
    have Wz := W9.same sz
    refine q_eqNil (sz _ _ h9) upd_same ?_
    have hz9 := sz _ _ h9
    generalize upd H9 z (.lst []) = Hz at Wz hz9 ⊢
    clear W9 sz hz h9
    refine ⟨_, rfl, ?_⟩
    rcases hits_cases n t rs 0 with ⟨e1, e2⟩ | ⟨j, r, lst, e1, e2, e3, e4, e5⟩
    · rw [e1]
      refine iteT ?_
      walk_at "wn"
      refine Wz.out (sp := spChange C D3) (vs := [.ref x, .int (i : Int), .int 0, .int n, .str "edge"]) (fun E H' k h => ?_) (fun H4 E W4 tA tC => ?_)
      · obtain ⟨_, _, _, _, _, _, hO⟩ := id h
        obtain ⟨dx1, S1, t1, s1, v1, hb1⟩ := boxM hO rfl
        refine ⟨_, rfl, x, dx1, _, rfl, hb1, rfl, ?_⟩
        walk_at "wn"
        exact ⟨rfl, rfl, h⟩
      refine ⟨i, 0, n, 0, t, "edge", S, ad, dx, by rw [W4.box], W4.at_, F0.meansSet hi, mst, Mn, msr, by decide, by omega, small, fun hf => OutS tC fun H5 q s5 h5 => ?_, fun l' hf => ?_⟩
      · walk_at "wn"
        refine ⟨by show 2 ≤ sizeLine; decide, fun q2 hq2 => ?_⟩
        have s6 := Same.new' (o := .lst [.str "not registered", .int n]) hq2
        walk_at "wn"
        exact fin2 (mk ((W4.same s5).same s6) F0 Z0 R0.next (by omega)) (.err "not registered" q q2 n (by decide) n0 (by omega) (s6 _ _ h5) upd_same) k
      · rw [find, e2] at hf; cases hf
    · rw [e1] at hz9 ⊢
      refine iteF ?_
      obtain ⟨ws, hR, pr⟩ := Wz.regs
      obtain ⟨y, hy, hty, jl⟩ := popAt pr e2
      have at0 : atI (((((0 + j : Nat) : Int)) :: lst).map V.int) 0 = some (.int (j : Int)) := by rw [Nat.zero_add]; exact atI_nat (j := 0) rfl
      walk_at "wn"
      refine ⟨fr, _, 0, .int (j : Int), rfl, rfl, SqL.of hz9, at0, ?_⟩
      walk_at "wn"
      refine ⟨R', _, (j : Int), .ref y, rfl, rfl, SqL.of hR, atI_nat hy, ?_⟩
      walk_at "wn"
      refine ⟨y, _, rfl, SqT.of hty, by show ¬ (0 = 0 ∧ 3 = 4); decide, fun c hc => ?_⟩
      have s1 := Same.new' (o := .tup [.int r.n, .int r.src, .int r.lab]) hc
      show tTup _ _ (upd Hz c (.tup [.int r.n, .int r.src, .int r.lab])) _
      walk_at "wn"
      refine ⟨by show 1 ≤ sizeLine; decide, fun d hd => ?_⟩
      have s2 := Same.new' (o := .tup [.str "edge"]) hd
      have W1 := (Wz.same s1).same s2
      have hR1 := s2 _ _ (s1 _ _ hR)
      have hz1 := s2 _ _ (s1 _ _ hz9)
      have hc1 := s2 c (.tup [.int r.n, .int r.src, .int r.lab]) upd_same
      refine ⟨c, d, _, _, rfl, rfl, SqT.of hc1, SqT.of upd_same, (by intro z; cases z), by show 4 ≤ sizeLine; decide, (fun z => by cases z), fun _ e he => ?_⟩
      show (fun _ _ => _) _ _
      have s3 := Same.new' (o := .tup (rgT ⟨r.n, r.src, r.lab, "edge"⟩)) he
      have neR : e ≠ R' := fun z => by rw [z, hR1] at he; cases he
      walk_at "wn"
      refine ⟨fr, _, 0, .int (j : Int), rfl, rfl, SqL.of (s3 _ _ hz1), at0, ?_⟩
      walk_at "wn"
      refine ⟨R', ws, (j : Int), j, rfl, rfl, s3 _ _ hR1, ixN_nat jl, ?_⟩
      have Wp := W1.newR (r := ⟨r.n, r.src, r.lab, "edge"⟩) (g := fun vs => vs.set j (.ref e)) (rs' := rs.set j ⟨r.n, r.src, r.lab, "edge"⟩) he ((upd_ne neR).trans upd_same) (fun vs e => by rw [hR1] at e; cases e; exact upd_same) (fun q u nq e => (upd_ne nq).trans (s3 _ _ e)) fun O vs h p => paired_set p h
      walk_at "wn"
      refine Wp.out (sp := spChange C D3) (vs := [.ref x, .int (i : Int), .int 0, .int n, .str "edge"]) (fun E H' k h => ?_) (fun H4 E W4 tA tC => ?_)
      · obtain ⟨_, _, _, _, _, _, hO⟩ := id h
        obtain ⟨dx1, S1, t1, s1, v1, hb1⟩ := boxM hO rfl
        refine ⟨_, rfl, x, dx1, _, rfl, hb1, rfl, ?_⟩
        walk_at "wn"
        exact ⟨rfl, rfl, h⟩
      refine ⟨i, 0, n, 0, t, "edge", S, ad, dx, by rw [W4.box], W4.at_, F0.meansSet hi, mst, Mn, msr, by decide, by omega, small, fun hf => ?_, fun l' hf H5 ad5 dx5 A5 st5 => ?_⟩
      · rw [find, e3] at hf; cases hf
      · rw [find, e3] at hf
        cases hf
        walk_at "wn"
        refine fin2 (mk (W4.step A5 st5) (F0.of rfl rfl rfl rfl rfl rfl) Z0.change ?_ (by rw [List.length_set]; omega)) .non k
        have hch := (R0.change e2).next
        rw [e4, e5] at hch ⊢
        exact hch
end

/-! registrations, told as data -/
def tolD (r : Rg) : PyData := .tuple [.tuple [.int 0, .int 0], .int r.lab, .int r.n, .tuple [.int 0, .int r.src], .str r.word, .bool true]
def TolAt (H : Hp) (v : V) (r : Rg) : Prop := ∃ T A B, v = .ref T ∧ H T = some (.tup [.ref A, .int r.lab, .int r.n, .ref B, .str r.word, .bl true]) ∧ H A = some (.tup [.int 0, .int 0]) ∧ H B = some (.tup [.int 0, .int r.src])
theorem dp_told {K : PySem.W.Frag} {H : Hp} {vs : List V} {rs : List Rg} (p : Paired (TolAt H) vs rs) : DpAll K H vs (rs.map tolD) := by
  induction p with
  | nil => exact .nil
  | cons r _ ih =>
    obtain ⟨T, A, B, rfl, h1, h2, h3⟩ := r
    exact .cons (.tup (SqT.of h1) (.cons (.tup (SqT.of h2) (.cons (.int 0) (.cons (.int 0) .nil))) (.cons (.int _) (.cons (.int _) (.cons (.tup (SqT.of h3) (.cons (.int 0) (.cons (.int _) .nil))) (.cons (.str _) (.cons (.bl true) .nil))))))) ih
theorem told_keep {H H' : Hp} {vs : List V} {rs : List Rg} (p : Paired (TolAt H) vs rs) (k : ∀ b xs, H b = some (.tup xs) → H' b = some (.tup xs)) : Paired (TolAt H') vs rs := by
  induction p with
  | nil => exact .nil
  | cons r _ ih =>
    obtain ⟨T, A, B, e, h1, h2, h3⟩ := r
    exact .cons ⟨T, A, B, e, k _ _ h1, k _ _ h2, k _ _ h3⟩ ih
theorem told_lay : ∀ rs : List Rg, (∀ r ∈ rs, r.word ∈ wordsL) → PyData.canLayAll0 (rs.map tolD) = true ∧ PyData.depthAll (rs.map tolD) ≤ 2
  | [], _ => ⟨rfl, Nat.zero_le _⟩
  | r :: rs, h => by
    obtain ⟨a, b⟩ := told_lay rs fun q hq => h q (List.mem_cons_of_mem _ hq)
    have h0 := word_ok (h r List.mem_cons_self)
    refine ⟨?_, ?_⟩
    · simp [tolD, PyData.canLayAll0, PyData.canLay0, a, h0]
    · simp only [List.map_cons, tolD, PyData.depthAll, PyData.depth]
      omega
theorem told_shaped {rs : List Rg} (h : ∀ r ∈ rs, r.word ∈ wordsL) : SeqAt.shaped (.list (rs.map tolD)) = true := by
  obtain ⟨a, b⟩ := told_lay rs h
  unfold SeqAt.shaped
  rw [Bool.and_eq_true]
  refine ⟨by simp only [PyData.canLay0]; exact a, decide_eq_true ?_⟩
  simp only [PyData.depth]
  have e : ∀ n : Nat, n ≤ 2 → n + 1 ≤ 3 := fun n h => by omega
  refine Nat.le_trans (e _ b) ?_
  decide
theorem told_refl {rs : List Rg} (h : ∀ r ∈ rs, r.word ∈ wordsL) : PyData.eqv (.list (rs.map tolD)) (.list (rs.map tolD)) = true := by
  refine SeqAt.eqv_refl_plain _ (PyData.plain_of_canLay0 _ ?_)
  simp only [PyData.canLay0]
  exact (told_lay rs h).1
/-! names -/
theorem rowAt_first (t p : Int) : ∀ (l : List (Option Int)) (k j : Nat), l[j]? = some (some t) → (∀ i, i < j → l[i]? ≠ some (some t)) → (rowAt t p k l)[0]? = some (p, k + j)
  | [], k, j, h, _ => by cases j <;> cases h
  | x :: l, k, 0, h, _ => by
    cases h
    show (if some t = some t then _ else _ : List (Int × Nat))[0]? = _
    rw [if_pos rfl]
    rfl
  | x :: l, k, j + 1, h, n => by
    have nx : x ≠ some t := fun z => n 0 (Nat.succ_pos _) (by rw [z]; rfl)
    show (if x = some t then _ else rowAt t p (k + 1) l)[0]? = _
    rw [if_neg nx, rowAt_first t p l (k + 1) j h fun i hi => n (i + 1) (Nat.succ_lt_succ hi)]
    congr 2
    omega
theorem places_first {S : Sys} {t p : Int} {ps : List Int} {j : Nat} (h : (S.tab p)[j]? = some (some t)) (n : ∀ i, i < j → (S.tab p)[i]? ≠ some (some t)) : (placesIn S t (p :: ps))[0]? = some (p, j) := by
  have e := rowAt_first t p (S.tab p) 0 j h n
  rw [Nat.zero_add] at e
  show (rowAt t p 0 (S.tab p) ++ _)[0]? = _
  rw [List.getElem?_append_left (by
    cases hl : rowAt t p 0 (S.tab p) with
    | nil => rw [hl] at e; cases e
    | cons _ _ => exact Nat.succ_pos _)]
  exact e
section
variable {S : Sys} {m : Tbs} {rs : List Rg} {H : Hp} {np turn : Nat}
theorem Fit.nameSet (F : Fit np S m) {ps : List Int} : (placesIn S 0 (0 :: ps))[0]? = some (0, 0) :=
  places_first (F.set 0 F.np1) fun i hi => absurd hi (Nat.not_lt_zero _)
theorem Fit.nameSrc (F : Fit np S m) {ps : List Int} {t : Int} (t1 : 1 ≤ t) (t4 : t ≤ 4) : (placesIn S t (0 :: ps))[0]? = some (0, t.toNat) := by
  refine places_first (F.srcAt t1 t4) fun i hi z => ?_
  by_cases h : i = 0
  · subst h
    have e := (F.set 0 F.np1).symm.trans z
    have e := Option.some.inj (Option.some.inj e)
    omega
  · have e := F.srcAt (t := (i : Int)) (by omega) (by omega)
    rw [Int.toNat_natCast] at e
    have e := Option.some.inj (Option.some.inj (e.symm.trans z))
    omega
theorem range_sorted (n : Nat) : ((List.range n).map fun i : Nat => (i : Int)).Pairwise (· ≤ ·) := by
  rw [List.pairwise_map]
  exact List.pairwise_lt_range.imp fun h => by omega
theorem told_of {ys : List Int} {vs : List V} (F : Fit np S m) (R : RgF S rs turn) (pm : ys.Perm S.procs) (pw : ys.Pairwise (· ≤ ·)) (p : Paired (RgAt S ys 0 H) vs (S.ents 0)) : Paired (TolAt H) vs rs := by
  obtain ⟨zs, e⟩ : ∃ zs, ys = 0 :: zs := by
    have e := sort_uniq (pm.trans (List.Perm.of_eq F.procs)) pw (range_sorted np)
    have := F.np1
    obtain ⟨n, rfl⟩ : ∃ n, np = n + 1 := ⟨np - 1, by omega⟩
    rw [List.range_succ_eq_map, List.map_cons] at e
    exact ⟨_, e⟩
  subst e
  rw [R.ents] at p
  have go : ∀ (l : List Rg) (vs : List V), (∀ r ∈ l, r ∈ rs) → Paired (RgAt S (0 :: zs) 0 H) vs (l.map (·.lab)) → Paired (TolAt H) vs l := fun l => by
    induction l with
    | nil => exact fun vs _ p => by cases p; exact .nil
    | cons r l ih =>
      intro vs hm p
      have hr := hm r List.mem_cons_self
      have ok := R.ok r hr
      cases p with
      | cons q p =>
        refine .cons ?_ (ih _ (fun x hx => hm x (List.mem_cons_of_mem _ hx)) p)
        obtain ⟨T, v1, v2, r1, r2, rfl, h1, h2, ⟨A, rfl, h3⟩, h4, B, rfl, h5⟩ := q
        have er := R.reg r hr
        rw [F.nameSet] at h2
        cases h2
        rw [er] at h1 h4
        rw [F.nameSrc ok.2.2.1 ok.2.2.2.1] at h4
        cases h4
        refine ⟨T, A, B, rfl, h1, h3, ?_⟩
        rw [h5]
        show some (HO.tup [.int 0, .int ((r.src.toNat : Nat) : Int)]) = _
        rw [show ((r.src.toNat : Nat) : Int) = r.src by have := ok.2.2.1; omega]
  exact go rs vs (fun _ h => h) p
end
/-! the arrivals and the waits -/
theorem mem_noticeQ {reg : Int → Reg} {s x : Int} : ∀ {ls qs : List Int}, x ∈ noticeQ reg s ls qs ↔ x ∈ qs ∨ (x ∈ ls ∧ (reg x).src = s ∧ (reg x).armed = true)
  | [], qs => ⟨.inl, fun h => h.elim id fun z => absurd z.1 List.not_mem_nil⟩
  | l :: ls, qs => by
    show x ∈ noticeQ reg s ls (if (reg l).src = s ∧ (reg l).armed = true then qAdd l qs else qs) ↔ _
    rw [mem_noticeQ]
    by_cases h : (reg l).src = s ∧ (reg l).armed = true
    · rw [if_pos h, mem_qAdd, List.mem_cons]
      constructor
      · rintro ((z | z) | z)
        · exact .inr ⟨.inl z, by rw [z]; exact h⟩
        · exact .inl z
        · exact .inr ⟨.inr z.1, z.2⟩
      · rintro (z | ⟨z | z, y⟩)
        · exact .inl (.inr z)
        · exact .inl (.inl z)
        · exact .inr ⟨z, y⟩
    · rw [if_neg h, List.mem_cons]
      constructor
      · rintro (z | z)
        · exact .inl z
        · exact .inr ⟨.inr z.1, z.2⟩
      · rintro (z | ⟨z | z, y⟩)
        · exact .inl z
        · exact absurd (by rw [← z]; exact y) h
        · exact .inr ⟨z, y⟩
theorem nodup_noticeQ {reg : Int → Reg} {s : Int} : ∀ {ls qs : List Int}, qs.Nodup → (noticeQ reg s ls qs).Nodup
  | [], qs, h => h
  | l :: ls, qs, h => by
    show (noticeQ reg s ls (if (reg l).src = s ∧ (reg l).armed = true then qAdd l qs else qs)).Nodup
    refine nodup_noticeQ ?_
    split
    · exact qAdd_nodup h
    · exact h
def levels (reg : Int → Reg) (qs : List Int) : List Int := qs.filter fun l => decide ((reg l).word = "level")
/-- behind the arrivals of the sources up to j -/
structure Warm (S : Sys) (j : Nat) : Prop where
  on : ∀ t : Int, 1 ≤ t → t ≤ (j : Int) → S.unit t = (1, false)
  off : ∀ t : Int, (j : Int) < t → S.unit t = (0, false)
  nd : (S.que 0).Nodup
  que : ∀ l, l ∈ S.que 0 ↔ l ∈ S.ents 0 ∧ (S.reg 0 l).src ≤ (j : Int)
section
variable {S S' : Sys} {m : Tbs} {rs : List Rg} {np turn : Nat}
theorem Warm.start (F : Fit np S m) (Z : Cold S) (R : RgF S rs turn) : Warm S 0 := by
  refine ⟨fun t h1 h2 => by omega, fun t _ => Z.unit t, by rw [Z.que]; exact List.nodup_nil, fun l => ?_⟩
  rw [Z.que]
  refine ⟨fun h => absurd h List.not_mem_nil, fun ⟨h1, h2⟩ => ?_⟩
  rw [R.ents] at h1
  obtain ⟨r, hr, rfl⟩ := List.mem_map.mp h1
  rw [R.reg r hr] at h2
  have := R.ok r hr
  have h2 : r.src ≤ ((0 : Nat) : Int) := h2
  omega
theorem Warm.next {j : Nat} (F : Fit np S m) (h : Warm S j) (R : RgF S rs turn) : Warm (arrived S ((j : Int) + 1) 1) (j + 1) := by
  have eu : ∀ t : Int, (arrived S ((j : Int) + 1) 1).unit t = if t = (j : Int) + 1 then ((S.unit ((j : Int) + 1)).1 + 1, false) else S.unit t := fun t => rfl
  have eq : (arrived S ((j : Int) + 1) 1).que 0 = noticeQ (S.reg 0) ((j : Int) + 1) (S.ents 0) (S.que 0) := by
    show (if (0 : Int) ∈ S.sets then _ else _) = _
    rw [if_pos (by rw [F.sets]; exact List.mem_singleton.mpr rfl)]
    rfl
  refine ⟨fun t h1 h2 => ?_, fun t h1 => ?_, by rw [eq]; exact nodup_noticeQ h.nd, fun l => ?_⟩
  · rw [eu]
    by_cases z : t = (j : Int) + 1
    · rw [if_pos z, h.off _ (by omega)]
      rfl
    · rw [if_neg z]
      exact h.on t h1 (by omega)
  · rw [eu, if_neg (by omega)]
    exact h.off t (by omega)
  · rw [eq, mem_noticeQ, h.que]
    show _ ↔ l ∈ S.ents 0 ∧ (S.reg 0 l).src ≤ _
    constructor
    · rintro (⟨z, y⟩ | ⟨z, y, _⟩)
      · exact ⟨z, by omega⟩
      · exact ⟨z, by omega⟩
    · rintro ⟨z, y⟩
      by_cases e : (S.reg 0 l).src = (j : Int) + 1
      · refine .inr ⟨z, e, ?_⟩
        rw [R.ents] at z
        obtain ⟨r, hr, rfl⟩ := List.mem_map.mp z
        rw [R.reg r hr]
      · exact .inl ⟨z, by omega⟩
theorem Warm.perm (h : Warm S 4) (R : RgF S rs turn) : (S.que 0).Perm (rs.map (·.lab)) := by
  rw [List.perm_ext_iff_of_nodup h.nd R.nd]
  intro l
  rw [h.que, R.ents]
  refine ⟨fun z => z.1, fun z => ⟨z, ?_⟩⟩
  obtain ⟨r, hr, rfl⟩ := List.mem_map.mp z
  rw [R.reg r hr]
  have := R.ok r hr
  show r.src ≤ ((4 : Nat) : Int)
  omega
/-- a wait of one -/
theorem took_one {l : Int} {qs : List Int} (hq : S.que 0 = l :: qs) (hu : S.unit (S.reg 0 l).src = (1, false)) (hw : (S.reg 0 l).word ≠ "once") :
    took S 0 1 = ⟨[(l, 1, false)], if (S.reg 0 l).word = "level" then qs ++ [l] else qs, S.reg 0⟩ := by
  unfold took
  rw [hq]
  have e1 : takeStep S.unit ⟨[], l :: qs, S.reg 0⟩ l = ⟨[(l, 1, false)], if (S.reg 0 l).word = "level" then qs ++ [l] else qs, S.reg 0⟩ := by
    unfold takeStep
    dsimp only
    rw [hu]
    have es : settled (S.reg 0) l = S.reg 0 := funext fun j => settled_no hw
    rw [es]
    rfl
  show (if (([] : List (Int × Int × Bool)).length : Int) = 1 then _ else takeAll S.unit 1 qs (takeStep S.unit ⟨[], l :: qs, S.reg 0⟩ l)) = _
  rw [if_neg (by decide), e1]
  cases qs with
  | nil => rfl
  | cons a b => rfl
end
/-! _law_is_level -/
theorem strs_lay : ∀ l : List Str, (∀ x ∈ l, x ∈ wordsL) → PyData.canLayAll0 (l.map PyData.str) = true ∧ PyData.depthAll (l.map PyData.str) = 0
  | [], _ => ⟨rfl, rfl⟩
  | c :: l, h => by
    obtain ⟨a, b⟩ := strs_lay l fun x hx => h x (List.mem_cons_of_mem _ hx)
    refine ⟨?_, ?_⟩
    · simp only [List.map_cons, PyData.canLayAll0, a, Bool.and_true, PyData.canLay0]
      exact word_ok (h c List.mem_cons_self)
    · simp only [List.map_cons, PyData.depthAll, b, PyData.depth]
      rfl
theorem strs_shaped {l : List Str} (h : ∀ x ∈ l, x ∈ wordsL) : SeqAt.shaped (.list (l.map PyData.str)) = true := by
  obtain ⟨a, b⟩ := strs_lay l h
  unfold SeqAt.shaped
  rw [Bool.and_eq_true]
  refine ⟨by simp only [PyData.canLay0]; exact a, decide_eq_true ?_⟩
  simp only [PyData.depth, b]
  decide
theorem dp_strs {K : PySem.W.Frag} {H : Hp} : ∀ l : List Str, DpAll K H (l.map V.str) (l.map PyData.str)
  | [] => .nil
  | _ :: l => .cons (.str _) (dp_strs l)
theorem strs_level : ∀ l : List Str, PyData.eqv (.list (l.map PyData.str)) (.list [.str "level"]) = decide (l = [("level" : Str)])
  | [] => rfl
  | [a] => by
    simp only [List.map_cons, List.map_nil, PyData.eqv, PyData.eqvAll, Bool.and_true]
    by_cases h : a = "level"
    · rw [h, decide_eq_true rfl]
      exact beq_self_eq_true _
    · rw [decide_eq_false (fun z : [a] = [("level" : Str)] => h (List.cons.inj z).1)]
      exact beq_eq_false_iff_ne.mpr h
  | a :: b :: l => by
    rw [decide_eq_false (fun z : a :: b :: l = [("level" : Str)] => by cases z)]
    simp only [List.map_cons, PyData.eqv, PyData.eqvAll, Bool.and_false]
theorem lab_filter {r : Rg} : ∀ {l : List Rg}, (l.map (·.lab)).Nodup → r ∈ l → (l.filter fun q => decide (q.lab = r.lab)) = [r]
  | x :: l, nd, h => by
    obtain ⟨nx, nd2⟩ := List.nodup_cons.mp nd
    rcases List.mem_cons.mp h with z | z
    · subst z
      rw [List.filter_cons, if_pos (decide_eq_true rfl)]
      refine congrArg _ (List.filter_eq_nil_iff.mpr fun q hq y => nx ?_)
      have y := of_decide_eq_true y
      exact List.mem_map.mpr ⟨q, hq, y⟩
    · have ne : x.lab ≠ r.lab := fun y => nx (List.mem_map.mpr ⟨r, z, y.symm⟩)
      rw [List.filter_cons, if_neg (by rw [decide_eq_false ne]; intro z; cases z)]
      exact lab_filter nd2 z
section
variable {P : Program} {w : World} {K : PySem.W.Frag} {mg : Str → Option Value} {base : Heap} {C : Cs}
def spIsLevel : Sp := fun vs H Q _ => ∃ (R : Addr) (l : Int) (ws : List V) (rs : List Rg), vs = [.ref R, .int l] ∧ H R = some (.lst ws) ∧ Paired (RgT H) ws rs ∧ rs.length ≤ 1000 ∧ (∀ r ∈ rs, r.word ∈ wordsL) ∧
  ∀ H', Same H H' → Q (.bl (decide ((rs.filter fun q => decide (q.lab = l)).map (·.word) = [("level" : Str)]))) H'
abbrev nIsLevel : List Str := ["_law_regs", "_law_label", "_law_reg"]
theorem scIsLevel : FnScope nIsLevel ["_law_regs", "_law_label"] (defScope sIsLevel) := ⟨rfl, rfl, rfl, by decide +kernel, rfl, by decide +kernel, by decide +kernel⟩
theorem okIsLevel {f : Addr} {fd : FuncData} (F : Fun K "_law_is_level" "_law_is_level" sIsLevel f fd) : FnOk P w K mg base CX0 1 f fd ["_law_regs", "_law_label"] spIsLevel := by
  refine F.ok scIsLevel (fun vs H Q E h => ?_) (fun cdv A outer s H vs Q E hr h => ?_)
  · obtain ⟨_, _, _, _, rfl, _⟩ := h
    rfl
  · obtain ⟨R, l, ws, rs, rfl, hR, pr, hl, hw, k⟩ := h
    have hu := hr.units
    have wl := paired_len pr
    refine ⟨_, pss_one (ps_ret (pe_cmpR (op_eqD hu) (pe_lc (own := [("_law_reg", 2)]) (g := gName 2) (tt := tTest (tOp rEq (tOp (rIxT K) (tVar 2) (tC (.int 2))) (tVar 1))) (te := tOp (rIxT K) (tVar 2) (tC (.int 3))) rfl scIsLevel.nd (pi_list (pv 0)) (blkOk_by (N := nIsLevel) (sc := defScope sIsLevel) (by decide +kernel)) (fun _ _ _ _ _ => pg_name (i := 2) scIsLevel.nd rfl (Or.inl rfl))
      (fun _ _ _ _ _ => pts_one (pt_cmpR op_eq (pe_ix ix_tup (pv 2) pe_int (fun _ _ => rfl)) (pv 1) (nomark _))) (fun _ _ _ _ _ => pe_ix ix_tup (pv 2) pe_int (fun _ _ => rfl))) (pe_lst (pa_cons pe_str pa_nil)) (nomark _))), ?_⟩
    walk_at "wn"
    unfold tLc iList
    walk_at "wn"
    refine ⟨R, rfl, ⟨_, SqL.of hR⟩, fun D hD => ?_⟩
    refine lc_list (K := K) (a := R) (xs := ws) (fun i H' => Same H H' ∧ H' D = some (.lst ((((rs.take i).filter fun q => decide (q.lab = l)).map (·.word)).map V.str))) ⟨Same.new' hD, upd_same⟩ (fun i H' _ h => SqL.of (h.1 _ _ hR)) ?_ ?_
    · rintro i v H1 hv ⟨sm, hd⟩
      obtain ⟨r, er, t1, rfl, ht1⟩ := paired_at pr hv
      have ht2 := sm _ _ ht1
      have fl := List.length_filter_le (fun q : Rg => decide (q.lab = l)) (rs.take i)
      rw [List.length_take] at fl
      rw [show rs.take (i + 1) = rs.take i ++ [r] by rw [List.take_add_one, er]; rfl, List.filter_append, List.filter_cons, List.filter_nil]
      refine ⟨rfl, ?_⟩
      walk_at "wn"
      refine ⟨t1, _, 2, .int r.lab, rfl, rfl, SqT.of ht2, rfl, ?_⟩
      walk_at "wn"
      by_cases hc : r.lab = l
      · have e : (if decide (r.lab = l) = true then [r] else []) = [r] := if_pos (decide_eq_true hc)
        rw [e, decide_eq_true (show V.int r.lab = V.int l by rw [hc])]
        walk_at "wn"
        refine ⟨t1, _, 3, .str r.word, rfl, rfl, SqT.of ht2, rfl, ?_⟩
        refine ⟨_, hd, by rw [List.length_map, List.length_map, sizeLine_eq]; omega, fun b o e => ?_, by rw [upd_same, List.map_append, List.map_append]; rfl⟩
        rw [upd_ne (ne_of_none e hD)]
        exact sm _ _ e
      · have e : (if decide (r.lab = l) = true then [r] else []) = ([] : List Rg) := if_neg (by rw [decide_eq_false hc]; exact Bool.noConfusion)
        rw [e, List.append_nil, decide_eq_false (fun z => hc (V.int.inj z))]
        walk_at "wn"
        exact ⟨sm, hd⟩
    · rintro H1 ⟨sm, hd⟩
      rw [wl, List.take_length] at hd
      walk_at "wn"
      refine ⟨by show 1 ≤ sizeLine; decide, fun z hz => ?_⟩
      have sz := Same.new' (o := .lst [.str "level"]) hz
      have hw2 : ∀ x ∈ (rs.filter fun q => decide (q.lab = l)).map (·.word), x ∈ wordsL := fun x hx => by
        obtain ⟨r, hr, rfl⟩ := List.mem_map.mp hx
        exact hw r (List.mem_filter.mp hr).1
      refine ⟨_, _, .lst (SqL.of (sz _ _ hd)) (dp_strs _), .lst (SqL.of upd_same) (.cons (.str _) .nil), strs_shaped hw2, strs_shaped (l := [("level" : Str)]) (by decide), ?_⟩
      rw [strs_level]
      exact k _ (sm.trans sz)
end

abbrev nLaw : List Str := ["_law_script", "_law_at", "_law_bag_here", "_law_box", "_law_tables", "_law_regs", "_law_turn", "_law_found", "_law_due", "_law_source", "_law_told", "_law_shown", "_law_n", "_law_label", "_law_term", "_law_report", "_law_one"]
theorem scLaw : FnScope nLaw ["_law_script"] (defScope sLaw) := ⟨rfl, rfl, rfl, by decide +kernel, rfl, by decide +kernel, by decide +kernel⟩
theorem agree_data {K : PySem.W.Frag} {H : Hp} {v1 v2 : V} (h : Agree H v1 v2) : ∃ d, Dp K H v1 d ∧ Dp K H v2 d ∧ okR d = true ∧ d.depth ≤ 40 ∧ wt d ≤ 16777216 := by
  cases h with
  | non => exact ⟨.none, .non, .non, rfl, by decide, by decide⟩
  | err wd l1 l2 n hw n0 n1 h1 h2 =>
    have hw2 : okR (.str wd) = true ∧ wd.length ≤ 20 := by
      unfold errW at hw
      simp only [List.mem_cons, List.not_mem_nil, or_false] at hw
      rcases hw with z | z <;> rw [z] <;> exact ⟨by decide +kernel, by decide⟩
    obtain ⟨hw3, hl⟩ := hw2
    refine ⟨.list [.str wd, .int n], .lst (SqL.of h1) (.cons (.str _) (.cons (.int n) .nil)), .lst (SqL.of h2) (.cons (.str _) (.cons (.int n) .nil)), ?_, ?_, ?_⟩
    · have e := (small_int n0 n1).1
      simp only [okR] at hw3
      simp only [okR, okRA, Bool.and_true, Bool.and_eq_true]
      exact ⟨hw3, decide_eq_true e⟩
    · simp [PyData.depth, PyData.depthAll]
    · simp only [wt, wtA]
      omega
theorem ints_refl (l : List Int) : PyData.eqv (.list (l.map PyData.int)) (.list (l.map PyData.int)) = true := by
  refine SeqAt.eqv_refl_plain _ (PyData.plain_of_canLay0 _ ?_)
  simp only [PyData.canLay0]
  exact (ints_lay l).1
/-- the heap at the law's waits -/
inductive Wq (C : Cs) (T : List (Addr × Str)) (Hb : Hp) (a : Pl) (np : Nat) (m : Tbs) (R : Addr) (rs : List Rg) (Ls tl : Addr) (told : List Int) (S : Sys) (ad dx : Cell → Addr) (H : Hp) : Prop
  | mk {O : Hp} : LW C T Hb a.x H S ad dx O → Pic O a np np m (some (R, rs)) → O Ls = some (.lst ((rs.map (·.lab)).map V.int)) → O tl = some (.lst (told.map V.int)) → a.p ≠ Ls → a.p ≠ tl → Wq C T Hb a np m R rs Ls tl told S ad dx H
section
variable {C : Cs} {T : List (Addr × Str)} {Hb H H' H2 : Hp} {a : Pl} {np : Nat} {S S' : Sys} {ad ad' dx dx' : Cell → Addr} {m : Tbs} {R Ls tl tl' : Addr} {rs : List Rg} {told told' : List Int}
theorem Wq.mid (W : Wq C T Hb a np m R rs Ls tl told S ad dx H) : Mid C T Hb a np np H S ad dx m (some (R, rs)) := by
  cases W with
  | mk W P _ _ _ _ => exact .mk W P
theorem Wq.ls (W : Wq C T Hb a np m R rs Ls tl told S ad dx H) : H Ls = some (.lst ((rs.map (·.lab)).map V.int)) := by
  cases W with
  | mk W P h1 h2 _ _ => exact W.on _ _ h1
theorem Wq.got (W : Wq C T Hb a np m R rs Ls tl told S ad dx H) : H tl = some (.lst (told.map V.int)) := by
  cases W with
  | mk W P h1 h2 _ _ => exact W.on _ _ h2
theorem Wq.same (W : Wq C T Hb a np m R rs Ls tl told S ad dx H) (s : Same H H') : Wq C T Hb a np m R rs Ls tl told S ad dx H' := by
  cases W with
  | mk W P h1 h2 n1 n2 => exact .mk (W.same s) P h1 h2 n1 n2
theorem Wq.step (W : Wq C T Hb a np m R rs Ls tl told S ad dx H) (A : At C H' S' ad' dx') (st : Step H S ad H' S' ad') : Wq C T Hb a np m R rs Ls tl told S' ad' dx' H' := by
  cases W with
  | mk W P h1 h2 n1 n2 => exact .mk (W.step A st) P h1 h2 n1 n2
theorem Wq.draw (W : Wq C T Hb a np m R rs Ls tl told S ad dx H) (e : ∀ b, b ≠ a.p → H' b = H b) (bg : BagAt H' a.p) : Wq C T Hb a np m R rs Ls tl told S ad dx H' := by
  cases W with
  | mk W P h1 h2 n1 n2 =>
    obtain ⟨xs, b, W1⟩ := W.draw P.bag e bg
    exact .mk W1 (P.draw b) ((upd_ne (Ne.symm n1)).trans h1) ((upd_ne (Ne.symm n2)).trans h2) n1 n2
theorem Wq.new (W : Wq C T Hb a np m R rs Ls tl told S ad dx H) (hd : H tl' = none) (h : H' tl' = some (.lst (told'.map V.int))) (s : Same H H') : Wq C T Hb a np m R rs Ls tl' told' S ad dx H' := by
  have pt : a.p ≠ tl' := fun z => by
    obtain ⟨xs, e⟩ := W.mid.bag.lst
    rw [z, hd] at e
    cases e
  cases W with
  | mk W P h1 h2 n1 n2 =>
    have f := W.fresh hd
    exact .mk (W.new hd (lst_tc (b := tl')).1 lst_tc.2 h s) (P.new f) ((upd_ne (ne_of_none h1 f)).trans h1) upd_same n1 pt
theorem Wq.start (W : Mid C T Hb a np np H S ad dx m (some (R, rs))) (hd : H Ls = none) (s : Same H H') (h : H' Ls = some (.lst ((rs.map (·.lab)).map V.int))) (hd2 : H' tl = none) (h2 : H2 tl = some (.lst (told.map V.int))) (s2 : Same H' H2) : Wq C T Hb a np m R rs Ls tl told S ad dx H2 := by
  have pt : a.p ≠ Ls := fun z => by
    obtain ⟨xs, e⟩ := W.bag.lst
    rw [z, hd] at e
    cases e
  have pt2 : a.p ≠ tl := fun z => by
    obtain ⟨xs, e⟩ := W.bag.lst
    have e := s _ _ e
    rw [z, hd2] at e
    cases e
  cases W with
  | mk W P =>
    have f := W.fresh hd
    have W1 := W.new hd (lst_tc (b := Ls)).1 lst_tc.2 h s
    have f2 := W1.fresh hd2
    exact .mk (W1.new hd2 (lst_tc (b := tl)).1 lst_tc.2 h2 s2) ((P.new f).new f2) ((upd_ne (ne_of_none upd_same f2)).trans upd_same) upd_same pt pt2
end
theorem Fit.meansSrc {np : Nat} {S : Sys} {m : Tbs} (F : Fit np S m) {t : Int} (t1 : 1 ≤ t) (t4 : t ≤ 4) : Means S 0 t t := ⟨F.mem (i := 0) F.np1, by omega, by rw [F.N]; omega, F.srcAt t1 t4⟩
theorem Warm.len {S : Sys} {rs : List Rg} {turn j : Nat} (W : Warm S j) (R : RgF S rs turn) : (S.que 0).length ≤ turn := range_sub turn _ W.nd fun n hn => by
  have h := ((W.que n).mp hn).1
  rw [R.ents] at h
  obtain ⟨r, hr, rfl⟩ := List.mem_map.mp h
  have ok := R.ok r hr
  exact ⟨ok.2.2.2.2.1, ok.2.2.2.2.2.1⟩
/-- the waits, behind the first j of what was waiting -/
structure Wt (q0 : List Int) (S : Sys) (j : Nat) : Prop where
  que : S.que 0 = q0.drop j ++ levels (S.reg 0) (q0.take j)
  on : ∀ t : Int, 1 ≤ t → t ≤ 4 → S.unit t = (1, false)
theorem Wt.start {S : Sys} (h : Warm S 4) : Wt (S.que 0) S 0 := ⟨(List.append_nil _).symm, h.on⟩
theorem lv_step {reg : Int → Reg} {q0 : List Int} {j : Nat} {l : Int} (hj : q0[j]? = some l) : levels reg (q0.take (j + 1)) = levels reg (q0.take j) ++ (if (reg l).word = "level" then [l] else []) := by
  unfold levels
  rw [List.take_add_one, hj, Option.toList_some, List.filter_append, List.filter_cons, List.filter_nil]
  congr 1
  by_cases h : (reg l).word = "level"
  · rw [if_pos h, if_pos (decide_eq_true h)]
  · rw [if_neg h, if_neg (by rw [decide_eq_false h]; exact Bool.noConfusion)]
theorem Wt.at_ {q0 : List Int} {S : Sys} {j : Nat} {l : Int} (W : Wt q0 S j) (hj : q0[j]? = some l) : S.que 0 = l :: (q0.drop (j + 1) ++ levels (S.reg 0) (q0.take j)) := by
  obtain ⟨h1, h2⟩ := List.getElem?_eq_some_iff.mp hj
  rw [W.que, List.drop_eq_getElem_cons h1, h2]
  rfl
theorem wait_reg {S : Sys} {l : Int} {qs : List Int} {a : List (Int × Int × Bool)} (e : took S 0 1 = ⟨a, qs, S.reg 0⟩) : (waited S 0 1).reg = S.reg := funext fun i => by
  show (if i = 0 then (took S 0 1).reg else S.reg i) = _
  rw [e]
  split
  · rename_i h
    rw [h]
  · rfl
theorem Wt.next {np : Nat} {S : Sys} {rs : List Rg} {q0 : List Int} {j : Nat} {l : Int} (W : Wt q0 S j) (hj : q0[j]? = some l) (e : took S 0 1 = ⟨[(l, 1, false)], if (S.reg 0 l).word = "level" then (q0.drop (j + 1) ++ levels (S.reg 0) (q0.take j)) ++ [l] else q0.drop (j + 1) ++ levels (S.reg 0) (q0.take j), S.reg 0⟩) : Wt q0 (waited S 0 1) (j + 1) := by
  refine ⟨?_, W.on⟩
  rw [wait_reg (l := l) e, lv_step hj]
  show (if (0 : Int) = 0 then (took S 0 1).que else S.que 0) = _
  rw [if_pos rfl, e]
  dsimp only
  split
  · rw [List.append_assoc]
  · rw [List.append_nil]
theorem is_level {S : Sys} {rs : List Rg} {turn : Nat} {l : Int} (R : RgF S rs turn) (h : l ∈ rs.map (·.lab)) : decide ((rs.filter fun q => decide (q.lab = l)).map (·.word) = [("level" : Str)]) = decide ((S.reg 0 l).word = "level") := by
  obtain ⟨r, hr, rfl⟩ := List.mem_map.mp h
  rw [lab_filter R.nd hr, R.reg r hr]
  refine decide_eq_decide.mpr ⟨fun z => (List.cons.inj z).1, fun z => ?_⟩
  show [r.word] = _
  rw [show r.word = "level" from z]
section
variable {P : Program} {w : World} {K : PySem.W.Frag} {mg : Str → Option Value} {base : Heap} {C : Cs}
def spLaw (K : PySem.W.Frag) (Pt : Addr) : Sp := fun vs H Q _ => ∃ (a : Addr) (ns : List Int), vs = [.ref a] ∧ SqL K H a (ns.map V.int) ∧ ns.length ≤ 63 ∧ H Pt = some (.tbl #[]) ∧ ∀ H', Q (.bl true) H'
theorem okLaw {Pt f fB fT fHm fDn fIs fAr fW fRo fRg : Addr} {fd fdB fdT fdHm fdDn fdIs fdAr fdW fdRo fdRg : FuncData} {dsR dsW : List Value} (F : Fun K "law" "law" sLaw f fd) (X : LawTx mg) (T : ClsF K C.S sysF) (nWR : C.W ≠ C.R)
    (GB : DO P w K mg base 1 "_law_bag" ["_law_script", "_law_at"] (spBag K) fB fdB) (GT : DO P w K mg base 1 "_law_take" ["_law_bag_here", "_law_many"] spTake fT fdT)
    (GH : DO P w K mg base 7 "_law_home" ["_law_bag_here"] (spHome C [(Pt, qDone)]) fHm fdHm)
    (GD : DO P w K mg base 9 "_law_done" pDone (spDone C [(Pt, qDone)]) fDn fdDn)
    (GI : DO P w K mg base 1 "_law_is_level" ["_law_regs", "_law_label"] spIsLevel fIs fdIs)
    (gAr : FnOk P w K mg base CX0 6 fAr fdAr ["self", "process", "number", "many"] (spArrive C)) (mAr : Meth K C.S "arrive" fAr) (bAr : Binds K fdAr ["self", "process", "number", "many"] dsR) (dAr : Vals [.int 1] dsR)
    (gW : FnOk P w K mg base CX0 6 fW fdW ["self", "process", "set_number", "most"] (spWait C)) (mW : Meth K C.S "wait" fW) (bW : Binds K fdW ["self", "process", "set_number", "most"] dsW) (dW : Vals [.int 1] dsW)
    (GRo : MO P w K mg base 6 C.S "row_of" ["self", "process", "set_number"] (spRowOf C) fRo fdRo)
    (GR : MO P w K mg base 3 C.S "registrations" ["self"] (spRegistrations C) fRg fdRg) :
    FnG P w K mg base CX0 10 f fd ["_law_script"] (spLaw K Pt) := by
  refine okG F scLaw (fun vs H Q E h => ?_) (fun cdv A outer s H vs Q E hr hg h => ?_)
  · obtain ⟨x, _, rfl, _⟩ := h
    rfl
  · obtain ⟨a, ns, rfl, hS, hl, hP, k⟩ := h
    have hu := hr.units
    have hu1 := hu_of hr
    have r1 : Room 1 _ := hr.mono (by decide)
    have r3 : Room 3 _ := hr.mono (by decide)
    have r6 : Room 6 _ := hr.mono (by decide)
    have r7 : Room 7 _ := hr.mono (by decide)
    have hg' : (A.deeper (envOfC "law" (defScope sLaw) s.heap.objs.size f cdv)).guards = some [] := hg
    refine ⟨_, PSs.nox (pss_cut (ps_for PassesOwn.never rfl (pi_range1 (by rfl) X.range (pa_cons (pe_callB (cMax2 rfl) (by rfl) X.max (by decide +kernel) (pa_cons pe_int (pa_cons (pe_callB (cMin2 rfl) (by rfl) X.min (by decide +kernel) (pa_cons pe_int (pa_cons (pe_callB cLenQ (by rfl) X.len PySem.boot_len (pa_cons (pv 0) pa_nil)) pa_nil))) pa_nil))) pa_nil)) (pg_name (i := 1) scLaw.nd rfl (Or.inl rfl))
      (pss_cut (ps_set (i := 2) scLaw.nd rfl (Or.inl rfl) (pe_call GB.g r1 (by rfl) GB.m GB.k GB.b .nil pass0 (pa_cons (pv 0) (pa_cons (pv 1) pa_nil))))
      (pss_cut (ps_asg (pe_call GH.g r7 (by rfl) GH.m GH.k GH.b .nil pass0 (pa_cons (pv 2) pa_nil)) (pg_tup rfl (pgs_cons (pg_name (i := 3) scLaw.nd rfl (Or.inl rfl)) (pgs_cons (pg_name (i := 4) scLaw.nd rfl (Or.inl rfl)) pgs_nil))))
      (pss_cut (ps_set (i := 5) scLaw.nd rfl (Or.inr rfl) (pe_lst pa_nil))
      (pss_cut (ps_for PassesOwn.never rfl (pi_range1 (by rfl) X.range (pa_cons pe_int pa_nil)) (pg_name (i := 6) scLaw.nd rfl (Or.inl rfl))
        (pss_cut (ps_asg (pe_call GD.g hr (by rfl) GD.m GD.k GD.b .nil pass0 (pa_cons (pv 2) (pa_cons (pv 3) (pa_cons (pv 4) (pa_cons (pv 5) (pa_cons (pv 6) pa_nil)))))) (pg_unl rfl (pgs_cons (pg_name (i := 7) scLaw.nd rfl (Or.inl rfl)) (pgs_cons (pg_name (i := 8) scLaw.nd rfl (Or.inl rfl)) pgs_nil))))
        (pss_cut (ps_if (pt_cmpR op_ne (pe_callB (cRepr hg' hu) (by rfl) X.repr PyProof.Rows.boot_repr (pa_cons (pv 7) pa_nil)) (pe_callB (cRepr hg' hu) (by rfl) X.repr PyProof.Rows.boot_repr (pa_cons (pv 8) pa_nil)) (nomark _)) (pss_one (ps_ret pe_bl)) pss_nil)
        (pss_cut (ps_setLc (i := 10) (own := [("_law_n", 12), ("_law_source", 9), ("_law_label", 13), ("_law_term", 14)]) (g := gTup K 4 (gCons (gName 12) (gCons (gName 9) (gCons (gName 13) (gCons (gName 14) gNil))))) (tt := tYes) (te := tTup (tCons (tTup (tCons (tC (.int 0)) (tCons (tC (.int 0)) tNil))) (tCons (tVar 13) (tCons (tVar 12) (tCons (tTup (tCons (tC (.int 0)) (tCons (tVar 9) tNil))) (tCons (tVar 14) (tCons (tC (.bl true)) tNil))))))) rfl scLaw.nd rfl rfl rfl (pi_list (pv 5)) (blkOk_by (N := nLaw) (sc := defScope sLaw) (by decide +kernel))
          (fun _ _ _ _ _ => pg_tup rfl (pgs_cons (pg_name (i := 12) scLaw.nd rfl (Or.inl rfl)) (pgs_cons (pg_name (i := 9) scLaw.nd rfl (Or.inl rfl)) (pgs_cons (pg_name (i := 13) scLaw.nd rfl (Or.inl rfl)) (pgs_cons (pg_name (i := 14) scLaw.nd rfl (Or.inl rfl)) pgs_nil))))) (fun _ _ _ _ _ => pts_nil)
          (fun _ _ _ _ _ => pe_tup (pa_cons (pe_tup (pa_cons pe_int (pa_cons pe_int pa_nil))) (pa_cons (pv 13) (pa_cons (pv 12) (pa_cons (pe_tup (pa_cons pe_int (pa_cons (pv 9) pa_nil))) (pa_cons (pv 14) (pa_cons pe_bl pa_nil))))))))
        (pss_one (ps_if (pt_cmpR (op_neD hu) (pe_meth0 (pv 3) T.cl GR.m GR.g r3 GR.b .nil pass0) (pv 10) (nomark _)) (pss_one (ps_ret pe_bl)) pss_nil))))))
      (pss_cut (ps_for PassesOwn.never rfl (pi_range2 (by rfl) X.range (pa_cons pe_int (pa_cons pe_int pa_nil))) (pg_name (i := 9) scLaw.nd rfl (Or.inl rfl))
        (pss_one (ps_expr (pe_meth (pv 3) T.cl mAr gAr r6 bAr dAr pass0 (pa_cons pe_int (pa_cons (pv 9) pa_nil))))))
      (pss_cut (ps_setLc (i := 11) (own := [("_law_n", 12), ("_law_source", 9), ("_law_label", 13), ("_law_term", 14)]) (g := gTup K 4 (gCons (gName 12) (gCons (gName 9) (gCons (gName 13) (gCons (gName 14) gNil))))) (tt := tYes) (te := tVar 13) rfl scLaw.nd rfl rfl (sw_true rfl rfl rfl (by decide +kernel)) (pi_list (pv 5)) (blkOk_by (N := nLaw) (sc := defScope sLaw) (by decide +kernel))
          (fun _ _ _ _ _ => pg_tup rfl (pgs_cons (pg_name (i := 12) scLaw.nd rfl (Or.inl rfl)) (pgs_cons (pg_name (i := 9) scLaw.nd rfl (Or.inl rfl)) (pgs_cons (pg_name (i := 13) scLaw.nd rfl (Or.inl rfl)) (pgs_cons (pg_name (i := 14) scLaw.nd rfl (Or.inl rfl)) pgs_nil))))) (fun _ _ _ _ _ => pts_nil) (fun _ _ _ _ _ => pv 13))
      (pss_cut (ps_set (i := 10) scLaw.nd rfl (Or.inl rfl) (pe_lst pa_nil))
      (pss_cut (ps_for PassesOwn.never rfl (pi_range1 (by rfl) X.range (pa_cons (pe_callB cLenQ (by rfl) X.len PySem.boot_len (pa_cons (pv 11) pa_nil)) pa_nil)) (pg_name (i := 6) scLaw.nd rfl (Or.inl rfl))
        (pss_one (ps_set (i := 10) scLaw.nd rfl (Or.inl rfl) (pe_op op_cat (pv 10) (pe_lc (own := [("_law_report", 15)]) (g := gName 15) (tt := tYes) (te := tOp (rIxT K) (tVar 15) (tC (.int 0))) rfl scLaw.nd (pi_list (pe_meth (pv 3) T.cl mW gW r6 bW dW pass0 (pa_cons (pe_call GT.g r1 (by rfl) GT.m GT.k GT.b .nil pass0 (pa_cons (pv 2) (pa_cons (pe_callB cLenQ (by rfl) X.len PySem.boot_len (pa_cons (pv 4) pa_nil)) pa_nil))) (pa_cons pe_int pa_nil)))) (blkOk_by (N := nLaw) (sc := defScope sLaw) (by decide +kernel))
          (fun _ _ _ _ _ => pg_name (i := 15) scLaw.nd rfl (Or.inl rfl)) (fun _ _ _ _ _ => pts_nil) (fun _ _ _ _ _ => pe_ix ix_tup (pv 15) pe_int (fun _ _ => rfl)))))))
      (pss_one (ps_if (PW.pt (pw_or (pt_cmpR (op_neD hu) (pe_callB cr_sortedI (by rfl) X.sorted (by decide +kernel) (pa_cons (pv 10) pa_nil)) (pe_callB cr_sortedI (by rfl) X.sorted (by decide +kernel) (pa_cons (pv 11) pa_nil)) (nomark _))
          (pw_or1 (pt_cmpR (op_neD hu) (pe_meth (pv 3) T.cl GRo.m GRo.g r6 GRo.b .nil pass0 (pa_cons pe_int (pa_cons pe_int pa_nil)))
            (pe_lc (own := [("_law_one", 16)]) (g := gName 16) (tt := tB (tCall spIsLevel [] (fun _ _ _ => False) (tCons (tVar 5) (tCons (tVar 16) tNil)))) (te := tVar 16) rfl scLaw.nd (pi_list (pv 10)) (blkOk_by (N := nLaw) (sc := defScope sLaw) (by decide +kernel))
              (fun _ _ _ _ _ => pg_name (i := 16) scLaw.nd rfl (Or.inl rfl)) (fun _ _ _ _ _ => pts_one (pt_val (pe_call GI.g r1 (by rfl) GI.m GI.k GI.b .nil pass0 (pa_cons (pv 5) (pa_cons (pv 16) pa_nil))))) (fun _ _ _ _ _ => pv 16)) (nomark _)))))
        (pss_one (ps_ret pe_bl)) pss_nil))))))))))) (pss_one (ps_ret pe_bl))), ?_⟩
    generalize hTT : [(Pt, qDone)] = TT at GH GD
    have tb0 : Tabs TT H := fun x hx => by
      rw [← hTT] at hx
      obtain rfl := List.mem_singleton.mp hx
      exact TabS.nil hP
    refine ⟨fun σ' H' => Tabs TT H', ?_, fun σ' H' _ => ?_⟩
    · walk_at "wn"
      show iRng1 _ _ _ _
      show tCons _ _ _ _ _
      walk_at "wn"
      refine ⟨a, _, rfl, .inl hS, ?_⟩
      walk_at "wn"
      refine ⟨_, rfl, ?_, ?_, ?_⟩
      · split <;> split <;> omega
      · split <;> split <;> omega
      refine for_range (lo := 0) (fun i σ' H' => ∃ u1 u2 u3 u4 u5 u6 u7 u8 u9 u10 u11 u12 u13 u14 u15 u16 : Option V, σ' = [some (.ref a), u1, u2, u3, u4, u5, u6, u7, u8, u9, u10, u11, u12, u13, u14, u15, u16] ∧ SqL K H' a (ns.map V.int) ∧ Tabs TT H') ⟨_, _, _, _, _, _, _, _, _, _, _, _, _, _, _, _, rfl, hS, tb0⟩ ?_ (fun σ' H' ⟨_, _, _, _, _, _, _, _, _, _, _, _, _, _, _, _, _, _, h⟩ => h)
      rintro i σ' Hb hi ⟨u1, u2, u3, u4, u5, u6, u7, u8, u9, u10, u11, u12, u13, u14, u15, u16, rfl, hSb, tbb⟩
      have hi100 : i ≤ 100 := by revert hi; split <;> split <;> omega
      walk_at "wn"
      refine ⟨fun σ' H' => ∃ p : Addr, σ' = [some (.ref a), some (.int (0 + (i : Int))), some (.ref p), u3, u4, u5, u6, u7, u8, u9, u10, u11, u12, u13, u14, u15, u16] ∧ Hb p = none ∧ Same Hb H' ∧ BagAt H' p, ?_, ?_⟩
      · walk_at "wn"
        refine ⟨a, ns, i, by simp, hSb, hl, hi100, fun H1 p n0 s1 b1 => ?_⟩
        walk_at "wn"
        exact ⟨p, rfl, n0, s1, b1⟩
      rintro σ' H2 ⟨p, rfl, n0, s2, b2⟩
      refine ⟨fun σ' H' => ∃ (x L d : Addr) (np : Nat), σ' = [some (.ref a), some (.int (0 + (i : Int))), some (.ref p), some (.ref x), some (.ref L), u5, u6, u7, u8, u9, u10, u11, u12, u13, u14, u15, u16] ∧ 1 ≤ np ∧ np ≤ 5 ∧ Making C TT Hb p x L d np np H', ?_, ?_⟩
      · walk_at "wn"
        refine ⟨p, Hb, rfl, n0, s2, b2, tbb, fun H' r x L d np hr1 h1 h5 mk => ?_⟩
        refine ⟨r, _, rfl, SqT.of hr1, rfl, _, _, rfl, ?_⟩
        walk_at "wn"
        refine ⟨_, _, rfl, ?_⟩
        walk_at "wn"
        refine ⟨rfl, ?_⟩
        walk_at "wn"
        exact ⟨x, L, d, np, rfl, h1, h5, mk⟩
      rintro σ' H3 ⟨x, L, d, np, rfl, np1, np5, mk3⟩
      refine ⟨fun σ' H' => ∃ R : Addr, σ' = [some (.ref a), some (.int (0 + (i : Int))), some (.ref p), some (.ref x), some (.ref L), some (.ref R), u6, u7, u8, u9, u10, u11, u12, u13, u14, u15, u16] ∧ Doing C TT Hb p x L R np 0 H', ?_, ?_⟩
      · walk_at "wn"
        refine ⟨Nat.zero_le _, fun R hR => ?_⟩
        cases mk3 with
        | mk q1 q2 q3 _ W F Z R0 =>
        walk_at "wn"
        exact ⟨R, rfl, .mk q1 q2 q3 (W.newRs hR upd_same (Same.new' hR)) F Z R0 (Nat.le_refl _)⟩
      clear mk3 d u5
      rintro σ' H4 ⟨R, rfl, d4⟩
      refine ⟨fun σ' H' => ∃ u6 u7 u8 u9 u10 u12 u13 u14, σ' = [some (.ref a), some (.int (0 + (i : Int))), some (.ref p), some (.ref x), some (.ref L), some (.ref R), u6, u7, u8, u9, u10, u11, u12, u13, u14, u15, u16] ∧ Doing C TT Hb p x L R np 40 H', ?_, ?_⟩
      · walk_at "wn"
        show iRng1 _ _ _ _
        show tCons _ _ _ _ _
        walk_at "wn"
        refine ⟨40, rfl, by decide, by decide, ?_⟩
        refine for_range (lo := 0) (fun j σ' H' => ∃ u6 u7 u8 u9 u10 u12 u13 u14, σ' = [some (.ref a), some (.int (0 + (i : Int))), some (.ref p), some (.ref x), some (.ref L), some (.ref R), u6, u7, u8, u9, u10, u11, u12, u13, u14, u15, u16] ∧ Doing C TT Hb p x L R np j H') ⟨_, _, _, _, _, _, _, _, rfl, d4⟩ ?_ (fun σ' H' h => h)
        clear d4 u6 u7 u8 u9 u10 u12 u13 u14
        rintro j σ' H10 hj ⟨u6, u7, u8, u9, u10, u12, u13, u14, rfl, d10⟩
        walk_at "wn"
        refine ⟨fun σ' H' => ∃ v1 v2, σ' = [some (.ref a), some (.int (0 + (i : Int))), some (.ref p), some (.ref x), some (.ref L), some (.ref R), some (.int (0 + (j : Int))), some v1, some v2, u9, u10, u11, u12, u13, u14, u15, u16] ∧ Agree H' v1 v2 ∧ Doing C TT Hb p x L R np (j + 1) H', ?_, ?_⟩
        · walk_at "wn"
          refine ⟨p, x, L, R, np, j, Hb, by rw [Int.zero_add]; rfl, d10, by omega, fun H6 r v1 v2 hr6 ag d6 => ?_⟩
          refine ⟨r, _, rfl, SqL.of hr6, rfl, _, _, rfl, ?_⟩
          walk_at "wn"
          refine ⟨_, _, rfl, ?_⟩
          walk_at "wn"
          refine ⟨rfl, ?_⟩
          walk_at "wn"
          exact ⟨v1, v2, rfl, ag, d6⟩
        rintro σ' H12 ⟨v1, v2, rfl, ag, d12⟩
        refine ⟨fun σ' H' => σ' = [some (.ref a), some (.int (0 + (i : Int))), some (.ref p), some (.ref x), some (.ref L), some (.ref R), some (.int (0 + (j : Int))), some v1, some v2, u9, u10, u11, u12, u13, u14, u15, u16] ∧ Doing C TT Hb p x L R np (j + 1) H', ?_, ?_⟩
        · obtain ⟨d, q1, q2, o1, o2, o3⟩ := agree_data (K := K) ag
          walk_at "wn"
          refine ⟨v1, d, rfl, q1, o1, o2, o3, ?_⟩
          walk_at "wn"
          refine ⟨v2, d, rfl, q2, o1, o2, o3, ?_⟩
          walk_at "wn"
          exact ⟨rfl, d12⟩
        rintro σ' H13 ⟨rfl, d13⟩
        cases d13 with
        | @mk a0 S ad dx m rs e1 e2 e3 W F0 Z0 R0 l =>
        subst e1 e2 e3
        obtain ⟨ws, hR, pr⟩ := W.regs
        have wl := paired_len pr
        have hw : ∀ r ∈ rs, r.word ∈ wordsL := fun r h => lev_word (R0.ok r h).2.2.2.2.2.2
        refine ⟨fun σ' H' => ∃ Lt vs, σ' = [some (.ref a), some (.int (0 + (i : Int))), some (.ref a0.p), some (.ref a0.x), some (.ref a0.L), some (.ref R), some (.int (0 + (j : Int))), some v1, some v2, u9, some (.ref Lt), u11, u12, u13, u14, u15, u16] ∧ Same H13 H' ∧ H' Lt = some (.lst vs) ∧ Paired (TolAt H') vs rs, ?_, ?_⟩
        · walk_at "wn"
          unfold tLc iList
          walk_at "wn"
          refine ⟨R, rfl, ⟨_, SqL.of hR⟩, fun Lt hLt => ?_⟩
          refine lc_list (K := K) (a := R) (xs := ws) (fun i H' => ∃ vs, Same H13 H' ∧ H' Lt = some (.lst vs) ∧ Paired (TolAt H') vs (rs.take i)) ⟨[], Same.new' hLt, upd_same, .nil⟩ (fun i H' _ ⟨_, sm, _⟩ => SqL.of (sm _ _ hR)) ?_ ?_
          · rintro i' v H' hv ⟨vs, sm, hd, pt⟩
            obtain ⟨r, er, t1, rfl, ht1⟩ := paired_at pr hv
            have ht2 := sm _ _ ht1
            have vl := paired_len pt
            rw [List.length_take] at vl
            refine ⟨t1, _, rfl, SqT.of ht2, rfl, _, _, rfl, ?_⟩
            walk_at "wn"
            refine ⟨_, _, rfl, ?_⟩
            walk_at "wn"
            refine ⟨_, _, rfl, ?_⟩
            walk_at "wn"
            refine ⟨_, _, rfl, ?_⟩
            walk_at "wn"
            refine ⟨rfl, rfl, ?_⟩
            walk_at "wn"
            refine ⟨by show 2 ≤ sizeLine; decide, fun A hA => ?_⟩
            have sA := Same.new' (o := .tup [.int 0, .int 0]) hA
            have hA1 : upd H' A (.tup [.int 0, .int 0]) A = some (.tup [.int 0, .int 0]) := upd_same
            generalize upd H' A (.tup [.int 0, .int 0]) = HA at sA hA1 ⊢
            walk_at "wn"
            refine ⟨by show 2 ≤ sizeLine; decide, fun B hB => ?_⟩
            have sB := Same.new' (o := .tup [.int 0, .int r.src]) hB
            have hB1 : upd HA B (.tup [.int 0, .int r.src]) B = some (.tup [.int 0, .int r.src]) := upd_same
            generalize upd HA B (.tup [.int 0, .int r.src]) = HB at sB hB1 ⊢
            walk_at "wn"
            refine ⟨by show 6 ≤ sizeLine; decide, fun Tt hTt => ?_⟩
            have sT := Same.new' (o := .tup [.ref A, .int r.lab, .int r.n, .ref B, .str r.word, .bl true]) hTt
            have hT1 : upd HB Tt (.tup [.ref A, .int r.lab, .int r.n, .ref B, .str r.word, .bl true]) Tt = some (.tup [.ref A, .int r.lab, .int r.n, .ref B, .str r.word, .bl true]) := upd_same
            generalize upd HB Tt (.tup [.ref A, .int r.lab, .int r.n, .ref B, .str r.word, .bl true]) = HT at sT hT1 ⊢
            have sAT := sA.trans (sB.trans sT)
            have hdT := sAT _ _ hd
            have kp : ∀ {us : List V} b xs, HT b = some (.tup xs) → upd HT Lt (.lst us) b = some (.tup xs) := fun {us} b xs e => (upd_ne fun z => by rw [z, hdT] at e; cases e).trans e
            refine ⟨vs, hdT, by rw [sizeLine_eq]; omega, vs ++ [.ref Tt], fun b o e => ?_, upd_same, ?_⟩
            · rw [upd_ne (fun z => by rw [z, hLt] at e; cases e)]
              exact (sm.trans sAT) _ _ e
            · rw [List.take_add_one, er, Option.toList_some]
              exact paired_app (told_keep pt fun b xs e => kp b xs (sAT _ _ e)) ⟨Tt, A, B, rfl, kp _ _ hT1, kp _ _ ((sB.trans sT) _ _ hA1), kp _ _ (sT _ _ hB1)⟩
          · rintro H' ⟨vs, sm, hd, pt⟩
            rw [wl, List.take_length] at pt
            walk_at "wn"
            exact ⟨Lt, vs, rfl, sm, hd, pt⟩
        rintro σ' H14 ⟨Lt, vs, rfl, s14, hLt, pt⟩
        have W14 := W.same s14
        walk_at "wn"
        refine ⟨_, rfl, a0.x, dx .box, _, rfl, W14.hb, rfl, ?_⟩
        walk_at "wn"
        refine ⟨S, ad, dx, by rw [W14.box]; rfl, W14.at_, 0, F0.sets, F0.pl, fun q hq => ?_, ⟨0, F0.mem (i := 0) F0.np1, 0, F0.set 0 F0.np1⟩, ?_, fun l' hl' => ?_, fun ys H15 r vs2 pm pw s15 nr hr15 pr15 => ?_⟩
        · rw [F0.procs] at hq
          obtain ⟨q', hq', rfl⟩ := List.mem_map.mp hq
          exact Nat.le_of_eq (F0.len q' (List.mem_range.mp hq'))
        · rw [R0.ents, List.length_map]
          omega
        · rw [R0.ents] at hl'
          obtain ⟨r, hr, rfl⟩ := List.mem_map.mp hl'
          have ok := R0.ok r hr
          rw [R0.reg r hr]
          exact ⟨0, F0.mem (i := 0) F0.np1, _, F0.srcAt ok.2.2.1 ok.2.2.2.1⟩
        · have tol := told_of F0 R0 pm pw pr15
          have pt15 := told_keep pt fun b xs h => s15 _ _ h
          walk_at "wn"
          refine ⟨.list (rs.map tolD), .list (rs.map tolD), .lst (SqL.of hr15) (dp_told tol), .lst (SqL.of (s15 _ _ hLt)) (dp_told pt15), told_shaped hw, told_shaped hw, ?_⟩
          rw [told_refl hw]
          walk_at "wn"
          exact ⟨_, _, _, _, _, _, _, _, rfl, .mk rfl rfl rfl (W14.same s15) F0 Z0 R0 l⟩
      clear d4 u6 u7 u8 u9 u10 u12 u13 u14
      rintro σ' H5 ⟨u6, u7, u8, u9, u10, u12, u13, u14, rfl, d5⟩
      cases d5 with
      | @mk a0 S ad dx m rs e1 e2 e3 W F0 Z0 R0 l =>
      subst e1 e2 e3
      refine ⟨fun σ' H' => ∃ u9 S ad dx, σ' = [some (.ref a), some (.int (0 + (i : Int))), some (.ref a0.p), some (.ref a0.x), some (.ref a0.L), some (.ref R), u6, u7, u8, u9, u10, u11, u12, u13, u14, u15, u16] ∧ Mid C TT Hb a0 np np H' S ad dx m (some (R, rs)) ∧ Fit np S m ∧ RgF S rs 40 ∧ Warm S 4, ?_, ?_⟩
      · walk_at "wn"
        show iRng2 _ _ _ _
        show tCons _ _ _ _ _
        walk_at "wn"
        refine ⟨1, 5, rfl, ⟨by decide, by decide, by decide, by decide⟩, ?_⟩
        refine for_range (lo := 1) (fun j σ' H' => ∃ u9 S ad dx, σ' = [some (.ref a), some (.int (0 + (i : Int))), some (.ref a0.p), some (.ref a0.x), some (.ref a0.L), some (.ref R), u6, u7, u8, u9, u10, u11, u12, u13, u14, u15, u16] ∧ Mid C TT Hb a0 np np H' S ad dx m (some (R, rs)) ∧ Fit np S m ∧ RgF S rs 40 ∧ Warm S j) ⟨_, _, _, _, rfl, W, F0, R0, Warm.start F0 Z0 R0⟩ ?_ (fun σ' H' h => h)
        clear W F0 Z0 R0 S ad dx u9
        rintro j σ' H10 hj ⟨u9, S, ad, dx, rfl, W, F, R0, Wm⟩
        have hj4 : j < 4 := hj
        have ej : (1 : Int) + (j : Int) = (j : Int) + 1 := by omega
        rw [ej]
        walk_at "wn"
        refine ⟨_, rfl, a0.x, dx .box, _, rfl, W.hb, rfl, ?_⟩
        walk_at "wn"
        have t1 : (1 : Int) ≤ (j : Int) + 1 := by omega
        have t4 : (j : Int) + 1 ≤ 4 := by omega
        refine ⟨0, (j : Int) + 1, (j : Int) + 1, 1, S, ad, dx, by rw [W.box]; rfl, W.at_, F.meansSrc t1 t4, F.msrc t1 t4, by rw [Wm.off _ (by omega)], by decide, by decide, F.small R0 (by omega) (Nat.le_trans (Wm.len R0) (by decide)), fun H' ad' A' st' => ?_⟩
        walk_at "wn"
        exact ⟨_, _, ad', dx, rfl, W.step A' st', F.of rfl rfl rfl rfl rfl rfl, R0.of rfl rfl, Wm.next F R0⟩
      clear W F0 Z0 R0 S ad dx u9
      rintro σ' H6 ⟨u9, S, ad, dx, rfl, W, F0, R0, Wm⟩
      obtain ⟨ws, hR, pr⟩ := W.regs
      have wl := paired_len pr
      refine ⟨fun σ' H' => ∃ Ls : Addr, σ' = [some (.ref a), some (.int (0 + (i : Int))), some (.ref a0.p), some (.ref a0.x), some (.ref a0.L), some (.ref R), u6, u7, u8, u9, u10, some (.ref Ls), u12, u13, u14, u15, u16] ∧ H6 Ls = none ∧ Same H6 H' ∧ H' Ls = some (.lst ((rs.map (·.lab)).map V.int)), ?_, ?_⟩
      · walk_at "wn"
        unfold tLc iList
        walk_at "wn"
        refine ⟨R, rfl, ⟨_, SqL.of hR⟩, fun Ls hLs => ?_⟩
        refine lc_list (K := K) (a := R) (xs := ws) (fun i H' => Same H6 H' ∧ H' Ls = some (.lst (((rs.take i).map (·.lab)).map V.int))) ⟨Same.new' hLs, upd_same⟩ (fun i H' _ h => SqL.of (h.1 _ _ hR)) ?_ ?_
        · rintro i' v H' hv ⟨sm, hd⟩
          obtain ⟨r, er, t1, rfl, ht1⟩ := paired_at pr hv
          have ht2 := sm _ _ ht1
          refine ⟨t1, _, rfl, SqT.of ht2, rfl, _, _, rfl, ?_⟩
          walk_at "wn"
          refine ⟨_, _, rfl, ?_⟩
          walk_at "wn"
          refine ⟨_, _, rfl, ?_⟩
          walk_at "wn"
          refine ⟨_, _, rfl, ?_⟩
          walk_at "wn"
          refine ⟨rfl, rfl, ?_⟩
          walk_at "wn"
          refine ⟨_, hd, by rw [List.length_map, List.length_map, List.length_take, sizeLine_eq]; omega, fun b o e => ?_, by rw [upd_same, List.take_add_one, er, Option.toList_some, List.map_append, List.map_append]; rfl⟩
          rw [upd_ne (ne_of_none e hLs)]
          exact sm _ _ e
        · rintro H' ⟨sm, hd⟩
          rw [wl, List.take_length] at hd
          walk_at "wn"
          exact ⟨Ls, rfl, hLs, sm, hd⟩
      rintro σ' H7 ⟨Ls, rfl, nLs, s7, hLs⟩
      refine ⟨fun σ' H' => ∃ tl, σ' = [some (.ref a), some (.int (0 + (i : Int))), some (.ref a0.p), some (.ref a0.x), some (.ref a0.L), some (.ref R), u6, u7, u8, u9, some (.ref tl), some (.ref Ls), u12, u13, u14, u15, u16] ∧ Wq C TT Hb a0 np m R rs Ls tl [] S ad dx H', ?_, ?_⟩
      · walk_at "wn"
        refine ⟨Nat.zero_le _, fun tl htl => ?_⟩
        walk_at "wn"
        exact ⟨tl, rfl, Wq.start W nLs s7 hLs htl upd_same (Same.new' htl)⟩
      rintro σ' H8 ⟨tl, rfl, W8⟩
      have pm := Wm.perm R0
      have ql : (S.que 0).length = rs.length := by rw [pm.length_eq, List.length_map]
      have hrs : rs.length ≤ 40 := l
      refine ⟨fun σ' H' => ∃ u6 tl u15 S2 ad dx, σ' = [some (.ref a), some (.int (0 + (i : Int))), some (.ref a0.p), some (.ref a0.x), some (.ref a0.L), some (.ref R), u6, u7, u8, u9, some (.ref tl), some (.ref Ls), u12, u13, u14, u15, u16] ∧ Wq C TT Hb a0 np m R rs Ls tl ((S.que 0).take rs.length) S2 ad dx H' ∧ RgF S2 rs 40 ∧ Fit np S2 m ∧ Wt (S.que 0) S2 rs.length, ?_, ?_⟩
      · have hls := W8.ls
        walk_at "wn"
        show iRng1 _ _ _ _
        show tCons _ _ _ _ _
        walk_at "wn"
        rw [List.length_map, List.length_map]
        refine ⟨_, rfl, by omega, by omega, ?_⟩
        have en : (((rs.length : Nat) : Int)).toNat = rs.length := by omega
        rw [en]
        refine for_range (lo := 0) (fun j σ' H' => ∃ u6 tl u15 S2 ad dx, σ' = [some (.ref a), some (.int (0 + (i : Int))), some (.ref a0.p), some (.ref a0.x), some (.ref a0.L), some (.ref R), u6, u7, u8, u9, some (.ref tl), some (.ref Ls), u12, u13, u14, u15, u16] ∧ Wq C TT Hb a0 np m R rs Ls tl ((S.que 0).take j) S2 ad dx H' ∧ RgF S2 rs 40 ∧ Fit np S2 m ∧ Wt (S.que 0) S2 j) ⟨_, _, _, _, _, _, rfl, W8, R0, F0, Wt.start Wm⟩ ?_ (fun σ' H' h => h)
        clear W8 hls u6 tl u15
        rintro j σ' H9 hj ⟨u6, tl, u15, S2, ad2, dx2, rfl, W9, R9, F9, T9⟩
        have hjl : j < rs.length := hj
        obtain ⟨l0, hl⟩ : ∃ l0, (S.que 0)[j]? = some l0 := ⟨_, List.getElem?_eq_getElem (by omega)⟩
        have qe : ∀ x ∈ S.que 0, x ∈ rs.map (·.lab) := fun x hx => pm.mem_iff.mp hx
        have hq2 := T9.at_ hl
        have sub : ∀ x ∈ S2.que 0, x ∈ rs.map (·.lab) := fun x hx => by
          rw [T9.que] at hx
          rcases List.mem_append.mp hx with z | z
          · exact qe x (List.mem_of_mem_drop z)
          · exact qe x (List.mem_of_mem_take (List.mem_filter.mp z).1)
        have len2 : (S2.que 0).length ≤ 900 := by
          rw [T9.que, List.length_append, List.length_drop]
          have : (levels (S2.reg 0) ((S.que 0).take j)).length ≤ j := by
            have h1 := List.length_filter_le (fun l => decide ((S2.reg 0 l).word = "level")) ((S.que 0).take j)
            have h2 := List.length_take_le j (S.que 0)
            unfold levels
            omega
          omega
        obtain ⟨r, hr, er⟩ := List.mem_map.mp (qe l0 (List.mem_of_getElem? hl))
        have ok := R9.ok r hr
        have rg : S2.reg 0 l0 = ⟨r.n, r.src, r.word, true⟩ := by rw [← er]; exact R9.reg r hr
        have et := took_one hq2 (by rw [rg]; exact T9.on _ ok.2.2.1 ok.2.2.2.1) (by
          rw [rg]
          rcases ok.2.2.2.2.2.2 with z | z
          · show r.word ≠ "once"
            rw [z]
            decide
          · show r.word ≠ "once"
            rw [z]
            decide)
        have tl0 := W9.mid.tl
        have F1 := F9.np1
        have F5 := F9.np5
        walk_at "wn"
        refine ⟨_, rfl, a0.x, dx2 .box, _, rfl, W9.mid.hb, rfl, ?_⟩
        walk_at "wn"
        have lenL : ((List.range np).map fun i => V.ref (a0.D i)).length = np := by rw [List.length_map, List.length_range]
        rw [lenL]
        refine ⟨a0.p, (np : Int), rfl, W9.mid.bag, by omega, by omega, fun i0 H10 i1 i2 e10 b10 => ?_⟩
        obtain ⟨ip, rfl⟩ := Int.eq_ofNat_of_zero_le i1
        have hip : ip < np := by omega
        have W10 := W9.draw e10 b10
        walk_at "wn"
        refine ⟨(ip : Int), 0, 0, 1, S2, ad2, dx2, by rw [W10.mid.box]; rfl, W10.mid.at_, F9.meansSet hip, by rw [F9.sets]; exact List.mem_singleton.mpr rfl, by decide, by decide, fun x hx => by rw [R9.ents]; exact sub x hx, fun x hx => ?_, nWR, F9.small R9 (by omega) len2, fun H11 ad11 dx11 r11 rs11 g1 g2 g3 g4 A11 st11 => ?_⟩
        · rw [R9.ents] at hx
          obtain ⟨r2, hr2, rfl⟩ := List.mem_map.mp hx
          rw [R9.reg r2 hr2]
          have ok2 := R9.ok r2 hr2
          exact F9.msrc ok2.2.2.1 ok2.2.2.2.1
        rw [et] at g4
        obtain ⟨t, rfl, ht⟩ : ∃ t, rs11 = [V.ref t] ∧ H11 t = some (.tup [.int l0, .int 1, .bl false]) := by
          cases g4 with
          | cons r rest =>
            cases rest
            obtain ⟨t, e, h⟩ := r
            exact ⟨t, by rw [e], h⟩
        have W11 := W10.step A11 st11
        have e11 := wait_reg (l := l0) et
        refine ⟨r11, rfl, ⟨_, SqL.of g2⟩, fun D hD => lc_list (K := K) (a := r11) (xs := [V.ref t]) (fun i H' => Same H11 H' ∧ H' D = some (.lst (([l0].take i).map V.int))) ⟨Same.new' hD, upd_same⟩ (fun i H' _ h => SqL.of (h.1 _ _ g2)) ?_ ?_⟩
        · rintro i v H' hv ⟨sm, hD'⟩
          cases i with
          | succ i => cases hv
          | zero =>
            cases hv
            refine ⟨rfl, ?_⟩
            walk_at "wn"
            refine ⟨t, _, 0, _, rfl, rfl, SqT.of (sm _ _ ht), atI_nat (j := 0) rfl, ?_⟩
            refine ⟨_, hD', by show 0 < sizeLine; decide, fun b o e => ?_, upd_same⟩
            rw [upd_ne (ne_of_none e hD)]
            exact sm _ _ e
        · rintro H' ⟨sm, hD'⟩
          have W12 := W11.same sm
          walk_at "wn"
          refine ⟨tl, D, _, _, rfl, rfl, W12.got, hD', by
            have h2 := List.length_take_le j (S.que 0)
            rw [List.length_map, sizeLine_eq]; show _ + 1 ≤ _; omega, fun p hp => ?_⟩
          have W13 := W12.new (told' := (S.que 0).take (j + 1)) hp (show upd H' p (.lst (((S.que 0).take j).map V.int ++ [l0].map V.int)) p = _ by rw [upd_same, List.take_add_one, hl, List.map_append]; rfl) (Same.new' hp)
          walk_at "wn"
          exact ⟨_, p, _, waited S2 0 1, ad11, dx11, rfl, W13, R9.of rfl e11, F9.of rfl rfl rfl rfl rfl rfl, T9.next (np := np) (rs := rs) hl et⟩
      clear W8 u6 tl u15
      rintro σ' H9 ⟨u6, tl, u15, S2, ad2, dx2, rfl, W9, R9, F9, T9⟩
      have tk : (S.que 0).take rs.length = S.que 0 := by rw [← ql, List.take_length]
      have hq2 : S2.que 0 = levels (S2.reg 0) (S.que 0) := by
        rw [T9.que, tk, ← ql, List.drop_length]
        rfl
      rw [tk] at W9
      have htl := W9.got
      have hls := W9.ls
      walk_at "wn"
      refine ⟨tl, _, rfl, SqL.of htl, fun ns1 c1 p1 s1 hc1 => ?_⟩
      have k1 := Same.new' (o := .lst (ns1.map V.int)) hc1
      walk_at "wn"
      refine ⟨Ls, _, rfl, SqL.of (k1 _ _ hls), fun ns2 c2 p2 s2 hc2 => ?_⟩
      have k2 := Same.new' (o := .lst (ns2.map V.int)) hc2
      obtain rfl : ns1 = ns2 := sort_uniq (p1.trans (pm.trans p2.symm)) s1 s2
      have hc1' : upd H9 c1 (.lst (ns1.map V.int)) c1 = some (.lst (ns1.map V.int)) := upd_same
      refine ⟨_, _, .lst (SqL.of (k2 _ _ hc1')) (dp_ints _), .lst (SqL.of upd_same) (dp_ints _), ints_shaped _, ints_shaped _, ?_⟩
      rw [ints_refl]
      have W10 := W9.same (k1.trans k2)
      generalize upd (upd H9 c1 (.lst (ns1.map V.int))) c2 (.lst (ns1.map V.int)) = H10 at W10 ⊢
      walk_at "wn"
      refine ⟨_, rfl, a0.x, dx2 .box, _, rfl, W10.mid.hb, rfl, ?_⟩
      walk_at "wn"
      refine ⟨0, 0, 0, S2, ad2, dx2, by rw [W10.mid.box]; rfl, W10.mid.at_, F9.meansSet (i := 0) F9.np1, by rw [F9.sets]; exact List.mem_singleton.mpr rfl, fun rq hrq => ?_⟩
      have k3 := Same.new' (o := .lst ((S2.que 0).map V.int)) hrq
      have hrq' : upd H10 rq (.lst ((S2.que 0).map V.int)) rq = some (.lst ((S2.que 0).map V.int)) := upd_same
      have W11 := W10.same k3
      generalize upd H10 rq (.lst ((S2.que 0).map V.int)) = H11 at W11 hrq' ⊢
      obtain ⟨ws2, hR2, pr2⟩ := W11.mid.regs
      walk_at "wn"
      unfold tLc iList
      walk_at "wn"
      refine ⟨tl, rfl, ⟨_, SqL.of W11.got⟩, fun D hD => ?_⟩
      refine lc_list (K := K) (a := tl) (xs := (S.que 0).map V.int) (fun i H' => Same H11 H' ∧ H' D = some (.lst ((levels (S2.reg 0) ((S.que 0).take i)).map V.int))) ⟨Same.new' hD, upd_same⟩ (fun i H' _ h => SqL.of (h.1 _ _ W11.got)) ?_ ?_
      · rintro i' v H' hv ⟨sm, hd⟩
        rw [List.getElem?_map] at hv
        obtain ⟨x, hx, rfl⟩ := Option.map_eq_some_iff.mp hv
        have hxm : x ∈ rs.map (·.lab) := pm.mem_iff.mp (List.mem_of_getElem? hx)
        refine ⟨rfl, ?_⟩
        walk_at "wn"
        refine ⟨R, x, ws2, rs, rfl, sm _ _ hR2, rgT_keep pr2 (fun b xs e => sm _ _ e), by omega, fun r h => lev_word (R9.ok r h).2.2.2.2.2.2, fun H12 s12 => ?_⟩
        rw [is_level R9 hxm, lv_step hx]
        have s13 := sm.trans s12
        have hd2 := s12 _ _ hd
        walk_at "wn"
        by_cases hc : (S2.reg 0 x).word = "level"
        · rw [decide_eq_true hc, if_pos hc]
          walk_at "wn"
          refine ⟨_, hd2, ?_, fun b o e => ?_, by rw [upd_same, List.map_append]; rfl⟩
          · have h1 := List.length_filter_le (fun l => decide ((S2.reg 0 l).word = "level")) ((S.que 0).take i')
            have h2 := List.length_take_le' i' (S.que 0)
            rw [List.length_map, sizeLine_eq]
            unfold levels
            omega
          · rw [upd_ne (ne_of_none e hD)]
            exact s13 _ _ e
        · rw [decide_eq_false hc, if_neg hc, List.append_nil]
          walk_at "wn"
          exact ⟨s13, hd2⟩
      · rintro H12 ⟨sm, hd⟩
        rw [List.length_map, List.take_length] at hd
        rw [← hq2] at hd
        have W12 := W11.same sm
        refine ⟨_, _, .lst (SqL.of (sm _ _ hrq')) (dp_ints _), .lst (SqL.of hd) (dp_ints _), ints_shaped _, ints_shaped _, ?_⟩
        rw [ints_refl]
        walk_at "wn"
        exact ⟨_, _, _, _, _, _, _, _, _, _, _, _, _, _, _, _, rfl, W12.mid.sq hSb, W12.mid.tab⟩
    · walk_at "wn"
      exact k _
end

/-! facts of the top, looked up by one kernel run: each fact a test of a part of the heap behind the top -/
abbrev Ck : Type := PySem.W.Frag → Bool
/-- an own error's class -/
def slotB (newId : String) : List (Option Value) → Bool
  | [_, _, _, _, some (.builtin n), _] => decide (n = newId)
  | _ => false
theorem slotB_ok {newId : String} {l : List (Option Value)} (h : slotB newId l = true) : ∃ k0 k1 k2 k3 k5, l = [k0, k1, k2, k3, some (.builtin newId), k5] := by
  unfold slotB at h
  split at h
  · rename_i k0 k1 k2 k3 n k5
    obtain rfl := of_decide_eq_true h
    exact ⟨k0, k1, k2, k3, k5, rfl⟩
  · cases h
def excB (K : PySem.W.Frag) (C : Addr) (bm : List Value) (newId : String) : Bool := match K.lookup C with
  | some ⟨.type t, _, .cls cd, sl⟩ => decide (t = "type") && (decide (cd.mro = .ref C :: bm) && (cd.hasDict && (!cd.hasDel && slotB newId sl.toList)))
  | _ => false
theorem excB_ok {K : PySem.W.Frag} {C : Addr} {bm : List Value} {newId : String} (h : excB K C bm newId = true) :
    ∃ nm q N bs sn sub ab col dd k0 k1 k2 k3 k5, K.lookup C = some (excClassObj nm q C N bs bm true sn sub ab col dd k0 k1 k2 k3 k5 newId) := by
  unfold excB at h
  cases e : K.lookup C with
  | none => rw [e] at h; cases h
  | some o =>
    obtain ⟨oc, od, dt, sl⟩ := o
    rw [e] at h
    cases oc with
    | type t =>
      cases dt with
      | cls cd =>
        obtain ⟨nm, bs, mro, ns, qn, hd, sn, sb, ab, col, del⟩ := cd
        obtain ⟨l⟩ := sl
        have h : (decide (t = "type") && (decide (mro = .ref C :: bm) && (hd && (!del && slotB newId l)))) = true := h
        simp only [Bool.and_eq_true, decide_eq_true_eq, Bool.not_eq_true'] at h
        obtain ⟨rfl, rfl, rfl, rfl, h5⟩ := h
        obtain ⟨k0, k1, k2, k3, k5, rfl⟩ := slotB_ok h5
        exact ⟨_, _, _, _, _, _, _, _, _, k0, k1, k2, k3, k5, rfl⟩
      | _ => cases h
    | _ => cases dt <;> cases h
/-- an int among the module's names, among a class's -/
def intB (o : Option (Option Value)) (i : Int) : Bool := match o with
  | some (some (.int j _)) => decide (j = i)
  | _ => false
theorem intB_ok {o : Option (Option Value)} {i : Int} (h : intB o i = true) : ∃ t, o = some (some (.int i t)) := by
  unfold intB at h
  split at h
  · rename_i j t
    obtain rfl := of_decide_eq_true h
    exact ⟨t, rfl⟩
  · cases h
def atB (K : PySem.W.Frag) (o : Option (Option Value)) (i : Int) : Bool := match o with
  | some (some (.int j t)) => decide (j = i) && decide (PySem.W.specialIn K (.int j t) "__get__" = some none)
  | _ => false
theorem atB_ok {K : PySem.W.Frag} {o : Option (Option Value)} {i : Int} (h : atB K o i = true) : ∃ t, o = some (some (.int i t)) ∧ PySem.W.specialIn K (.int i t) "__get__" = some none := by
  unfold atB at h
  split at h
  · rename_i j t
    simp only [Bool.and_eq_true, decide_eq_true_eq] at h
    obtain ⟨rfl, h2⟩ := h
    exact ⟨t, rfl, h2⟩
  · cases h
/-- a def's code, a code's table -/
def cdV (K : PySem.W.Frag) (f : Addr) : Option Value := match K.lookup f with
  | some ⟨_, _, .func fd, _⟩ => some fd.code
  | _ => none
def cdA (K : PySem.W.Frag) (f : Addr) : Addr := match cdV K f with
  | some (.ref c) => c
  | _ => 0
def ptA (K : PySem.W.Frag) (f : Addr) : Addr := match K.lookup (cdA K f) with
  | some ⟨_, _, .fields vs, _⟩ => (match vs.toList with
    | [_, _, _, _, _, _, _, _, _, _, _, .ref P] => P
    | _ :: _ :: _ :: _ :: _ :: _ :: _ :: _ :: _ :: _ :: _ :: .ref P :: _ => P
    | _ => 0)
  | _ => 0
/-- the texts of a tuple -/
def litB (x y z : Str) : List Value → Bool
  | [.str b _, .str c _, .str d _] => decide (b = x) && (decide (c = y) && decide (d = z))
  | _ => false
theorem litB_ok {x y z : Str} {l : List Value} (h : litB x y z l = true) : ∃ t0 t1 t2, l = [.str x t0, .str y t1, .str z t2] := by
  unfold litB at h
  split at h
  · rename_i b t0 c t1 d t2
    simp only [Bool.and_eq_true, decide_eq_true_eq] at h
    obtain ⟨rfl, rfl, rfl⟩ := h
    exact ⟨t0, t1, t2, rfl⟩
  · cases h
def txtB (K : PySem.W.Frag) (a : Addr) (x y z : Str) : Bool := match K.lookup a with
  | some ⟨.type t, _, .seq its _, _⟩ => decide (t = "tuple") && litB x y z its.toList
  | _ => false
theorem txtB_ok {K : PySem.W.Frag} {a : Addr} {x y z : Str} (h : txtB K a x y z = true) : ∃ dW t0 t1 t2 nW sW, K.lookup a = some ⟨.type "tuple", dW, .seq #[.str x t0, .str y t1, .str z t2] nW, sW⟩ := by
  unfold txtB at h
  cases e : K.lookup a with
  | none => rw [e] at h; cases h
  | some o =>
    obtain ⟨oc, od, dt, sl⟩ := o
    rw [e] at h
    cases oc with
    | type t =>
      cases dt with
      | seq its n =>
        obtain ⟨l⟩ := its
        have h : (decide (t = "tuple") && litB x y z l) = true := h
        simp only [Bool.and_eq_true, decide_eq_true_eq] at h
        obtain ⟨rfl, h2⟩ := h
        obtain ⟨t0, t1, t2, rfl⟩ := litB_ok h2
        exact ⟨_, t0, t1, t2, _, _, rfl⟩
      | _ => cases h
    | _ => cases dt <;> cases h
def clsB (o : Option PySem.W.CFound) (m : String) : Bool := match o with
  | some (.val (.builtin n)) => decide (n = m)
  | _ => false
theorem clsB_ok {o : Option PySem.W.CFound} {m : String} (h : clsB o m = true) : o = some (.val (.builtin m)) := by
  unfold clsB at h
  split at h
  · rename_i n
    obtain rfl := of_decide_eq_true h
    rfl
  · cases h
/-! the Hook -/
abbrev Tb : Type := PySem.W.Frag → Addr
def frB (g : Addr → Option Obj) (n : Nat) : Option Tb → PySem.W.Frag
  | none => He.frG g (He.asD g n)
  | some f => He.frG g ((He.asD g n).filter fun a => a != f (He.frG g (He.asD g n)))
theorem frB_in {h : Heap} {n : Nat} {tb : Option Tb} : (frB h.get? n tb).In h := by
  cases tb with
  | none => exact He.frG_in
  | some f => exact He.frG_in
def obsK (cs : List Ck) (fn : List He.DefD) (K : PySem.W.Frag) : He.AlD := ((cs.all fun c => c K) && fn.all fun d => d.ok K, fn.map fun d => He.fnW K d.at_)
def obsB (n : Nat) (cs : List Ck) (fn : List He.DefD) (tb : Option Tb) (g : Addr → Option Obj) : He.AlD × Option Obj := (obsK cs fn (frB g n tb), match tb with
  | none => none
  | some f => g (f (frB g n tb)))
def valB (fn : List He.DefD) : Option Tb → He.AlD × Option Obj
  | none => (He.valD fn, none)
  | some _ => (He.valD fn, some (PySem.W.tabObj #[]))
def SaysB (cs : List Ck) (fn : List He.DefD) (K : PySem.W.Frag) : Prop := obsK cs fn K = He.valD fn
def hookB (n : Nat) (cs : List Ck) (fn : List He.DefD) (tb : Option Tb) : PySem.W.Hook where
  α := He.AlD × Option Obj
  obs := fun s => obsB n cs fn tb s.heap.get?
  val := fun _ => valB fn tb
  says := fun _ h => ∃ K : PySem.W.Frag, K.In h ∧ SaysB cs fn K ∧ ∀ f, tb = some f → h.get? (f K) = some (PySem.W.tabObj #[])
  of := fun _ s e => by
    refine ⟨frB s.heap.get? n tb, frB_in, ?_, fun f hf => ?_⟩
    · cases tb with
      | none => exact congrArg Prod.fst e
      | some f => exact congrArg Prod.fst e
    · subst hf
      exact congrArg Prod.snd e
  keeps := fun _ _ _ ⟨K, hK, c, ht⟩ k => ⟨K, PySem.W.Frag.In.keeps hK k, c, fun f hf => k _ _ (ht f hf)⟩
theorem obsB_eq {n : Nat} {cs : List Ck} {fn : List He.DefD} {tb : Option Tb} {g : Addr → Option Obj} {s : Shared} (h : ∀ a, g a = s.heap.get? a) : obsB n cs fn tb g = (hookB n cs fn tb).obs s := by
  have e : g = s.heap.get? := funext h
  rw [e] <;> rfl
section
variable {cs : List Ck} {fn : List He.DefD} {K : PySem.W.Frag}
theorem SaysB.ck (c : SaysB cs fn K) (i : Nat) {f : Ck} (h : cs[i]? = some f) : f K = true := by
  have c1 := (He.ba (show ((cs.all fun f => f K) && fn.all fun d => d.ok K) = true from congrArg (fun z : He.AlD => z.1) c)).1
  exact List.all_eq_true.mp c1 f (List.mem_of_getElem? h)
theorem SaysB.def_ (c : SaysB cs fn K) (i : Nat) {d : He.DefD} (h : fn[i]? = some d) : ∃ fd, FunD K d.name d.qual d.params d.body d.scope (d.dvs K) (d.kws K) (He.fAd K d.at_) fd := by
  have c2 := (He.ba (show ((cs.all fun f => f K) && fn.all fun d => d.ok K) = true from congrArg (fun z : He.AlD => z.1) c)).2
  have e : fn.map (fun d => He.fnW K d.at_) = fn.map He.DefD.val := congrArg (fun z : He.AlD => z.2) c
  have e2 : (fn.map fun d => He.fnW K d.at_)[i]? = (fn.map He.DefD.val)[i]? := by rw [e]
  rw [List.getElem?_map, List.getElem?_map, h] at e2
  exact He.DefD.funD (Option.some.inj e2) (List.all_eq_true.mp c2 d (List.mem_of_getElem? h))
end
theorem fun_of {K : PySem.W.Frag} {x qual : Str} {st : Stmt} {f : Addr} {fd : FuncData} (F : FunD K x qual (defArgs st) (defBody st) (defScope st) [] [] f fd) : Fun K x qual st f fd := by
  obtain ⟨oc, od, dV, kV, doc, pm, an, cdv, ct, osl, e, lk, hc, hD, _⟩ := F.ex
  obtain rfl : dV = .none := by
    rcases hD with ⟨_, h⟩ | ⟨h, _⟩
    · exact h
    · exact absurd rfl h
  exact ⟨⟨oc, od, kV, doc, pm, an, cdv, ct, osl, e, lk, hc⟩, F.kp⟩

theorem Ln0 {α : Type} : ∀ {us : List α}, us.length = 0 → us = []
  | [], _ => rfl
theorem Ln1 {α : Type} : ∀ {us : List α}, us.length = 1 → ∃ a0, us = [a0]
  | [a0], _ => ⟨_, rfl⟩
theorem Ln2 {α : Type} : ∀ {us : List α}, us.length = 2 → ∃ a0 a1, us = [a0, a1]
  | [a0, a1], _ => ⟨_, _, rfl⟩
theorem Ln3 {α : Type} : ∀ {us : List α}, us.length = 3 → ∃ a0 a1 a2, us = [a0, a1, a2]
  | [a0, a1, a2], _ => ⟨_, _, _, rfl⟩
theorem Ln4 {α : Type} : ∀ {us : List α}, us.length = 4 → ∃ a0 a1 a2 a3, us = [a0, a1, a2, a3]
  | [a0, a1, a2, a3], _ => ⟨_, _, _, _, rfl⟩
theorem Ln5 {α : Type} : ∀ {us : List α}, us.length = 5 → ∃ a0 a1 a2 a3 a4, us = [a0, a1, a2, a3, a4]
  | [a0, a1, a2, a3, a4], _ => ⟨_, _, _, _, _, rfl⟩
theorem Ln6 {α : Type} : ∀ {us : List α}, us.length = 6 → ∃ a0 a1 a2 a3 a4 a5, us = [a0, a1, a2, a3, a4, a5]
  | [a0, a1, a2, a3, a4, a5], _ => ⟨_, _, _, _, _, _, rfl⟩
theorem Ln7 {α : Type} : ∀ {us : List α}, us.length = 7 → ∃ a0 a1 a2 a3 a4 a5 a6, us = [a0, a1, a2, a3, a4, a5, a6]
  | [a0, a1, a2, a3, a4, a5, a6], _ => ⟨_, _, _, _, _, _, _, rfl⟩
theorem isct {K : PySem.W.Frag} {h : Heap} {c P : Addr} (X : K.In h) (e : PySem.W.codeHdIn K c P = true) : isCodeTable h P := by
  obtain ⟨o, vs, _, _, _, _, _, _, _, e1, e2, e3, e4, _⟩ := PySem.W.codeHd_of_K X e
  exact ⟨c, o, vs, e1, e2, e3, e4⟩
theorem all_mk {P : Program} {w : World} {K : PySem.W.Frag} {h : Heap} {mg : Str → Option Value} {fa Pt : Addr} (X : K.In h) (G : h.Ns mainGlobals mg) (hfa : mg "law" = some (.ref fa))
    {CS CW CR : Addr}
    {CRg NRg : Addr} {nmRg qRg : Str} {bsRg subRg : List Value} {snRg : List Str} {abRg : Bool} {colRg : Option Bool} {ddRg : Option Addr} {maRg mbRg mcRg mdRg meRg : Option Value}
    {CNr NNr : Addr} {nmNr qNr : Str} {bsNr subNr : List Value} {snNr : List Str} {abNr : Bool} {colNr : Option Bool} {ddNr : Option Addr} {maNr mbNr mcNr mdNr meNr : Option Value}
    {f_int : Addr} {fd_int : FuncData}
    {f_bet : Addr} {fd_bet : FuncData}
    {f_cnt : Addr} {fd_cnt : FuncData}
    {f_lab : Addr} {fd_lab : FuncData}
    {f_wrd : Addr} {fd_wrd : FuncData}
    {f_bag : Addr} {fd_bag : FuncData}
    {f_take : Addr} {fd_take : FuncData}
    {f_out : Addr} {fd_out : FuncData}
    {f_hom : Addr} {fd_hom : FuncData}
    {f_lad : Addr} {fd_lad : FuncData}
    {f_don : Addr} {fd_don : FuncData} {c_don : Addr}
    {f_isl : Addr} {fd_isl : FuncData}
    {f_law : Addr} {fd_law : FuncData}
    {f_xrg : Addr} {fd_xrg : FuncData}
    {f_xnr : Addr} {fd_xnr : FuncData}
    {f_ri : Addr} {fd_ri : FuncData}
    {f_wi : Addr} {fd_wi : FuncData}
    {f_lof : Addr} {fd_lof : FuncData}
    {f_put : Addr} {fd_put : FuncData}
    {f_app : Addr} {fd_app : FuncData}
    {f_drp : Addr} {fd_drp : FuncData}
    {f_ntc : Addr} {fd_ntc : FuncData}
    {f_rep : Addr} {fd_rep : FuncData}
    {f_stl : Addr} {fd_stl : FuncData}
    {f_si : Addr} {fd_si : FuncData}
    {f_con : Addr} {fd_con : FuncData}
    {f_tof : Addr} {fd_tof : FuncData}
    {f_itn : Addr} {fd_itn : FuncData}
    {f_tha : Addr} {fd_tha : FuncData}
    {f_sra : Addr} {fd_sra : FuncData}
    {f_sta : Addr} {fd_sta : FuncData}
    {f_frn : Addr} {fd_frn : FuncData}
    {f_nth : Addr} {fd_nth : FuncData}
    {f_nso : Addr} {fd_nso : FuncData}
    {f_nse : Addr} {fd_nse : FuncData}
    {f_rdy : Addr} {fd_rdy : FuncData}
    {f_unf : Addr} {fd_unf : FuncData}
    {f_nfy : Addr} {fd_nfy : FuncData}
    {f_arr : Addr} {fd_arr : FuncData}
    {f_wai : Addr} {fd_wai : FuncData}
    {f_row : Addr} {fd_row : FuncData}
    {f_add : Addr} {fd_add : FuncData}
    {f_chg : Addr} {fd_chg : FuncData}
    {f_rem : Addr} {fd_rem : FuncData}
    {f_fre : Addr} {fd_fre : FuncData}
    {f_clo : Addr} {fd_clo : FuncData}
    {f_cpy : Addr} {fd_cpy : FuncData}
    {f_frp : Addr} {fd_frp : FuncData}
    {f_frk : Addr} {fd_frk : FuncData}
    {f_tng : Addr} {fd_tng : FuncData}
    {f_nof : Addr} {fd_nof : FuncData}
    {f_nam : Addr} {fd_nam : FuncData}
    {f_reg : Addr} {fd_reg : FuncData}
    {wW : Addr} {dW : Option Addr} {nW : Nat} {sW : Array (Option Value)} {tW0 tW1 tW2 : Tok}
    {tMC : Tok}
    {tML : Tok}
    {tLP : Tok}
    {tLN : Tok}
    {tMP : Tok}
    {tMN : Tok}
    (gCS : PySem.W.nsIn K mainGlobals "System" = some (some (.ref CS)))
    (pgS : PySem.W.plainGet K CS Str.empty = true)
    (hdS : PySem.W.hasDictIn K CS = true)
    (poS : PySem.W.plainOver K CS = true)
    (saS : PySem.W.findIn K (.ref CS) "__setattr__" = some (some (.builtin "object.__setattr__")))
    (mkS : PySem.W.makesIn K CS = true)
    (kcS : PySem.W.keepIn K (.ref CS) = true)
    (noS0 : PySem.W.findIn K (.ref CS) "process_limit" = some none)
    (noS1 : PySem.W.findIn K (.ref CS) "number_limit" = some none)
    (noS2 : PySem.W.findIn K (.ref CS) "tables" = some none)
    (noS3 : PySem.W.findIn K (.ref CS) "sources" = some none)
    (noS4 : PySem.W.findIn K (.ref CS) "sets" = some none)
    (noS5 : PySem.W.findIn K (.ref CS) "next_thing" = some none)
    (gCW : PySem.W.nsIn K mainGlobals "WaitingSet" = some (some (.ref CW)))
    (pgW : PySem.W.plainGet K CW Str.empty = true)
    (hdW : PySem.W.hasDictIn K CW = true)
    (poW : PySem.W.plainOver K CW = true)
    (saW : PySem.W.findIn K (.ref CW) "__setattr__" = some (some (.builtin "object.__setattr__")))
    (mkW : PySem.W.makesIn K CW = true)
    (kcW : PySem.W.keepIn K (.ref CW) = true)
    (noW0 : PySem.W.findIn K (.ref CW) "entries" = some none)
    (noW1 : PySem.W.findIn K (.ref CW) "queue" = some none)
    (gCR : PySem.W.nsIn K mainGlobals "Registration" = some (some (.ref CR)))
    (pgR : PySem.W.plainGet K CR Str.empty = true)
    (hdR : PySem.W.hasDictIn K CR = true)
    (poR : PySem.W.plainOver K CR = true)
    (saR : PySem.W.findIn K (.ref CR) "__setattr__" = some (some (.builtin "object.__setattr__")))
    (mkR : PySem.W.makesIn K CR = true)
    (kcR : PySem.W.keepIn K (.ref CR) = true)
    (noR0 : PySem.W.findIn K (.ref CR) "number" = some none)
    (noR1 : PySem.W.findIn K (.ref CR) "source" = some none)
    (noR2 : PySem.W.findIn K (.ref CR) "word" = some none)
    (noR3 : PySem.W.findIn K (.ref CR) "armed" = some none)
    (nWR : CW ≠ CR)
    (gCRg : PySem.W.nsIn K mainGlobals "Registered" = some (some (.ref CRg)))
    (xLRg : K.lookup CRg = some (excClassObj nmRg qRg CRg NRg bsRg [.type "RuntimeError", .type "Exception", .type "BaseException", .type "object"] true snRg subRg abRg colRg ddRg maRg mbRg mcRg mdRg meRg "RuntimeError.__new__"))
    (xsaRg : PySem.W.findIn K (.ref CRg) "__setattr__" = some (some (.builtin "object.__setattr__")))
    (xgaRg : PySem.W.findIn K (.ref CRg) "__getattribute__" = some (some (.builtin "BaseException.__getattribute__")))
    (xggRg : PySem.W.findIn K (.ref CRg) "__getattr__" = some none)
    (xnbRg0 : PySem.W.findIn K (.ref CRg) "number" = some none)
    (xvVRg : PySem.W.findCls K (.type "RuntimeError") (.type "type") "__init__" = some (.val (.builtin "RuntimeError.__init__")))
    (xkCRg : PySem.W.keepIn K (.ref CRg) = true)
    (xeCRg : PySem.W.subIn K (.ref CRg) (.type "BaseException") = some true)
    (xtCRg : PySem.W.typeIn K (.ref CRg) = some (.type "type"))
    (xhCRg : PySem.W.hasDictIn K CRg = true)
    (xteRg : PySem.W.exmOne K (.ref CRg) (.ref CRg) = some true)
    (xC1Rg : PySem.W.findIn K (.ref CRg) "__class__" = some (some (.builtin "object.__class__")))
    (xC4Rg : PySem.W.mroIn K CRg (.type "object") = some true)
    (xC5Rg : (PySem.W.clsIn K CRg).isSome = true)
    (xkvRg : PySem.W.kitOne K (.ref CRg) (.type "RuntimeError") = some true)
    (xC2 : PySem.W.specialIn K (.builtin "object.__class__") "__get__" = some (some (.builtin "getset_descriptor.__get__")))
    (xC3 : PySem.W.takesIn K (.builtin "object.__class__") = some true)
    (gCNr : PySem.W.nsIn K mainGlobals "NotRegistered" = some (some (.ref CNr)))
    (xLNr : K.lookup CNr = some (excClassObj nmNr qNr CNr NNr bsNr [.type "LookupError", .type "Exception", .type "BaseException", .type "object"] true snNr subNr abNr colNr ddNr maNr mbNr mcNr mdNr meNr "LookupError.__new__"))
    (xsaNr : PySem.W.findIn K (.ref CNr) "__setattr__" = some (some (.builtin "object.__setattr__")))
    (xgaNr : PySem.W.findIn K (.ref CNr) "__getattribute__" = some (some (.builtin "BaseException.__getattribute__")))
    (xggNr : PySem.W.findIn K (.ref CNr) "__getattr__" = some none)
    (xnbNr0 : PySem.W.findIn K (.ref CNr) "number" = some none)
    (xvVNr : PySem.W.findCls K (.type "LookupError") (.type "type") "__init__" = some (.val (.builtin "LookupError.__init__")))
    (xkCNr : PySem.W.keepIn K (.ref CNr) = true)
    (xeCNr : PySem.W.subIn K (.ref CNr) (.type "BaseException") = some true)
    (xtCNr : PySem.W.typeIn K (.ref CNr) = some (.type "type"))
    (xhCNr : PySem.W.hasDictIn K CNr = true)
    (xteNr : PySem.W.exmOne K (.ref CNr) (.ref CNr) = some true)
    (xC1Nr : PySem.W.findIn K (.ref CNr) "__class__" = some (some (.builtin "object.__class__")))
    (xC4Nr : PySem.W.mroIn K CNr (.type "object") = some true)
    (xC5Nr : (PySem.W.clsIn K CNr).isSome = true)
    (xkvNr : PySem.W.kitOne K (.ref CNr) (.type "LookupError") = some true)
    (aint : PySem.W.nsIn K mainGlobals "is_integer" = some (some (.ref f_int)))
    (kint : PySem.W.keepIn K (.ref f_int) = true)
    (F0int : FunD K "is_integer" "is_integer" (defArgs sIsInteger) (defBody sIsInteger) (defScope sIsInteger) ([] : List V) ([] : List (Str × V)) f_int fd_int)
    (abet : PySem.W.nsIn K mainGlobals "is_between" = some (some (.ref f_bet)))
    (kbet : PySem.W.keepIn K (.ref f_bet) = true)
    (F0bet : FunD K "is_between" "is_between" (defArgs sIsBetween) (defBody sIsBetween) (defScope sIsBetween) ([] : List V) ([] : List (Str × V)) f_bet fd_bet)
    (acnt : PySem.W.nsIn K mainGlobals "is_count" = some (some (.ref f_cnt)))
    (kcnt : PySem.W.keepIn K (.ref f_cnt) = true)
    (F0cnt : FunD K "is_count" "is_count" (defArgs sIsCount) (defBody sIsCount) (defScope sIsCount) ([] : List V) ([] : List (Str × V)) f_cnt fd_cnt)
    (alab : PySem.W.nsIn K mainGlobals "is_label" = some (some (.ref f_lab)))
    (klab : PySem.W.keepIn K (.ref f_lab) = true)
    (F0lab : FunD K "is_label" "is_label" (defArgs sIsLabel) (defBody sIsLabel) (defScope sIsLabel) ([] : List V) ([] : List (Str × V)) f_lab fd_lab)
    (awrd : PySem.W.nsIn K mainGlobals "is_word" = some (some (.ref f_wrd)))
    (kwrd : PySem.W.keepIn K (.ref f_wrd) = true)
    (F0wrd : FunD K "is_word" "is_word" (defArgs sIsWord) (defBody sIsWord) (defScope sIsWord) ([] : List V) ([] : List (Str × V)) f_wrd fd_wrd)
    (abag : PySem.W.nsIn K mainGlobals "_law_bag" = some (some (.ref f_bag)))
    (kbag : PySem.W.keepIn K (.ref f_bag) = true)
    (F0bag : FunD K "_law_bag" "_law_bag" (defArgs sBag) (defBody sBag) (defScope sBag) ([] : List V) ([] : List (Str × V)) f_bag fd_bag)
    (atake : PySem.W.nsIn K mainGlobals "_law_take" = some (some (.ref f_take)))
    (ktake : PySem.W.keepIn K (.ref f_take) = true)
    (F0take : FunD K "_law_take" "_law_take" (defArgs sTake) (defBody sTake) (defScope sTake) ([] : List V) ([] : List (Str × V)) f_take fd_take)
    (aout : PySem.W.nsIn K mainGlobals "_law_outcome" = some (some (.ref f_out)))
    (kout : PySem.W.keepIn K (.ref f_out) = true)
    (F0out : FunD K "_law_outcome" "_law_outcome" (defArgs sOutcome) (defBody sOutcome) (defScope sOutcome) ([] : List V) ([] : List (Str × V)) f_out fd_out)
    (ahom : PySem.W.nsIn K mainGlobals "_law_home" = some (some (.ref f_hom)))
    (khom : PySem.W.keepIn K (.ref f_hom) = true)
    (F0hom : FunD K "_law_home" "_law_home" (defArgs sHome) (defBody sHome) (defScope sHome) ([] : List V) ([] : List (Str × V)) f_hom fd_hom)
    (alad : PySem.W.nsIn K mainGlobals "_law_added" = some (some (.ref f_lad)))
    (klad : PySem.W.keepIn K (.ref f_lad) = true)
    (F0lad : FunD K "_law_added" "_law_added" (defArgs sAdded) (defBody sAdded) (defScope sAdded) ([] : List V) ([] : List (Str × V)) f_lad fd_lad)
    (adon : PySem.W.nsIn K mainGlobals "_law_done" = some (some (.ref f_don)))
    (kdon : PySem.W.keepIn K (.ref f_don) = true)
    (F0don : FunD K "_law_done" "_law_done" (defArgs sDone) (defBody sDone) (defScope sDone) ([] : List V) ([] : List (Str × V)) f_don fd_don)
    (hcddon : cdV K f_don = some (.ref c_don))
    (aisl : PySem.W.nsIn K mainGlobals "_law_is_level" = some (some (.ref f_isl)))
    (kisl : PySem.W.keepIn K (.ref f_isl) = true)
    (F0isl : FunD K "_law_is_level" "_law_is_level" (defArgs sIsLevel) (defBody sIsLevel) (defScope sIsLevel) ([] : List V) ([] : List (Str × V)) f_isl fd_isl)
    (alaw : PySem.W.nsIn K mainGlobals "law" = some (some (.ref f_law)))
    (klaw : PySem.W.keepIn K (.ref f_law) = true)
    (F0law : FunD K "law" "law" (defArgs sLaw) (defBody sLaw) (defScope sLaw) ([] : List V) ([] : List (Str × V)) f_law fd_law)
    (axrg : PySem.W.findIn K (.ref CRg) "__init__" = some (some (.ref f_xrg)))
    (ixrg : PySem.W.isFn K (.ref f_xrg) = true)
    (kxrg : PySem.W.keepIn K (.ref f_xrg) = true)
    (F0xrg : FunD K "__init__" "Registered.__init__" (defArgs sRegisteredInit) (defBody sRegisteredInit) (defScope sRegisteredInit) ([] : List V) ([] : List (Str × V)) f_xrg fd_xrg)
    (axnr : PySem.W.findIn K (.ref CNr) "__init__" = some (some (.ref f_xnr)))
    (ixnr : PySem.W.isFn K (.ref f_xnr) = true)
    (kxnr : PySem.W.keepIn K (.ref f_xnr) = true)
    (F0xnr : FunD K "__init__" "NotRegistered.__init__" (defArgs sNotRegisteredInit) (defBody sNotRegisteredInit) (defScope sNotRegisteredInit) ([] : List V) ([] : List (Str × V)) f_xnr fd_xnr)
    (ari : PySem.W.findIn K (.ref CR) "__init__" = some (some (.ref f_ri)))
    (iri : PySem.W.isFn K (.ref f_ri) = true)
    (kri : PySem.W.keepIn K (.ref f_ri) = true)
    (F0ri : FunD K "__init__" "Registration.__init__" (defArgs sRegInit) (defBody sRegInit) (defScope sRegInit) ([] : List V) ([] : List (Str × V)) f_ri fd_ri)
    (awi : PySem.W.findIn K (.ref CW) "__init__" = some (some (.ref f_wi)))
    (iwi : PySem.W.isFn K (.ref f_wi) = true)
    (kwi : PySem.W.keepIn K (.ref f_wi) = true)
    (F0wi : FunD K "__init__" "WaitingSet.__init__" (defArgs sWsInit) (defBody sWsInit) (defScope sWsInit) ([] : List V) ([] : List (Str × V)) f_wi fd_wi)
    (alof : PySem.W.findIn K (.ref CW) "label_of" = some (some (.ref f_lof)))
    (ilof : PySem.W.isFn K (.ref f_lof) = true)
    (klof : PySem.W.keepIn K (.ref f_lof) = true)
    (F0lof : FunD K "label_of" "WaitingSet.label_of" (defArgs sLabelOf) (defBody sLabelOf) (defScope sLabelOf) ([] : List V) ([] : List (Str × V)) f_lof fd_lof)
    (aput : PySem.W.findIn K (.ref CW) "put" = some (some (.ref f_put)))
    (iput : PySem.W.isFn K (.ref f_put) = true)
    (kput : PySem.W.keepIn K (.ref f_put) = true)
    (F0put : FunD K "put" "WaitingSet.put" (defArgs sPut) (defBody sPut) (defScope sPut) ([] : List V) ([] : List (Str × V)) f_put fd_put)
    (aapp : PySem.W.findIn K (.ref CW) "append_pending" = some (some (.ref f_app)))
    (iapp : PySem.W.isFn K (.ref f_app) = true)
    (kapp : PySem.W.keepIn K (.ref f_app) = true)
    (F0app : FunD K "append_pending" "WaitingSet.append_pending" (defArgs sAppend) (defBody sAppend) (defScope sAppend) ([] : List V) ([] : List (Str × V)) f_app fd_app)
    (adrp : PySem.W.findIn K (.ref CW) "drop" = some (some (.ref f_drp)))
    (idrp : PySem.W.isFn K (.ref f_drp) = true)
    (kdrp : PySem.W.keepIn K (.ref f_drp) = true)
    (F0drp : FunD K "drop" "WaitingSet.drop" (defArgs sDrop) (defBody sDrop) (defScope sDrop) ([] : List V) ([] : List (Str × V)) f_drp fd_drp)
    (antc : PySem.W.findIn K (.ref CW) "notice" = some (some (.ref f_ntc)))
    (intc : PySem.W.isFn K (.ref f_ntc) = true)
    (kntc : PySem.W.keepIn K (.ref f_ntc) = true)
    (F0ntc : FunD K "notice" "WaitingSet.notice" (defArgs sNotice) (defBody sNotice) (defScope sNotice) ([] : List V) ([] : List (Str × V)) f_ntc fd_ntc)
    (arep : PySem.W.findIn K (.ref CW) "take_reports" = some (some (.ref f_rep)))
    (irep : PySem.W.isFn K (.ref f_rep) = true)
    (krep : PySem.W.keepIn K (.ref f_rep) = true)
    (F0rep : FunD K "take_reports" "WaitingSet.take_reports" (defArgs sReports) (defBody sReports) (defScope sReports) ([] : List V) ([] : List (Str × V)) f_rep fd_rep)
    (astl : PySem.W.findIn K (.ref CW) "settle" = some (some (.ref f_stl)))
    (istl : PySem.W.isFn K (.ref f_stl) = true)
    (kstl : PySem.W.keepIn K (.ref f_stl) = true)
    (F0stl : FunD K "settle" "WaitingSet.settle" (defArgs sSettle) (defBody sSettle) (defScope sSettle) ([] : List V) ([] : List (Str × V)) f_stl fd_stl)
    (asi : PySem.W.findIn K (.ref CS) "__init__" = some (some (.ref f_si)))
    (isi : PySem.W.isFn K (.ref f_si) = true)
    (ksi : PySem.W.keepIn K (.ref f_si) = true)
    (F0si : FunD K "__init__" "System.__init__" (defArgs sSysInit) (defBody sSysInit) (defScope sSysInit) ([] : List V) ([("processes", V.int 4), ("numbers", V.int 8)] : List (Str × V)) f_si fd_si)
    (acon : PySem.W.findIn K (.ref CS) "__contains__" = some (some (.ref f_con)))
    (icon : PySem.W.isFn K (.ref f_con) = true)
    (kcon : PySem.W.keepIn K (.ref f_con) = true)
    (F0con : FunD K "__contains__" "System.__contains__" (defArgs sContains) (defBody sContains) (defScope sContains) ([] : List V) ([] : List (Str × V)) f_con fd_con)
    (atof : PySem.W.findIn K (.ref CS) "table_of" = some (some (.ref f_tof)))
    (itof : PySem.W.isFn K (.ref f_tof) = true)
    (ktof : PySem.W.keepIn K (.ref f_tof) = true)
    (F0tof : FunD K "table_of" "System.table_of" (defArgs sTableOf) (defBody sTableOf) (defScope sTableOf) ([] : List V) ([] : List (Str × V)) f_tof fd_tof)
    (aitn : PySem.W.findIn K (.ref CS) "is_table_number" = some (some (.ref f_itn)))
    (iitn : PySem.W.isFn K (.ref f_itn) = true)
    (kitn : PySem.W.keepIn K (.ref f_itn) = true)
    (F0itn : FunD K "is_table_number" "System.is_table_number" (defArgs sIsTabNum) (defBody sIsTabNum) (defScope sIsTabNum) ([] : List V) ([] : List (Str × V)) f_itn fd_itn)
    (atha : PySem.W.findIn K (.ref CS) "thing_at" = some (some (.ref f_tha)))
    (itha : PySem.W.isFn K (.ref f_tha) = true)
    (ktha : PySem.W.keepIn K (.ref f_tha) = true)
    (F0tha : FunD K "thing_at" "System.thing_at" (defArgs sThingAt) (defBody sThingAt) (defScope sThingAt) ([] : List V) ([] : List (Str × V)) f_tha fd_tha)
    (asra : PySem.W.findIn K (.ref CS) "source_at" = some (some (.ref f_sra)))
    (isra : PySem.W.isFn K (.ref f_sra) = true)
    (ksra : PySem.W.keepIn K (.ref f_sra) = true)
    (F0sra : FunD K "source_at" "System.source_at" (defArgs sSourceAt) (defBody sSourceAt) (defScope sSourceAt) ([] : List V) ([] : List (Str × V)) f_sra fd_sra)
    (asta : PySem.W.findIn K (.ref CS) "set_at" = some (some (.ref f_sta)))
    (ista : PySem.W.isFn K (.ref f_sta) = true)
    (ksta : PySem.W.keepIn K (.ref f_sta) = true)
    (F0sta : FunD K "set_at" "System.set_at" (defArgs sSetAt) (defBody sSetAt) (defScope sSetAt) ([] : List V) ([] : List (Str × V)) f_sta fd_sta)
    (afrn : PySem.W.findIn K (.ref CS) "free_number" = some (some (.ref f_frn)))
    (ifrn : PySem.W.isFn K (.ref f_frn) = true)
    (kfrn : PySem.W.keepIn K (.ref f_frn) = true)
    (F0frn : FunD K "free_number" "System.free_number" (defArgs sFreeNum) (defBody sFreeNum) (defScope sFreeNum) ([] : List V) ([] : List (Str × V)) f_frn fd_frn)
    (anth : PySem.W.findIn K (.ref CS) "new_thing" = some (some (.ref f_nth)))
    (inth : PySem.W.isFn K (.ref f_nth) = true)
    (knth : PySem.W.keepIn K (.ref f_nth) = true)
    (F0nth : FunD K "new_thing" "System.new_thing" (defArgs sNewThing) (defBody sNewThing) (defScope sNewThing) ([] : List V) ([] : List (Str × V)) f_nth fd_nth)
    (anso : PySem.W.findIn K (.ref CS) "new_source" = some (some (.ref f_nso)))
    (inso : PySem.W.isFn K (.ref f_nso) = true)
    (knso : PySem.W.keepIn K (.ref f_nso) = true)
    (F0nso : FunD K "new_source" "System.new_source" (defArgs sNewSource) (defBody sNewSource) (defScope sNewSource) ([] : List V) ([] : List (Str × V)) f_nso fd_nso)
    (anse : PySem.W.findIn K (.ref CS) "new_set" = some (some (.ref f_nse)))
    (inse : PySem.W.isFn K (.ref f_nse) = true)
    (knse : PySem.W.keepIn K (.ref f_nse) = true)
    (F0nse : FunD K "new_set" "System.new_set" (defArgs sNewSet) (defBody sNewSet) (defScope sNewSet) ([] : List V) ([] : List (Str × V)) f_nse fd_nse)
    (ardy : PySem.W.findIn K (.ref CS) "is_ready" = some (some (.ref f_rdy)))
    (irdy : PySem.W.isFn K (.ref f_rdy) = true)
    (krdy : PySem.W.keepIn K (.ref f_rdy) = true)
    (F0rdy : FunD K "is_ready" "System.is_ready" (defArgs sIsReady) (defBody sIsReady) (defScope sIsReady) ([] : List V) ([] : List (Str × V)) f_rdy fd_rdy)
    (aunf : PySem.W.findIn K (.ref CS) "unread_of_unfinished" = some (some (.ref f_unf)))
    (iunf : PySem.W.isFn K (.ref f_unf) = true)
    (kunf : PySem.W.keepIn K (.ref f_unf) = true)
    (F0unf : FunD K "unread_of_unfinished" "System.unread_of_unfinished" (defArgs sUnfinished) (defBody sUnfinished) (defScope sUnfinished) ([] : List V) ([] : List (Str × V)) f_unf fd_unf)
    (anfy : PySem.W.findIn K (.ref CS) "notify" = some (some (.ref f_nfy)))
    (infy : PySem.W.isFn K (.ref f_nfy) = true)
    (knfy : PySem.W.keepIn K (.ref f_nfy) = true)
    (F0nfy : FunD K "notify" "System.notify" (defArgs sNotify) (defBody sNotify) (defScope sNotify) ([] : List V) ([] : List (Str × V)) f_nfy fd_nfy)
    (aarr : PySem.W.findIn K (.ref CS) "arrive" = some (some (.ref f_arr)))
    (iarr : PySem.W.isFn K (.ref f_arr) = true)
    (karr : PySem.W.keepIn K (.ref f_arr) = true)
    (F0arr : FunD K "arrive" "System.arrive" (defArgs sArrive) (defBody sArrive) (defScope sArrive) ([V.int 1] : List V) ([] : List (Str × V)) f_arr fd_arr)
    (awai : PySem.W.findIn K (.ref CS) "wait" = some (some (.ref f_wai)))
    (iwai : PySem.W.isFn K (.ref f_wai) = true)
    (kwai : PySem.W.keepIn K (.ref f_wai) = true)
    (F0wai : FunD K "wait" "System.wait" (defArgs sWait) (defBody sWait) (defScope sWait) ([V.int 1] : List V) ([] : List (Str × V)) f_wai fd_wai)
    (arow : PySem.W.findIn K (.ref CS) "row_of" = some (some (.ref f_row)))
    (irow : PySem.W.isFn K (.ref f_row) = true)
    (krow : PySem.W.keepIn K (.ref f_row) = true)
    (F0row : FunD K "row_of" "System.row_of" (defArgs sRowOf) (defBody sRowOf) (defScope sRowOf) ([] : List V) ([] : List (Str × V)) f_row fd_row)
    (aadd : PySem.W.findIn K (.ref CS) "add" = some (some (.ref f_add)))
    (iadd : PySem.W.isFn K (.ref f_add) = true)
    (kadd : PySem.W.keepIn K (.ref f_add) = true)
    (F0add : FunD K "add" "System.add" (defArgs sAdd) (defBody sAdd) (defScope sAdd) ([] : List V) ([("word", V.str "level")] : List (Str × V)) f_add fd_add)
    (achg : PySem.W.findIn K (.ref CS) "change" = some (some (.ref f_chg)))
    (ichg : PySem.W.isFn K (.ref f_chg) = true)
    (kchg : PySem.W.keepIn K (.ref f_chg) = true)
    (F0chg : FunD K "change" "System.change" (defArgs sChange) (defBody sChange) (defScope sChange) ([] : List V) ([] : List (Str × V)) f_chg fd_chg)
    (arem : PySem.W.findIn K (.ref CS) "remove" = some (some (.ref f_rem)))
    (irem : PySem.W.isFn K (.ref f_rem) = true)
    (krem : PySem.W.keepIn K (.ref f_rem) = true)
    (F0rem : FunD K "remove" "System.remove" (defArgs sRemove) (defBody sRemove) (defScope sRemove) ([] : List V) ([] : List (Str × V)) f_rem fd_rem)
    (afre : PySem.W.findIn K (.ref CS) "free" = some (some (.ref f_fre)))
    (ifre : PySem.W.isFn K (.ref f_fre) = true)
    (kfre : PySem.W.keepIn K (.ref f_fre) = true)
    (F0fre : FunD K "free" "System.free" (defArgs sFree) (defBody sFree) (defScope sFree) ([] : List V) ([] : List (Str × V)) f_fre fd_fre)
    (aclo : PySem.W.findIn K (.ref CS) "close" = some (some (.ref f_clo)))
    (iclo : PySem.W.isFn K (.ref f_clo) = true)
    (kclo : PySem.W.keepIn K (.ref f_clo) = true)
    (F0clo : FunD K "close" "System.close" (defArgs sClose) (defBody sClose) (defScope sClose) ([] : List V) ([] : List (Str × V)) f_clo fd_clo)
    (acpy : PySem.W.findIn K (.ref CS) "copy" = some (some (.ref f_cpy)))
    (icpy : PySem.W.isFn K (.ref f_cpy) = true)
    (kcpy : PySem.W.keepIn K (.ref f_cpy) = true)
    (F0cpy : FunD K "copy" "System.copy" (defArgs sCopy) (defBody sCopy) (defScope sCopy) ([V.non] : List V) ([] : List (Str × V)) f_cpy fd_cpy)
    (afrp : PySem.W.findIn K (.ref CS) "free_process" = some (some (.ref f_frp)))
    (ifrp : PySem.W.isFn K (.ref f_frp) = true)
    (kfrp : PySem.W.keepIn K (.ref f_frp) = true)
    (F0frp : FunD K "free_process" "System.free_process" (defArgs sFreeProc) (defBody sFreeProc) (defScope sFreeProc) ([] : List V) ([] : List (Str × V)) f_frp fd_frp)
    (afrk : PySem.W.findIn K (.ref CS) "fork" = some (some (.ref f_frk)))
    (ifrk : PySem.W.isFn K (.ref f_frk) = true)
    (kfrk : PySem.W.keepIn K (.ref f_frk) = true)
    (F0frk : FunD K "fork" "System.fork" (defArgs sFork) (defBody sFork) (defScope sFork) ([] : List V) ([] : List (Str × V)) f_frk fd_frk)
    (atng : PySem.W.findIn K (.ref CS) "things" = some (some (.ref f_tng)))
    (itng : PySem.W.isFn K (.ref f_tng) = true)
    (ktng : PySem.W.keepIn K (.ref f_tng) = true)
    (F0tng : FunD K "things" "System.things" (defArgs sThings) (defBody sThings) (defScope sThings) ([] : List V) ([] : List (Str × V)) f_tng fd_tng)
    (anof : PySem.W.findIn K (.ref CS) "numbers_of" = some (some (.ref f_nof)))
    (inof : PySem.W.isFn K (.ref f_nof) = true)
    (knof : PySem.W.keepIn K (.ref f_nof) = true)
    (F0nof : FunD K "numbers_of" "System.numbers_of" (defArgs sNumbersOf) (defBody sNumbersOf) (defScope sNumbersOf) ([] : List V) ([] : List (Str × V)) f_nof fd_nof)
    (anam : PySem.W.findIn K (.ref CS) "name_of" = some (some (.ref f_nam)))
    (inam : PySem.W.isFn K (.ref f_nam) = true)
    (knam : PySem.W.keepIn K (.ref f_nam) = true)
    (F0nam : FunD K "name_of" "System.name_of" (defArgs sNameOf) (defBody sNameOf) (defScope sNameOf) ([] : List V) ([] : List (Str × V)) f_nam fd_nam)
    (areg : PySem.W.findIn K (.ref CS) "registrations" = some (some (.ref f_reg)))
    (ireg : PySem.W.isFn K (.ref f_reg) = true)
    (kreg : PySem.W.keepIn K (.ref f_reg) = true)
    (F0reg : FunD K "registrations" "System.registrations" (defArgs sRegistrations) (defBody sRegistrations) (defScope sRegistrations) ([] : List V) ([] : List (Str × V)) f_reg fd_reg)
    (xtIRg : PySem.W.typeIn K (.ref f_xrg) = some (.type "function"))
    (xtINr : PySem.W.typeIn K (.ref f_xnr) = some (.type "function"))
    (xNrRg : PySem.W.exmOne K (.ref CNr) (.ref CRg) = some false)
    (z_len : PySem.W.nsIn K mainGlobals "len" = some none)
    (z_enumerate : PySem.W.nsIn K mainGlobals "enumerate" = some none)
    (z_int : PySem.W.nsIn K mainGlobals "int" = some none)
    (z_abs : PySem.W.nsIn K mainGlobals "abs" = some none)
    (z_isinstance : PySem.W.nsIn K mainGlobals "isinstance" = some none)
    (z_bool : PySem.W.nsIn K mainGlobals "bool" = some none)
    (z_list : PySem.W.nsIn K mainGlobals "list" = some none)
    (z_min : PySem.W.nsIn K mainGlobals "min" = some none)
    (z_max : PySem.W.nsIn K mainGlobals "max" = some none)
    (z_range : PySem.W.nsIn K mainGlobals "range" = some none)
    (z_sorted : PySem.W.nsIn K mainGlobals "sorted" = some none)
    (z_repr : PySem.W.nsIn K mainGlobals "repr" = some none)
    (z_any : PySem.W.nsIn K mainGlobals "any" = some none)
    (z_LookupError : PySem.W.nsIn K mainGlobals "LookupError" = some none)
    (z_RuntimeError : PySem.W.nsIn K mainGlobals "RuntimeError" = some none)
    (wA : PySem.W.nsIn K mainGlobals "WORDS" = some (some (.ref wW)))
    (LW0 : K.lookup wW = some ⟨.type "tuple", dW, .seq #[.str "level" tW0, .str "edge" tW1, .str "once" tW2] nW, sW⟩)
    (gMC : PySem.W.nsIn K mainGlobals "MOST_COUNT" = some (some (.int 1000000 tMC)))
    (gML : PySem.W.nsIn K mainGlobals "MOST_LABEL" = some (some (.int 999999 tML)))
    (gLP : PySem.W.nsIn K mainGlobals "LEAST_PROCESSES" = some (some (.int 2 tLP)))
    (gLN : PySem.W.nsIn K mainGlobals "LEAST_NUMBERS" = some (some (.int 3 tLN)))
    (gMP : PySem.W.findIn K (.ref CS) "MOST_PROCESSES" = some (some (.int 6 tMP)))
    (sMP : PySem.W.specialIn K (.int 6 tMP) "__get__" = some none)
    (gMN : PySem.W.findIn K (.ref CS) "MOST_NUMBERS" = some (some (.int 8 tMN)))
    (sMN : PySem.W.specialIn K (.int 8 tMN) "__get__" = some none)
    (xhddon : PySem.W.codeHdIn K c_don Pt = true)
    (xb3 : mainGlobals ≠ Pt) :
    ∃ fd : FuncData, (∀ (s : Shared) (u : Value), BindsTo s fd ⟨[u], []⟩ [("_law_script", u)]) ∧ (∀ base : Heap, K.In base → base.Ns mainGlobals mg → base.BuiltinsAt mg Pt → FnG P w K mg base CX0 10 fa fd ["_law_script"] (spLaw K Pt)) ∧
      ∀ (H : Hp) (a : Addr) (ns : List Int), ns.length ≤ 63 → SqL K H a (ns.map V.int) → H Pt = some (.tbl #[]) → spLaw K Pt [.ref a] H (fun v _ => v = .bl true) fun _ _ _ => False := by
  have e := hfa.symm.trans (PySem.W.mg_of X G alaw)
  cases e
  obtain ⟨oc_int, od_int, kV_int, dc_int, pm_int, an_int, cd_int, ct_int, sl_int, ef_int, lk_int, hc_int⟩ := (fun_of F0int).ex
  subst ef_int
  have Fint := fun_of (st := sIsInteger) F0int
  have bint := Fint.binds (ps := ["x"]) fun _ _ _ _ _ _ us hl => by
    obtain ⟨_, rfl⟩ := Ln1 hl
    rfl
  have mint := PySem.W.mg_of X G aint
  obtain ⟨oc_bet, od_bet, kV_bet, dc_bet, pm_bet, an_bet, cd_bet, ct_bet, sl_bet, ef_bet, lk_bet, hc_bet⟩ := (fun_of F0bet).ex
  subst ef_bet
  have Fbet := fun_of (st := sIsBetween) F0bet
  have bbet := Fbet.binds (ps := ["x", "least", "most"]) fun _ _ _ _ _ _ us hl => by
    obtain ⟨_, _, _, rfl⟩ := Ln3 hl
    rfl
  have mbet := PySem.W.mg_of X G abet
  obtain ⟨oc_cnt, od_cnt, kV_cnt, dc_cnt, pm_cnt, an_cnt, cd_cnt, ct_cnt, sl_cnt, ef_cnt, lk_cnt, hc_cnt⟩ := (fun_of F0cnt).ex
  subst ef_cnt
  have Fcnt := fun_of (st := sIsCount) F0cnt
  have bcnt := Fcnt.binds (ps := ["x"]) fun _ _ _ _ _ _ us hl => by
    obtain ⟨_, rfl⟩ := Ln1 hl
    rfl
  have mcnt := PySem.W.mg_of X G acnt
  obtain ⟨oc_lab, od_lab, kV_lab, dc_lab, pm_lab, an_lab, cd_lab, ct_lab, sl_lab, ef_lab, lk_lab, hc_lab⟩ := (fun_of F0lab).ex
  subst ef_lab
  have Flab := fun_of (st := sIsLabel) F0lab
  have blab := Flab.binds (ps := ["x"]) fun _ _ _ _ _ _ us hl => by
    obtain ⟨_, rfl⟩ := Ln1 hl
    rfl
  have mlab := PySem.W.mg_of X G alab
  obtain ⟨oc_wrd, od_wrd, kV_wrd, dc_wrd, pm_wrd, an_wrd, cd_wrd, ct_wrd, sl_wrd, ef_wrd, lk_wrd, hc_wrd⟩ := (fun_of F0wrd).ex
  subst ef_wrd
  have Fwrd := fun_of (st := sIsWord) F0wrd
  have bwrd := Fwrd.binds (ps := ["x"]) fun _ _ _ _ _ _ us hl => by
    obtain ⟨_, rfl⟩ := Ln1 hl
    rfl
  have mwrd := PySem.W.mg_of X G awrd
  obtain ⟨oc_bag, od_bag, kV_bag, dc_bag, pm_bag, an_bag, cd_bag, ct_bag, sl_bag, ef_bag, lk_bag, hc_bag⟩ := (fun_of F0bag).ex
  subst ef_bag
  have Fbag := fun_of (st := sBag) F0bag
  have bbag := Fbag.binds (ps := ["_law_script", "_law_at"]) fun _ _ _ _ _ _ us hl => by
    obtain ⟨_, _, rfl⟩ := Ln2 hl
    rfl
  have mbag := PySem.W.mg_of X G abag
  obtain ⟨oc_take, od_take, kV_take, dc_take, pm_take, an_take, cd_take, ct_take, sl_take, ef_take, lk_take, hc_take⟩ := (fun_of F0take).ex
  subst ef_take
  have Ftake := fun_of (st := sTake) F0take
  have btake := Ftake.binds (ps := ["_law_bag_here", "_law_many"]) fun _ _ _ _ _ _ us hl => by
    obtain ⟨_, _, rfl⟩ := Ln2 hl
    rfl
  have mtake := PySem.W.mg_of X G atake
  obtain ⟨oc_out, od_out, kV_out, dc_out, pm_out, an_out, cd_out, ct_out, sl_out, ef_out, lk_out, hc_out⟩ := (fun_of F0out).ex
  subst ef_out
  have Fout := fun_of (st := sOutcome) F0out
  have bout := Fout.binds (ps := ["_law_deed"]) fun _ _ _ _ _ _ us hl => by
    obtain ⟨_, rfl⟩ := Ln1 hl
    rfl
  have mout := PySem.W.mg_of X G aout
  obtain ⟨oc_hom, od_hom, kV_hom, dc_hom, pm_hom, an_hom, cd_hom, ct_hom, sl_hom, ef_hom, lk_hom, hc_hom⟩ := (fun_of F0hom).ex
  subst ef_hom
  have Fhom := fun_of (st := sHome) F0hom
  have bhom := Fhom.binds (ps := ["_law_bag_here"]) fun _ _ _ _ _ _ us hl => by
    obtain ⟨_, rfl⟩ := Ln1 hl
    rfl
  have mhom := PySem.W.mg_of X G ahom
  obtain ⟨oc_lad, od_lad, kV_lad, dc_lad, pm_lad, an_lad, cd_lad, ct_lad, sl_lad, ef_lad, lk_lad, hc_lad⟩ := (fun_of F0lad).ex
  subst ef_lad
  have Flad := fun_of (st := sAdded) F0lad
  have blad := Flad.binds (ps := ["_law_regs", "_law_n", "_law_source", "_law_label"]) fun _ _ _ _ _ _ us hl => by
    obtain ⟨_, _, _, _, rfl⟩ := Ln4 hl
    rfl
  have mlad := PySem.W.mg_of X G alad
  obtain ⟨oc_don, od_don, kV_don, dc_don, pm_don, an_don, cd_don, ct_don, sl_don, ef_don, lk_don, hc_don⟩ := (fun_of F0don).ex
  subst ef_don
  obtain rfl : cd_don = .ref c_don := by
    have e := hcddon
    unfold cdV at e
    rw [lk_don] at e
    exact Option.some.inj e
  have Fdon := fun_of (st := sDone) F0don
  have bdon := Fdon.binds (ps := ["_law_bag_here", "_law_box", "_law_tables", "_law_regs", "_law_label"]) fun _ _ _ _ _ _ us hl => by
    obtain ⟨_, _, _, _, _, rfl⟩ := Ln5 hl
    rfl
  have mdon := PySem.W.mg_of X G adon
  obtain ⟨oc_isl, od_isl, kV_isl, dc_isl, pm_isl, an_isl, cd_isl, ct_isl, sl_isl, ef_isl, lk_isl, hc_isl⟩ := (fun_of F0isl).ex
  subst ef_isl
  have Fisl := fun_of (st := sIsLevel) F0isl
  have bisl := Fisl.binds (ps := ["_law_regs", "_law_label"]) fun _ _ _ _ _ _ us hl => by
    obtain ⟨_, _, rfl⟩ := Ln2 hl
    rfl
  have misl := PySem.W.mg_of X G aisl
  obtain ⟨oc_law, od_law, kV_law, dc_law, pm_law, an_law, cd_law, ct_law, sl_law, ef_law, lk_law, hc_law⟩ := (fun_of F0law).ex
  subst ef_law
  have Flaw := fun_of (st := sLaw) F0law
  have blaw := Flaw.binds (ps := ["_law_script"]) fun _ _ _ _ _ _ us hl => by
    obtain ⟨_, rfl⟩ := Ln1 hl
    rfl
  have mlaw := PySem.W.mg_of X G alaw
  obtain ⟨oc_xrg, od_xrg, kV_xrg, dc_xrg, pm_xrg, an_xrg, cd_xrg, ct_xrg, sl_xrg, ef_xrg, lk_xrg, hc_xrg⟩ := (fun_of F0xrg).ex
  subst ef_xrg
  have Fxrg := fun_of (st := sRegisteredInit) F0xrg
  have bxrg := Fxrg.binds (ps := ["self", "number"]) fun _ _ _ _ _ _ us hl => by
    obtain ⟨_, _, rfl⟩ := Ln2 hl
    rfl
  obtain ⟨oc_xnr, od_xnr, kV_xnr, dc_xnr, pm_xnr, an_xnr, cd_xnr, ct_xnr, sl_xnr, ef_xnr, lk_xnr, hc_xnr⟩ := (fun_of F0xnr).ex
  subst ef_xnr
  have Fxnr := fun_of (st := sNotRegisteredInit) F0xnr
  have bxnr := Fxnr.binds (ps := ["self", "number"]) fun _ _ _ _ _ _ us hl => by
    obtain ⟨_, _, rfl⟩ := Ln2 hl
    rfl
  obtain ⟨oc_ri, od_ri, kV_ri, dc_ri, pm_ri, an_ri, cd_ri, ct_ri, sl_ri, ef_ri, lk_ri, hc_ri⟩ := (fun_of F0ri).ex
  subst ef_ri
  have Fri := fun_of (st := sRegInit) F0ri
  have bri := Fri.binds (ps := ["self", "number", "source", "word", "armed"]) fun _ _ _ _ _ _ us hl => by
    obtain ⟨_, _, _, _, _, rfl⟩ := Ln5 hl
    rfl
  obtain ⟨oc_wi, od_wi, kV_wi, dc_wi, pm_wi, an_wi, cd_wi, ct_wi, sl_wi, ef_wi, lk_wi, hc_wi⟩ := (fun_of F0wi).ex
  subst ef_wi
  have Fwi := fun_of (st := sWsInit) F0wi
  have bwi := Fwi.binds (ps := ["self"]) fun _ _ _ _ _ _ us hl => by
    obtain ⟨_, rfl⟩ := Ln1 hl
    rfl
  obtain ⟨oc_lof, od_lof, kV_lof, dc_lof, pm_lof, an_lof, cd_lof, ct_lof, sl_lof, ef_lof, lk_lof, hc_lof⟩ := (fun_of F0lof).ex
  subst ef_lof
  have Flof := fun_of (st := sLabelOf) F0lof
  have blof := Flof.binds (ps := ["self", "number", "source"]) fun _ _ _ _ _ _ us hl => by
    obtain ⟨_, _, _, rfl⟩ := Ln3 hl
    rfl
  obtain ⟨oc_put, od_put, kV_put, dc_put, pm_put, an_put, cd_put, ct_put, sl_put, ef_put, lk_put, hc_put⟩ := (fun_of F0put).ex
  subst ef_put
  have Fput := fun_of (st := sPut) F0put
  have bput := Fput.binds (ps := ["self", "label", "kept", "ready"]) fun _ _ _ _ _ _ us hl => by
    obtain ⟨_, _, _, _, rfl⟩ := Ln4 hl
    rfl
  obtain ⟨oc_app, od_app, kV_app, dc_app, pm_app, an_app, cd_app, ct_app, sl_app, ef_app, lk_app, hc_app⟩ := (fun_of F0app).ex
  subst ef_app
  have Fapp := fun_of (st := sAppend) F0app
  have bapp := Fapp.binds (ps := ["self", "label"]) fun _ _ _ _ _ _ us hl => by
    obtain ⟨_, _, rfl⟩ := Ln2 hl
    rfl
  obtain ⟨oc_drp, od_drp, kV_drp, dc_drp, pm_drp, an_drp, cd_drp, ct_drp, sl_drp, ef_drp, lk_drp, hc_drp⟩ := (fun_of F0drp).ex
  subst ef_drp
  have Fdrp := fun_of (st := sDrop) F0drp
  have bdrp := Fdrp.binds (ps := ["self", "label"]) fun _ _ _ _ _ _ us hl => by
    obtain ⟨_, _, rfl⟩ := Ln2 hl
    rfl
  obtain ⟨oc_ntc, od_ntc, kV_ntc, dc_ntc, pm_ntc, an_ntc, cd_ntc, ct_ntc, sl_ntc, ef_ntc, lk_ntc, hc_ntc⟩ := (fun_of F0ntc).ex
  subst ef_ntc
  have Fntc := fun_of (st := sNotice) F0ntc
  have bntc := Fntc.binds (ps := ["self", "source"]) fun _ _ _ _ _ _ us hl => by
    obtain ⟨_, _, rfl⟩ := Ln2 hl
    rfl
  obtain ⟨oc_rep, od_rep, kV_rep, dc_rep, pm_rep, an_rep, cd_rep, ct_rep, sl_rep, ef_rep, lk_rep, hc_rep⟩ := (fun_of F0rep).ex
  subst ef_rep
  have Frep := fun_of (st := sReports) F0rep
  have brep := Frep.binds (ps := ["self", "most", "sources"]) fun _ _ _ _ _ _ us hl => by
    obtain ⟨_, _, _, rfl⟩ := Ln3 hl
    rfl
  obtain ⟨oc_stl, od_stl, kV_stl, dc_stl, pm_stl, an_stl, cd_stl, ct_stl, sl_stl, ef_stl, lk_stl, hc_stl⟩ := (fun_of F0stl).ex
  subst ef_stl
  have Fstl := fun_of (st := sSettle) F0stl
  have bstl := Fstl.binds (ps := ["self", "label"]) fun _ _ _ _ _ _ us hl => by
    obtain ⟨_, _, rfl⟩ := Ln2 hl
    rfl
  have Fsi := F0si
  obtain ⟨oc_con, od_con, kV_con, dc_con, pm_con, an_con, cd_con, ct_con, sl_con, ef_con, lk_con, hc_con⟩ := (fun_of F0con).ex
  subst ef_con
  have Fcon := fun_of (st := sContains) F0con
  have bcon := Fcon.binds (ps := ["self", "x"]) fun _ _ _ _ _ _ us hl => by
    obtain ⟨_, _, rfl⟩ := Ln2 hl
    rfl
  obtain ⟨oc_tof, od_tof, kV_tof, dc_tof, pm_tof, an_tof, cd_tof, ct_tof, sl_tof, ef_tof, lk_tof, hc_tof⟩ := (fun_of F0tof).ex
  subst ef_tof
  have Ftof := fun_of (st := sTableOf) F0tof
  have btof := Ftof.binds (ps := ["self", "process"]) fun _ _ _ _ _ _ us hl => by
    obtain ⟨_, _, rfl⟩ := Ln2 hl
    rfl
  obtain ⟨oc_itn, od_itn, kV_itn, dc_itn, pm_itn, an_itn, cd_itn, ct_itn, sl_itn, ef_itn, lk_itn, hc_itn⟩ := (fun_of F0itn).ex
  subst ef_itn
  have Fitn := fun_of (st := sIsTabNum) F0itn
  have bitn := Fitn.binds (ps := ["self", "number"]) fun _ _ _ _ _ _ us hl => by
    obtain ⟨_, _, rfl⟩ := Ln2 hl
    rfl
  obtain ⟨oc_tha, od_tha, kV_tha, dc_tha, pm_tha, an_tha, cd_tha, ct_tha, sl_tha, ef_tha, lk_tha, hc_tha⟩ := (fun_of F0tha).ex
  subst ef_tha
  have Ftha := fun_of (st := sThingAt) F0tha
  have btha := Ftha.binds (ps := ["self", "process", "number"]) fun _ _ _ _ _ _ us hl => by
    obtain ⟨_, _, _, rfl⟩ := Ln3 hl
    rfl
  obtain ⟨oc_sra, od_sra, kV_sra, dc_sra, pm_sra, an_sra, cd_sra, ct_sra, sl_sra, ef_sra, lk_sra, hc_sra⟩ := (fun_of F0sra).ex
  subst ef_sra
  have Fsra := fun_of (st := sSourceAt) F0sra
  have bsra := Fsra.binds (ps := ["self", "process", "number"]) fun _ _ _ _ _ _ us hl => by
    obtain ⟨_, _, _, rfl⟩ := Ln3 hl
    rfl
  obtain ⟨oc_sta, od_sta, kV_sta, dc_sta, pm_sta, an_sta, cd_sta, ct_sta, sl_sta, ef_sta, lk_sta, hc_sta⟩ := (fun_of F0sta).ex
  subst ef_sta
  have Fsta := fun_of (st := sSetAt) F0sta
  have bsta := Fsta.binds (ps := ["self", "process", "set_number"]) fun _ _ _ _ _ _ us hl => by
    obtain ⟨_, _, _, rfl⟩ := Ln3 hl
    rfl
  obtain ⟨oc_frn, od_frn, kV_frn, dc_frn, pm_frn, an_frn, cd_frn, ct_frn, sl_frn, ef_frn, lk_frn, hc_frn⟩ := (fun_of F0frn).ex
  subst ef_frn
  have Ffrn := fun_of (st := sFreeNum) F0frn
  have bfrn := Ffrn.binds (ps := ["self", "process"]) fun _ _ _ _ _ _ us hl => by
    obtain ⟨_, _, rfl⟩ := Ln2 hl
    rfl
  obtain ⟨oc_nth, od_nth, kV_nth, dc_nth, pm_nth, an_nth, cd_nth, ct_nth, sl_nth, ef_nth, lk_nth, hc_nth⟩ := (fun_of F0nth).ex
  subst ef_nth
  have Fnth := fun_of (st := sNewThing) F0nth
  have bnth := Fnth.binds (ps := ["self", "process"]) fun _ _ _ _ _ _ us hl => by
    obtain ⟨_, _, rfl⟩ := Ln2 hl
    rfl
  obtain ⟨oc_nso, od_nso, kV_nso, dc_nso, pm_nso, an_nso, cd_nso, ct_nso, sl_nso, ef_nso, lk_nso, hc_nso⟩ := (fun_of F0nso).ex
  subst ef_nso
  have Fnso := fun_of (st := sNewSource) F0nso
  have bnso := Fnso.binds (ps := ["self", "process"]) fun _ _ _ _ _ _ us hl => by
    obtain ⟨_, _, rfl⟩ := Ln2 hl
    rfl
  obtain ⟨oc_nse, od_nse, kV_nse, dc_nse, pm_nse, an_nse, cd_nse, ct_nse, sl_nse, ef_nse, lk_nse, hc_nse⟩ := (fun_of F0nse).ex
  subst ef_nse
  have Fnse := fun_of (st := sNewSet) F0nse
  have bnse := Fnse.binds (ps := ["self", "process"]) fun _ _ _ _ _ _ us hl => by
    obtain ⟨_, _, rfl⟩ := Ln2 hl
    rfl
  obtain ⟨oc_rdy, od_rdy, kV_rdy, dc_rdy, pm_rdy, an_rdy, cd_rdy, ct_rdy, sl_rdy, ef_rdy, lk_rdy, hc_rdy⟩ := (fun_of F0rdy).ex
  subst ef_rdy
  have Frdy := fun_of (st := sIsReady) F0rdy
  have brdy := Frdy.binds (ps := ["self", "source"]) fun _ _ _ _ _ _ us hl => by
    obtain ⟨_, _, rfl⟩ := Ln2 hl
    rfl
  obtain ⟨oc_unf, od_unf, kV_unf, dc_unf, pm_unf, an_unf, cd_unf, ct_unf, sl_unf, ef_unf, lk_unf, hc_unf⟩ := (fun_of F0unf).ex
  subst ef_unf
  have Funf := fun_of (st := sUnfinished) F0unf
  have bunf := Funf.binds (ps := ["self", "source", "number"]) fun _ _ _ _ _ _ us hl => by
    obtain ⟨_, _, _, rfl⟩ := Ln3 hl
    rfl
  obtain ⟨oc_nfy, od_nfy, kV_nfy, dc_nfy, pm_nfy, an_nfy, cd_nfy, ct_nfy, sl_nfy, ef_nfy, lk_nfy, hc_nfy⟩ := (fun_of F0nfy).ex
  subst ef_nfy
  have Fnfy := fun_of (st := sNotify) F0nfy
  have bnfy := Fnfy.binds (ps := ["self", "source"]) fun _ _ _ _ _ _ us hl => by
    obtain ⟨_, _, rfl⟩ := Ln2 hl
    rfl
  have Farr := F0arr
  obtain ⟨dsarr, varr, barr⟩ := Farr.binds1 (ps := ["self", "process", "number", "many"]) 3 0 (by intro z; cases z) rfl fun _ _ _ _ _ _ _ us its hu hi => by
    obtain ⟨_, _, _, rfl⟩ := Ln3 hu
    obtain ⟨_, rfl⟩ := Ln1 hi
    exact ⟨_, rfl, rfl⟩
  have Barr : Binds K fd_arr (["self", "process", "number", "many"] : List Str) [] := by
    obtain ⟨ds, v, b⟩ := Farr.binds1 (ps := ["self", "process", "number", "many"]) 4 1 (by intro z; cases z) rfl fun _ _ _ _ _ _ _ us its hu hi => by
      obtain ⟨_, _, _, _, rfl⟩ := Ln4 hu
      obtain ⟨_, rfl⟩ := Ln1 hi
      exact ⟨_, rfl, rfl⟩
    cases v
    exact b
  have Fwai := F0wai
  obtain ⟨dswai, vwai, bwai⟩ := Fwai.binds1 (ps := ["self", "process", "set_number", "most"]) 3 0 (by intro z; cases z) rfl fun _ _ _ _ _ _ _ us its hu hi => by
    obtain ⟨_, _, _, rfl⟩ := Ln3 hu
    obtain ⟨_, rfl⟩ := Ln1 hi
    exact ⟨_, rfl, rfl⟩
  have Bwai : Binds K fd_wai (["self", "process", "set_number", "most"] : List Str) [] := by
    obtain ⟨ds, v, b⟩ := Fwai.binds1 (ps := ["self", "process", "set_number", "most"]) 4 1 (by intro z; cases z) rfl fun _ _ _ _ _ _ _ us its hu hi => by
      obtain ⟨_, _, _, _, rfl⟩ := Ln4 hu
      obtain ⟨_, rfl⟩ := Ln1 hi
      exact ⟨_, rfl, rfl⟩
    cases v
    exact b
  obtain ⟨oc_row, od_row, kV_row, dc_row, pm_row, an_row, cd_row, ct_row, sl_row, ef_row, lk_row, hc_row⟩ := (fun_of F0row).ex
  subst ef_row
  have Frow := fun_of (st := sRowOf) F0row
  have brow := Frow.binds (ps := ["self", "process", "set_number"]) fun _ _ _ _ _ _ us hl => by
    obtain ⟨_, _, _, rfl⟩ := Ln3 hl
    rfl
  have Fadd := F0add
  obtain ⟨oc_chg, od_chg, kV_chg, dc_chg, pm_chg, an_chg, cd_chg, ct_chg, sl_chg, ef_chg, lk_chg, hc_chg⟩ := (fun_of F0chg).ex
  subst ef_chg
  have Fchg := fun_of (st := sChange) F0chg
  obtain ⟨oc_rem, od_rem, kV_rem, dc_rem, pm_rem, an_rem, cd_rem, ct_rem, sl_rem, ef_rem, lk_rem, hc_rem⟩ := (fun_of F0rem).ex
  subst ef_rem
  have Frem := fun_of (st := sRemove) F0rem
  have brem := Frem.binds (ps := ["self", "process", "set_number", "number"]) fun _ _ _ _ _ _ us hl => by
    obtain ⟨_, _, _, _, rfl⟩ := Ln4 hl
    rfl
  obtain ⟨oc_fre, od_fre, kV_fre, dc_fre, pm_fre, an_fre, cd_fre, ct_fre, sl_fre, ef_fre, lk_fre, hc_fre⟩ := (fun_of F0fre).ex
  subst ef_fre
  have Ffre := fun_of (st := sFree) F0fre
  have bfre := Ffre.binds (ps := ["self", "process", "number"]) fun _ _ _ _ _ _ us hl => by
    obtain ⟨_, _, _, rfl⟩ := Ln3 hl
    rfl
  obtain ⟨oc_clo, od_clo, kV_clo, dc_clo, pm_clo, an_clo, cd_clo, ct_clo, sl_clo, ef_clo, lk_clo, hc_clo⟩ := (fun_of F0clo).ex
  subst ef_clo
  have Fclo := fun_of (st := sClose) F0clo
  have bclo := Fclo.binds (ps := ["self", "process", "number"]) fun _ _ _ _ _ _ us hl => by
    obtain ⟨_, _, _, rfl⟩ := Ln3 hl
    rfl
  have Fcpy := F0cpy
  obtain ⟨dscpy, vcpy, bcpy⟩ := Fcpy.binds1 (ps := ["self", "process", "number", "to"]) 3 0 (by intro z; cases z) rfl fun _ _ _ _ _ _ _ us its hu hi => by
    obtain ⟨_, _, _, rfl⟩ := Ln3 hu
    obtain ⟨_, rfl⟩ := Ln1 hi
    exact ⟨_, rfl, rfl⟩
  have Bcpy : Binds K fd_cpy (["self", "process", "number", "to"] : List Str) [] := by
    obtain ⟨ds, v, b⟩ := Fcpy.binds1 (ps := ["self", "process", "number", "to"]) 4 1 (by intro z; cases z) rfl fun _ _ _ _ _ _ _ us its hu hi => by
      obtain ⟨_, _, _, _, rfl⟩ := Ln4 hu
      obtain ⟨_, rfl⟩ := Ln1 hi
      exact ⟨_, rfl, rfl⟩
    cases v
    exact b
  obtain ⟨oc_frp, od_frp, kV_frp, dc_frp, pm_frp, an_frp, cd_frp, ct_frp, sl_frp, ef_frp, lk_frp, hc_frp⟩ := (fun_of F0frp).ex
  subst ef_frp
  have Ffrp := fun_of (st := sFreeProc) F0frp
  have bfrp := Ffrp.binds (ps := ["self"]) fun _ _ _ _ _ _ us hl => by
    obtain ⟨_, rfl⟩ := Ln1 hl
    rfl
  obtain ⟨oc_frk, od_frk, kV_frk, dc_frk, pm_frk, an_frk, cd_frk, ct_frk, sl_frk, ef_frk, lk_frk, hc_frk⟩ := (fun_of F0frk).ex
  subst ef_frk
  have Ffrk := fun_of (st := sFork) F0frk
  have bfrk := Ffrk.binds (ps := ["self", "process"]) fun _ _ _ _ _ _ us hl => by
    obtain ⟨_, _, rfl⟩ := Ln2 hl
    rfl
  obtain ⟨oc_tng, od_tng, kV_tng, dc_tng, pm_tng, an_tng, cd_tng, ct_tng, sl_tng, ef_tng, lk_tng, hc_tng⟩ := (fun_of F0tng).ex
  subst ef_tng
  have Ftng := fun_of (st := sThings) F0tng
  have btng := Ftng.binds (ps := ["self"]) fun _ _ _ _ _ _ us hl => by
    obtain ⟨_, rfl⟩ := Ln1 hl
    rfl
  obtain ⟨oc_nof, od_nof, kV_nof, dc_nof, pm_nof, an_nof, cd_nof, ct_nof, sl_nof, ef_nof, lk_nof, hc_nof⟩ := (fun_of F0nof).ex
  subst ef_nof
  have Fnof := fun_of (st := sNumbersOf) F0nof
  have bnof := Fnof.binds (ps := ["self", "thing"]) fun _ _ _ _ _ _ us hl => by
    obtain ⟨_, _, rfl⟩ := Ln2 hl
    rfl
  obtain ⟨oc_nam, od_nam, kV_nam, dc_nam, pm_nam, an_nam, cd_nam, ct_nam, sl_nam, ef_nam, lk_nam, hc_nam⟩ := (fun_of F0nam).ex
  subst ef_nam
  have Fnam := fun_of (st := sNameOf) F0nam
  have bnam := Fnam.binds (ps := ["self", "thing"]) fun _ _ _ _ _ _ us hl => by
    obtain ⟨_, _, rfl⟩ := Ln2 hl
    rfl
  obtain ⟨oc_reg, od_reg, kV_reg, dc_reg, pm_reg, an_reg, cd_reg, ct_reg, sl_reg, ef_reg, lk_reg, hc_reg⟩ := (fun_of F0reg).ex
  subst ef_reg
  have Freg := fun_of (st := sRegistrations) F0reg
  have breg := Freg.binds (ps := ["self"]) fun _ _ _ _ _ _ us hl => by
    obtain ⟨_, rfl⟩ := Ln1 hl
    rfl
  obtain ⟨mvkbsi, kbsi⟩ := Fsi.kbinds0 (ps := ["self", "processes", "numbers"]) 1 ["processes", "numbers"] [] (fun us mv ws => us ++ ws) (by intro z; cases z) (fun q hq => absurd hq List.not_mem_nil) (fun a b c => a.append c) fun _ _ _ _ _ _ us mv ws hu hm hw => by
    obtain ⟨_, rfl⟩ := Ln1 hu
    obtain ⟨rfl⟩ := Ln0 hm
    obtain ⟨_, _, rfl⟩ := Ln2 hw
    exact rfl
  obtain ⟨dsadd, vadd, badd⟩ := Fadd.binds0 (ps := ["self", "process", "set_number", "number", "label", "word"]) 5 (by intro z; cases z) rfl fun _ _ _ _ _ _ us ks hu hk => by
    obtain ⟨_, _, _, _, _, rfl⟩ := Ln5 hu
    obtain ⟨_, rfl⟩ := Ln1 hk
    exact ⟨_, _, _, _, _, _, rfl, rfl, rfl⟩
  have kbchg : KBn K (PySem.W.fnOf "change" "System.change" (defArgs sChange) (defBody sChange) (defScope sChange) .none kV_chg dc_chg pm_chg an_chg cd_chg ct_chg) ["self", "process", "set_number", "number", "word"] 4 ["word"] (fun us ws => us ++ ws) (fun vs zs => vs ++ zs) := ⟨fun s us ws _ hu hw => by
    obtain ⟨_, _, _, _, rfl⟩ := Ln4 hu
    obtain ⟨_, rfl⟩ := Ln1 hw
    exact .of_eq rfl, fun a b => a.append b⟩
  have DT : DrawTxt mg := ⟨(PySem.W.mg_none_of X G z_len), (PySem.W.mg_none_of X G z_enumerate), (PySem.W.mg_none_of X G z_int), (PySem.W.mg_none_of X G z_abs)⟩
  have tup : ∀ {q : Addr} {dd : Option Addr} {its : Array Value} {n : Nat} {sl : Array (Option Value)} {xs : List Str}, K.lookup q = some ⟨.type "tuple", dd, .seq its n, sl⟩ → its.size ≤ sizeLine → Vals (xs.map V.str) its.toList → ∀ H, SqT K H q (xs.map V.str) := fun e hz hv H => .inr ⟨_, _, _, e, rfl, rfl, hz, hv⟩
  have CT : ChkTxt K mg := ⟨(PySem.W.mg_none_of X G z_isinstance), (PySem.W.mg_none_of X G z_int), (PySem.W.mg_none_of X G z_bool), ⟨tMC, PySem.W.mg_of X G gMC⟩, ⟨tML, PySem.W.mg_of X G gML⟩, ⟨wW, PySem.W.mg_of X G wA, tup (xs := wordsL) LW0 (by show 3 ≤ sizeLine; decide) (.cons ⟨_, rfl⟩ (.cons ⟨_, rfl⟩ (.cons ⟨_, rfl⟩ .nil)))⟩⟩
  have YT : SysTxt mg := ⟨(PySem.W.mg_none_of X G z_enumerate), (PySem.W.mg_none_of X G z_list), (PySem.W.mg_none_of X G z_min)⟩
  have WT : WsTxt mg := ⟨(PySem.W.mg_none_of X G z_list), (PySem.W.mg_none_of X G z_len)⟩
  have RT : RegTxt mg := ⟨(PySem.W.mg_none_of X G z_sorted), (PySem.W.mg_none_of X G z_list), (PySem.W.mg_none_of X G z_enumerate)⟩
  have LX : LawTx mg := ⟨(PySem.W.mg_none_of X G z_range), (PySem.W.mg_none_of X G z_max), (PySem.W.mg_none_of X G z_min), (PySem.W.mg_none_of X G z_len), (PySem.W.mg_none_of X G z_enumerate), (PySem.W.mg_none_of X G z_repr), (PySem.W.mg_none_of X G z_sorted)⟩
  have TS : ClsF K CS sysF := ⟨⟨pgS, hdS, poS, saS⟩, fun f hf => by
    simp only [sysF, List.mem_cons, List.not_mem_nil, or_false] at hf
    rcases hf with rfl | rfl | rfl | rfl | rfl | rfl
    · exact noS0
    · exact noS1
    · exact noS2
    · exact noS3
    · exact noS4
    · exact noS5⟩
  have TW : ClsF K CW wsF := ⟨⟨pgW, hdW, poW, saW⟩, fun f hf => by
    simp only [wsF, List.mem_cons, List.not_mem_nil, or_false] at hf
    rcases hf with rfl | rfl
    · exact noW0
    · exact noW1⟩
  have TR : ClsF K CR regF := ⟨⟨pgR, hdR, poR, saR⟩, fun f hf => by
    simp only [regF, List.mem_cons, List.not_mem_nil, or_false] at hf
    rcases hf with rfl | rfl | rfl | rfl
    · exact noR0
    · exact noR1
    · exact noR2
    · exact noR3⟩
  have LT : LimTxt K mg CS := ⟨⟨tLP, PySem.W.mg_of X G gLP⟩, ⟨tLN, PySem.W.mg_of X G gLN⟩, ⟨_, gMP, ⟨_, rfl⟩, sMP, by decide⟩, ⟨_, gMN, ⟨_, rfl⟩, sMN, by decide⟩⟩
  have KS : Mk K CS f_si := ⟨mkS, asi, isi, kcS⟩
  have gmS := PySem.W.mg_of X G gCS
  have KW : Mk K CW f_wi := ⟨mkW, awi, iwi, kcW⟩
  have gmW := PySem.W.mg_of X G gCW
  have KR : Mk K CR f_ri := ⟨mkR, ari, iri, kcR⟩
  have gmR := PySem.W.mg_of X G gCR
  have E1 : RegisteredE K mg CRg f_xrg _ := { gC := PySem.W.mg_of X G gCRg, ox := ⟨⟨nmRg, qRg, NRg, bsRg, snRg, subRg, abRg, colRg, ddRg, maRg, mbRg, mcRg, mdRg, meRg, xLRg⟩, xsaRg, xeCRg, xtCRg, xkCRg⟩, noN := xnbRg0, iC := axrg, tI := xtIRg, bI := bxrg, te := xteRg, xf := ⟨xgaRg, xggRg, xeCRg, xhCRg⟩ }
  have E3 : NotRegisteredE K mg CNr f_xnr _ := { gC := PySem.W.mg_of X G gCNr, ox := ⟨⟨nmNr, qNr, NNr, bsNr, snNr, subNr, abNr, colNr, ddNr, maNr, mbNr, mcNr, mdNr, meNr, xLNr⟩, xsaNr, xeCNr, xtCNr, xkCNr⟩, noN := xnbNr0, iC := axnr, tI := xtINr, bI := bxnr, te := xteNr, xf := ⟨xgaNr, xggNr, xeCNr, xhCNr⟩ }
  have R : OutTxt K mg CRg f_xrg _ CNr f_xnr _ f_out _ := ⟨Fout, mout, bout, E1, E3, xNrRg⟩
  refine ⟨PySem.W.fnOf "law" "law" (defArgs sLaw) (defBody sLaw) (defScope sLaw) .none kV_law dc_law pm_law an_law cd_law ct_law, fun s u => .of_eq rfl, fun base KB _ BM => ?_, fun H a ns hl hS hP => ⟨a, ns, rfl, hS, hl, hP, fun _ => rfl⟩⟩
  have TB : LamX.TabB base mg c_don Pt := ⟨PySem.W.codeHd_of_K KB xhddon, BM, xb3⟩
  have Gint := okIsInteger (P := P) (w := w) (K := K) (mg := mg) (base := base) Fint CT
  have Gbet := okIsBetween (P := P) (w := w) (K := K) (mg := mg) (base := base) Fbet Gint kint mint bint
  have Gcnt := okIsCount (P := P) (w := w) (K := K) (mg := mg) (base := base) Fcnt CT Gbet kbet mbet bbet
  have Glab := okIsLabel (P := P) (w := w) (K := K) (mg := mg) (base := base) Flab CT Gbet kbet mbet bbet
  have Gwrd := okIsWord (P := P) (w := w) (K := K) (mg := mg) (base := base) Fwrd CT
  have Gbag := okBag (P := P) (w := w) (K := K) (mg := mg) (base := base) Fbag DT
  have Gtake := okTake (P := P) (w := w) (K := K) (mg := mg) (base := base) Ftake DT
  have Glad := okAdded (P := P) (w := w) (K := K) (mg := mg) (base := base) Flad 
  have Gisl := Wn.okIsLevel (P := P) (w := w) (K := K) (mg := mg) (base := base) Fisl
  have Gxrg := okRegisteredInit (P := P) (w := w) (K := K) (mg := mg) (base := base) Fxrg (PySem.W.mg_none_of X G z_RuntimeError) xvVRg E1
  have Gxnr := okNotRegisteredInit (P := P) (w := w) (K := K) (mg := mg) (base := base) Fxnr (PySem.W.mg_none_of X G z_LookupError) xvVNr E3
  have Gri := okRegInit (P := P) (w := w) (K := K) (mg := mg) (base := base) Fri TR
  have Gwi := okWsInit (P := P) (w := w) (K := K) (mg := mg) (base := base) Fwi TW
  have Gapp := okAppend (P := P) (w := w) (K := K) (mg := mg) (base := base) Fapp TW
  have Gput := okPut (P := P) (w := w) (K := K) (mg := mg) (base := base) Fput TW Gapp ⟨aapp, iapp, kapp⟩ bapp
  have Glof := okLabelOf (P := P) (w := w) (K := K) (mg := mg) (base := base) Flof TW TR
  have Gdrp := okDrop (P := P) (w := w) (K := K) (mg := mg) (base := base) Fdrp TW
  have Gstl := okSettle (P := P) (w := w) (K := K) (mg := mg) (base := base) Fstl TW TR gmR KR Gri bri
  have Gntc := okNotice (P := P) (w := w) (K := K) (mg := mg) (base := base) Fntc TW TR Gapp ⟨aapp, iapp, kapp⟩ bapp
  have Grep := okReports (P := P) (w := w) (K := K) (mg := mg) (base := base) Frep WT TW TR Gstl ⟨astl, istl, kstl⟩ bstl
  have Gsi := okSysInit (P := P) (w := w) (K := K) (mg := mg) (base := base) (C := ⟨CS, CW, CR⟩) Fsi TS LT ⟨Gbet, kbet, mbet, bbet⟩
  have Gcon := okContains (P := P) (w := w) (K := K) (mg := mg) (base := base) (C := ⟨CS, CW, CR⟩) Fcon TS ⟨Gint, kint, mint, bint⟩
  have Gtof := okTableOf (P := P) (w := w) (K := K) (mg := mg) (base := base) (C := ⟨CS, CW, CR⟩) Ftof TS ⟨Gcon, ⟨acon, icon, kcon⟩, bcon⟩
  have Gitn := okIsTabNum (P := P) (w := w) (K := K) (mg := mg) (base := base) (C := ⟨CS, CW, CR⟩) Fitn TS ⟨Gbet, kbet, mbet, bbet⟩
  have Gtha := okThingAt (P := P) (w := w) (K := K) (mg := mg) (base := base) (C := ⟨CS, CW, CR⟩) Ftha TS ⟨Gtof, ⟨atof, itof, ktof⟩, btof⟩ ⟨Gitn, ⟨aitn, iitn, kitn⟩, bitn⟩
  have Gsra := okSourceAt (P := P) (w := w) (K := K) (mg := mg) (base := base) (C := ⟨CS, CW, CR⟩) Fsra TS ⟨Gtha, ⟨atha, itha, ktha⟩, btha⟩
  have Gsta := okSetAt (P := P) (w := w) (K := K) (mg := mg) (base := base) (C := ⟨CS, CW, CR⟩) Fsta TS ⟨Gtha, ⟨atha, itha, ktha⟩, btha⟩
  have Gfrn := okFreeNum (P := P) (w := w) (K := K) (mg := mg) (base := base) (C := ⟨CS, CW, CR⟩) Ffrn YT TS ⟨Gtof, ⟨atof, itof, ktof⟩, btof⟩
  have Gnth := okNewThing (P := P) (w := w) (K := K) (mg := mg) (base := base) (C := ⟨CS, CW, CR⟩) Fnth TS ⟨Gfrn, ⟨afrn, ifrn, kfrn⟩, bfrn⟩
  have Grdy := okIsReady (P := P) (w := w) (K := K) (mg := mg) (base := base) (C := ⟨CS, CW, CR⟩) Frdy TS
  have Gunf := okUnfinished (P := P) (w := w) (K := K) (mg := mg) (base := base) (C := ⟨CS, CW, CR⟩) Funf TS
  have Gnfy := okNotify (P := P) (w := w) (K := K) (mg := mg) (base := base) (C := ⟨CS, CW, CR⟩) Fnfy TS TW.cl ⟨Gntc, ⟨antc, intc, kntc⟩, bntc⟩
  have Gnso := okNewSource (P := P) (w := w) (K := K) (mg := mg) (base := base) (C := ⟨CS, CW, CR⟩) Fnso TS ⟨Gnth, ⟨anth, inth, knth⟩, bnth⟩
  have Gnse := okNewSet (P := P) (w := w) (K := K) (mg := mg) (base := base) (C := ⟨CS, CW, CR⟩) Fnse TS ⟨Gnth, ⟨anth, inth, knth⟩, bnth⟩ gmW KW Gwi bwi
  have Garr := okArrive (P := P) (w := w) (K := K) (mg := mg) (base := base) (C := ⟨CS, CW, CR⟩) Farr TS ⟨Gsra, ⟨asra, isra, ksra⟩, bsra⟩ ⟨Gunf, ⟨aunf, iunf, kunf⟩, bunf⟩ ⟨Gnfy, ⟨anfy, infy, knfy⟩, bnfy⟩ ⟨Gcnt, kcnt, mcnt, bcnt⟩
  have Gwai := okWait (P := P) (w := w) (K := K) (mg := mg) (base := base) (C := ⟨CS, CW, CR⟩) Fwai TS TW ⟨Gsta, ⟨asta, ista, ksta⟩, bsta⟩ ⟨Gcnt, kcnt, mcnt, bcnt⟩ ⟨Grep, ⟨arep, irep, krep⟩, brep⟩
  have Grow := okRowOf (P := P) (w := w) (K := K) (mg := mg) (base := base) (C := ⟨CS, CW, CR⟩) Frow YT TS TW ⟨Gsta, ⟨asta, ista, ksta⟩, bsta⟩
  have Gadd := okAdd (P := P) (w := w) (K := K) (mg := mg) (base := base) (C := ⟨CS, CW, CR⟩) Fadd TS TW E1 Gxrg ⟨Gsta, ⟨asta, ista, ksta⟩, bsta⟩ ⟨Gsra, ⟨asra, isra, ksra⟩, bsra⟩ ⟨Glab, klab, mlab, blab⟩ ⟨Gwrd, kwrd, mwrd, bwrd⟩ ⟨Glof, ⟨alof, ilof, klof⟩, blof⟩ gmR KR Gri bri ⟨Grdy, ⟨ardy, irdy, krdy⟩, brdy⟩ ⟨Gput, ⟨aput, iput, kput⟩, bput⟩
  have Gchg := okChange (P := P) (w := w) (K := K) (mg := mg) (base := base) (C := ⟨CS, CW, CR⟩) Fchg TS TW E3 Gxnr ⟨Gsta, ⟨asta, ista, ksta⟩, bsta⟩ ⟨Gsra, ⟨asra, isra, ksra⟩, bsra⟩ ⟨Gwrd, kwrd, mwrd, bwrd⟩ ⟨Glof, ⟨alof, ilof, klof⟩, blof⟩ gmR KR Gri bri ⟨Grdy, ⟨ardy, irdy, krdy⟩, brdy⟩ ⟨Gput, ⟨aput, iput, kput⟩, bput⟩
  have Grem := okRemove (P := P) (w := w) (K := K) (mg := mg) (base := base) (C := ⟨CS, CW, CR⟩) Frem TS TW E3 Gxnr ⟨Gsta, ⟨asta, ista, ksta⟩, bsta⟩ ⟨Gsra, ⟨asra, isra, ksra⟩, bsra⟩ ⟨Glof, ⟨alof, ilof, klof⟩, blof⟩ ⟨Gdrp, ⟨adrp, idrp, kdrp⟩, bdrp⟩
  have Gfre := okFree (P := P) (w := w) (K := K) (mg := mg) (base := base) (C := ⟨CS, CW, CR⟩) Ffre (PySem.W.mg_none_of X G z_any) TS
  have Gclo := okClose (P := P) (w := w) (K := K) (mg := mg) (base := base) (C := ⟨CS, CW, CR⟩) Fclo TS ⟨Gtha, ⟨atha, itha, ktha⟩, btha⟩ ⟨Gfre, ⟨afre, ifre, kfre⟩, bfre⟩
  have Gcpy := okCopy (P := P) (w := w) (K := K) (mg := mg) (base := base) (C := ⟨CS, CW, CR⟩) Fcpy TS ⟨Gtha, ⟨atha, itha, ktha⟩, btha⟩ ⟨Gitn, ⟨aitn, iitn, kitn⟩, bitn⟩ ⟨Gfrn, ⟨afrn, ifrn, kfrn⟩, bfrn⟩ ⟨Gfre, ⟨afre, ifre, kfre⟩, bfre⟩
  have Gfrp := okFreeProc (P := P) (w := w) (K := K) (mg := mg) (base := base) (C := ⟨CS, CW, CR⟩) Ffrp (PySem.W.mg_none_of X G z_range) TS
  have Gfrk := okFork (P := P) (w := w) (K := K) (mg := mg) (base := base) (C := ⟨CS, CW, CR⟩) Ffrk YT TS ⟨Gtof, ⟨atof, itof, ktof⟩, btof⟩ ⟨Gfrp, ⟨afrp, ifrp, kfrp⟩, bfrp⟩
  have Gtng := okThings (P := P) (w := w) (K := K) (mg := mg) (base := base) (C := ⟨CS, CW, CR⟩) Ftng RT TS
  have Gnof := okNumbersOf (P := P) (w := w) (K := K) (mg := mg) (base := base) (C := ⟨CS, CW, CR⟩) Fnof RT TS
  have Gnam := okNameOf (P := P) (w := w) (K := K) (mg := mg) (base := base) (C := ⟨CS, CW, CR⟩) Fnam TS ⟨Gnof, ⟨anof, inof, knof⟩, bnof⟩
  have Greg := okRegistrations (P := P) (w := w) (K := K) (mg := mg) (base := base) (C := ⟨CS, CW, CR⟩) Freg TS TW TR ⟨Gtng, ⟨atng, itng, ktng⟩, btng⟩ ⟨Gnam, ⟨anam, inam, knam⟩, bnam⟩
  have Ghom := okHome (T0 := [(Pt, qDone)]) (P := P) (w := w) (K := K) (mg := mg) (base := base) (C := ⟨CS, CW, CR⟩) Fhom LX TS ⟨Gtake, ktake, mtake, btake⟩ gmS KS Gsi kbsi ⟨Gnso, ⟨anso, inso, knso⟩, bnso⟩ ⟨Gnse, ⟨anse, inse, knse⟩, bnse⟩ ⟨Gcpy, ⟨acpy, icpy, kcpy⟩, Bcpy⟩ ⟨Gclo, ⟨aclo, iclo, kclo⟩, bclo⟩ ⟨Gfrk, ⟨afrk, ifrk, kfrk⟩, bfrk⟩
  have Gdon := okDone (P := P) (w := w) (K := K) (mg := mg) (base := base) (C := ⟨CS, CW, CR⟩) Fdon rfl LX TS R TB ⟨Gtake, ktake, mtake, btake⟩ ⟨Glad, klad, mlad, blad⟩ Gadd ⟨aadd, iadd, kadd⟩ badd vadd ⟨Grem, ⟨arem, irem, krem⟩, brem⟩ Gchg ⟨achg, ichg, kchg⟩ kbchg
  exact okLaw (C := ⟨CS, CW, CR⟩) Flaw LX TS nWR ⟨Gbag, kbag, mbag, bbag⟩ ⟨Gtake, ktake, mtake, btake⟩ ⟨Ghom, khom, mhom, bhom⟩ ⟨Gdon, kdon, mdon, bdon⟩ ⟨Gisl, kisl, misl, bisl⟩ Garr ⟨aarr, iarr, karr⟩ barr varr Gwai ⟨awai, iwai, kwai⟩ bwai vwai ⟨Grow, ⟨arow, irow, krow⟩, brow⟩ ⟨Greg, ⟨areg, ireg, kreg⟩, breg⟩
def ck0 : List Ck := [fun K => decide (PySem.W.nsIn K mainGlobals "System" = some (some (.ref (He.ga K "System")))),
  fun K => PySem.W.plainGet K (He.ga K "System") Str.empty,
  fun K => PySem.W.hasDictIn K (He.ga K "System"),
  fun K => PySem.W.plainOver K (He.ga K "System"),
  fun K => decide (PySem.W.findIn K (.ref (He.ga K "System")) "__setattr__" = some (some (.builtin "object.__setattr__"))),
  fun K => PySem.W.makesIn K (He.ga K "System"),
  fun K => PySem.W.keepIn K (.ref (He.ga K "System")),
  fun K => decide (PySem.W.findIn K (.ref (He.ga K "System")) "process_limit" = some none),
  fun K => decide (PySem.W.findIn K (.ref (He.ga K "System")) "number_limit" = some none),
  fun K => decide (PySem.W.findIn K (.ref (He.ga K "System")) "tables" = some none),
  fun K => decide (PySem.W.findIn K (.ref (He.ga K "System")) "sources" = some none),
  fun K => decide (PySem.W.findIn K (.ref (He.ga K "System")) "sets" = some none),
  fun K => decide (PySem.W.findIn K (.ref (He.ga K "System")) "next_thing" = some none),
  fun K => decide (PySem.W.nsIn K mainGlobals "WaitingSet" = some (some (.ref (He.ga K "WaitingSet")))),
  fun K => PySem.W.plainGet K (He.ga K "WaitingSet") Str.empty,
  fun K => PySem.W.hasDictIn K (He.ga K "WaitingSet"),
  fun K => PySem.W.plainOver K (He.ga K "WaitingSet"),
  fun K => decide (PySem.W.findIn K (.ref (He.ga K "WaitingSet")) "__setattr__" = some (some (.builtin "object.__setattr__"))),
  fun K => PySem.W.makesIn K (He.ga K "WaitingSet"),
  fun K => PySem.W.keepIn K (.ref (He.ga K "WaitingSet")),
  fun K => decide (PySem.W.findIn K (.ref (He.ga K "WaitingSet")) "entries" = some none),
  fun K => decide (PySem.W.findIn K (.ref (He.ga K "WaitingSet")) "queue" = some none),
  fun K => decide (PySem.W.nsIn K mainGlobals "Registration" = some (some (.ref (He.ga K "Registration")))),
  fun K => PySem.W.plainGet K (He.ga K "Registration") Str.empty,
  fun K => PySem.W.hasDictIn K (He.ga K "Registration"),
  fun K => PySem.W.plainOver K (He.ga K "Registration"),
  fun K => decide (PySem.W.findIn K (.ref (He.ga K "Registration")) "__setattr__" = some (some (.builtin "object.__setattr__"))),
  fun K => PySem.W.makesIn K (He.ga K "Registration"),
  fun K => PySem.W.keepIn K (.ref (He.ga K "Registration")),
  fun K => decide (PySem.W.findIn K (.ref (He.ga K "Registration")) "number" = some none)]
def ck1 : List Ck := [fun K => decide (PySem.W.findIn K (.ref (He.ga K "Registration")) "source" = some none),
  fun K => decide (PySem.W.findIn K (.ref (He.ga K "Registration")) "word" = some none),
  fun K => decide (PySem.W.findIn K (.ref (He.ga K "Registration")) "armed" = some none),
  fun K => decide ((He.ga K "WaitingSet") ≠ (He.ga K "Registration")),
  fun K => decide (PySem.W.nsIn K mainGlobals "Registered" = some (some (.ref (He.ga K "Registered")))),
  fun K => excB K (He.ga K "Registered") [.type "RuntimeError", .type "Exception", .type "BaseException", .type "object"] "RuntimeError.__new__",
  fun K => decide (PySem.W.findIn K (.ref (He.ga K "Registered")) "__setattr__" = some (some (.builtin "object.__setattr__"))),
  fun K => decide (PySem.W.findIn K (.ref (He.ga K "Registered")) "__getattribute__" = some (some (.builtin "BaseException.__getattribute__"))),
  fun K => decide (PySem.W.findIn K (.ref (He.ga K "Registered")) "__getattr__" = some none),
  fun K => decide (PySem.W.findIn K (.ref (He.ga K "Registered")) "number" = some none),
  fun K => clsB (PySem.W.findCls K (.type "RuntimeError") (.type "type") "__init__") "RuntimeError.__init__",
  fun K => PySem.W.keepIn K (.ref (He.ga K "Registered")),
  fun K => decide (PySem.W.subIn K (.ref (He.ga K "Registered")) (.type "BaseException") = some true),
  fun K => decide (PySem.W.typeIn K (.ref (He.ga K "Registered")) = some (.type "type")),
  fun K => PySem.W.hasDictIn K (He.ga K "Registered"),
  fun K => decide (PySem.W.exmOne K (.ref (He.ga K "Registered")) (.ref (He.ga K "Registered")) = some true),
  fun K => decide (PySem.W.findIn K (.ref (He.ga K "Registered")) "__class__" = some (some (.builtin "object.__class__"))),
  fun K => decide (PySem.W.mroIn K (He.ga K "Registered") (.type "object") = some true),
  fun K => (PySem.W.clsIn K (He.ga K "Registered")).isSome,
  fun K => decide (PySem.W.kitOne K (.ref (He.ga K "Registered")) (.type "RuntimeError") = some true),
  fun K => decide (PySem.W.specialIn K (.builtin "object.__class__") "__get__" = some (some (.builtin "getset_descriptor.__get__"))),
  fun K => decide (PySem.W.takesIn K (.builtin "object.__class__") = some true),
  fun K => decide (PySem.W.nsIn K mainGlobals "NotRegistered" = some (some (.ref (He.ga K "NotRegistered")))),
  fun K => excB K (He.ga K "NotRegistered") [.type "LookupError", .type "Exception", .type "BaseException", .type "object"] "LookupError.__new__",
  fun K => decide (PySem.W.findIn K (.ref (He.ga K "NotRegistered")) "__setattr__" = some (some (.builtin "object.__setattr__"))),
  fun K => decide (PySem.W.findIn K (.ref (He.ga K "NotRegistered")) "__getattribute__" = some (some (.builtin "BaseException.__getattribute__"))),
  fun K => decide (PySem.W.findIn K (.ref (He.ga K "NotRegistered")) "__getattr__" = some none),
  fun K => decide (PySem.W.findIn K (.ref (He.ga K "NotRegistered")) "number" = some none),
  fun K => clsB (PySem.W.findCls K (.type "LookupError") (.type "type") "__init__") "LookupError.__init__",
  fun K => PySem.W.keepIn K (.ref (He.ga K "NotRegistered"))]
def ck2 : List Ck := [fun K => decide (PySem.W.subIn K (.ref (He.ga K "NotRegistered")) (.type "BaseException") = some true),
  fun K => decide (PySem.W.typeIn K (.ref (He.ga K "NotRegistered")) = some (.type "type")),
  fun K => PySem.W.hasDictIn K (He.ga K "NotRegistered"),
  fun K => decide (PySem.W.exmOne K (.ref (He.ga K "NotRegistered")) (.ref (He.ga K "NotRegistered")) = some true),
  fun K => decide (PySem.W.findIn K (.ref (He.ga K "NotRegistered")) "__class__" = some (some (.builtin "object.__class__"))),
  fun K => decide (PySem.W.mroIn K (He.ga K "NotRegistered") (.type "object") = some true),
  fun K => (PySem.W.clsIn K (He.ga K "NotRegistered")).isSome,
  fun K => decide (PySem.W.kitOne K (.ref (He.ga K "NotRegistered")) (.type "LookupError") = some true),
  fun K => decide (PySem.W.nsIn K mainGlobals "is_integer" = some (some (.ref (He.ga K "is_integer")))),
  fun K => PySem.W.keepIn K (.ref (He.ga K "is_integer")),
  fun K => decide (PySem.W.nsIn K mainGlobals "is_between" = some (some (.ref (He.ga K "is_between")))),
  fun K => PySem.W.keepIn K (.ref (He.ga K "is_between")),
  fun K => decide (PySem.W.nsIn K mainGlobals "is_count" = some (some (.ref (He.ga K "is_count")))),
  fun K => PySem.W.keepIn K (.ref (He.ga K "is_count")),
  fun K => decide (PySem.W.nsIn K mainGlobals "is_label" = some (some (.ref (He.ga K "is_label")))),
  fun K => PySem.W.keepIn K (.ref (He.ga K "is_label")),
  fun K => decide (PySem.W.nsIn K mainGlobals "is_word" = some (some (.ref (He.ga K "is_word")))),
  fun K => PySem.W.keepIn K (.ref (He.ga K "is_word")),
  fun K => decide (PySem.W.nsIn K mainGlobals "_law_bag" = some (some (.ref (He.ga K "_law_bag")))),
  fun K => PySem.W.keepIn K (.ref (He.ga K "_law_bag")),
  fun K => decide (PySem.W.nsIn K mainGlobals "_law_take" = some (some (.ref (He.ga K "_law_take")))),
  fun K => PySem.W.keepIn K (.ref (He.ga K "_law_take")),
  fun K => decide (PySem.W.nsIn K mainGlobals "_law_outcome" = some (some (.ref (He.ga K "_law_outcome")))),
  fun K => PySem.W.keepIn K (.ref (He.ga K "_law_outcome")),
  fun K => decide (PySem.W.nsIn K mainGlobals "_law_home" = some (some (.ref (He.ga K "_law_home")))),
  fun K => PySem.W.keepIn K (.ref (He.ga K "_law_home")),
  fun K => decide (PySem.W.nsIn K mainGlobals "_law_added" = some (some (.ref (He.ga K "_law_added")))),
  fun K => PySem.W.keepIn K (.ref (He.ga K "_law_added")),
  fun K => decide (PySem.W.nsIn K mainGlobals "_law_done" = some (some (.ref (He.ga K "_law_done")))),
  fun K => PySem.W.keepIn K (.ref (He.ga K "_law_done"))]
def ck3 : List Ck := [fun K => decide (cdV K (He.ga K "_law_done") = some (.ref (cdA K (He.ga K "_law_done")))),
  fun K => decide (PySem.W.nsIn K mainGlobals "_law_is_level" = some (some (.ref (He.ga K "_law_is_level")))),
  fun K => PySem.W.keepIn K (.ref (He.ga K "_law_is_level")),
  fun K => decide (PySem.W.nsIn K mainGlobals "law" = some (some (.ref (He.ga K "law")))),
  fun K => PySem.W.keepIn K (.ref (He.ga K "law")),
  fun K => decide (PySem.W.findIn K (.ref (He.ga K "Registered")) "__init__" = some (some (.ref (He.ma K (He.ga K "Registered") "__init__")))),
  fun K => PySem.W.isFn K (.ref (He.ma K (He.ga K "Registered") "__init__")),
  fun K => PySem.W.keepIn K (.ref (He.ma K (He.ga K "Registered") "__init__")),
  fun K => decide (PySem.W.findIn K (.ref (He.ga K "NotRegistered")) "__init__" = some (some (.ref (He.ma K (He.ga K "NotRegistered") "__init__")))),
  fun K => PySem.W.isFn K (.ref (He.ma K (He.ga K "NotRegistered") "__init__")),
  fun K => PySem.W.keepIn K (.ref (He.ma K (He.ga K "NotRegistered") "__init__")),
  fun K => decide (PySem.W.findIn K (.ref (He.ga K "Registration")) "__init__" = some (some (.ref (He.ma K (He.ga K "Registration") "__init__")))),
  fun K => PySem.W.isFn K (.ref (He.ma K (He.ga K "Registration") "__init__")),
  fun K => PySem.W.keepIn K (.ref (He.ma K (He.ga K "Registration") "__init__")),
  fun K => decide (PySem.W.findIn K (.ref (He.ga K "WaitingSet")) "__init__" = some (some (.ref (He.ma K (He.ga K "WaitingSet") "__init__")))),
  fun K => PySem.W.isFn K (.ref (He.ma K (He.ga K "WaitingSet") "__init__")),
  fun K => PySem.W.keepIn K (.ref (He.ma K (He.ga K "WaitingSet") "__init__")),
  fun K => decide (PySem.W.findIn K (.ref (He.ga K "WaitingSet")) "label_of" = some (some (.ref (He.ma K (He.ga K "WaitingSet") "label_of")))),
  fun K => PySem.W.isFn K (.ref (He.ma K (He.ga K "WaitingSet") "label_of")),
  fun K => PySem.W.keepIn K (.ref (He.ma K (He.ga K "WaitingSet") "label_of")),
  fun K => decide (PySem.W.findIn K (.ref (He.ga K "WaitingSet")) "put" = some (some (.ref (He.ma K (He.ga K "WaitingSet") "put")))),
  fun K => PySem.W.isFn K (.ref (He.ma K (He.ga K "WaitingSet") "put")),
  fun K => PySem.W.keepIn K (.ref (He.ma K (He.ga K "WaitingSet") "put")),
  fun K => decide (PySem.W.findIn K (.ref (He.ga K "WaitingSet")) "append_pending" = some (some (.ref (He.ma K (He.ga K "WaitingSet") "append_pending")))),
  fun K => PySem.W.isFn K (.ref (He.ma K (He.ga K "WaitingSet") "append_pending")),
  fun K => PySem.W.keepIn K (.ref (He.ma K (He.ga K "WaitingSet") "append_pending")),
  fun K => decide (PySem.W.findIn K (.ref (He.ga K "WaitingSet")) "drop" = some (some (.ref (He.ma K (He.ga K "WaitingSet") "drop")))),
  fun K => PySem.W.isFn K (.ref (He.ma K (He.ga K "WaitingSet") "drop")),
  fun K => PySem.W.keepIn K (.ref (He.ma K (He.ga K "WaitingSet") "drop")),
  fun K => decide (PySem.W.findIn K (.ref (He.ga K "WaitingSet")) "notice" = some (some (.ref (He.ma K (He.ga K "WaitingSet") "notice"))))]
def ck4 : List Ck := [fun K => PySem.W.isFn K (.ref (He.ma K (He.ga K "WaitingSet") "notice")),
  fun K => PySem.W.keepIn K (.ref (He.ma K (He.ga K "WaitingSet") "notice")),
  fun K => decide (PySem.W.findIn K (.ref (He.ga K "WaitingSet")) "take_reports" = some (some (.ref (He.ma K (He.ga K "WaitingSet") "take_reports")))),
  fun K => PySem.W.isFn K (.ref (He.ma K (He.ga K "WaitingSet") "take_reports")),
  fun K => PySem.W.keepIn K (.ref (He.ma K (He.ga K "WaitingSet") "take_reports")),
  fun K => decide (PySem.W.findIn K (.ref (He.ga K "WaitingSet")) "settle" = some (some (.ref (He.ma K (He.ga K "WaitingSet") "settle")))),
  fun K => PySem.W.isFn K (.ref (He.ma K (He.ga K "WaitingSet") "settle")),
  fun K => PySem.W.keepIn K (.ref (He.ma K (He.ga K "WaitingSet") "settle")),
  fun K => decide (PySem.W.findIn K (.ref (He.ga K "System")) "__init__" = some (some (.ref (He.ma K (He.ga K "System") "__init__")))),
  fun K => PySem.W.isFn K (.ref (He.ma K (He.ga K "System") "__init__")),
  fun K => PySem.W.keepIn K (.ref (He.ma K (He.ga K "System") "__init__")),
  fun K => decide (PySem.W.findIn K (.ref (He.ga K "System")) "__contains__" = some (some (.ref (He.ma K (He.ga K "System") "__contains__")))),
  fun K => PySem.W.isFn K (.ref (He.ma K (He.ga K "System") "__contains__")),
  fun K => PySem.W.keepIn K (.ref (He.ma K (He.ga K "System") "__contains__")),
  fun K => decide (PySem.W.findIn K (.ref (He.ga K "System")) "table_of" = some (some (.ref (He.ma K (He.ga K "System") "table_of")))),
  fun K => PySem.W.isFn K (.ref (He.ma K (He.ga K "System") "table_of")),
  fun K => PySem.W.keepIn K (.ref (He.ma K (He.ga K "System") "table_of")),
  fun K => decide (PySem.W.findIn K (.ref (He.ga K "System")) "is_table_number" = some (some (.ref (He.ma K (He.ga K "System") "is_table_number")))),
  fun K => PySem.W.isFn K (.ref (He.ma K (He.ga K "System") "is_table_number")),
  fun K => PySem.W.keepIn K (.ref (He.ma K (He.ga K "System") "is_table_number")),
  fun K => decide (PySem.W.findIn K (.ref (He.ga K "System")) "thing_at" = some (some (.ref (He.ma K (He.ga K "System") "thing_at")))),
  fun K => PySem.W.isFn K (.ref (He.ma K (He.ga K "System") "thing_at")),
  fun K => PySem.W.keepIn K (.ref (He.ma K (He.ga K "System") "thing_at")),
  fun K => decide (PySem.W.findIn K (.ref (He.ga K "System")) "source_at" = some (some (.ref (He.ma K (He.ga K "System") "source_at")))),
  fun K => PySem.W.isFn K (.ref (He.ma K (He.ga K "System") "source_at")),
  fun K => PySem.W.keepIn K (.ref (He.ma K (He.ga K "System") "source_at")),
  fun K => decide (PySem.W.findIn K (.ref (He.ga K "System")) "set_at" = some (some (.ref (He.ma K (He.ga K "System") "set_at")))),
  fun K => PySem.W.isFn K (.ref (He.ma K (He.ga K "System") "set_at")),
  fun K => PySem.W.keepIn K (.ref (He.ma K (He.ga K "System") "set_at")),
  fun K => decide (PySem.W.findIn K (.ref (He.ga K "System")) "free_number" = some (some (.ref (He.ma K (He.ga K "System") "free_number"))))]
def ck5 : List Ck := [fun K => PySem.W.isFn K (.ref (He.ma K (He.ga K "System") "free_number")),
  fun K => PySem.W.keepIn K (.ref (He.ma K (He.ga K "System") "free_number")),
  fun K => decide (PySem.W.findIn K (.ref (He.ga K "System")) "new_thing" = some (some (.ref (He.ma K (He.ga K "System") "new_thing")))),
  fun K => PySem.W.isFn K (.ref (He.ma K (He.ga K "System") "new_thing")),
  fun K => PySem.W.keepIn K (.ref (He.ma K (He.ga K "System") "new_thing")),
  fun K => decide (PySem.W.findIn K (.ref (He.ga K "System")) "new_source" = some (some (.ref (He.ma K (He.ga K "System") "new_source")))),
  fun K => PySem.W.isFn K (.ref (He.ma K (He.ga K "System") "new_source")),
  fun K => PySem.W.keepIn K (.ref (He.ma K (He.ga K "System") "new_source")),
  fun K => decide (PySem.W.findIn K (.ref (He.ga K "System")) "new_set" = some (some (.ref (He.ma K (He.ga K "System") "new_set")))),
  fun K => PySem.W.isFn K (.ref (He.ma K (He.ga K "System") "new_set")),
  fun K => PySem.W.keepIn K (.ref (He.ma K (He.ga K "System") "new_set")),
  fun K => decide (PySem.W.findIn K (.ref (He.ga K "System")) "is_ready" = some (some (.ref (He.ma K (He.ga K "System") "is_ready")))),
  fun K => PySem.W.isFn K (.ref (He.ma K (He.ga K "System") "is_ready")),
  fun K => PySem.W.keepIn K (.ref (He.ma K (He.ga K "System") "is_ready")),
  fun K => decide (PySem.W.findIn K (.ref (He.ga K "System")) "unread_of_unfinished" = some (some (.ref (He.ma K (He.ga K "System") "unread_of_unfinished")))),
  fun K => PySem.W.isFn K (.ref (He.ma K (He.ga K "System") "unread_of_unfinished")),
  fun K => PySem.W.keepIn K (.ref (He.ma K (He.ga K "System") "unread_of_unfinished")),
  fun K => decide (PySem.W.findIn K (.ref (He.ga K "System")) "notify" = some (some (.ref (He.ma K (He.ga K "System") "notify")))),
  fun K => PySem.W.isFn K (.ref (He.ma K (He.ga K "System") "notify")),
  fun K => PySem.W.keepIn K (.ref (He.ma K (He.ga K "System") "notify")),
  fun K => decide (PySem.W.findIn K (.ref (He.ga K "System")) "arrive" = some (some (.ref (He.ma K (He.ga K "System") "arrive")))),
  fun K => PySem.W.isFn K (.ref (He.ma K (He.ga K "System") "arrive")),
  fun K => PySem.W.keepIn K (.ref (He.ma K (He.ga K "System") "arrive")),
  fun K => decide (PySem.W.findIn K (.ref (He.ga K "System")) "wait" = some (some (.ref (He.ma K (He.ga K "System") "wait")))),
  fun K => PySem.W.isFn K (.ref (He.ma K (He.ga K "System") "wait")),
  fun K => PySem.W.keepIn K (.ref (He.ma K (He.ga K "System") "wait")),
  fun K => decide (PySem.W.findIn K (.ref (He.ga K "System")) "row_of" = some (some (.ref (He.ma K (He.ga K "System") "row_of")))),
  fun K => PySem.W.isFn K (.ref (He.ma K (He.ga K "System") "row_of")),
  fun K => PySem.W.keepIn K (.ref (He.ma K (He.ga K "System") "row_of")),
  fun K => decide (PySem.W.findIn K (.ref (He.ga K "System")) "add" = some (some (.ref (He.ma K (He.ga K "System") "add"))))]
def ck6 : List Ck := [fun K => PySem.W.isFn K (.ref (He.ma K (He.ga K "System") "add")),
  fun K => PySem.W.keepIn K (.ref (He.ma K (He.ga K "System") "add")),
  fun K => decide (PySem.W.findIn K (.ref (He.ga K "System")) "change" = some (some (.ref (He.ma K (He.ga K "System") "change")))),
  fun K => PySem.W.isFn K (.ref (He.ma K (He.ga K "System") "change")),
  fun K => PySem.W.keepIn K (.ref (He.ma K (He.ga K "System") "change")),
  fun K => decide (PySem.W.findIn K (.ref (He.ga K "System")) "remove" = some (some (.ref (He.ma K (He.ga K "System") "remove")))),
  fun K => PySem.W.isFn K (.ref (He.ma K (He.ga K "System") "remove")),
  fun K => PySem.W.keepIn K (.ref (He.ma K (He.ga K "System") "remove")),
  fun K => decide (PySem.W.findIn K (.ref (He.ga K "System")) "free" = some (some (.ref (He.ma K (He.ga K "System") "free")))),
  fun K => PySem.W.isFn K (.ref (He.ma K (He.ga K "System") "free")),
  fun K => PySem.W.keepIn K (.ref (He.ma K (He.ga K "System") "free")),
  fun K => decide (PySem.W.findIn K (.ref (He.ga K "System")) "close" = some (some (.ref (He.ma K (He.ga K "System") "close")))),
  fun K => PySem.W.isFn K (.ref (He.ma K (He.ga K "System") "close")),
  fun K => PySem.W.keepIn K (.ref (He.ma K (He.ga K "System") "close")),
  fun K => decide (PySem.W.findIn K (.ref (He.ga K "System")) "copy" = some (some (.ref (He.ma K (He.ga K "System") "copy")))),
  fun K => PySem.W.isFn K (.ref (He.ma K (He.ga K "System") "copy")),
  fun K => PySem.W.keepIn K (.ref (He.ma K (He.ga K "System") "copy")),
  fun K => decide (PySem.W.findIn K (.ref (He.ga K "System")) "free_process" = some (some (.ref (He.ma K (He.ga K "System") "free_process")))),
  fun K => PySem.W.isFn K (.ref (He.ma K (He.ga K "System") "free_process")),
  fun K => PySem.W.keepIn K (.ref (He.ma K (He.ga K "System") "free_process")),
  fun K => decide (PySem.W.findIn K (.ref (He.ga K "System")) "fork" = some (some (.ref (He.ma K (He.ga K "System") "fork")))),
  fun K => PySem.W.isFn K (.ref (He.ma K (He.ga K "System") "fork")),
  fun K => PySem.W.keepIn K (.ref (He.ma K (He.ga K "System") "fork")),
  fun K => decide (PySem.W.findIn K (.ref (He.ga K "System")) "things" = some (some (.ref (He.ma K (He.ga K "System") "things")))),
  fun K => PySem.W.isFn K (.ref (He.ma K (He.ga K "System") "things")),
  fun K => PySem.W.keepIn K (.ref (He.ma K (He.ga K "System") "things")),
  fun K => decide (PySem.W.findIn K (.ref (He.ga K "System")) "numbers_of" = some (some (.ref (He.ma K (He.ga K "System") "numbers_of")))),
  fun K => PySem.W.isFn K (.ref (He.ma K (He.ga K "System") "numbers_of")),
  fun K => PySem.W.keepIn K (.ref (He.ma K (He.ga K "System") "numbers_of")),
  fun K => decide (PySem.W.findIn K (.ref (He.ga K "System")) "name_of" = some (some (.ref (He.ma K (He.ga K "System") "name_of"))))]
def ck7 : List Ck := [fun K => PySem.W.isFn K (.ref (He.ma K (He.ga K "System") "name_of")),
  fun K => PySem.W.keepIn K (.ref (He.ma K (He.ga K "System") "name_of")),
  fun K => decide (PySem.W.findIn K (.ref (He.ga K "System")) "registrations" = some (some (.ref (He.ma K (He.ga K "System") "registrations")))),
  fun K => PySem.W.isFn K (.ref (He.ma K (He.ga K "System") "registrations")),
  fun K => PySem.W.keepIn K (.ref (He.ma K (He.ga K "System") "registrations")),
  fun K => decide (PySem.W.typeIn K (.ref (He.ma K (He.ga K "Registered") "__init__")) = some (.type "function")),
  fun K => decide (PySem.W.typeIn K (.ref (He.ma K (He.ga K "NotRegistered") "__init__")) = some (.type "function")),
  fun K => decide (PySem.W.exmOne K (.ref (He.ga K "NotRegistered")) (.ref (He.ga K "Registered")) = some false),
  fun K => decide (PySem.W.nsIn K mainGlobals "len" = some none),
  fun K => decide (PySem.W.nsIn K mainGlobals "enumerate" = some none),
  fun K => decide (PySem.W.nsIn K mainGlobals "int" = some none),
  fun K => decide (PySem.W.nsIn K mainGlobals "abs" = some none),
  fun K => decide (PySem.W.nsIn K mainGlobals "isinstance" = some none),
  fun K => decide (PySem.W.nsIn K mainGlobals "bool" = some none),
  fun K => decide (PySem.W.nsIn K mainGlobals "list" = some none),
  fun K => decide (PySem.W.nsIn K mainGlobals "min" = some none),
  fun K => decide (PySem.W.nsIn K mainGlobals "max" = some none),
  fun K => decide (PySem.W.nsIn K mainGlobals "range" = some none),
  fun K => decide (PySem.W.nsIn K mainGlobals "sorted" = some none),
  fun K => decide (PySem.W.nsIn K mainGlobals "repr" = some none),
  fun K => decide (PySem.W.nsIn K mainGlobals "any" = some none),
  fun K => decide (PySem.W.nsIn K mainGlobals "LookupError" = some none),
  fun K => decide (PySem.W.nsIn K mainGlobals "RuntimeError" = some none),
  fun K => decide (PySem.W.nsIn K mainGlobals "WORDS" = some (some (.ref (He.ga K "WORDS")))),
  fun K => txtB K (He.ga K "WORDS") "level" "edge" "once",
  fun K => intB (PySem.W.nsIn K mainGlobals "MOST_COUNT") 1000000,
  fun K => intB (PySem.W.nsIn K mainGlobals "MOST_LABEL") 999999,
  fun K => intB (PySem.W.nsIn K mainGlobals "LEAST_PROCESSES") 2,
  fun K => intB (PySem.W.nsIn K mainGlobals "LEAST_NUMBERS") 3,
  fun K => atB K (PySem.W.findIn K (.ref (He.ga K "System")) "MOST_PROCESSES") 6]
def ck8 : List Ck := [fun K => atB K (PySem.W.findIn K (.ref (He.ga K "System")) "MOST_NUMBERS") 8,
  fun K => PySem.W.codeHdIn K (cdA K (He.ga K "_law_done")) (ptA K (He.ga K "_law_done")),
  fun K => decide (mainGlobals ≠ (ptA K (He.ga K "_law_done"))),
  fun K => (K.lookup (ptA K (He.ga K "_law_done"))).isNone]
def ckL : List Ck := ck0 ++ (ck1 ++ (ck2 ++ (ck3 ++ (ck4 ++ (ck5 ++ (ck6 ++ (ck7 ++ (ck8))))))))
def fn0 : List He.DefD := [⟨("is_integer", none), "is_integer", "is_integer", defArgs sIsInteger, defBody sIsInteger, defScope sIsInteger, [], []⟩,
  ⟨("is_between", none), "is_between", "is_between", defArgs sIsBetween, defBody sIsBetween, defScope sIsBetween, [], []⟩,
  ⟨("is_count", none), "is_count", "is_count", defArgs sIsCount, defBody sIsCount, defScope sIsCount, [], []⟩,
  ⟨("is_label", none), "is_label", "is_label", defArgs sIsLabel, defBody sIsLabel, defScope sIsLabel, [], []⟩,
  ⟨("is_word", none), "is_word", "is_word", defArgs sIsWord, defBody sIsWord, defScope sIsWord, [], []⟩,
  ⟨("_law_bag", none), "_law_bag", "_law_bag", defArgs sBag, defBody sBag, defScope sBag, [], []⟩,
  ⟨("_law_take", none), "_law_take", "_law_take", defArgs sTake, defBody sTake, defScope sTake, [], []⟩,
  ⟨("_law_outcome", none), "_law_outcome", "_law_outcome", defArgs sOutcome, defBody sOutcome, defScope sOutcome, [], []⟩,
  ⟨("_law_home", none), "_law_home", "_law_home", defArgs sHome, defBody sHome, defScope sHome, [], []⟩,
  ⟨("_law_added", none), "_law_added", "_law_added", defArgs sAdded, defBody sAdded, defScope sAdded, [], []⟩,
  ⟨("_law_done", none), "_law_done", "_law_done", defArgs sDone, defBody sDone, defScope sDone, [], []⟩,
  ⟨("_law_is_level", none), "_law_is_level", "_law_is_level", defArgs sIsLevel, defBody sIsLevel, defScope sIsLevel, [], []⟩,
  ⟨("law", none), "law", "law", defArgs sLaw, defBody sLaw, defScope sLaw, [], []⟩,
  ⟨("Registered", some "__init__"), "__init__", "Registered.__init__", defArgs sRegisteredInit, defBody sRegisteredInit, defScope sRegisteredInit, [], []⟩,
  ⟨("NotRegistered", some "__init__"), "__init__", "NotRegistered.__init__", defArgs sNotRegisteredInit, defBody sNotRegisteredInit, defScope sNotRegisteredInit, [], []⟩,
  ⟨("Registration", some "__init__"), "__init__", "Registration.__init__", defArgs sRegInit, defBody sRegInit, defScope sRegInit, [], []⟩,
  ⟨("WaitingSet", some "__init__"), "__init__", "WaitingSet.__init__", defArgs sWsInit, defBody sWsInit, defScope sWsInit, [], []⟩,
  ⟨("WaitingSet", some "label_of"), "label_of", "WaitingSet.label_of", defArgs sLabelOf, defBody sLabelOf, defScope sLabelOf, [], []⟩,
  ⟨("WaitingSet", some "put"), "put", "WaitingSet.put", defArgs sPut, defBody sPut, defScope sPut, [], []⟩,
  ⟨("WaitingSet", some "append_pending"), "append_pending", "WaitingSet.append_pending", defArgs sAppend, defBody sAppend, defScope sAppend, [], []⟩,
  ⟨("WaitingSet", some "drop"), "drop", "WaitingSet.drop", defArgs sDrop, defBody sDrop, defScope sDrop, [], []⟩,
  ⟨("WaitingSet", some "notice"), "notice", "WaitingSet.notice", defArgs sNotice, defBody sNotice, defScope sNotice, [], []⟩,
  ⟨("WaitingSet", some "take_reports"), "take_reports", "WaitingSet.take_reports", defArgs sReports, defBody sReports, defScope sReports, [], []⟩,
  ⟨("WaitingSet", some "settle"), "settle", "WaitingSet.settle", defArgs sSettle, defBody sSettle, defScope sSettle, [], []⟩,
  ⟨("System", some "__init__"), "__init__", "System.__init__", defArgs sSysInit, defBody sSysInit, defScope sSysInit, [], [("processes", .int 4), ("numbers", .int 8)]⟩,
  ⟨("System", some "__contains__"), "__contains__", "System.__contains__", defArgs sContains, defBody sContains, defScope sContains, [], []⟩,
  ⟨("System", some "table_of"), "table_of", "System.table_of", defArgs sTableOf, defBody sTableOf, defScope sTableOf, [], []⟩,
  ⟨("System", some "is_table_number"), "is_table_number", "System.is_table_number", defArgs sIsTabNum, defBody sIsTabNum, defScope sIsTabNum, [], []⟩,
  ⟨("System", some "thing_at"), "thing_at", "System.thing_at", defArgs sThingAt, defBody sThingAt, defScope sThingAt, [], []⟩,
  ⟨("System", some "source_at"), "source_at", "System.source_at", defArgs sSourceAt, defBody sSourceAt, defScope sSourceAt, [], []⟩]
def fn1 : List He.DefD := [⟨("System", some "set_at"), "set_at", "System.set_at", defArgs sSetAt, defBody sSetAt, defScope sSetAt, [], []⟩,
  ⟨("System", some "free_number"), "free_number", "System.free_number", defArgs sFreeNum, defBody sFreeNum, defScope sFreeNum, [], []⟩,
  ⟨("System", some "new_thing"), "new_thing", "System.new_thing", defArgs sNewThing, defBody sNewThing, defScope sNewThing, [], []⟩,
  ⟨("System", some "new_source"), "new_source", "System.new_source", defArgs sNewSource, defBody sNewSource, defScope sNewSource, [], []⟩,
  ⟨("System", some "new_set"), "new_set", "System.new_set", defArgs sNewSet, defBody sNewSet, defScope sNewSet, [], []⟩,
  ⟨("System", some "is_ready"), "is_ready", "System.is_ready", defArgs sIsReady, defBody sIsReady, defScope sIsReady, [], []⟩,
  ⟨("System", some "unread_of_unfinished"), "unread_of_unfinished", "System.unread_of_unfinished", defArgs sUnfinished, defBody sUnfinished, defScope sUnfinished, [], []⟩,
  ⟨("System", some "notify"), "notify", "System.notify", defArgs sNotify, defBody sNotify, defScope sNotify, [], []⟩,
  ⟨("System", some "arrive"), "arrive", "System.arrive", defArgs sArrive, defBody sArrive, defScope sArrive, [.int 1], []⟩,
  ⟨("System", some "wait"), "wait", "System.wait", defArgs sWait, defBody sWait, defScope sWait, [.int 1], []⟩,
  ⟨("System", some "row_of"), "row_of", "System.row_of", defArgs sRowOf, defBody sRowOf, defScope sRowOf, [], []⟩,
  ⟨("System", some "add"), "add", "System.add", defArgs sAdd, defBody sAdd, defScope sAdd, [], [("word", .str "level")]⟩,
  ⟨("System", some "change"), "change", "System.change", defArgs sChange, defBody sChange, defScope sChange, [], []⟩,
  ⟨("System", some "remove"), "remove", "System.remove", defArgs sRemove, defBody sRemove, defScope sRemove, [], []⟩,
  ⟨("System", some "free"), "free", "System.free", defArgs sFree, defBody sFree, defScope sFree, [], []⟩,
  ⟨("System", some "close"), "close", "System.close", defArgs sClose, defBody sClose, defScope sClose, [], []⟩,
  ⟨("System", some "copy"), "copy", "System.copy", defArgs sCopy, defBody sCopy, defScope sCopy, [.non], []⟩,
  ⟨("System", some "free_process"), "free_process", "System.free_process", defArgs sFreeProc, defBody sFreeProc, defScope sFreeProc, [], []⟩,
  ⟨("System", some "fork"), "fork", "System.fork", defArgs sFork, defBody sFork, defScope sFork, [], []⟩,
  ⟨("System", some "things"), "things", "System.things", defArgs sThings, defBody sThings, defScope sThings, [], []⟩,
  ⟨("System", some "numbers_of"), "numbers_of", "System.numbers_of", defArgs sNumbersOf, defBody sNumbersOf, defScope sNumbersOf, [], []⟩,
  ⟨("System", some "name_of"), "name_of", "System.name_of", defArgs sNameOf, defBody sNameOf, defScope sNameOf, [], []⟩,
  ⟨("System", some "registrations"), "registrations", "System.registrations", defArgs sRegistrations, defBody sRegistrations, defScope sRegistrations, [], []⟩]
def fnL : List He.DefD := fn0 ++ (fn1)
theorem facts {P : Program} {w : World} {K : PySem.W.Frag} {h : Heap} {mg : Str → Option Value} {fa : Addr} (X : K.In h) (G : h.Ns mainGlobals mg) (hfa : mg "law" = some (.ref fa)) (c : SaysB ckL fnL K) :
    (∃ fd : FuncData, (∀ (s : Shared) (u : Value), BindsTo s fd ⟨[u], []⟩ [("_law_script", u)]) ∧ (∀ base : Heap, K.In base → base.Ns mainGlobals mg → base.BuiltinsAt mg (ptA K (He.ga K "_law_done")) → FnG P w K mg base CX0 10 fa fd ["_law_script"] (spLaw K (ptA K (He.ga K "_law_done")))) ∧
      ∀ (H : Hp) (a : Addr) (ns : List Int), ns.length ≤ 63 → SqL K H a (ns.map V.int) → H (ptA K (He.ga K "_law_done")) = some (.tbl #[]) → spLaw K (ptA K (He.ga K "_law_done")) [.ref a] H (fun v _ => v = .bl true) fun _ _ _ => False) ∧ K.lookup (ptA K (He.ga K "_law_done")) = none ∧ isCodeTable h (ptA K (He.ga K "_law_done")) := by
  have gCS : PySem.W.nsIn K mainGlobals "System" = some (some (.ref (He.ga K "System"))) := of_decide_eq_true (SaysB.ck c 0 (f := fun K => decide (PySem.W.nsIn K mainGlobals "System" = some (some (.ref (He.ga K "System"))))) rfl)
  have pgS : PySem.W.plainGet K (He.ga K "System") Str.empty = true := (SaysB.ck c 1 (f := fun K => PySem.W.plainGet K (He.ga K "System") Str.empty) rfl)
  have hdS : PySem.W.hasDictIn K (He.ga K "System") = true := (SaysB.ck c 2 (f := fun K => PySem.W.hasDictIn K (He.ga K "System")) rfl)
  have poS : PySem.W.plainOver K (He.ga K "System") = true := (SaysB.ck c 3 (f := fun K => PySem.W.plainOver K (He.ga K "System")) rfl)
  have saS : PySem.W.findIn K (.ref (He.ga K "System")) "__setattr__" = some (some (.builtin "object.__setattr__")) := of_decide_eq_true (SaysB.ck c 4 (f := fun K => decide (PySem.W.findIn K (.ref (He.ga K "System")) "__setattr__" = some (some (.builtin "object.__setattr__")))) rfl)
  have mkS : PySem.W.makesIn K (He.ga K "System") = true := (SaysB.ck c 5 (f := fun K => PySem.W.makesIn K (He.ga K "System")) rfl)
  have kcS : PySem.W.keepIn K (.ref (He.ga K "System")) = true := (SaysB.ck c 6 (f := fun K => PySem.W.keepIn K (.ref (He.ga K "System"))) rfl)
  have noS0 : PySem.W.findIn K (.ref (He.ga K "System")) "process_limit" = some none := of_decide_eq_true (SaysB.ck c 7 (f := fun K => decide (PySem.W.findIn K (.ref (He.ga K "System")) "process_limit" = some none)) rfl)
  have noS1 : PySem.W.findIn K (.ref (He.ga K "System")) "number_limit" = some none := of_decide_eq_true (SaysB.ck c 8 (f := fun K => decide (PySem.W.findIn K (.ref (He.ga K "System")) "number_limit" = some none)) rfl)
  have noS2 : PySem.W.findIn K (.ref (He.ga K "System")) "tables" = some none := of_decide_eq_true (SaysB.ck c 9 (f := fun K => decide (PySem.W.findIn K (.ref (He.ga K "System")) "tables" = some none)) rfl)
  have noS3 : PySem.W.findIn K (.ref (He.ga K "System")) "sources" = some none := of_decide_eq_true (SaysB.ck c 10 (f := fun K => decide (PySem.W.findIn K (.ref (He.ga K "System")) "sources" = some none)) rfl)
  have noS4 : PySem.W.findIn K (.ref (He.ga K "System")) "sets" = some none := of_decide_eq_true (SaysB.ck c 11 (f := fun K => decide (PySem.W.findIn K (.ref (He.ga K "System")) "sets" = some none)) rfl)
  have noS5 : PySem.W.findIn K (.ref (He.ga K "System")) "next_thing" = some none := of_decide_eq_true (SaysB.ck c 12 (f := fun K => decide (PySem.W.findIn K (.ref (He.ga K "System")) "next_thing" = some none)) rfl)
  have gCW : PySem.W.nsIn K mainGlobals "WaitingSet" = some (some (.ref (He.ga K "WaitingSet"))) := of_decide_eq_true (SaysB.ck c 13 (f := fun K => decide (PySem.W.nsIn K mainGlobals "WaitingSet" = some (some (.ref (He.ga K "WaitingSet"))))) rfl)
  have pgW : PySem.W.plainGet K (He.ga K "WaitingSet") Str.empty = true := (SaysB.ck c 14 (f := fun K => PySem.W.plainGet K (He.ga K "WaitingSet") Str.empty) rfl)
  have hdW : PySem.W.hasDictIn K (He.ga K "WaitingSet") = true := (SaysB.ck c 15 (f := fun K => PySem.W.hasDictIn K (He.ga K "WaitingSet")) rfl)
  have poW : PySem.W.plainOver K (He.ga K "WaitingSet") = true := (SaysB.ck c 16 (f := fun K => PySem.W.plainOver K (He.ga K "WaitingSet")) rfl)
  have saW : PySem.W.findIn K (.ref (He.ga K "WaitingSet")) "__setattr__" = some (some (.builtin "object.__setattr__")) := of_decide_eq_true (SaysB.ck c 17 (f := fun K => decide (PySem.W.findIn K (.ref (He.ga K "WaitingSet")) "__setattr__" = some (some (.builtin "object.__setattr__")))) rfl)
  have mkW : PySem.W.makesIn K (He.ga K "WaitingSet") = true := (SaysB.ck c 18 (f := fun K => PySem.W.makesIn K (He.ga K "WaitingSet")) rfl)
  have kcW : PySem.W.keepIn K (.ref (He.ga K "WaitingSet")) = true := (SaysB.ck c 19 (f := fun K => PySem.W.keepIn K (.ref (He.ga K "WaitingSet"))) rfl)
  have noW0 : PySem.W.findIn K (.ref (He.ga K "WaitingSet")) "entries" = some none := of_decide_eq_true (SaysB.ck c 20 (f := fun K => decide (PySem.W.findIn K (.ref (He.ga K "WaitingSet")) "entries" = some none)) rfl)
  have noW1 : PySem.W.findIn K (.ref (He.ga K "WaitingSet")) "queue" = some none := of_decide_eq_true (SaysB.ck c 21 (f := fun K => decide (PySem.W.findIn K (.ref (He.ga K "WaitingSet")) "queue" = some none)) rfl)
  have gCR : PySem.W.nsIn K mainGlobals "Registration" = some (some (.ref (He.ga K "Registration"))) := of_decide_eq_true (SaysB.ck c 22 (f := fun K => decide (PySem.W.nsIn K mainGlobals "Registration" = some (some (.ref (He.ga K "Registration"))))) rfl)
  have pgR : PySem.W.plainGet K (He.ga K "Registration") Str.empty = true := (SaysB.ck c 23 (f := fun K => PySem.W.plainGet K (He.ga K "Registration") Str.empty) rfl)
  have hdR : PySem.W.hasDictIn K (He.ga K "Registration") = true := (SaysB.ck c 24 (f := fun K => PySem.W.hasDictIn K (He.ga K "Registration")) rfl)
  have poR : PySem.W.plainOver K (He.ga K "Registration") = true := (SaysB.ck c 25 (f := fun K => PySem.W.plainOver K (He.ga K "Registration")) rfl)
  have saR : PySem.W.findIn K (.ref (He.ga K "Registration")) "__setattr__" = some (some (.builtin "object.__setattr__")) := of_decide_eq_true (SaysB.ck c 26 (f := fun K => decide (PySem.W.findIn K (.ref (He.ga K "Registration")) "__setattr__" = some (some (.builtin "object.__setattr__")))) rfl)
  have mkR : PySem.W.makesIn K (He.ga K "Registration") = true := (SaysB.ck c 27 (f := fun K => PySem.W.makesIn K (He.ga K "Registration")) rfl)
  have kcR : PySem.W.keepIn K (.ref (He.ga K "Registration")) = true := (SaysB.ck c 28 (f := fun K => PySem.W.keepIn K (.ref (He.ga K "Registration"))) rfl)
  have noR0 : PySem.W.findIn K (.ref (He.ga K "Registration")) "number" = some none := of_decide_eq_true (SaysB.ck c 29 (f := fun K => decide (PySem.W.findIn K (.ref (He.ga K "Registration")) "number" = some none)) rfl)
  have noR1 : PySem.W.findIn K (.ref (He.ga K "Registration")) "source" = some none := of_decide_eq_true (SaysB.ck c 30 (f := fun K => decide (PySem.W.findIn K (.ref (He.ga K "Registration")) "source" = some none)) rfl)
  have noR2 : PySem.W.findIn K (.ref (He.ga K "Registration")) "word" = some none := of_decide_eq_true (SaysB.ck c 31 (f := fun K => decide (PySem.W.findIn K (.ref (He.ga K "Registration")) "word" = some none)) rfl)
  have noR3 : PySem.W.findIn K (.ref (He.ga K "Registration")) "armed" = some none := of_decide_eq_true (SaysB.ck c 32 (f := fun K => decide (PySem.W.findIn K (.ref (He.ga K "Registration")) "armed" = some none)) rfl)
  have nWR : (He.ga K "WaitingSet") ≠ (He.ga K "Registration") := of_decide_eq_true (SaysB.ck c 33 (f := fun K => decide ((He.ga K "WaitingSet") ≠ (He.ga K "Registration"))) rfl)
  have gCRg : PySem.W.nsIn K mainGlobals "Registered" = some (some (.ref (He.ga K "Registered"))) := of_decide_eq_true (SaysB.ck c 34 (f := fun K => decide (PySem.W.nsIn K mainGlobals "Registered" = some (some (.ref (He.ga K "Registered"))))) rfl)
  obtain ⟨nmRg, qRg, NRg, bsRg, snRg, subRg, abRg, colRg, ddRg, maRg, mbRg, mcRg, mdRg, meRg, xLRg⟩ := excB_ok (SaysB.ck c 35 (f := fun K => excB K (He.ga K "Registered") [.type "RuntimeError", .type "Exception", .type "BaseException", .type "object"] "RuntimeError.__new__") rfl)
  have xsaRg : PySem.W.findIn K (.ref (He.ga K "Registered")) "__setattr__" = some (some (.builtin "object.__setattr__")) := of_decide_eq_true (SaysB.ck c 36 (f := fun K => decide (PySem.W.findIn K (.ref (He.ga K "Registered")) "__setattr__" = some (some (.builtin "object.__setattr__")))) rfl)
  have xgaRg : PySem.W.findIn K (.ref (He.ga K "Registered")) "__getattribute__" = some (some (.builtin "BaseException.__getattribute__")) := of_decide_eq_true (SaysB.ck c 37 (f := fun K => decide (PySem.W.findIn K (.ref (He.ga K "Registered")) "__getattribute__" = some (some (.builtin "BaseException.__getattribute__")))) rfl)
  have xggRg : PySem.W.findIn K (.ref (He.ga K "Registered")) "__getattr__" = some none := of_decide_eq_true (SaysB.ck c 38 (f := fun K => decide (PySem.W.findIn K (.ref (He.ga K "Registered")) "__getattr__" = some none)) rfl)
  have xnbRg0 : PySem.W.findIn K (.ref (He.ga K "Registered")) "number" = some none := of_decide_eq_true (SaysB.ck c 39 (f := fun K => decide (PySem.W.findIn K (.ref (He.ga K "Registered")) "number" = some none)) rfl)
  have xvVRg : PySem.W.findCls K (.type "RuntimeError") (.type "type") "__init__" = some (.val (.builtin "RuntimeError.__init__")) := clsB_ok (SaysB.ck c 40 (f := fun K => clsB (PySem.W.findCls K (.type "RuntimeError") (.type "type") "__init__") "RuntimeError.__init__") rfl)
  have xkCRg : PySem.W.keepIn K (.ref (He.ga K "Registered")) = true := (SaysB.ck c 41 (f := fun K => PySem.W.keepIn K (.ref (He.ga K "Registered"))) rfl)
  have xeCRg : PySem.W.subIn K (.ref (He.ga K "Registered")) (.type "BaseException") = some true := of_decide_eq_true (SaysB.ck c 42 (f := fun K => decide (PySem.W.subIn K (.ref (He.ga K "Registered")) (.type "BaseException") = some true)) rfl)
  have xtCRg : PySem.W.typeIn K (.ref (He.ga K "Registered")) = some (.type "type") := of_decide_eq_true (SaysB.ck c 43 (f := fun K => decide (PySem.W.typeIn K (.ref (He.ga K "Registered")) = some (.type "type"))) rfl)
  have xhCRg : PySem.W.hasDictIn K (He.ga K "Registered") = true := (SaysB.ck c 44 (f := fun K => PySem.W.hasDictIn K (He.ga K "Registered")) rfl)
  have xteRg : PySem.W.exmOne K (.ref (He.ga K "Registered")) (.ref (He.ga K "Registered")) = some true := of_decide_eq_true (SaysB.ck c 45 (f := fun K => decide (PySem.W.exmOne K (.ref (He.ga K "Registered")) (.ref (He.ga K "Registered")) = some true)) rfl)
  have xC1Rg : PySem.W.findIn K (.ref (He.ga K "Registered")) "__class__" = some (some (.builtin "object.__class__")) := of_decide_eq_true (SaysB.ck c 46 (f := fun K => decide (PySem.W.findIn K (.ref (He.ga K "Registered")) "__class__" = some (some (.builtin "object.__class__")))) rfl)
  have xC4Rg : PySem.W.mroIn K (He.ga K "Registered") (.type "object") = some true := of_decide_eq_true (SaysB.ck c 47 (f := fun K => decide (PySem.W.mroIn K (He.ga K "Registered") (.type "object") = some true)) rfl)
  have xC5Rg : (PySem.W.clsIn K (He.ga K "Registered")).isSome = true := (SaysB.ck c 48 (f := fun K => (PySem.W.clsIn K (He.ga K "Registered")).isSome) rfl)
  have xkvRg : PySem.W.kitOne K (.ref (He.ga K "Registered")) (.type "RuntimeError") = some true := of_decide_eq_true (SaysB.ck c 49 (f := fun K => decide (PySem.W.kitOne K (.ref (He.ga K "Registered")) (.type "RuntimeError") = some true)) rfl)
  have xC2 : PySem.W.specialIn K (.builtin "object.__class__") "__get__" = some (some (.builtin "getset_descriptor.__get__")) := of_decide_eq_true (SaysB.ck c 50 (f := fun K => decide (PySem.W.specialIn K (.builtin "object.__class__") "__get__" = some (some (.builtin "getset_descriptor.__get__")))) rfl)
  have xC3 : PySem.W.takesIn K (.builtin "object.__class__") = some true := of_decide_eq_true (SaysB.ck c 51 (f := fun K => decide (PySem.W.takesIn K (.builtin "object.__class__") = some true)) rfl)
  have gCNr : PySem.W.nsIn K mainGlobals "NotRegistered" = some (some (.ref (He.ga K "NotRegistered"))) := of_decide_eq_true (SaysB.ck c 52 (f := fun K => decide (PySem.W.nsIn K mainGlobals "NotRegistered" = some (some (.ref (He.ga K "NotRegistered"))))) rfl)
  obtain ⟨nmNr, qNr, NNr, bsNr, snNr, subNr, abNr, colNr, ddNr, maNr, mbNr, mcNr, mdNr, meNr, xLNr⟩ := excB_ok (SaysB.ck c 53 (f := fun K => excB K (He.ga K "NotRegistered") [.type "LookupError", .type "Exception", .type "BaseException", .type "object"] "LookupError.__new__") rfl)
  have xsaNr : PySem.W.findIn K (.ref (He.ga K "NotRegistered")) "__setattr__" = some (some (.builtin "object.__setattr__")) := of_decide_eq_true (SaysB.ck c 54 (f := fun K => decide (PySem.W.findIn K (.ref (He.ga K "NotRegistered")) "__setattr__" = some (some (.builtin "object.__setattr__")))) rfl)
  have xgaNr : PySem.W.findIn K (.ref (He.ga K "NotRegistered")) "__getattribute__" = some (some (.builtin "BaseException.__getattribute__")) := of_decide_eq_true (SaysB.ck c 55 (f := fun K => decide (PySem.W.findIn K (.ref (He.ga K "NotRegistered")) "__getattribute__" = some (some (.builtin "BaseException.__getattribute__")))) rfl)
  have xggNr : PySem.W.findIn K (.ref (He.ga K "NotRegistered")) "__getattr__" = some none := of_decide_eq_true (SaysB.ck c 56 (f := fun K => decide (PySem.W.findIn K (.ref (He.ga K "NotRegistered")) "__getattr__" = some none)) rfl)
  have xnbNr0 : PySem.W.findIn K (.ref (He.ga K "NotRegistered")) "number" = some none := of_decide_eq_true (SaysB.ck c 57 (f := fun K => decide (PySem.W.findIn K (.ref (He.ga K "NotRegistered")) "number" = some none)) rfl)
  have xvVNr : PySem.W.findCls K (.type "LookupError") (.type "type") "__init__" = some (.val (.builtin "LookupError.__init__")) := clsB_ok (SaysB.ck c 58 (f := fun K => clsB (PySem.W.findCls K (.type "LookupError") (.type "type") "__init__") "LookupError.__init__") rfl)
  have xkCNr : PySem.W.keepIn K (.ref (He.ga K "NotRegistered")) = true := (SaysB.ck c 59 (f := fun K => PySem.W.keepIn K (.ref (He.ga K "NotRegistered"))) rfl)
  have xeCNr : PySem.W.subIn K (.ref (He.ga K "NotRegistered")) (.type "BaseException") = some true := of_decide_eq_true (SaysB.ck c 60 (f := fun K => decide (PySem.W.subIn K (.ref (He.ga K "NotRegistered")) (.type "BaseException") = some true)) rfl)
  have xtCNr : PySem.W.typeIn K (.ref (He.ga K "NotRegistered")) = some (.type "type") := of_decide_eq_true (SaysB.ck c 61 (f := fun K => decide (PySem.W.typeIn K (.ref (He.ga K "NotRegistered")) = some (.type "type"))) rfl)
  have xhCNr : PySem.W.hasDictIn K (He.ga K "NotRegistered") = true := (SaysB.ck c 62 (f := fun K => PySem.W.hasDictIn K (He.ga K "NotRegistered")) rfl)
  have xteNr : PySem.W.exmOne K (.ref (He.ga K "NotRegistered")) (.ref (He.ga K "NotRegistered")) = some true := of_decide_eq_true (SaysB.ck c 63 (f := fun K => decide (PySem.W.exmOne K (.ref (He.ga K "NotRegistered")) (.ref (He.ga K "NotRegistered")) = some true)) rfl)
  have xC1Nr : PySem.W.findIn K (.ref (He.ga K "NotRegistered")) "__class__" = some (some (.builtin "object.__class__")) := of_decide_eq_true (SaysB.ck c 64 (f := fun K => decide (PySem.W.findIn K (.ref (He.ga K "NotRegistered")) "__class__" = some (some (.builtin "object.__class__")))) rfl)
  have xC4Nr : PySem.W.mroIn K (He.ga K "NotRegistered") (.type "object") = some true := of_decide_eq_true (SaysB.ck c 65 (f := fun K => decide (PySem.W.mroIn K (He.ga K "NotRegistered") (.type "object") = some true)) rfl)
  have xC5Nr : (PySem.W.clsIn K (He.ga K "NotRegistered")).isSome = true := (SaysB.ck c 66 (f := fun K => (PySem.W.clsIn K (He.ga K "NotRegistered")).isSome) rfl)
  have xkvNr : PySem.W.kitOne K (.ref (He.ga K "NotRegistered")) (.type "LookupError") = some true := of_decide_eq_true (SaysB.ck c 67 (f := fun K => decide (PySem.W.kitOne K (.ref (He.ga K "NotRegistered")) (.type "LookupError") = some true)) rfl)
  have aint : PySem.W.nsIn K mainGlobals "is_integer" = some (some (.ref (He.ga K "is_integer"))) := of_decide_eq_true (SaysB.ck c 68 (f := fun K => decide (PySem.W.nsIn K mainGlobals "is_integer" = some (some (.ref (He.ga K "is_integer"))))) rfl)
  have kint : PySem.W.keepIn K (.ref (He.ga K "is_integer")) = true := (SaysB.ck c 69 (f := fun K => PySem.W.keepIn K (.ref (He.ga K "is_integer"))) rfl)
  obtain ⟨fd_int, F0int⟩ := SaysB.def_ c 0 (d := (⟨("is_integer", none), "is_integer", "is_integer", defArgs sIsInteger, defBody sIsInteger, defScope sIsInteger, [], []⟩ : He.DefD)) rfl
  have abet : PySem.W.nsIn K mainGlobals "is_between" = some (some (.ref (He.ga K "is_between"))) := of_decide_eq_true (SaysB.ck c 70 (f := fun K => decide (PySem.W.nsIn K mainGlobals "is_between" = some (some (.ref (He.ga K "is_between"))))) rfl)
  have kbet : PySem.W.keepIn K (.ref (He.ga K "is_between")) = true := (SaysB.ck c 71 (f := fun K => PySem.W.keepIn K (.ref (He.ga K "is_between"))) rfl)
  obtain ⟨fd_bet, F0bet⟩ := SaysB.def_ c 1 (d := (⟨("is_between", none), "is_between", "is_between", defArgs sIsBetween, defBody sIsBetween, defScope sIsBetween, [], []⟩ : He.DefD)) rfl
  have acnt : PySem.W.nsIn K mainGlobals "is_count" = some (some (.ref (He.ga K "is_count"))) := of_decide_eq_true (SaysB.ck c 72 (f := fun K => decide (PySem.W.nsIn K mainGlobals "is_count" = some (some (.ref (He.ga K "is_count"))))) rfl)
  have kcnt : PySem.W.keepIn K (.ref (He.ga K "is_count")) = true := (SaysB.ck c 73 (f := fun K => PySem.W.keepIn K (.ref (He.ga K "is_count"))) rfl)
  obtain ⟨fd_cnt, F0cnt⟩ := SaysB.def_ c 2 (d := (⟨("is_count", none), "is_count", "is_count", defArgs sIsCount, defBody sIsCount, defScope sIsCount, [], []⟩ : He.DefD)) rfl
  have alab : PySem.W.nsIn K mainGlobals "is_label" = some (some (.ref (He.ga K "is_label"))) := of_decide_eq_true (SaysB.ck c 74 (f := fun K => decide (PySem.W.nsIn K mainGlobals "is_label" = some (some (.ref (He.ga K "is_label"))))) rfl)
  have klab : PySem.W.keepIn K (.ref (He.ga K "is_label")) = true := (SaysB.ck c 75 (f := fun K => PySem.W.keepIn K (.ref (He.ga K "is_label"))) rfl)
  obtain ⟨fd_lab, F0lab⟩ := SaysB.def_ c 3 (d := (⟨("is_label", none), "is_label", "is_label", defArgs sIsLabel, defBody sIsLabel, defScope sIsLabel, [], []⟩ : He.DefD)) rfl
  have awrd : PySem.W.nsIn K mainGlobals "is_word" = some (some (.ref (He.ga K "is_word"))) := of_decide_eq_true (SaysB.ck c 76 (f := fun K => decide (PySem.W.nsIn K mainGlobals "is_word" = some (some (.ref (He.ga K "is_word"))))) rfl)
  have kwrd : PySem.W.keepIn K (.ref (He.ga K "is_word")) = true := (SaysB.ck c 77 (f := fun K => PySem.W.keepIn K (.ref (He.ga K "is_word"))) rfl)
  obtain ⟨fd_wrd, F0wrd⟩ := SaysB.def_ c 4 (d := (⟨("is_word", none), "is_word", "is_word", defArgs sIsWord, defBody sIsWord, defScope sIsWord, [], []⟩ : He.DefD)) rfl
  have abag : PySem.W.nsIn K mainGlobals "_law_bag" = some (some (.ref (He.ga K "_law_bag"))) := of_decide_eq_true (SaysB.ck c 78 (f := fun K => decide (PySem.W.nsIn K mainGlobals "_law_bag" = some (some (.ref (He.ga K "_law_bag"))))) rfl)
  have kbag : PySem.W.keepIn K (.ref (He.ga K "_law_bag")) = true := (SaysB.ck c 79 (f := fun K => PySem.W.keepIn K (.ref (He.ga K "_law_bag"))) rfl)
  obtain ⟨fd_bag, F0bag⟩ := SaysB.def_ c 5 (d := (⟨("_law_bag", none), "_law_bag", "_law_bag", defArgs sBag, defBody sBag, defScope sBag, [], []⟩ : He.DefD)) rfl
  have atake : PySem.W.nsIn K mainGlobals "_law_take" = some (some (.ref (He.ga K "_law_take"))) := of_decide_eq_true (SaysB.ck c 80 (f := fun K => decide (PySem.W.nsIn K mainGlobals "_law_take" = some (some (.ref (He.ga K "_law_take"))))) rfl)
  have ktake : PySem.W.keepIn K (.ref (He.ga K "_law_take")) = true := (SaysB.ck c 81 (f := fun K => PySem.W.keepIn K (.ref (He.ga K "_law_take"))) rfl)
  obtain ⟨fd_take, F0take⟩ := SaysB.def_ c 6 (d := (⟨("_law_take", none), "_law_take", "_law_take", defArgs sTake, defBody sTake, defScope sTake, [], []⟩ : He.DefD)) rfl
  have aout : PySem.W.nsIn K mainGlobals "_law_outcome" = some (some (.ref (He.ga K "_law_outcome"))) := of_decide_eq_true (SaysB.ck c 82 (f := fun K => decide (PySem.W.nsIn K mainGlobals "_law_outcome" = some (some (.ref (He.ga K "_law_outcome"))))) rfl)
  have kout : PySem.W.keepIn K (.ref (He.ga K "_law_outcome")) = true := (SaysB.ck c 83 (f := fun K => PySem.W.keepIn K (.ref (He.ga K "_law_outcome"))) rfl)
  obtain ⟨fd_out, F0out⟩ := SaysB.def_ c 7 (d := (⟨("_law_outcome", none), "_law_outcome", "_law_outcome", defArgs sOutcome, defBody sOutcome, defScope sOutcome, [], []⟩ : He.DefD)) rfl
  have ahom : PySem.W.nsIn K mainGlobals "_law_home" = some (some (.ref (He.ga K "_law_home"))) := of_decide_eq_true (SaysB.ck c 84 (f := fun K => decide (PySem.W.nsIn K mainGlobals "_law_home" = some (some (.ref (He.ga K "_law_home"))))) rfl)
  have khom : PySem.W.keepIn K (.ref (He.ga K "_law_home")) = true := (SaysB.ck c 85 (f := fun K => PySem.W.keepIn K (.ref (He.ga K "_law_home"))) rfl)
  obtain ⟨fd_hom, F0hom⟩ := SaysB.def_ c 8 (d := (⟨("_law_home", none), "_law_home", "_law_home", defArgs sHome, defBody sHome, defScope sHome, [], []⟩ : He.DefD)) rfl
  have alad : PySem.W.nsIn K mainGlobals "_law_added" = some (some (.ref (He.ga K "_law_added"))) := of_decide_eq_true (SaysB.ck c 86 (f := fun K => decide (PySem.W.nsIn K mainGlobals "_law_added" = some (some (.ref (He.ga K "_law_added"))))) rfl)
  have klad : PySem.W.keepIn K (.ref (He.ga K "_law_added")) = true := (SaysB.ck c 87 (f := fun K => PySem.W.keepIn K (.ref (He.ga K "_law_added"))) rfl)
  obtain ⟨fd_lad, F0lad⟩ := SaysB.def_ c 9 (d := (⟨("_law_added", none), "_law_added", "_law_added", defArgs sAdded, defBody sAdded, defScope sAdded, [], []⟩ : He.DefD)) rfl
  have adon : PySem.W.nsIn K mainGlobals "_law_done" = some (some (.ref (He.ga K "_law_done"))) := of_decide_eq_true (SaysB.ck c 88 (f := fun K => decide (PySem.W.nsIn K mainGlobals "_law_done" = some (some (.ref (He.ga K "_law_done"))))) rfl)
  have kdon : PySem.W.keepIn K (.ref (He.ga K "_law_done")) = true := (SaysB.ck c 89 (f := fun K => PySem.W.keepIn K (.ref (He.ga K "_law_done"))) rfl)
  obtain ⟨fd_don, F0don⟩ := SaysB.def_ c 10 (d := (⟨("_law_done", none), "_law_done", "_law_done", defArgs sDone, defBody sDone, defScope sDone, [], []⟩ : He.DefD)) rfl
  have hcddon : cdV K (He.ga K "_law_done") = some (.ref (cdA K (He.ga K "_law_done"))) := of_decide_eq_true (SaysB.ck c 90 (f := fun K => decide (cdV K (He.ga K "_law_done") = some (.ref (cdA K (He.ga K "_law_done"))))) rfl)
  have aisl : PySem.W.nsIn K mainGlobals "_law_is_level" = some (some (.ref (He.ga K "_law_is_level"))) := of_decide_eq_true (SaysB.ck c 91 (f := fun K => decide (PySem.W.nsIn K mainGlobals "_law_is_level" = some (some (.ref (He.ga K "_law_is_level"))))) rfl)
  have kisl : PySem.W.keepIn K (.ref (He.ga K "_law_is_level")) = true := (SaysB.ck c 92 (f := fun K => PySem.W.keepIn K (.ref (He.ga K "_law_is_level"))) rfl)
  obtain ⟨fd_isl, F0isl⟩ := SaysB.def_ c 11 (d := (⟨("_law_is_level", none), "_law_is_level", "_law_is_level", defArgs sIsLevel, defBody sIsLevel, defScope sIsLevel, [], []⟩ : He.DefD)) rfl
  have alaw : PySem.W.nsIn K mainGlobals "law" = some (some (.ref (He.ga K "law"))) := of_decide_eq_true (SaysB.ck c 93 (f := fun K => decide (PySem.W.nsIn K mainGlobals "law" = some (some (.ref (He.ga K "law"))))) rfl)
  have klaw : PySem.W.keepIn K (.ref (He.ga K "law")) = true := (SaysB.ck c 94 (f := fun K => PySem.W.keepIn K (.ref (He.ga K "law"))) rfl)
  obtain ⟨fd_law, F0law⟩ := SaysB.def_ c 12 (d := (⟨("law", none), "law", "law", defArgs sLaw, defBody sLaw, defScope sLaw, [], []⟩ : He.DefD)) rfl
  have axrg : PySem.W.findIn K (.ref (He.ga K "Registered")) "__init__" = some (some (.ref (He.ma K (He.ga K "Registered") "__init__"))) := of_decide_eq_true (SaysB.ck c 95 (f := fun K => decide (PySem.W.findIn K (.ref (He.ga K "Registered")) "__init__" = some (some (.ref (He.ma K (He.ga K "Registered") "__init__"))))) rfl)
  have ixrg : PySem.W.isFn K (.ref (He.ma K (He.ga K "Registered") "__init__")) = true := (SaysB.ck c 96 (f := fun K => PySem.W.isFn K (.ref (He.ma K (He.ga K "Registered") "__init__"))) rfl)
  have kxrg : PySem.W.keepIn K (.ref (He.ma K (He.ga K "Registered") "__init__")) = true := (SaysB.ck c 97 (f := fun K => PySem.W.keepIn K (.ref (He.ma K (He.ga K "Registered") "__init__"))) rfl)
  obtain ⟨fd_xrg, F0xrg⟩ := SaysB.def_ c 13 (d := (⟨("Registered", some "__init__"), "__init__", "Registered.__init__", defArgs sRegisteredInit, defBody sRegisteredInit, defScope sRegisteredInit, [], []⟩ : He.DefD)) rfl
  have axnr : PySem.W.findIn K (.ref (He.ga K "NotRegistered")) "__init__" = some (some (.ref (He.ma K (He.ga K "NotRegistered") "__init__"))) := of_decide_eq_true (SaysB.ck c 98 (f := fun K => decide (PySem.W.findIn K (.ref (He.ga K "NotRegistered")) "__init__" = some (some (.ref (He.ma K (He.ga K "NotRegistered") "__init__"))))) rfl)
  have ixnr : PySem.W.isFn K (.ref (He.ma K (He.ga K "NotRegistered") "__init__")) = true := (SaysB.ck c 99 (f := fun K => PySem.W.isFn K (.ref (He.ma K (He.ga K "NotRegistered") "__init__"))) rfl)
  have kxnr : PySem.W.keepIn K (.ref (He.ma K (He.ga K "NotRegistered") "__init__")) = true := (SaysB.ck c 100 (f := fun K => PySem.W.keepIn K (.ref (He.ma K (He.ga K "NotRegistered") "__init__"))) rfl)
  obtain ⟨fd_xnr, F0xnr⟩ := SaysB.def_ c 14 (d := (⟨("NotRegistered", some "__init__"), "__init__", "NotRegistered.__init__", defArgs sNotRegisteredInit, defBody sNotRegisteredInit, defScope sNotRegisteredInit, [], []⟩ : He.DefD)) rfl
  have ari : PySem.W.findIn K (.ref (He.ga K "Registration")) "__init__" = some (some (.ref (He.ma K (He.ga K "Registration") "__init__"))) := of_decide_eq_true (SaysB.ck c 101 (f := fun K => decide (PySem.W.findIn K (.ref (He.ga K "Registration")) "__init__" = some (some (.ref (He.ma K (He.ga K "Registration") "__init__"))))) rfl)
  have iri : PySem.W.isFn K (.ref (He.ma K (He.ga K "Registration") "__init__")) = true := (SaysB.ck c 102 (f := fun K => PySem.W.isFn K (.ref (He.ma K (He.ga K "Registration") "__init__"))) rfl)
  have kri : PySem.W.keepIn K (.ref (He.ma K (He.ga K "Registration") "__init__")) = true := (SaysB.ck c 103 (f := fun K => PySem.W.keepIn K (.ref (He.ma K (He.ga K "Registration") "__init__"))) rfl)
  obtain ⟨fd_ri, F0ri⟩ := SaysB.def_ c 15 (d := (⟨("Registration", some "__init__"), "__init__", "Registration.__init__", defArgs sRegInit, defBody sRegInit, defScope sRegInit, [], []⟩ : He.DefD)) rfl
  have awi : PySem.W.findIn K (.ref (He.ga K "WaitingSet")) "__init__" = some (some (.ref (He.ma K (He.ga K "WaitingSet") "__init__"))) := of_decide_eq_true (SaysB.ck c 104 (f := fun K => decide (PySem.W.findIn K (.ref (He.ga K "WaitingSet")) "__init__" = some (some (.ref (He.ma K (He.ga K "WaitingSet") "__init__"))))) rfl)
  have iwi : PySem.W.isFn K (.ref (He.ma K (He.ga K "WaitingSet") "__init__")) = true := (SaysB.ck c 105 (f := fun K => PySem.W.isFn K (.ref (He.ma K (He.ga K "WaitingSet") "__init__"))) rfl)
  have kwi : PySem.W.keepIn K (.ref (He.ma K (He.ga K "WaitingSet") "__init__")) = true := (SaysB.ck c 106 (f := fun K => PySem.W.keepIn K (.ref (He.ma K (He.ga K "WaitingSet") "__init__"))) rfl)
  obtain ⟨fd_wi, F0wi⟩ := SaysB.def_ c 16 (d := (⟨("WaitingSet", some "__init__"), "__init__", "WaitingSet.__init__", defArgs sWsInit, defBody sWsInit, defScope sWsInit, [], []⟩ : He.DefD)) rfl
  have alof : PySem.W.findIn K (.ref (He.ga K "WaitingSet")) "label_of" = some (some (.ref (He.ma K (He.ga K "WaitingSet") "label_of"))) := of_decide_eq_true (SaysB.ck c 107 (f := fun K => decide (PySem.W.findIn K (.ref (He.ga K "WaitingSet")) "label_of" = some (some (.ref (He.ma K (He.ga K "WaitingSet") "label_of"))))) rfl)
  have ilof : PySem.W.isFn K (.ref (He.ma K (He.ga K "WaitingSet") "label_of")) = true := (SaysB.ck c 108 (f := fun K => PySem.W.isFn K (.ref (He.ma K (He.ga K "WaitingSet") "label_of"))) rfl)
  have klof : PySem.W.keepIn K (.ref (He.ma K (He.ga K "WaitingSet") "label_of")) = true := (SaysB.ck c 109 (f := fun K => PySem.W.keepIn K (.ref (He.ma K (He.ga K "WaitingSet") "label_of"))) rfl)
  obtain ⟨fd_lof, F0lof⟩ := SaysB.def_ c 17 (d := (⟨("WaitingSet", some "label_of"), "label_of", "WaitingSet.label_of", defArgs sLabelOf, defBody sLabelOf, defScope sLabelOf, [], []⟩ : He.DefD)) rfl
  have aput : PySem.W.findIn K (.ref (He.ga K "WaitingSet")) "put" = some (some (.ref (He.ma K (He.ga K "WaitingSet") "put"))) := of_decide_eq_true (SaysB.ck c 110 (f := fun K => decide (PySem.W.findIn K (.ref (He.ga K "WaitingSet")) "put" = some (some (.ref (He.ma K (He.ga K "WaitingSet") "put"))))) rfl)
  have iput : PySem.W.isFn K (.ref (He.ma K (He.ga K "WaitingSet") "put")) = true := (SaysB.ck c 111 (f := fun K => PySem.W.isFn K (.ref (He.ma K (He.ga K "WaitingSet") "put"))) rfl)
  have kput : PySem.W.keepIn K (.ref (He.ma K (He.ga K "WaitingSet") "put")) = true := (SaysB.ck c 112 (f := fun K => PySem.W.keepIn K (.ref (He.ma K (He.ga K "WaitingSet") "put"))) rfl)
  obtain ⟨fd_put, F0put⟩ := SaysB.def_ c 18 (d := (⟨("WaitingSet", some "put"), "put", "WaitingSet.put", defArgs sPut, defBody sPut, defScope sPut, [], []⟩ : He.DefD)) rfl
  have aapp : PySem.W.findIn K (.ref (He.ga K "WaitingSet")) "append_pending" = some (some (.ref (He.ma K (He.ga K "WaitingSet") "append_pending"))) := of_decide_eq_true (SaysB.ck c 113 (f := fun K => decide (PySem.W.findIn K (.ref (He.ga K "WaitingSet")) "append_pending" = some (some (.ref (He.ma K (He.ga K "WaitingSet") "append_pending"))))) rfl)
  have iapp : PySem.W.isFn K (.ref (He.ma K (He.ga K "WaitingSet") "append_pending")) = true := (SaysB.ck c 114 (f := fun K => PySem.W.isFn K (.ref (He.ma K (He.ga K "WaitingSet") "append_pending"))) rfl)
  have kapp : PySem.W.keepIn K (.ref (He.ma K (He.ga K "WaitingSet") "append_pending")) = true := (SaysB.ck c 115 (f := fun K => PySem.W.keepIn K (.ref (He.ma K (He.ga K "WaitingSet") "append_pending"))) rfl)
  obtain ⟨fd_app, F0app⟩ := SaysB.def_ c 19 (d := (⟨("WaitingSet", some "append_pending"), "append_pending", "WaitingSet.append_pending", defArgs sAppend, defBody sAppend, defScope sAppend, [], []⟩ : He.DefD)) rfl
  have adrp : PySem.W.findIn K (.ref (He.ga K "WaitingSet")) "drop" = some (some (.ref (He.ma K (He.ga K "WaitingSet") "drop"))) := of_decide_eq_true (SaysB.ck c 116 (f := fun K => decide (PySem.W.findIn K (.ref (He.ga K "WaitingSet")) "drop" = some (some (.ref (He.ma K (He.ga K "WaitingSet") "drop"))))) rfl)
  have idrp : PySem.W.isFn K (.ref (He.ma K (He.ga K "WaitingSet") "drop")) = true := (SaysB.ck c 117 (f := fun K => PySem.W.isFn K (.ref (He.ma K (He.ga K "WaitingSet") "drop"))) rfl)
  have kdrp : PySem.W.keepIn K (.ref (He.ma K (He.ga K "WaitingSet") "drop")) = true := (SaysB.ck c 118 (f := fun K => PySem.W.keepIn K (.ref (He.ma K (He.ga K "WaitingSet") "drop"))) rfl)
  obtain ⟨fd_drp, F0drp⟩ := SaysB.def_ c 20 (d := (⟨("WaitingSet", some "drop"), "drop", "WaitingSet.drop", defArgs sDrop, defBody sDrop, defScope sDrop, [], []⟩ : He.DefD)) rfl
  have antc : PySem.W.findIn K (.ref (He.ga K "WaitingSet")) "notice" = some (some (.ref (He.ma K (He.ga K "WaitingSet") "notice"))) := of_decide_eq_true (SaysB.ck c 119 (f := fun K => decide (PySem.W.findIn K (.ref (He.ga K "WaitingSet")) "notice" = some (some (.ref (He.ma K (He.ga K "WaitingSet") "notice"))))) rfl)
  have intc : PySem.W.isFn K (.ref (He.ma K (He.ga K "WaitingSet") "notice")) = true := (SaysB.ck c 120 (f := fun K => PySem.W.isFn K (.ref (He.ma K (He.ga K "WaitingSet") "notice"))) rfl)
  have kntc : PySem.W.keepIn K (.ref (He.ma K (He.ga K "WaitingSet") "notice")) = true := (SaysB.ck c 121 (f := fun K => PySem.W.keepIn K (.ref (He.ma K (He.ga K "WaitingSet") "notice"))) rfl)
  obtain ⟨fd_ntc, F0ntc⟩ := SaysB.def_ c 21 (d := (⟨("WaitingSet", some "notice"), "notice", "WaitingSet.notice", defArgs sNotice, defBody sNotice, defScope sNotice, [], []⟩ : He.DefD)) rfl
  have arep : PySem.W.findIn K (.ref (He.ga K "WaitingSet")) "take_reports" = some (some (.ref (He.ma K (He.ga K "WaitingSet") "take_reports"))) := of_decide_eq_true (SaysB.ck c 122 (f := fun K => decide (PySem.W.findIn K (.ref (He.ga K "WaitingSet")) "take_reports" = some (some (.ref (He.ma K (He.ga K "WaitingSet") "take_reports"))))) rfl)
  have irep : PySem.W.isFn K (.ref (He.ma K (He.ga K "WaitingSet") "take_reports")) = true := (SaysB.ck c 123 (f := fun K => PySem.W.isFn K (.ref (He.ma K (He.ga K "WaitingSet") "take_reports"))) rfl)
  have krep : PySem.W.keepIn K (.ref (He.ma K (He.ga K "WaitingSet") "take_reports")) = true := (SaysB.ck c 124 (f := fun K => PySem.W.keepIn K (.ref (He.ma K (He.ga K "WaitingSet") "take_reports"))) rfl)
  obtain ⟨fd_rep, F0rep⟩ := SaysB.def_ c 22 (d := (⟨("WaitingSet", some "take_reports"), "take_reports", "WaitingSet.take_reports", defArgs sReports, defBody sReports, defScope sReports, [], []⟩ : He.DefD)) rfl
  have astl : PySem.W.findIn K (.ref (He.ga K "WaitingSet")) "settle" = some (some (.ref (He.ma K (He.ga K "WaitingSet") "settle"))) := of_decide_eq_true (SaysB.ck c 125 (f := fun K => decide (PySem.W.findIn K (.ref (He.ga K "WaitingSet")) "settle" = some (some (.ref (He.ma K (He.ga K "WaitingSet") "settle"))))) rfl)
  have istl : PySem.W.isFn K (.ref (He.ma K (He.ga K "WaitingSet") "settle")) = true := (SaysB.ck c 126 (f := fun K => PySem.W.isFn K (.ref (He.ma K (He.ga K "WaitingSet") "settle"))) rfl)
  have kstl : PySem.W.keepIn K (.ref (He.ma K (He.ga K "WaitingSet") "settle")) = true := (SaysB.ck c 127 (f := fun K => PySem.W.keepIn K (.ref (He.ma K (He.ga K "WaitingSet") "settle"))) rfl)
  obtain ⟨fd_stl, F0stl⟩ := SaysB.def_ c 23 (d := (⟨("WaitingSet", some "settle"), "settle", "WaitingSet.settle", defArgs sSettle, defBody sSettle, defScope sSettle, [], []⟩ : He.DefD)) rfl
  have asi : PySem.W.findIn K (.ref (He.ga K "System")) "__init__" = some (some (.ref (He.ma K (He.ga K "System") "__init__"))) := of_decide_eq_true (SaysB.ck c 128 (f := fun K => decide (PySem.W.findIn K (.ref (He.ga K "System")) "__init__" = some (some (.ref (He.ma K (He.ga K "System") "__init__"))))) rfl)
  have isi : PySem.W.isFn K (.ref (He.ma K (He.ga K "System") "__init__")) = true := (SaysB.ck c 129 (f := fun K => PySem.W.isFn K (.ref (He.ma K (He.ga K "System") "__init__"))) rfl)
  have ksi : PySem.W.keepIn K (.ref (He.ma K (He.ga K "System") "__init__")) = true := (SaysB.ck c 130 (f := fun K => PySem.W.keepIn K (.ref (He.ma K (He.ga K "System") "__init__"))) rfl)
  obtain ⟨fd_si, F0si⟩ := SaysB.def_ c 24 (d := (⟨("System", some "__init__"), "__init__", "System.__init__", defArgs sSysInit, defBody sSysInit, defScope sSysInit, [], [("processes", .int 4), ("numbers", .int 8)]⟩ : He.DefD)) rfl
  have acon : PySem.W.findIn K (.ref (He.ga K "System")) "__contains__" = some (some (.ref (He.ma K (He.ga K "System") "__contains__"))) := of_decide_eq_true (SaysB.ck c 131 (f := fun K => decide (PySem.W.findIn K (.ref (He.ga K "System")) "__contains__" = some (some (.ref (He.ma K (He.ga K "System") "__contains__"))))) rfl)
  have icon : PySem.W.isFn K (.ref (He.ma K (He.ga K "System") "__contains__")) = true := (SaysB.ck c 132 (f := fun K => PySem.W.isFn K (.ref (He.ma K (He.ga K "System") "__contains__"))) rfl)
  have kcon : PySem.W.keepIn K (.ref (He.ma K (He.ga K "System") "__contains__")) = true := (SaysB.ck c 133 (f := fun K => PySem.W.keepIn K (.ref (He.ma K (He.ga K "System") "__contains__"))) rfl)
  obtain ⟨fd_con, F0con⟩ := SaysB.def_ c 25 (d := (⟨("System", some "__contains__"), "__contains__", "System.__contains__", defArgs sContains, defBody sContains, defScope sContains, [], []⟩ : He.DefD)) rfl
  have atof : PySem.W.findIn K (.ref (He.ga K "System")) "table_of" = some (some (.ref (He.ma K (He.ga K "System") "table_of"))) := of_decide_eq_true (SaysB.ck c 134 (f := fun K => decide (PySem.W.findIn K (.ref (He.ga K "System")) "table_of" = some (some (.ref (He.ma K (He.ga K "System") "table_of"))))) rfl)
  have itof : PySem.W.isFn K (.ref (He.ma K (He.ga K "System") "table_of")) = true := (SaysB.ck c 135 (f := fun K => PySem.W.isFn K (.ref (He.ma K (He.ga K "System") "table_of"))) rfl)
  have ktof : PySem.W.keepIn K (.ref (He.ma K (He.ga K "System") "table_of")) = true := (SaysB.ck c 136 (f := fun K => PySem.W.keepIn K (.ref (He.ma K (He.ga K "System") "table_of"))) rfl)
  obtain ⟨fd_tof, F0tof⟩ := SaysB.def_ c 26 (d := (⟨("System", some "table_of"), "table_of", "System.table_of", defArgs sTableOf, defBody sTableOf, defScope sTableOf, [], []⟩ : He.DefD)) rfl
  have aitn : PySem.W.findIn K (.ref (He.ga K "System")) "is_table_number" = some (some (.ref (He.ma K (He.ga K "System") "is_table_number"))) := of_decide_eq_true (SaysB.ck c 137 (f := fun K => decide (PySem.W.findIn K (.ref (He.ga K "System")) "is_table_number" = some (some (.ref (He.ma K (He.ga K "System") "is_table_number"))))) rfl)
  have iitn : PySem.W.isFn K (.ref (He.ma K (He.ga K "System") "is_table_number")) = true := (SaysB.ck c 138 (f := fun K => PySem.W.isFn K (.ref (He.ma K (He.ga K "System") "is_table_number"))) rfl)
  have kitn : PySem.W.keepIn K (.ref (He.ma K (He.ga K "System") "is_table_number")) = true := (SaysB.ck c 139 (f := fun K => PySem.W.keepIn K (.ref (He.ma K (He.ga K "System") "is_table_number"))) rfl)
  obtain ⟨fd_itn, F0itn⟩ := SaysB.def_ c 27 (d := (⟨("System", some "is_table_number"), "is_table_number", "System.is_table_number", defArgs sIsTabNum, defBody sIsTabNum, defScope sIsTabNum, [], []⟩ : He.DefD)) rfl
  have atha : PySem.W.findIn K (.ref (He.ga K "System")) "thing_at" = some (some (.ref (He.ma K (He.ga K "System") "thing_at"))) := of_decide_eq_true (SaysB.ck c 140 (f := fun K => decide (PySem.W.findIn K (.ref (He.ga K "System")) "thing_at" = some (some (.ref (He.ma K (He.ga K "System") "thing_at"))))) rfl)
  have itha : PySem.W.isFn K (.ref (He.ma K (He.ga K "System") "thing_at")) = true := (SaysB.ck c 141 (f := fun K => PySem.W.isFn K (.ref (He.ma K (He.ga K "System") "thing_at"))) rfl)
  have ktha : PySem.W.keepIn K (.ref (He.ma K (He.ga K "System") "thing_at")) = true := (SaysB.ck c 142 (f := fun K => PySem.W.keepIn K (.ref (He.ma K (He.ga K "System") "thing_at"))) rfl)
  obtain ⟨fd_tha, F0tha⟩ := SaysB.def_ c 28 (d := (⟨("System", some "thing_at"), "thing_at", "System.thing_at", defArgs sThingAt, defBody sThingAt, defScope sThingAt, [], []⟩ : He.DefD)) rfl
  have asra : PySem.W.findIn K (.ref (He.ga K "System")) "source_at" = some (some (.ref (He.ma K (He.ga K "System") "source_at"))) := of_decide_eq_true (SaysB.ck c 143 (f := fun K => decide (PySem.W.findIn K (.ref (He.ga K "System")) "source_at" = some (some (.ref (He.ma K (He.ga K "System") "source_at"))))) rfl)
  have isra : PySem.W.isFn K (.ref (He.ma K (He.ga K "System") "source_at")) = true := (SaysB.ck c 144 (f := fun K => PySem.W.isFn K (.ref (He.ma K (He.ga K "System") "source_at"))) rfl)
  have ksra : PySem.W.keepIn K (.ref (He.ma K (He.ga K "System") "source_at")) = true := (SaysB.ck c 145 (f := fun K => PySem.W.keepIn K (.ref (He.ma K (He.ga K "System") "source_at"))) rfl)
  obtain ⟨fd_sra, F0sra⟩ := SaysB.def_ c 29 (d := (⟨("System", some "source_at"), "source_at", "System.source_at", defArgs sSourceAt, defBody sSourceAt, defScope sSourceAt, [], []⟩ : He.DefD)) rfl
  have asta : PySem.W.findIn K (.ref (He.ga K "System")) "set_at" = some (some (.ref (He.ma K (He.ga K "System") "set_at"))) := of_decide_eq_true (SaysB.ck c 146 (f := fun K => decide (PySem.W.findIn K (.ref (He.ga K "System")) "set_at" = some (some (.ref (He.ma K (He.ga K "System") "set_at"))))) rfl)
  have ista : PySem.W.isFn K (.ref (He.ma K (He.ga K "System") "set_at")) = true := (SaysB.ck c 147 (f := fun K => PySem.W.isFn K (.ref (He.ma K (He.ga K "System") "set_at"))) rfl)
  have ksta : PySem.W.keepIn K (.ref (He.ma K (He.ga K "System") "set_at")) = true := (SaysB.ck c 148 (f := fun K => PySem.W.keepIn K (.ref (He.ma K (He.ga K "System") "set_at"))) rfl)
  obtain ⟨fd_sta, F0sta⟩ := SaysB.def_ c 30 (d := (⟨("System", some "set_at"), "set_at", "System.set_at", defArgs sSetAt, defBody sSetAt, defScope sSetAt, [], []⟩ : He.DefD)) rfl
  have afrn : PySem.W.findIn K (.ref (He.ga K "System")) "free_number" = some (some (.ref (He.ma K (He.ga K "System") "free_number"))) := of_decide_eq_true (SaysB.ck c 149 (f := fun K => decide (PySem.W.findIn K (.ref (He.ga K "System")) "free_number" = some (some (.ref (He.ma K (He.ga K "System") "free_number"))))) rfl)
  have ifrn : PySem.W.isFn K (.ref (He.ma K (He.ga K "System") "free_number")) = true := (SaysB.ck c 150 (f := fun K => PySem.W.isFn K (.ref (He.ma K (He.ga K "System") "free_number"))) rfl)
  have kfrn : PySem.W.keepIn K (.ref (He.ma K (He.ga K "System") "free_number")) = true := (SaysB.ck c 151 (f := fun K => PySem.W.keepIn K (.ref (He.ma K (He.ga K "System") "free_number"))) rfl)
  obtain ⟨fd_frn, F0frn⟩ := SaysB.def_ c 31 (d := (⟨("System", some "free_number"), "free_number", "System.free_number", defArgs sFreeNum, defBody sFreeNum, defScope sFreeNum, [], []⟩ : He.DefD)) rfl
  have anth : PySem.W.findIn K (.ref (He.ga K "System")) "new_thing" = some (some (.ref (He.ma K (He.ga K "System") "new_thing"))) := of_decide_eq_true (SaysB.ck c 152 (f := fun K => decide (PySem.W.findIn K (.ref (He.ga K "System")) "new_thing" = some (some (.ref (He.ma K (He.ga K "System") "new_thing"))))) rfl)
  have inth : PySem.W.isFn K (.ref (He.ma K (He.ga K "System") "new_thing")) = true := (SaysB.ck c 153 (f := fun K => PySem.W.isFn K (.ref (He.ma K (He.ga K "System") "new_thing"))) rfl)
  have knth : PySem.W.keepIn K (.ref (He.ma K (He.ga K "System") "new_thing")) = true := (SaysB.ck c 154 (f := fun K => PySem.W.keepIn K (.ref (He.ma K (He.ga K "System") "new_thing"))) rfl)
  obtain ⟨fd_nth, F0nth⟩ := SaysB.def_ c 32 (d := (⟨("System", some "new_thing"), "new_thing", "System.new_thing", defArgs sNewThing, defBody sNewThing, defScope sNewThing, [], []⟩ : He.DefD)) rfl
  have anso : PySem.W.findIn K (.ref (He.ga K "System")) "new_source" = some (some (.ref (He.ma K (He.ga K "System") "new_source"))) := of_decide_eq_true (SaysB.ck c 155 (f := fun K => decide (PySem.W.findIn K (.ref (He.ga K "System")) "new_source" = some (some (.ref (He.ma K (He.ga K "System") "new_source"))))) rfl)
  have inso : PySem.W.isFn K (.ref (He.ma K (He.ga K "System") "new_source")) = true := (SaysB.ck c 156 (f := fun K => PySem.W.isFn K (.ref (He.ma K (He.ga K "System") "new_source"))) rfl)
  have knso : PySem.W.keepIn K (.ref (He.ma K (He.ga K "System") "new_source")) = true := (SaysB.ck c 157 (f := fun K => PySem.W.keepIn K (.ref (He.ma K (He.ga K "System") "new_source"))) rfl)
  obtain ⟨fd_nso, F0nso⟩ := SaysB.def_ c 33 (d := (⟨("System", some "new_source"), "new_source", "System.new_source", defArgs sNewSource, defBody sNewSource, defScope sNewSource, [], []⟩ : He.DefD)) rfl
  have anse : PySem.W.findIn K (.ref (He.ga K "System")) "new_set" = some (some (.ref (He.ma K (He.ga K "System") "new_set"))) := of_decide_eq_true (SaysB.ck c 158 (f := fun K => decide (PySem.W.findIn K (.ref (He.ga K "System")) "new_set" = some (some (.ref (He.ma K (He.ga K "System") "new_set"))))) rfl)
  have inse : PySem.W.isFn K (.ref (He.ma K (He.ga K "System") "new_set")) = true := (SaysB.ck c 159 (f := fun K => PySem.W.isFn K (.ref (He.ma K (He.ga K "System") "new_set"))) rfl)
  have knse : PySem.W.keepIn K (.ref (He.ma K (He.ga K "System") "new_set")) = true := (SaysB.ck c 160 (f := fun K => PySem.W.keepIn K (.ref (He.ma K (He.ga K "System") "new_set"))) rfl)
  obtain ⟨fd_nse, F0nse⟩ := SaysB.def_ c 34 (d := (⟨("System", some "new_set"), "new_set", "System.new_set", defArgs sNewSet, defBody sNewSet, defScope sNewSet, [], []⟩ : He.DefD)) rfl
  have ardy : PySem.W.findIn K (.ref (He.ga K "System")) "is_ready" = some (some (.ref (He.ma K (He.ga K "System") "is_ready"))) := of_decide_eq_true (SaysB.ck c 161 (f := fun K => decide (PySem.W.findIn K (.ref (He.ga K "System")) "is_ready" = some (some (.ref (He.ma K (He.ga K "System") "is_ready"))))) rfl)
  have irdy : PySem.W.isFn K (.ref (He.ma K (He.ga K "System") "is_ready")) = true := (SaysB.ck c 162 (f := fun K => PySem.W.isFn K (.ref (He.ma K (He.ga K "System") "is_ready"))) rfl)
  have krdy : PySem.W.keepIn K (.ref (He.ma K (He.ga K "System") "is_ready")) = true := (SaysB.ck c 163 (f := fun K => PySem.W.keepIn K (.ref (He.ma K (He.ga K "System") "is_ready"))) rfl)
  obtain ⟨fd_rdy, F0rdy⟩ := SaysB.def_ c 35 (d := (⟨("System", some "is_ready"), "is_ready", "System.is_ready", defArgs sIsReady, defBody sIsReady, defScope sIsReady, [], []⟩ : He.DefD)) rfl
  have aunf : PySem.W.findIn K (.ref (He.ga K "System")) "unread_of_unfinished" = some (some (.ref (He.ma K (He.ga K "System") "unread_of_unfinished"))) := of_decide_eq_true (SaysB.ck c 164 (f := fun K => decide (PySem.W.findIn K (.ref (He.ga K "System")) "unread_of_unfinished" = some (some (.ref (He.ma K (He.ga K "System") "unread_of_unfinished"))))) rfl)
  have iunf : PySem.W.isFn K (.ref (He.ma K (He.ga K "System") "unread_of_unfinished")) = true := (SaysB.ck c 165 (f := fun K => PySem.W.isFn K (.ref (He.ma K (He.ga K "System") "unread_of_unfinished"))) rfl)
  have kunf : PySem.W.keepIn K (.ref (He.ma K (He.ga K "System") "unread_of_unfinished")) = true := (SaysB.ck c 166 (f := fun K => PySem.W.keepIn K (.ref (He.ma K (He.ga K "System") "unread_of_unfinished"))) rfl)
  obtain ⟨fd_unf, F0unf⟩ := SaysB.def_ c 36 (d := (⟨("System", some "unread_of_unfinished"), "unread_of_unfinished", "System.unread_of_unfinished", defArgs sUnfinished, defBody sUnfinished, defScope sUnfinished, [], []⟩ : He.DefD)) rfl
  have anfy : PySem.W.findIn K (.ref (He.ga K "System")) "notify" = some (some (.ref (He.ma K (He.ga K "System") "notify"))) := of_decide_eq_true (SaysB.ck c 167 (f := fun K => decide (PySem.W.findIn K (.ref (He.ga K "System")) "notify" = some (some (.ref (He.ma K (He.ga K "System") "notify"))))) rfl)
  have infy : PySem.W.isFn K (.ref (He.ma K (He.ga K "System") "notify")) = true := (SaysB.ck c 168 (f := fun K => PySem.W.isFn K (.ref (He.ma K (He.ga K "System") "notify"))) rfl)
  have knfy : PySem.W.keepIn K (.ref (He.ma K (He.ga K "System") "notify")) = true := (SaysB.ck c 169 (f := fun K => PySem.W.keepIn K (.ref (He.ma K (He.ga K "System") "notify"))) rfl)
  obtain ⟨fd_nfy, F0nfy⟩ := SaysB.def_ c 37 (d := (⟨("System", some "notify"), "notify", "System.notify", defArgs sNotify, defBody sNotify, defScope sNotify, [], []⟩ : He.DefD)) rfl
  have aarr : PySem.W.findIn K (.ref (He.ga K "System")) "arrive" = some (some (.ref (He.ma K (He.ga K "System") "arrive"))) := of_decide_eq_true (SaysB.ck c 170 (f := fun K => decide (PySem.W.findIn K (.ref (He.ga K "System")) "arrive" = some (some (.ref (He.ma K (He.ga K "System") "arrive"))))) rfl)
  have iarr : PySem.W.isFn K (.ref (He.ma K (He.ga K "System") "arrive")) = true := (SaysB.ck c 171 (f := fun K => PySem.W.isFn K (.ref (He.ma K (He.ga K "System") "arrive"))) rfl)
  have karr : PySem.W.keepIn K (.ref (He.ma K (He.ga K "System") "arrive")) = true := (SaysB.ck c 172 (f := fun K => PySem.W.keepIn K (.ref (He.ma K (He.ga K "System") "arrive"))) rfl)
  obtain ⟨fd_arr, F0arr⟩ := SaysB.def_ c 38 (d := (⟨("System", some "arrive"), "arrive", "System.arrive", defArgs sArrive, defBody sArrive, defScope sArrive, [.int 1], []⟩ : He.DefD)) rfl
  have awai : PySem.W.findIn K (.ref (He.ga K "System")) "wait" = some (some (.ref (He.ma K (He.ga K "System") "wait"))) := of_decide_eq_true (SaysB.ck c 173 (f := fun K => decide (PySem.W.findIn K (.ref (He.ga K "System")) "wait" = some (some (.ref (He.ma K (He.ga K "System") "wait"))))) rfl)
  have iwai : PySem.W.isFn K (.ref (He.ma K (He.ga K "System") "wait")) = true := (SaysB.ck c 174 (f := fun K => PySem.W.isFn K (.ref (He.ma K (He.ga K "System") "wait"))) rfl)
  have kwai : PySem.W.keepIn K (.ref (He.ma K (He.ga K "System") "wait")) = true := (SaysB.ck c 175 (f := fun K => PySem.W.keepIn K (.ref (He.ma K (He.ga K "System") "wait"))) rfl)
  obtain ⟨fd_wai, F0wai⟩ := SaysB.def_ c 39 (d := (⟨("System", some "wait"), "wait", "System.wait", defArgs sWait, defBody sWait, defScope sWait, [.int 1], []⟩ : He.DefD)) rfl
  have arow : PySem.W.findIn K (.ref (He.ga K "System")) "row_of" = some (some (.ref (He.ma K (He.ga K "System") "row_of"))) := of_decide_eq_true (SaysB.ck c 176 (f := fun K => decide (PySem.W.findIn K (.ref (He.ga K "System")) "row_of" = some (some (.ref (He.ma K (He.ga K "System") "row_of"))))) rfl)
  have irow : PySem.W.isFn K (.ref (He.ma K (He.ga K "System") "row_of")) = true := (SaysB.ck c 177 (f := fun K => PySem.W.isFn K (.ref (He.ma K (He.ga K "System") "row_of"))) rfl)
  have krow : PySem.W.keepIn K (.ref (He.ma K (He.ga K "System") "row_of")) = true := (SaysB.ck c 178 (f := fun K => PySem.W.keepIn K (.ref (He.ma K (He.ga K "System") "row_of"))) rfl)
  obtain ⟨fd_row, F0row⟩ := SaysB.def_ c 40 (d := (⟨("System", some "row_of"), "row_of", "System.row_of", defArgs sRowOf, defBody sRowOf, defScope sRowOf, [], []⟩ : He.DefD)) rfl
  have aadd : PySem.W.findIn K (.ref (He.ga K "System")) "add" = some (some (.ref (He.ma K (He.ga K "System") "add"))) := of_decide_eq_true (SaysB.ck c 179 (f := fun K => decide (PySem.W.findIn K (.ref (He.ga K "System")) "add" = some (some (.ref (He.ma K (He.ga K "System") "add"))))) rfl)
  have iadd : PySem.W.isFn K (.ref (He.ma K (He.ga K "System") "add")) = true := (SaysB.ck c 180 (f := fun K => PySem.W.isFn K (.ref (He.ma K (He.ga K "System") "add"))) rfl)
  have kadd : PySem.W.keepIn K (.ref (He.ma K (He.ga K "System") "add")) = true := (SaysB.ck c 181 (f := fun K => PySem.W.keepIn K (.ref (He.ma K (He.ga K "System") "add"))) rfl)
  obtain ⟨fd_add, F0add⟩ := SaysB.def_ c 41 (d := (⟨("System", some "add"), "add", "System.add", defArgs sAdd, defBody sAdd, defScope sAdd, [], [("word", .str "level")]⟩ : He.DefD)) rfl
  have achg : PySem.W.findIn K (.ref (He.ga K "System")) "change" = some (some (.ref (He.ma K (He.ga K "System") "change"))) := of_decide_eq_true (SaysB.ck c 182 (f := fun K => decide (PySem.W.findIn K (.ref (He.ga K "System")) "change" = some (some (.ref (He.ma K (He.ga K "System") "change"))))) rfl)
  have ichg : PySem.W.isFn K (.ref (He.ma K (He.ga K "System") "change")) = true := (SaysB.ck c 183 (f := fun K => PySem.W.isFn K (.ref (He.ma K (He.ga K "System") "change"))) rfl)
  have kchg : PySem.W.keepIn K (.ref (He.ma K (He.ga K "System") "change")) = true := (SaysB.ck c 184 (f := fun K => PySem.W.keepIn K (.ref (He.ma K (He.ga K "System") "change"))) rfl)
  obtain ⟨fd_chg, F0chg⟩ := SaysB.def_ c 42 (d := (⟨("System", some "change"), "change", "System.change", defArgs sChange, defBody sChange, defScope sChange, [], []⟩ : He.DefD)) rfl
  have arem : PySem.W.findIn K (.ref (He.ga K "System")) "remove" = some (some (.ref (He.ma K (He.ga K "System") "remove"))) := of_decide_eq_true (SaysB.ck c 185 (f := fun K => decide (PySem.W.findIn K (.ref (He.ga K "System")) "remove" = some (some (.ref (He.ma K (He.ga K "System") "remove"))))) rfl)
  have irem : PySem.W.isFn K (.ref (He.ma K (He.ga K "System") "remove")) = true := (SaysB.ck c 186 (f := fun K => PySem.W.isFn K (.ref (He.ma K (He.ga K "System") "remove"))) rfl)
  have krem : PySem.W.keepIn K (.ref (He.ma K (He.ga K "System") "remove")) = true := (SaysB.ck c 187 (f := fun K => PySem.W.keepIn K (.ref (He.ma K (He.ga K "System") "remove"))) rfl)
  obtain ⟨fd_rem, F0rem⟩ := SaysB.def_ c 43 (d := (⟨("System", some "remove"), "remove", "System.remove", defArgs sRemove, defBody sRemove, defScope sRemove, [], []⟩ : He.DefD)) rfl
  have afre : PySem.W.findIn K (.ref (He.ga K "System")) "free" = some (some (.ref (He.ma K (He.ga K "System") "free"))) := of_decide_eq_true (SaysB.ck c 188 (f := fun K => decide (PySem.W.findIn K (.ref (He.ga K "System")) "free" = some (some (.ref (He.ma K (He.ga K "System") "free"))))) rfl)
  have ifre : PySem.W.isFn K (.ref (He.ma K (He.ga K "System") "free")) = true := (SaysB.ck c 189 (f := fun K => PySem.W.isFn K (.ref (He.ma K (He.ga K "System") "free"))) rfl)
  have kfre : PySem.W.keepIn K (.ref (He.ma K (He.ga K "System") "free")) = true := (SaysB.ck c 190 (f := fun K => PySem.W.keepIn K (.ref (He.ma K (He.ga K "System") "free"))) rfl)
  obtain ⟨fd_fre, F0fre⟩ := SaysB.def_ c 44 (d := (⟨("System", some "free"), "free", "System.free", defArgs sFree, defBody sFree, defScope sFree, [], []⟩ : He.DefD)) rfl
  have aclo : PySem.W.findIn K (.ref (He.ga K "System")) "close" = some (some (.ref (He.ma K (He.ga K "System") "close"))) := of_decide_eq_true (SaysB.ck c 191 (f := fun K => decide (PySem.W.findIn K (.ref (He.ga K "System")) "close" = some (some (.ref (He.ma K (He.ga K "System") "close"))))) rfl)
  have iclo : PySem.W.isFn K (.ref (He.ma K (He.ga K "System") "close")) = true := (SaysB.ck c 192 (f := fun K => PySem.W.isFn K (.ref (He.ma K (He.ga K "System") "close"))) rfl)
  have kclo : PySem.W.keepIn K (.ref (He.ma K (He.ga K "System") "close")) = true := (SaysB.ck c 193 (f := fun K => PySem.W.keepIn K (.ref (He.ma K (He.ga K "System") "close"))) rfl)
  obtain ⟨fd_clo, F0clo⟩ := SaysB.def_ c 45 (d := (⟨("System", some "close"), "close", "System.close", defArgs sClose, defBody sClose, defScope sClose, [], []⟩ : He.DefD)) rfl
  have acpy : PySem.W.findIn K (.ref (He.ga K "System")) "copy" = some (some (.ref (He.ma K (He.ga K "System") "copy"))) := of_decide_eq_true (SaysB.ck c 194 (f := fun K => decide (PySem.W.findIn K (.ref (He.ga K "System")) "copy" = some (some (.ref (He.ma K (He.ga K "System") "copy"))))) rfl)
  have icpy : PySem.W.isFn K (.ref (He.ma K (He.ga K "System") "copy")) = true := (SaysB.ck c 195 (f := fun K => PySem.W.isFn K (.ref (He.ma K (He.ga K "System") "copy"))) rfl)
  have kcpy : PySem.W.keepIn K (.ref (He.ma K (He.ga K "System") "copy")) = true := (SaysB.ck c 196 (f := fun K => PySem.W.keepIn K (.ref (He.ma K (He.ga K "System") "copy"))) rfl)
  obtain ⟨fd_cpy, F0cpy⟩ := SaysB.def_ c 46 (d := (⟨("System", some "copy"), "copy", "System.copy", defArgs sCopy, defBody sCopy, defScope sCopy, [.non], []⟩ : He.DefD)) rfl
  have afrp : PySem.W.findIn K (.ref (He.ga K "System")) "free_process" = some (some (.ref (He.ma K (He.ga K "System") "free_process"))) := of_decide_eq_true (SaysB.ck c 197 (f := fun K => decide (PySem.W.findIn K (.ref (He.ga K "System")) "free_process" = some (some (.ref (He.ma K (He.ga K "System") "free_process"))))) rfl)
  have ifrp : PySem.W.isFn K (.ref (He.ma K (He.ga K "System") "free_process")) = true := (SaysB.ck c 198 (f := fun K => PySem.W.isFn K (.ref (He.ma K (He.ga K "System") "free_process"))) rfl)
  have kfrp : PySem.W.keepIn K (.ref (He.ma K (He.ga K "System") "free_process")) = true := (SaysB.ck c 199 (f := fun K => PySem.W.keepIn K (.ref (He.ma K (He.ga K "System") "free_process"))) rfl)
  obtain ⟨fd_frp, F0frp⟩ := SaysB.def_ c 47 (d := (⟨("System", some "free_process"), "free_process", "System.free_process", defArgs sFreeProc, defBody sFreeProc, defScope sFreeProc, [], []⟩ : He.DefD)) rfl
  have afrk : PySem.W.findIn K (.ref (He.ga K "System")) "fork" = some (some (.ref (He.ma K (He.ga K "System") "fork"))) := of_decide_eq_true (SaysB.ck c 200 (f := fun K => decide (PySem.W.findIn K (.ref (He.ga K "System")) "fork" = some (some (.ref (He.ma K (He.ga K "System") "fork"))))) rfl)
  have ifrk : PySem.W.isFn K (.ref (He.ma K (He.ga K "System") "fork")) = true := (SaysB.ck c 201 (f := fun K => PySem.W.isFn K (.ref (He.ma K (He.ga K "System") "fork"))) rfl)
  have kfrk : PySem.W.keepIn K (.ref (He.ma K (He.ga K "System") "fork")) = true := (SaysB.ck c 202 (f := fun K => PySem.W.keepIn K (.ref (He.ma K (He.ga K "System") "fork"))) rfl)
  obtain ⟨fd_frk, F0frk⟩ := SaysB.def_ c 48 (d := (⟨("System", some "fork"), "fork", "System.fork", defArgs sFork, defBody sFork, defScope sFork, [], []⟩ : He.DefD)) rfl
  have atng : PySem.W.findIn K (.ref (He.ga K "System")) "things" = some (some (.ref (He.ma K (He.ga K "System") "things"))) := of_decide_eq_true (SaysB.ck c 203 (f := fun K => decide (PySem.W.findIn K (.ref (He.ga K "System")) "things" = some (some (.ref (He.ma K (He.ga K "System") "things"))))) rfl)
  have itng : PySem.W.isFn K (.ref (He.ma K (He.ga K "System") "things")) = true := (SaysB.ck c 204 (f := fun K => PySem.W.isFn K (.ref (He.ma K (He.ga K "System") "things"))) rfl)
  have ktng : PySem.W.keepIn K (.ref (He.ma K (He.ga K "System") "things")) = true := (SaysB.ck c 205 (f := fun K => PySem.W.keepIn K (.ref (He.ma K (He.ga K "System") "things"))) rfl)
  obtain ⟨fd_tng, F0tng⟩ := SaysB.def_ c 49 (d := (⟨("System", some "things"), "things", "System.things", defArgs sThings, defBody sThings, defScope sThings, [], []⟩ : He.DefD)) rfl
  have anof : PySem.W.findIn K (.ref (He.ga K "System")) "numbers_of" = some (some (.ref (He.ma K (He.ga K "System") "numbers_of"))) := of_decide_eq_true (SaysB.ck c 206 (f := fun K => decide (PySem.W.findIn K (.ref (He.ga K "System")) "numbers_of" = some (some (.ref (He.ma K (He.ga K "System") "numbers_of"))))) rfl)
  have inof : PySem.W.isFn K (.ref (He.ma K (He.ga K "System") "numbers_of")) = true := (SaysB.ck c 207 (f := fun K => PySem.W.isFn K (.ref (He.ma K (He.ga K "System") "numbers_of"))) rfl)
  have knof : PySem.W.keepIn K (.ref (He.ma K (He.ga K "System") "numbers_of")) = true := (SaysB.ck c 208 (f := fun K => PySem.W.keepIn K (.ref (He.ma K (He.ga K "System") "numbers_of"))) rfl)
  obtain ⟨fd_nof, F0nof⟩ := SaysB.def_ c 50 (d := (⟨("System", some "numbers_of"), "numbers_of", "System.numbers_of", defArgs sNumbersOf, defBody sNumbersOf, defScope sNumbersOf, [], []⟩ : He.DefD)) rfl
  have anam : PySem.W.findIn K (.ref (He.ga K "System")) "name_of" = some (some (.ref (He.ma K (He.ga K "System") "name_of"))) := of_decide_eq_true (SaysB.ck c 209 (f := fun K => decide (PySem.W.findIn K (.ref (He.ga K "System")) "name_of" = some (some (.ref (He.ma K (He.ga K "System") "name_of"))))) rfl)
  have inam : PySem.W.isFn K (.ref (He.ma K (He.ga K "System") "name_of")) = true := (SaysB.ck c 210 (f := fun K => PySem.W.isFn K (.ref (He.ma K (He.ga K "System") "name_of"))) rfl)
  have knam : PySem.W.keepIn K (.ref (He.ma K (He.ga K "System") "name_of")) = true := (SaysB.ck c 211 (f := fun K => PySem.W.keepIn K (.ref (He.ma K (He.ga K "System") "name_of"))) rfl)
  obtain ⟨fd_nam, F0nam⟩ := SaysB.def_ c 51 (d := (⟨("System", some "name_of"), "name_of", "System.name_of", defArgs sNameOf, defBody sNameOf, defScope sNameOf, [], []⟩ : He.DefD)) rfl
  have areg : PySem.W.findIn K (.ref (He.ga K "System")) "registrations" = some (some (.ref (He.ma K (He.ga K "System") "registrations"))) := of_decide_eq_true (SaysB.ck c 212 (f := fun K => decide (PySem.W.findIn K (.ref (He.ga K "System")) "registrations" = some (some (.ref (He.ma K (He.ga K "System") "registrations"))))) rfl)
  have ireg : PySem.W.isFn K (.ref (He.ma K (He.ga K "System") "registrations")) = true := (SaysB.ck c 213 (f := fun K => PySem.W.isFn K (.ref (He.ma K (He.ga K "System") "registrations"))) rfl)
  have kreg : PySem.W.keepIn K (.ref (He.ma K (He.ga K "System") "registrations")) = true := (SaysB.ck c 214 (f := fun K => PySem.W.keepIn K (.ref (He.ma K (He.ga K "System") "registrations"))) rfl)
  obtain ⟨fd_reg, F0reg⟩ := SaysB.def_ c 52 (d := (⟨("System", some "registrations"), "registrations", "System.registrations", defArgs sRegistrations, defBody sRegistrations, defScope sRegistrations, [], []⟩ : He.DefD)) rfl
  have xtIRg : PySem.W.typeIn K (.ref (He.ma K (He.ga K "Registered") "__init__")) = some (.type "function") := of_decide_eq_true (SaysB.ck c 215 (f := fun K => decide (PySem.W.typeIn K (.ref (He.ma K (He.ga K "Registered") "__init__")) = some (.type "function"))) rfl)
  have xtINr : PySem.W.typeIn K (.ref (He.ma K (He.ga K "NotRegistered") "__init__")) = some (.type "function") := of_decide_eq_true (SaysB.ck c 216 (f := fun K => decide (PySem.W.typeIn K (.ref (He.ma K (He.ga K "NotRegistered") "__init__")) = some (.type "function"))) rfl)
  have xNrRg : PySem.W.exmOne K (.ref (He.ga K "NotRegistered")) (.ref (He.ga K "Registered")) = some false := of_decide_eq_true (SaysB.ck c 217 (f := fun K => decide (PySem.W.exmOne K (.ref (He.ga K "NotRegistered")) (.ref (He.ga K "Registered")) = some false)) rfl)
  have z_len : PySem.W.nsIn K mainGlobals "len" = some none := of_decide_eq_true (SaysB.ck c 218 (f := fun K => decide (PySem.W.nsIn K mainGlobals "len" = some none)) rfl)
  have z_enumerate : PySem.W.nsIn K mainGlobals "enumerate" = some none := of_decide_eq_true (SaysB.ck c 219 (f := fun K => decide (PySem.W.nsIn K mainGlobals "enumerate" = some none)) rfl)
  have z_int : PySem.W.nsIn K mainGlobals "int" = some none := of_decide_eq_true (SaysB.ck c 220 (f := fun K => decide (PySem.W.nsIn K mainGlobals "int" = some none)) rfl)
  have z_abs : PySem.W.nsIn K mainGlobals "abs" = some none := of_decide_eq_true (SaysB.ck c 221 (f := fun K => decide (PySem.W.nsIn K mainGlobals "abs" = some none)) rfl)
  have z_isinstance : PySem.W.nsIn K mainGlobals "isinstance" = some none := of_decide_eq_true (SaysB.ck c 222 (f := fun K => decide (PySem.W.nsIn K mainGlobals "isinstance" = some none)) rfl)
  have z_bool : PySem.W.nsIn K mainGlobals "bool" = some none := of_decide_eq_true (SaysB.ck c 223 (f := fun K => decide (PySem.W.nsIn K mainGlobals "bool" = some none)) rfl)
  have z_list : PySem.W.nsIn K mainGlobals "list" = some none := of_decide_eq_true (SaysB.ck c 224 (f := fun K => decide (PySem.W.nsIn K mainGlobals "list" = some none)) rfl)
  have z_min : PySem.W.nsIn K mainGlobals "min" = some none := of_decide_eq_true (SaysB.ck c 225 (f := fun K => decide (PySem.W.nsIn K mainGlobals "min" = some none)) rfl)
  have z_max : PySem.W.nsIn K mainGlobals "max" = some none := of_decide_eq_true (SaysB.ck c 226 (f := fun K => decide (PySem.W.nsIn K mainGlobals "max" = some none)) rfl)
  have z_range : PySem.W.nsIn K mainGlobals "range" = some none := of_decide_eq_true (SaysB.ck c 227 (f := fun K => decide (PySem.W.nsIn K mainGlobals "range" = some none)) rfl)
  have z_sorted : PySem.W.nsIn K mainGlobals "sorted" = some none := of_decide_eq_true (SaysB.ck c 228 (f := fun K => decide (PySem.W.nsIn K mainGlobals "sorted" = some none)) rfl)
  have z_repr : PySem.W.nsIn K mainGlobals "repr" = some none := of_decide_eq_true (SaysB.ck c 229 (f := fun K => decide (PySem.W.nsIn K mainGlobals "repr" = some none)) rfl)
  have z_any : PySem.W.nsIn K mainGlobals "any" = some none := of_decide_eq_true (SaysB.ck c 230 (f := fun K => decide (PySem.W.nsIn K mainGlobals "any" = some none)) rfl)
  have z_LookupError : PySem.W.nsIn K mainGlobals "LookupError" = some none := of_decide_eq_true (SaysB.ck c 231 (f := fun K => decide (PySem.W.nsIn K mainGlobals "LookupError" = some none)) rfl)
  have z_RuntimeError : PySem.W.nsIn K mainGlobals "RuntimeError" = some none := of_decide_eq_true (SaysB.ck c 232 (f := fun K => decide (PySem.W.nsIn K mainGlobals "RuntimeError" = some none)) rfl)
  have wA : PySem.W.nsIn K mainGlobals "WORDS" = some (some (.ref (He.ga K "WORDS"))) := of_decide_eq_true (SaysB.ck c 233 (f := fun K => decide (PySem.W.nsIn K mainGlobals "WORDS" = some (some (.ref (He.ga K "WORDS"))))) rfl)
  obtain ⟨dW, tW0, tW1, tW2, nW, sW, LW0⟩ := txtB_ok (SaysB.ck c 234 (f := fun K => txtB K (He.ga K "WORDS") "level" "edge" "once") rfl)
  obtain ⟨tMC, gMC⟩ := intB_ok (SaysB.ck c 235 (f := fun K => intB (PySem.W.nsIn K mainGlobals "MOST_COUNT") 1000000) rfl)
  obtain ⟨tML, gML⟩ := intB_ok (SaysB.ck c 236 (f := fun K => intB (PySem.W.nsIn K mainGlobals "MOST_LABEL") 999999) rfl)
  obtain ⟨tLP, gLP⟩ := intB_ok (SaysB.ck c 237 (f := fun K => intB (PySem.W.nsIn K mainGlobals "LEAST_PROCESSES") 2) rfl)
  obtain ⟨tLN, gLN⟩ := intB_ok (SaysB.ck c 238 (f := fun K => intB (PySem.W.nsIn K mainGlobals "LEAST_NUMBERS") 3) rfl)
  obtain ⟨tMP, gMP, sMP⟩ := atB_ok (SaysB.ck c 239 (f := fun K => atB K (PySem.W.findIn K (.ref (He.ga K "System")) "MOST_PROCESSES") 6) rfl)
  obtain ⟨tMN, gMN, sMN⟩ := atB_ok (SaysB.ck c 240 (f := fun K => atB K (PySem.W.findIn K (.ref (He.ga K "System")) "MOST_NUMBERS") 8) rfl)
  have xhddon : PySem.W.codeHdIn K (cdA K (He.ga K "_law_done")) (ptA K (He.ga K "_law_done")) = true := (SaysB.ck c 241 (f := fun K => PySem.W.codeHdIn K (cdA K (He.ga K "_law_done")) (ptA K (He.ga K "_law_done"))) rfl)
  have xb3 : mainGlobals ≠ (ptA K (He.ga K "_law_done")) := of_decide_eq_true (SaysB.ck c 242 (f := fun K => decide (mainGlobals ≠ (ptA K (He.ga K "_law_done")))) rfl)
  have nPt : K.lookup (ptA K (He.ga K "_law_done")) = none := by
    have e := (SaysB.ck c 243 (f := fun K => (K.lookup (ptA K (He.ga K "_law_done"))).isNone) rfl)
    exact Option.isNone_iff_eq_none.mp e
  exact ⟨all_mk (w := w) X G hfa gCS pgS hdS poS saS mkS kcS noS0 noS1 noS2 noS3 noS4 noS5 gCW pgW hdW poW saW mkW kcW noW0 noW1 gCR pgR hdR poR saR mkR kcR noR0 noR1 noR2 noR3 nWR gCRg xLRg xsaRg xgaRg xggRg xnbRg0 xvVRg xkCRg xeCRg xtCRg xhCRg xteRg xC1Rg xC4Rg xC5Rg xkvRg xC2 xC3 gCNr xLNr xsaNr xgaNr xggNr xnbNr0 xvVNr xkCNr xeCNr xtCNr xhCNr xteNr xC1Nr xC4Nr xC5Nr xkvNr aint kint F0int abet kbet F0bet acnt kcnt F0cnt alab klab F0lab awrd kwrd F0wrd abag kbag F0bag atake ktake F0take aout kout F0out ahom khom F0hom alad klad F0lad adon kdon F0don hcddon aisl kisl F0isl alaw klaw F0law axrg ixrg kxrg F0xrg axnr ixnr kxnr F0xnr ari iri kri F0ri awi iwi kwi F0wi alof ilof klof F0lof aput iput kput F0put aapp iapp kapp F0app adrp idrp kdrp F0drp antc intc kntc F0ntc arep irep krep F0rep astl istl kstl F0stl asi isi ksi F0si acon icon kcon F0con atof itof ktof F0tof aitn iitn kitn F0itn atha itha ktha F0tha asra isra ksra F0sra asta ista ksta F0sta afrn ifrn kfrn F0frn anth inth knth F0nth anso inso knso F0nso anse inse knse F0nse ardy irdy krdy F0rdy aunf iunf kunf F0unf anfy infy knfy F0nfy aarr iarr karr F0arr awai iwai kwai F0wai arow irow krow F0row aadd iadd kadd F0add achg ichg kchg F0chg arem irem krem F0rem afre ifre kfre F0fre aclo iclo kclo F0clo acpy icpy kcpy F0cpy afrp ifrp kfrp F0frp afrk ifrk kfrk F0frk atng itng ktng F0tng anof inof knof F0nof anam inam knam F0nam areg ireg kreg F0reg xtIRg xtINr xNrRg z_len z_enumerate z_int z_abs z_isinstance z_bool z_list z_min z_max z_range z_sorted z_repr z_any z_LookupError z_RuntimeError wA LW0 gMC gML gLP gLN gMP sMP gMN sMN xhddon xb3, nPt, isct X xhddon⟩
theorem walkTE {l : PySem.W.OpenLaw} {n k : Nat} {q : Program} {loose : List Str} {XP : (Str → Option Value) → Heap → Prop} {YP : World → Heap → Prop} {d : DefRec} {x : Str}
    (hn : l.most = some n) (hn2 : n ≤ sizeLine) (hdf : d.params.defaults = []) (hr : Room k callerA)
    (F : ∀ (w : World) (mg : Str → Option Value) (fa : Addr) (h : Heap), YP w h → h.Ns mainGlobals mg → mg d.name = some (.ref fa) →
      ∃ (K : PySem.W.Frag) (Pt : Addr) (fd : FuncData) (sp : Sp), K.In h ∧ h.get? Pt = some (PySem.W.tabObj #[]) ∧ K.lookup Pt = none ∧ isCodeTable h Pt ∧ (∀ (s : Shared) (u : Value), BindsTo s fd ⟨[u], []⟩ [(x, u)]) ∧ (∀ base : Heap, K.In base → base.Ns mainGlobals mg → base.BuiltinsAt mg Pt → FnG l.prog w K mg base CX0 k fa fd [x] sp) ∧
        ∀ (H : Hp) (a : Addr) (ns : List Int), ns.length ≤ n → SqL K H a (ns.map V.int) → H Pt = some (.tbl #[]) → sp [.ref a] H (fun v _ => v = .bl true) fun _ _ _ => False) :
    PySem.W.WalkO q loose XP YP l.row.toRowW d [] (fun f vs => PySem.call f vs) := by
  refine Att.attach_call hn hdf fun w s₀ s₁ mg mb fa o pm cd doc a vs ns G Y ho hd hcd hmg hobj hints hlen hg => ?_
  obtain ⟨K, Pt, fd, sp, KX, hP, nP, tP, hb, hF, hsp⟩ := F w mg fa _ Y G.T.g hmg
  have hbm : s₁.heap.BuiltinsAt mg Pt := by
    obtain ⟨bm, ob, b1, b2, b3, b4, b5, b6⟩ := G.T.bmain
    refine ⟨bm, ob, b1, b2, fun z => ?_, fun z => ?_, b3, b4, b5, b6⟩
    · obtain ⟨o, es, ep, e, d, r⟩ := G.T.g
      rw [z, e] at b3
      cases b3
      rw [d] at b6
      cases b6
    · rw [z, hP] at b3
      cases b3
      cases b6
  exact law_T KX G.T.g G.T.b G.T.builtins G.T.nolimit hg hobj hints (Nat.le_trans hlen hn2) hr hP nP tP (fun base k1 k2 _ _ k3 => hF base k1 k2 k3) hbm hb fun H hS hP => hsp H a ns hlen hS hP

end Wn
namespace Wn
open PySem PySem.Spec PyProof.Rows L2
abbrev Rw : PySem.W.OpenRow := PySem.W.OpenLaw.row PySem.Challenge.rw_waitnumbers_k15_one_set_in_several_proce
abbrev tbL : Option Tb := (some fun K => (ptA K (He.ga K "_law_done")))
abbrev hk : PySem.W.Hook := hookB 4 ckL fnL tbL
def ob (s : PySem.W.SharedT) : He.AlD × Option Obj := obsB 4 ckL fnL tbL (HandSHeadRun.getT s)
theorem ob_eq (s : PySem.W.SharedT) : ob s = hk.obs s.abs := obsB_eq (HandSHeadRun.getT_eq s)
def nm0 : List Str := ["_wall",
  "NoProcess",
  "NotOpen",
  "NoNumber",
  "NotRegistered",
  "NotASource",
  "NotASet",
  "BadCount",
  "BadLabel",
  "BadWord",
  "BadLimit",
  "Full",
  "NoRoom",
  "Finished",
  "Registered",
  "Taken",
  "MOST_COUNT",
  "MOST_LABEL",
  "WORDS",
  "is_integer",
  "is_between",
  "is_count",
  "is_label",
  "is_word",
  "Registration",
  "WaitingSet",
  "LEAST_PROCESSES",
  "LEAST_NUMBERS",
  "System",
  "_law_bag"]
def nm1 : List Str := ["_law_take",
  "_law_of",
  "_law_outcome",
  "_law_home",
  "_law_added",
  "_law_done",
  "_law_is_level"]
def nmL : List Str := nm0 ++ (nm1)
set_option maxRecDepth 100000 in
set_option maxHeartbeats 0 in
theorem run (w : World) : HandSHeadRun.RunEq Rw (PySem.W.view Rw.prog [42]) hk ob 9000 nmL w := by
  intro os
  kernel_rfl
end Wn
open PySem PySem.W PySem.Calls PyProof.Rows in
set_option maxRecDepth 100000 in
set_option maxHeartbeats 0 in
theorem PySem.Challenge.cw_waitnumbers_k15_one_set_in_several_proce_holds : PySem.Challenge.rw_waitnumbers_k15_one_set_in_several_proce.Holds := by
  w_on; o_law
  refine HandSHeadRun.head_any (r := OpenLaw.row PySem.Challenge.rw_waitnumbers_k15_one_set_in_several_proce) (q := view (OpenLaw.row PySem.Challenge.rw_waitnumbers_k15_one_set_in_several_proce).prog [42]) (H := Wn.hk) (ob := Wn.ob) (M := 9000) (loose := Wn.nmL) (d := HandSHeadRun.topDef (OpenLaw.row PySem.Challenge.rw_waitnumbers_k15_one_set_in_several_proce).prog 42) (kwd := []) Wn.ob_eq
    (by kernel_rfl) (fun s => by kernel_rfl) Wn.run (by kernel_rfl) (by kernel_rfl) (by kernel_rfl) (by rfl) (by first | assumption | decide +kernel) (by decide +kernel) ⟨rfl, rfl, rfl, rfl, rfl, by decide +kernel⟩ ?hw ?hc
  case hw => w_witness2
  case hc =>
    refine Wn.walkTE (l := PySem.Challenge.rw_waitnumbers_k15_one_set_in_several_proce) (n := 63) (k := 10) (x := "_law_script") rfl (by decide) (by kernel_rfl) ⟨rfl, by decide, by decide⟩ ?F
    intro w mg fa h Y G hmg0
    obtain ⟨K, KX, c, ht⟩ := Y
    have hmg : mg ("law" : PySem.Str) = some (.ref fa) := by
      have e : (HandSHeadRun.topDef Wn.Rw.prog 42).name = ("law" : PySem.Str) := by kernel_rfl
      rw [← e]
      exact hmg0
    obtain ⟨⟨fd, hb, hF, hs⟩, nP, tP⟩ := Wn.facts (P := (PySem.Challenge.rw_waitnumbers_k15_one_set_in_several_proce).prog) (w := w) KX G hmg c
    exact ⟨K, _, fd, _, KX, ht _ rfl, nP, tP, hb, hF, hs⟩

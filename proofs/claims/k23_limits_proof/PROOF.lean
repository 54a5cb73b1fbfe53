import PyProof.Rows.All
import Wide.All
import OpenK.AllK
import Wide.FinOn
import HandS.ForMost
import HandS.Wide
import HandS.Evl
import HandS.Walk
import HandS.NoneIn
import HandS.IsInst
import HandS.More
import HandS.Defaults
import HandS.MakeKwOnly
import HandS.Conv
import HandS.Style
import HandS.OwnEq
import HandS.ExcIs
import HandS.FStrTup
import HandS.RaiseMore
import HandS.Lambda
import HandS.EndTab
import HandS.TryMany
import HandS.Flow
import HandS.Sort
import PyProof.ReprLen
import PyProof.FitsInt
import HandS.FStr
import PyProof.ReprHeads
import HandS.ExcInit
import HandS.ExcField
import HandS.ExcOwn
import KE.KExcInit
import KE.KExcIs
import HandS.WordsExc
import HandS.DictComp
import HandS.Property
import HandS.WordsDict
import HandS.ClsMeth
import KE.DataEq
import KE.KStateDown
import HandS.Words
import HandS.HeadHook2
import HandS.HeadEnd
import HandS.HeadWalk
import HandS.Head0
import HandS.Head1
import HandS.Head2
import KE.KNestM
import PySem.Challenge.RW_waitnumbers_k23_limits_of_systems
set_option Elab.async false
set_option linter.all false
set_option maxRecDepth 100000
set_option maxHeartbeats 4000000
namespace Wn
open PySem PySem.Spec PyProof.Rows L2 Evl
def top (i : Nat) : Stmt := PySem.Challenge.pw_waitnumbers_k23_limits_of_systems.main.body.getD i (.Pass ⟨0, 0, 0, 0⟩)
abbrev sBag : Stmt := top 21
abbrev sTake : Stmt := top 22
abbrev sOf : Stmt := top 23
/-! readings with names -/
def rInt1 : List V → Hp → VK → Prop := fun xs H Q => (∃ i, xs = [.int i] ∧ Q (.int i) H) ∨ ∃ k, xs = [.bl k] ∧ Q (.int (if k = true then 1 else 0)) H
def rAbs : List V → Hp → VK → Prop := fun xs H Q => ∃ i, xs = [.int i] ∧ Q (.int (if i < 0 then -i else i)) H
theorem cInt1 {X : Cx} : CallR X (.type "int") rInt1 := call_int1
theorem cAbs {X : Cx} : CallR X (.builtin "abs") rAbs := call_abs
def rIsN : R2 := fun x y H Q => y = .non ∧ Q (.bl (decide (x = .non))) H
def rNotN : R2 := fun x y H Q => y = .non ∧ Q (.bl (!decide (x = .non))) H
def rAddS : R2 := fun x y H Q => ∃ i j, x = .str i ∧ y = .str j ∧ i.length + j.length ≤ sizeLine ∧ Q (.str (i ++ j)) H
def rLenQ (K : PySem.W.Frag) : List V → Hp → VK → Prop := fun xs H Q => ∃ p ys, xs = [.ref p] ∧ (SqL K H p ys ∨ SqT K H p ys) ∧ Q (.int ys.length) H
def rLenS : List V → Hp → VK → Prop := fun xs H Q => ∃ z, xs = [.str z] ∧ z.length ≤ sizeLine ∧ Q (.int z.length) H
def rMax2 : List V → Hp → VK → Prop := fun xs H Q => ∃ i j, xs = [.int i, .int j] ∧ Q (.int (if j > i then j else i)) H
def rMin2 : List V → Hp → VK → Prop := fun xs H Q => ∃ i j, xs = [.int i, .int j] ∧ Q (.int (if j < i then j else i)) H
theorem oIsN {X : Cx} : OpR X (compareOp .Is) rIsN := op_isN
theorem oNotN {X : Cx} : OpR X (compareOp .IsNot) rNotN := op_notN
theorem oAddS {X : Cx} : OpR X (binaryOp .Add) rAddS := op_add_str
theorem cLenQ {X : Cx} : CallR X (.builtin "len") (rLenQ X.K) := call_len_seq
theorem cLenS {X : Cx} : CallR X (.builtin "len") rLenS := call_len_str
theorem cMax2 {X : Cx} (hc : X.calm = true) : CallR X (.builtin "max") rMax2 := call_max2 hc
theorem cMin2 {X : Cx} (hc : X.calm = true) : CallR X (.builtin "min") rMin2 := call_min2 hc
/-! one step of a reading -/
section
variable {σ : L2.St} {H : Hp} {Q : VK} {ta tb te : TE} {tl : TA} {t u : TS} {D : Ends} {c : TT} {r : R2} {v : V} {i : Nat}
theorem g_var (h : σ[i]? = some (some v)) (q : Q v H) : tVar i σ H Q := ⟨v, h, q⟩
theorem g_c (q : Q v H) : tC v σ H Q := q
theorem g_op (q : ta σ H fun x H1 => tb σ H1 fun y H2 => r x y H2 Q) : tOp r ta tb σ H Q := q
theorem g_un {r : V → Hp → VK → Prop} (q : ta σ H fun x H1 => r x H1 Q) : tUn r ta σ H Q := q
theorem g_rI0 {g : Int → Int → V} {a b : Int} (q : Q (g a b) H) : rI0 g (.int a) (.int b) H Q := ⟨a, b, rfl, rfl, q⟩
theorem g_rI {C : Int → Int → Prop} {g : Int → Int → V} {a b : Int} (hc : C a b) (q : Q (g a b) H) : rI C g (.int a) (.int b) H Q := ⟨a, b, rfl, rfl, hc, q⟩
theorem g_mul {a b : Int} (h : (-(2 ^ 64) < a ∧ a < 2 ^ 64) ∨ (-(2 ^ 64) < b ∧ b < 2 ^ 64)) (q : Q (.int (a * b)) H) : rI CMul (fun i j => .int (i * j)) (.int a) (.int b) H Q := ⟨a, b, rfl, rfl, h, q⟩
theorem g_mod {a b : Int} (h : 0 < b) (q : Q (.int (a % b)) H) : rI (fun _ j => 0 < j) (fun i j => .int (i % j)) (.int a) (.int b) H Q := ⟨a, b, rfl, rfl, h, q⟩
theorem g_rEq {x y : V} (h : scal x y = true) (q : Q (.bl (decide (x = y))) H) : rEq x y H Q := ⟨h, q⟩
theorem g_rNe {x y : V} (h : scal x y = true) (q : Q (.bl (!decide (x = y))) H) : rNe x y H Q := ⟨h, q⟩
theorem g_asg {g : TG} (q : te σ H fun x H1 => g x σ H1 D.nx) : tAsg te g D σ H := q
theorem g_name {k : L2.St → Hp → Prop} (q : k (σ.set i (some v)) H) : gName i v σ H k := q
theorem g_seq (q : t { D with nx := u D } σ H) : tSeq t u D σ H := q
theorem g_ret (q : te σ H D.rt) : tRet te D σ H := q
theorem g_retN (q : D.rt .non H) : tRetN D σ H := q
theorem g_next (q : D.nx σ H) : tNext D σ H := q
theorem g_drop (q : te σ H fun _ H1 => D.nx σ H1) : tDrop te D σ H := q
theorem g_nil {k : List V → Hp → Prop} (q : k [] H) : tNil σ H k := q
theorem g_cons {k : List V → Hp → Prop} (q : ta σ H fun x H1 => tl σ H1 fun xs H2 => k (x :: xs) H2) : tCons ta tl σ H k := q
theorem g_cb {r : List V → Hp → VK → Prop} (q : tl σ H fun vs H1 => r vs H1 Q) : tCB r tl σ H Q := q
theorem g_test {k : Bool → Hp → Prop} (q : te σ H fun x H1 => ∃ b, x = .bl b ∧ k b H1) : tTest te σ H k := q
theorem g_tB {k : Bool → Hp → Prop} (q : te σ H fun x H1 => ∃ b, x = .bl b ∧ k b H1) : tB te σ H k := q
theorem g_bl {b : Bool} {k : Bool → Prop} (q : k b) : ∃ z, V.bl b = .bl z ∧ k z := ⟨b, rfl, q⟩
theorem g_if (q : c σ H fun b H1 => if b = true then ta σ H1 Q else tb σ H1 Q) : tIf c ta tb σ H Q := q
theorem g_ifs (q : c σ H fun b H1 => if b = true then t D σ H1 else u D σ H1) : tIfS c t u D σ H := q
theorem g_not {k : Bool → Hp → Prop} (q : c σ H fun b H1 => k (!b) H1) : tNot c σ H k := q
theorem g_part {k : Option Int → Hp → Prop} (q : te σ H fun x H1 => ∃ z, x = .int z ∧ k (some z) H1) : tPart te σ H k := q
theorem g_pint {z : Int} {k : Int → Prop} (q : k z) : ∃ y, V.int z = .int y ∧ k y := ⟨z, rfl, q⟩
theorem g_lst (q : tl σ H fun xs H1 => xs.length ≤ sizeLine ∧ ∀ p, H1 p = none → Q (.ref p) (upd H1 p (.lst xs))) : tLst tl σ H Q := q
theorem g_tup (q : tl σ H fun xs H1 => xs.length ≤ sizeLine ∧ ∀ p, H1 p = none → Q (.ref p) (upd H1 p (.tup xs))) : tTup tl σ H Q := q
theorem g_ixL {K : PySem.W.Frag} {p : Addr} {xs : List V} {z : Int} (h : H p = some (.lst xs)) (a : atI xs z = some v) (q : Q v H) : rIxL K (.ref p) (.int z) H Q := ⟨p, xs, z, v, rfl, rfl, SqL.of h, a, q⟩
theorem cdivw_of {a b : Int} (h0 : 0 < b) (h1 : b < 4611686018427387904) : CDivW a b := wide_div (b := 62) h0 (by omega) (by decide) (by decide)
theorem g_div {a b : Int} (h0 : 0 < b) (h1 : b < 4611686018427387904) (q : Q (.int (a / b)) H) : rI CDivW (fun i j => .int (i / j)) (.int a) (.int b) H Q := ⟨a, b, rfl, rfl, cdivw_of h0 h1, q⟩
theorem g_sub {to ti : TE} {ts : TSet} {k : L2.St → Hp → Prop} (q : to σ H fun o H1 => ti σ H1 fun i H2 => ts o i v H2 fun H3 => k σ H3) : gSub to ti ts v σ H k := q
theorem g_setL {p : Addr} {xs : List V} {z : Int} {j : Nat} {k : Hp → Prop} (h : H p = some (.lst xs)) (a : ixN xs.length z = some j) (q : k (upd H p (.lst (xs.set j v)))) : rSetL (.ref p) (.int z) v H k := ⟨p, xs, z, j, rfl, rfl, h, a, q⟩
theorem g_nopart {k : Option Int → Hp → Prop} (q : k none H) : tNoPart σ H k := q
theorem g_call {sp : Sp} {dvs : List V} {E : XK} (q : tl σ H fun vs H1 => sp (vs ++ dvs) H1 Q E) : tCall sp dvs E tl σ H Q := q
theorem g_rint (z : Int) (q : Q (.int z) H) : rInt1 [.int z] H Q := .inl ⟨z, rfl, q⟩
theorem g_rabs {z : Int} (q : Q (.int (if z < 0 then -z else z)) H) : rAbs [.int z] H Q := ⟨z, rfl, q⟩
theorem g_sl {r : V → Option Int → Option Int → Hp → VK → Prop} {a b : TO} (q : te σ H fun x H1 => a σ H1 fun l H2 => b σ H2 fun h H3 => r x l h H3 Q) : tSl r te a b σ H Q := q
theorem g_rIsN {x : V} (q : Q (.bl (decide (x = .non))) H) : rIsN x .non H Q := ⟨rfl, q⟩
theorem g_rNotN {x : V} (q : Q (.bl (!decide (x = .non))) H) : rNotN x .non H Q := ⟨rfl, q⟩
theorem g_lenL {K : PySem.W.Frag} {p : Addr} {xs : List V} (h : H p = some (.lst xs)) (q : Q (.int xs.length) H) : rLenQ K [.ref p] H Q := ⟨p, xs, rfl, .inl (SqL.of h), q⟩
theorem g_max2 {a b : Int} (q : Q (.int (if b > a then b else a)) H) : rMax2 [.int a, .int b] H Q := ⟨a, b, rfl, q⟩
theorem g_min2 {a b : Int} (q : Q (.int (if b < a then b else a)) H) : rMin2 [.int a, .int b] H Q := ⟨a, b, rfl, q⟩
theorem g_and {t u : TT} {k : Bool → Hp → Prop} (q : t σ H fun b H1 => if b = true then u σ H1 k else k false H1) : tAnd t u σ H k := q
theorem g_or {t u : TT} {k : Bool → Hp → Prop} (q : t σ H fun b H1 => if b = true then k true H1 else u σ H1 k) : tOr t u σ H k := q
theorem g_orV (q : ta σ H fun x H1 => ∃ b, x = .bl b ∧ if b = true then Q (.bl true) H1 else tb σ H1 Q) : tOrV ta tb σ H Q := q
theorem g_andV (q : ta σ H fun x H1 => ∃ b, x = .bl b ∧ if b = true then tb σ H1 Q else Q (.bl false) H1) : tAndV ta tb σ H Q := q
theorem g_notV (q : ta σ H fun x H1 => ∃ b, x = .bl b ∧ Q (.bl (!b)) H1) : tNotV ta σ H Q := q
theorem g_m0 {r : V → List V → Hp → VK → Prop} (q : ta σ H fun x H1 => (∃ a, x = .str a) ∧ r x [] H1 Q) : tM0 r ta σ H Q := q
theorem g_m1 {r : V → List V → Hp → VK → Prop} (q : ta σ H fun x H1 => (∃ a, x = .str a) ∧ tb σ H1 fun y H2 => r x [y] H2 Q) : tM1 r ta tb σ H Q := q
theorem g_isS {z : Str} {c : Prop} (q : c) : (∃ a, V.str z = .str a) ∧ c := ⟨⟨z, rfl⟩, q⟩
theorem g_bT {A B : Prop} (q : A) : if true = true then A else B := iteT q
theorem g_bF {A B : Prop} (q : B) : if false = true then A else B := iteF q
theorem g_bNT {A B : Prop} (q : B) : if (!true) = true then A else B := iteF q
theorem g_bNF {A B : Prop} (q : A) : if (!false) = true then A else B := iteT q
theorem g_bm {K : PySem.W.Frag} {T : String} {r : V → List V → Hp → VK → Prop} (q : ta σ H fun x H1 => tyV K T x H1 ∧ tl σ H1 fun xs H2 => r x xs H2 Q) : tBM K T r ta tl σ H Q := q
theorem g_bm0 {K : PySem.W.Frag} {T : String} {r : V → List V → Hp → VK → Prop} (q : ta σ H fun x H1 => tyV K T x H1 ∧ r x [] H1 Q) : tBM0 K T r ta σ H Q := q
theorem g_tyL {K : PySem.W.Frag} {p : Addr} {xs : List V} {c : Prop} (h : H p = some (.lst xs)) (q : c) : tyV K "list" (.ref p) H ∧ c := ⟨.inl ⟨rfl, _, SqL.of h⟩, q⟩
theorem g_lit {L : List V} {n : Nat} (h : L.length ≤ n) (z : n ≤ 100) : L.length ≤ 100 := Nat.le_trans h z
theorem g_yes {k : Bool → Hp → Prop} (q : k true H) : tYes σ H k := q
theorem g_nes {x : V} {A B : Prop} (q : B) : if (!decide (x = x)) = true then A else B := by
  rw [decide_eq_true rfl]
  exact iteF q
theorem g_es {x : V} {A B : Prop} (q : A) : if decide (x = x) = true then A else B := by
  rw [decide_eq_true rfl]
  exact iteT q
theorem g_callK {sp : Sp} {gV : List V → List V → List V} {E : XK} {tk : TA} (q : tl σ H fun vs H1 => tk σ H1 fun zs H2 => sp (gV vs zs) H2 Q E) : tCallK sp gV E tl tk σ H Q := q
theorem g_isN {x : V} (q : ta σ H fun x H1 => Q (.bl (decide (x = .non))) H1) : tIsN ta σ H Q := q
end
local macro_rules | `(tactic| walk_at "wn1") => `(tactic| first | ((with_reducible show (if (!decide _) = true then _ else _)); refine' g_nes ?_) | ((with_reducible show (if (decide _) = true then _ else _)); refine' g_es ?_) | with_reducible first
  | (refine' g_var ?h ?q; (case h => with_unfolding_all rfl))
  | refine' g_c ?_ | refine' g_op ?_ | refine' g_rI0 ?_ | refine' g_asg ?_ | refine' g_name ?_ | refine' g_seq ?_ | refine' g_ret ?_ | refine' g_retN ?_ | refine' g_next ?_ | refine' g_drop ?_
  | refine' g_nil ?_ | refine' g_cons ?_ | refine' g_cb ?_ | refine' g_test ?_ | refine' g_bl ?_ | refine' g_if ?_ | refine' g_ifs ?_ | refine' g_not ?_ | refine' g_part ?_ | refine' g_pint ?_ | refine' g_nopart ?_ | refine' g_call ?_
  | (refine' g_mul ?h ?q; (case h => with_unfolding_all first | exact Or.inl ⟨by decide, by decide⟩ | exact Or.inr ⟨by decide, by decide⟩ | exact Or.inl ⟨by omega, by omega⟩ | exact Or.inr ⟨by omega, by omega⟩))
  | (refine' g_mod ?h ?q; (case h => with_unfolding_all first | decide | omega))
  | refine' g_rIsN ?_ | refine' g_rNotN ?_ | refine' g_max2 ?_ | refine' g_min2 ?_ | refine' g_and ?_ | refine' g_or ?_ | refine' g_orV ?_ | refine' g_andV ?_ | refine' g_notV ?_ | refine' g_m1 ?_ | refine' g_yes ?_ | refine' g_bm ?_ | refine' g_bm0 ?_
  | (refine' g_tyL ?h ?q; (case h => first | assumption | exact upd_same))
  | refine' g_m0 ?_ | refine' g_tB ?_ | refine' g_isS ?_ | refine' g_bT ?_ | refine' g_bF ?_ | refine' g_bNT ?_ | refine' g_callK ?_ | refine' g_bNF ?_
  | (refine' g_lenL ?h ?q; (case h => first | assumption | exact upd_same))
  | refine' g_un ?_ | refine' g_rint _ ?_ | refine' g_rabs ?_ | refine' g_sl ?_ 
  | (refine' g_ixL ?h ?a ?q; (case h => first | assumption | exact upd_same); (case a => with_unfolding_all rfl))
  | (refine' g_div ?h0 ?h1 ?q; (case h0 => with_unfolding_all first | decide | omega); (case h1 => with_unfolding_all first | decide | omega))
  | refine' g_sub ?_
  | (refine' g_setL ?h ?a ?q; (case h => first | assumption | exact upd_same); (case a => with_unfolding_all rfl))
  | refine' g_lst ?_ | refine' g_tup ?_
  | (refine' g_rEq ?h ?q; (case h => with_unfolding_all rfl)) | (refine' g_rNe ?h ?q; (case h => with_unfolding_all rfl)))
local macro_rules | `(tactic| walk_at "wn") => `(tactic| repeat walk_at "wn1")

/-! the bag of draws: two numbers that are not negative, the second one below 2 ^ 31 -/
def BagAt (H : Hp) (p : Addr) : Prop := ∃ a b : Int, H p = some (.lst [.int a, .int b]) ∧ 0 ≤ a ∧ 0 ≤ b ∧ b < 2147483648
def Dr (p : Addr) (H H' : Hp) : Prop := (∀ a o, a ≠ p → H a = some o → H' a = some o) ∧ BagAt H' p
theorem Dr.refl {p : Addr} {H : Hp} (b : BagAt H p) : Dr p H H := ⟨fun _ _ _ h => h, b⟩
theorem Dr.trans {p : Addr} {H H1 H2 : Hp} (a : Dr p H H1) (b : Dr p H1 H2) : Dr p H H2 := ⟨fun x o n h => b.1 x o n (a.1 x o n h), b.2⟩
theorem Dr.ex {p : Addr} {H H1 : Hp} (b : BagAt H p) (e : Ex H H1) : Dr p H H1 := ⟨fun x o _ h => e x o h, by
  obtain ⟨u, v, h, r⟩ := b
  exact ⟨u, v, e _ _ h, r⟩⟩
theorem seq_at {K : PySem.W.Frag} {H H' : Hp} {l : Addr} {xs : List V} (e : H' l = H l) (h : SqL K H l xs) : SqL K H' l xs := by
  rcases h with (h | ⟨o, h⟩) | h
  · exact .inl (.inl (e.trans h))
  · exact .inl (.inr ⟨o, e.trans h⟩)
  · exact .inr h
theorem seqT_at {K : PySem.W.Frag} {H H' : Hp} {l : Addr} {xs : List V} (e : H' l = H l) (h : SqT K H l xs) : SqT K H' l xs := by
  rcases h with (h | ⟨o, h⟩) | h
  · exact .inl (.inl (e.trans h))
  · exact .inl (.inr ⟨o, e.trans h⟩)
  · exact .inr h
structure DrawTxt (mg : Str → Option Value) : Prop where
  len : mg "len" = none
  enum : mg "enumerate" = none
  int : mg "int" = none
  abs : mg "abs" = none
def spBag (K : PySem.W.Frag) : Sp := fun vs H Q _ => ∃ (a : Addr) (ns : List Int) (i : Nat), vs = [.ref a, .int i] ∧ SqL K H a (ns.map V.int) ∧ ns.length ≤ 63 ∧ i ≤ 100 ∧
  ∀ (H' : Hp) (p : Addr), H p = none → Same H H' → BagAt H' p → Q (.ref p) H'
def spTake : Sp := fun vs H Q _ => ∃ (p : Addr) (m : Int), vs = [.ref p, .int m] ∧ BagAt H p ∧ 0 < m ∧ m < 4611686018427387904 ∧
  ∀ (k : Int) (H' : Hp), 0 ≤ k → k < m → (∀ b, b ≠ p → H' b = H b) → BagAt H' p → Q (.int k) H'
def spOf (K : PySem.W.Frag) : Sp := fun vs H Q _ => ∃ (p l : Addr) (xs : List V), vs = [.ref p, .ref l] ∧ BagAt H p ∧ SqL K H l xs ∧ l ≠ p ∧ 0 < xs.length ∧ xs.length ≤ 1000 ∧
  ∀ (k : Nat) (v : V) (H' : Hp), xs[k]? = some v → (∀ b, b ≠ p → H' b = H b) → BagAt H' p → Q v H'
section
variable {P : Program} {w : World} {K : PySem.W.Frag} {mg : Str → Option Value} {base : Heap}
theorem scBag : FnScope ["_law_script", "_law_at", "_law_cell", "_law_blend", "_law_k", "_law_each"] ["_law_script", "_law_at"] (defScope sBag) := ⟨rfl, rfl, rfl, by decide +kernel, rfl, by decide +kernel, by decide +kernel⟩
theorem okBag {f : Addr} {fd : FuncData} (F : Fun K "_law_bag" "_law_bag" sBag f fd) (T : DrawTxt mg) : FnOk P w K mg base CX0 1 f fd ["_law_script", "_law_at"] (spBag K) := by
  refine F.ok scBag (fun vs H Q E h => ?_) (fun cdv A outer s H vs Q E hr h => ?_)
  · obtain ⟨a, ns, i, rfl, _⟩ := h
    rfl
  · obtain ⟨a, ns, i, rfl, hS, hl, hi, k⟩ := h
    refine ⟨_, pss_cut (ps_set (i := 2) scBag.nd rfl (Or.inl rfl) (pe_ifExp (pt_cmpR op_lt (pv 1) (pe_callB cLenQ (by rfl) T.len PySem.boot_len (pa_cons (pv 0) pa_nil)) (nomark _)) (pe_ix ix_list (pv 0) (pv 1) (fun _ _ => rfl)) pe_int))
      (pss_cons (ps_set (i := 3) scBag.nd rfl (Or.inl rfl) (pe_op op_add (pe_op op_mul pe_int (pv 1)) pe_int))
      (pss_cut (ps_for PassesOwn.never rfl (pi_enum (by rfl) T.enum (pa_cons (pe_slice sl_list (pv 0) po_none (po_some pe_int)) pa_nil)) (pg_tup rfl (pgs_cons (pg_name (i := 4) scBag.nd rfl (Or.inl rfl)) (pgs_cons (pg_name (i := 5) scBag.nd rfl (Or.inl rfl)) pgs_nil)))
        (pss_one (ps_set (i := 3) scBag.nd rfl (Or.inl rfl) (pe_op op_mod (pe_callTy cInt1 (by rfl) T.int PyProof.Rows.boot_int (pa_cons (pe_op op_add (pe_op op_add (pe_op op_add (pe_op op_mul (pv 3) pe_int) (pe_op op_mod (pe_callTy cInt1 (by rfl) T.int PyProof.Rows.boot_int (pa_cons (pv 5) pa_nil)) pe_int)) (pe_op op_mul pe_int (pv 4))) pe_int) pa_nil)) pe_int))))
      (pss_one (ps_ret (pe_lst (pa_cons (pe_ifExp (pt_cmpR op_ge (pe_callB cAbs (by rfl) T.abs (by decide +kernel) (pa_cons (pv 2) pa_nil)) (pe_op op_pow pe_int pe_int) (nomark _)) (pe_callB cAbs (by rfl) T.abs (by decide +kernel) (pa_cons (pv 2) pa_nil)) pe_int) (pa_cons (pv 3) pa_nil))))))), ?_⟩
    refine ⟨fun σ' H' => ∃ c : Int, σ' = [some (.ref a), some (.int i), some (.int c), none, none, none] ∧ H' = H, ?_, ?_⟩
    · walk_at "wn"
      refine ⟨a, _, rfl, .inl hS, ?_⟩
      walk_at "wn"
      refine ite2 (fun hc => ?_) (fun hc => ?_)
      · have hlt : i < (ns.map V.int).length := by have := of_decide_eq_true hc; omega
        rw [List.length_map] at hlt
        walk_at "wn"
        refine ⟨a, _, _, _, rfl, rfl, hS, atI_nat (v := V.int (ns[i])) (by rw [List.getElem?_map, List.getElem?_eq_getElem hlt]; rfl), ?_⟩
        exact ⟨_, rfl, rfl⟩
      · exact ⟨0, rfl, rfl⟩
    · rintro σ' H' ⟨c, rfl, rfl⟩
      walk_at "wn"
      refine ⟨fun σ' H2 => ∃ (b : Int) (u v : Option V), 0 ≤ b ∧ b < 2147483648 ∧ σ' = [some (.ref a), some (.int i), some (.int c), some (.int b), u, v] ∧ Same H' H2, ?_, ?_⟩
      · show tSl _ _ _ _ _ _ _
        walk_at "wn"
        refine ⟨a, _, rfl, hS, fun p hp => ?_⟩
        walk_at "wn"
        refine ⟨p, _, rfl, SqL.of upd_same, ?_⟩
        refine for_it (walk_enum (xs := cutV (ns.map V.int) none (some 40))) (fun j σ' H3 => ∃ (b : Int) (u v : Option V), 0 ≤ b ∧ b < 2147483648 ∧ σ' = [some (.ref a), some (.int i), some (.int c), some (.int b), u, v] ∧ Same (upd H' p (.lst (cutV (ns.map V.int) none (some 40)))) H3) ?_ ?_ ?_ ?_
        · exact ⟨_, none, none, by omega, by omega, rfl, Same.refl _⟩
        · rintro j σ' H3 hj ⟨b, u, v, b0, b1, rfl, sm⟩
          exact sm.seq (SqL.of upd_same)
        · rintro j x σ' H3 H4 hj ⟨b, u, v, b0, b1, rfl, sm⟩ ⟨T1, x1, y1, rfl, nT, rfl, hx, hy⟩
          obtain rfl := Option.some.inj hx
          obtain ⟨z, rfl⟩ : ∃ z, y1 = V.int z := by
            have q : y1 ∈ ns.map V.int := List.mem_of_mem_drop (List.mem_of_mem_take (List.mem_of_getElem? hy))
            obtain ⟨z, _, e⟩ := List.mem_map.mp q
            exact ⟨z, e.symm⟩
          refine ⟨T1, _, rfl, SqT.of upd_same, rfl, _, _, rfl, ?_⟩
          walk_at "wn"
          refine ⟨_, _, rfl, ?_⟩
          walk_at "wn"
          refine ⟨rfl, ?_⟩
          walk_at "wn"
          refine ⟨_, _, _, by omega, by omega, rfl, fun x o hx => ?_⟩
          rw [upd_ne (ne_of_none (sm _ _ hx) nT)]
          exact sm _ _ hx
        · rintro σ' H3 ⟨b, u, v, b0, b1, rfl, sm⟩
          exact ⟨b, u, v, b0, b1, rfl, fun x o hx => sm _ _ (by rw [upd_ne (ne_of_none hx hp)]; exact hx)⟩
      · rintro σ' H2 ⟨b, u, v, b0, b1, rfl, sm⟩
        walk_at "wn"
        refine g_rI ⟨by decide, by decide, by decide⟩ ?_
        walk_at "wn"
        have fin : ∀ z : Int, 0 ≤ z → ([V.int z, V.int b].length ≤ sizeLine ∧ ∀ p, H2 p = none → Q (V.ref p) (upd H2 p (HO.lst [V.int z, V.int b]))) := fun z hz => ⟨by show 2 ≤ sizeLine; decide, fun p hp => k _ p (sm.free hp) (fun x o hx => by
          rw [upd_ne (ne_of_none (sm _ _ hx) hp)]
          exact sm _ _ hx) ⟨z, b, upd_same, hz, b0, b1⟩⟩
        refine ite2 (fun hc => ?_) (fun hc => ?_)
        · walk_at "wn"
          exact fin _ (by split <;> omega)
        · walk_at "wn"
          exact fin 0 (by decide)
theorem scTake : FnScope ["_law_bag_here", "_law_many", "_law_digit"] ["_law_bag_here", "_law_many"] (defScope sTake) := ⟨rfl, rfl, rfl, by decide +kernel, rfl, by decide +kernel, by decide +kernel⟩
theorem okTake {f : Addr} {fd : FuncData} (F : Fun K "_law_take" "_law_take" sTake f fd) (T : DrawTxt mg) : FnOk P w K mg base CX0 1 f fd ["_law_bag_here", "_law_many"] spTake := by
  refine F.ok scTake (fun vs H Q E h => ?_) (fun cdv A outer s H vs Q E hr h => ?_)
  · obtain ⟨a, m, rfl, _⟩ := h
    rfl
  · obtain ⟨p, m, rfl, ⟨a, b, hp, a0, b0, b1⟩, m0, m1, k⟩ := h
    refine ⟨_, pss_cons (ps_if (pt_cmpR op_gt (pe_ix ix_list (pv 0) pe_int (fun _ _ => rfl)) pe_int (nomark _))
        (pss_cons (ps_set (i := 2) scTake.nd rfl (Or.inl rfl) (pe_op op_mod (pe_callTy cInt1 (by rfl) T.int PyProof.Rows.boot_int (pa_cons (pe_ix ix_list (pv 0) pe_int (fun _ _ => rfl)) pa_nil)) (pv 1)))
        (pss_cons (ps_asg (pe_op op_fdivW (pe_ix ix_list (pv 0) pe_int (fun _ _ => rfl)) (pv 1)) (pg_sub (pv 0) pe_int set_list))
        (pss_one (ps_ret (pv 2))))) pss_nil)
      (pss_cons (ps_asg (pe_op op_mod (pe_callTy cInt1 (by rfl) T.int PyProof.Rows.boot_int (pa_cons (pe_op op_add (pe_op op_mul (pe_ix ix_list (pv 0) pe_int (fun _ _ => rfl)) pe_int) pe_int) pa_nil)) pe_int) (pg_sub (pv 0) pe_int set_list))
      (pss_one (ps_ret (pe_op op_mod (pe_op op_fdivW (pe_op op_mod (pe_callTy cInt1 (by rfl) T.int PyProof.Rows.boot_int (pa_cons (pe_op op_mul (pe_op op_fdivW (pe_ix ix_list (pv 0) pe_int (fun _ _ => rfl)) pe_int) pe_int) pa_nil)) pe_int) pe_int) (pv 1))))), ?_⟩
    walk_at "wn"
    refine ite2 (fun hc => ?_) (fun hc => ?_)
    · walk_at "wn"
      refine k _ _ (Int.emod_nonneg _ (by omega)) (Int.emod_lt_of_pos _ m0) (fun x hx => upd_ne hx) ⟨_, _, upd_same, Int.ediv_nonneg a0 (by omega), b0, b1⟩
    · walk_at "wn"
      refine k _ _ (Int.emod_nonneg _ (by omega)) (Int.emod_lt_of_pos _ m0) (fun x hx => upd_ne hx) ⟨_, _, upd_same, a0, by omega, by omega⟩
theorem scOf : FnScope ["_law_bag_here", "_law_some"] ["_law_bag_here", "_law_some"] (defScope sOf) := ⟨rfl, rfl, rfl, by decide +kernel, rfl, by decide +kernel, by decide +kernel⟩
theorem okOf {f fT : Addr} {fd fdT : FuncData} (F : Fun K "_law_of" "_law_of" sOf f fd) (T : DrawTxt mg) (FT : Fun K "_law_take" "_law_take" sTake fT fdT) (gT : mg "_law_take" = some (.ref fT)) (bT : Binds K fdT ["_law_bag_here", "_law_many"] []) : FnOk P w K mg base CX0 2 f fd ["_law_bag_here", "_law_some"] (spOf K) := by
  have GT : FnOk P w K mg base CX0 1 fT fdT ["_law_bag_here", "_law_many"] spTake := okTake FT T
  refine F.ok scOf (fun vs H Q E h => ?_) (fun cdv A outer s H vs Q E hr h => ?_)
  · obtain ⟨a, l, xs, rfl, _⟩ := h
    rfl
  · obtain ⟨p, l, xs, rfl, hb, hx, hl, l0, l1, k⟩ := h
    refine ⟨_, pss_one (ps_ret (pe_ix ix_seq (pv 1) (pe_call GT hr (by rfl) gT FT.kp bT .nil pass0 (pa_cons (pv 0) (pa_cons (pe_callB cLenQ (by rfl) T.len PySem.boot_len (pa_cons (pv 1) pa_nil)) pa_nil))) (fun _ _ => rfl))), ?_⟩
    walk_at "wn"
    refine ⟨l, xs, rfl, .inl hx, ?_⟩
    walk_at "wn"
    refine ⟨p, _, rfl, hb, by omega, by omega, fun i H1 i0 i1 he hb1 => ?_⟩
    obtain ⟨j, rfl⟩ := Int.eq_ofNat_of_zero_le i0
    have hj : j < xs.length := by omega
    exact .inl ⟨l, xs, _, xs[j], rfl, rfl, seq_at (he l hl) hx, atI_nat (List.getElem?_eq_getElem hj), k j _ H1 (List.getElem?_eq_getElem hj) he hb1⟩
end

/-! several except clauses, each of which names what it caught -/
structure HdA where
  c : Value
  i : Nat
  ts : Addr → Value → Option Addr → TS
def wAll (K : PySem.W.Frag) (Wz : WX) (D : Ends) : List HdA → WX
  | [] => Wz
  | h :: r => wAs K h.c h.i h.ts (wAll K Wz D r) D
inductive HdsA (X : Cx) : List ExceptHandler → List HdA → Prop
  | nil : HdsA X [] []
  | cons {x n : Str} {c : Value} {i : Nat} {ts : Addr → Value → Option Addr → TS} {b1 : Stmt} {suite : List Stmt} {np pos1 : Pos} {hds : List ExceptHandler} {l : List HdA} (hi : X.N[i]? = some n) (hln : X.env.kindOf n = some .local) (hc : Names X x c)
      (hsu : ∀ (a : Addr) (oe : Obj) (cls : Value) (d : Option Addr) (pn : List (Addr × Obj)), Zc cls d oe → (∃ us, oe.data = .fields us) → PSs (X.suite a ((a, oe) :: pn)) (b1 :: suite) (ts a cls d)) (r : HdsA X hds l) : HdsA X (.ExceptHandler (some (.Name x np)) (some n) (b1 :: suite) pos1 :: hds) (⟨c, i, ts⟩ :: l)
section
variable {X : Cx} {body : List Stmt} {h1 : ExceptHandler} {hds : List ExceptHandler} {l : List HdA} {pos : Pos} {tb : WX → TS} {Wz : WX}
theorem ps_try_all (hs : X.stack = X.env :: X.outer) (hf : X.env.frame = some X.env.locals) (nd : X.N.Nodup) (tk : Takes X Wz) (hb : ∀ (W : WX) (pn : List (Addr × Obj)) (xe : Value → Shared → Prop), Takes (X.tr pn xe) W → PassesOwn (model X.prog X.w) X.A X.env xe → PSs (X.tr pn xe) body (tb W))
    (hh : HdsA X (h1 :: hds) l) : PS X (.Try body (h1 :: hds) [] [] pos) (fun D σ H => tb (wAll X.K Wz D l) D σ H) := by
  constructor
  intro pins s σ H D I h
  have ok := I.ok
  have frs1 : X.A.frames = some (X.env :: X.outer) := ok.frames.trans (by rw [hs])
  refine wpAny_Try_except (wpAny_mono ((hb (wAll X.K Wz D l) (X.pn ++ pins) (fun e s₁ => wpAny (model X.prog X.w) X.A (noteFrame e X.env) (fun _ s₂ => wpAny (model X.prog X.w) X.A (setFlight e none) (fun _ s₃ => wpAny (model X.prog X.w) X.A (handleBy e X.env (h1 :: hds)) (SP X pins D) X.xe s₃) X.xe s₂) X.xe s₁) (fun u s' xx => ?_) PassesOwn.looking).run [] s σ H D (I.toTry _) h) (fun f s1 hsp => ?_) (fun e s1 he => he))
  · obtain ⟨a, B, sI, pins1, σ1, H1, cls, d, rfl, Jt, nb, up, sky, na, os, ag, w⟩ := xx
    have J : Inv X pins σ1 H1 sI := Jt.ofTry ok
    rw [hs] at sky
    show wpAny (model X.prog X.w) X.A (noteFrame (.ref a) X.env) _ _ _
    refine Sky.land Zc.steady frs1 hf sky fun h3 fl3 up3 => ?_
    have J3 : Inv X pins σ1 H1 { s' with heap := h3 } := J.landed nb fl3.1 (up.trans up3) os ag
    obtain ⟨oe3, vs3, he3, hz3, hd3⟩ := fl3.there
    have nfr : a ∉ frs (X.env :: X.outer) := fun hm => by
      obtain ⟨_, o1, e1, hnf⟩ := fl3.2.2.1.mem hm
      rw [he3] at e1
      cases e1
      exact hnf _ hd3
    have nL : a ≠ X.env.locals := fun z => nfr (List.mem_filterMap.mpr ⟨X.env, List.mem_cons_self, hf.trans (by rw [z])⟩)
    have nF : a ∉ X.fs := fun hm => by
      obtain ⟨e1, he1, q⟩ := List.mem_filterMap.mp hm
      exact nfr (List.mem_filterMap.mpr ⟨e1, List.mem_cons_of_mem _ he1, q⟩)
    have S3 := J3.suite he3 hd3 na nL nF
    have go : ∀ {hs2 : List ExceptHandler} {l2 : List HdA}, HdsA X hs2 l2 → wAll X.K Wz D l2 cls d σ1 H1 → wpAny (model X.prog X.w) X.A (handleBy (.ref a) X.env hs2) (SP X pins D) X.xe { s' with heap := h3 } := by
      intro hs2 l2 hk
      induction hk with
      | nil =>
        intro w
        obtain ⟨k1, k2, k3, oe, vs, T, oT, tsx, he, hz, hd, hT, hr⟩ := id fl3
        refine wpAny_handleBy_nil ?_
        unfold PySem.passOn
        refine wpAny_bind (wpAny_field he hd hT ?_)
        rw [if_neg (show ¬ ((Value.ref T == Value.none) = true) from by simp)]
        have fin : wpAny (model X.prog X.w) X.A (setFlight (.ref a) X.env.frame) (fun _ s4 => wpAny (model X.prog X.w) X.A (throw (.ref a) : Sem Flow) (SP X pins D) X.xe s4) X.xe { s' with heap := h3 } := by
          rw [hf]
          refine HandSPX.setFlight_upZ fl3 fun h4 hh4 up4 => wpAny_throw (tk _ _ ⟨a, B, sI, pins, σ1, H1, cls, d, rfl, J, nb, (up.trans up3).trans up4, .inr (.inr (by rw [hs]; exact hh4)), na, os, ag, w⟩)
        first
          | exact wpAny_bind (wpAny_pure (wpAny_bind fin))
          | exact wpAny_bind fin
      | @cons x n c i ts b1 suite np pos1 hds2 l3 hi hln hc hsu r ih =>
        rintro ⟨b, hb1, hyes, hno⟩
        refine wpAny_handleBy_cons (codeAny_handlers_test ?_) (by intro q; cases q)
        have LT : PySem.W.Looks (model X.prog X.w) h3 (typeOf (.ref a)) cls := fun A Q E s k q => wpAny_typeOf_ref (k _ _ he3) (hz3.1.symm ▸ q)
        have LM := PySem.W.exm_one (M := model X.prog X.w) (J3.kIn) LT hb1
        have test : ∀ {Q : Value → Shared → Prop} {E : Value → Shared → Prop}, Q c { s' with heap := h3 } → wpAny (model X.prog X.w) (X.A.mark (some (.ref a))) (eval (.Name x np) X.env) Q E { s' with heap := h3 } := fun {Q E} q => by
          rcases hc with ⟨hg, hdbg, hm | ⟨hm, hv, hnn⟩⟩
          · exact ld_glob (X := X.suite a ((a, oe3) :: (X.pn ++ pins))) S3 hg hm q hdbg
          · exact ld_blt (X := X.suite a ((a, oe3) :: (X.pn ++ pins))) S3 hg hm hv q hnn hdbg
        refine test (LM.here ?_)
        cases b with
        | false =>
          show wpAny _ X.A (handleBy (.ref a) X.env hds2) _ _ _
          exact ih (hno rfl)
        | true =>
          refine codeAny_handlers_suite_as (HandSPX.lands_againZ fl3 fun h4 fl4 up4 => ?_)
          have J4 : Inv X pins σ1 H1 { s' with heap := h4 } := J.landed nb fl4.1 ((up.trans up3).trans up4) os ag
          obtain ⟨oe4, vs4, he4, hz4, hd4⟩ := fl4.there
          have hloc : Loc X.env.scope n := .inl hln
          refine store_ok (X := X.suite a ((a, oe4) :: (X.pn ++ pins))) (v := .ref a) (J4.suite he4 hd4 na nL nF) nd hi hloc rfl (fun s5 S5 => wpAny_mono ((hsu a oe4 cls d (X.pn ++ pins) hz4 ⟨_, hd4⟩).run [] s5 _ H1 _ S5 (hyes rfl a na)) (fun f s6 hsp => ?_) (fun _ _ z => False.elim z)) (.inr hln)
          have gone : ∀ {σ6 : L2.St} {H6 : Hp} {Q : Shared → Prop}, Inv (X.suite a ((a, oe4) :: (X.pn ++ pins))) [] σ6 H6 s6 → (∀ s7, Inv X pins (σ6.set i none) H6 s7 → Q s7) → wpAny (model X.prog X.w) X.A (do bindName X.env n .none; unbindBehindTheSuite X.env n pos1) (fun _ s7 => Q s7) X.xe s6 := fun S6 hq => gone_ok (S6.unsuite ok) nd hi hln hq
          cases f with
          | ret u =>
            obtain ⟨v6, σ6, H6, S6, r6, q6⟩ := hsp
            exact gone S6 fun s7 J7 => ⟨_, _, _, J7, r6, q6⟩
          | _ =>
            obtain ⟨σ6, H6, S6, q6⟩ := hsp
            exact gone S6 fun s7 J7 => ⟨_, _, J7, q6⟩
    exact go hh w
  · cases f with
    | next =>
      obtain ⟨σ1, H1, J1, q⟩ := hsp
      exact wpAny_execs_nil ⟨σ1, H1, J1.ofTry ok, q⟩
    | ret u =>
      obtain ⟨v, σ1, H1, J1, r, q⟩ := hsp
      exact ⟨v, σ1, H1, J1.ofTry ok, r, q⟩
    | _ =>
      obtain ⟨σ1, H1, J1, q⟩ := hsp
      exact ⟨σ1, H1, J1.ofTry ok, q⟩
end

set_option maxHeartbeats 9000000
/-! {x!r} where x is any flat object: some bounded text, whatever repr is under way -/
section
open PySem.Sem
theorem lst_head {M : Model} {A : Around} {E : Value → Shared → Prop} {s : Shared} {Q : Fin → Shared → Prop} {a : Addr} {o : Obj} {x : Value} {l : List Value} {n : Nat} (e1 : s.heap.get? a = some o) (e2 : o.data = .seq (x :: l).toArray n)
    (k1 : ∀ u tk, Q (.done (.ret (.str "[...]" u))) { s with toks := tk }) (k2 : wpAny M A (do again (.builtin "list.__repr__.loop" ⟨[.ref a, rawInt 0, ← newList [], rawInt 0], []⟩)) Q E s) : wpAny M A (Builtin.listReprAt 0 ⟨[.ref a], []⟩) Q E s := by
  have y1 : wpAny M A (do rule "list.__repr__.in-itself"; retStr "[...]") Q E s := wpAny_bind (wpAny_rule (wpAny_bind (wpAny_mkStr (wpAny_pure (k1 _ _)) (by decide +kernel))))
  intro Γ p hΓ
  have z1 := y1 Γ p hΓ
  have z2 := k2 Γ p hΓ
  unfold Builtin.listReprAt
  simp [slotArgs, Builtin.List.listItems, seqItems?, wp_load_of (h := e1), e2, PySem.stack]
  show wp M Γ (if (Γ.below.any _) = true then _ else _) _ _ p s
  split
  · exact z1
  · exact z2
end
section
variable {prog : Program} {w : World} {A : Around} {E : Value → Shared → Prop} {s : Shared}
theorem lst_any {Q : Value → Shared → Prop} {a : Addr} {oa : Obj} {x : Value} {l : List Value} {na : Nat} {ts : List Str} (hu : A.units < cLine) (hc : oa.cls = .type "list") (ha : s.heap.get? a = some oa) (hda : oa.data = .seq (x :: l).toArray na) (hT : ReprAll prog w (x :: l) ts) (hsz : (listText ts).length ≤ 9000)
    (h : ∀ (m : Str) h' u tk, m.length ≤ 9000 → (∀ b o, s.heap.get? b = some o → h'.get? b = some o) → Q (.str m u) { s with heap := h', toks := tk }) : wpAny (model prog w) A (pyReprObj (.ref a)) Q E s := by
  have big : 9000 ≤ sizeLine := by rw [sizeLine_eq]; decide
  have hlen : ts.length = (x :: l).toArray.size := by rw [hT.length_eq]; simp
  have hall : ∀ (i : Nat) (y : Value), (x :: l).toArray[i]? = some y → ∃ t, ts[i]? = some t ∧ ReprIs prog w y t := by
    have go : ∀ {vs : List Value} {us : List Str}, ReprAll prog w vs us → ∀ (i : Nat) (y : Value), vs[i]? = some y → ∃ t, us[i]? = some t ∧ ReprIs prog w y t := by
      intro vs us hv
      induction hv with
      | nil => intro i y e; simp at e
      | cons r _ ih =>
        intro i y e
        cases i with
        | zero =>
          cases e
          exact ⟨_, rfl, r⟩
        | succ i => exact ih i y e
    intro i y e
    exact go hT i y (by simpa using e)
  refine wpAny_pyReprObj_slot hu ⟨oa, ha, hc⟩ F.slot_list_repr.toG (wpAny_call (codeAny_call_builtin F.slot_list_repr.plain F.entry_list_repr (F.slot_list_repr.check _ _ _ _ _ _ _ _ ⟨oa, ha, hc⟩ (F.args_list_repr_1 _) ?_)))
  refine lst_head (A := A.in1) ha hda (fun u tk => ⟨_, _, rfl, h "[...]" s.heap u tk (by decide +kernel) fun _ _ e => e⟩) ?_
  refine wpAny_bind (m := newList []) (wpAny_newObj_type (wpAny_pure ⟨F.quiet_list_repr_loop _, ?_⟩))
  exact codeAny_list_repr_start (P := s.heap.objs.size) (Nat.ne_of_lt (Heap.lt_size ha)) hlen hall (Heap.get?_push_of_some _ ha) hda (Heap.get?_push_size _ rfl) (fun h' u tk hk => ⟨_, _, rfl, h _ h' u tk hsz fun b o e => hk b o (Nat.ne_of_lt (Heap.lt_size e)) (Heap.get?_push_of_some _ e)⟩) (by show 0 + (listText ts).length ≤ sizeLine; omega)
theorem tup_any {Q : Value → Shared → Prop} {a : Addr} {oa : Obj} {items : Array Value} {na : Nat} {ts : List Str} (hu : A.units < cLine) (hc : oa.cls = .type "tuple") (ha : s.heap.get? a = some oa) (hda : oa.data = .seq items na) (hT : ReprAll prog w items.toList ts) (hsz : (tupleText ts).length ≤ 8990)
    (h : ∀ (m : Str) u tk, m.length ≤ 9000 → Q (.str m u) { s with toks := tk }) : wpAny (model prog w) A (pyReprObj (.ref a)) Q E s := by
  have big : 9000 ≤ sizeLine := by rw [sizeLine_eq]; decide
  exact wpAny_pyReprObj_slot hu ⟨oa, ha, hc⟩ F.slot_tuple_repr (fmt_tuple_repr ha hc hda hT (by omega) fun m u tk hm => ⟨_, _, rfl, h m u tk (by omega)⟩)
end
/-- a flat object: what a number, a process, a limit may be in the place of one -/
inductive Flat (H : Hp) : V → Prop
  | non : Flat H .non
  | bl (b : Bool) : Flat H (.bl b)
  | int (i : Int) : i.natAbs.log2 < 1920 → Flat H (.int i)
  | str (y : Str) : y.length ≤ 100 → (y.cps.toList.all fun c => decide (c < 16 ^ 8)) = true → Flat H (.str y)
  | tup (a : Addr) (l : List Int) : l.length ≤ 3 → (∀ i ∈ l, i.natAbs.log2 < 1920) → H a = some (.tup (l.map V.int)) → Flat H (.ref a)
  | lst (a : Addr) (i : Int) (l : List Int) : l.length ≤ 2 → (∀ j ∈ i :: l, j.natAbs.log2 < 1920) → H a = some (.lst ((i :: l).map V.int)) → Flat H (.ref a)
theorem ReprAll.ints {prog : Program} {w : World} : ∀ {l : List Int} {its : List Value}, Vals (l.map V.int) its → (∀ i ∈ l, i.natAbs.log2 < 1920) → ReprAll prog w its (l.map fun i => (toString i : String))
  | [], _, r, _ => by
    cases r
    exact .nil
  | i :: l, _, r, h => by
    cases r with
    | cons r1 r2 =>
      obtain ⟨t, rfl⟩ := r1
      exact .cons (ReprIs.int t (h i List.mem_cons_self)) (ReprAll.ints r2 fun j hj => h j (List.mem_cons_of_mem _ hj))
theorem ints_len : ∀ (l : List Int), (∀ i ∈ l, i.natAbs.log2 < 1920) → ((l.map fun i => ((toString i : String) : Str)).map (·.length)).sum ≤ 2000 * l.length
  | [], _ => Nat.le_refl _
  | i :: l, h => by
    have e := int_text_length_le (k := 1920) (by decide) (h i List.mem_cons_self)
    have ih := ints_len l fun j hj => h j (List.mem_cons_of_mem _ hj)
    simp only [List.map_cons, List.sum_cons, List.length_cons]
    rw [PySem.ofString_length]
    omega
def tFmtO (te : TE) : TE := fun σ H Q => te σ H fun x H1 => Flat H1 x ∧ ∀ m : Str, m.length ≤ 9000 → Q (.str m) H1
theorem pe_fmtO {X : Cx} {e : Expr} {te : TE} {pos : Pos} {k : Nat} (hr : Room k X.A) (he : PE X e te) : PE X (.FormattedValue e 114 none pos) (tFmtO te) := by
  refine ⟨fun pins s σ H Q I h => wpAny_FormattedValue_repr (thn (he.run pins s σ H _ I h) fun v s1 hv => ?_)⟩
  obtain ⟨x, H1, I1, r1, fl, q⟩ := hv
  have hu : X.A.units < cLine := by have := hr.units; omega
  have big : 9000 ≤ sizeLine := by rw [sizeLine_eq]; decide
  have fin : ∀ {m : Str} {u : Tok} {s2 : Shared}, m.length ≤ 9000 → (∀ tk, Inv X pins σ H1 { s2 with toks := tk }) → Inv X pins σ H1 s2 → wpAny (model X.prog X.w) X.A (formatField (.str m u) Str.empty) (EP X pins σ Q) X.xe s2 := fun {m u s2} hm J1 J2 =>
    wpAny_formatField_str ⟨.str m, H1, J2, ⟨_, rfl⟩, q m hm⟩ ⟨.str m, H1, J1 _, ⟨_, rfl⟩, q m hm⟩ (by omega)
  cases fl with
  | non =>
    cases r1
    exact pyReprObj_none (fin (by decide +kernel) (fun tk => I1.tok _) (I1.tok _))
  | bl b =>
    cases r1
    exact pyReprObj_bool (fin (by cases b <;> decide +kernel) (fun tk => I1.tok _) (I1.tok _))
  | int i hi =>
    obtain ⟨t, rfl⟩ := r1
    have e := int_text_length_le (k := 1920) (by decide) hi
    exact pyReprObj_int hi (fin (by rw [PySem.ofString_length]; omega) (fun tk => I1.tok _) (I1.tok _))
  | str y hy h2 =>
    obtain ⟨t, rfl⟩ := r1
    have hl := StrLaws.reprText_len y fun c hc => of_decide_eq_true (List.all_eq_true.mp h2 c hc)
    exact pyReprObj_str (fin (by omega) (fun tk => I1.tok _) (I1.tok _)) (by omega)
  | tup a l hl hi ht =>
    cases r1
    obtain ⟨its, rv, ⟨o, ho, hc, n, hd⟩, _⟩ := I1.tuple (SqT.of ht)
    have ra := ReprAll.ints (prog := X.prog) (w := X.w) rv hi
    have e := tupleText_len_le (l.map fun i => ((toString i : String) : Str))
    have e2 := ints_len l hi
    rw [List.length_map] at e
    exact tup_any (ts := l.map fun i => ((toString i : String) : Str)) hu hc ho hd (by simpa using ra) (by omega) fun m u tk hm => fin hm (fun tk => I1.tok _) (I1.tok _)
  | lst a i l hl hi hs =>
    cases r1
    obtain ⟨its, rv, ⟨o, n, ho, hc, _, hd⟩, _⟩ := I1.list (SqL.of hs)
    have ra := ReprAll.ints (prog := X.prog) (w := X.w) rv hi
    have e := listText_len_le ((i :: l).map fun i => ((toString i : String) : Str))
    have e2 := ints_len (i :: l) hi
    rw [List.length_map, List.length_cons] at e
    rw [List.length_cons] at e2
    cases rv with
    | cons rv1 rv2 => exact lst_any hu hc ho hd ra (by omega) fun m h' u tk hm hk => fin hm (fun tk => I1.kept hk) (I1.kept hk)
theorem Flat.same {H H' : Hp} {v : V} (f : Flat H v) (s : Same H H') : Flat H' v := by
  cases f with
  | non => exact .non
  | bl b => exact .bl b
  | int i h => exact .int i h
  | str y h h2 => exact .str y h h2
  | tup a l h1 h2 h3 => exact .tup a l h1 h2 (s _ _ h3)
  | lst a i l h1 h2 h3 => exact .lst a i l h1 h2 (s _ _ h3)
/-- any object that is asked whether it is an integer -/
inductive Ob (H : Hp) : V → Prop
  | non : Ob H .non
  | bl (b : Bool) : Ob H (.bl b)
  | int (i : Int) : Ob H (.int i)
  | str (y : Str) : Ob H (.str y)
  | tup (a : Addr) (xs : List V) : H a = some (.tup xs) → Ob H (.ref a)
  | lst (a : Addr) (xs : List V) : H a = some (.lst xs) → Ob H (.ref a)
theorem Flat.ob {H : Hp} {v : V} (f : Flat H v) : Ob H v := by
  cases f with
  | non => exact .non
  | bl b => exact .bl b
  | int i h => exact .int i
  | str y h h2 => exact .str y
  | tup a l h1 h2 h3 => exact .tup a _ h3
  | lst a i l h1 h2 h3 => exact .lst a _ h3
def isI : V → Bool
  | .int _ => true
  | _ => false
def inB : V → Int → Int → Bool
  | .int i, a, b => decide (a ≤ i) && decide (i ≤ b)
  | _, _, _ => false

def clsBody : Stmt → List Stmt
  | .ClassDef _ _ _ b _ _ _ _ _ _ _ => b
  | _ => []
def meth (i j : Nat) : Stmt := (clsBody (top i)).getD j (.Pass ⟨0, 0, 0, 0⟩)
abbrev sIsInteger : Stmt := top 11
abbrev sIsBetween : Stmt := top 12
/-! own __contains__ -/
def rOwnNotIn (C : Addr) (sp : Sp) : R2 := fun x y H Q => ∃ a dx fs, y = .ref a ∧ H a = some (.ins C dx fs) ∧ sp [.ref a, x] H (fun v H' => ∃ b, v = .bl b ∧ Q (.bl (!b)) H') fun _ _ _ => False
theorem op_ownNotIn {X : Cx} {CX : CXT} {k : Nat} {C f : Addr} {fd : FuncData} {ps : List Str} {sp : Sp} (F : FnOk X.prog X.w X.K X.mg X.base CX k f fd ps sp) (hr : Room k X.A)
    (hs : PySem.W.findIn X.K (.ref C) "__contains__" = some (some (.ref f))) (hf : PySem.W.isFn X.K (.ref f) = true) (hb : Binds X.K fd ps []) (hx : Passes CX X fun _ _ _ => False) : OpR X (compareOp .NotIn) (rOwnNotIn C sp) := by
  intro pins s σ H x y v u Q I rx ry d
  obtain ⟨a, dx, fs, rfl, ha, hsp⟩ := d
  cases ry
  obtain ⟨mA, J, _⟩ := ins_get I.hok ha
  obtain ⟨od, J, _⟩ := J.look
  obtain ⟨m, hF⟩ := I.fr
  refine PySem.W.notIn_K hF I.ok.mod.kin J hs hf ?_
  have hl := F.len _ _ _ _ hsp
  have r2 : Vals [V.ref a, x] [Value.ref a, v] := .cons rfl (.cons rx .nil)
  refine wpAny_call (codeAny_mono (F.run X.A X.stack s H ⟨[.ref a, v], []⟩ [.ref a, v] [.ref a, x] _ _ hr I.env0 (by
    have := hb s [.ref a, v] I.kIn (by simpa using hl)
    simpa using this) r2 hsp) fun r s' hq => ?_)
  cases r with
  | error e => exact hx pins σ H s e s' I hq
  | ok fl =>
    cases fl with
    | ret w =>
      obtain ⟨z, H', I', rz, b, ez, q⟩ := I.after hq
      subst ez
      cases rz
      exact wpAny_truthy_bool ⟨.bl (!b), H', I', rfl, q⟩
    | next => exact False.elim hq
    | brk => exact False.elim hq
    | cont => exact False.elim hq
section
variable {P : Program} {w : World} {K : PySem.W.Frag} {mg : Str → Option Value} {base : Heap}
structure ChkTxt (K : PySem.W.Frag) (mg : Str → Option Value) : Prop where
  isin : mg "isinstance" = none
  int : mg "int" = none
  bool : mg "bool" = none
def spIsInteger : Sp := fun vs H Q _ => ∃ x : V, vs = [x] ∧ Ob H x ∧ Q (.bl (isI x)) H
theorem scIsInteger : FnScope ["x"] ["x"] (defScope sIsInteger) := ⟨rfl, rfl, rfl, by decide +kernel, rfl, by decide +kernel, by decide +kernel⟩
theorem okIsInteger {f : Addr} {fd : FuncData} (F : Fun K "is_integer" "is_integer" sIsInteger f fd) (T : ChkTxt K mg) : FnOk P w K mg base CX0 1 f fd ["x"] spIsInteger := by
  refine F.ok scIsInteger (fun vs H Q E h => ?_) (fun cdv A outer s H vs Q E hr h => ?_)
  · obtain ⟨x, rfl, _⟩ := h
    rfl
  · obtain ⟨x, rfl, ob, k⟩ := h
    refine ⟨_, pss_one (ps_ret (pe_and (pe_callB call_isi (by rfl) T.isin PyProof.Rows.boot_isinstance (pa_cons (pv 0) (pa_cons (pe_bltn (v := .ty "int") (by rfl) T.int PyProof.Rows.boot_int rfl) pa_nil))) (pe_one (pe_not (pe_callB call_isi (by rfl) T.isin PyProof.Rows.boot_isinstance (pa_cons (pv 0) (pa_cons (pe_bltn (v := .ty "bool") (by rfl) T.bool (by decide +kernel) rfl) pa_nil))))))), ?_⟩
    cases ob with
    | int i =>
      refine ⟨_, rfl, _, _, _, _, true, rfl, .ty "int", .base (.int i), kit_ty (by decide +kernel), ?_⟩
      refine ⟨_, rfl, _, rfl, _, _, _, _, false, rfl, .ty "bool", .base (.int i), kit_ty (by decide +kernel), ?_⟩
      exact ⟨_, rfl, k⟩
    | bl b =>
      refine ⟨_, rfl, _, _, _, _, true, rfl, .ty "int", .base (.bl b), kit_ty (by decide +kernel), ?_⟩
      refine ⟨_, rfl, _, rfl, _, _, _, _, true, rfl, .ty "bool", .base (.bl b), kit_ty (by decide +kernel), ?_⟩
      exact ⟨_, rfl, k⟩
    | non =>
      refine ⟨_, rfl, _, _, _, _, false, rfl, .ty "int", .base .non, kit_ty (by decide +kernel), ?_⟩
      exact ⟨_, rfl, k⟩
    | str y =>
      refine ⟨_, rfl, _, _, _, _, false, rfl, .ty "int", .base (.str y), kit_ty (by decide +kernel), ?_⟩
      exact ⟨_, rfl, k⟩
    | tup a xs ha =>
      refine ⟨_, rfl, _, _, _, _, false, rfl, .ty "int", .base (.tup ha), kit_ty (by decide +kernel), ?_⟩
      exact ⟨_, rfl, k⟩
    | lst a xs ha =>
      refine ⟨_, rfl, _, _, _, _, false, rfl, .ty "int", .base (.lst ha), kit_ty (by decide +kernel), ?_⟩
      exact ⟨_, rfl, k⟩
def spIsBetween : Sp := fun vs H Q _ => ∃ (x : V) (a b : Int), vs = [x, .int a, .int b] ∧ Ob H x ∧ Q (.bl (inB x a b)) H
theorem scIsBetween : FnScope ["x", "least", "most"] ["x", "least", "most"] (defScope sIsBetween) := ⟨rfl, rfl, rfl, by decide +kernel, rfl, by decide +kernel, by decide +kernel⟩
theorem okIsBetween {f fI : Addr} {fd fdI : FuncData} (F : Fun K "is_between" "is_between" sIsBetween f fd) (GI : FnOk P w K mg base CX0 1 fI fdI ["x"] spIsInteger) (kI : PySem.W.keepIn K (.ref fI) = true) (gI : mg "is_integer" = some (.ref fI)) (bI : Binds K fdI ["x"] []) :
    FnOk P w K mg base CX0 2 f fd ["x", "least", "most"] spIsBetween := by
  refine F.ok scIsBetween (fun vs H Q E h => ?_) (fun cdv A outer s H vs Q E hr h => ?_)
  · obtain ⟨x, y, z, rfl, _⟩ := h
    rfl
  · obtain ⟨x, a, b, rfl, ob, k⟩ := h
    refine ⟨_, pss_one (ps_ret (pe_and (pe_call GI hr (by rfl) gI kI bI .nil pass0 (pa_cons (pv 0) pa_nil)) (pe_one (pe_chain op_le op_le (pv 1) (pv 0) (pv 2))))), ?_⟩
    walk_at "wn"
    refine ⟨x, rfl, ob, ?_⟩
    walk_at "wn"
    by_cases hi : ∃ i, x = .int i
    · obtain ⟨i, rfl⟩ := hi
      refine ⟨_, rfl, _, rfl, a, i, rfl, rfl, _, rfl, ?_⟩
      have k : Q (.bl (decide (a ≤ i) && decide (i ≤ b))) H := k
      refine ite2 (fun hc => ?_) (fun hc => ?_)
      · rw [hc, Bool.true_and] at k
        exact ⟨_, rfl, i, b, rfl, rfl, k⟩
      · rw [Bool.eq_false_iff.mpr hc, Bool.false_and] at k
        exact k
    · have e : isI x = false := by cases x <;> first | rfl | exact absurd ⟨_, rfl⟩ hi
      have e2 : inB x a b = false := by cases x <;> first | rfl | exact absurd ⟨_, rfl⟩ hi
      rw [e2] at k
      rw [e]
      exact k
end

/-! the classes of the program -/
structure ClsF (K : PySem.W.Frag) (C : Addr) (fs : List Str) : Prop where
  cl : Cls K C
  no : ∀ f ∈ fs, NoAttr K C f
abbrev wsF : List Str := ["entries", "queue"]
def wsO (C dx e q : Addr) : HO := .ins C dx [("entries", .ref e), ("queue", .ref q)]
abbrev sysF : List Str := ["process_limit", "number_limit", "tables", "sources", "sets", "next_thing"]
theorem Same.new' {H : Hp} {l : Addr} {o : HO} (hl : H l = none) : Same H (upd H l o) := fun b u e => by rw [upd_ne (ne_of_none e hl)]; exact e
def entKV (ls : List Int) (ad : Int → Addr) : List (Key × V) := ls.map fun l => (Sum.inl l, .ref (ad l))
theorem ent_val (ls : List Int) (ad : Int → Addr) (l : Int) : valV (entKV ls ad) (Sum.inl l) = if l ∈ ls then some (.ref (ad l)) else none := by
  induction ls with
  | nil => rfl
  | cons x ls ih =>
    unfold entKV at ih ⊢
    rw [List.map_cons]
    by_cases h : x = l
    · subst h
      rw [valV_pos rfl, if_pos List.mem_cons_self]
    · rw [valV_neg (fun z => h (Sum.inl.inj z)), ih]
      by_cases h2 : l ∈ ls
      · rw [if_pos h2, if_pos (List.mem_cons_of_mem _ h2)]
      · rw [if_neg h2, if_neg fun z => (List.mem_cons.mp z).elim (fun e => h e.symm) h2]
theorem ent_put (ls : List Int) (ad : Int → Addr) (l : Int) (b : Addr) : putK (entKV ls ad) (Sum.inl l) (.ref b) = entKV (if l ∈ ls then ls else ls ++ [l]) (fun j => if j = l then b else ad j) := by
  unfold putK
  rw [valV_any, ent_val]
  by_cases h : l ∈ ls
  · rw [if_pos h, if_pos h]
    show List.map _ (entKV ls ad) = _
    unfold entKV
    rw [List.map_map]
    refine List.map_congr_left fun x _ => ?_
    by_cases e : x = l
    · show (if (Sum.inl x : Key) = Sum.inl l then _ else _) = _
      rw [if_pos (by rw [e])]
      show (_, V.ref b) = (_, V.ref (if x = l then b else ad x))
      rw [if_pos e]
    · show (if (Sum.inl x : Key) = Sum.inl l then _ else _) = _
      rw [if_neg (fun z => e (Sum.inl.inj z))]
      show _ = (_, V.ref (if x = l then b else ad x))
      rw [if_neg e]
  · rw [if_neg h, if_neg h]
    show entKV ls ad ++ _ = _
    unfold entKV
    rw [List.map_append]
    have e1 : ls.map (fun j => ((Sum.inl j : Key), V.ref (if j = l then b else ad j))) = ls.map fun j => (Sum.inl j, V.ref (ad j)) := List.map_congr_left fun x hx => by rw [if_neg fun z : x = l => h (by rw [← z]; exact hx)]
    rw [e1]
    congr 1
    show [(_, V.ref b)] = [(_, V.ref (if l = l then b else ad l))]
    rw [if_pos rfl]
abbrev sWsInit : Stmt := meth 15 0
section
variable {P : Program} {w : World} {K : PySem.W.Frag} {mg : Str → Option Value} {base : Heap} {CW : Addr}
def spWsInit (CW : Addr) : Sp := fun vs H Q _ => ∃ (a dx : Addr), vs = [.ref a] ∧ H a = some (.ins CW dx []) ∧
  ∀ H' e q, H e = none → H q = none → H' e = some (.dK []) → H' q = some (.lst []) → H' a = some (wsO CW dx e q) → (∀ b, b ≠ a → b ≠ e → b ≠ q → H' b = H b) → Q .non H'
theorem scWsInit : FnScope ["self"] ["self"] (defScope sWsInit) := ⟨rfl, rfl, rfl, by decide +kernel, rfl, by decide +kernel, by decide +kernel⟩
theorem okWsInit {f : Addr} {fd : FuncData} (F : Fun K "__init__" "WaitingSet.__init__" sWsInit f fd) (T : ClsF K CW wsF) : FnOk P w K mg base CX0 1 f fd ["self"] (spWsInit CW) := by
  refine F.ok scWsInit (fun vs H Q E h => ?_) (fun cdv A outer s H vs Q E hr h => ?_)
  · obtain ⟨_, _, rfl, _⟩ := h
    rfl
  · obtain ⟨a, dx, rfl, ha, k⟩ := h
    refine ⟨_, pss_cons (ps_fld (pv 0) pe_dnewK rfl) (pss_one (ps_fld (pv 0) (pe_lst pa_nil) rfl)), ?_⟩
    intro e he
    have nae : a ≠ e := ne_of_none ha he
    refine ⟨_, rfl, a, CW, dx, _, rfl, by rw [upd_ne nae]; exact ha, T.cl, T.no _ (by decide), by decide, ?_⟩
    refine ⟨Nat.zero_le _, fun q hq => ?_⟩
    have nqa : q ≠ a := fun z => by rw [z, upd_same] at hq; cases hq
    rw [upd_ne nqa] at hq
    have nqe : q ≠ e := fun z => by rw [z, upd_same] at hq; cases hq
    rw [upd_ne nqe] at hq
    refine ⟨_, rfl, a, CW, dx, _, rfl, by rw [upd_ne (Ne.symm nqa)]; exact upd_same, T.cl, T.no _ (by decide), by show 1 < 1000; decide, ?_⟩
    refine k _ e q he hq ?_ ?_ upd_same (fun b h1 h2 h3 => ?_)
    · rw [upd_ne (Ne.symm nae), upd_ne (Ne.symm nqe), upd_ne (Ne.symm nae), upd_same]
    · rw [upd_ne nqa, upd_same]
    · rw [upd_ne h1, upd_ne h3, upd_ne h1, upd_ne h2]
end

abbrev sSysInit : Stmt := meth 19 2
abbrev sNewSource : Stmt := meth 19 4
abbrev sContains : Stmt := meth 19 30
abbrev sTableOf : Stmt := meth 19 32
abbrev sIsTabNum : Stmt := meth 19 33
abbrev sThingAt : Stmt := meth 19 34
abbrev sFreeNum : Stmt := meth 19 37
abbrev sNewThing : Stmt := meth 19 39
/-! a system, its cells and what stands in them -/
inductive Cell
  | box | tabD | srcD | setD
  | tab (p : Int) | srcT (t : Int) | ws (s : Int) | ent (s : Int) | que (s : Int)
  deriving DecidableEq
structure Sys where
  P : Int
  N : Int
  next : Int
  procs : List Int
  tab : Int → List (Option Int)
  srcs : List Int
  unit : Int → Int × Bool
  sets : List Int
def live (S : Sys) : Cell → Prop
  | .box | .tabD | .srcD | .setD => True
  | .tab p => p ∈ S.procs
  | .srcT t => t ∈ S.srcs
  | .ws s | .ent s | .que s => s ∈ S.sets
def optV : Option Int → V
  | none => .non
  | some t => .int t
def sysO (CS dx : Addr) (S : Sys) (t s u : Addr) : HO := .ins CS dx [("process_limit", .int S.P), ("number_limit", .int S.N), ("tables", .ref t), ("sources", .ref s), ("sets", .ref u), ("next_thing", .int S.next)]
structure Cs where
  S : Addr
  W : Addr
def co (C : Cs) (S : Sys) (ad dx : Cell → Addr) : Cell → HO
  | .box => sysO C.S (dx .box) S (ad .tabD) (ad .srcD) (ad .setD)
  | .tabD => .dK (entKV S.procs fun p => ad (.tab p))
  | .srcD => .dK (entKV S.srcs fun t => ad (.srcT t))
  | .setD => .dK (entKV S.sets fun s => ad (.ws s))
  | .tab p => .lst ((S.tab p).map optV)
  | .srcT t => .tup [.int (S.unit t).1, .bl (S.unit t).2]
  | .ws s => wsO C.W (dx (.ws s)) (ad (.ent s)) (ad (.que s))
  | .ent _ => .dK []
  | .que _ => .lst []
structure At (C : Cs) (H : Hp) (S : Sys) (ad dx : Cell → Addr) : Prop where
  at_ : ∀ c, live S c → H (ad c) = some (co C S ad dx c)
  inj : ∀ c c', live S c → live S c' → ad c = ad c' → c = c'
def own (S : Sys) (ad : Cell → Addr) (b : Addr) : Prop := ∃ c, live S c ∧ ad c = b
/-- what lies outside stays; what comes in is new -/
structure Step (H : Hp) (S : Sys) (ad : Cell → Addr) (H' : Hp) (S' : Sys) (ad' : Cell → Addr) : Prop where
  keep : ∀ b o, ¬ own S ad b → H b = some o → H' b = some o
  new : ∀ b, own S' ad' b → own S ad b ∨ H b = none
  box : ad' .box = ad .box
section
variable {C : Cs} {H H' H2 : Hp} {S S' S2 : Sys} {ad ad' ad2 dx dx' : Cell → Addr}
theorem Step.refl : Step H S ad H S ad := ⟨fun _ _ _ z => z, fun _ z => .inl z, rfl⟩
theorem Step.trans (a : Step H S ad H' S' ad') (b : Step H' S' ad' H2 S2 ad2) : Step H S ad H2 S2 ad2 := by
  refine ⟨fun x o n e => b.keep x o (fun z => ?_) (a.keep x o n e), fun x z => ?_, b.box.trans a.box⟩
  · rcases a.new x z with y | y
    · exact n y
    · rw [y] at e
      cases e
  · rcases b.new x z with y | y
    · exact a.new x y
    · cases e : H x with
      | none => exact .inr rfl
      | some o =>
        by_cases w : own S ad x
        · exact .inl w
        · rw [a.keep x o w e] at y
          cases y
theorem Step.same (s : Same H H') : Step H S ad H' S ad := ⟨fun b o _ e => s _ _ e, fun _ z => .inl z, rfl⟩
theorem At.same (A : At C H S ad dx) (s : Same H H') : At C H' S ad dx := ⟨fun c hc => s _ _ (A.at_ c hc), A.inj⟩
theorem At.ne (A : At C H S ad dx) {c c' : Cell} (h : live S c) (h' : live S c') (n : c ≠ c') : ad c ≠ ad c' := fun z => n (A.inj c c' h h' z)
theorem At.new (A : At C H S ad dx) {c : Cell} {l : Addr} (h : live S c) (n : H l = none) : ad c ≠ l := ne_of_none (A.at_ c h) n
/-- where the cells' addresses stay -/
theorem At.re (A : At C H S ad dx) (hl : ∀ c, live S' c ↔ live S c) (h : ∀ c, live S c → (H' (ad c) = some (co C S' ad dx c)) ∨ (co C S' ad dx c = co C S ad dx c ∧ H' (ad c) = H (ad c))) : At C H' S' ad dx := by
  refine ⟨fun c hc => ?_, fun c c' h1 h2 => A.inj c c' ((hl c).mp h1) ((hl c').mp h2)⟩
  have hc := (hl c).mp hc
  rcases h c hc with e | ⟨e1, e2⟩
  · exact e
  · rw [e1, e2]
    exact A.at_ c hc
theorem Step.re (hl : ∀ c, live S' c ↔ live S c) (h : ∀ b o, ¬ own S ad b → H b = some o → H' b = some o) : Step H S ad H' S' ad := ⟨h, fun b ⟨c, h1, h2⟩ => .inl ⟨c, (hl c).mp h1, h2⟩, rfl⟩
end
section
variable {P : Program} {w : World} {K : PySem.W.Frag} {mg : Str → Option Value} {base : Heap} {C : Cs}
structure MO (P : Program) (w : World) (K : PySem.W.Frag) (mg : Str → Option Value) (base : Heap) (k : Nat) (C : Addr) (m : Str) (ps : List Str) (sp : Sp) (f : Addr) (fd : FuncData) : Prop where
  g : FnOk P w K mg base CX0 k f fd ps sp
  m : Meth K C m f
  b : Binds K fd ps []
structure DO (P : Program) (w : World) (K : PySem.W.Frag) (mg : Str → Option Value) (base : Heap) (k : Nat) (x : Str) (ps : List Str) (sp : Sp) (f : Addr) (fd : FuncData) : Prop where
  g : FnOk P w K mg base CX0 k f fd ps sp
  k : PySem.W.keepIn K (.ref f) = true
  m : mg x = some (.ref f)
  b : Binds K fd ps []
/-- a call on a system -/
def OnSys (C : Cs) (vs : List V) (H : Hp) (rest : List V) (k : Sys → (Cell → Addr) → (Cell → Addr) → Prop) : Prop := ∃ (S : Sys) (ad dx : Cell → Addr), vs = .ref (ad .box) :: rest ∧ At C H S ad dx ∧ k S ad dx
def spContains (C : Cs) : Sp := fun vs H Q _ => ∃ p : Int, OnSys C vs H [.int p] fun S _ _ => Q (.bl (decide (p ∈ S.procs))) H
theorem scContains : FnScope ["self", "x"] ["self", "x"] (defScope sContains) := ⟨rfl, rfl, rfl, by decide +kernel, rfl, by decide +kernel, by decide +kernel⟩
theorem okContains {f fI : Addr} {fd fdI : FuncData} (F : Fun K "__contains__" "System.__contains__" sContains f fd) (T : ClsF K C.S sysF) (GI : DO P w K mg base 1 "is_integer" ["x"] spIsInteger fI fdI) : FnOk P w K mg base CX0 2 f fd ["self", "x"] (spContains C) := by
  refine F.ok scContains (fun vs H Q E h => ?_) (fun cdv A outer s H vs Q E hr h => ?_)
  · obtain ⟨_, _, _, _, rfl, _⟩ := h
    rfl
  · obtain ⟨p, S, ad, dx, rfl, A0, k⟩ := h
    have hu := hu_of hr
    refine ⟨_, pss_one (ps_ret (pe_and (pe_call GI.g hr (by rfl) GI.m GI.k GI.b .nil pass0 (pa_cons (pv 1) pa_nil)) (pe_one (pe_cmp (pc_din hu (pv 1) (pe_fld (pv 0) rfl)) rfl)))), ?_⟩
    walk_at "wn"
    refine ⟨_, rfl, .int p, ?_⟩
    walk_at "wn"
    refine ⟨_, rfl, _, rfl, ad .box, C.S, dx .box, _, _, rfl, A0.at_ .box trivial, T.cl, T.no _ (by decide), rfl, ?_⟩
    refine ⟨ad .tabD, _, rfl, DGet.k (k := Sum.inl p) (A0.at_ .tabD trivial), ?_⟩
    rw [ent_val]
    by_cases hp : p ∈ S.procs
    · rw [if_pos hp]
      rw [decide_eq_true hp] at k
      exact k
    · rw [if_neg hp]
      rw [decide_eq_false hp] at k
      exact k
def spTableOf (C : Cs) : Sp := fun vs H Q _ => ∃ p : Int, OnSys C vs H [.int p] fun S ad _ => p ∈ S.procs ∧ Q (.ref (ad (.tab p))) H
theorem scTableOf : FnScope ["self", "process"] ["self", "process"] (defScope sTableOf) := ⟨rfl, rfl, rfl, by decide +kernel, rfl, by decide +kernel, by decide +kernel⟩
theorem okTableOf {f fC : Addr} {fd fdC : FuncData} (F : Fun K "table_of" "System.table_of" sTableOf f fd) (T : ClsF K C.S sysF) (GC : MO P w K mg base 2 C.S "__contains__" ["self", "x"] (spContains C) fC fdC) : FnOk P w K mg base CX0 3 f fd ["self", "process"] (spTableOf C) := by
  refine F.ok scTableOf (fun vs H Q E h => ?_) (fun cdv A outer s H vs Q E hr h => ?_)
  · obtain ⟨_, _, _, _, rfl, _⟩ := h
    rfl
  · obtain ⟨p, S, ad, dx, rfl, A0, hp, k⟩ := h
    have hu := hu_of hr
    refine ⟨_, pss_cons (ps_if (pt_cmpR (op_ownNotIn GC.g hr GC.m.at_ GC.m.fn GC.b pass0) (pv 1) (pv 0) (by rfl)) (pss_one ps_never) pss_nil)
      (pss_one (ps_ret (pe_dget hu (pe_fld (pv 0) rfl) (pv 1) (fun _ _ => rfl)))), ?_⟩
    walk_at "wn"
    refine ⟨ad .box, dx .box, _, rfl, A0.at_ .box trivial, p, S, ad, dx, rfl, A0, _, rfl, ?_⟩
    rw [decide_eq_true hp]
    walk_at "wn"
    refine ⟨_, rfl, ad .box, C.S, dx .box, _, _, rfl, A0.at_ .box trivial, T.cl, T.no _ (by decide), rfl, ?_⟩
    have hv : valV (entKV S.procs fun p => ad (.tab p)) (Sum.inl p) = some (.ref (ad (.tab p))) := by rw [ent_val, if_pos hp]
    exact ⟨_, rfl, ad .tabD, _, rfl, hv ▸ DGet.k (k := Sum.inl p) (A0.at_ .tabD trivial), k⟩
def spIsTabNum (C : Cs) : Sp := fun vs H Q _ => ∃ n : V, OnSys C vs H [n] fun S _ _ => Ob H n ∧ Q (.bl (inB n 0 (S.N - 1))) H
theorem scIsTabNum : FnScope ["self", "number"] ["self", "number"] (defScope sIsTabNum) := ⟨rfl, rfl, rfl, by decide +kernel, rfl, by decide +kernel, by decide +kernel⟩
theorem okIsTabNum {f fB : Addr} {fd fdB : FuncData} (F : Fun K "is_table_number" "System.is_table_number" sIsTabNum f fd) (T : ClsF K C.S sysF) (GB : DO P w K mg base 2 "is_between" ["x", "least", "most"] spIsBetween fB fdB) : FnOk P w K mg base CX0 3 f fd ["self", "number"] (spIsTabNum C) := by
  refine F.ok scIsTabNum (fun vs H Q E h => ?_) (fun cdv A outer s H vs Q E hr h => ?_)
  · obtain ⟨_, _, _, _, rfl, _⟩ := h
    rfl
  · obtain ⟨n, S, ad, dx, rfl, A0, ob, k⟩ := h
    refine ⟨_, pss_one (ps_ret (pe_call GB.g hr (by rfl) GB.m GB.k GB.b .nil pass0 (pa_cons (pv 1) (pa_cons pe_int (pa_cons (pe_op op_sub (pe_fld (pv 0) rfl) pe_int) pa_nil))))), ?_⟩
    walk_at "wn"
    refine ⟨_, rfl, ad .box, C.S, dx .box, _, _, rfl, A0.at_ .box trivial, T.cl, T.no _ (by decide), rfl, ?_⟩
    walk_at "wn"
    exact ⟨n, 0, S.N - 1, rfl, ob, k⟩
/-- a number that means a thing -/
structure Means (S : Sys) (p n t : Int) : Prop where
  pr : p ∈ S.procs
  lo : 0 ≤ n
  hi : n ≤ S.N - 1
  at_ : (S.tab p)[n.toNat]? = some (some t)
/-! free_number -/
def firstFree (t : List (Option Int)) (n : Nat) : Prop := t[n]? = some none ∧ ∀ i, i < n → ∃ x, t[i]? = some (some x)
structure SysTxt (mg : Str → Option Value) : Prop where
  enum : mg "enumerate" = none
  list : mg "list" = none
  min : mg "min" = none
end

section
variable {C : Cs} {H H' H2 : Hp} {S S' S2 : Sys} {ad ad' ad2 dx dx' : Cell → Addr}
/-- some cells are written, made or stand elsewhere; the others stay -/
theorem At.re3 (ch : List Cell) (A : At C H S ad dx) (hl : ∀ c, live S' c → c ∈ ch ∨ live S c) (h1 : ∀ c ∈ ch, live S' c → H' (ad' c) = some (co C S' ad' dx' c)) (h2 : ∀ c, c ∉ ch → live S c → ad' c = ad c ∧ co C S' ad' dx' c = co C S ad dx c)
    (fresh : ∀ c ∈ ch, live S' c → (ad' c = ad c ∧ live S c) ∨ H (ad' c) = none) (dist : ∀ c ∈ ch, ∀ c' ∈ ch, live S' c → live S' c' → H (ad' c) = none → ad' c = ad' c' → c = c')
    (k : ∀ b o, (∀ c ∈ ch, live S c → b ≠ ad c) → H b = some o → H' b = some o) (box : ad' .box = ad .box) : At C H' S' ad' dx' ∧ Step H S ad H' S' ad' := by
  have out : ∀ c, c ∉ ch → live S' c → live S c := fun c hc l => (hl c l).resolve_left hc
  have keep : ∀ c, c ∉ ch → live S c → H' (ad c) = H (ad c) := fun c hc l => by
    rw [A.at_ c l]
    exact k _ _ (fun c' hc' l' z => hc (by rw [A.inj c c' l l' z]; exact hc')) (A.at_ c l)
  refine ⟨⟨fun c l => ?_, fun c c' l l' z => ?_⟩, ⟨fun b o n e => k b o (fun c hc lc z => n ⟨c, lc, z.symm⟩) e, fun b ⟨c, l, e⟩ => ?_, box⟩⟩
  · by_cases hc : c ∈ ch
    · exact h1 c hc l
    · have ls := out c hc l
      obtain ⟨e1, e2⟩ := h2 c hc ls
      rw [e1, e2, keep c hc ls]
      exact A.at_ c ls
  · have some_ : ∀ c, c ∉ ch → live S' c → H (ad' c) ≠ none := fun c hc l z => by
      have ls := out c hc l
      rw [(h2 c hc ls).1, A.at_ c ls] at z
      cases z
    by_cases hc : c ∈ ch
    · by_cases hc' : c' ∈ ch
      · rcases fresh c hc l with f | f
        · rcases fresh c' hc' l' with f' | f'
          · exact A.inj c c' f.2 f'.2 (by rw [← f.1, ← f'.1, z])
          · rw [← z, f.1, A.at_ c f.2] at f'
            cases f'
        · exact dist c hc c' hc' l l' f z
      · rcases fresh c hc l with f | f
        · have ls := out c' hc' l'
          exact A.inj c c' f.2 ls (by rw [← f.1, z, (h2 c' hc' ls).1])
        · rw [z] at f
          exact absurd f (some_ c' hc' l')
    · have ls := out c hc l
      by_cases hc' : c' ∈ ch
      · rcases fresh c' hc' l' with f | f
        · exact A.inj c c' ls f.2 (by rw [← f.1, ← z, (h2 c hc ls).1])
        · rw [← z] at f
          exact absurd f (some_ c hc l)
      · have ls' := out c' hc' l'
        exact A.inj c c' ls ls' (by rw [← (h2 c hc ls).1, z, (h2 c' hc' ls').1])
  · by_cases hc : c ∈ ch
    · rcases fresh c hc l with f | f
      · exact .inl ⟨c, f.2, by rw [← f.1]; exact e⟩
      · rw [e] at f
        exact .inr f
    · have ls := out c hc l
      exact .inl ⟨c, ls, by rw [← (h2 c hc ls).1]; exact e⟩
/-- where the addresses stay -/
theorem At.re2 (ch : List Cell) (A : At C H S ad dx) (hl : ∀ c, live S' c → live S c) (lv : ∀ c ∈ ch, live S c) (h1 : ∀ c ∈ ch, H' (ad c) = some (co C S' ad dx c)) (h2 : ∀ c, c ∉ ch → live S c → co C S' ad dx c = co C S ad dx c)
    (k : ∀ b o, (∀ c ∈ ch, b ≠ ad c) → H b = some o → H' b = some o) : At C H' S' ad dx ∧ Step H S ad H' S' ad :=
  At.re3 ch A (fun c l => .inr (hl c l)) (fun c hc _ => h1 c hc) (fun c hc l => ⟨rfl, h2 c hc l⟩) (fun c hc l => .inl ⟨rfl, hl c l⟩) (fun c hc c' hc' l l' _ z => A.inj c c' (hl c l) (hl c' l') z)
    (fun b o n e => k b o (fun c hc => n c hc (lv c hc)) e) rfl
theorem At.not_own (A : At C H S ad dx) {l : Addr} (n : H l = none) : ¬ own S ad l := fun ⟨c, h, e⟩ => by
  rw [← e, A.at_ c h] at n
  cases n
end
theorem nodup_idx {α : Type} : ∀ {l : List α} {i j : Nat} {a : α}, l.Nodup → l[i]? = some a → l[j]? = some a → i = j
  | [], i, _, _, _, h, _ => by simp at h
  | _ :: _, 0, 0, _, _, _, _ => rfl
  | x :: l, 0, j + 1, a, nd, h, h' => by
    obtain rfl : x = a := by simpa using h
    exact absurd (List.mem_of_getElem? (show l[j]? = some x from h')) (List.nodup_cons.mp nd).1
  | x :: l, i + 1, 0, a, nd, h, h' => by
    obtain rfl : x = a := by simpa using h'
    exact absurd (List.mem_of_getElem? (show l[i]? = some x from h)) (List.nodup_cons.mp nd).1
  | x :: l, i + 1, j + 1, a, nd, h, h' => by rw [nodup_idx (List.nodup_cons.mp nd).2 (show l[i]? = some a from h) (show l[j]? = some a from h')]
def newThing (S : Sys) (p : Int) (n : Nat) : Sys := { S with next := S.next + 1, tab := fun q => if q = p then (S.tab p).set n (some S.next) else S.tab q }

def setA (ad : Cell → Addr) (c0 : Cell) (T : Addr) : Cell → Addr := fun c => if c = c0 then T else ad c
theorem setA_same {ad : Cell → Addr} {c0 : Cell} {T : Addr} : setA ad c0 T c0 = T := if_pos rfl
theorem setA_ne {ad : Cell → Addr} {c0 c : Cell} {T : Addr} (h : c ≠ c0) : setA ad c0 T c = ad c := if_neg h
theorem srcT_fun (ad : Cell → Addr) (t : Int) (T : Addr) : (fun j => if j = t then T else ad (.srcT j)) = fun j => setA ad (.srcT t) T (.srcT j) := by
  funext j
  by_cases h : j = t
  · rw [if_pos h, h, setA_same]
  · rw [if_neg h, setA_ne fun z => h (by cases z; rfl)]

def newSys (P N : Int) : Sys where
  P := P
  N := N
  next := 0
  procs := [0]
  tab := fun _ => List.replicate N.toNat none
  srcs := []
  unit := fun _ => (0, false)
  sets := []
section
variable {P : Program} {w : World} {K : PySem.W.Frag} {mg : Str → Option Value} {base : Heap} {C : Cs}
structure LimTxt (K : PySem.W.Frag) (mg : Str → Option Value) (CS : Addr) : Prop where
  lp : ∃ t, mg "LEAST_PROCESSES" = some (.int 2 t)
  ln : ∃ t, mg "LEAST_NUMBERS" = some (.int 3 t)
  mp : ∃ u, Con K CS "MOST_PROCESSES" (.int 6) u
  mn : ∃ u, Con K CS "MOST_NUMBERS" (.int 8) u
def spSysInit (C : Cs) : Sp := fun vs H Q _ => ∃ (x dx0 : Addr) (p n : Int), vs = [.ref x, .int p, .int n] ∧ H x = some (.ins C.S dx0 []) ∧ 2 ≤ p ∧ p ≤ 6 ∧ 3 ≤ n ∧ n ≤ 8 ∧
  ∀ H' ad dx, ad .box = x → At C H' (newSys p n) ad dx → (∀ b o, b ≠ x → H b = some o → H' b = some o) → (∀ b, own (newSys p n) ad b → b = x ∨ H b = none) → Q .non H'
theorem scSysInit : FnScope ["self", "processes", "numbers"] ["self", "processes", "numbers"] (defScope sSysInit) := ⟨rfl, rfl, rfl, by decide +kernel, rfl, by decide +kernel, by decide +kernel⟩
def initA (x td sd ud tl : Addr) : Cell → Addr
  | .box => x
  | .tabD => td
  | .srcD => sd
  | .setD => ud
  | _ => tl
theorem okSysInit {dvs : List V} {kws : List (Str × V)} {f fB : Addr} {fd fdB : FuncData} (F : FunD K "__init__" "System.__init__" (defArgs sSysInit) (defBody sSysInit) (defScope sSysInit) dvs kws f fd) (T : ClsF K C.S sysF) (L : LimTxt K mg C.S)
    (GB : DO P w K mg base 2 "is_between" ["x", "least", "most"] spIsBetween fB fdB) : FnOk P w K mg base CX0 3 f fd ["self", "processes", "numbers"] (spSysInit C) := by
  refine F.ok scSysInit (fun vs H Q E h => ?_) (fun cdv A outer s H vs Q E hr h => ?_)
  · obtain ⟨_, _, _, _, rfl, _⟩ := h
    rfl
  · obtain ⟨x, dx0, p, n, rfl, hx, p0, p1, n0, n1, k⟩ := h
    obtain ⟨tp, lp⟩ := L.lp
    obtain ⟨tn, ln⟩ := L.ln
    obtain ⟨up, mp⟩ := L.mp
    obtain ⟨un, mn⟩ := L.mn
    refine ⟨_, pss_cons (ps_if (pt_not (pt_val (pe_call GB.g hr (by rfl) GB.m GB.k GB.b .nil pass0 (pa_cons (pv 1) (pa_cons (pe_glob (v := .int 2) (by rfl) lp ⟨_, rfl⟩) (pa_cons (pe_con (pv 0) rfl) pa_nil)))))) (pss_one ps_never) pss_nil)
      (pss_cons (ps_if (pt_not (pt_val (pe_call GB.g hr (by rfl) GB.m GB.k GB.b .nil pass0 (pa_cons (pv 2) (pa_cons (pe_glob (v := .int 3) (by rfl) ln ⟨_, rfl⟩) (pa_cons (pe_con (pv 0) rfl) pa_nil)))))) (pss_one ps_never) pss_nil)
      (pss_cons (ps_fld (pv 0) (pv 1) rfl) (pss_cons (ps_fld (pv 0) (pv 2) rfl)
      (pss_cons (ps_fld (pv 0) (pe_disp (pps_cons pe_int (pe_op op_rep (pe_lst (pa_cons pe_non pa_nil)) (pv 2)) pps_nil) (by rfl) (by rfl) (fun z => by cases z) (by decide)) rfl)
      (pss_cons (ps_fld (pv 0) pe_dnewK rfl) (pss_cons (ps_fld (pv 0) pe_dnewK rfl) (pss_one (ps_fld (pv 0) pe_int rfl)))))))), ?_⟩
    walk_at "wn"
    refine ⟨_, rfl, x, C.S, dx0, _, _, _, rfl, hx, T.cl, mp, rfl, ?_⟩
    refine ⟨.int p, 2, 6, rfl, .int p, ?_⟩
    rw [show inB (.int p) 2 6 = (decide (2 ≤ p) && decide (p ≤ 6)) from rfl, decide_eq_true p0, decide_eq_true p1]
    refine ⟨_, rfl, ?_⟩
    walk_at "wn"
    refine ⟨_, rfl, _, rfl, x, C.S, dx0, _, _, _, rfl, hx, T.cl, mn, rfl, ?_⟩
    refine ⟨.int n, 3, 8, rfl, .int n, ?_⟩
    rw [show inB (.int n) 3 8 = (decide (3 ≤ n) && decide (n ≤ 8)) from rfl, decide_eq_true n0, decide_eq_true n1]
    refine ⟨_, rfl, ?_⟩
    refine ⟨_, rfl, _, rfl, x, C.S, dx0, _, rfl, hx, T.cl, T.no _ (by decide), by show 0 < 1000; decide, ?_⟩
    refine ⟨_, rfl, _, rfl, x, C.S, dx0, _, rfl, upd_same, T.cl, T.no _ (by decide), by show 1 < 1000; decide, ?_⟩
    have g1 : ∀ b o, b ≠ x → H b = some o → upd (upd H x (.ins C.S dx0 (putF "process_limit" (V.int p) []))) x (.ins C.S dx0 (putF "number_limit" (V.int n) (putF "process_limit" (V.int p) []))) b = some o := fun b o nb e => by rw [upd_ne nb, upd_ne nb]; exact e
    have x1 : upd (upd H x (.ins C.S dx0 (putF "process_limit" (V.int p) []))) x (.ins C.S dx0 (putF "number_limit" (V.int n) (putF "process_limit" (V.int p) []))) x = some (.ins C.S dx0 [("process_limit", .int p), ("number_limit", .int n)]) := upd_same
    generalize upd (upd H x (.ins C.S dx0 (putF "process_limit" (V.int p) []))) x (.ins C.S dx0 (putF "number_limit" (V.int n) (putF "process_limit" (V.int p) []))) = H1 at g1 x1
    have fr : ∀ {H' : Hp} {l : Addr}, (∀ b o, b ≠ x → H b = some o → H' b = some o) → H' l = none → l ≠ x → H l = none := fun {H'} {l} g e nl => by
      cases z : H l with
      | none => rfl
      | some o => rw [g l o nl z] at e; cases e
    intro td htd
    have ntx : td ≠ x := fun z => by rw [z, x1] at htd; cases htd
    have s2 := Same.new' (o := .dK []) htd
    refine ⟨by show 1 ≤ sizeLine; decide, fun l0 hl0 => ?_⟩
    have s3 := Same.new' (o := .lst [V.non]) hl0
    have l0' : upd (upd H1 td (.dK [])) l0 (.lst [V.non]) l0 = some (.lst [V.non]) := upd_same
    refine ⟨_, rfl, l0, n, _, rfl, rfl, l0', by omega, by omega, ?_, fun tl htl => ?_⟩
    · show 1 * n.toNat ≤ sizeLine
      rw [sizeLine_eq]
      omega
    have s4 := Same.new' (o := .lst (List.replicate n.toNat [V.non]).flatten) htl
    have td4 : upd (upd (upd H1 td (.dK [])) l0 (.lst [V.non])) tl (.lst (List.replicate n.toNat [V.non]).flatten) td = some (.dK []) := s4 _ _ (s3 _ _ upd_same)
    have x4 := s4 _ _ (s3 _ _ (s2 _ _ x1))
    have tl4 : upd (upd (upd H1 td (.dK [])) l0 (.lst [V.non])) tl (.lst (List.replicate n.toNat [V.non]).flatten) tl = some (.lst (List.replicate n.toNat [V.non]).flatten) := upd_same
    have g4 : ∀ b o, b ≠ x → H b = some o → upd (upd (upd H1 td (.dK [])) l0 (.lst [V.non])) tl (.lst (List.replicate n.toNat [V.non]).flatten) b = some o := fun b o nb e => s4 _ _ (s3 _ _ (s2 _ _ (g1 b o nb e)))
    have hd0 : H td = none := fr g1 htd ntx
    have ntlx : tl ≠ x := fun z => by rw [z] at htl; rw [s3 _ _ (s2 _ _ x1)] at htl; cases htl
    have htl0 : H tl = none := fr (H' := upd (upd H1 td (.dK [])) l0 (.lst [V.non])) (fun b o nb e => s3 _ _ (s2 _ _ (g1 b o nb e))) htl ntlx
    generalize upd (upd (upd H1 td (.dK [])) l0 (.lst [V.non])) tl (.lst (List.replicate n.toNat [V.non]).flatten) = H4 at td4 x4 tl4 g4
    have ntd : tl ≠ td := ne_of tl4 td4 (by intro z; cases z)
    refine ⟨td4, [(Sum.inl 0, .ref tl)], rfl, by show 1 ≤ 15; decide, ?_⟩
    have g5 : ∀ b o, b ≠ x → H b = some o → upd H4 td (.dK (mergeK [] [((Sum.inl 0 : Key), V.ref tl)])) b = some o := fun b o nb e => by rw [upd_ne (ne_of_none e hd0)]; exact g4 b o nb e
    have x5 : upd H4 td (.dK (mergeK [] [((Sum.inl 0 : Key), V.ref tl)])) x = _ := (upd_ne (Ne.symm ntx)).trans x4
    have tl5 : upd H4 td (.dK (mergeK [] [((Sum.inl 0 : Key), V.ref tl)])) tl = _ := (upd_ne ntd).trans tl4
    have td5 : upd H4 td (.dK (mergeK [] [((Sum.inl 0 : Key), V.ref tl)])) td = some (.dK [((Sum.inl 0 : Key), V.ref tl)]) := upd_same
    generalize upd H4 td (.dK (mergeK [] [((Sum.inl 0 : Key), V.ref tl)])) = H5 at g5 x5 tl5 td5
    refine ⟨_, rfl, x, C.S, dx0, _, rfl, x5, T.cl, T.no _ (by decide), by show 2 < 1000; decide, ?_⟩
    have g6 : ∀ b o, b ≠ x → H5 b = some o → upd H5 x (.ins C.S dx0 (putF "tables" (V.ref td) [("process_limit", .int p), ("number_limit", .int n)])) b = some o := fun b o nb e => by rw [upd_ne nb]; exact e
    have x6 : upd H5 x (.ins C.S dx0 (putF "tables" (V.ref td) [("process_limit", .int p), ("number_limit", .int n)])) x = some (.ins C.S dx0 [("process_limit", .int p), ("number_limit", .int n), ("tables", .ref td)]) := upd_same
    generalize upd H5 x (.ins C.S dx0 (putF "tables" (V.ref td) [("process_limit", .int p), ("number_limit", .int n)])) = H6 at g6 x6
    intro sd hsd
    have nsx : sd ≠ x := fun z => by rw [z, x6] at hsd; cases hsd
    have nst : sd ≠ td := fun z => by rw [z, g6 _ _ ntx td5] at hsd; cases hsd
    have hsd0 : H sd = none := fr (fun b o nb e => g6 b o nb (g5 b o nb e)) hsd nsx
    have s7 := Same.new' (o := .dK []) hsd
    refine ⟨_, rfl, x, C.S, dx0, _, rfl, s7 _ _ x6, T.cl, T.no _ (by decide), by show 3 < 1000; decide, ?_⟩
    have g8 : ∀ b o, b ≠ x → H6 b = some o → upd (upd H6 sd (.dK [])) x (.ins C.S dx0 (putF "sources" (V.ref sd) [("process_limit", .int p), ("number_limit", .int n), ("tables", .ref td)])) b = some o := fun b o nb e => by rw [upd_ne nb]; exact s7 _ _ e
    have sd8 : upd (upd H6 sd (.dK [])) x (.ins C.S dx0 (putF "sources" (V.ref sd) [("process_limit", .int p), ("number_limit", .int n), ("tables", .ref td)])) sd = some (.dK []) := by rw [upd_ne nsx]; exact upd_same
    have x8 : upd (upd H6 sd (.dK [])) x (.ins C.S dx0 (putF "sources" (V.ref sd) [("process_limit", .int p), ("number_limit", .int n), ("tables", .ref td)])) x = some (.ins C.S dx0 [("process_limit", .int p), ("number_limit", .int n), ("tables", .ref td), ("sources", .ref sd)]) := upd_same
    generalize upd (upd H6 sd (.dK [])) x (.ins C.S dx0 (putF "sources" (V.ref sd) [("process_limit", .int p), ("number_limit", .int n), ("tables", .ref td)])) = H8 at g8 sd8 x8
    intro ud hud
    have nux : ud ≠ x := fun z => by rw [z, x8] at hud; cases hud
    have nut : ud ≠ td := fun z => by rw [z, g8 _ _ ntx (g6 _ _ ntx td5)] at hud; cases hud
    have nus : ud ≠ sd := fun z => by rw [z, sd8] at hud; cases hud
    have hud0 : H ud = none := fr (fun b o nb e => g8 b o nb (g6 b o nb (g5 b o nb e))) hud nux
    have s9 := Same.new' (o := .dK []) hud
    refine ⟨_, rfl, x, C.S, dx0, _, rfl, s9 _ _ x8, T.cl, T.no _ (by decide), by show 4 < 1000; decide, ?_⟩
    refine ⟨_, rfl, x, C.S, dx0, _, rfl, upd_same, T.cl, T.no _ (by decide), by show 5 < 1000; decide, ?_⟩
    have fin : ∀ b o, b ≠ x → upd H8 ud (.dK []) b = some o → upd (upd (upd H8 ud (.dK [])) x (.ins C.S dx0 (putF "sets" (V.ref ud) [("process_limit", .int p), ("number_limit", .int n), ("tables", .ref td), ("sources", .ref sd)]))) x (.ins C.S dx0 (putF "next_thing" (V.int 0) (putF "sets" (V.ref ud) [("process_limit", .int p), ("number_limit", .int n), ("tables", .ref td), ("sources", .ref sd)]))) b = some o := fun b o nb e => by rw [upd_ne nb, upd_ne nb]; exact e
    have xf : upd (upd (upd H8 ud (.dK [])) x (.ins C.S dx0 (putF "sets" (V.ref ud) [("process_limit", .int p), ("number_limit", .int n), ("tables", .ref td), ("sources", .ref sd)]))) x (.ins C.S dx0 (putF "next_thing" (V.int 0) (putF "sets" (V.ref ud) [("process_limit", .int p), ("number_limit", .int n), ("tables", .ref td), ("sources", .ref sd)]))) x = some (sysO C.S dx0 (newSys p n) td sd ud) := upd_same
    generalize upd (upd (upd H8 ud (.dK [])) x (.ins C.S dx0 (putF "sets" (V.ref ud) [("process_limit", .int p), ("number_limit", .int n), ("tables", .ref td), ("sources", .ref sd)]))) x (.ins C.S dx0 (putF "next_thing" (V.int 0) (putF "sets" (V.ref ud) [("process_limit", .int p), ("number_limit", .int n), ("tables", .ref td), ("sources", .ref sd)]))) = HF at fin xf
    have tdF : HF td = some (.dK [((Sum.inl 0 : Key), V.ref tl)]) := fin _ _ ntx (s9 _ _ (g8 _ _ ntx (g6 _ _ ntx td5)))
    have sdF : HF sd = some (.dK []) := fin _ _ nsx (s9 _ _ sd8)
    have udF : HF ud = some (.dK []) := fin _ _ nux upd_same
    have tlF : HF tl = some (.lst (List.replicate n.toNat [V.non]).flatten) := fin _ _ ntlx (s9 _ _ (g8 _ _ ntlx (g6 _ _ ntlx tl5)))
    have et : (List.replicate n.toNat [V.non]).flatten = (List.replicate n.toNat (none : Option Int)).map optV := by
      rw [List.map_replicate]
      have : ∀ m : Nat, (List.replicate m [V.non]).flatten = List.replicate m V.non := by
        intro m
        induction m with
        | zero => rfl
        | succ m ih => rw [List.replicate_succ, List.flatten_cons, ih]; rfl
      exact this _
    rw [et] at tlF
    have lt0 : ∀ t, live (newSys p n) (.tab t) → t = 0 := fun t h => List.mem_singleton.mp h
    have no : ∀ t : Int, t ∉ ([] : List Int) := fun t h => nomatch h
    refine k HF (initA x td sd ud tl) (fun _ => dx0) rfl ⟨fun c hc => ?_, fun c c' hc hc' z => ?_⟩ (fun b o nb e => fin b o nb (s9 _ _ (g8 b o nb (g6 b o nb (g5 b o nb e))))) (fun b hb => ?_)
    · cases c with
      | box => exact xf
      | tabD => exact tdF
      | srcD => exact sdF
      | setD => exact udF
      | tab t => exact tlF
      | srcT t => exact absurd hc (no t)
      | ws t => exact absurd hc (no t)
      | ent t => exact absurd hc (no t)
      | que t => exact absurd hc (no t)
    · have n_xt : x ≠ td := Ne.symm ntx
      have n_ts : tl ≠ sd := ne_of tlF sdF (by intro z; cases z)
      have n_tu : tl ≠ ud := ne_of tlF udF (by intro z; cases z)
      have dead : ∀ {c : Cell}, live (newSys p n) c → c = .box ∨ c = .tabD ∨ c = .srcD ∨ c = .setD ∨ c = .tab 0 := fun {c} hc => by
        cases c with
        | box => exact .inl rfl
        | tabD => exact .inr (.inl rfl)
        | srcD => exact .inr (.inr (.inl rfl))
        | setD => exact .inr (.inr (.inr (.inl rfl)))
        | tab t => exact .inr (.inr (.inr (.inr (by rw [lt0 t hc]))))
        | srcT t => exact absurd hc (no t)
        | ws t => exact absurd hc (no t)
        | ent t => exact absurd hc (no t)
        | que t => exact absurd hc (no t)
      rcases dead hc with rfl | rfl | rfl | rfl | rfl <;> rcases dead hc' with rfl | rfl | rfl | rfl | rfl <;> first | rfl | (exfalso; revert z; first | exact fun z => n_xt z | exact fun z => n_xt z.symm | exact fun z => nsx z | exact fun z => nsx z.symm | exact fun z => nux z | exact fun z => nux z.symm | exact fun z => ntlx z | exact fun z => ntlx z.symm | exact fun z => nst z | exact fun z => nst z.symm | exact fun z => nut z | exact fun z => nut z.symm | exact fun z => nus z | exact fun z => nus z.symm | exact fun z => ntd z | exact fun z => ntd z.symm | exact fun z => n_ts z | exact fun z => n_ts z.symm | exact fun z => n_tu z | exact fun z => n_tu z.symm)
    · obtain ⟨c, hc, rfl⟩ := hb
      cases c with
      | box => exact .inl rfl
      | tabD => exact .inr hd0
      | srcD => exact .inr hsd0
      | setD => exact .inr hud0
      | tab t => exact .inr htl0
      | srcT t => exact absurd hc (no t)
      | ws t => exact absurd hc (no t)
      | ent t => exact absurd hc (no t)
      | que t => exact absurd hc (no t)
end

/-! own errors over any built-in base -/
structure BX (x : Str) (B newId initId : String) (tl : List Value) : Prop where
  bf : ExcBaseFacts B newId initId (.type B :: tl)
  sf : StoreFacts B (.type B :: tl) "object.__setattr__" "object"
  ty : typeOf (.type B) = pure (.type "type")
  st : Manifest.isStub B = false
  bo : bootBuiltins x = some (.type B)
  nn : x ≠ "__name__"
  nd : (x == ("__debug__" : Str)) = false
  hi : PySem.W.handedIn (.builtin initId) = true
theorem bxRuntime : BX "RuntimeError" "RuntimeError" "RuntimeError.__new__" "RuntimeError.__init__" [.type "Exception", .type "BaseException", .type "object"] := ⟨F.excBase_RuntimeError, F.store_RuntimeError, by kernel_rfl, by decide +kernel, PyProof.Rows.Boot.«RuntimeError», by decide, by decide, by decide +kernel⟩
theorem bxLookup : BX "LookupError" "LookupError" "LookupError.__new__" "LookupError.__init__" [.type "Exception", .type "BaseException", .type "object"] := ⟨F.excBase_LookupError, F.store_LookupError, by kernel_rfl, by decide +kernel, PyProof.Rows.Boot.«LookupError», by decide, by decide, by decide +kernel⟩
theorem bxOverflow : BX "OverflowError" "OverflowError" "OverflowError.__new__" "OverflowError.__init__" [.type "ArithmeticError", .type "Exception", .type "BaseException", .type "object"] := ⟨F.excBase_OverflowError, F.store_OverflowError, by kernel_rfl, by decide +kernel, PyProof.Rows.Boot.«OverflowError», by decide, by decide, by decide +kernel⟩
theorem bxType : BX "TypeError" "TypeError" "TypeError.__new__" "TypeError.__init__" [.type "Exception", .type "BaseException", .type "object"] := ⟨F.excBase_TypeError, F.store_TypeError, by kernel_rfl, by decide +kernel, PyProof.Rows.Boot.«TypeError», by decide, by decide, by decide +kernel⟩
theorem bxValue : BX "ValueError" "ValueError" "ValueError.__new__" "ValueError.__init__" [.type "Exception", .type "BaseException", .type "object"] := ⟨F.excBase_ValueError, F.store_ValueError, by kernel_rfl, by decide +kernel, PyProof.Rows.Boot.«ValueError», by decide, by decide, by decide +kernel⟩
/-- a class of the program's straight over the base with this mro -/
structure OxB (K : PySem.W.Frag) (C : Addr) (newId : String) (bm : List Value) : Prop where
  cls : ∃ nm q N bs sn sub ab col dd k0 k1 k2 k3 k5, K.lookup C = some (excClassObj nm q C N bs bm true sn sub ab col dd k0 k1 k2 k3 k5 newId)
  sa : PySem.W.findIn K (.ref C) "__setattr__" = some (some (.builtin "object.__setattr__"))
  exC : PySem.W.subIn K (.ref C) (.type "BaseException") = some true
  tyC : PySem.W.typeIn K (.ref C) = some (.type "type")
  kC : PySem.W.keepIn K (.ref C) = true
namespace OxB
variable {K : PySem.W.Frag} {C : Addr} {newId B : String} {tl : List Value}
theorem data (T : OxB K C newId (.type B :: tl)) : ∃ cd : ClassData, PySem.W.clsIn K C = some cd ∧ cd.mro = .ref C :: .type B :: tl ∧ cd.hasDict = true := by
  obtain ⟨nm, q, N, bs, sn, sub, ab, col, dd, k0, k1, k2, k3, k5, hC⟩ := T.cls
  refine ⟨{ name := nm, bases := bs, mro := .ref C :: .type B :: tl, ns := N, qualname := q, hasDict := true, slotNames := sn, subclasses := sub, abstract := ab, collection := col, hasDel := false }, ?_, rfl, rfl⟩
  unfold PySem.W.clsIn
  rw [hC]
theorem over (T : OxB K C newId (.type B :: tl)) : PySem.W.excOver K C (.type B :: tl) = true := by
  obtain ⟨cd, h1, h2, _⟩ := T.data
  unfold PySem.W.excOver
  rw [h1]
  show (match cd.mro with | .ref C' :: bm => C' == C && PySem.W.excTail (.type B :: tl) bm | _ => false) = true
  rw [h2]
  have e : PySem.W.excTail (.type B :: tl) (.type B :: tl) = true := by
    unfold PySem.W.excTail
    exact beq_self_eq_true _
  show (C == C && PySem.W.excTail (.type B :: tl) (.type B :: tl)) = true
  rw [e, beq_self_eq_true]
  rfl
end OxB
section
open Builtin Builtin.ObjectAttr
/-- the first field of an error that has no dict yet -/
theorem oxb_first {prog : Program} {w : World} {A : Around} {R : Result → Shared → Prop} {hp : Heap} {g : Array GenState} {d : Drawn} {t : Nat} {os : OsState} {K : PySem.W.Frag} {C x : Addr} {newId B : String} {tl : List Value} {name : Str} {tk : Tok} {v : Value} {fv : Array Value}
    (T : OxB K C newId (.type B :: tl)) (SF : StoreFacts B (.type B :: tl) "object.__setattr__" "object") (X : K.In hp) (hx : hp.get? x = some { cls := .ref C, data := .fields fv }) (no : PySem.W.findIn K (.ref C) name = some none)
    (q : ∀ h' tk' dx, (∀ b o, b ≠ x → hp.get? b = some o → h'.get? b = some o) → hp.objs.size ≤ dx → dx ≠ x → h'.get? x = some { cls := .ref C, dict := some dx, data := .fields fv } → h'.Ns1 dx (fun y => if y = name then some v else none) → R (.ok (.ret .none)) ⟨h', g, d, tk', os⟩) :
    codeAny (model prog w) A (.call (.builtin "object.__setattr__") ⟨[.ref x, .str name tk, v], []⟩) R ⟨hp, g, d, t, os⟩ := by
  have J : PySem.W.InstAt (⟨hp, g, d, t, os⟩ : Shared).heap x { cls := .ref C, data := .fields fv } C none := ⟨hx, rfl, rfl, trivial⟩
  have tkr : PySem.W.takerIn K C name = some none := by
    unfold PySem.W.takerIn
    rw [no]
    rfl
  obtain ⟨cd, hcd, _, hhd⟩ := T.data
  have away : x ≠ hp.objs.size := Nat.ne_of_lt (Heap.lt_size hx)
  refine PySem.W.osa_openX (s := ⟨hp, g, d, t, os⟩) SF X J T.over tkr fun onT => ?_
  show wpAny _ _ (storeInOwnDict (.ref x) (.ref C) (.str name tk) name v onT) _ _ _
  have ask : PySem.W.Looks (model prog w) hp (classData C) cd := PySem.W.looks_clsIn X hcd
  obtain ⟨nm, bs, mro, ns, qn, hd, sn, sb, ab, col, del⟩ := cd
  obtain rfl : hd = true := hhd
  unfold storeInOwnDict ownDictForStores
  repeat (first | with_reducible refine PySem.HandSPX.store_in_new ?_ ?_ | (with_reducible refine wpAny_loadPart_at hx ?_) | (with_reducible refine ask.at ?_) | wp_step)
  · exact (fun laid => ⟨_, #[], _, laid, rfl, fun e he => absurd he (by simp), fun _ => rfl⟩) ((Heap.get?_update_ne _ _ _ _ away.symm).trans (Heap.get?_push_at rfl rfl))
  · intro h' tk' hn same
    have h1 : (hp.push { cls := .type "dict", data := .dict #[] }).get? x = some { cls := .ref C, data := .fields fv } := Heap.get?_push_of_some _ hx
    refine q h' tk' hp.objs.size (fun b o nb eb => ?_) (Nat.le_refl _) away.symm ((same.2 x away).trans (Heap.get?_update_self _ h1 rfl)) hn
    rw [same.2 b (Nat.ne_of_lt (Heap.lt_size eb)), Heap.get?_update_ne _ _ _ _ nb]
    exact Heap.get?_push_of_some _ eb
end
section
variable {X : Cx} {pins : List (Addr × Obj)} {σ : L2.St} {H : Hp} {s : Shared} {a C : Addr} {f : Str} {y : V} {u : Value} {newId initId B : String} {tl : List Value} {A : Around}
theorem oxb_store {Q : Unit → Shared → Prop} {E : Value → Shared → Prop} (T : OxB X.K C newId (.type B :: tl)) (SF : StoreFacts B (.type B :: tl) "object.__setattr__" "object") (I : Inv X pins σ H s) (e : H a = some (exo a C none)) (no : PySem.W.findIn X.K (.ref C) f = some none) (ry : RelV y u)
    (k : ∀ dx s', H dx = none → dx ≠ a → Inv X pins σ (upd (upd H dx (exd dx [(f, y)])) a (exo a C (some dx))) s' → Q () s') : wpAny (model X.prog X.w) A (setAttr (.ref a) f u) Q E s := by
  obtain ⟨t1, ho⟩ := exo_at I.hok e
  obtain ⟨hp, g, d, t, os⟩ := s
  refine PySem.W.set_plain I.kIn (od := none) (ox := { cls := .ref C, dict := none, data := .fields #[.ref t1, .none, .none, .none, .bool false, .none] }) ⟨ho, rfl, rfl, trivial⟩ T.sa (oxb_first T SF I.kIn ho no fun h' tk' dx kp dn dne hx hn => ?_)
  have free : H dx = none := I.hok.fresh dn
  have apart : ∀ {b : Addr} {o : Obj}, hp.get? b = some o → b ≠ dx := fun {b o} z => Nat.ne_of_lt (Nat.lt_of_lt_of_le (Heap.lt_size z) dn)
  have other : ∀ {b : Addr}, H b = none → b ≠ a := fun {b} n z => by rw [z, e] at n; cases n
  refine k dx _ free dne (I.un (t' := tk') ⟨fun b o z n _ _ => kp b o (other n) z, fun b o z n _ _ => ⟨o.slots, kp b o (other n) z⟩, fun b o z n _ => ?_, fun b o z _ => ?_, fun b xs z => ?_, fun b o v z => ?_, fun b ps z => ⟨#[], ?_⟩⟩ fun b o z => ?_)
  · rw [upd_ne (other n), upd_ne (apart z)]
    exact n
  · by_cases hb : b = a
    · exact ⟨_, by rw [hb]; exact hx⟩
    · exact ⟨o, kp b o hb z⟩
  · rw [upd_ne (at_ne e z exo_tup), upd_ne (ne_of_none z free)]
    exact z
  · rw [upd_ne (at_ne e z exo_frz), upd_ne (ne_of_none z free)]
    exact z
  · rw [upd_ne (at_ne e z exo_tbl), upd_ne (ne_of_none z free), z]
    simp
  · by_cases hb : b = a
    · subst hb
      rw [upd_same] at z
      cases z
      exact exo_ok hx
    rw [upd_ne hb] at z
    by_cases hd : b = dx
    · subst hd
      rw [upd_same] at z
      cases z
      exact exd_ok hn (relO_put (fs := []) ry fun g => True.intro)
    rw [upd_ne hd] at z
    refine (I.hok b o z).stay (fun c v hc y1 => kp c v ?_ y1) (fun c hc => ?_) (fun c xs hc => ?_)
    · rcases hc with hc | hc
      · exact hc ▸ hb
      · exact at_ne e hc exo_own
    · rw [upd_ne (at_ne e hc exo_own), upd_ne (ne_of_none hc free)]
      exact hc
    · rw [upd_ne (at_ne e hc exo_tup), upd_ne (ne_of_none hc free)]
      exact hc
theorem oxb_init {us : List Value} {Q : Value → Shared → Prop} {E : Value → Shared → Prop} (T : OxB X.K C newId (.type B :: tl)) (BF : ExcBaseFacts B newId initId (.type B :: tl)) (I : Inv X pins σ H s) (e : H a = some (exo a C none)) (hl : us.length ≤ sizeLine) (k : ∀ s', Inv X pins σ H s' → Q .none s') :
    wpAny (model X.prog X.w) A (call (.builtin initId) (.ref a :: us)) Q E s := by
  obtain ⟨nm, q, N, bs, sn, sub, ab, col, dd, k0, k1, k2, k3, k5, hC⟩ := T.cls
  obtain ⟨t1, ho⟩ := exo_at I.hok e
  obtain ⟨hp, g, d, t, os⟩ := s
  refine wpAny_call (PySem.HandSPX.init_base BF (fun _ => rfl) (I.kIn _ _ hC) ho hl fun h' t2 kp hx => k _ ?_)
  have J := I.write (t' := t) (x := a) (e := a) (o := exo a C none) (by rw [e]; exact True.intro) (.inl rfl) kp ⟨_, hx⟩ (exo_ok hx)
  have eu : upd H a (exo a C none) = H := funext fun b => by
    by_cases hb : b = a
    · rw [hb, upd_same, e]
    · exact upd_ne hb
  exact eu ▸ J
/-- B.__init__(self, ..) of a base B -/
def tBI (K : PySem.W.Frag) (newId B : String) (tl : List Value) (ta : TA) : TE := fun σ H Q => ta σ H fun vs H1 => ∃ (a C : Addr) (ws : List V), vs = .ref a :: ws ∧ ws.length ≤ 1000 ∧ OxB K C newId (.type B :: tl) ∧ H1 a = some (exo a C none) ∧ Q .non H1
/-- self.f = e, the only field -/
def tOsB (K : PySem.W.Frag) (newId B : String) (tl : List Value) (f : Str) (to te : TE) : TS := fun D σ H => te σ H fun y H1 => to σ H1 fun x H2 => ∃ a C : Addr, x = .ref a ∧ OxB K C newId (.type B :: tl) ∧ PySem.W.findIn K (.ref C) f = some none ∧ H2 a = some (exo a C none) ∧
  ∀ dx, H2 dx = none → dx ≠ a → D.nx σ (upd (upd H2 dx (exd dx [(f, y)])) a (exo a C (some dx)))
variable {o e : Expr} {es : List Expr} {to te : TE} {ta : TA} {x : Str} {p p' p1 p2 pos : Pos}
theorem pe_binit {pl : Sem Bool} (Z : BX x B newId initId tl) (hg : Gl X x) (hm : X.mg x = none) (fI : PySem.W.findCls X.K (.type B) (.type "type") "__init__" = some (.val (.builtin initId))) (ha : PA X (e :: es) ta)
    (hc : eval (.Call (.Attribute (.Name x p1) "__init__" p2) (e :: es) [] pos) X.env = (eval (.Name x p1) X.env >>= fun ov => standAt p2.atName >>= fun _ => holding [ov] (getMethod ov "__init__" pl) >>= fun r => callWith pos r.1 r.2 (backTo pos (starEach (e :: es) X.env)) (backToKw pos (keywordEach [] X.env))) := by rfl)
    (st : starEach (e :: es) X.env = (false, eval e X.env) :: starEach es X.env := by rfl) (pn : (backTo pos (starEach es X.env)).any (·.1) = false := by rfl) : PE X (.Call (.Attribute (.Name x p1) "__init__" p2) (e :: es) [] pos) (tBI X.K newId B tl ta) := by
  refine ⟨fun pins s σ H Q I h => PySem.W.methodCall_KW (ld_blt I hg hm Z.bo ?_ Z.nn Z.nd) hc⟩
  obtain ⟨m, fr⟩ := I.fr
  refine PySem.W.method_type fr I.ok.mod.kin Z.ty Z.st fI Z.hi ?_
  show wpAny _ _ (callWith pos (Value.builtin initId) [] (backTo pos (starEach (e :: es) X.env)) []) _ _ _
  refine PyProof.Rows.callWith_method1 (thn (ha.run pos pins _ σ H _ (I.tok _) h) ?_) st pn
  rintro us s1 ⟨vs, H1, I1, r1, a, C, ws, rfl, hl, T, ea, q⟩
  cases r1 with
  | @cons _ u0 _ ur ra rw' =>
    obtain rfl : u0 = Value.ref a := ra
    exact oxb_init T Z.bf I1 ea (by rw [← Paired.length rw', sizeLine_eq]; omega) fun s' J => ⟨.non, H1, J, rfl, q⟩
theorem ps_osb (Z : BX x B newId initId tl) (ho : PE X o to) (he : PE X e te) (sw : swapsWith e (some (.Attribute o f p')) pos.line X.env = pure false := by rfl) : PS X (.Assign [.Attribute o f p'] e pos) (tOsB X.K newId B tl f to te) := by
  refine ⟨fun pins s σ H D I h => plainObj_wpAny_Assign_Attribute (thn (he.run pins s σ H _ I h) ?_) sw⟩
  rintro v s1 ⟨y, H1, I1, r1, q1⟩
  refine thn (ho.run pins s1 σ H1 _ I1 q1) ?_
  rintro u s2 ⟨x, H2, I2, r2, a, C, rfl, T, no, ea, q⟩
  obtain rfl : u = Value.ref a := r2
  exact oxb_store T Z.sf I2 ea no r1 fun dx s' n ne J => ⟨σ, _, J, q dx n ne⟩
theorem pmk_oxb {CX : CXT} {n : Str} {fI : Addr} {k : Nat} {fd : FuncData} {ps : List Str} {sp : Sp} {ds : List Value} {dvs : List V} (Z : BX x B newId initId tl) (T : OxB X.K C newId (.type B :: tl)) (iC : PySem.W.findIn X.K (.ref C) "__init__" = some (some (.ref fI)))
    (tI : PySem.W.typeIn X.K (.ref fI) = some (.type "function")) (G : FnOk X.prog X.w X.K X.mg X.base CX k fI fd ps sp) (hr : Room (k + 1) X.A) (hb : Binds X.K fd ps ds) (hd : Vals dvs ds) (hx : Passes CX X (fun _ _ _ => False)) (hg : Gl X n) (hm : X.mg n = some (.ref C)) (ha : PA X (e :: es) ta)
    (db : (n == ("__debug__" : Str)) = false := by decide) (st : starEach (e :: es) X.env = (false, eval e X.env) :: starEach es X.env := by rfl) (pn : (backTo pos (starEach es X.env)).any (·.1) = false := by rfl) : PMk X (.Call (.Name n p) (e :: es) [] pos) (tMkO C sp dvs ta) := by
  intro pins s σ H Q I h
  obtain ⟨nm, q, N, bs, sn, sub, ab, col, dd, k0, k1, k2, k3, k5, hC⟩ := T.cls
  refine wpAny_Call_Name_kw (ld_glob I hg hm (PySem.W.callWith_K (h₀ := X.base) I.ok.mod.kin T.kC (thn (ha.run pos pins s σ H _ I h) ?_) st pn) db)
  rintro us ⟨hp, g, dr, tk, os⟩ ⟨vs, H1, I1, r1, hz, q1⟩
  refine ⟨I1.kIn, ?_⟩
  show wpAny _ _ (call (.ref C) us) _ _ _
  have above : hp.objs.size ≤ hp.objs.size + 1 := Nat.le_succ _
  have want := q1 (hp.objs.size + 1) (I1.hok.fresh above)
  have kp : ∀ b o, hp.get? b = some o → ((hp.push (PySem.W.kdv_tup us)).push (PySem.HandSPX.excO C hp.objs.size)).get? b = some o := fun b o z => Heap.get?_push_of_some _ (Heap.get?_push_of_some _ z)
  have here : ((hp.push (PySem.W.kdv_tup us)).push (PySem.HandSPX.excO C hp.objs.size)).get? (hp.objs.size + 1) = some (PySem.HandSPX.excO C hp.objs.size) := by heap_get
  have I2 : Inv X pins σ (upd H1 (hp.objs.size + 1) (exo (hp.objs.size + 1) C none)) ⟨(hp.push (PySem.W.kdv_tup us)).push (PySem.HandSPX.excO C hp.objs.size), g, dr, tk, os⟩ := I1.laid (t' := tk) kp above (exo_ok here)
  have rs : Vals (V.ref (hp.objs.size + 1) :: (vs ++ dvs)) (Value.ref (hp.objs.size + 1) :: (us ++ ds)) := .cons rfl (r1.append hd)
  have many : (Value.ref (hp.objs.size + 1) :: us ++ ds).length = ps.length := (G.len _ _ _ _ want ▸ rs.length).symm
  have short : us.length ≤ sizeLine := by rw [← Paired.length r1, sizeLine_eq]; omega
  refine wpAny_call (PySem.HandSPX.call_own Z.bf (fun _ => rfl) (I1.kIn _ _ hC) (PySem.W.looks_findIn I1.kIn iC) (fun self => PySem.W.bind_fn I1.kIn self tI) short
    (codeAny_mono (G.run _ X.stack _ _ ⟨Value.ref (hp.objs.size + 1) :: us, []⟩ (Value.ref (hp.objs.size + 1) :: (us ++ ds)) _ _ (fun _ _ _ => False) (hr.make C us []) (I2.env0.make C us []) (hb _ (Value.ref (hp.objs.size + 1) :: us) I2.kIn many) rs want) fun r s' hq => ?_))
  rcases r with er | (_ | _ | _ | u)
  all_goals first | exact False.elim hq | exact hx pins σ _ _ er s' I2 hq | skip
  all_goals
    obtain ⟨v, H2, os2, bare2, un2, hok2, rv, ev, d, fs, ea, ed, hd1, q2⟩ := hq
    subst ev
    obtain ⟨h2, g2, d2, t2, os'⟩ := s'
    exact ⟨rv, mk_end (raises_own T.exC T.tyC) I1 above kp un2 hok2 os2 bare2 ea ed hd1 q2⟩
end

theorem passX {X : Cx} {E : XK} (tk : Takes X fun cls d _ H => E cls d H) : Passes (L2.CX X.prog X.w) X E := fun pins σ H s e s' I c => tk e s' (XE.of_call I (fun _ _ _ h => h) c)
abbrev exT : List Value := [.type "Exception", .type "BaseException", .type "object"]
/-! an error of the class at D whose only field, named f, is an int -/
structure ErrF (K : PySem.W.Frag) (mg : Str → Option Value) (nm : Str) (f : Str) (D fI : Addr) (fdI : FuncData) (newId : String) (bm : List Value) : Prop where
  gC : mg nm = some (.ref D)
  ox : OxB K D newId bm
  noN : PySem.W.findIn K (.ref D) f = some none
  iC : PySem.W.findIn K (.ref D) "__init__" = some (some (.ref fI))
  tI : PySem.W.typeIn K (.ref fI) = some (.type "function")
  bI : Binds K fdI ["self", f] []
  te : PySem.W.exmOne K (.ref D) (.ref D) = some true
  xf : XfC K D
section
variable {P : Program} {w : World} {K : PySem.W.Frag} {mg : Str → Option Value} {base : Heap} {C : Cs}
def spErrInit (D : Addr) (f : Str) : Sp := fun vs H Q _ => ∃ (a : Addr) (v : V), vs = [.ref a, v] ∧ Flat H v ∧ H a = some (exo a D none) ∧
  ∀ d, H d = none → d ≠ a → Q .non (upd (upd H d (exd d [(f, v)])) a (exo a D (some d)))
abbrev sBadLimitInit : Stmt := meth 6 0
theorem scBadLimitInit : FnScope ["self", "limit"] ["self", "limit"] (defScope sBadLimitInit) := ⟨rfl, rfl, rfl, by decide +kernel, rfl, by decide +kernel, by decide +kernel⟩
theorem okBadLimitInit {D fI : Addr} {fdI : FuncData} (F : Fun K "__init__" "BadLimit.__init__" sBadLimitInit fI fdI) (gB : mg "ValueError" = none) (fB : PySem.W.findCls K (.type "ValueError") (.type "type") "__init__" = some (.val (.builtin "ValueError.__init__"))) (T : ErrF K mg "BadLimit" "limit" D fI fdI "ValueError.__new__" (.type "ValueError" :: exT)) : FnOk P w K mg base CX0 1 fI fdI ["self", "limit"] (spErrInit D "limit") := by
  refine F.ok scBadLimitInit (fun vs H Q E h => ?_) (fun cdv A outer s H vs Q E hr h => ?_)
  · obtain ⟨a, n, rfl, _⟩ := h
    rfl
  · obtain ⟨a, n, rfl, fl, ha, k⟩ := h
    refine ⟨_, pss_cons (ps_expr (pe_binit bxValue (by rfl) gB fB (pa_cons (pv 0) (pa_cons (pe_joined (.cons (pe_fmtO hr (pv 1)) (.cons pe_str .nil))) pa_nil))))
      (pss_one (ps_osb (f := "limit") bxValue (pv 0) (pv 1))), ?_⟩
    walk_at "wn"
    show tCons _ _ _ _ _
    walk_at "wn"
    show tJs _ _ _ _ _
    have e5 : (((" is no limit" : String) : Str)).length = 12 := rfl
    refine ⟨_, rfl, fl, fun m hm => ?_⟩
    refine ⟨m, rfl, ?_, ?_⟩
    · rw [strLen_append, sizeLine_eq]
      show 0 + _ ≤ _
      omega
    refine ⟨" is no limit", rfl, ?_, ?_⟩
    · rw [strLen_append, strLen_append, sizeLine_eq, e5]
      show 0 + _ + _ ≤ _
      omega
    refine ⟨a, D, [_], rfl, by show 1 ≤ 1000; decide, T.ox, ha, ?_⟩
    refine ⟨_, rfl, _, rfl, ?_⟩
    exact ⟨a, D, rfl, T.ox, T.noN, ha, fun dx h1 h2 => k dx h1 h2⟩
abbrev sFullInit : Stmt := meth 7 0
theorem scFullInit : FnScope ["self", "process"] ["self", "process"] (defScope sFullInit) := ⟨rfl, rfl, rfl, by decide +kernel, rfl, by decide +kernel, by decide +kernel⟩
theorem okFullInit {D fI : Addr} {fdI : FuncData} (F : Fun K "__init__" "Full.__init__" sFullInit fI fdI) (gB : mg "OverflowError" = none) (fB : PySem.W.findCls K (.type "OverflowError") (.type "type") "__init__" = some (.val (.builtin "OverflowError.__init__"))) (T : ErrF K mg "Full" "process" D fI fdI "OverflowError.__new__" (.type "OverflowError" :: .type "ArithmeticError" :: exT)) : FnOk P w K mg base CX0 1 fI fdI ["self", "process"] (spErrInit D "process") := by
  refine F.ok scFullInit (fun vs H Q E h => ?_) (fun cdv A outer s H vs Q E hr h => ?_)
  · obtain ⟨a, n, rfl, _⟩ := h
    rfl
  · obtain ⟨a, n, rfl, fl, ha, k⟩ := h
    refine ⟨_, pss_cons (ps_expr (pe_binit bxOverflow (by rfl) gB fB (pa_cons (pv 0) (pa_cons (pe_joined (.cons pe_str (.cons (pe_fmtO hr (pv 1)) (.cons pe_str .nil)))) pa_nil))))
      (pss_one (ps_osb (f := "process") bxOverflow (pv 0) (pv 1))), ?_⟩
    walk_at "wn"
    show tCons _ _ _ _ _
    walk_at "wn"
    show tJs _ _ _ _ _
    have e5 : (((" has no free number" : String) : Str)).length = 19 := rfl
    have e6 : (((("process " : String) : Str))).length = 8 := rfl
    refine ⟨"process ", rfl, by decide, ?_⟩
    refine ⟨_, rfl, fl, fun m hm => ?_⟩
    refine ⟨m, rfl, ?_, ?_⟩
    · rw [strLen_append, strLen_append, sizeLine_eq, e6]
      show 0 + 8 + _ ≤ _
      omega
    refine ⟨" has no free number", rfl, ?_, ?_⟩
    · rw [strLen_append, strLen_append, strLen_append, sizeLine_eq, e5, e6]
      show 0 + 8 + _ + _ ≤ _
      omega
    refine ⟨a, D, [_], rfl, by show 1 ≤ 1000; decide, T.ox, ha, ?_⟩
    refine ⟨_, rfl, _, rfl, ?_⟩
    exact ⟨a, D, rfl, T.ox, T.noN, ha, fun dx h1 h2 => k dx h1 h2⟩
/-- the way out with an error of the class at D whose field is v -/
def OutV (D : Addr) (f : Str) (v : V) (H : Hp) (E : XK) : Prop := ∀ d H', H d = none → Same H H' → H' d = some (.xd [(f, v)]) → E (.ref D) (some d) H'
abbrev Out (D : Addr) (f : Str) (n : Int) (H : Hp) (E : XK) : Prop := OutV D f (.int n) H E
theorem out_madeV {D : Addr} {f : Str} {v : V} {H : Hp} {Q : XK} (fl : Flat H v) (k : OutV D f v H Q) :
    ([v].length ≤ 1000 ∧ ∀ a, H a = none → spErrInit D f (.ref a :: ([v] ++ [])) (upd H a (exo a D none)) (fun v H2 => v = .non ∧ ∃ (d : Addr) (fs : List (Str × V)), H2 a = some (exo a D (some d)) ∧ H2 d = some (exd d fs) ∧ H d = none ∧ Q (.ref D) (some d) (upd (del H2 a) d (.xd fs))) fun _ _ _ => False) := by
  refine ⟨by show 1 ≤ 1000; decide, fun a ha => ⟨a, v, rfl, fl.same (Same.new' ha), upd_same, fun d hd nd => ⟨rfl, d, [(f, v)], upd_same, ?_, ?_, ?_⟩⟩⟩
  · rw [upd_ne nd, upd_same]
  · rw [upd_ne nd] at hd
    exact hd
  · rw [upd_ne nd] at hd
    refine k d _ hd (fun b o e => ?_) upd_same
    have n1 : b ≠ d := fun z => by rw [z, hd] at e; cases e
    have n2 : b ≠ a := fun z => by rw [z, ha] at e; cases e
    rw [upd_ne n1]
    show (if b = a then none else _) = _
    rw [if_neg n2, upd_ne n2, upd_ne n1, upd_ne n2]
    exact e
theorem out_made {D : Addr} {f : Str} {n : Int} {H : Hp} {Q : XK} (h1 : n.natAbs.log2 < 1920) (_ : (Str.ofString (toString n)).length ≤ 700) (k : Out D f n H Q) :
    ([V.int n].length ≤ 1000 ∧ ∀ a, H a = none → spErrInit D f (.ref a :: ([V.int n] ++ [])) (upd H a (exo a D none)) (fun v H2 => v = .non ∧ ∃ (d : Addr) (fs : List (Str × V)), H2 a = some (exo a D (some d)) ∧ H2 d = some (exd d fs) ∧ H d = none ∧ Q (.ref D) (some d) (upd (del H2 a) d (.xd fs))) fun _ _ _ => False) := out_madeV (.int n h1) k
theorem small_int {n : Int} (h0 : 0 ≤ n) (h1 : n ≤ 1000) : n.natAbs.log2 < 1920 ∧ (Str.ofString (toString n)).length ≤ 700 := by
  refine ⟨?_, ?_⟩
  · have : n.natAbs.log2 ≤ n.natAbs := Nat.log2_le_self _
    omega
  · have := toString_length_le (v := n) h0 (k := 4) (by decide) (by omega)
    omega
end

abbrev sNewSet : Stmt := meth 19 5
abbrev OpenE (K : PySem.W.Frag) (mg : Str → Option Value) (D fI : Addr) (fdI : FuncData) : Prop := ErrF K mg "NotOpen" "number" D fI fdI "LookupError.__new__" (.type "LookupError" :: exT)
abbrev FullE (K : PySem.W.Frag) (mg : Str → Option Value) (D fI : Addr) (fdI : FuncData) : Prop := ErrF K mg "Full" "process" D fI fdI "OverflowError.__new__" (.type "OverflowError" :: .type "ArithmeticError" :: exT)
theorem Out.same {D : Addr} {f : Str} {n : Int} {H H1 : Hp} {E : XK} (k : Out D f n H E) (s : Same H H1) : Out D f n H1 E := fun d H' hd s' e => k d H' (s.free hd) (s.trans s') e
/-- what a number means in a process -/
structure Opn (S : Sys) (p n : Int) (x : Option Int) : Prop where
  pr : p ∈ S.procs
  lo : 0 ≤ n
  at_ : n ≤ S.N - 1 → (S.tab p)[n.toNat]? = some x
  out : S.N - 1 < n → x = none
def Ful (t : List (Option Int)) : Prop := ∀ i, i < t.length → ∃ x, t[i]? = some (some x)
section
variable {P : Program} {w : World} {K : PySem.W.Frag} {mg : Str → Option Value} {base : Heap} {C : Cs}
/-- a method that may raise -/
structure ME (P : Program) (w : World) (K : PySem.W.Frag) (mg : Str → Option Value) (base : Heap) (k : Nat) (C : Addr) (m : Str) (ps : List Str) (sp : Sp) (f : Addr) (fd : FuncData) : Prop where
  g : FnOk P w K mg base (L2.CX P w) k f fd ps sp
  m : Meth K C m f
  b : Binds K fd ps []
/-! thing_at -/
def spThingAt (C : Cs) (D : Addr) : Sp := fun vs H Q E => ∃ (p n : Int) (x : Option Int), OnSys C vs H [.int p, .int n] fun S _ _ => Opn S p n x ∧ n ≤ 1000 ∧ (∀ t, x = some t → Q (.int t) H) ∧ (x = none → Out D "number" n H E)
theorem scThingAt : FnScope ["self", "process", "number", "table"] ["self", "process", "number"] (defScope sThingAt) := ⟨rfl, rfl, rfl, by decide +kernel, rfl, by decide +kernel, by decide +kernel⟩
theorem okThingAt {D f fT fN fI : Addr} {fd fdT fdN fdI : FuncData} (F : Fun K "thing_at" "System.thing_at" sThingAt f fd) (T : ClsF K C.S sysF) (TE : OpenE K mg D fI fdI) (GI : FnOk P w K mg base CX0 1 fI fdI ["self", "number"] (spErrInit D "number"))
    (GT : MO P w K mg base 3 C.S "table_of" ["self", "process"] (spTableOf C) fT fdT) (GN : MO P w K mg base 3 C.S "is_table_number" ["self", "number"] (spIsTabNum C) fN fdN) :
    FnOk P w K mg base (L2.CX P w) 4 f fd ["self", "process", "number"] (spThingAt C D) := by
  refine F.okX scThingAt (fun vs H Q E h => ?_) (fun cdv A outer s H vs Q E hr h => ?_)
  · obtain ⟨_, _, _, _, _, _, rfl, _⟩ := h
    rfl
  · obtain ⟨p, n, x, S, ad, dx, rfl, A0, M, hz, k1, k2⟩ := h
    have hr2 : Room 2 _ := hr.mono (by decide)
    refine ⟨_, pss_cons (ps_set (i := 3) scThingAt.nd rfl (Or.inl rfl) (pe_meth (pv 0) T.cl GT.m GT.g hr GT.b .nil pass0 (pa_cons (pv 1) pa_nil)))
      (pss_cons (ps_if (PW.pt (pw_or (pt_not (pt_val (pe_meth (pv 0) T.cl GN.m GN.g hr GN.b .nil pass0 (pa_cons (pv 2) pa_nil)))) (pw_or1 (pt_cmpR oIsN (pe_ix ix_list (pv 3) (pv 2) (fun _ _ => rfl)) pe_non (nomark _)))))
          (pss_one (ps_raise rfl (takes_of rfl rfl rfl rfl) (pmk_oxb bxLookup TE.ox TE.iC TE.tI GI hr2 TE.bI .nil pass0 (by rfl) TE.gC (pa_cons (pv 2) pa_nil)))) pss_nil)
      (pss_one (ps_ret (pe_ix ix_list (pv 3) (pv 2) (fun _ _ => rfl))))), ?_⟩
    have hb := A0.at_ .box trivial
    have ht := A0.at_ (.tab p) M.pr
    have sm := small_int M.lo hz
    walk_at "wn"
    refine ⟨_, rfl, ad .box, dx .box, _, rfl, hb, rfl, ?_⟩
    walk_at "wn"
    refine ⟨p, S, ad, dx, rfl, A0, M.pr, ?_⟩
    walk_at "wn"
    refine ⟨_, rfl, ad .box, dx .box, _, rfl, hb, rfl, ?_⟩
    walk_at "wn"
    refine ⟨.int n, S, ad, dx, rfl, A0, .int n, ?_⟩
    rw [show inB (.int n) 0 (S.N - 1) = (decide (0 ≤ n) && decide (n ≤ S.N - 1)) from rfl, decide_eq_true M.lo]
    by_cases hn : n ≤ S.N - 1
    · obtain ⟨m, hm⟩ := Int.eq_ofNat_of_zero_le M.lo
      have hat : atI ((S.tab p).map optV) n = some (optV x) := by
        have e := M.at_ hn
        rw [hm] at e ⊢
        refine atI_nat ?_
        rw [List.getElem?_map, show (S.tab p)[m]? = some x from e]
        rfl
      rw [decide_eq_true hn]
      walk_at "wn"
      refine ⟨_, rfl, ?_⟩
      walk_at "wn"
      refine ⟨ad (.tab p), _, n, _, rfl, rfl, SqL.of ht, hat, ?_⟩
      walk_at "wn"
      cases x with
      | none =>
        have e : decide (optV none = V.non) = true := decide_eq_true rfl
        rw [e]
        walk_at "wn"
        show tCons _ _ _ _ _
        walk_at "wn"
        exact out_made sm.1 sm.2 (k2 rfl)
      | some t =>
        have e : decide (optV (some t) = V.non) = false := decide_eq_false fun z => nomatch z
        rw [e]
        walk_at "wn"
        exact ⟨ad (.tab p), _, n, _, rfl, rfl, SqL.of ht, hat, k1 t rfl⟩
    · rw [decide_eq_false hn]
      walk_at "wn"
      refine ⟨_, rfl, ?_⟩
      walk_at "wn"
      exact out_made sm.1 sm.2 (k2 (M.out (by omega)))
/-! free_number -/
def spFreeNum (C : Cs) (D : Addr) : Sp := fun vs H Q E => ∃ p : Int, OnSys C vs H [.int p] fun S _ _ => p ∈ S.procs ∧ 0 ≤ p ∧ p ≤ 1000 ∧ (S.tab p).length ≤ 1000 ∧ (∀ n, firstFree (S.tab p) n → ∀ H', Same H H' → Q (.int (n : Int)) H') ∧ (Ful (S.tab p) → Out D "process" p H E)
theorem scFreeNum : FnScope ["self", "process", "number", "thing"] ["self", "process"] (defScope sFreeNum) := ⟨rfl, rfl, rfl, by decide +kernel, rfl, by decide +kernel, by decide +kernel⟩
theorem okFreeNum {D f fT fI : Addr} {fd fdT fdI : FuncData} (F : Fun K "free_number" "System.free_number" sFreeNum f fd) (X : SysTxt mg) (T : ClsF K C.S sysF) (TE : FullE K mg D fI fdI) (GI : FnOk P w K mg base CX0 1 fI fdI ["self", "process"] (spErrInit D "process")) (GT : MO P w K mg base 3 C.S "table_of" ["self", "process"] (spTableOf C) fT fdT) :
    FnOk P w K mg base (L2.CX P w) 4 f fd ["self", "process"] (spFreeNum C D) := by
  refine F.okX scFreeNum (fun vs H Q E h => ?_) (fun cdv A outer s H vs Q E hr h => ?_)
  · obtain ⟨_, _, _, _, rfl, _⟩ := h
    rfl
  · obtain ⟨p, S, ad, dx, rfl, A0, hp, p0, p1, hl, k1, k2⟩ := h
    have hr2 : Room 2 _ := hr.mono (by decide)
    refine ⟨_, pss_cons (ps_for PassesOwn.leaving rfl (pi_enum (by rfl) X.enum (pa_cons (pe_meth (pv 0) T.cl GT.m GT.g hr GT.b .nil pass0 (pa_cons (pv 1) pa_nil)) pa_nil)) (pg_tup rfl (pgs_cons (pg_name (i := 2) scFreeNum.nd rfl (Or.inl rfl)) (pgs_cons (pg_name (i := 3) scFreeNum.nd rfl (Or.inl rfl)) pgs_nil)))
        (pss_one (ps_if (pt_cmpR oIsN (pv 3) pe_non (nomark _)) (pss_one (ps_ret (pv 2))) pss_nil)))
      (pss_one (ps_raise rfl (takes_of rfl rfl rfl rfl) (pmk_oxb bxOverflow TE.ox TE.iC TE.tI GI hr2 TE.bI .nil pass0 (by rfl) TE.gC (pa_cons (pv 1) pa_nil)))), ?_⟩
    have hb := A0.at_ .box trivial
    have ht := A0.at_ (.tab p) hp
    have sml := small_int p0 p1
    refine ⟨_, rfl, ad .box, dx .box, _, rfl, hb, rfl, ?_⟩
    walk_at "wn"
    refine ⟨p, S, ad, dx, rfl, A0, hp, ?_⟩
    refine ⟨ad (.tab p), _, rfl, SqL.of ht, ?_⟩
    refine for_it (walk_enum (xs := (S.tab p).map optV)) (fun i σ' H1 => ∃ u v : Option V, σ' = [some (.ref (ad .box)), some (.int p), u, v] ∧ Same H H1 ∧ ∀ j, j < i → ∃ x, (S.tab p)[j]? = some (some x)) ⟨_, _, rfl, Same.refl _, fun j h => absurd h (Nat.not_lt_zero _)⟩ (fun i σ' H1 _ ⟨_, _, _, sm, _⟩ => Same.seq sm (SqL.of ht)) ?_ ?_
    · rintro i x σ' H1 H2 hi ⟨u, v, rfl, sm, hlo⟩ ⟨T1, x1, y1, rfl, nT, rfl, ex, ey⟩
      have smT := sm.trans (Same.new' (o := .tup [x1, y1]) nT)
      obtain rfl := Option.some.inj ex
      have ey : ((S.tab p).map optV)[i]? = some y1 := ey
      rw [List.getElem?_map] at ey
      refine ⟨T1, _, rfl, SqT.of upd_same, rfl, _, _, rfl, ?_⟩
      walk_at "wn"
      refine ⟨_, _, rfl, ?_⟩
      walk_at "wn"
      refine ⟨rfl, ?_⟩
      walk_at "wn"
      cases et : (S.tab p)[i]? with
      | none => rw [et] at ey; cases ey
      | some x =>
      rw [et] at ey
      cases ey
      cases x with
      | some t =>
        have e : decide (optV (some t) = V.non) = false := decide_eq_false fun z => nomatch z
        rw [e]
        walk_at "wn"
        refine ⟨_, _, rfl, smT, fun j hj => ?_⟩
        rcases Nat.lt_or_ge j i with z | z
        · exact hlo j z
        · obtain rfl : j = i := by omega
          exact ⟨t, et⟩
      | none =>
        have e : decide (optV none = V.non) = true := decide_eq_true rfl
        rw [e]
        walk_at "wn"
        exact k1 i ⟨et, hlo⟩ _ smT
    · rintro σ' H1 ⟨u, v, rfl, sm, hlo⟩
      rw [List.length_map] at hlo
      show tMkO D (spErrInit D "process") [] (tCons (tVar 1) tNil) _ H1 fun cls d H' => E cls d H'
      show tCons _ _ _ _ _
      walk_at "wn"
      exact out_made sml.1 sml.2 ((k2 hlo).same sm)
/-! new_thing -/
def spNewThing (C : Cs) (D : Addr) : Sp := fun vs H Q E => ∃ p : Int, OnSys C vs H [.int p] fun S ad dx => p ∈ S.procs ∧ 0 ≤ p ∧ p ≤ 1000 ∧ (S.tab p).length ≤ 1000 ∧
  (∀ n, firstFree (S.tab p) n → ∀ H' T, H T = none → H' T = some (.tup [.int (n : Int), .int S.next]) → At C H' (newThing S p n) ad dx → Step H S ad H' (newThing S p n) ad → Q (.ref T) H') ∧ (Ful (S.tab p) → Out D "process" p H E)
theorem scNewThing : FnScope ["self", "process", "number", "thing"] ["self", "process"] (defScope sNewThing) := ⟨rfl, rfl, rfl, by decide +kernel, rfl, by decide +kernel, by decide +kernel⟩
theorem okNewThing {D f fF : Addr} {fd fdF : FuncData} (F : Fun K "new_thing" "System.new_thing" sNewThing f fd) (T : ClsF K C.S sysF) (GF : ME P w K mg base 4 C.S "free_number" ["self", "process"] (spFreeNum C D) fF fdF) :
    FnOk P w K mg base (L2.CX P w) 5 f fd ["self", "process"] (spNewThing C D) := by
  refine F.okX scNewThing (fun vs H Q E h => ?_) (fun cdv A outer s H vs Q E hr h => ?_)
  · obtain ⟨_, _, _, _, rfl, _⟩ := h
    rfl
  · obtain ⟨p, S, ad, dx, rfl, A0, hp, p0, p1, hl, k1, k2⟩ := h
    have hu := hu_of hr
    refine ⟨_, pss_cons (ps_set (i := 2) scNewThing.nd rfl (Or.inl rfl) (pe_meth (pv 0) T.cl GF.m GF.g hr GF.b .nil (passX (takes_of rfl rfl rfl rfl)) (pa_cons (pv 1) pa_nil)))
      (pss_cons (ps_set (i := 3) scNewThing.nd rfl (Or.inl rfl) (pe_fld (pv 0) rfl))
      (pss_cons (ps_fldaug (pv 0) pe_int in_add)
      (pss_cons (ps_asg (pv 3) (pg_sub (pe_dget hu (pe_fld (pv 0) rfl) (pv 1) (fun _ _ => rfl)) (pv 2) set_list))
      (pss_one (ps_ret (pe_tup (pa_cons (pv 2) (pa_cons (pv 3) pa_nil)))))))), ?_⟩
    walk_at "wn"
    refine ⟨_, rfl, ad .box, dx .box, _, rfl, A0.at_ .box trivial, rfl, ?_⟩
    walk_at "wn"
    refine ⟨p, S, ad, dx, rfl, A0, hp, p0, p1, hl, fun n hf H1 s1 => ?_, k2⟩
    have A1 := A0.same s1
    have hb := A1.at_ .box trivial
    have ht := A1.at_ (.tab p) hp
    have nbt : ad .box ≠ ad (.tab p) := A1.ne (c := .box) (c' := .tab p) trivial hp (by intro z; cases z)
    have nbd : ad .tabD ≠ ad .box := A1.ne (c := .tabD) (c' := .box) trivial trivial (by intro z; cases z)
    walk_at "wn"
    refine ⟨_, rfl, ad .box, C.S, dx .box, _, _, rfl, hb, T.cl, T.no _ (by decide), rfl, ?_⟩
    walk_at "wn"
    refine ⟨_, rfl, ad .box, C.S, dx .box, _, _, rfl, hb, T.cl, T.no _ (by decide), rfl, ?_⟩
    refine ⟨_, _, rfl, rfl, ?_⟩
    refine ⟨_, _, hb, by show 6 < 1000; decide, ?_⟩
    walk_at "wn"
    have hv : valV (entKV S.procs fun p => ad (.tab p)) (Sum.inl p) = some (.ref (ad (.tab p))) := by rw [ent_val, if_pos hp]
    refine ⟨_, rfl, ad .box, C.S, dx .box, _, _, rfl, upd_same, T.cl, T.no _ (by decide), rfl, ?_⟩
    refine ⟨_, rfl, ad .tabD, _, rfl, hv ▸ DGet.k (k := Sum.inl p) (by rw [upd_ne nbd]; exact A1.at_ .tabD trivial), ?_⟩
    have hn : n < (S.tab p).length := (List.getElem?_eq_some_iff.mp hf.1).1
    refine ⟨_, rfl, ad (.tab p), _, _, n, rfl, rfl, by rw [upd_ne (Ne.symm nbt)]; exact ht, by rw [List.length_map]; exact ixN_nat hn, ?_⟩
    walk_at "wn"
    refine ⟨by show 2 ≤ sizeLine; decide, fun T1 hT => ?_⟩
    have nTt : T1 ≠ ad (.tab p) := fun z => by rw [z, upd_same] at hT; cases hT
    rw [upd_ne nTt] at hT
    have nTb : T1 ≠ ad .box := fun z => by rw [z, upd_same] at hT; cases hT
    rw [upd_ne nTb] at hT
    refine (fun z : At C _ _ _ _ ∧ Step _ _ _ _ _ _ => k1 n hf _ T1 (s1.free hT) upd_same z.1 ((Step.same s1).trans z.2)) ?_
    refine At.re2 [.box, .tab p] A1 (fun c l => by cases c <;> exact l) (fun c hc => ?_) (fun c hc => ?_) (fun c hc l => ?_) (fun b o n e => ?_)
    · simp only [List.mem_cons, List.not_mem_nil, or_false] at hc
      rcases hc with rfl | rfl
      · exact trivial
      · exact hp
    · simp only [List.mem_cons, List.not_mem_nil, or_false] at hc
      rcases hc with rfl | rfl
      · rw [upd_ne (Ne.symm nTb), upd_ne nbt, upd_same]
        rfl
      · rw [upd_ne (Ne.symm nTt), upd_same]
        show _ = some (HO.lst ((if p = p then (S.tab p).set n (some S.next) else S.tab p).map optV))
        rw [if_pos rfl, List.map_set]
        rfl
    · cases c with
      | box => exact absurd List.mem_cons_self hc
      | tab q =>
        have nq : q ≠ p := fun z => hc (by rw [z]; simp)
        show HO.lst ((if q = p then (S.tab p).set n (some S.next) else S.tab q).map optV) = _
        rw [if_neg nq]
        rfl
      | _ => rfl
    · have n1 := n .box (by simp)
      have n2 := n (.tab p) (by simp)
      rw [upd_ne (ne_of_none e hT), upd_ne n2, upd_ne n1]
      exact e
def newSource (S : Sys) (p : Int) (n : Nat) : Sys := { newThing S p n with
  srcs := S.srcs ++ [S.next]
  unit := fun j => if j = S.next then (0, false) else S.unit j }
def newSet (S : Sys) (p : Int) (n : Nat) : Sys := { newThing S p n with
  sets := S.sets ++ [S.next] }
def spNewSource (C : Cs) (D : Addr) : Sp := fun vs H Q E => ∃ p : Int, OnSys C vs H [.int p] fun S ad dx => p ∈ S.procs ∧ 0 ≤ p ∧ p ≤ 1000 ∧ (S.tab p).length ≤ 1000 ∧ S.srcs.length ≤ 1000 ∧ S.next ∉ S.srcs ∧
  (∀ n, firstFree (S.tab p) n → ∀ H' ad', At C H' (newSource S p n) ad' dx → Step H S ad H' (newSource S p n) ad' → Q (.int (n : Int)) H') ∧ (Ful (S.tab p) → Out D "process" p H E)
theorem scNewSource : FnScope ["self", "process", "number", "thing"] ["self", "process"] (defScope sNewSource) := ⟨rfl, rfl, rfl, by decide +kernel, rfl, by decide +kernel, by decide +kernel⟩
theorem okNewSource {D f fN : Addr} {fd fdN : FuncData} (F : Fun K "new_source" "System.new_source" sNewSource f fd) (T : ClsF K C.S sysF) (GN : ME P w K mg base 5 C.S "new_thing" ["self", "process"] (spNewThing C D) fN fdN) :
    FnOk P w K mg base (L2.CX P w) 6 f fd ["self", "process"] (spNewSource C D) := by
  refine F.okX scNewSource (fun vs H Q E h => ?_) (fun cdv A outer s H vs Q E hr h => ?_)
  · obtain ⟨_, _, _, _, rfl, _⟩ := h
    rfl
  · obtain ⟨p, S, ad, dx, rfl, A0, hp, p0, p1, hl, hz, hnx, k1, k2⟩ := h
    have hu := hu_of hr
    refine ⟨_, pss_cons (ps_asg (pe_meth (pv 0) T.cl GN.m GN.g hr GN.b .nil (passX (takes_of rfl rfl rfl rfl)) (pa_cons (pv 1) pa_nil)) (pg_tup rfl (pgs_cons (pg_name (i := 2) scNewSource.nd rfl (Or.inl rfl)) (pgs_cons (pg_name (i := 3) scNewSource.nd rfl (Or.inl rfl)) pgs_nil))))
      (pss_cons (ps_dput hu (pe_fld (pv 0) rfl) (pv 3) (pe_tup (pa_cons pe_int (pa_cons pe_bl pa_nil))) rfl) (pss_one (ps_ret (pv 2)))), ?_⟩
    walk_at "wn"
    refine ⟨_, rfl, ad .box, dx .box, _, rfl, A0.at_ .box trivial, rfl, ?_⟩
    walk_at "wn"
    refine ⟨p, S, ad, dx, rfl, A0, hp, p0, p1, hl, fun n hf H1 T1 hT1 hT A1 st1 => ?_, k2⟩
    refine ⟨T1, _, rfl, SqT.of hT, rfl, _, _, rfl, ?_⟩
    walk_at "wn"
    refine ⟨_, _, rfl, ?_⟩
    walk_at "wn"
    refine ⟨rfl, ?_⟩
    walk_at "wn"
    refine ⟨by show 2 ≤ sizeLine; decide, fun T2 hT2 => ?_⟩
    have hb := A1.at_ .box trivial
    have hD : H1 (ad .srcD) = some (.dK (entKV S.srcs fun t => ad (.srcT t))) := A1.at_ .srcD trivial
    have nTD : T2 ≠ ad .srcD := fun z => by rw [z, hD] at hT2; cases hT2
    have nTb : ad .box ≠ T2 := ne_of_none hb hT2
    refine ⟨_, rfl, ad .box, C.S, dx .box, _, _, rfl, by rw [upd_ne nTb]; exact hb, T.cl, T.no _ (by decide), rfl, ?_⟩
    refine ⟨_, rfl, ad .srcD, _, rfl, DPut.k (k := Sum.inl S.next) (by rw [upd_ne (Ne.symm nTD)]; exact hD) (by unfold entKV; rw [List.length_map, sizeLine_eq]; omega), ?_⟩
    walk_at "wn"
    refine (fun z : At C _ _ _ _ ∧ Step H1 (newThing S p n) ad _ _ _ => k1 n hf _ (setA ad (.srcT S.next) T2) z.1 (st1.trans z.2)) ?_
    refine At.re3 [.srcD, .srcT S.next] A1 (fun c lc => ?_) (fun c hc lc => ?_) (fun c hc lc => ?_) (fun c hc lc => ?_) (fun c hc c' hc' lc lc' z e => ?_) (fun b o nb e => ?_) (setA_ne (by intro z; cases z))
    · cases c with
      | srcT t =>
        rcases List.mem_append.mp (show t ∈ S.srcs ++ [S.next] from lc) with y | y
        · exact .inr y
        · rw [List.mem_singleton.mp y]
          exact .inl (by simp)
      | _ => exact .inr lc
    · simp only [List.mem_cons, List.not_mem_nil, or_false] at hc
      rcases hc with rfl | rfl
      · rw [setA_ne (by intro z; cases z), upd_same, ent_put, if_neg hnx, srcT_fun]
        rfl
      · rw [setA_same, upd_ne nTD, upd_same]
        show _ = some (HO.tup [.int (if S.next = S.next then ((0 : Int), false) else S.unit S.next).1, .bl (if S.next = S.next then ((0 : Int), false) else S.unit S.next).2])
        rw [if_pos rfl]
    · have n1 : c ≠ .srcD := fun z => hc (by rw [z]; simp)
      have n2 : c ≠ .srcT S.next := fun z => hc (by rw [z]; simp)
      refine ⟨setA_ne n2, ?_⟩
      cases c with
      | srcD => exact absurd rfl n1
      | srcT j =>
        have nj : j ≠ S.next := fun z => n2 (by rw [z])
        show HO.tup [.int (if j = S.next then ((0 : Int), false) else S.unit j).1, .bl (if j = S.next then ((0 : Int), false) else S.unit j).2] = _
        rw [if_neg nj]
        rfl
      | _ => rfl
    · simp only [List.mem_cons, List.not_mem_nil, or_false] at hc
      rcases hc with rfl | rfl
      · exact .inl ⟨setA_ne (by intro z; cases z), trivial⟩
      · exact .inr (by rw [setA_same]; exact hT2)
    · simp only [List.mem_cons, List.not_mem_nil, or_false] at hc hc'
      rcases hc with rfl | rfl
      · rw [setA_ne (by intro z; cases z), hD] at z
        cases z
      · rcases hc' with rfl | rfl
        · rw [setA_same, setA_ne (by intro z; cases z)] at e
          exact absurd e nTD
        · rfl
    · rw [upd_ne (nb .srcD (by simp) trivial), upd_ne (ne_of_none e hT2)]
      exact e
def spNewSet (C : Cs) (D : Addr) : Sp := fun vs H Q E => ∃ p : Int, OnSys C vs H [.int p] fun S ad dx => p ∈ S.procs ∧ 0 ≤ p ∧ p ≤ 1000 ∧ (S.tab p).length ≤ 1000 ∧ S.sets.length ≤ 1000 ∧ S.next ∉ S.sets ∧
  (∀ n, firstFree (S.tab p) n → ∀ H' ad' dx', At C H' (newSet S p n) ad' dx' → Step H S ad H' (newSet S p n) ad' → Q (.int (n : Int)) H') ∧ (Ful (S.tab p) → Out D "process" p H E)
theorem scNewSet : FnScope ["self", "process", "number", "thing"] ["self", "process"] (defScope sNewSet) := ⟨rfl, rfl, rfl, by decide +kernel, rfl, by decide +kernel, by decide +kernel⟩
theorem okNewSet {D f fN fI : Addr} {fd fdN fdI : FuncData} (F : Fun K "new_set" "System.new_set" sNewSet f fd) (T : ClsF K C.S sysF) (GN : ME P w K mg base 5 C.S "new_thing" ["self", "process"] (spNewThing C D) fN fdN)
    (gW : mg "WaitingSet" = some (.ref C.W)) (MW : Mk K C.W fI) (GI : FnOk P w K mg base CX0 1 fI fdI ["self"] (spWsInit C.W)) (bI : Binds K fdI ["self"] []) :
    FnOk P w K mg base (L2.CX P w) 6 f fd ["self", "process"] (spNewSet C D) := by
  refine F.okX scNewSet (fun vs H Q E h => ?_) (fun cdv A outer s H vs Q E hr h => ?_)
  · obtain ⟨_, _, _, _, rfl, _⟩ := h
    rfl
  · obtain ⟨p, S, ad, dx, rfl, A0, hp, p0, p1, hl, hz, hnx, k1, k2⟩ := h
    have hu := hu_of hr
    have hr2 : Room 2 _ := hr.mono (by decide)
    refine ⟨_, pss_cons (ps_asg (pe_meth (pv 0) T.cl GN.m GN.g hr GN.b .nil (passX (takes_of rfl rfl rfl rfl)) (pa_cons (pv 1) pa_nil)) (pg_tup rfl (pgs_cons (pg_name (i := 2) scNewSet.nd rfl (Or.inl rfl)) (pgs_cons (pg_name (i := 3) scNewSet.nd rfl (Or.inl rfl)) pgs_nil))))
      (pss_cons (ps_dput hu (pe_fld (pv 0) rfl) (pv 3) (pe_make0 MW GI hr2 (by rfl) gW bI .nil pass0) rfl) (pss_one (ps_ret (pv 2)))), ?_⟩
    walk_at "wn"
    refine ⟨_, rfl, ad .box, dx .box, _, rfl, A0.at_ .box trivial, rfl, ?_⟩
    walk_at "wn"
    refine ⟨p, S, ad, dx, rfl, A0, hp, p0, p1, hl, fun n hf H1 T1 hT1 hT A1 st1 => ?_, k2⟩
    refine ⟨T1, _, rfl, SqT.of hT, rfl, _, _, rfl, ?_⟩
    walk_at "wn"
    refine ⟨_, _, rfl, ?_⟩
    walk_at "wn"
    refine ⟨rfl, ?_⟩
    refine (fun x dx2 hx hdx ndx => ?_ : ∀ x dx2, _ → _ → _ → _)
    refine ⟨x, dx2, rfl, upd_same, fun H2 e q he hq h2e h2q h2x h2 => ⟨rfl, ?_⟩⟩
    have nex : e ≠ x := fun z => by rw [z, upd_same] at he; cases he
    have nqx : q ≠ x := fun z => by rw [z, upd_same] at hq; cases hq
    rw [upd_ne nex] at he
    rw [upd_ne nqx] at hq
    have ned : e ≠ dx2 := fun z => by rw [z, upd_same] at he; cases he
    have nqd : q ≠ dx2 := fun z => by rw [z, upd_same] at hq; cases hq
    rw [upd_ne ned] at he
    rw [upd_ne nqd] at hq
    have neq : e ≠ q := fun z => by rw [z, h2q] at h2e; cases h2e
    have s2 : Same H1 H2 := fun b o y => by
      rw [h2 b (ne_of_none y hx) (ne_of_none y he) (ne_of_none y hq), upd_ne (ne_of_none y hx), upd_ne (ne_of_none y hdx)]
      exact y
    have A2 := A1.same s2
    have hb := A2.at_ .box trivial
    have hD : H2 (ad .setD) = some (.dK (entKV S.sets fun t => ad (.ws t))) := A2.at_ .setD trivial
    have hD1 : H1 (ad .setD) = some (.dK (entKV S.sets fun t => ad (.ws t))) := A1.at_ .setD trivial
    have nxD : x ≠ ad .setD := fun z => by rw [z, hD1] at hx; cases hx
    have neD : e ≠ ad .setD := fun z => by rw [z, hD1] at he; cases he
    have nqD : q ≠ ad .setD := fun z => by rw [z, hD1] at hq; cases hq
    refine ⟨_, rfl, ad .box, C.S, dx .box, _, _, rfl, hb, T.cl, T.no _ (by decide), rfl, ?_⟩
    refine ⟨_, rfl, ad .setD, _, rfl, DPut.k (k := Sum.inl S.next) hD (by unfold entKV; rw [List.length_map, sizeLine_eq]; omega), ?_⟩
    walk_at "wn"
    have wf : (fun j => if j = S.next then x else ad (.ws j)) = fun j => setA (setA (setA ad (.ws S.next) x) (.ent S.next) e) (.que S.next) q (.ws j) := by
      funext j
      rw [setA_ne (by intro z; cases z), setA_ne (by intro z; cases z)]
      by_cases h : j = S.next
      · rw [if_pos h, h, setA_same]
      · rw [if_neg h, setA_ne fun z => h (by cases z; rfl)]
    have aw : setA (setA (setA ad (.ws S.next) x) (.ent S.next) e) (.que S.next) q (.ws S.next) = x := by rw [setA_ne (by intro z; cases z), setA_ne (by intro z; cases z), setA_same]
    have ae : setA (setA (setA ad (.ws S.next) x) (.ent S.next) e) (.que S.next) q (.ent S.next) = e := by rw [setA_ne (by intro z; cases z), setA_same]
    have aq : setA (setA (setA ad (.ws S.next) x) (.ent S.next) e) (.que S.next) q (.que S.next) = q := setA_same
    have ao : ∀ c, c ≠ .ws S.next → c ≠ .ent S.next → c ≠ .que S.next → setA (setA (setA ad (.ws S.next) x) (.ent S.next) e) (.que S.next) q c = ad c := fun c h1 h2 h3 => by rw [setA_ne h3, setA_ne h2, setA_ne h1]
    refine (fun z : At C _ _ _ _ ∧ Step H1 (newThing S p n) ad _ _ _ => k1 n hf _ (setA (setA (setA ad (.ws S.next) x) (.ent S.next) e) (.que S.next) q) (setA dx (.ws S.next) dx2) z.1 (st1.trans z.2)) ?_
    refine At.re3 [.setD, .ws S.next, .ent S.next, .que S.next] A1 (fun c lc => ?_) (fun c hc lc => ?_) (fun c hc lc => ?_) (fun c hc lc => ?_) (fun c hc c' hc' lc lc' z ee => ?_) (fun b o nb ee => ?_) (ao _ (by intro z; cases z) (by intro z; cases z) (by intro z; cases z))
    · have split : ∀ t, t ∈ S.sets ++ [S.next] → t ∈ S.sets ∨ t = S.next := fun t h => by
        rcases List.mem_append.mp h with y | y
        · exact .inl y
        · exact .inr (List.mem_singleton.mp y)
      cases c with
      | ws t =>
        rcases split t lc with y | rfl
        · exact .inr y
        · exact .inl (by simp)
      | ent t =>
        rcases split t lc with y | rfl
        · exact .inr y
        · exact .inl (by simp)
      | que t =>
        rcases split t lc with y | rfl
        · exact .inr y
        · exact .inl (by simp)
      | _ => exact .inr lc
    · simp only [List.mem_cons, List.not_mem_nil, or_false] at hc
      rcases hc with rfl | rfl | rfl | rfl
      · rw [ao _ (by intro z; cases z) (by intro z; cases z) (by intro z; cases z), upd_same, ent_put, if_neg hnx, wf]
        rfl
      · rw [aw, upd_ne nxD, h2x]
        show _ = some (wsO C.W (setA dx (.ws S.next) dx2 (.ws S.next)) _ _)
        rw [setA_same, ae, aq]
      · rw [ae, upd_ne neD, h2e]
        rfl
      · rw [aq, upd_ne nqD, h2q]
        rfl
    · have n1 : c ≠ .setD := fun z => hc (by rw [z]; simp)
      have n2 : c ≠ .ws S.next := fun z => hc (by rw [z]; simp)
      have n3 : c ≠ .ent S.next := fun z => hc (by rw [z]; simp)
      have n4 : c ≠ .que S.next := fun z => hc (by rw [z]; simp)
      refine ⟨ao c n2 n3 n4, ?_⟩
      cases c with
      | setD => exact absurd rfl n1
      | ws t =>
        have nt : t ≠ S.next := fun z => n2 (by rw [z])
        show wsO C.W (setA dx (.ws S.next) dx2 (.ws t)) _ _ = _
        rw [setA_ne n2, ao (.ent t) (by intro z; cases z) (fun z => nt (by cases z; rfl)) (by intro z; cases z), ao (.que t) (by intro z; cases z) (by intro z; cases z) (fun z => nt (by cases z; rfl))]
        rfl
      | _ => rfl
    · simp only [List.mem_cons, List.not_mem_nil, or_false] at hc
      rcases hc with rfl | rfl | rfl | rfl
      · exact .inl ⟨ao _ (by intro z; cases z) (by intro z; cases z) (by intro z; cases z), trivial⟩
      · exact .inr (by rw [aw]; exact hx)
      · exact .inr (by rw [ae]; exact he)
      · exact .inr (by rw [aq]; exact hq)
    · simp only [List.mem_cons, List.not_mem_nil, or_false] at hc hc'
      have oD : setA (setA (setA ad (.ws S.next) x) (.ent S.next) e) (.que S.next) q .setD = ad .setD := ao _ (by intro z; cases z) (by intro z; cases z) (by intro z; cases z)
      rcases hc with rfl | rfl | rfl | rfl
      · rw [oD, hD1] at z
        cases z
      · rcases hc' with rfl | rfl | rfl | rfl
        · rw [aw, oD] at ee
          exact absurd ee nxD
        · rfl
        · rw [aw, ae] at ee
          exact absurd ee.symm nex
        · rw [aw, aq] at ee
          exact absurd ee.symm nqx
      · rcases hc' with rfl | rfl | rfl | rfl
        · rw [ae, oD] at ee
          exact absurd ee neD
        · rw [aw, ae] at ee
          exact absurd ee nex
        · rfl
        · rw [ae, aq] at ee
          exact absurd ee neq
      · rcases hc' with rfl | rfl | rfl | rfl
        · rw [aq, oD] at ee
          exact absurd ee nqD
        · rw [aw, aq] at ee
          exact absurd ee nqx
        · rw [ae, aq] at ee
          exact absurd ee.symm neq
        · rfl
    · rw [upd_ne (nb .setD (by simp) trivial)]
      exact s2 _ _ ee
end

abbrev sNoRoomInit : Stmt := meth 8 0
abbrev sFork : Stmt := meth 19 8
abbrev sFreeProc : Stmt := meth 19 38
/-! an own error without fields -/
section
variable {X : Cx}
theorem mk_endN {pins : List (Addr × Obj)} {σ : L2.St} {H1 H2 : Hp} {Q : XK} {hp hp2 h2 : Heap} {g1 g2 : Array GenState} {d1 d2 : Drawn} {t1 t2 : Nat} {os1 os2 : OsState} {a C : Addr} (T : Raises X (.ref C)) (I1 : Inv X pins σ H1 ⟨hp, g1, d1, t1, os1⟩)
    (ha : hp.objs.size ≤ a) (k : ∀ b o, hp.get? b = some o → hp2.get? b = some o) (un : Un (frs X.stack) [] (upd H1 a (exo a C none)) H2 hp2 h2) (hok : HOk X.prog X.w H2 h2) (ho : os2 = os1) (hb : AllBare g2)
    (ea : H2 a = some (exo a C none)) (q : Q (.ref C) none (del H2 a)) : MkP X pins σ Q (.ref a) ⟨h2, g2, d2, t2, os2⟩ := by
  obtain ⟨t0, hoe⟩ := exo_at hok ea
  have hn : H1 a = none := I1.hok.fresh ha
  obtain ⟨G, g1', g2'⟩ := restrict h2 fun b => decide (b ≠ a)
  have gk : ∀ b, b ≠ a → G.get? b = h2.get? b := fun b hb => g1' b (decide_eq_true hb)
  have ge : G.get? a = none := g2' a (by simp)
  have nha : ∀ {b : Addr} {o : Obj}, hp.get? b = some o → b ≠ a := fun {b o} z => Nat.ne_of_lt (Nat.lt_of_lt_of_le (Heap.lt_size z) ha)
  have up : ∀ {b : Addr}, b ≠ a → H1 b = none → upd H1 a (exo a C none) b = none := fun {b} hb n => by rw [upd_ne hb]; exact n
  have U : Un (frs X.stack) [] H1 (del H2 a) hp G := {
    keep := fun b o z n hf hx => by
      rw [gk b (nha z)]
      exact un.keep b o (k b o z) (up (nha z) n) hf hx
    slot := fun b o z n hf hx => by
      rw [gk b (nha z)]
      exact un.slot b o (k b o z) (up (nha z) n) hf hx
    free := fun b o z n hx => by
      rw [del_ne (nha z)]
      exact un.free b o (k b o z) (up (nha z) n) hx
    there := fun b o z hx => by
      rw [gk b (nha z)]
      exact un.there b o (k b o z) hx
    tups := fun b xs z => by
      rw [del_ne (ne_of_none z hn)]
      exact un.tups b xs (by rw [upd_ne (ne_of_none z hn)]; exact z)
    frzs := fun b o v z => by
      rw [del_ne (ne_of_none z hn)]
      exact un.frzs b o v (by rw [upd_ne (ne_of_none z hn)]; exact z)
    tbls := fun b ps z => by
      rw [del_ne (ne_of_none z hn)]
      exact un.tbls b ps (by rw [upd_ne (ne_of_none z hn)]; exact z) }
  have hok3 : HOk X.prog X.w (del H2 a) G := fun b o z => by
    have hba : b ≠ a := fun e => by
      rw [e, del_same] at z
      cases z
    rw [del_ne hba] at z
    have noa : ∀ {c : Addr}, H2 c = some (.own b) → c ≠ a := fun {c} hc => at_ne ea hc exo_own
    exact (hok b o z).stay (fun c v hc y => by
        have hca : c ≠ a := by
          rcases hc with hc | hc
          · rw [hc]
            exact hba
          · exact noa hc
        rw [gk c hca]
        exact y)
      (fun c hc => by rw [del_ne (noa hc)]; exact hc) (fun c xs hc => by rw [del_ne (at_ne ea hc exo_tup)]; exact hc)
  have J : Inv X pins σ (del H2 a) ⟨G, g2, d2, t2, os2⟩ := I1.call' (ch := []) ho U hok3 hb (fun b z => absurd z (by simp))
  refine ⟨a, _, _, ⟨G, g2, d2, t2, os2⟩, _, .ref C, none, rfl, J, fun b o z => ?_, ge, hoe, ⟨rfl, rfl⟩, rfl, rfl, del_same, rfl, hb, T, q⟩
  by_cases hba : b = a
  · rw [hba, ge] at z
    cases z
  · exact (gk b hba).symm.trans z
/-- C(), an own error whose __init__ stores nothing -/
def tMkO0 (C : Addr) (sp : Sp) : L2.St → Hp → XK → Prop := fun _ H1 Q => ∀ a, H1 a = none → sp [.ref a] (upd H1 a (exo a C none)) (fun v H2 => v = .non ∧ H2 a = some (exo a C none) ∧ Q (.ref C) none (del H2 a)) fun _ _ _ => False
theorem pmk_oxb0 {CX : CXT} {n x : Str} {newId initId B : String} {tl : List Value} {C fI : Addr} {k : Nat} {fd : FuncData} {ps : List Str} {sp : Sp} {p pos : Pos} (Z : BX x B newId initId tl) (T : OxB X.K C newId (.type B :: tl)) (iC : PySem.W.findIn X.K (.ref C) "__init__" = some (some (.ref fI)))
    (tI : PySem.W.typeIn X.K (.ref fI) = some (.type "function")) (G : FnOk X.prog X.w X.K X.mg X.base CX k fI fd ps sp) (hr : Room (k + 1) X.A) (hb : Binds X.K fd ps []) (hx : Passes CX X (fun _ _ _ => False)) (hg : Gl X n) (hm : X.mg n = some (.ref C))
    (db : (n == ("__debug__" : Str)) = false := by decide) : PMk X (.Call (.Name n p) [] [] pos) (tMkO0 C sp) := by
  intro pins s σ H Q I h
  obtain ⟨nm, q, N, bs, sn, sub, ab, col, dd, k0, k1, k2, k3, k5, hC⟩ := T.cls
  refine wpAny_Call_Name_kw (ld_glob I hg hm ?_ db)
  refine PySem.W.callWith_K0 I.kIn T.kC ?_
  obtain ⟨hp, g, dr, tk, os⟩ := s
  show wpAny _ _ (call (.ref C) []) _ _ _
  have above : hp.objs.size ≤ hp.objs.size + 1 := Nat.le_succ _
  have want := h (hp.objs.size + 1) (I.hok.fresh above)
  have kp : ∀ b o, hp.get? b = some o → ((hp.push (PySem.W.kdv_tup [])).push (PySem.HandSPX.excO C hp.objs.size)).get? b = some o := fun b o z => Heap.get?_push_of_some _ (Heap.get?_push_of_some _ z)
  have here : ((hp.push (PySem.W.kdv_tup [])).push (PySem.HandSPX.excO C hp.objs.size)).get? (hp.objs.size + 1) = some (PySem.HandSPX.excO C hp.objs.size) := by heap_get
  have I2 : Inv X pins σ (upd H (hp.objs.size + 1) (exo (hp.objs.size + 1) C none)) ⟨(hp.push (PySem.W.kdv_tup [])).push (PySem.HandSPX.excO C hp.objs.size), g, dr, tk, os⟩ := I.laid (t' := tk) kp above (exo_ok here)
  have rs : Vals [V.ref (hp.objs.size + 1)] [Value.ref (hp.objs.size + 1)] := .cons rfl .nil
  have many : ([Value.ref (hp.objs.size + 1)] ++ []).length = ps.length := by rw [← G.len _ _ _ _ want]; rfl
  refine wpAny_call (PySem.HandSPX.call_own Z.bf (fun _ => rfl) (I.kIn _ _ hC) (PySem.W.looks_findIn I.kIn iC) (fun self => PySem.W.bind_fn I.kIn self tI) (Nat.zero_le _)
    (codeAny_mono (G.run _ X.stack _ _ ⟨[Value.ref (hp.objs.size + 1)], []⟩ [Value.ref (hp.objs.size + 1)] _ _ (fun _ _ _ => False) (hr.make C [] []) (I2.env0.make C [] []) (by have := hb ⟨(hp.push (PySem.W.kdv_tup [])).push (PySem.HandSPX.excO C hp.objs.size), g, dr, tk, os⟩ [Value.ref (hp.objs.size + 1)] I2.kIn many; simpa using this) rs want) fun r s' hq => ?_))
  rcases r with er | (_ | _ | _ | u)
  all_goals first | exact False.elim hq | exact hx pins σ _ _ er s' I2 hq | skip
  all_goals
    obtain ⟨v, H2, os2, bare2, un2, hok2, rv, ev, ea, q2⟩ := hq
    subst ev
    obtain ⟨h2, g2, d2, t2, os'⟩ := s'
    exact ⟨rv, mk_endN (raises_own T.exC T.tyC) I above kp un2 hok2 os2 bare2 ea q2⟩
end
/-- an error of the class at D without fields -/
structure ErrN (K : PySem.W.Frag) (mg : Str → Option Value) (nm : Str) (D fI : Addr) (fdI : FuncData) (newId : String) (bm : List Value) : Prop where
  gC : mg nm = some (.ref D)
  ox : OxB K D newId bm
  iC : PySem.W.findIn K (.ref D) "__init__" = some (some (.ref fI))
  tI : PySem.W.typeIn K (.ref fI) = some (.type "function")
  bI : Binds K fdI ["self"] []
  te : PySem.W.exmOne K (.ref D) (.ref D) = some true
  xf : XfC K D
def OutN (D : Addr) (H : Hp) (E : XK) : Prop := ∀ H', Same H H' → E (.ref D) none H'
abbrev NoRoomE (K : PySem.W.Frag) (mg : Str → Option Value) (D fI : Addr) (fdI : FuncData) : Prop := ErrN K mg "NoRoom" D fI fdI "OverflowError.__new__" (.type "OverflowError" :: .type "ArithmeticError" :: exT)
section
variable {P : Program} {w : World} {K : PySem.W.Frag} {mg : Str → Option Value} {base : Heap} {C : Cs}
def spErr0 (D : Addr) : Sp := fun vs H Q _ => ∃ a : Addr, vs = [.ref a] ∧ H a = some (exo a D none) ∧ Q .non H
theorem scNoRoomInit : FnScope ["self"] ["self"] (defScope sNoRoomInit) := ⟨rfl, rfl, rfl, by decide +kernel, rfl, by decide +kernel, by decide +kernel⟩
theorem okNoRoomInit {D fI : Addr} {fdI : FuncData} (F : Fun K "__init__" "NoRoom.__init__" sNoRoomInit fI fdI) (gB : mg "OverflowError" = none) (fB : PySem.W.findCls K (.type "OverflowError") (.type "type") "__init__" = some (.val (.builtin "OverflowError.__init__"))) (T : NoRoomE K mg D fI fdI) : FnOk P w K mg base CX0 1 fI fdI ["self"] (spErr0 D) := by
  refine F.ok scNoRoomInit (fun vs H Q E h => ?_) (fun cdv A outer s H vs Q E hr h => ?_)
  · obtain ⟨a, rfl, _⟩ := h
    rfl
  · obtain ⟨a, rfl, ha, k⟩ := h
    refine ⟨_, pss_one (ps_expr (pe_binit bxOverflow (by rfl) gB fB (pa_cons (pv 0) (pa_cons pe_str pa_nil)))), ?_⟩
    walk_at "wn"
    show tCons _ _ _ _ _
    walk_at "wn"
    refine ⟨a, D, [_], rfl, by show 1 ≤ 1000; decide, T.ox, ha, ?_⟩
    exact k
/-! fork -/
structure FreeP (S : Sys) (m : Nat) : Prop where
  no : (m : Int) ∉ S.procs
  lo : ∀ i : Nat, i < m → (i : Int) ∈ S.procs
  hi : (m : Int) < S.P
structure NoFree (S : Sys) : Prop where
  all : ∀ i : Nat, (i : Int) < S.P → (i : Int) ∈ S.procs
def spFreeProc (C : Cs) : Sp := fun vs H Q _ => OnSys C vs H [] fun S ad dx => S.P ≤ 1000 ∧ 0 ≤ S.P ∧ (∀ m : Nat, FreeP S m → Q (.int (m : Int)) H) ∧ (NoFree S → Q .non H)
theorem scFreeProc : FnScope ["self", "process"] ["self"] (defScope sFreeProc) := ⟨rfl, rfl, rfl, by decide +kernel, rfl, by decide +kernel, by decide +kernel⟩
theorem okFreeProc {f : Addr} {fd : FuncData} (F : Fun K "free_process" "System.free_process" sFreeProc f fd) (rng : mg "range" = none) (T : ClsF K C.S sysF) : FnOk P w K mg base CX0 1 f fd ["self"] (spFreeProc C) := by
  refine F.ok scFreeProc (fun vs H Q E h => ?_) (fun cdv A outer s H vs Q E hr h => ?_)
  · obtain ⟨_, _, _, rfl, _⟩ := h
    rfl
  · obtain ⟨S, ad, dx, rfl, A0, h2, h0, k, kn⟩ := h
    have hu := hu_of hr
    refine ⟨_, pss_cons (ps_for PassesOwn.never rfl (pi_range1 (by rfl) rng (pa_cons (pe_fld (pv 0) rfl) pa_nil)) (pg_name (i := 1) scFreeProc.nd rfl (Or.inl rfl))
      (pss_one (ps_if (pt_cmp (pc_dnotin hu (pv 1) (pe_fld (pv 0) rfl)) rfl) (pss_one (ps_ret (pv 1))) pss_nil))) (pss_one (ps_ret pe_non)), ?_⟩
    have hb := A0.at_ .box trivial
    walk_at "wn"
    show iRng1 _ _ _ _
    show tCons _ _ _ _ _
    walk_at "wn"
    refine ⟨_, rfl, ad .box, C.S, dx .box, _, _, rfl, hb, T.cl, T.no _ (by decide), rfl, ?_⟩
    walk_at "wn"
    refine ⟨_, rfl, by omega, by omega, ?_⟩
    refine for_range (lo := 0) (fun i σ' H1 => ∃ u : Option V, σ' = [some (.ref (ad .box)), u] ∧ H1 = H ∧ ∀ j : Nat, j < i → (j : Int) ∈ S.procs) ⟨_, rfl, rfl, fun j h => absurd h (Nat.not_lt_zero _)⟩ ?_ ?_
    · rintro i σ' H1 hi ⟨u, rfl, rfl, him⟩
      walk_at "wn"
      refine ⟨_, rfl, _, rfl, ad .box, C.S, dx .box, _, _, rfl, hb, T.cl, T.no _ (by decide), rfl, ?_⟩
      refine ⟨ad .tabD, _, rfl, DGet.k (k := Sum.inl (0 + (i : Int))) (A0.at_ .tabD trivial), ?_⟩
      rw [ent_val, Int.zero_add]
      by_cases hm : (i : Int) ∈ S.procs
      · rw [if_pos hm]
        refine ⟨_, rfl, ?_⟩
        show if false = true then _ else _
        walk_at "wn"
        refine ⟨_, rfl, rfl, fun j hj => ?_⟩
        rcases Nat.lt_or_ge j i with z | z
        · exact him j z
        · rw [show j = i by omega]
          exact hm
      · rw [if_neg hm]
        refine ⟨_, rfl, ?_⟩
        show if true = true then _ else _
        walk_at "wn"
        exact k i ⟨hm, him, by omega⟩
    · rintro σ' H1 ⟨u, rfl, rfl, him⟩
      walk_at "wn"
      exact kn ⟨fun i hi => him i (by omega)⟩
def forked (S : Sys) (p : Int) (m : Nat) : Sys := { S with procs := S.procs ++ [(m : Int)], tab := fun q => if q = (m : Int) then S.tab p else S.tab q }
def spFork (C : Cs) (D : Addr) : Sp := fun vs H Q E => ∃ (p : Int), OnSys C vs H [.int p] fun S ad dx => p ∈ S.procs ∧ S.P ≤ 1000 ∧ 0 ≤ S.P ∧ (S.tab p).length ≤ 900 ∧ S.procs.length ≤ 900 ∧ (∀ m : Nat, FreeP S m → ∀ H' ad', At C H' (forked S p m) ad' dx → Step H S ad H' (forked S p m) ad' → Q (.int (m : Int)) H') ∧ (NoFree S → OutN D H E)
theorem scFork : FnScope ["self", "process", "table", "other"] ["self", "process"] (defScope sFork) := ⟨rfl, rfl, rfl, by decide +kernel, rfl, by decide +kernel, by decide +kernel⟩
theorem tab_fun (ad : Cell → Addr) (t : Int) (T : Addr) : (fun j => if j = t then T else ad (.tab j)) = fun j => setA ad (.tab t) T (.tab j) := by
  funext j
  by_cases h : j = t
  · rw [if_pos h, h, setA_same]
  · rw [if_neg h, setA_ne fun z => h (by cases z; rfl)]
theorem okFork {D f fT fF fI : Addr} {fd fdT fdF fdI : FuncData} (F : Fun K "fork" "System.fork" sFork f fd) (X : SysTxt mg) (lst : mg "list" = none) (T : ClsF K C.S sysF) (TE : NoRoomE K mg D fI fdI) (GI : FnOk P w K mg base CX0 1 fI fdI ["self"] (spErr0 D)) (GT : MO P w K mg base 3 C.S "table_of" ["self", "process"] (spTableOf C) fT fdT) (GF : MO P w K mg base 1 C.S "free_process" ["self"] (spFreeProc C) fF fdF) :
    FnOk P w K mg base (L2.CX P w) 4 f fd ["self", "process"] (spFork C D) := by
  refine F.okX scFork (fun vs H Q E h => ?_) (fun cdv A outer s H vs Q E hr h => ?_)
  · obtain ⟨_, _, _, _, rfl, _⟩ := h
    rfl
  · obtain ⟨p, S, ad, dx, rfl, A0, hp, hP, hP0, hl, hz, k, kn⟩ := h
    have hu := hu_of hr
    have hr1 : Room 1 _ := hr.mono (by decide)
    have hr2 : Room 2 _ := hr.mono (by decide)
    have hr3 : Room 3 _ := hr.mono (by decide)
    refine ⟨_, pss_cons (ps_set (i := 2) scFork.nd rfl (Or.inl rfl) (pe_meth (pv 0) T.cl GT.m GT.g hr3 GT.b .nil pass0 (pa_cons (pv 1) pa_nil)))
      (pss_cons (ps_set (i := 3) scFork.nd rfl (Or.inl rfl) (pe_meth0 (pv 0) T.cl GF.m GF.g hr1 GF.b .nil pass0))
      (pss_cons (ps_if (pt_cmpR oIsN (pv 3) pe_non (nomark _)) (pss_one (ps_raise rfl (takes_of rfl rfl rfl rfl) (pmk_oxb0 bxOverflow TE.ox TE.iC TE.tI GI hr2 TE.bI pass0 (by rfl) TE.gC))) pss_nil)
      (pss_cons (ps_dput hu (pe_fld (pv 0) rfl) (pv 3) (pe_callTy call_list_of (by rfl) lst PyProof.Rows.boot_list (pa_cons (pv 2) pa_nil)) rfl)
      (pss_one (ps_ret (pv 3)))))), ?_⟩
    have hb := A0.at_ .box trivial
    have ht := A0.at_ (.tab p) hp
    have hD : H (ad .tabD) = some (.dK (entKV S.procs fun p => ad (.tab p))) := A0.at_ .tabD trivial
    walk_at "wn"
    refine ⟨_, rfl, ad .box, dx .box, _, rfl, hb, rfl, ?_⟩
    walk_at "wn"
    refine ⟨p, S, ad, dx, rfl, A0, hp, ?_⟩
    walk_at "wn"
    refine ⟨_, rfl, ad .box, dx .box, _, rfl, hb, rfl, ?_⟩
    walk_at "wn"
    refine ⟨S, ad, dx, rfl, A0, hP, hP0, fun m M => ?_, fun N => ?_⟩
    case refine_2 =>
      walk_at "wn"
      refine fun a ha => ⟨a, rfl, upd_same, rfl, upd_same, ?_⟩
      refine kn N _ fun b o e => ?_
      rw [del_ne (ne_of_none e ha), upd_ne (ne_of_none e ha)]
      exact e
    walk_at "wn"
    have e : decide (V.int (m : Int) = V.non) = false := decide_eq_false fun z => nomatch z
    rw [e]
    walk_at "wn"
    refine ⟨_, rfl, ad (.tab p), _, rfl, .inl (SqL.of ht), fun r hr0 => ?_⟩
    have nbr : ad .box ≠ r := ne_of_none hb hr0
    have nDr : ad .tabD ≠ r := ne_of_none hD hr0
    refine ⟨_, rfl, ad .box, C.S, dx .box, _, _, rfl, by rw [upd_ne nbr]; exact hb, T.cl, T.no _ (by decide), rfl, ?_⟩
    refine ⟨_, rfl, ad .tabD, _, rfl, DPut.k (k := Sum.inl (m : Int)) (by rw [upd_ne nDr]; exact hD) (by unfold entKV; rw [List.length_map, sizeLine_eq]; omega), ?_⟩
    walk_at "wn"
    refine (fun z : At C _ _ _ _ ∧ Step H S ad _ _ _ => k m M _ (setA ad (.tab (m : Int)) r) z.1 z.2) ?_
    refine At.re3 [.tabD, .tab (m : Int)] A0 (fun c lc => ?_) (fun c hc lc => ?_) (fun c hc lc => ?_) (fun c hc lc => ?_) (fun c hc c' hc' lc lc' z e => ?_) (fun b o nb e => ?_) (setA_ne (by intro z; cases z))
    · cases c with
      | tab t =>
        rcases List.mem_append.mp (show t ∈ S.procs ++ [(m : Int)] from lc) with y | y
        · exact .inr y
        · rw [List.mem_singleton.mp y]
          exact .inl (by simp)
      | _ => exact .inr lc
    · simp only [List.mem_cons, List.not_mem_nil, or_false] at hc
      rcases hc with rfl | rfl
      · rw [setA_ne (by intro z; cases z), upd_same, ent_put, if_neg M.no, tab_fun]
        rfl
      · rw [setA_same, upd_ne (Ne.symm nDr), upd_same]
        show _ = some (HO.lst ((if (m : Int) = (m : Int) then S.tab p else S.tab (m : Int)).map optV))
        rw [if_pos rfl]
    · have n1 : c ≠ .tabD := fun z => hc (by rw [z]; simp)
      have n2 : c ≠ .tab (m : Int) := fun z => hc (by rw [z]; simp)
      refine ⟨setA_ne n2, ?_⟩
      cases c with
      | tabD => exact absurd rfl n1
      | tab j =>
        have nj : j ≠ (m : Int) := fun z => n2 (by rw [z])
        show HO.lst ((if j = (m : Int) then S.tab p else S.tab j).map optV) = _
        rw [if_neg nj]
        rfl
      | _ => rfl
    · simp only [List.mem_cons, List.not_mem_nil, or_false] at hc
      rcases hc with rfl | rfl
      · exact .inl ⟨setA_ne (by intro z; cases z), trivial⟩
      · exact .inr (by rw [setA_same]; exact hr0)
    · simp only [List.mem_cons, List.not_mem_nil, or_false] at hc hc'
      rcases hc with rfl | rfl
      · rw [setA_ne (by intro z; cases z), hD] at z
        cases z
      · rcases hc' with rfl | rfl
        · rw [setA_same, setA_ne (by intro z; cases z)] at e
          exact absurd e (Ne.symm nDr)
        · rfl
    · rw [upd_ne (nb .tabD (by simp) trivial), upd_ne (ne_of_none e hr0)]
      exact e
end

/-! a dict comprehension with two clauses: {k: v for t0 in i0 if .. for t1 in i1 if ..} -/
/-- one turn of any clause: the next item, the store, the tests, what the clause does, and round again -/
def oneTurn (t i : Expr) (ifs : List Expr) (it : Value) (env : Env) (deed : Sem Fin → Sem Fin) (round : Sem Fin) : Sem Fin := do
  standAt i.pos
  match ← pyNext it with
  | none => pure (.done .next)
  | some v =>
    letOwnedTupleGo t it v
    assign t env v
    let mut ok := true
    for c in ifs do
      if ok then ok ← isTrue c env (eval c env)
    if ok then deed round else round
abbrev testsOf (ifs : List Expr) (env : Env) : Sem Bool := forIn ifs true fun c r => if r = true then do let ok ← isTrue c env (eval c env); pure (ForInStep.yield ok) else pure (ForInStep.yield r)
theorem oneTurn_wp {M : Model} {A : Around} {t i : Expr} {ifs : List Expr} {it : Value} {env : Env} {deed : Sem Fin → Sem Fin} {round : Sem Fin} {Q : Fin → Shared → Prop} {E : Value → Shared → Prop} {s : Shared}
    (h : wpAny M A (pyNext it) (fun r s1 => match r with
      | none => Q (.done .next) s1
      | some v => wpAny M A (letOwnedTupleGo t it v) (fun _ s2 => wpAny M A (assign t env v) (fun _ s3 => wpAny M A (testsOf ifs env) (fun ok s4 => if ok = true then wpAny M A (deed round) Q E s4 else wpAny M A round Q E s4) E s3) E s2) E s1) E s) :
    wpAny M A (oneTurn t i ifs it env deed round) Q E s := by
  unfold oneTurn
  refine wpAny_bind (wpAny_standAt (wpAny_bind (wpAny_mono h (fun r s1 h1 => ?_) fun _ _ z => z)))
  cases r with
  | none => exact wpAny_pure h1
  | some v =>
    refine wpAny_bind (wpAny_mono h1 (fun _ s2 h2 => wpAny_bind (wpAny_mono h2 (fun _ s3 h3 => wpAny_bind (wpAny_mono h3 (fun ok s4 h4 => ?_) fun _ _ z => z)) fun _ _ z => z)) fun _ _ z => z)
    cases ok with
    | false => exact h4
    | true => exact h4
section
variable (kx vx t0 i0 t1 i1 : Expr) (ifs0 ifs1 : List Expr) (scope : Scope) (pos : Pos)
abbrev dcx : Expr := .DictComp kx vx [⟨t0, i0, ifs0, 0⟩, ⟨t1, i1, ifs1, 0⟩] scope pos
/-- what the first clause does: the second one's whole walk -/
def deed0 (acc : Value) (env : Env) (round : Sem Fin) : Sem Fin := do
  let x ← eval i1 env
  standAt i1.pos
  let y ← foldedSetIterable i1 env x
  let _ ← runOwn (.compStart (dcx kx vx t0 i0 t1 i1 ifs0 ifs1 scope pos) 1 (← holding [y] (pyIter y)) acc env) env
  round
def deed1 (D : Addr) (env : Env) (round : Sem Fin) : Sem Fin := do
  (do
    let kv ← eval kx env
    let vv ← holding [kv] (eval vx env)
    standAt { kx.pos with endLine := vx.pos.endLine, endCol := vx.pos.endCol }
    holding [kv, vv] (dictSet D kv vv))
  round
theorem turn0 (it acc : Value) (env : Env) : compTurn (dcx kx vx t0 i0 t1 i1 ifs0 ifs1 scope pos) 0 it acc env = oneTurn t0 i0 ifs0 it env (deed0 kx vx t0 i0 t1 i1 ifs0 ifs1 scope pos acc env) (again (.compLoop (dcx kx vx t0 i0 t1 i1 ifs0 ifs1 scope pos) 0 it acc env)) := by rfl
theorem turn1 (it : Value) (D : Addr) (env : Env) : compTurn (dcx kx vx t0 i0 t1 i1 ifs0 ifs1 scope pos) 1 it (.ref D) env = oneTurn t1 i1 ifs1 it env (deed1 kx vx D env) (again (.compLoop (dcx kx vx t0 i0 t1 i1 ifs0 ifs1 scope pos) 1 it (.ref D) env)) := by rfl
end
/-- the walk of one clause: what holds before each turn, and what each turn does with the item that has come -/
def Rounds (J : It) (g : TG) (tt : TT) (σ : L2.St) (vs : List Nat) (dd : L2.St → Hp → (Hp → Prop) → Prop) (H0 : Hp) (fin : Hp → Prop) : Prop :=
  ∃ W : Nat → Nat → Hp → Prop, (∃ m, W 0 m H0) ∧ ∀ i m H, W i m H → (J.stop i H ∧ fin H) ∨ (J.go i H ∧ ∃ Nx : Hp → Prop, (∀ H', Nx H' → ∃ m', m' < m ∧ W (i + 1) m' H') ∧
    ∀ x H', J.yld i H x H' → g x (wipe σ vs) H' fun σ2 H2 => wipe σ2 vs = wipe σ vs ∧ tt σ2 H2 fun b H3 => if b = true then dd σ2 H3 Nx else Nx H3)
theorem rounds_loop {Y : Cx} {e t i : Expr} {d : Nat} {ifs : List Expr} {deed : Sem Fin → Sem Fin} {acc : Value} {R : Result → Shared → Prop} {s : Shared} {J : It} {g : TG} {tt : TT} {σ : L2.St} {vs : List Nat} {dd : L2.St → Hp → (Hp → Prop) → Prop} {H0 : Hp} {fin : Hp → Prop}
    {fp : List Addr} {tn : Nat → Heap → Prop} {it : Addr} {pins : List (Addr × Obj)} (hc : Y.calm = true) (hx : Y.xe = fun _ _ => False)
    (hq : (Code.compLoop e d (.ref it) acc Y.env).quiet = true)
    (hn : ∀ (post : Fin → Shared → Prop) (E : Value → Shared → Prop) (s1 : Shared), wpAny (model Y.prog Y.w) Y.A ((compTurn e d (.ref it) acc Y.env).onRaise (fun x => do noteFrame x Y.env; theTreesLotGoes x)) post E s1 → wpAny (model Y.prog Y.w) (Y.A.under (.compLoop e d (.ref it) acc Y.env)) ((model Y.prog Y.w).den (.compLoop e d (.ref it) acc Y.env)) post E s1)
    (he : compTurn e d (.ref it) acc Y.env = oneTurn t i ifs (.ref it) Y.env deed (again (.compLoop e d (.ref it) acc Y.env)))
    (pg : PG Y t g) (pt : PTs Y ifs tt) (T : Turn Y.prog Y.w Y.K t J fp it tn)
    (ff : ∀ σ H s, Inv Y pins σ H s → (∀ b ∈ fp, H b = none) → ∀ b ∈ fp, FpOk Y pins H b)
    (I : Inv Y pins (wipe σ vs) H0 s) (st : tn 0 s.heap) (n0 : ∀ b ∈ fp, H0 b = none) (h : Rounds J g tt σ vs dd H0 fin)
    (hd : ∀ pl σ2 H3 s4 Nx (post : Fin → Shared → Prop) (E : Value → Shared → Prop), Inv Y (pins ++ pl) σ2 H3 s4 → dd σ2 H3 Nx →
      (∀ σ9 H' s', Inv Y (pins ++ pl) σ9 H' s' → σ9.length = σ2.length → (∀ (j : Nat) v, (wipe σ2 vs)[j]? = some (some v) → σ9[j]? = some (some v)) → Nx H' → wpAny (model Y.prog Y.w) Y.A (again (.compLoop e d (.ref it) acc Y.env)) post E s') →
      wpAny (model Y.prog Y.w) Y.A (deed (again (.compLoop e d (.ref it) acc Y.env))) post E s4)
    (hf : ∀ s' H', Inv Y pins (wipe σ vs) H' s' → fin H' → R (.ok .next) s') :
    codeAny (model Y.prog Y.w) Y.A (.compLoop e d (.ref it) acc Y.env) R s := by
  obtain ⟨W, ⟨m0, w0⟩, turn⟩ := h
  refine codeAny_loop hq (fun n s' => ∃ i H', Inv Y pins (wipe σ vs) H' s' ∧ tn i s'.heap ∧ (∀ b ∈ fp, H' b = none) ∧ W i n H') (fun n s1 ⟨k, H1, I1, st1, n1, w1⟩ => ?_) m0 ⟨0, H0, I, st, n0, w0⟩
  refine hn _ _ s1 (wpAny_noted ?_)
  rw [he]
  refine oneTurn_wp ?_
  rcases turn k n H1 w1 with ⟨stop, q⟩ | ⟨go, Nx, hN, step⟩
  · refine thnF (T.done Y rfl rfl rfl hc k pins s1 _ H1 (fun _ _ => False) I1 (ff _ _ _ I1 n1) st1 stop) fun r s2 ⟨hr, I2⟩ => ?_
    subst hr
    exact hf s2 H1 I2 q
  · refine thnF (T.item Y rfl rfl rfl hc k pins s1 _ H1 (fun _ _ => False) I1 (ff _ _ _ I1 n1) st1 go) fun r s2 ⟨u, hr, h2⟩ => ?_
    subst hr
    refine thnF h2 fun _ s3 ⟨x, H3, I3, rx, y3, st3, n3⟩ => ?_
    have ho := T.obj _ _ st3
    have a1 := pg.run _ s3 _ H3 x u _ (I3.pinned (ff _ _ _ I3 n3) ho) rx (step x H3 y3)
    rw [hx] at a1
    refine thnF a1 fun _ s4 ⟨σ4, H4, I4, e4, q4⟩ => ?_
    have a2 := pt.run _ s4 σ4 H4 _ I4 q4
    rw [hx] at a2
    refine thnF a2 fun b s5 ⟨H5, I5, q5⟩ => ?_
    -- round again
    have round : ∀ σ9 H' s', Inv Y (pins ++ pinsAt fp s3.heap) σ9 H' s' → σ9.length = σ4.length → (∀ (j : Nat) v, (wipe σ4 vs)[j]? = some (some v) → σ9[j]? = some (some v)) → Nx H' →
        ∃ m, m < n ∧ ∃ i H', Inv Y pins (wipe σ vs) H' s' ∧ tn i s'.heap ∧ (∀ b ∈ fp, H' b = none) ∧ W i m H' := fun σ9 H' s' I' hl hk nx => by
      obtain ⟨m, hm, w'⟩ := hN H' nx
      have stay : ∀ b ∈ fp, ∀ o, s3.heap.get? b = some o → s'.heap.get? b = some o ∧ H' b = none := fun b hb o eo =>
        let z := I'.pin (b, o) (List.mem_append_right _ (List.mem_append_right _ (mem_pinsAt hb eo)))
        ⟨z.1, z.2.1⟩
      refine ⟨m, hm, k + 1, H', I'.unpinned.weak (by rw [hl, ← wipe_length σ4 vs, e4]) (fun j v e => hk j v (by rw [e4]; exact e)), T.keep _ _ _ st3 fun b hb o eo => (stay b hb o eo).1, fun b hb => ?_, w'⟩
      obtain ⟨o, eo, _⟩ := ho b hb
      exact (stay b hb o eo).2
    cases b with
    | false => exact wpAny_pure ⟨rfl, round σ4 H5 s5 I5 rfl (fun j v e => (wipe_some e).1) q5⟩
    | true => exact hd _ σ4 H5 s5 Nx _ _ I5 q5 fun σ9 H' s' I' hl hk nx => wpAny_pure ⟨rfl, round σ9 H' s' I' hl hk nx⟩
section
variable {prog : Program} {w : World} {A : Around} {R : Result → Shared → Prop} {s : Shared} {kx vx t0 i0 t1 i1 : Expr} {ifs0 ifs1 : List Expr} {scope : Scope} {pos : Pos} {it acc : Value} {env : Env}
/-- the second clause's start: iter() of what is an iterator already, asked once or twice -/
theorem start1 (h0 : codeAny (model prog w) A (.compLoop (dcx kx vx t0 i0 t1 i1 ifs0 ifs1 scope pos) 1 it acc env) R s)
    (h : wpAny (model prog w) A (pyIter it) (fun it' s' => codeAny (model prog w) A (.compLoop (dcx kx vx t0 i0 t1 i1 ifs0 ifs1 scope pos) 1 it' acc env) R s') (notedBy (model prog w) A env fun x s' => R (.error x) s') s) :
    codeAny (model prog w) A (.compStart (dcx kx vx t0 i0 t1 i1 ifs0 ifs1 scope pos) 1 it acc env) R s := by
  refine codeAny_of_tree ?_
  show wpAny _ A ((compStart (dcx kx vx t0 i0 t1 i1 ifs0 ifs1 scope pos) 1 it acc env).onRaise (fun x => do noteFrame x env; standAt theWindowsPlace)) _ _ s
  refine wpAny_notedAt ?_
  unfold compStart
  show wpAny _ A (ask >>= _) _ _ s
  refine wpAny_bind (wpAny_askSetting (wpAny_ite ?_))
  have twice : wpAny (model prog w) A (standAt i1.pos) (fun _ s1 => wpAny (model prog w) A (pyIter it) (fun it' s' => codeAny (model prog w) A (.compLoop (dcx kx vx t0 i0 t1 i1 ifs0 ifs1 scope pos) 1 it' acc env) R s') (notedBy (model prog w) A env fun x s' => R (.error x) s') s1) (notedBy (model prog w) A env fun x s' => R (.error x) s') s := wpAny_standAt h
  split
  · first
      | exact wpAny_pure ⟨rfl, h0⟩
      | exact wpAny_bind (wpAny_pure (wpAny_pure ⟨rfl, h0⟩))
  · refine wpAny_bind (wpAny_rule ?_)
    exact wpAny_bind (wpAny_mono twice (fun _ s1 h1 => wpAny_bind (wpAny_mono h1 (fun it' s' h' => wpAny_pure ⟨rfl, h'⟩) fun _ _ z => z)) fun _ _ z => z)
/-- what the first clause does, by its pieces -/
theorem deed0_wp {round : Sem Fin} {Q : Fin → Shared → Prop} {E : Value → Shared → Prop} (hs : ∀ x, foldedSetIterable i1 env x = pure x)
    (h : wpAny (model prog w) A (eval i1 env) (fun x s1 => wpAny (model prog w) A (pyIter x) (fun it1 s2 => codeAny (model prog w) A (.compStart (dcx kx vx t0 i0 t1 i1 ifs0 ifs1 scope pos) 1 it1 acc env) (fun r s' => match r with
        | .ok _ => wpAny (model prog w) A round Q E s'
        | .error _ => False) s2) E s1) E s) : wpAny (model prog w) A (deed0 kx vx t0 i0 t1 i1 ifs0 ifs1 scope pos acc env round) Q E s := by
  unfold deed0
  refine wpAny_bind (wpAny_mono h (fun x s1 h1 => wpAny_bind (wpAny_standAt (wpAny_bind (wpAny_of_eq (hs x) (wpAny_bind (wpAny_holding (wpAny_mono h1 (fun it1 s2 h2 => ?_) fun _ _ z => z))))))) fun _ _ z => z)
  refine wpAny_bind (wpAny_runOwn ?_)
  rw [Around.mark_none]
  refine codeAny_mono h2 fun r s' hr => ?_
  cases r with
  | ok f => exact hr
  | error e => exact hr.elim
theorem deed1_wp {round : Sem Fin} {Q : Fin → Shared → Prop} {E : Value → Shared → Prop} {D : Addr}
    (h : wpAny (model prog w) A (eval kx env) (fun kv s1 => wpAny (model prog w) A (eval vx env) (fun vv s2 => wpAny (model prog w) A (dictSet D kv vv) (fun _ s3 => wpAny (model prog w) A round Q E s3) E s2) E s1) E s) :
    wpAny (model prog w) A (deed1 kx vx D env round) Q E s := by
  unfold deed1
  exact wpAny_bind (wpAny_bind (wpAny_mono h (fun kv s1 h1 => wpAny_bind (wpAny_holding (wpAny_mono h1 (fun vv s2 h2 => wpAny_bind (wpAny_standAt (wpAny_holding h2))) fun _ _ z => z))) fun _ _ z => z))
end
section
variable {X : Cx}
/-- true of the block's context, wherever the block stands -/
abbrev Blk (X : Cx) (scope : Scope) (F : Cx → Prop) : Prop := ∀ (s : Shared) (H : Hp) (C : Addr) (cl : List (Str × Addr)) (fp : List Addr), F (X.blk s H scope (compEnvC scope cl C X.env) fp)
def tDc2 (wi : TI) (g : TG) (tt : TT) (wi1 : TI) (g1 : TG) (tt1 : TT) (tk tv : TE) (vs vs1 : List Nat) : TE := fun σ H Q => wi σ H fun J H1 => ∀ D, H1 D = none →
  Rounds J g tt σ vs (fun σ2 H3 Nx => wi1 σ2 H3 fun J1 H4 => Rounds J1 g1 tt1 σ2 vs1 (fun σ3 H6 Nx1 => tk σ3 H6 fun y H7 => tv σ3 H7 fun z H8 => ∃ kvs k, y = kV k ∧ H8 D = some (.dK kvs) ∧ kvs.length < sizeLine ∧ Nx1 (upd H8 D (.dK (putK kvs k z)))) H4 Nx) (upd H1 D (.dK [])) (Q (.ref D))
theorem pe_dc2 {kx vx t0 i0 t1 i1 : Expr} {ifs0 ifs1 : List Expr} {scope : Scope} {own : List (Str × Nat)} {vs1 : List Nat} {pos : Pos} {wi wi1 : TI} {g g1 : TG} {tt tt1 : TT} {tk tv : TE} (hc : X.calm = true) (hN : X.N.Nodup) (hi : PI X t0 i0 wi) (ok : BlkOk X.N X.env.scope scope own) (hv : ∀ i ∈ vs1, i ∈ own.map (·.2))
    (hg : Blk X scope fun Y => PG Y t0 g) (ht : Blk X scope fun Y => PTs Y ifs0 tt) (hi1 : Blk X scope fun Y => PI Y t1 i1 wi1) (hg1 : Blk X scope fun Y => PG Y t1 g1) (ht1 : Blk X scope fun Y => PTs Y ifs1 tt1)
    (hk : Blk X scope fun Y => PE Y kx tk) (he : Blk X scope fun Y => PE Y vx tv) (hs : ∀ x, foldedSetIterable i0 X.env x = pure x := by intro _; rfl) (hs1 : ∀ env x, foldedSetIterable i1 env x = pure x := by intro _ _; rfl) :
    PE X (dcx kx vx t0 i0 t1 i1 ifs0 ifs1 scope pos) (tDc2 wi g tt wi1 g1 tt1 tk tv (own.map (·.2)) vs1) := by
  refine ⟨fun pins s σ H Q I h => ?_⟩
  rw [arm_eval_DictComp]
  have hfree : ∀ y ∈ scope.names, y.2 = .free → ∃ c, X.env.cells.lookup y.1 = some c := fun y hy e => I.ok.has _ (ok.free y hy e)
  refine wpAny_comprehension_free (use := none) rfl hs (closure_ok hfree) ok.kind (fun y hy e => by rw [ok.uniq y hy, e]) (thn (hi.run pins s σ H _ I h) fun xv s1 hx => thn hx fun itv s2 ⟨it, fp, tn, J, H2, e, I2, T, st2, f2, q⟩ => ?_)
  subst e
  refine wpAny_newObj_type (newEnv_comp ?_)
  generalize hD : s2.heap.objs.size = D
  have q := q D (I2.hok.fresh (Nat.le_of_eq hD))
  generalize hs3 : ({ s2 with heap := s2.heap.push { cls := .type "dict", data := .dict #[] } } : Shared) = s3
  have h3 : s3.heap = s2.heap.push { cls := .type "dict", data := .dict #[] } := by rw [← hs3]
  have I3 : Inv X pins σ (upd H2 D (.dK [])) s3 := by
    rw [← hs3]
    refine I2.laid (t' := s2.toks) (fun b o e => Heap.get?_push_of_some _ e) (Nat.le_of_eq hD) ?_
    rw [← hD]
    exact dk_empty s2.heap I2.big
  have f3 : ∀ b ∈ fp, FpOk X pins (upd H2 D (.dK [])) b ∧ b < s3.heap.objs.size := fun b hb => by
    obtain ⟨o, eo, _⟩ := T.obj _ _ st2 b hb
    have lt : b < s2.heap.objs.size := Heap.lt_size eo
    refine ⟨⟨?_, (f2 b hb).2⟩, by rw [h3, Heap.size_push]; exact Nat.lt_succ_of_lt lt⟩
    rw [upd_ne (by rw [← hD]; exact Nat.ne_of_lt lt)]
    exact (f2 b hb).1
  have st3 : tn 0 s3.heap := T.keep _ _ _ st2 fun b _ o eo => by rw [h3]; exact Heap.get?_push_of_some _ eo
  have I4 := block_start I3 ok hN f3
  have pg := hg s3 (upd H2 D (.dK [])) s3.heap.objs.size (cellsFrom (s3.heap.objs.size + 1) scope.names (cloFrom X.env.cells scope.names [])) fp
  have pt := ht s3 (upd H2 D (.dK [])) s3.heap.objs.size (cellsFrom (s3.heap.objs.size + 1) scope.names (cloFrom X.env.cells scope.names [])) fp
  have pi := hi1 s3 (upd H2 D (.dK [])) s3.heap.objs.size (cellsFrom (s3.heap.objs.size + 1) scope.names (cloFrom X.env.cells scope.names [])) fp
  have pg1 := hg1 s3 (upd H2 D (.dK [])) s3.heap.objs.size (cellsFrom (s3.heap.objs.size + 1) scope.names (cloFrom X.env.cells scope.names [])) fp
  have pt1 := ht1 s3 (upd H2 D (.dK [])) s3.heap.objs.size (cellsFrom (s3.heap.objs.size + 1) scope.names (cloFrom X.env.cells scope.names [])) fp
  have pk := hk s3 (upd H2 D (.dK [])) s3.heap.objs.size (cellsFrom (s3.heap.objs.size + 1) scope.names (cloFrom X.env.cells scope.names [])) fp
  have pe := he s3 (upd H2 D (.dK [])) s3.heap.objs.size (cellsFrom (s3.heap.objs.size + 1) scope.names (cloFrom X.env.cells scope.names [])) fp
  show codeAny _ _ (.compStart (dcx kx vx t0 i0 t1 i1 ifs0 ifs1 scope pos) 0 (.ref it) (.ref D) (compEnvC scope (cellsFrom (s3.heap.objs.size + 1) scope.names (cloFrom X.env.cells scope.names [])) s3.heap.objs.size X.env)) (compPost (model X.prog X.w) X.A X.xe none (EP X pins σ Q) (.ref D) s3.heap.objs.size) { s3 with heap := pushCells (s3.heap.push { cls := .type "dict", data := .dict #[] }) scope.names }
  generalize hce : compEnvC scope (cellsFrom (s3.heap.objs.size + 1) scope.names (cloFrom X.env.cells scope.names [])) s3.heap.objs.size X.env = ce at I4 pg pt pi pg1 pt1 pk pe ⊢
  have cL : ce.locals = s3.heap.objs.size := by rw [← hce]; rfl
  generalize hs4 : ({ s3 with heap := pushCells (s3.heap.push { cls := .type "dict", data := .dict #[] }) scope.names } : Shared) = s4 at I4 ⊢
  have st4 : tn 0 s4.heap := T.keep _ _ _ st3 fun b _ o eo => by rw [← hs4]; exact pushCells_keeps _ _ _ _ (Heap.get?_push_of_some _ eo)
  have loop : codeAny (model X.prog X.w) X.A (.compLoop (dcx kx vx t0 i0 t1 i1 ifs0 ifs1 scope pos) 0 (.ref it) (.ref D) ce) (compPost (model X.prog X.w) X.A X.xe none (EP X pins σ Q) (.ref D) s3.heap.objs.size) s4 := by
    refine rounds_loop (Y := X.blk s3 (upd H2 D (.dK [])) scope ce fp) (deed := deed0 kx vx t0 i0 t1 i1 ifs0 ifs1 scope pos (.ref D) ce) hc rfl rfl (fun _ _ _ h => h) (turn0 kx vx t0 i0 t1 i1 ifs0 ifs1 scope pos (.ref it) (.ref D) ce) pg pt T (fun σ' H' s' I' hn b hb => ⟨hn b hb, (I'.ok.exf b hb).1, I'.ok.exfs b hb, .inl hb, fun x c eo => (I'.ok.exf b hb).2 x c eo, fun p hp => absurd (show p ∈ ([] : List (Addr × Obj)) ++ [] from hp) (by simp)⟩)
      I4 st4 (fun b hb => (f3 b hb).1.1) q (fun pl σ2 H3 s5 Nx post E I5 dd round => ?_) (fun s' H' I' q' => ?_)
    · refine deed0_wp (hs1 ce) ?_
      have a := pi.run _ s5 σ2 H3 _ I5 dd
      refine thnF a fun x s6 hx6 => thnF hx6 fun itv s7 ⟨it1, fp1, tn1, J1, H4, e1, I7, T1, st7, f7, q1⟩ => ?_
      subst e1
      have loop1 : codeAny (model X.prog X.w) X.A (.compLoop (dcx kx vx t0 i0 t1 i1 ifs0 ifs1 scope pos) 1 (.ref it1) (.ref D) ce) (fun r s' => match r with
          | .ok _ => wpAny (model X.prog X.w) X.A (again (.compLoop (dcx kx vx t0 i0 t1 i1 ifs0 ifs1 scope pos) 0 (.ref it) (.ref D) ce)) post E s'
          | .error _ => False) s7 := by
        refine rounds_loop (Y := X.blk s3 (upd H2 D (.dK [])) scope ce fp) (deed := deed1 kx vx D ce) hc rfl rfl (fun _ _ _ h => h) (turn1 kx vx t0 i0 t1 i1 ifs0 ifs1 scope pos (.ref it1) D ce) pg1 pt1 T1 (fun σ' H' s' I' hn b hb => ⟨hn b hb, (f7 b hb).2⟩)
          (I7.weak (wipe_length σ2 vs1) fun j v eo => (wipe_some eo).1) st7 (fun b hb => (f7 b hb).1) q1 (fun pl1 σ3 H6 s8 Nx1 post1 E1 I8 dd1 round1 => ?_) (fun s' H' I' nx => ?_)
        · refine deed1_wp ?_
          refine thnF (pk.run _ s8 σ3 H6 _ I8 dd1) fun kv s9 ⟨yk, H9, I9, rk, q9⟩ => ?_
          refine thnF (pe.run _ s9 σ3 H9 _ I9 q9) fun vv s10 ⟨yv, H10, I10, rv, kvs, k, ek, hD10, hz, nx⟩ => ?_
          subst ek
          exact d_dictSet (X := X.blk s3 (upd H2 D (.dK [])) scope ce fp) I10 hD10 hz rk rv fun s11 I11 => round1 σ3 _ s11 I11 rfl (fun j v eo => (wipe_some eo).1) nx
        · refine round _ H' s' I' (wipe_length σ2 vs1) (fun j v eo => ?_) nx
          obtain ⟨e3, e4⟩ := wipe_some eo
          rw [wipe_out fun z => e4 (hv j z)]
          exact e3
      exact start1 loop1 (T1.self X.A 0 _ _ _ st7 loop1)
    · have I7 : Inv X pins σ H' s' := I3.call' (ch := fp) I'.os I'.base I'.hok I'.bare fun b hb => ⟨(f3 b hb).1.2.2.2.1, (f3 b hb).1.2.1, (f3 b hb).1.2.2.2.2.1, (f3 b hb).1.2.2.2.2.2⟩
      have nC : H' s3.heap.objs.size = none := by
        have z : H' ce.locals = none := I'.free
        rw [cL] at z
        exact z
      obtain ⟨m, hn, _⟩ := I'.loc
      have hn : s'.heap.Ns ce.locals m := hn
      rw [cL] at hn
      obtain ⟨a0, a1, a2, a3, a4, a5⟩ := I3.fpOk (H' := H') (Nat.le_refl _) nC
      exact ⟨m, hn, fun h'' sb => ⟨.ref D, H', I7.turned (t' := s'.toks) (fun b o hb eo => (sb.2 b hb).trans eo) a0 a1 a3 a4 a5, rfl, q'⟩⟩
  exact codeAny_compStart_dict loop (T.self X.A 0 _ _ _ st4 loop)
end
/-- any walk, by what holds before its turn i -/
theorem rounds_it {J : It} {n : Nat} {G : Hp → Prop} {Y : Nat → Hp → V → Hp → Prop} {g : TG} {tt : TT} {σ : L2.St} {vs : List Nat} {dd : L2.St → Hp → (Hp → Prop) → Prop} {H0 : Hp} {fin : Hp → Prop} (w : Walk J n G Y) (Pv : Nat → Hp → Prop) (h0 : Pv 0 H0) (hG : ∀ i H, i ≤ n → Pv i H → G H)
    (hs : ∀ i x H H', i < n → Pv i H → Y i H x H' → g x (wipe σ vs) H' fun σ2 H2 => wipe σ2 vs = wipe σ vs ∧ tt σ2 H2 fun b H3 => if b = true then dd σ2 H3 (Pv (i + 1)) else Pv (i + 1) H3) (hd : ∀ H, Pv n H → fin H) : Rounds J g tt σ vs dd H0 fin := by
  refine ⟨fun i m H => m + i = n ∧ Pv i H, ⟨n, rfl, h0⟩, fun i m H ⟨e, p⟩ => ?_⟩
  have hi : i ≤ n := by omega
  by_cases hlt : i < n
  · exact .inr ⟨w.goes i H hlt (hG i H hi p), Pv (i + 1), fun H' p' => ⟨m - 1, by omega, by omega, p'⟩, fun x H' y => hs i x H H' hlt p (w.yields i H x H' hlt (hG i H hi p) y)⟩
  · obtain rfl : i = n := by omega
    exact .inl ⟨w.stops H (hG i H hi p), hd H p⟩
/-- the same for the one-clause comprehensions and the list of two clauses -/
theorem tDc_of {wi : TI} {g : TG} {tt : TT} {tk tv : TE} {vs : List Nat} {σ : L2.St} {H : Hp} {Q : VK} (h : wi σ H fun J H1 => ∀ D, H1 D = none → Rounds J g tt σ vs (fun σ2 H3 Nx => tk σ2 H3 fun y H4 => tv σ2 H4 fun z H5 => ∃ kvs k, y = kV k ∧ H5 D = some (.dK kvs) ∧ kvs.length < sizeLine ∧ Nx (upd H5 D (.dK (putK kvs k z)))) (upd H1 D (.dK [])) (Q (.ref D))) : tDc wi g tt tk tv vs σ H Q := h
theorem tLc2_of {wi wi1 : TI} {g g1 : TG} {tt tt1 : TT} {te : TE} {vs vs1 : List Nat} {σ : L2.St} {H : Hp} {Q : VK} (h : wi σ H fun J H1 => ∀ D, H1 D = none → Rounds J g tt σ vs (fun σ2 H3 Nx => wi1 σ2 H3 fun J1 H4 => Rounds J1 g1 tt1 σ2 vs1 (fun σ3 H6 Nx1 => te σ3 H6 fun y H7 => ∃ acc, H7 D = some (.lst acc) ∧ acc.length < sizeLine ∧ Nx1 (upd H7 D (.lst (acc ++ [y])))) H4 Nx) (upd H1 D (.lst [])) (Q (.ref D))) : tLc2 wi g tt wi1 g1 tt1 te vs vs1 σ H Q := h

abbrev sThings : Stmt := meth 19 46
abbrev sNumbersOf : Stmt := meth 19 47
abbrev sNameOf : Stmt := meth 19 48
abbrev sRegistrations : Stmt := meth 19 23
def qAdd (l : Int) (qs : List Int) : List Int := if l ∈ qs then qs else qs ++ [l]
/-- the things of the tables, in the order in which they are met -/
def rowThings (acc : List Int) : List (Option Int) → List Int
  | [] => acc
  | none :: l => rowThings acc l
  | some t :: l => rowThings (qAdd t acc) l
def thingsOf (S : Sys) : List Int → List Int → List Int
  | acc, [] => acc
  | acc, p :: ps => thingsOf S (rowThings acc (S.tab p)) ps
theorem rowThings_app (acc : List Int) (l : List (Option Int)) (x : Option Int) : rowThings acc (l ++ [x]) = match x with
    | none => rowThings acc l
    | some t => qAdd t (rowThings acc l) := by
  induction l generalizing acc with
  | nil => cases x <;> rfl
  | cons y l ih => cases y <;> exact ih _
theorem thingsOf_app (S : Sys) (acc ps : List Int) (p : Int) : thingsOf S acc (ps ++ [p]) = rowThings (thingsOf S acc ps) (S.tab p) := by
  induction ps generalizing acc with
  | nil => rfl
  | cons y l ih => exact ih _
theorem qAdd_len (t : Int) (l : List Int) : (qAdd t l).length ≤ l.length + 1 := by
  unfold qAdd
  split
  · omega
  · rw [List.length_append]
    exact Nat.le_refl _
theorem rowThings_len (acc : List Int) (l : List (Option Int)) : (rowThings acc l).length ≤ acc.length + l.length := by
  induction l generalizing acc with
  | nil => exact Nat.le_refl _
  | cons y l ih =>
    rw [List.length_cons]
    cases y with
    | none =>
      have h : (rowThings acc (none :: l)).length ≤ acc.length + l.length := ih acc
      omega
    | some t =>
      have h : (rowThings acc (some t :: l)).length ≤ (qAdd t acc).length + l.length := ih _
      have := qAdd_len t acc
      omega
def trueKV (ls : List Int) : List (Key × V) := ls.map fun t => (Sum.inl t, .bl true)
theorem true_put (ls : List Int) (t : Int) : putK (trueKV ls) (Sum.inl t) (.bl true) = trueKV (qAdd t ls) := by
  have any : ∀ l : List Int, (valV (trueKV l) (Sum.inl t)).isSome = decide (t ∈ l) := fun l => by
    induction l with
    | nil => rfl
    | cons x l ih =>
      unfold trueKV at ih ⊢
      rw [List.map_cons]
      by_cases h : x = t
      · subst h
        rw [valV_pos rfl, decide_eq_true List.mem_cons_self]
        rfl
      · rw [valV_neg (fun z => h (Sum.inl.inj z)), ih]
        exact decide_eq_decide.mpr ⟨fun z => List.mem_cons_of_mem _ z, fun z => (List.mem_cons.mp z).elim (fun e => absurd e.symm h) id⟩
  unfold putK qAdd
  rw [valV_any, any]
  by_cases h : t ∈ ls
  · rw [decide_eq_true h, if_pos h]
    show List.map _ (trueKV ls) = _
    unfold trueKV
    rw [List.map_map]
    refine List.map_congr_left fun x _ => ?_
    show (if (Sum.inl x : Key) = Sum.inl t then _ else _) = _
    split <;> rename_i e
    · rw [show x = t from Sum.inl.inj e]
    · rfl
  · rw [decide_eq_false h, if_neg h]
    show trueKV ls ++ _ = _
    unfold trueKV
    rw [List.map_append]
    rfl
section
variable {P : Program} {w : World} {K : PySem.W.Frag} {mg : Str → Option Value} {base : Heap} {C : Cs}
structure RegTxt (mg : Str → Option Value) : Prop where
  sorted : mg "sorted" = none
  list : mg "list" = none
  enum : mg "enumerate" = none
/-- what a system's tables ask of the heap -/
structure TabAt (C : Cs) (H : Hp) (S : Sys) (ad dx : Cell → Addr) : Prop where
  box : H (ad .box) = some (co C S ad dx .box)
  tabD : H (ad .tabD) = some (co C S ad dx .tabD)
  tab : ∀ p ∈ S.procs, H (ad (.tab p)) = some (co C S ad dx (.tab p))
theorem At.tabAt {H : Hp} {S : Sys} {ad dx : Cell → Addr} (A : At C H S ad dx) : TabAt C H S ad dx := ⟨A.at_ _ trivial, A.at_ _ trivial, fun p hp => A.at_ (.tab p) hp⟩
theorem TabAt.same {H H' : Hp} {S : Sys} {ad dx : Cell → Addr} (A : TabAt C H S ad dx) (s : Same H H') : TabAt C H' S ad dx := ⟨s _ _ A.box, s _ _ A.tabD, fun p hp => s _ _ (A.tab p hp)⟩
def OnTab (C : Cs) (vs : List V) (H : Hp) (rest : List V) (k : Sys → (Cell → Addr) → (Cell → Addr) → Prop) : Prop := ∃ (S : Sys) (ad dx : Cell → Addr), vs = .ref (ad .box) :: rest ∧ TabAt C H S ad dx ∧ k S ad dx
def spThings (C : Cs) : Sp := fun vs H Q _ => OnTab C vs H [] fun S ad _ => S.procs.length ≤ 6 ∧ (∀ p ∈ S.procs, (S.tab p).length ≤ 8) ∧
  ∀ (ys : List Int) (H' : Hp) (r : Addr), ys.Perm S.procs → ys.Pairwise (· ≤ ·) → Same H H' → H r = none → H' r = some (.lst ((thingsOf S [] ys).map V.int)) → Q (.ref r) H'
abbrev nThings : List Str := ["self", "tables", "process", "table", "thing"]
theorem scThings : FnScope nThings ["self"] (defScope sThings) := ⟨rfl, rfl, rfl, by decide +kernel, rfl, by decide +kernel, by decide +kernel⟩
theorem okThings {f : Addr} {fd : FuncData} (F : Fun K "things" "System.things" sThings f fd) (X : RegTxt mg) (T : ClsF K C.S sysF) : FnOk P w K mg base CX0 1 f fd ["self"] (spThings C) := by
  refine F.ok scThings (fun vs H Q E h => ?_) (fun cdv A outer s H vs Q E hr h => ?_)
  · obtain ⟨_, _, _, rfl, _⟩ := h
    rfl
  · obtain ⟨S, ad, dx, rfl, A0, hp, ht, k⟩ := h
    have hu := hu_of hr
    refine ⟨_, pss_cut (ps_setLc (i := 1) (own := [("process", 2)]) (g := gName 2) (tt := tYes) (te := tDGet (tFld K (tVar 0) "tables") (tVar 2)) rfl scThings.nd rfl rfl rfl (pi_list (pe_callB (call_sortedDI rfl) (by rfl) X.sorted (by decide +kernel) (pa_cons (pe_fld (pv 0) rfl) pa_nil))) (blkOk_by (N := nThings) (sc := defScope sThings) (by decide +kernel))
        (fun _ _ _ _ _ => pg_name (i := 2) scThings.nd rfl (Or.inl rfl)) (fun _ _ _ _ _ => pts_nil) (fun _ _ _ _ _ => pe_dget hu (pe_fld (pv 0) rfl) (pv 2) (fun _ _ => rfl)))
      (pss_one (ps_ret (pe_callTy (call_listD rfl) (by rfl) X.list (by decide +kernel) (pa_cons (pe_dc2 (own := [("table", 3), ("thing", 4)]) (vs1 := [4]) (g := gName 3) (tt := tYes) (wi1 := iList K (tVar 3)) (g1 := gName 4) (tt1 := tTest (tOp rNotN (tVar 4) (tC .non))) (tk := tVar 4) (tv := tC (.bl true)) rfl scThings.nd (pi_list (pv 1)) (blkOk_by (N := nThings) (sc := defScope sThings) (by decide +kernel)) (by decide)
        (fun _ _ _ _ _ => pg_name (i := 3) scThings.nd rfl (Or.inl rfl)) (fun _ _ _ _ _ => pts_nil) (fun _ _ _ _ _ => pi_list (pv 3)) (fun _ _ _ _ _ => pg_name (i := 4) scThings.nd rfl (Or.inl rfl)) (fun _ _ _ _ _ => pts_one (pt_cmpR oNotN (pv 4) pe_non (nomark _))) (fun _ _ _ _ _ => pv 4) (fun _ _ _ _ _ => pe_bl)) pa_nil)))), ?_⟩
    have hb := A0.box
    refine ⟨fun σ' H1 => ∃ (ys : List Int) (a : Addr), ys.Perm S.procs ∧ ys.Pairwise (· ≤ ·) ∧ σ' = [some (.ref (ad .box)), some (.ref a), none, none, none] ∧ Same H H1 ∧ H1 a = some (.lst (ys.map fun p => .ref (ad (.tab p)))), ?_, ?_⟩
    · walk_at "wn"
      unfold tLc iList
      walk_at "wn"
      refine ⟨_, rfl, ad .box, C.S, dx .box, _, _, rfl, hb, T.cl, T.no _ (by decide), rfl, ?_⟩
      walk_at "wn"
      refine ⟨ad .tabD, _, S.procs, rfl, .inl (A0.tabD), by unfold entKV; rw [List.map_map]; rfl, by omega, fun ys q pm pw hq => ?_⟩
      have s1 := Same.new' (o := .lst (ys.map V.int)) hq
      refine ⟨q, rfl, ⟨_, SqL.of upd_same⟩, fun D hD => ?_⟩
      refine lc_list (K := K) (a := q) (xs := ys.map V.int) (fun i H' => Same (upd H q (.lst (ys.map V.int))) H' ∧ H' D = some (.lst ((ys.take i).map fun p => .ref (ad (.tab p))))) ⟨Same.new' hD, upd_same⟩ (fun i H' _ h => SqL.of (h.1 _ _ upd_same)) ?_ ?_
      · rintro i v H' hv ⟨sm, hd⟩
        rw [List.getElem?_map] at hv
        cases ey : ys[i]? with
        | none => rw [ey] at hv; cases hv
        | some p =>
        rw [ey] at hv
        cases hv
        have hin : p ∈ S.procs := pm.mem_iff.mp (List.mem_of_getElem? ey)
        have hv : valV (entKV S.procs fun p => ad (.tab p)) (Sum.inl p) = some (.ref (ad (.tab p))) := by rw [ent_val, if_pos hin]
        have s2 := s1.trans sm
        walk_at "wn"
        refine ⟨rfl, ?_⟩
        have lp := pm.length_eq
        refine ⟨_, rfl, ad .box, C.S, dx .box, _, _, rfl, s2 _ _ hb, T.cl, T.no _ (by decide), rfl, _, rfl, ad .tabD, _, rfl, hv ▸ DGet.k (k := Sum.inl p) (s2 _ _ (A0.tabD)), _, hd, ?_, fun b o e => ?_, ?_⟩
        · rw [List.length_map, List.length_take, sizeLine_eq]
          omega
        · rw [upd_ne (ne_of_none e hD)]
          exact sm _ _ e
        · rw [upd_same, List.take_add_one, ey, Option.toList_some, List.map_append]
          rfl
      · rintro H' ⟨sm, hd⟩
        rw [List.length_map, List.take_length] at hd
        walk_at "wn"
        exact ⟨ys, D, pm, pw, rfl, s1.trans sm, hd⟩
    · rintro σ' H1 ⟨ys, a, pm, pw, rfl, sm, ha⟩
      walk_at "wn"
      show iList _ (tVar 1) _ _ _
      refine ⟨_, rfl, a, rfl, ⟨_, SqL.of ha⟩, fun D hD => ?_⟩
      have lp := pm.length_eq
      have tl : ∀ i, (thingsOf S [] (ys.take i)).length ≤ 8 * (ys.take i).length := fun i => by
        induction i with
        | zero => simp [thingsOf]
        | succ i ih =>
          rw [List.take_add_one]
          cases ey : ys[i]? with
          | none => rw [Option.toList_none, List.append_nil]; exact ih
          | some p =>
            rw [Option.toList_some, thingsOf_app, List.length_append]
            have a1 := rowThings_len (thingsOf S [] (ys.take i)) (S.tab p)
            have a2 := ht p (pm.mem_iff.mp (List.mem_of_getElem? ey))
            show _ ≤ 8 * (_ + 1)
            omega
      refine rounds_it (walk_list (K := K) (xs := ys.map fun p => .ref (ad (.tab p)))) (fun i H' => Same H1 H' ∧ H' D = some (.dK (trueKV (thingsOf S [] (ys.take i))))) ⟨Same.new' hD, upd_same⟩ (fun i H' _ h => SqL.of (h.1 _ _ ha)) ?_ ?_
      · rintro i x H2 H3 hi ⟨sm2, hd⟩ ⟨rfl, ex⟩
        rw [List.getElem?_map] at ex
        cases ey : ys[i]? with
        | none => rw [ey] at ex; cases ex
        | some p =>
        rw [ey] at ex
        cases ex
        have hin : p ∈ S.procs := pm.mem_iff.mp (List.mem_of_getElem? ey)
        have row := A0.tab p hin
        have li := tl i
        have le : (ys.take i).length ≤ 6 := by rw [List.length_take]; omega
        have l8 := ht p hin
        walk_at "wn"
        refine ⟨rfl, ?_⟩
        walk_at "wn"
        refine ⟨_, rfl, ad (.tab p), rfl, ⟨_, SqL.of (sm2 _ _ (sm _ _ row))⟩, ?_⟩
        refine rounds_it (walk_list (K := K) (xs := (S.tab p).map optV)) (fun j H' => Same H1 H' ∧ H' D = some (.dK (trueKV (rowThings (thingsOf S [] (ys.take i)) ((S.tab p).take j))))) ⟨sm2, hd⟩ (fun j H' _ h => SqL.of (h.1 _ _ (sm _ _ row))) ?_ ?_
        · rintro j x H4 H5 hj ⟨sm4, hd4⟩ ⟨rfl, ex⟩
          rw [List.getElem?_map] at ex
          cases et : (S.tab p)[j]? with
          | none => rw [et] at ex; cases ex
          | some o =>
          rw [et] at ex
          cases ex
          rw [List.take_add_one, et, Option.toList_some, rowThings_app]
          walk_at "wn"
          refine ⟨rfl, ?_⟩
          cases o with
          | none =>
            walk_at "wn"
            exact ⟨sm4, hd4⟩
          | some t =>
            walk_at "wn"
            refine ⟨_, rfl, _, Sum.inl t, rfl, hd4, ?_, fun b q e => ?_, ?_⟩
            · have := rowThings_len (thingsOf S [] (ys.take i)) ((S.tab p).take j)
              rw [List.length_take] at this
              unfold trueKV
              rw [List.length_map, sizeLine_eq]
              omega
            · rw [upd_ne (ne_of_none e hD)]
              exact sm4 _ _ e
            · rw [upd_same, true_put]
        · rintro H' ⟨sm4, hd4⟩
          rw [List.length_map, List.take_length] at hd4
          refine ⟨sm4, ?_⟩
          rw [List.take_add_one, ey, Option.toList_some, thingsOf_app]
          exact hd4
      · rintro H' ⟨sm2, hd⟩
        rw [List.length_map, List.take_length] at hd
        walk_at "wn"
        refine ⟨D, _, rfl, .inl hd, fun r hr => ?_⟩
        have e : (trueKV (thingsOf S [] ys)).map (fun kv => kV kv.1) = (thingsOf S [] ys).map V.int := by
          unfold trueKV
          rw [List.map_map]
          rfl
        rw [e]
        exact k ys _ r pm pw ((sm.trans sm2).trans (Same.new' hr)) ((sm.trans sm2).free hr) upd_same
end

abbrev sLen : Stmt := meth 19 28
abbrev sAlive : Stmt := meth 19 21
abbrev sLimits : Stmt := meth 19 20
abbrev sNumbers : Stmt := meth 19 17
/-! len(o), o of a class of the program with its own __len__ -/
def rLenOwn (C : Addr) (sp : Sp) : List V → Hp → VK → Prop := fun xs H Q => ∃ a dx fs, xs = [.ref a] ∧ H a = some (.ins C dx fs) ∧ sp [.ref a] H (fun v H' => ∃ n : Nat, v = .int (n : Int) ∧ n < 1000000 ∧ Q (.int (n : Int)) H') fun _ _ _ => False
section
open Builtin
theorem call_lenOwn {X : Cx} {CX : CXT} {k : Nat} {C f : Addr} {fd : FuncData} {ps : List Str} {sp : Sp} (F : FnOk X.prog X.w X.K X.mg X.base CX k f fd ps sp) (hr : Room (k + 1) X.A)
    (hs : PySem.W.findIn X.K (.ref C) "__len__" = some (some (.ref f))) (hf : PySem.W.isFn X.K (.ref f) = true) (hb : Binds X.K fd ps []) (hx : Passes CX X fun _ _ _ => False) : CallR X (.builtin "len") (rLenOwn C sp) := by
  intro pins s σ H xs us Q I r h
  obtain ⟨a, dx, fs, rfl, ha, hsp⟩ := h
  obtain ⟨u, rfl, ru⟩ := vals1 r
  obtain rfl : u = Value.ref a := ru
  obtain ⟨mA, J, _⟩ := ins_get I.hok ha
  obtain ⟨od, J, _⟩ := J.look
  refine Calls.call_function_entry kind_len plain_len entry_len (args_len1 _) ?_
  unfold Builtin.«len»
  refine wpAny_bind (m := oneArg "len" _) (wpAny_pure ?_)
  refine wpAny_bind (m := callSpecial? (.ref a) (PySem.Str.ofString "__len__")) (PySem.W.special_fn I.kIn J hs (beq_iff_eq.mp hf) ?_)
  have hl := F.len _ _ _ _ hsp
  refine wpAny_call (codeAny_mono (F.run X.A.in1 X.stack s H ⟨[.ref a], []⟩ [.ref a] [.ref a] _ _ hr.in1 I.env0.in1 (by
    have := hb s [.ref a] I.kIn (by simpa using hl)
    simpa using this) (.cons rfl .nil) hsp) fun r s' hq => ?_)
  cases r with
  | error e => exact hx pins σ H s e s' I hq
  | ok fl =>
    cases fl with
    | ret w =>
      obtain ⟨z, H', I', rz, n, ez, hn, q⟩ := I.after hq
      subst ez
      obtain ⟨t, rfl⟩ := rz
      refine wpAny_bind (wpAny_holding (wpAny_pure ?_))
      refine wpAny_bind (wpAny_letGo ?_)
      show wpAny _ _ (if ((n : Nat) : Int) < 0 then _ else _) _ _ _
      rw [if_neg (by omega)]
      show wpAny _ _ (if ((n : Nat) : Int) ≥ 2 ^ 63 then _ else _) _ _ _
      rw [if_neg (by omega)]
      exact wpAny_bind (wpAny_mkInt (wpAny_pure ⟨_, rfl, .int (n : Int), H', I'.tok _, ⟨_, rfl⟩, q⟩))
    | next => exact False.elim hq
    | brk => exact False.elim hq
    | cont => exact False.elim hq
end
section
variable {P : Program} {w : World} {K : PySem.W.Frag} {mg : Str → Option Value} {base : Heap} {C : Cs}
def spLen (C : Cs) : Sp := fun vs H Q _ => OnSys C vs H [] fun S ad dx => Q (.int (S.procs.length : Int)) H
theorem scLen : FnScope ["self"] ["self"] (defScope sLen) := ⟨rfl, rfl, rfl, by decide +kernel, rfl, by decide +kernel, by decide +kernel⟩
theorem okLen {f : Addr} {fd : FuncData} (F : Fun K "__len__" "System.__len__" sLen f fd) (len : mg "len" = none) (T : ClsF K C.S sysF) : FnOk P w K mg base CX0 1 f fd ["self"] (spLen C) := by
  refine F.ok scLen (fun vs H Q E h => ?_) (fun cdv A outer s H vs Q E hr h => ?_)
  · obtain ⟨_, _, _, rfl, _⟩ := h
    rfl
  · obtain ⟨S, ad, dx, rfl, A0, k⟩ := h
    refine ⟨_, pss_one (ps_ret (pe_callB call_lenD (by rfl) len PySem.boot_len (pa_cons (pe_fld (pv 0) rfl) pa_nil))), ?_⟩
    have hb := A0.at_ .box trivial
    have hD : H (ad .tabD) = some (.dK (entKV S.procs fun p => ad (.tab p))) := A0.at_ .tabD trivial
    walk_at "wn"
    refine ⟨_, rfl, ad .box, C.S, dx .box, _, _, rfl, hb, T.cl, T.no _ (by decide), rfl, ?_⟩
    walk_at "wn"
    refine ⟨ad .tabD, _, rfl, hD, ?_⟩
    unfold entKV
    rw [List.length_map]
    exact k
def spAlive (C : Cs) : Sp := fun vs H Q _ => OnSys C vs H [] fun S ad dx => S.procs.length ≤ 6 ∧ ∀ (ys : List Int) (r : Addr), ys.Perm S.procs → ys.Pairwise (· ≤ ·) → H r = none → Q (.ref r) (upd H r (.lst (ys.map V.int)))
theorem scAlive : FnScope ["self"] ["self"] (defScope sAlive) := ⟨rfl, rfl, rfl, by decide +kernel, rfl, by decide +kernel, by decide +kernel⟩
theorem okAlive {f : Addr} {fd : FuncData} (F : Fun K "alive" "System.alive" sAlive f fd) (X : RegTxt mg) (T : ClsF K C.S sysF) : FnOk P w K mg base CX0 1 f fd ["self"] (spAlive C) := by
  refine F.ok scAlive (fun vs H Q E h => ?_) (fun cdv A outer s H vs Q E hr h => ?_)
  · obtain ⟨_, _, _, rfl, _⟩ := h
    rfl
  · obtain ⟨S, ad, dx, rfl, A0, hl, k⟩ := h
    refine ⟨_, pss_one (ps_ret (pe_callB (call_sortedDI rfl) (by rfl) X.sorted (by decide +kernel) (pa_cons (pe_fld (pv 0) rfl) pa_nil))), ?_⟩
    have hb := A0.at_ .box trivial
    walk_at "wn"
    refine ⟨_, rfl, ad .box, C.S, dx .box, _, _, rfl, hb, T.cl, T.no _ (by decide), rfl, ?_⟩
    walk_at "wn"
    exact ⟨ad .tabD, _, S.procs, rfl, .inl (A0.at_ .tabD trivial), by unfold entKV; rw [List.map_map]; rfl, by omega, k⟩
def spLimits (C : Cs) : Sp := fun vs H Q _ => OnSys C vs H [] fun S ad dx => ∀ (H' : Hp) (r : Addr), Same H H' → H' r = some (.tup [.int S.P, .int S.N]) → Q (.ref r) H'
theorem scLimits : FnScope ["self"] ["self"] (defScope sLimits) := ⟨rfl, rfl, rfl, by decide +kernel, rfl, by decide +kernel, by decide +kernel⟩
theorem okLimits {f : Addr} {fd : FuncData} (F : Fun K "limits" "System.limits" sLimits f fd) (T : ClsF K C.S sysF) : FnOk P w K mg base CX0 1 f fd ["self"] (spLimits C) := by
  refine F.ok scLimits (fun vs H Q E h => ?_) (fun cdv A outer s H vs Q E hr h => ?_)
  · obtain ⟨_, _, _, rfl, _⟩ := h
    rfl
  · obtain ⟨S, ad, dx, rfl, A0, k⟩ := h
    refine ⟨_, pss_one (ps_ret (pe_tup (pa_cons (pe_fld (pv 0) rfl) (pa_cons (pe_fld (pv 0) rfl) pa_nil)))), ?_⟩
    have hb := A0.at_ .box trivial
    walk_at "wn"
    refine ⟨_, rfl, ad .box, C.S, dx .box, _, _, rfl, hb, T.cl, T.no _ (by decide), rfl, ?_⟩
    walk_at "wn"
    refine ⟨_, rfl, ad .box, C.S, dx .box, _, _, rfl, hb, T.cl, T.no _ (by decide), rfl, ?_⟩
    walk_at "wn"
    exact ⟨by show 2 ≤ sizeLine; decide, fun r hr0 => k _ r (Same.new' hr0) upd_same⟩
/-- an expression that is not reached -/
theorem pe_never {X : Cx} {e : Expr} : PE X e (fun _ _ _ => False) := ⟨fun _ _ _ _ _ _ h => h.elim⟩
def tNev : TE := fun _ _ _ => False
def NoneAll (l : List (Option Int)) : Prop := ∀ (i : Nat) (x : Option Int), l[i]? = some x → x = none
def spNumbersE (C : Cs) : Sp := fun vs H Q _ => ∃ p : Int, OnSys C vs H [.int p] fun S ad dx => p ∈ S.procs ∧ NoneAll (S.tab p) ∧ ∀ H' r, H r = none → Same H H' → H' r = some (.lst []) → Q (.ref r) H'
abbrev nNumbers : List Str := ["self", "process", "table", "number", "thing"]
theorem scNumbers : FnScope nNumbers ["self", "process"] (defScope sNumbers) := ⟨rfl, rfl, rfl, by decide +kernel, rfl, by decide +kernel, by decide +kernel⟩
theorem okNumbersE {f fT : Addr} {fd fdT : FuncData} (F : Fun K "numbers" "System.numbers" sNumbers f fd) (X : SysTxt mg) (T : ClsF K C.S sysF) (GT : MO P w K mg base 3 C.S "table_of" ["self", "process"] (spTableOf C) fT fdT) :
    FnOk P w K mg base CX0 4 f fd ["self", "process"] (spNumbersE C) := by
  refine F.ok scNumbers (fun vs H Q E h => ?_) (fun cdv A outer s H vs Q E hr h => ?_)
  · obtain ⟨_, _, _, _, rfl, _⟩ := h
    rfl
  · obtain ⟨p, S, ad, dx, rfl, A0, hp, hn, k⟩ := h
    refine ⟨_, pss_cons (ps_set (i := 2) scNumbers.nd rfl (Or.inl rfl) (pe_meth (pv 0) T.cl GT.m GT.g hr GT.b .nil pass0 (pa_cons (pv 1) pa_nil)))
      (pss_one (ps_ret (pe_lc (own := [("number", 3), ("thing", 4)]) (g := gTup K 2 (gCons (gName 3) (gCons (gName 4) gNil))) rfl scNumbers.nd (pi_enum (by rfl) X.enum (pa_cons (pv 2) pa_nil)) (blkOk_by (N := nNumbers) (sc := defScope sNumbers) (by decide +kernel))
        (fun _ _ _ _ _ => pg_tup rfl (pgs_cons (pg_name (i := 3) scNumbers.nd rfl (Or.inl rfl)) (pgs_cons (pg_name (i := 4) scNumbers.nd rfl (Or.inl rfl)) pgs_nil))) (tt := tTest (tOp rNotN (tVar 4) (tC .non))) (fun _ _ _ _ _ => pts_one (pt_cmpR oNotN (pv 4) pe_non (nomark _)))
        (te := tNev) (fun _ _ _ _ _ => pe_never)))), ?_⟩
    have hb := A0.at_ .box trivial
    have ht := A0.at_ (.tab p) hp
    walk_at "wn"
    refine ⟨_, rfl, ad .box, dx .box, _, rfl, hb, rfl, ?_⟩
    walk_at "wn"
    refine ⟨p, S, ad, dx, rfl, A0, hp, ?_⟩
    walk_at "wn"
    refine ⟨_, rfl, ?_⟩
    refine ⟨ad (.tab p), _, rfl, SqL.of ht, fun D hD => ?_⟩
    refine lc_it (walk_enum (xs := (S.tab p).map optV)) (fun i H' => Same H H' ∧ H' D = some (.lst [])) ⟨Same.new' hD, upd_same⟩ (fun i H' _ h => Same.seq h.1 (SqL.of ht)) ?_ (fun H' h => ?_)
    · rintro i x H1 H2 hi ⟨sm, hd⟩ ⟨T1, x1, y1, rfl, nT, rfl, ex, ey⟩
      have s1 := Same.new' (o := .tup [x1, y1]) nT
      have smT := sm.trans s1
      obtain rfl := Option.some.inj ex
      have ey : ((S.tab p).map optV)[i]? = some y1 := ey
      rw [List.getElem?_map] at ey
      cases et : (S.tab p)[i]? with
      | none => rw [et] at ey; cases ey
      | some x =>
      obtain rfl := hn i x et
      rw [et] at ey
      cases ey
      have hd1 := s1 _ _ hd
      refine ⟨T1, _, rfl, SqT.of upd_same, rfl, _, _, rfl, ?_⟩
      walk_at "wn"
      refine ⟨_, _, rfl, ?_⟩
      walk_at "wn"
      refine ⟨rfl, rfl, ?_⟩
      walk_at "wn"
      exact ⟨smT, hd1⟩
    · exact k H' D hD h.1 h.2
theorem rowThings_none (acc : List Int) : ∀ {l : List (Option Int)}, NoneAll l → rowThings acc l = acc
  | [], _ => rfl
  | x :: l, h => by
    obtain rfl := h 0 x rfl
    exact rowThings_none acc (l := l) fun i y e => h (i + 1) y e
theorem things_none {S : Sys} (acc : List Int) : ∀ {ps : List Int}, (∀ p ∈ ps, NoneAll (S.tab p)) → thingsOf S acc ps = acc
  | [], _ => rfl
  | p :: ps, h => by
    show thingsOf S (rowThings acc (S.tab p)) ps = acc
    rw [rowThings_none acc (h p List.mem_cons_self)]
    exact things_none acc fun q hq => h q (List.mem_cons_of_mem _ hq)
def spRegsE (C : Cs) : Sp := fun vs H Q _ => OnSys C vs H [] fun S ad dx => S.procs.length ≤ 6 ∧ (∀ p ∈ S.procs, (S.tab p).length ≤ 8 ∧ NoneAll (S.tab p)) ∧ ∀ H' r, H r = none → Same H H' → H' r = some (.lst []) → Q (.ref r) H'
abbrev nRegs : List Str := ["self", "names", "thing", "label", "kept"]
theorem scRegs : FnScope nRegs ["self"] (defScope sRegistrations) := ⟨rfl, rfl, rfl, by decide +kernel, rfl, by decide +kernel, by decide +kernel⟩
theorem okRegsE {f fT : Addr} {fd fdT : FuncData} (F : Fun K "registrations" "System.registrations" sRegistrations f fd) (T : ClsF K C.S sysF) (GT : MO P w K mg base 1 C.S "things" ["self"] (spThings C) fT fdT) : FnOk P w K mg base CX0 3 f fd ["self"] (spRegsE C) := by
  refine F.ok scRegs (fun vs H Q E h => ?_) (fun cdv A outer s H vs Q E hr h => ?_)
  · obtain ⟨_, _, _, rfl, _⟩ := h
    rfl
  · obtain ⟨S, ad, dx, rfl, A0, hp, ht, k⟩ := h
    have hu := hu_of hr
    have r1 : Room 1 _ := hr.mono (by decide)
    refine ⟨_, pss_cut (ps_set (i := 1) scRegs.nd rfl (Or.inr rfl) (pe_dc (own := [("thing", 2)]) (g := gName 2) (tt := tYes) (tk := tVar 2) (tv := tNev) rfl scRegs.nd (pi_list (pe_meth0 (pv 0) T.cl GT.m GT.g r1 GT.b .nil pass0)) (blkOk_by (N := nRegs) (sc := defScope sRegistrations) (by decide +kernel))
        (fun _ _ _ _ _ => pg_name (i := 2) scRegs.nd rfl (Or.inl rfl)) (fun _ _ _ _ _ => pts_nil) (fun _ _ _ _ _ => pv 2) (fun _ _ _ _ _ => pe_never)))
      (pss_one (ps_ret (pe_lc2 (own := [("thing", 2), ("label", 3), ("kept", 4)]) (vs1 := [3, 4]) (g := gName 2) (tt := tTest (tDIn (tVar 2) (tFld K (tVar 0) "sets"))) (wi1 := iItems tNev) (g1 := gTup K 2 (gCons (gName 3) (gCons (gName 4) gNil))) (tt1 := tYes)
        (te := tNev)
        rfl scRegs.nd (pi_list (pe_meth0 (pv 0) T.cl GT.m GT.g r1 GT.b .nil pass0)) (blkOk_by (N := nRegs) (sc := defScope sRegistrations) (by decide +kernel)) (by decide)
        (fun _ _ _ _ _ => pg_name (i := 2) scRegs.nd rfl (Or.inl rfl)) (fun _ _ _ _ _ => pts_one (pt_cmp (pc_din hu (pv 2) (pe_fld (pv 0) rfl)) rfl)) (fun _ _ _ _ _ => pi_items pe_never)
        (fun _ _ _ _ _ => pg_tup rfl (pgs_cons (pg_name (i := 3) scRegs.nd rfl (Or.inl rfl)) (pgs_cons (pg_name (i := 4) scRegs.nd rfl (Or.inl rfl)) pgs_nil))) (fun _ _ _ _ _ => pts_nil)
        (fun _ _ _ _ _ => pe_never)))), ?_⟩
    have hb := A0.at_ .box trivial
    have Tb := A0.tabAt
    refine ⟨fun σ' H1 => ∃ (D : Addr), σ' = [some (.ref (ad .box)), some (.ref D), none, none, none] ∧ Same H H1, ?_, ?_⟩
    · walk_at "wn"
      refine tDc_of ?_
      unfold iList
      walk_at "wn"
      refine ⟨_, rfl, ad .box, dx .box, _, rfl, hb, rfl, ?_⟩
      walk_at "wn"
      refine ⟨S, ad, dx, rfl, Tb, hp, fun p h => (ht p h).1, fun ys H1 r pm pw s1 nr hr1 => ?_⟩
      rw [things_none [] fun p h => (ht p (pm.mem_iff.mp h)).2] at hr1
      refine ⟨r, rfl, ⟨_, SqL.of hr1⟩, fun D hD => ?_⟩
      refine rounds_it (walk_list (K := K) (xs := ([] : List V))) (fun i H' => Same H1 H') (Same.new' hD) (fun i H' _ sm => SqL.of (sm _ _ hr1)) ?_ ?_
      · rintro i x H2 H3 hi sm ⟨rfl, ex⟩
        exact absurd hi (Nat.not_lt_zero _)
      · rintro H' sm
        walk_at "wn"
        exact ⟨D, rfl, s1.trans sm⟩
    · rintro σ' H1 ⟨D, rfl, sm⟩
      walk_at "wn"
      refine tLc2_of ?_
      unfold iList
      walk_at "wn"
      refine ⟨_, rfl, ad .box, dx .box, _, rfl, sm _ _ hb, rfl, ?_⟩
      walk_at "wn"
      refine ⟨S, ad, dx, rfl, Tb.same sm, hp, fun p h => (ht p h).1, fun ys H2 r pm pw s1 nr hr1 => ?_⟩
      rw [things_none [] fun p h => (ht p (pm.mem_iff.mp h)).2] at hr1
      refine ⟨r, rfl, ⟨_, SqL.of hr1⟩, fun R hR => ?_⟩
      refine rounds_it (walk_list (K := K) (xs := ([] : List V))) (fun i H' => Same H2 H' ∧ H' R = some (.lst [])) ⟨Same.new' hR, upd_same⟩ (fun i H' _ h => SqL.of (h.1 _ _ hr1)) ?_ ?_
      · rintro i x H3 H4 hi sm ⟨rfl, ex⟩
        exact absurd hi (Nat.not_lt_zero _)
      · rintro H' ⟨sm2, hd⟩
        exact k H' R ((sm.trans s1).free hR) ((sm.trans s1).trans sm2) hd
end

structure FnG (P : Program) (w : World) (K : PySem.W.Frag) (mg : Str → Option Value) (base : Heap) (CX : CXT) (k : Nat) (f : Addr) (fd : FuncData) (ps : List Str) (sp : Sp) : Prop where
  size : ∀ vs H Q E, sp vs H Q E → vs.length = ps.length
  go : ∀ (A : Around), Room k A → A.guards = some [] → ∀ (outer : List Env) (s : Shared) (H : Hp), Env0 P w K mg base A outer s H → ∀ (args : Args) (us : List Value) (vs : List V), BindsTo s fd args (ps.zip us) → Vals vs us →
    ∀ (Q : VK) (E : XK), sp vs H Q E → codeAny (model P w) A (.call (.ref f) args) (CR CX outer P w H s Q E) s
section
variable {P : Program} {w : World} {K : PySem.W.Frag} {mg : Str → Option Value} {base : Heap} {CX : CXT} {k : Nat} {f : Addr} {fd : FuncData} {ps : List Str} {sp : Sp}
theorem FnG.of (F : FnOk P w K mg base CX k f fd ps sp) : FnG P w K mg base CX k f fd ps sp :=
  ⟨F.len, fun A hr _ outer s H e args us vs hb r Q E h => F.run A outer s H args us vs Q E hr e hb r h⟩
/-- the body, from «no repr is under way» -/
theorem okG {x qual : Str} {st : Stmt} {N : List Str} (F : Fun K x qual st f fd) (S : FnScope N ps (defScope st)) (len : ∀ vs H Q E, sp vs H Q E → vs.length = ps.length)
    (body : ∀ (cdv : Value) (A : Around) (outer : List Env) (s : Shared) (H : Hp) (vs : List V) (Q : VK) (E : XK), Room k (A.deeper (envOfC qual (defScope st) s.heap.objs.size f cdv)) → A.guards = some [] → sp vs H Q E →
      ∃ t, PSs (cxOf CX P w K mg base N qual (defScope st) f cdv A outer s H E) (defBody st) t ∧ t { nx := fun _ H' => Q .non H', rt := Q } (start N vs) H) : FnG P w K mg base CX (k + 1) f fd ps sp := by
  refine ⟨len, fun A hr hg outer s H e args us vs hb r Q E h => ?_⟩
  obtain ⟨oc, od, kV, doc, pm, an, cdv, ct, osl, rfl, lk, hcd⟩ := F.ex
  have hl := len _ _ _ _ h
  have KX : K.In s.heap := e.mod.kin.keeps fun b o z => (e.bs b o z).1
  have lim : s.heap.NoLimit := e.mod.nolimit.keeps fun b o z => (e.bs b o z).1
  have kinds : ∀ y ∈ ps.zip us, (defScope st).names.lookup y.1 = some .local ∨ ((defScope st).names.lookup y.1 = some .cell ∧ ((cellsFrom (s.heap.objs.size + 1) (defScope st).names []).lookup y.1).isSome = true) := by
    rintro ⟨n, v⟩ hy
    rcases S.par n (List.of_mem_zip hy).1 with q | q
    · exact Or.inl q
    · exact Or.inr ⟨q, PySem.W.cellsFrom_some _ _ _ (Or.inl q)⟩
  refine codeAny_call_function hr.depth (KX _ _ lk) rfl S.co S.gen rfl (PySem.W.codeRec_of KX hcd) (hb _ _ _ _ ?_)
  refine wpAny_newFunctionEnv_cells S.kind kinds fun env henv s1 ic => ?_
  cases henv
  refine ⟨lim.keeps ic.toInCall.keep, codeAny_func ?_⟩
  obtain ⟨t, ht, q⟩ := body cdv A outer s H vs Q E (hr.deeper _) hg h
  have I := inv_start (E := E) (CX := CX) S hr.hd e hl r ic
  refine wpAny_mono (ht.run [] s1 _ H _ I q) (fun fl s' z => ?_) fun _ _ z => z
  cases fl with
  | next =>
    obtain ⟨_, H', J, z⟩ := z
    exact ⟨V.non, H', J.os, J.bare, J.base, J.hok, rfl, z⟩
  | ret u =>
    obtain ⟨v, _, H', J, rv, z⟩ := z
    exact ⟨v, H', J.os, J.bare, J.base, J.hok, rv, z⟩
  | brk =>
    obtain ⟨_, _, _, z⟩ := z
    exact False.elim z
  | cont =>
    obtain ⟨_, _, _, z⟩ := z
    exact False.elim z
end
section
variable {X : Cx} {CX : CXT} {k : Nat} {f : Addr} {fd : FuncData} {ps : List Str} {sp : Sp} {dvs : List V} {ds : List Value} {E : XK} {x : Str} {p pos : Pos} {e : Expr} {es : List Expr} {t : TA}
theorem pe_callG (F : FnG X.prog X.w X.K X.mg X.base CX k f fd ps sp) (hr : Room k X.A) (gd : X.A.guards = some []) (hg : Gl X x) (hm : X.mg x = some (.ref f)) (hk : PySem.W.keepIn X.K (.ref f) = true) (hb : Binds X.K fd ps ds) (hd : Vals dvs ds) (hx : Passes CX X E)
    (ha : PA X (e :: es) t) (hdb : (x == ("__debug__" : Str)) = false := by decide) (he : starEach (e :: es) X.env = (false, eval e X.env) :: starEach es X.env := by rfl) (hpl : (backTo pos (starEach es X.env)).any (·.1) = false := by rfl) :
    PE X (.Call (.Name x p) (e :: es) [] pos) (tCall sp dvs E t) := by
  constructor
  intro pins s σ H Q I h
  refine wpAny_Call_Name_kw (ld_glob I hg hm (PySem.W.callWith_K (h₀ := X.base) I.ok.mod.kin hk (thn (ha.run pos pins s σ H _ I h) ?_) he hpl) hdb)
  rintro us s1 ⟨vs, H1, I1, r, q⟩
  refine ⟨I1.kIn, ?_⟩
  have r2 : Vals (vs ++ dvs) (us ++ ds) := r.append hd
  have hl : (us ++ ds).length = ps.length := r2.length.symm.trans (F.size _ _ _ _ q)
  refine wpAny_call (codeAny_mono (F.go X.A hr gd X.stack s1 H1 I1.env0 ⟨us, []⟩ _ _ (hb s1 us I1.kIn hl) r2 Q E q) ?_)
  rintro (er | fl) s' z
  · exact hx pins σ H1 s1 er s' I1 z
  · cases fl with
    | ret u => exact I1.after z
    | next => exact z.elim
    | brk => exact z.elim
    | cont => exact z.elim
end
section
variable {P : Program} {w : World} {K : PySem.W.Frag} {mg : Str → Option Value} {base : Heap}
/-- a def whose code is known -/
theorem okC {CX : CXT} {x qual : Str} {st : Stmt} {N ps : List Str} {k : Nat} {f c : Addr} {fd : FuncData} {sp : Sp} (F : Fun K x qual st f fd) (hc : fd.code = .ref c) (S : FnScope N ps (defScope st)) (len : ∀ vs H Q E, sp vs H Q E → vs.length = ps.length)
    (body : ∀ (A : Around) (outer : List Env) (s : Shared) (H : Hp) (vs : List V) (Q : VK) (E : XK), Room k (A.deeper (envOfC qual (defScope st) s.heap.objs.size f (.ref c))) → sp vs H Q E →
      ∃ t, PSs (cxOf CX P w K mg base N qual (defScope st) f (.ref c) A outer s H E) (defBody st) t ∧ t { nx := fun _ H' => Q .non H', rt := Q } (start N vs) H) : FnOk P w K mg base CX (k + 1) f fd ps sp := by
  obtain ⟨oc, od, kV, doc, pm, an, cdv, ct, osl, rfl, lk, hcd⟩ := F.ex
  obtain rfl : cdv = .ref c := hc
  exact ⟨len, fun A outer s H args us vs Q E hr e hb r h => LamX.run_ofS lk hcd S hr e hb r (len _ _ _ _ h) fun hr' => body A outer s H vs Q E hr' h⟩
end
/-- the same of a def whose code is known -/
theorem okGC {P : Program} {w : World} {K : PySem.W.Frag} {mg : Str → Option Value} {base : Heap} {CX : CXT} {k : Nat} {f c : Addr} {fd : FuncData} {ps : List Str} {sp : Sp} {x qual : Str} {st : Stmt} {N : List Str} (F : Fun K x qual st f fd) (hc : fd.code = .ref c) (S : FnScope N ps (defScope st)) (len : ∀ vs H Q E, sp vs H Q E → vs.length = ps.length)
    (body : ∀ (A : Around) (outer : List Env) (s : Shared) (H : Hp) (vs : List V) (Q : VK) (E : XK), Room k (A.deeper (envOfC qual (defScope st) s.heap.objs.size f (.ref c))) → A.guards = some [] → sp vs H Q E →
      ∃ t, PSs (cxOf CX P w K mg base N qual (defScope st) f (.ref c) A outer s H E) (defBody st) t ∧ t { nx := fun _ H' => Q .non H', rt := Q } (start N vs) H) : FnG P w K mg base CX (k + 1) f fd ps sp := by
  refine ⟨len, fun A hr hg outer s H e args us vs hb r Q E h => ?_⟩
  obtain ⟨oc, od, kV, doc, pm, an, cdv, ct, osl, rfl, lk, hcd⟩ := F.ex
  obtain rfl : cdv = .ref c := hc
  have hl := len _ _ _ _ h
  have KX : K.In s.heap := e.mod.kin.keeps fun b o z => (e.bs b o z).1
  have lim : s.heap.NoLimit := e.mod.nolimit.keeps fun b o z => (e.bs b o z).1
  have kinds : ∀ y ∈ ps.zip us, (defScope st).names.lookup y.1 = some .local ∨ ((defScope st).names.lookup y.1 = some .cell ∧ ((cellsFrom (s.heap.objs.size + 1) (defScope st).names []).lookup y.1).isSome = true) := by
    rintro ⟨n, v⟩ hy
    rcases S.par n (List.of_mem_zip hy).1 with q | q
    · exact Or.inl q
    · exact Or.inr ⟨q, PySem.W.cellsFrom_some _ _ _ (Or.inl q)⟩
  refine codeAny_call_function hr.depth (KX _ _ lk) rfl S.co S.gen rfl (PySem.W.codeRec_of KX hcd) (hb _ _ _ _ ?_)
  refine wpAny_newFunctionEnv_cells S.kind kinds fun env henv s1 ic => ?_
  cases henv
  refine ⟨lim.keeps ic.toInCall.keep, codeAny_func ?_⟩
  obtain ⟨t, ht, q⟩ := body A outer s H vs Q E (hr.deeper _) hg h
  have I := inv_start (E := E) (CX := CX) S hr.hd e hl r ic
  refine wpAny_mono (ht.run [] s1 _ H _ I q) (fun fl s' z => ?_) fun _ _ z => z
  cases fl with
  | next =>
    obtain ⟨_, H', J, z⟩ := z
    exact ⟨V.non, H', J.os, J.bare, J.base, J.hok, rfl, z⟩
  | ret u =>
    obtain ⟨v, _, H', J, rv, z⟩ := z
    exact ⟨v, H', J.os, J.bare, J.base, J.hok, rv, z⟩
  | brk =>
    obtain ⟨_, _, _, z⟩ := z
    exact False.elim z
  | cont =>
    obtain ⟨_, _, _, z⟩ := z
    exact False.elim z
/-! the law's call where a code's table grows -/
theorem law_T {P : Program} {w : World} {K : PySem.W.Frag} {mg mb : Str → Option Value} {k : Nat} {fa a Pt : Addr} {fd : FuncData} {x : Str} {sp : Sp} {s : Shared} {vs : List Value} {ns : List Int}
    (KX : K.In s.heap) (hns : s.heap.Ns mainGlobals mg) (hb : s.heap.Ns builtinsNs mb) (hbb : ∀ x : Str, x ≠ "__name__" → mb x = bootBuiltins x) (hlim : s.heap.NoLimit) (hg : s.gens = #[])
    (ha : s.heap.get? a = some { cls := .type "list", data := .seq vs.toArray }) (hi : IntsAre vs ns) (hl : ns.length ≤ sizeLine) (hr : Room k callerA)
    (hPt : s.heap.get? Pt = some (PySem.W.tabObj #[])) (nPt : K.lookup Pt = none) (tPt : isCodeTable s.heap Pt)
    (F : ∀ base : Heap, K.In base → base.Ns mainGlobals mg → (∀ x : Str, x ≠ "__name__" → mb x = bootBuiltins x) → base.Ns builtinsNs mb → base.BuiltinsAt mg Pt → FnG P w K mg base CX0 k fa fd [x] sp) (hbm : s.heap.BuiltinsAt mg Pt) (hbind : ∀ (s : Shared) (u : Value), BindsTo s fd ⟨[u], []⟩ [(x, u)])
    (hsp : ∀ H : Hp, SqL K H a (ns.map V.int) → H Pt = some (.tbl #[]) → sp [.ref a] H (fun v _ => v = .bl true) fun _ _ _ => False) :
    codeAny (model P w) callerA (.call (.ref fa) ⟨[.ref a], []⟩) (fun r s' => r = .ok (.ret (.bool true)) ∧ OldK s.heap s'.heap ∧ s'.os = s.os ∧ AllBare s'.gens) s := by
  have rv := vals_ints hi
  have nPa : Pt ≠ a := fun z => by
    rw [z, ha] at hPt
    cases hPt
  have run : ∀ H : Hp, (∀ b u, H b = some u → (b = a ∧ ∃ o ys, u = .frz o (.lst ys)) ∨ (b = Pt ∧ u = .tbl #[])) → (∀ u, H a = some u → K.lookup a = none) → HOk P w H s.heap → SqL K H a (ns.map V.int) → H Pt = some (.tbl #[]) →
      codeAny (model P w) callerA (.call (.ref fa) ⟨[.ref a], []⟩) (fun r s' => r = .ok (.ret (.bool true)) ∧ OldK s.heap s'.heap ∧ s'.os = s.os ∧ AllBare s'.gens) s := by
    intro H only noK ok hS hP
    have old : ∀ {b : Addr} {o : Obj}, s.heap.get? b = some o → H b = none → (hidT s.heap H).get? b = some o := fun e n => hidT_get e n
    have free : ∀ {b : Addr}, b ≠ a → b ≠ Pt → H b = none := fun {b} n1 n2 => by
      cases e : H b with
      | none => rfl
      | some u =>
        rcases only b u e with z | z
        · exact absurd z.1 n1
        · exact absurd z.1 n2
    have spaces : ∀ {b : Addr} {m : Str → Option Value}, s.heap.Ns b m → (hidT s.heap H).Ns b m := by
      rintro b m ⟨o, es, ep, e, d, r⟩
      refine ⟨o, es, ep, old e (free (fun z => ?_) fun z => ?_), d, r⟩
      · subst z
        rw [ha] at e
        cases e
        cases d
      · subst z
        rw [hPt] at e
        cases e
        cases d
    have bmh : (hidT s.heap H).BuiltinsAt mg Pt := by
      obtain ⟨bm, o, b1, b2, b3, b4, b5, b6, b7, b8⟩ := hbm
      refine ⟨bm, o, b1, b2, b3, b4, old b5 (free (fun z => ?_) b4), b6, b7, b8⟩
      rw [z, ha] at b5
      cases b5
      cases b8
    have kb : K.In (hidT s.heap H) := fun b o e => by
      refine old (KX b o e) ?_
      cases q : H b with
      | none => rfl
      | some u =>
        rcases only b u q with ⟨rfl, _⟩ | ⟨rfl, _⟩
        · rw [noK u q] at e
          cases e
        · rw [nPt] at e
          cases e
    have md : Mod K mg (hidT s.heap H) := ⟨kb, spaces hns, ⟨mb, spaces hb, hbb⟩, hlim.elim fun mc z => ⟨mc, spaces z.1, z.2⟩⟩
    have e0 : Env0 P w K mg (hidT s.heap H) callerA [] s H := ⟨rfl, md, fun b o e => of_hidT e, Nat.le_of_eq (hidT_size _ _), trivial, fun b hb => (nomatch (show b ∈ ([] : List Addr) from hb)), ok, .of_eq hg⟩
    refine codeAny_mono ((F _ kb (spaces hns) hbb (spaces hb) bmh).go callerA hr rfl [] s H e0 ⟨[.ref a], []⟩ [.ref a] [.ref a] (hbind s _) (.cons rfl .nil) _ _ (hsp H hS hP)) ?_
    rintro (er | fl) s' z
    · exact z.elim
    cases fl with
    | next => exact z.elim
    | brk => exact z.elim
    | cont => exact z.elim
    | ret u =>
      obtain ⟨v, H', os, bare, un, ok', rv', rfl⟩ := z
      obtain rfl : u = Value.bool true := rv'
      have fin : ∀ b o, s.heap.get? b = some o → b ≠ Pt → s'.heap.get? b = some o := fun b o e nb => by
        cases q : H b with
        | none => exact un.keep b o e q (fun z => nomatch z) (by simp)
        | some u =>
          rcases only b u q with ⟨rfl, ob, ys, rfl⟩ | ⟨rfl, _⟩
          · have e1 := (ok _ _ q).1
            have e2 := (ok' _ _ (un.frzs _ _ _ q)).1
            rw [e] at e1
            cases e1
            exact e2
          · exact absurd rfl nb
      obtain ⟨more, hm⟩ := un.tbls _ _ hP
      have eP : s'.heap.get? Pt = some { cls := Value.none, data := Data.fields (#[] ++ more) } := ok' _ _ hm
      refine ⟨rfl, ⟨fun b o e => ?_, fun b o e => ?_⟩, os, bare⟩
      · by_cases nb : b = Pt
        · subst nb
          rw [hPt] at e
          cases e
          exact .inr (.inl ⟨tPt, rfl, #[], more, rfl, eP⟩)
        · exact .inl (fin b o e nb)
      · by_cases nb : b = Pt
        · subst nb
          exact ⟨_, eP⟩
        · exact ⟨_, fin b o e nb⟩
  have lenV := hi.length
  cases hk : K.lookup a with
  | some o =>
    have e := KX a o hk
    rw [ha] at e
    cases e
    refine run (fun b => if b = Pt then some (.tbl #[]) else none) (fun b u z => ?_) (fun u z => ?_) (fun b u z => ?_) (.inr ⟨_, vs.toArray, _, hk, rfl, rfl, rfl, by rw [List.size_toArray, lenV]; exact hl, by simpa using rv⟩) (if_pos rfl)
    · by_cases hb : b = Pt
      · try dsimp only at z
        rw [if_pos hb] at z
        cases z
        exact .inr ⟨hb, rfl⟩
      · try dsimp only at z
        rw [if_neg hb] at z
        cases z
    · try dsimp only at z
      rw [if_neg nPa.symm] at z
      cases z
    · by_cases hb : b = Pt
      · try dsimp only at z
        rw [if_pos hb] at z
        cases z
        subst hb
        exact hPt
      · try dsimp only at z
        rw [if_neg hb] at z
        cases z
  | none =>
    refine run (fun b => if b = a then some (.frz { cls := .type "list", data := .seq vs.toArray } (.lst (ns.map V.int))) else if b = Pt then some (.tbl #[]) else none) (fun b u z => ?_) (fun _ _ => hk) (fun b u z => ?_) (.inl (.inr ⟨_, if_pos rfl⟩)) ?_
    · try dsimp only at z
      by_cases hb : b = a
      · rw [if_pos hb] at z
        cases z
        exact .inl ⟨hb, _, _, rfl⟩
      · rw [if_neg hb] at z
        by_cases hb2 : b = Pt
        · rw [if_pos hb2] at z
          cases z
          exact .inr ⟨hb2, rfl⟩
        · rw [if_neg hb2] at z
          cases z
    · try dsimp only at z
      by_cases hb : b = a
      · rw [if_pos hb] at z
        cases z
        subst hb
        exact ⟨ha, by rw [List.length_map]; exact hl, vs, _, rv, ha⟩
      · rw [if_neg hb] at z
        by_cases hb2 : b = Pt
        · rw [if_pos hb2] at z
          cases z
          subst hb2
          exact hPt
        · rw [if_neg hb2] at z
          cases z
    · try dsimp only
      rw [if_neg nPa, if_pos rfl]
theorem walkT {l : PySem.W.OpenLaw} {n k : Nat} {q : Program} {loose : List Str} {XP : (Str → Option Value) → Heap → Prop} {YP : World → Heap → Prop} {d : DefRec} {K : Params → PySem.W.Frag} {sp : PySem.W.Frag → (Str → Option Value) → Sp} {x : Str} {Pt : Addr}
    (hn : l.most = some n) (hn2 : n ≤ sizeLine) (hdf : d.params.defaults = []) (hr : Room k callerA) (hY : ∀ (w : World) (h : Heap), YP w h → (K w.params).In h) (hT : ∀ (w : World) (h : Heap), YP w h → h.get? Pt = some (PySem.W.tabObj #[])) (nT : ∀ w : World, (K w.params).lookup Pt = none)
    (tT : ∀ (w : World) (h : Heap), (K w.params).In h → isCodeTable h Pt)
    (F : ∀ (w : World) (mg : Str → Option Value) (fa : Addr) (h : Heap), (K w.params).In h → h.Ns mainGlobals mg → mg d.name = some (.ref fa) →
      ∃ fd : FuncData, (∀ (s : Shared) (u : Value), BindsTo s fd ⟨[u], []⟩ [(x, u)]) ∧ (∀ base : Heap, (K w.params).In base → base.Ns mainGlobals mg → base.BuiltinsAt mg Pt → FnG l.prog w (K w.params) mg base CX0 k fa fd [x] (sp (K w.params) mg)) ∧
        ∀ (H : Hp) (a : Addr) (ns : List Int), ns.length ≤ n → SqL (K w.params) H a (ns.map V.int) → H Pt = some (.tbl #[]) → sp (K w.params) mg [.ref a] H (fun v _ => v = .bl true) fun _ _ _ => False) :
    PySem.W.WalkO q loose XP YP l.row.toRowW d [] (fun f vs => PySem.call f vs) := by
  refine Att.attach_call hn hdf fun w s₀ s₁ mg mb fa o pm cd doc a vs ns G Y ho hd hcd hmg hobj hints hlen hg => ?_
  obtain ⟨fd, hb, hF, hsp⟩ := F w mg fa _ (hY w _ Y) G.T.g hmg
  have hbm : s₁.heap.BuiltinsAt mg Pt := by
    obtain ⟨bm, ob, b1, b2, b3, b4, b5, b6⟩ := G.T.bmain
    refine ⟨bm, ob, b1, b2, fun z => ?_, fun z => ?_, b3, b4, b5, b6⟩
    · obtain ⟨o, es, ep, e, d, r⟩ := G.T.g
      rw [z, e] at b3
      cases b3
      rw [d] at b6
      cases b6
    · rw [z, hT w _ Y] at b3
      cases b3
      cases b6
  exact law_T (hY w _ Y) G.T.g G.T.b G.T.builtins G.T.nolimit hg hobj hints (Nat.le_trans hlen hn2) hr (hT w _ Y) (nT w) (tT w _ (hY w _ Y)) (fun base k1 k2 _ _ k3 => hF base k1 k2 k3) hbm hb fun H hS hP => hsp H a ns hlen hS hP
/-! how long a datum's repr may be -/
mutual
def wt : PyData → Nat
  | .none => 4
  | .bool _ => 5
  | .int _ => 2000
  | .str x => 10 * x.length + 2
  | .list xs => wtA xs + 3
  | .tuple xs => wtA xs + 3
  | .dict _ => 0
def wtA : List PyData → Nat
  | [] => 0
  | x :: xs => wt x + 2 + wtA xs
end
mutual
def okR : PyData → Bool
  | .none => true
  | .bool _ => true
  | .int i => decide (i.natAbs.log2 < 1920)
  | .str x => x.cps.toList.all fun c => decide (c < 16 ^ 8)
  | .list xs => okRA xs
  | .tuple xs => okRA xs
  | .dict _ => false
def okRA : List PyData → Bool
  | [] => true
  | x :: xs => okR x && okRA xs
end
mutual
theorem okR_show : ∀ d : PyData, okR d = true → d.showable = true ∧ d.hasDict = false
  | .none, _ => by simp [PyData.showable, PyData.hasDict]
  | .bool _, _ => by simp [PyData.showable, PyData.hasDict]
  | .str _, _ => by simp [PyData.showable, PyData.hasDict]
  | .int i, h => by
    simp only [okR] at h
    simp only [PyData.showable, PyData.hasDict]
    exact ⟨h, trivial⟩
  | .list xs, h => by
    simp only [okR] at h
    simp only [PyData.showable, PyData.hasDict]
    exact okRA_show xs h
  | .tuple xs, h => by
    simp only [okR] at h
    simp only [PyData.showable, PyData.hasDict]
    exact okRA_show xs h
  | .dict _, h => by simp only [okR] at h; cases h
theorem okRA_show : ∀ ds : List PyData, okRA ds = true → PyData.showableAll ds = true ∧ PyData.hasDictAll ds = false
  | [], _ => by simp [PyData.showableAll, PyData.hasDictAll]
  | d :: ds, h => by
    simp only [okRA, Bool.and_eq_true] at h
    have h1 := okR_show d h.1
    have h2 := okRA_show ds h.2
    simp only [PyData.showableAll, PyData.hasDictAll, h1.1, h1.2, h2.1, h2.2, Bool.and_self, Bool.or_self, and_self]
end
theorem shownAll_length : ∀ ds : List PyData, (PyData.shownAll ds).length = ds.length
  | [] => rfl
  | d :: ds => by simp only [PyData.shownAll, List.length_cons, shownAll_length ds]
mutual
theorem shown_le : ∀ d : PyData, okR d = true → d.shown.length ≤ wt d
  | .none, _ => by simp only [PyData.shown, wt]; decide +kernel
  | .bool b, _ => by cases b <;> (simp only [PyData.shown, wt]; decide +kernel)
  | .int i, h => by
    simp only [okR] at h
    have e := int_text_length_le (k := 1920) (by decide) (of_decide_eq_true h)
    simp only [PyData.shown, wt]
    rw [PySem.ofString_length]
    omega
  | .str x, h => by
    simp only [okR, List.all_eq_true, decide_eq_true_eq] at h
    simp only [PyData.shown, wt]
    exact StrLaws.reprText_len x h
  | .list xs, h => by
    simp only [okR] at h
    have e := listText_len_le (PyData.shownAll xs)
    have f := shownAll_le xs h
    rw [shownAll_length] at e
    simp only [PyData.shown, wt]
    omega
  | .tuple xs, h => by
    simp only [okR] at h
    have e := fmt_text (PyData.shownAll xs)
    have f := shownAll_le xs h
    have g : piled (PyData.shownAll xs) = ((PyData.shownAll xs).map (·.length)).sum + 2 * xs.length := by
      rw [← shownAll_length xs]
      unfold piled
      generalize PyData.shownAll xs = l
      induction l with
      | nil => rfl
      | cons a l ih => simp only [List.map_cons, List.sum_cons, List.length_cons] at ih ⊢; omega
    simp only [PyData.shown, wt]
    omega
  | .dict _, h => by simp only [okR] at h; cases h
theorem shownAll_le : ∀ ds : List PyData, okRA ds = true → ((PyData.shownAll ds).map (·.length)).sum + 2 * ds.length ≤ wtA ds
  | [], _ => by simp [PyData.shownAll, wtA]
  | d :: ds, h => by
    simp only [okRA, Bool.and_eq_true] at h
    have h1 := shown_le d h.1
    have h2 := shownAll_le ds h.2
    simp only [PyData.shownAll, wtA, List.map_cons, List.sum_cons, List.length_cons]
    omega
end
/-- repr(x), x data -/
def rRepr (K : PySem.W.Frag) : List V → Hp → VK → Prop := fun xs H Q => ∃ x d, xs = [x] ∧ Dp K H x d ∧ okR d = true ∧ d.depth ≤ 40 ∧ wt d ≤ 16777216 ∧ Q (.str d.shown) H
section
variable {X : Cx}
theorem cRepr (gd : X.A.guards = some []) (hu : X.A.units + 64 < cLine) : CallR X (.builtin "repr") (rRepr X.K) := by
  intro pins s σ H xs us Q I r h
  obtain ⟨x, d, rfl, dp, ok, dd, dz, q⟩ := h
  obtain ⟨u, rfl, rx⟩ := vals1 r
  obtain ⟨as, rd⟩ := Dp.reads I d x u dp rx
  have sh := okR_show d ok
  have sz : d.shown.length ≤ sizeLine := Nat.le_trans (shown_le d ok) (by rw [sizeLine_eq]; exact dz)
  cases rd with
  | none => exact PySem.P.repr_of_none ⟨.str _, H, I.tok _, ⟨_, rfl⟩, q⟩
  | bool b => exact PySem.P.repr_of_bool ⟨.str _, H, I.tok _, ⟨_, rfl⟩, q⟩
  | int i t => exact PySem.P.repr_of_int (by simpa [okR] using ok) ⟨.str _, H, I.tok _, ⟨_, rfl⟩, q⟩
  | str z t => exact PySem.P.repr_of_str ⟨.str _, H, I.tok _, ⟨_, rfl⟩, q⟩ sz
  | list h1 h2 h3 h4 => exact repr_of_reads' (.list h1 h2 h3 h4) sh.1 (PyData.noDict_hsm sh.2) gd (by omega) (fun _ _ e => e) (fun h' u tk hk => ⟨.str _, H, I.kept hk, ⟨_, rfl⟩, q⟩) sz
  | tuple h1 h2 h3 h4 => exact repr_of_reads' (.tuple h1 h2 h3 h4) sh.1 (PyData.noDict_hsm sh.2) gd (by omega) (fun _ _ e => e) (fun h' u tk hk => ⟨.str _, H, I.kept hk, ⟨_, rfl⟩, q⟩) sz
  | dict => simp only [okR] at ok; cases ok
end

abbrev sObject : Stmt := top 24
abbrev sIsFrom : Stmt := top 25
abbrev sRefused : Stmt := top 26
abbrev sFills : Stmt := top 27
abbrev sLaw : Stmt := top 28
theorem takes0 {X : Cx} : Takes X (fun _ _ _ _ => False) := fun u s' ⟨_, _, _, _, _, _, _, _, _, _, _, _, _, _, _, _, w⟩ => w.elim
theorem takes_len {X : Cx} {W : WX} (tk : Takes X W) : Takes X fun cls d σ H => σ.length = X.N.length → W cls d σ H := fun u s' ⟨a, B, sI, pins, σ, H, cls, d, h1, I, h2, h3, h4, h5, h6, h7, h8⟩ => tk u s' ⟨a, B, sI, pins, σ, H, cls, d, h1, I, h2, h3, h4, h5, h6, h7, h8 I.len⟩
/-! isinstance(e, T), e a caught error with its own dict, or without one -/
def rIsX (K : PySem.W.Frag) (D a : Addr) (cls : Value) (d : Option Addr) : List V → Hp → VK → Prop := fun xs H Q => cls = .ref D ∧ ∃ (c : V) (cv : Value) (b : Bool) (dd : Addr) (fs : List (Str × V)), xs = [.ref a, c] ∧ (∀ u, RelV c u → u = cv) ∧ PySem.W.kitOne K (.ref D) cv = some b ∧ d = some dd ∧ H dd = some (.xd fs) ∧ Q (.bl b) H
theorem call_isX {X : Cx} {a D : Addr} {cls : Value} {d : Option Addr} {oe : Obj} {pn : List (Addr × Obj)} (C : ExcC X.K D) (hD : (PySem.W.clsIn X.K D).isSome = true) (hz : Zc cls d oe) (hf : ∃ vs, oe.data = .fields vs) : CallR (X.suite a ((a, oe) :: pn)) (.builtin "isinstance") (rIsX X.K D a cls d) := by
  rintro pins s σ H xs us Q I r ⟨rfl, c, cv, b, dd, fs, rfl, hcv, e, rfl, hd, q⟩
  obtain ⟨u1, u2, rfl, ra, rb⟩ := vals2 r
  obtain rfl : u1 = Value.ref a := ra
  obtain rfl := hcv _ rb
  have hp := I.pin (a, oe) (List.mem_append.mpr (.inl List.mem_cons_self))
  have ok := I.hok _ _ hd
  obtain ⟨hz1, hz2⟩ := hz
  obtain ⟨vs, hf⟩ := hf
  obtain ⟨o, ho⟩ : ∃ o, s.heap.get? dd = some o := by
    obtain ⟨mA, ⟨o, es, ep, e1, _⟩, _⟩ := ok
    exact ⟨o, e1⟩
  have ia : PySem.W.InstAt s.heap a oe D (some o) := ⟨hp.1, hz1, by unfold PySem.W.notCls; rw [hf], by rw [hz2]; exact ho⟩
  refine PySem.W.kia_one (PySem.W.kitx_exc (od := some o) (ox := oe) hD C.hg C.hk C.hs C.ha C.hn C.ht C.hm) I.kIn ia e (fun z => nomatch z) fun tk => ?_
  exact ⟨.bl b, H, I.tok _, rfl, q⟩
def rIsZ (K : PySem.W.Frag) (D a : Addr) (cls : Value) (d : Option Addr) : List V → Hp → VK → Prop := fun xs H Q => cls = .ref D ∧ d = none ∧ ∃ (c : V) (cv : Value) (b : Bool), xs = [.ref a, c] ∧ (∀ u, RelV c u → u = cv) ∧ PySem.W.kitOne K (.ref D) cv = some b ∧ Q (.bl b) H
theorem call_isZ {X : Cx} {a D : Addr} {cls : Value} {d : Option Addr} {oe : Obj} {pn : List (Addr × Obj)} (C : ExcC X.K D) (hD : (PySem.W.clsIn X.K D).isSome = true) (hz : Zc cls d oe) (hf : ∃ vs, oe.data = .fields vs) : CallR (X.suite a ((a, oe) :: pn)) (.builtin "isinstance") (rIsZ X.K D a cls d) := by
  rintro pins s σ H xs us Q I r ⟨rfl, rfl, c, cv, b, rfl, hcv, e, q⟩
  obtain ⟨u1, u2, rfl, ra, rb⟩ := vals2 r
  obtain rfl : u1 = Value.ref a := ra
  obtain rfl := hcv _ rb
  have hp := I.pin (a, oe) (List.mem_append.mpr (.inl List.mem_cons_self))
  obtain ⟨hz1, hz2⟩ := hz
  obtain ⟨vs, hf⟩ := hf
  have ia : PySem.W.InstAt s.heap a oe D none := ⟨hp.1, hz1, by unfold PySem.W.notCls; rw [hf], by rw [hz2]; trivial⟩
  refine PySem.W.kia_one (PySem.W.kitx_exc (od := none) (ox := oe) hD C.hg C.hk C.hs C.ha C.hn C.ht C.hm) I.kIn ia e (fun z => nomatch z) fun tk => ?_
  exact ⟨.bl b, H, I.tok _, rfl, q⟩
/-! o.m(e), where what is raised is taken by this very store -/
def tMethS (C : Addr) (m : Str) (sp : Sp) (E : L2.St → XK) (ta : TE) (t : TA) : TE := fun σ H Q => ta σ H fun x H1 => ∃ a dx fs, x = .ref a ∧ H1 a = some (.ins C dx fs) ∧ fs.lookup m = none ∧ t σ H1 fun vs H2 => sp (x :: vs) H2 Q (E σ)
theorem pe_methS {X : Cx} {CX : CXT} {k : Nat} {f C : Addr} {fd : FuncData} {ps : List Str} {sp : Sp} {E : L2.St → XK} {m : Str} {apos pos : Pos} {o e : Expr} {es : List Expr} {ta : TE} {t : TA} {pl : Sem Bool} (he : PE X o ta) (c : Cls X.K C) (hm : Meth X.K C m f) (F : FnOk X.prog X.w X.K X.mg X.base CX k f fd ps sp) (hr : Room k X.A) (hb : Binds X.K fd ps []) (hx : ∀ σ, PassesAt CX X σ (E σ)) (ha : PA X (e :: es) t)
    (hst : starEach (e :: es) X.env = (false, eval e X.env) :: starEach es X.env := by rfl) (hpl : (backTo pos (starEach es X.env)).any (·.1) = false := by rfl)
    (ht : eval (.Call (.Attribute o m apos) (e :: es) [] pos) X.env = (do
      let ov ← eval o X.env
      standAt apos.atName
      let (f, first) ← holding [ov] (getMethod ov m pl)
      callWith pos f first (backTo pos (starEach (e :: es) X.env)) (backToKw pos (keywordEach [] X.env))) := by rfl) :
    PE X (.Call (.Attribute o m apos) (e :: es) [] pos) (tMethS C m sp E ta t) := by
  refine ⟨fun pins s σ H Q I h => ?_⟩
  refine PySem.W.methodCall_KW (pl := pl) (thn (he.run pins s σ H _ I h) fun u s1 ⟨x, H1, I1, rx, a, dx, fs, ex, ea, l, q⟩ => ?_) ht
  subst ex
  obtain rfl : u = Value.ref a := rx
  refine getmeth_ok I1 ea c hm l ?_
  refine PySem.W.callWith_K (first := [.ref a]) (h₀ := X.base) I.ok.mod.kin hm.kp (thn (ha.run pos pins s1 σ H1 _ I1 q) fun us s2 ⟨vs, H2, I2, r, q2⟩ => ⟨I2.kIn, ?_⟩) hst hpl
  exact run_fnS (us := .ref a :: us) (vs := .ref a :: vs) F hr hb (hx σ) I2 (.cons rfl r) q2
abbrev LimE (K : PySem.W.Frag) (mg : Str → Option Value) (D fI : Addr) (fdI : FuncData) : Prop := ErrF K mg "BadLimit" "limit" D fI fdI "ValueError.__new__" (.type "ValueError" :: exT)
section
variable {P : Program} {w : World} {K : PySem.W.Frag} {mg : Str → Option Value} {base : Heap} {C : Cs}
/-! System(..), refused -/
def badV (x y : V) : Option V := if inB x 2 6 = false then some x else if inB y 3 8 = false then some y else none
def spSysInitX (C : Cs) (D : Addr) : Sp := fun vs H Q E => ∃ (x dx0 : Addr) (v1 v2 v : V), vs = [.ref x, v1, v2] ∧ H x = some (.ins C.S dx0 []) ∧ Flat H v1 ∧ Flat H v2 ∧ badV v1 v2 = some v ∧ OutV D "limit" v H E
theorem okSysInitX {D : Addr} {dvs : List V} {kws : List (Str × V)} {f fB fE : Addr} {fd fdB fdE : FuncData} (F : FunD K "__init__" "System.__init__" (defArgs sSysInit) (defBody sSysInit) (defScope sSysInit) dvs kws f fd) (T : ClsF K C.S sysF) (L : LimTxt K mg C.S)
    (TE : LimE K mg D fE fdE) (GE : FnOk P w K mg base CX0 1 fE fdE ["self", "limit"] (spErrInit D "limit"))
    (GB : DO P w K mg base 2 "is_between" ["x", "least", "most"] spIsBetween fB fdB) : FnOk P w K mg base (L2.CX P w) 3 f fd ["self", "processes", "numbers"] (spSysInitX C D) := by
  refine F.ok scSysInit (fun vs H Q E h => ?_) (fun cdv A outer s H vs Q E hr h => ?_)
  · obtain ⟨_, _, _, _, _, rfl, _⟩ := h
    rfl
  · obtain ⟨x, dx0, v1, v2, v, rfl, hx, f1, f2, bad, ke⟩ := h
    obtain ⟨tp, lp⟩ := L.lp
    obtain ⟨tn, ln⟩ := L.ln
    obtain ⟨up, mp⟩ := L.mp
    obtain ⟨un, mn⟩ := L.mn
    refine ⟨_, pss_cons (ps_if (pt_not (pt_val (pe_call GB.g hr (by rfl) GB.m GB.k GB.b .nil pass0 (pa_cons (pv 1) (pa_cons (pe_glob (v := .int 2) (by rfl) lp ⟨_, rfl⟩) (pa_cons (pe_con (pv 0) rfl) pa_nil)))))) (pss_one (ps_raise rfl (takes_of rfl rfl rfl rfl) (pmk_oxb bxValue TE.ox TE.iC TE.tI GE hr TE.bI .nil pass0 (by rfl) TE.gC (pa_cons (pv 1) pa_nil)))) pss_nil)
      (pss_cons (ps_if (pt_not (pt_val (pe_call GB.g hr (by rfl) GB.m GB.k GB.b .nil pass0 (pa_cons (pv 2) (pa_cons (pe_glob (v := .int 3) (by rfl) ln ⟨_, rfl⟩) (pa_cons (pe_con (pv 0) rfl) pa_nil)))))) (pss_one (ps_raise rfl (takes_of rfl rfl rfl rfl) (pmk_oxb bxValue TE.ox TE.iC TE.tI GE hr TE.bI .nil pass0 (by rfl) TE.gC (pa_cons (pv 2) pa_nil)))) pss_nil)
      (pss_cons ps_never (pss_cons ps_never (pss_cons ps_never (pss_cons ps_never (pss_cons ps_never (pss_one ps_never))))))), ?_⟩
    walk_at "wn"
    refine ⟨_, rfl, x, C.S, dx0, _, _, _, rfl, hx, T.cl, mp, rfl, ?_⟩
    refine ⟨v1, 2, 6, rfl, f1.ob, ?_⟩
    unfold badV at bad
    by_cases h1 : inB v1 2 6 = false
    · rw [if_pos h1] at bad
      cases bad
      rw [h1]
      walk_at "wn"
      show tMkO D (spErrInit D "limit") [] (tCons (tVar 1) tNil) _ H fun cls d H' => E cls d H'
      show tCons _ _ _ _ _
      walk_at "wn"
      exact out_madeV f1 ke
    · rw [if_neg h1] at bad
      rw [eq_true_of_ne_false h1]
      walk_at "wn"
      refine ⟨_, rfl, x, C.S, dx0, _, _, _, rfl, hx, T.cl, mn, rfl, ?_⟩
      refine ⟨v2, 3, 8, rfl, f2.ob, ?_⟩
      by_cases h2 : inB v2 3 8 = false
      · rw [if_pos h2] at bad
        cases bad
        rw [h2]
        walk_at "wn"
        show tMkO D (spErrInit D "limit") [] (tCons (tVar 2) tNil) _ H fun cls d H' => E cls d H'
        show tCons _ _ _ _ _
        walk_at "wn"
        exact out_madeV f2 ke
      · rw [if_neg h2] at bad
        cases bad
/-! _law_object -/
def spObject : Sp := fun vs H Q _ => ∃ p : Addr, vs = [.ref p] ∧ BagAt H p ∧ ∀ (v : V) (H' : Hp), Flat H' v → (∀ a, v = .ref a → a ≠ p) → (∀ b o, b ≠ p → H b = some o → H' b = some o) → BagAt H' p → Q v H'
theorem scObject : FnScope ["_law_bag_here", "_law_some"] ["_law_bag_here"] (defScope sObject) := ⟨rfl, rfl, rfl, by decide +kernel, rfl, by decide +kernel, by decide +kernel⟩
theorem okObject {f fO : Addr} {fd fdO : FuncData} (F : Fun K "_law_object" "_law_object" sObject f fd) (GO : DO P w K mg base 2 "_law_of" ["_law_bag_here", "_law_some"] (spOf K) fO fdO) : FnOk P w K mg base CX0 3 f fd ["_law_bag_here"] spObject := by
  refine F.ok scObject (fun vs H Q E h => ?_) (fun cdv A outer s H vs Q E hr h => ?_)
  · obtain ⟨_, rfl, _⟩ := h
    rfl
  · obtain ⟨p, rfl, bg, k⟩ := h
    refine ⟨_, pss_cut (ps_set (i := 1) scObject.nd rfl (Or.inl rfl) (pe_lst (pa_cons pe_non (pa_cons pe_bl (pa_cons pe_bl (pa_cons pe_int (pa_cons pe_int (pa_cons pe_int (pa_cons (pe_op op_pow pe_int pe_int) (pa_cons (pe_un un_neg pe_int) (pa_cons pe_str (pa_cons (pe_tup (pa_cons pe_int pa_nil)) (pa_cons (pe_lst (pa_cons pe_int pa_nil)) (pa_cons pe_str (pa_cons (pe_tup pa_nil) (pa_cons pe_int (pa_cons pe_int (pa_cons pe_int (pa_cons pe_int (pa_cons pe_int pa_nil))))))))))))))))))))
      (pss_one (ps_ret (pe_call GO.g hr (by rfl) GO.m GO.k GO.b .nil pass0 (pa_cons (pv 0) (pa_cons (pv 1) pa_nil))))), ?_⟩
    refine ⟨fun σ' H' => ∃ (L t1 l1 t2 : Addr), σ' = [some (.ref p), some (.ref L)] ∧ Same H H' ∧ H L = none ∧ H' L = some (.lst [.non, .bl true, .bl false, .int 0, .int 1, .int 9, .int (10 ^ 19), .int (-3), .str "4", .ref t1, .ref l1, .str "", .ref t2, .int 2, .int 3, .int 5, .int 7, .int 8]) ∧ H' t1 = some (.tup [.int 4]) ∧ H' l1 = some (.lst [.int 4]) ∧ H' t2 = some (.tup []), ?_, ?_⟩
    · walk_at "wn"
      refine ⟨10, 19, rfl, rfl, ⟨by decide, by decide, by decide⟩, ?_⟩
      walk_at "wn"
      refine ⟨3, rfl, ?_⟩
      walk_at "wn"
      refine ⟨by show 1 ≤ sizeLine; decide, fun t1 ht1 => ?_⟩
      have s1 := Same.new' (o := .tup [.int 4]) ht1
      have h1 : upd H t1 (.tup [.int 4]) t1 = some (.tup [.int 4]) := upd_same
      generalize upd H t1 (.tup [.int 4]) = H1 at s1 h1 ⊢
      walk_at "wn"
      refine ⟨by show 1 ≤ sizeLine; decide, fun l1 hl1 => ?_⟩
      have s2 := Same.new' (o := .lst [.int 4]) hl1
      have h2 : upd H1 l1 (.lst [.int 4]) l1 = some (.lst [.int 4]) := upd_same
      generalize upd H1 l1 (.lst [.int 4]) = H2 at s2 h2 ⊢
      walk_at "wn"
      refine ⟨Nat.zero_le _, fun t2 ht2 => ?_⟩
      have s3 := Same.new' (o := .tup []) ht2
      have h3 : upd H2 t2 (.tup []) t2 = some (.tup []) := upd_same
      generalize upd H2 t2 (.tup []) = H3 at s3 h3 ⊢
      walk_at "wn"
      refine ⟨by show 18 ≤ sizeLine; decide, fun L hL => ?_⟩
      have s123 := s1.trans (s2.trans s3)
      have s4 := Same.new' (o := .lst [.non, .bl true, .bl false, .int 0, .int 1, .int 9, .int (10 ^ 19), .int (-3), .str "4", .ref t1, .ref l1, .str "", .ref t2, .int 2, .int 3, .int 5, .int 7, .int 8]) hL
      walk_at "wn"
      exact ⟨L, t1, l1, t2, rfl, s123.trans s4, s123.free hL, upd_same, s4 _ _ (s3 _ _ (s2 _ _ h1)), s4 _ _ (s3 _ _ h2), s4 _ _ h3⟩
    · rintro σ' H1 ⟨L, t1, l1, t2, rfl, s1, nL, hL, h1, h2, h3⟩
      obtain ⟨b1, b2, hb, hbr⟩ := bg
      have hp := hb
      have nLp : L ≠ p := fun z => by rw [z, hp] at nL; cases nL
      walk_at "wn"
      refine ⟨p, L, _, rfl, ⟨b1, b2, s1 _ _ hb, hbr⟩, SqL.of hL, nLp, by show 0 < 18; decide, by show 18 ≤ 1000; decide, fun j v H2 hj e2 bg2 => ?_⟩
      have k2 : ∀ b o, b ≠ p → H1 b = some o → H2 b = some o := fun b o n e => (e2 b n).trans e
      have n1 : t1 ≠ p := fun z => by rw [z, s1 _ _ hp] at h1; cases h1
      have n3 : t2 ≠ p := fun z => by rw [z, s1 _ _ hp] at h3; cases h3
      have n2 : l1 ≠ p := fun z => by rw [z, s1 _ _ hp] at h2; cases h2
      have hm := List.mem_of_getElem? hj
      simp only [List.mem_cons, List.not_mem_nil, or_false] at hm
      refine k v H2 ?_ ?_ (fun b o n e => k2 b o n (s1 _ _ e)) bg2
      case refine_2 =>
        rintro a rfl
        simp only [V.ref.injEq, reduceCtorEq, false_or, or_false] at hm
        rcases hm with rfl | rfl | rfl
        · exact n1
        · exact n2
        · exact n3
      rcases hm with rfl | rfl | rfl | rfl | rfl | rfl | rfl | rfl | rfl | rfl | rfl | rfl | rfl | rfl | rfl | rfl | rfl | rfl
      all_goals first
        | exact .non
        | exact .bl _
        | exact .int _ (by decide +kernel)
        | exact .str _ (by decide) (by decide)
        | exact .tup t1 [4] (by decide) (fun i hi => by rw [List.mem_singleton.mp hi]; decide +kernel) (k2 _ _ n1 h1)
        | exact .tup t2 [] (by decide) (fun i hi => absurd hi List.not_mem_nil) (k2 _ _ n3 h3)
        | exact .lst l1 4 [] (by decide) (fun i hi => by rw [List.mem_singleton.mp hi]; decide +kernel) (k2 _ _ n2 h2)
/-! _law_is_from -/
def spIsFrom : Sp := fun vs H Q _ => ∃ (x : V) (a b : Int), vs = [x, .int a, .int b] ∧ Ob H x ∧ Q (.bl (inB x a b)) H
theorem scIsFrom : FnScope ["_law_thing", "_law_low", "_law_high"] ["_law_thing", "_law_low", "_law_high"] (defScope sIsFrom) := ⟨rfl, rfl, rfl, by decide +kernel, rfl, by decide +kernel, by decide +kernel⟩
theorem okIsFrom {f : Addr} {fd : FuncData} (F : Fun K "_law_is_from" "_law_is_from" sIsFrom f fd) (T : ChkTxt K mg) : FnOk P w K mg base CX0 1 f fd ["_law_thing", "_law_low", "_law_high"] spIsFrom := by
  refine F.ok scIsFrom (fun vs H Q E h => ?_) (fun cdv A outer s H vs Q E hr h => ?_)
  · obtain ⟨_, _, _, rfl, _⟩ := h
    rfl
  · obtain ⟨x, a, b, rfl, ob, k⟩ := h
    refine ⟨_, pss_one (ps_ret (pe_and (pe_callB call_isi (by rfl) T.isin PyProof.Rows.boot_isinstance (pa_cons (pv 0) (pa_cons (pe_bltn (v := .ty "int") (by rfl) T.int PyProof.Rows.boot_int rfl) pa_nil))) (pe_and (pe_not (pe_callB call_isi (by rfl) T.isin PyProof.Rows.boot_isinstance (pa_cons (pv 0) (pa_cons (pe_bltn (v := .ty "bool") (by rfl) T.bool (by decide +kernel) rfl) pa_nil)))) (pe_one (pe_chain op_le op_le (pv 1) (pv 0) (pv 2)))))), ?_⟩
    cases ob with
    | int i =>
      refine ⟨_, rfl, _, _, _, _, true, rfl, .ty "int", .base (.int i), kit_ty (by decide +kernel), ?_⟩
      refine ⟨_, rfl, _, rfl, _, _, _, _, false, rfl, .ty "bool", .base (.int i), kit_ty (by decide +kernel), ?_⟩
      refine ⟨_, rfl, ?_⟩
      refine ⟨_, rfl, _, rfl, _, rfl, a, i, rfl, rfl, _, rfl, ?_⟩
      have k : Q (.bl (decide (a ≤ i) && decide (i ≤ b))) H := k
      refine ite2 (fun hc => ?_) (fun hc => ?_)
      · rw [hc, Bool.true_and] at k
        exact ⟨_, rfl, i, b, rfl, rfl, k⟩
      · rw [Bool.eq_false_iff.mpr hc, Bool.false_and] at k
        exact k
    | bl c =>
      refine ⟨_, rfl, _, _, _, _, true, rfl, .ty "int", .base (.bl c), kit_ty (by decide +kernel), ?_⟩
      refine ⟨_, rfl, _, rfl, _, _, _, _, true, rfl, .ty "bool", .base (.bl c), kit_ty (by decide +kernel), ?_⟩
      refine ⟨_, rfl, ?_⟩
      exact ⟨_, rfl, k⟩
    | non =>
      refine ⟨_, rfl, _, _, _, _, false, rfl, .ty "int", .base .non, kit_ty (by decide +kernel), ?_⟩
      exact ⟨_, rfl, k⟩
    | str y =>
      refine ⟨_, rfl, _, _, _, _, false, rfl, .ty "int", .base (.str y), kit_ty (by decide +kernel), ?_⟩
      exact ⟨_, rfl, k⟩
    | tup a xs ha =>
      refine ⟨_, rfl, _, _, _, _, false, rfl, .ty "int", .base (.tup ha), kit_ty (by decide +kernel), ?_⟩
      exact ⟨_, rfl, k⟩
    | lst a xs ha =>
      refine ⟨_, rfl, _, _, _, _, false, rfl, .ty "int", .base (.lst ha), kit_ty (by decide +kernel), ?_⟩
      exact ⟨_, rfl, k⟩
/-! _law_refused -/
structure BadTxt (K : PySem.W.Frag) (mg : Str → Option Value) (D fE : Addr) (fdE : FuncData) : Prop where
  te : LimE K mg D fE fdE
  ex : ExcC K D
  cl : (PySem.W.clsIn K D).isSome = true
  kv : PySem.W.kitOne K (.ref D) (.type "ValueError") = some true
  gv : mg "ValueError" = none
  isin : mg "isinstance" = none
abbrev tBad (K : PySem.W.Frag) (D : Addr) : Addr → Value → Option Addr → TS := fun a cls d => tRet (tLst (tCons (tXf a cls d D "limit" (tVar 2)) (tCons (tCB (rIsX K D a cls d) (tCons (tVar 2) (tCons (tC (.ty "ValueError")) tNil))) tNil)))
theorem badV_good {x y : V} (h : badV x y = none) : ∃ p n : Int, x = .int p ∧ y = .int n ∧ 2 ≤ p ∧ p ≤ 6 ∧ 3 ≤ n ∧ n ≤ 8 := by
  have go : ∀ (v : V) (a b : Int), ¬ inB v a b = false → ∃ i : Int, v = .int i ∧ a ≤ i ∧ i ≤ b := fun v a b h => by
    have h := eq_true_of_ne_false h
    cases v with
    | int i =>
      have h : (decide (a ≤ i) && decide (i ≤ b)) = true := h
      rw [Bool.and_eq_true] at h
      exact ⟨i, rfl, of_decide_eq_true h.1, of_decide_eq_true h.2⟩
    | _ => cases h
  unfold badV at h
  by_cases h1 : inB x 2 6 = false
  · rw [if_pos h1] at h
    cases h
  · rw [if_neg h1] at h
    by_cases h2 : inB y 3 8 = false
    · rw [if_pos h2] at h
      cases h
    · obtain ⟨p, e1, a1, a2⟩ := go x 2 6 h1
      obtain ⟨n, e2, b1, b2⟩ := go y 3 8 h2
      exact ⟨p, n, e1, e2, a1, a2, b1, b2⟩
/-- what is told of a refusal -/
inductive DueR (H : Hp) : Option V → V → Prop
  | non : DueR H none .non
  | lst (v : V) (l : Addr) : H l = some (.lst [v, .bl true]) → DueR H (some v) (.ref l)
theorem DueR.same {H H' : Hp} {o : Option V} {v : V} (h : DueR H o v) (s : Same H H') : DueR H' o v := by
  cases h with
  | non => exact .non
  | lst v l e => exact .lst v l (s _ _ e)
def spRefused : Sp := fun vs H Q _ => ∃ (x y : V), vs = [x, y] ∧ Flat H x ∧ Flat H y ∧ ∀ H' v, Same H H' → DueR H' (badV x y) v → Q v H'
theorem scRefused : FnScope ["_law_many", "_law_size", "e"] ["_law_many", "_law_size"] (defScope sRefused) := ⟨rfl, rfl, rfl, by decide +kernel, rfl, by decide +kernel, by decide +kernel⟩
theorem okRefused {D f fI fE : Addr} {fd fdI fdE : FuncData} {g : List Value → List Value → List Value} (F : Fun K "_law_refused" "_law_refused" sRefused f fd) (B : BadTxt K mg D fE fdE)
    (gS : mg "System" = some (.ref C.S)) (MS : Mk K C.S fI) (GI : FnOk P w K mg base CX0 3 fI fdI ["self", "processes", "numbers"] (spSysInit C)) (GX : FnOk P w K mg base (L2.CX P w) 3 fI fdI ["self", "processes", "numbers"] (spSysInitX C D)) (kI : KBn K fdI ["self", "processes", "numbers"] 1 ["processes", "numbers"] g (fun vs zs => vs ++ zs)) :
    FnOk P w K mg base CX0 5 f fd ["_law_many", "_law_size"] spRefused := by
  refine F.ok scRefused (fun vs H Q E h => ?_) (fun cdv A outer s H vs Q E hr h => ?_)
  · obtain ⟨_, _, rfl, _⟩ := h
    rfl
  · obtain ⟨x, y, rfl, f1, f2, k⟩ := h
    have hr4 : Room 4 _ := hr
    cases hb : badV x y with
    | none =>
      obtain ⟨p, n, rfl, rfl, p0, p1, n0, n1⟩ := badV_good hb
      refine ⟨_, pss_cons (ps_try_as (i := 2) (ts := tBad K D) rfl rfl scRefused.nd rfl rfl ⟨rfl, by decide, Or.inl B.te.gC⟩ takes0
          (fun W pn xe tk _ => pss_one (ps_expr (pe_makeK0 (ks := ["processes", "numbers"]) MS GI hr4 (by rfl) gS kI pass0 (pk_cons (pv 0) (pk_cons (pv 1) pk_nil)))))
          (fun a oe cls d pn hz hf => pss_one (ps_ret (pe_lst (pa_cons (pe_xf B.te.xf B.te.noN hz hf (pv 2)) (pa_cons (pe_callB (call_isX B.ex B.cl hz hf) (by rfl) B.isin PyProof.Rows.boot_isinstance (pa_cons (pv 2) (pa_cons (pe_bltn (v := .ty "ValueError") (by rfl) B.gv (by rfl) rfl) pa_nil))) pa_nil))))))
        (pss_one (ps_ret pe_non)), ?_⟩
      walk_at "wn"
      refine ⟨_, rfl, _, rfl, rfl, rfl, fun x dx0 hx hd nd => ?_⟩
      refine ⟨x, dx0, p, n, rfl, upd_same, p0, p1, n0, n1, fun H3 ad dx hbx A3 k3 n3 => ⟨rfl, ?_⟩⟩
      walk_at "wn"
      refine k H3 .non (fun b o e => k3 b o (ne_of_none e hx) ?_) (by rw [hb]; exact .non)
      rw [upd_ne (ne_of_none e hx), upd_ne (ne_of_none e hd)]
      exact e
    | some v =>
      refine ⟨_, pss_cons (ps_try_as (i := 2) (ts := tBad K D) rfl rfl scRefused.nd rfl rfl ⟨rfl, by decide, Or.inl B.te.gC⟩ takes0
          (fun W pn xe tk _ => pss_one (ps_expr (pe_makeK0 (ks := ["processes", "numbers"]) (E := fun cls d H' => ∀ σ' : L2.St, σ'.length = 3 → W cls d σ' H') MS GX hr4 (by rfl) gS kI (passX ((takes_len tk).imp fun _ _ _ _ h hl => h _ hl)) (pk_cons (pv 0) (pk_cons (pv 1) pk_nil)))))
          (fun a oe cls d pn hz hf => pss_one (ps_ret (pe_lst (pa_cons (pe_xf B.te.xf B.te.noN hz hf (pv 2)) (pa_cons (pe_callB (call_isX B.ex B.cl hz hf) (by rfl) B.isin PyProof.Rows.boot_isinstance (pa_cons (pv 2) (pa_cons (pe_bltn (v := .ty "ValueError") (by rfl) B.gv (by rfl) rfl) pa_nil))) pa_nil))))))
        (pss_one (ps_ret pe_non)), ?_⟩
      walk_at "wn"
      refine ⟨_, rfl, _, rfl, rfl, rfl, fun x0 dx0 hx hd nd => ?_⟩
      have s0 : Same H (upd (upd H dx0 (.own x0)) x0 (.ins C.S dx0 [])) := fun b o e => by
        rw [upd_ne (ne_of_none e hx), upd_ne (ne_of_none e hd)]
        exact e
      refine ⟨x0, dx0, x, y, v, rfl, upd_same, f1.same s0, f2.same s0, hb, fun dd H1 hdd s1 h1 σ' hl => ⟨true, B.te.te, fun _ a ha => ?_, fun z => Bool.noConfusion z⟩⟩
      have e1 : (σ'.set 2 (some (V.ref a)))[2]? = some (some (V.ref a)) := by rw [List.getElem?_set_self (by omega)]
      refine ⟨_, e1, rfl, rfl, dd, _, _, rfl, h1, rfl, _, e1, rfl, .ty "ValueError", .type "ValueError", true, dd, _, rfl, fun u h => h, B.kv, rfl, h1, by show 2 ≤ sizeLine; decide, fun l hl2 => ?_⟩
      exact k _ (.ref l) ((s0.trans s1).trans (Same.new' hl2)) (by rw [hb]; exact .lst v l upd_same)
end

theorem passN {X : Cx} : Passes (L2.CX X.prog X.w) X (fun _ _ _ => False) := passX takes0
theorem two_eqv (a b c d : Int) : PyData.eqv (.tuple [.int a, .int b]) (.tuple [.int c, .int d]) = (decide (a = c) && decide (b = d)) := by
  simp only [PyData.eqv, PyData.eqvAll, Bool.and_true]
  rfl
theorem two_shaped (a b : Int) : SeqAt.shaped (.tuple [.int a, .int b]) = true := by
  unfold SeqAt.shaped
  rw [Bool.and_eq_true]
  exact ⟨by simp [PyData.canLay0, PyData.canLayAll0], decide_eq_true (by simp [PyData.depth, PyData.depthAll])⟩
theorem dp_ints {K : PySem.W.Frag} {H : Hp} : ∀ l : List Int, DpAll K H (l.map V.int) (l.map PyData.int)
  | [] => .nil
  | _ :: l => .cons (.int _) (dp_ints l)
theorem ints_lay : ∀ l : List Int, PyData.canLayAll0 (l.map PyData.int) = true ∧ PyData.depthAll (l.map PyData.int) = 0
  | [] => ⟨rfl, rfl⟩
  | c :: l => by
    obtain ⟨a, b⟩ := ints_lay l
    refine ⟨?_, ?_⟩
    · simp only [List.map_cons, PyData.canLayAll0, a, Bool.and_true, PyData.canLay0]
    · simp only [List.map_cons, PyData.depthAll, b, PyData.depth]
      rfl
theorem ints_shaped (l : List Int) : SeqAt.shaped (.list (l.map PyData.int)) = true := by
  obtain ⟨a, b⟩ := ints_lay l
  unfold SeqAt.shaped
  rw [Bool.and_eq_true]
  refine ⟨by simp only [PyData.canLay0]; exact a, decide_eq_true ?_⟩
  simp only [PyData.depth, b]
  decide
theorem ints_refl (l : List Int) : PyData.eqv (.list (l.map PyData.int)) (.list (l.map PyData.int)) = true := by
  refine SeqAt.eqv_refl_plain _ (PyData.plain_of_canLay0 _ ?_)
  simp only [PyData.canLay0]
  exact (ints_lay l).1
theorem q_neInts {K : PySem.W.Frag} {H : Hp} {Q : VK} {a b : Addr} {l : List Int} (h1 : H a = some (.lst (l.map V.int))) (h2 : H b = some (.lst (l.map V.int))) (k : Q (.bl false) H) : rNeD K (.ref a) (.ref b) H Q := by
  refine ⟨_, _, .lst (SqL.of h1) (dp_ints l), .lst (SqL.of h2) (dp_ints l), ints_shaped l, ints_shaped l, ?_⟩
  rw [ints_refl]
  exact k
/-- the heap at _law_fills -/
structure Wf (C : Cs) (H0 H : Hp) (S : Sys) (ad dx : Cell → Addr) : Prop where
  at_ : At C H S ad dx
  old : Same H0 H
  fr : ∀ b, own S ad b → H0 b = none
section
variable {C : Cs} {H0 H H' : Hp} {S S' : Sys} {ad ad' dx dx' : Cell → Addr}
theorem Wf.same (W : Wf C H0 H S ad dx) (s : Same H H') : Wf C H0 H' S ad dx := ⟨W.at_.same s, W.old.trans s, W.fr⟩
theorem Wf.step (W : Wf C H0 H S ad dx) (A : At C H' S' ad' dx') (st : Step H S ad H' S' ad') : Wf C H0 H' S' ad' dx' :=
  ⟨A, fun b o e => st.keep b o (fun z => by rw [W.fr b z] at e; cases e) (W.old b o e), fun b z => (st.new b z).elim (W.fr b) fun n => W.old.free n⟩
theorem Wf.put (W : Wf C H0 H S ad dx) {T : Addr} {o : HO} (n0 : H0 T = none) (no : ¬ own S ad T) : Wf C H0 (upd H T o) S ad dx :=
  ⟨⟨fun c hc => by rw [upd_ne (fun z => no ⟨c, hc, z⟩)]; exact W.at_.at_ c hc, W.at_.inj⟩, fun b o' e => by rw [upd_ne (ne_of_none e n0)]; exact W.old b o' e, W.fr⟩
theorem Wf.box (W : Wf C H0 H S ad dx) {x : Addr} (h : ad .box = x) : H x = some (sysO C.S (dx .box) S (ad .tabD) (ad .srcD) (ad .setD)) := by
  rw [← h]
  exact W.at_.at_ .box trivial
end
/-- so many processes, all empty -/
structure Fk (S : Sys) (P N : Int) (np : Nat) : Prop where
  eP : S.P = P
  eN : S.N = N
  procs : S.procs = (List.range np).map fun i : Nat => (i : Int)
  tab : ∀ p ∈ S.procs, S.tab p = List.replicate N.toNat none
  srcs : S.srcs = []
  sets : S.sets = []
  next : S.next = 0
theorem none_rep (n : Nat) : NoneAll (List.replicate n none) := fun i x h => by
  rw [List.getElem?_replicate] at h
  split at h
  · cases h
    rfl
  · cases h
section
variable {S : Sys} {P N : Int} {np : Nat}
theorem Fk.start : Fk (newSys P N) P N 1 := ⟨rfl, rfl, rfl, fun p _ => rfl, rfl, rfl, rfl⟩
theorem Fk.mem (F : Fk S P N np) {i : Nat} (h : i < np) : (i : Int) ∈ S.procs := by
  rw [F.procs, List.mem_map]
  exact ⟨i, List.mem_range.mpr h, rfl⟩
theorem Fk.nmem (F : Fk S P N np) {i : Nat} (h : np ≤ i) : (i : Int) ∉ S.procs := fun z => by
  rw [F.procs, List.mem_map] at z
  obtain ⟨j, hj, e⟩ := z
  have := List.mem_range.mp hj
  omega
theorem Fk.uniq (F : Fk S P N np) {m : Nat} (M : FreeP S m) : m = np := by
  rcases Nat.lt_trichotomy m np with h | h | h
  · exact absurd (F.mem h) M.no
  · exact h
  · exact absurd (M.lo np h) (F.nmem (Nat.le_refl _))
theorem Fk.fork (F : Fk S P N np) (h : 0 < np) : Fk (forked S 0 np) P N (np + 1) := by
  refine ⟨F.eP, F.eN, ?_, fun p hp => ?_, F.srcs, F.sets, F.next⟩
  · show S.procs ++ [(np : Int)] = _
    rw [F.procs, List.range_succ, List.map_append]
    rfl
  · show (if p = (np : Int) then S.tab 0 else S.tab p) = _
    by_cases z : p = (np : Int)
    · rw [if_pos z]
      exact F.tab 0 (F.mem (i := 0) h)
    · rw [if_neg z]
      exact F.tab p ((List.mem_append.mp (show p ∈ S.procs ++ [(np : Int)] from hp)).resolve_right fun y => z (List.mem_singleton.mp y))
theorem Fk.len (F : Fk S P N np) : S.procs.length = np := by rw [F.procs, List.length_map, List.length_range]
end
/-- so many sources in the last process -/
structure Fs (S : Sys) (P N : Int) (k : Nat) : Prop where
  eP : S.P = P
  eN : S.N = N
  procs : S.procs = (List.range P.toNat).map fun i : Nat => (i : Int)
  oth : ∀ p ∈ S.procs, p ≠ P - 1 → S.tab p = List.replicate N.toNat none
  len : (S.tab (P - 1)).length = N.toNat
  lo : ∀ i : Nat, i < k → (S.tab (P - 1))[i]? = some (some (i : Int))
  hi : ∀ i : Nat, k ≤ i → i < N.toNat → (S.tab (P - 1))[i]? = some none
  srcs : S.srcs = (List.range k).map fun i : Nat => (i : Int)
  sets : S.sets = []
  next : S.next = (k : Int)
section
variable {S : Sys} {P N : Int} {k : Nat}
theorem Fs.of (F : Fk S P N P.toNat) (hP : 1 ≤ P) : Fs S P N 0 := by
  have hm : P - 1 ∈ S.procs := by
    have := F.mem (i := P.toNat - 1) (by omega)
    rwa [show ((P.toNat - 1 : Nat) : Int) = P - 1 by omega] at this
  have ht := F.tab _ hm
  refine ⟨F.eP, F.eN, F.procs, fun p hp _ => F.tab p hp, by rw [ht, List.length_replicate], fun i h => absurd h (Nat.not_lt_zero _), fun i _ h => by rw [ht, List.getElem?_replicate, if_pos h], F.srcs, F.sets, F.next⟩
theorem Fs.mem (F : Fs S P N k) {p : Int} (h0 : 0 ≤ p) (h : p < P) : p ∈ S.procs := by
  rw [F.procs, List.mem_map]
  exact ⟨p.toNat, List.mem_range.mpr (by omega), by omega⟩
theorem Fs.uniq (F : Fs S P N k) (hk : k < N.toNat) {n : Nat} (h : firstFree (S.tab (P - 1)) n) : n = k := by
  rcases Nat.lt_trichotomy n k with z | z | z
  · have := h.1
    rw [F.lo n z] at this
    cases this
  · exact z
  · obtain ⟨x, e⟩ := h.2 k z
    rw [F.hi k (Nat.le_refl _) hk] at e
    cases e
theorem Fs.step (F : Fs S P N k) (hk : k < N.toNat) : Fs (newSource S (P - 1) k) P N (k + 1) := by
  have et : (newSource S (P - 1) k).tab (P - 1) = (S.tab (P - 1)).set k (some (k : Int)) := by
    show (if P - 1 = P - 1 then (S.tab (P - 1)).set k (some S.next) else _) = _
    rw [if_pos rfl, F.next]
  refine ⟨F.eP, F.eN, F.procs, fun p hp np => ?_, by rw [et, List.length_set]; exact F.len, fun i hi => ?_, fun i h1 h2 => ?_, ?_, F.sets, ?_⟩
  · show (if p = P - 1 then _ else S.tab p) = _
    rw [if_neg np]
    exact F.oth p hp np
  · rw [et, List.getElem?_set]
    by_cases z : k = i
    · rw [if_pos z, if_pos (by rw [F.len]; exact hk), z]
    · rw [if_neg z]
      exact F.lo i (by omega)
  · rw [et, List.getElem?_set, if_neg (by omega)]
    exact F.hi i (by omega) h2
  · show S.srcs ++ [S.next] = _
    rw [F.srcs, F.next, List.range_succ, List.map_append]
    rfl
  · show S.next + 1 = _
    rw [F.next]
    omega
theorem Fs.full (F : Fs S P N N.toNat) : Ful (S.tab (P - 1)) := fun i hi => ⟨_, F.lo i (by rw [F.len] at hi; exact hi)⟩
theorem Fs.noFree (F : Fs S P N k) : NoFree S := ⟨fun i hi => F.mem (Int.natCast_nonneg _) (by rw [← F.eP]; exact hi)⟩
end
theorem rgV_ints (a b : Int) : rgV a b = ((List.range (b - a).toNat).map fun i : Nat => a + (i : Int)).map V.int := by
  unfold rgV
  rw [List.map_map]
  rfl

/-- an error caught, and asked whether it is an OverflowError -/
structure OvTxt (K : PySem.W.Frag) (mg : Str → Option Value) (D : Addr) : Prop where
  ex : ExcC K D
  cl : (PySem.W.clsIn K D).isSome = true
  kv : PySem.W.kitOne K (.ref D) (.type "OverflowError") = some true
  gv : mg "OverflowError" = none
  isin : mg "isinstance" = none
structure FillTx (mg : Str → Option Value) : Prop where
  range : mg "range" = none
  list : mg "list" = none
  len : mg "len" = none
abbrev tNo (K : PySem.W.Frag) (D : Addr) : Addr → Value → Option Addr → TS := fun a cls d => tDrop (tBM K "list" rAppend (tVar 4) (tCons (tCB (rIsZ K D a cls d) (tCons (tVar 5) (tCons (tC (.ty "OverflowError")) tNil))) tNil))
abbrev tFu (K : PySem.W.Frag) (D : Addr) : Addr → Value → Option Addr → TS := fun a cls d => tDrop (tBM K "list" rAppend (tVar 4) (tCons (tLst (tCons (tXf a cls d D "process" (tVar 5)) (tCons (tCB (rIsX K D a cls d) (tCons (tVar 5) (tCons (tC (.ty "OverflowError")) tNil))) tNil))) tNil))
abbrev nFills : List Str := ["_law_many", "_law_size", "_law_box", "_law_turn", "_law_told", "e"]
theorem scFills : FnScope nFills ["_law_many", "_law_size"] (defScope sFills) := ⟨rfl, rfl, rfl, by decide +kernel, rfl, by decide +kernel, by decide +kernel⟩
theorem told_lay (n : Int) : PyData.canLay0 (.list [.bool true, .list [.int n, .bool true]]) = true ∧ SeqAt.shaped (.list [.bool true, .list [.int n, .bool true]]) = true := by
  have h : PyData.canLay0 (.list [.bool true, .list [.int n, .bool true]]) = true := by simp [PyData.canLay0, PyData.canLayAll0]
  refine ⟨h, ?_⟩
  unfold SeqAt.shaped
  rw [Bool.and_eq_true]
  exact ⟨h, decide_eq_true (by simp [PyData.depth, PyData.depthAll])⟩
section
variable {P : Program} {w : World} {K : PySem.W.Frag} {mg : Str → Option Value} {base : Heap} {C : Cs}
def spFills : Sp := fun vs H Q _ => ∃ (many size : Int), vs = [.int many, .int size] ∧ 2 ≤ many ∧ many ≤ 6 ∧ 3 ≤ size ∧ size ≤ 8 ∧ ∀ H', Same H H' → Q (.bl true) H'
theorem okFills {D2 D3 f fI fF fNs fNt fLe fAl fNu fRg fR fU pL fL : Addr} {fd fdI fdF fdNs fdNt fdLe fdAl fdNu fdRg fdR fdU fdL : FuncData} {g : List Value → List Value → List Value} (F : Fun K "_law_fills" "_law_fills" sFills f fd) (X : FillTx mg) (T : ClsF K C.S sysF)
    (gS : mg "System" = some (.ref C.S)) (MS : Mk K C.S fI) (GI : FnOk P w K mg base CX0 3 fI fdI ["self", "processes", "numbers"] (spSysInit C)) (kJ : KBn K fdI ["self", "processes", "numbers"] 1 ["numbers", "processes"] g (fun vs zs => vs ++ zs.reverse))
    (hL : PropOf K C.S "limits" pL fL) (GL : FnOk P w K mg base CX0 1 fL fdL ["self"] (spLimits C)) (bL : Binds K fdL ["self"] [])
    (GAl : MO P w K mg base 1 C.S "alive" ["self"] (spAlive C) fAl fdAl) (GNu : MO P w K mg base 4 C.S "numbers" ["self", "process"] (spNumbersE C) fNu fdNu) (GRg : MO P w K mg base 3 C.S "registrations" ["self"] (spRegsE C) fRg fdRg)
    (GF : ME P w K mg base 4 C.S "fork" ["self", "process"] (spFork C D2) fF fdF) (GNs : ME P w K mg base 6 C.S "new_source" ["self", "process"] (spNewSource C D3) fNs fdNs) (GNt : ME P w K mg base 6 C.S "new_set" ["self", "process"] (spNewSet C D3) fNt fdNt)
    (GLe : MO P w K mg base 1 C.S "__len__" ["self"] (spLen C) fLe fdLe) (N2 : NoRoomE K mg D2 fR fdR) (O2 : OvTxt K mg D2) (N3 : FullE K mg D3 fU fdU) (O3 : OvTxt K mg D3) :
    FnOk P w K mg base CX0 7 f fd ["_law_many", "_law_size"] spFills := by
  refine F.ok scFills (fun vs H Q E h => ?_) (fun cdv A outer s H vs Q E hr h => ?_)
  · obtain ⟨_, _, rfl, _⟩ := h
    rfl
  · obtain ⟨many, size, rfl, m0, m1, s0, s1, k⟩ := h
    have hu := hr.units
    have r1 : Room 1 _ := hr.mono (by decide)
    have r2 : Room 2 _ := hr.mono (by decide)
    have r3 : Room 3 _ := hr.mono (by decide)
    have r4 : Room 4 _ := hr.mono (by decide)
    refine ⟨_, pss_cut (ps_set (i := 2) scFills.nd rfl (Or.inr rfl) (pe_makeK0 (ks := ["numbers", "processes"]) MS GI r4 (by rfl) gS kJ pass0 (pk_cons (pv 1) (pk_cons (pv 0) pk_nil))))
      (pss_cut (ps_if (PW.pt (pw_or (pt_cmpR (op_neD hu) (pe_prop (pv 2) T.cl hL GL r2 bL .nil pass0 (by rfl)) (pe_tup (pa_cons (pv 0) (pa_cons (pv 1) pa_nil))) (nomark _))
        (pw_or (pt_cmpR (op_neD hu) (pe_meth0 (pv 2) T.cl GAl.m GAl.g r1 GAl.b .nil pass0) (pe_lst (pa_cons pe_int pa_nil)) (nomark _))
        (pw_or (pt_cmpR (op_neD hu) (pe_meth (pv 2) T.cl GNu.m GNu.g r4 GNu.b .nil pass0 (pa_cons pe_int pa_nil)) (pe_lst pa_nil) (nomark _))
        (pw_or1 (pt_cmpR (op_neD hu) (pe_meth0 (pv 2) T.cl GRg.m GRg.g r3 GRg.b .nil pass0) (pe_lst pa_nil) (nomark _))))))) (pss_one (ps_ret pe_bl)) pss_nil)
      (pss_cut (ps_if (pt_cmpR (op_neD hu) (pe_lc (own := [("_law_turn", 3)]) (g := gName 3) (tt := tYes) (te := tMeth C.S "fork" (spFork C D2) [] (fun _ _ _ => False) (tVar 2) (tCons (tC (.int 0)) tNil)) rfl scFills.nd (pi_range1 (by rfl) X.range (pa_cons (pe_op op_sub (pv 0) pe_int) pa_nil)) (blkOk_by (N := nFills) (sc := defScope sFills) (by decide +kernel))
          (fun _ _ _ _ _ => pg_name (i := 3) scFills.nd rfl (Or.inl rfl)) (fun _ _ _ _ _ => pts_nil) (fun _ _ _ _ _ => pe_meth (pv 2) T.cl GF.m GF.g r4 GF.b .nil passN (pa_cons pe_int pa_nil)))
          (pe_listRg rfl (by rfl) X.list (prg_2 (by rfl) X.range pe_int (pv 0))) (nomark _)) (pss_one (ps_ret pe_bl)) pss_nil)
      (pss_cut (ps_if (PW.pt (pw_or (pt_cmpR (op_neD hu) (pe_lc (own := [("_law_turn", 3)]) (g := gName 3) (tt := tYes) (te := tMeth C.S "new_source" (spNewSource C D3) [] (fun _ _ _ => False) (tVar 2) (tCons (tOp (rI0 fun i j => .int (i - j)) (tVar 0) (tC (.int 1))) tNil)) rfl scFills.nd (pi_range1 (by rfl) X.range (pa_cons (pv 1) pa_nil)) (blkOk_by (N := nFills) (sc := defScope sFills) (by decide +kernel))
          (fun _ _ _ _ _ => pg_name (i := 3) scFills.nd rfl (Or.inl rfl)) (fun _ _ _ _ _ => pts_nil) (fun _ _ _ _ _ => pe_meth (pv 2) T.cl GNs.m GNs.g hr GNs.b .nil passN (pa_cons (pe_op op_sub (pv 0) pe_int) pa_nil)))
          (pe_listRg rfl (by rfl) X.list (prg_1 (by rfl) X.range (pv 1))) (nomark _))
        (pw_or1 (pt_cmpR op_ne (pe_callB (call_lenOwn GLe.g r2 GLe.m.at_ GLe.m.fn GLe.b pass0) (by rfl) X.len PySem.boot_len (pa_cons (pv 2) pa_nil)) (pv 0) (nomark _))))) (pss_one (ps_ret pe_bl)) pss_nil)
      (pss_cut (ps_set (i := 4) scFills.nd rfl (Or.inl rfl) (pe_lst pa_nil))
      (pss_cut (ps_try_as (i := 5) (ts := tNo K D2) rfl rfl scFills.nd rfl rfl ⟨rfl, by decide, Or.inl N2.gC⟩ takes0
        (fun W pn xe tk _ => pss_one (ps_expr (pe_methS (E := WE W) (pv 2) T.cl GF.m GF.g r4 GF.b (fun σ => passAt tk σ) (pa_cons pe_int pa_nil))))
        (fun a oe cls d pn hz hf => pss_one (ps_expr (pe_bm PySem.F.plainAttrs_list PySem.F.slot_list_append PySem.F.type_list_append mt_append (pv 4) (pa_cons (pe_callB (call_isZ O2.ex O2.cl hz hf) (by rfl) O2.isin PyProof.Rows.boot_isinstance (pa_cons (pv 5) (pa_cons (pe_bltn (v := .ty "OverflowError") (by rfl) O2.gv (by rfl) rfl) pa_nil))) pa_nil)))))
      (pss_cut (ps_try_as (i := 5) (ts := tFu K D3) rfl rfl scFills.nd rfl rfl ⟨rfl, by decide, Or.inl N3.gC⟩ takes0
        (fun W pn xe tk _ => pss_one (ps_expr (pe_methS (E := WE W) (pv 2) T.cl GNt.m GNt.g hr GNt.b (fun σ => passAt tk σ) (pa_cons (pe_op op_sub (pv 0) pe_int) pa_nil))))
        (fun a oe cls d pn hz hf => pss_one (ps_expr (pe_bm PySem.F.plainAttrs_list PySem.F.slot_list_append PySem.F.type_list_append mt_append (pv 4) (pa_cons (pe_lst (pa_cons (pe_xf N3.xf N3.noN hz hf (pv 5)) (pa_cons (pe_callB (call_isX O3.ex O3.cl hz hf) (by rfl) O3.isin PyProof.Rows.boot_isinstance (pa_cons (pv 5) (pa_cons (pe_bltn (v := .ty "OverflowError") (by rfl) O3.gv (by rfl) rfl) pa_nil))) pa_nil))) pa_nil)))))
      (pss_one (ps_ret (pe_and (pe_cmpR (op_eqD hu) (pv 4) (pe_lst (pa_cons pe_bl (pa_cons (pe_lst (pa_cons (pe_op op_sub (pv 0) pe_int) (pa_cons pe_bl pa_nil))) pa_nil))) (nomark _)) (pe_one (pe_cmpR (op_eqD hu) (pe_meth (pv 2) T.cl GNu.m GNu.g r4 GNu.b .nil pass0 (pa_cons pe_int pa_nil)) (pe_lst pa_nil) (nomark _)))))))))))), ?_⟩
    refine ⟨fun σ' H' => ∃ (x : Addr) (ad dx : Cell → Addr), σ' = [some (.int many), some (.int size), some (.ref x), none, none, none] ∧ ad .box = x ∧ Wf C H H' (newSys many size) ad dx, ?_, ?_⟩
    · walk_at "wn"
      refine ⟨_, rfl, _, rfl, rfl, rfl, fun x dx0 hx hd nd => ?_⟩
      refine ⟨x, dx0, many, size, rfl, upd_same, m0, m1, s0, s1, fun H3 ad dx hbx A3 k3 n3 => ⟨rfl, ?_⟩⟩
      walk_at "wn"
      refine ⟨x, ad, dx, rfl, hbx, A3, fun b o e => k3 b o (ne_of_none e hx) (by rw [upd_ne (ne_of_none e hx), upd_ne (ne_of_none e hd)]; exact e), fun b hb => ?_⟩
      rcases n3 b hb with z | z
      · rw [z]
        exact hx
      · by_cases e : b = x
        · rw [e]
          exact hx
        · rw [upd_ne e] at z
          by_cases e2 : b = dx0
          · rw [e2]
            exact hd
          · rw [upd_ne e2] at z
            exact z
    rintro σ' H1 ⟨x, ad, dx, rfl, hbx, W1⟩
    refine ⟨fun σ' H' => σ' = [some (.int many), some (.int size), some (.ref x), none, none, none] ∧ Wf C H H' (newSys many size) ad dx, ?_, ?_⟩
    · have F1 : Fk (newSys many size) many size 1 := Fk.start
      have tb : ∀ p ∈ (newSys many size).procs, (newSys many size).tab p = List.replicate size.toNat none := F1.tab
      walk_at "wn"
      refine ⟨_, rfl, x, dx .box, _, rfl, W1.box hbx, ?_⟩
      refine ⟨newSys many size, ad, dx, by rw [hbx], W1.at_, fun H2 r s2 hr2 => ?_⟩
      walk_at "wn"
      refine ⟨by show 2 ≤ sizeLine; decide, fun t ht => ?_⟩
      have s3 := Same.new' (o := .tup [.int many, .int size]) ht
      refine ⟨_, _, .tup (SqT.of (s3 _ _ hr2)) (.cons (.int _) (.cons (.int _) .nil)), .tup (SqT.of upd_same) (.cons (.int _) (.cons (.int _) .nil)), two_shaped _ _, two_shaped _ _, ?_⟩
      rw [two_eqv, show (newSys many size).P = many from rfl, show (newSys many size).N = size from rfl, decide_eq_true rfl, decide_eq_true rfl]
      have W2 := W1.same (s2.trans s3)
      generalize upd H2 t (.tup [.int many, .int size]) = H3 at W2 ⊢
      walk_at "wn"
      refine ⟨_, rfl, x, dx .box, _, rfl, W2.box hbx, rfl, ?_⟩
      walk_at "wn"
      refine ⟨newSys many size, ad, dx, by rw [hbx]; rfl, W2.at_, by show 1 ≤ 6; decide, fun ys r pm pw hr3 => ?_⟩
      obtain rfl : ys = [0] := List.perm_singleton.mp pm
      have s4 := Same.new' (o := .lst (([0] : List Int).map V.int)) hr3
      have W3 := W2.same s4
      have hr4 : upd H3 r (.lst (([0] : List Int).map V.int)) r = some (.lst (([0] : List Int).map V.int)) := upd_same
      generalize upd H3 r (.lst (([0] : List Int).map V.int)) = H4 at W3 hr4 ⊢
      walk_at "wn"
      refine ⟨by show 1 ≤ sizeLine; decide, fun z hz => ?_⟩
      have s5 := Same.new' (o := .lst [.int 0]) hz
      refine q_neInts (l := [0]) (s5 _ _ hr4) upd_same ?_
      have W4 := W3.same s5
      generalize upd H4 z (.lst [.int 0]) = H5 at W4 ⊢
      walk_at "wn"
      refine ⟨_, rfl, x, dx .box, _, rfl, W4.box hbx, rfl, ?_⟩
      walk_at "wn"
      refine ⟨0, newSys many size, ad, dx, by rw [hbx]; rfl, W4.at_, List.mem_singleton.mpr rfl, by rw [tb 0 (List.mem_singleton.mpr rfl)]; exact none_rep _, fun H6 r6 nr6 s6 h6 => ?_⟩
      walk_at "wn"
      refine ⟨Nat.zero_le _, fun z6 hz6 => ?_⟩
      have s7 := Same.new' (o := .lst []) hz6
      refine q_neInts (l := []) (s7 _ _ h6) upd_same ?_
      have W5 := W4.same (s6.trans s7)
      generalize upd H6 z6 (.lst []) = H7 at W5 ⊢
      walk_at "wn"
      refine ⟨_, rfl, x, dx .box, _, rfl, W5.box hbx, rfl, ?_⟩
      walk_at "wn"
      refine ⟨newSys many size, ad, dx, by rw [hbx]; rfl, W5.at_, by show 1 ≤ 6; decide, fun p hp => ⟨?_, ?_⟩, fun H8 r8 nr8 s8 h8 => ?_⟩
      · rw [tb p hp, List.length_replicate]
        omega
      · rw [tb p hp]
        exact none_rep _
      walk_at "wn"
      refine ⟨Nat.zero_le _, fun z8 hz8 => ?_⟩
      have s9 := Same.new' (o := .lst []) hz8
      refine q_neInts (l := []) (s9 _ _ h8) upd_same ?_
      walk_at "wn"
      exact ⟨rfl, W5.same (s8.trans s9)⟩
    rintro σ' H2 ⟨rfl, W2⟩
    refine ⟨fun σ' H' => ∃ (S : Sys) (ad dx : Cell → Addr), σ' = [some (.int many), some (.int size), some (.ref x), none, none, none] ∧ ad .box = x ∧ Wf C H H' S ad dx ∧ Fk S many size many.toNat, ?_, ?_⟩
    · walk_at "wn"
      show iRng1 _ _ _ _
      show tCons _ _ _ _ _
      walk_at "wn"
      refine ⟨_, rfl, by omega, by omega, fun D hD => ?_⟩
      refine lc_range (lo := 0) (n := (many - 1).toNat) (fun j H' => ∃ (S : Sys) (ad dx : Cell → Addr), ad .box = x ∧ Wf C H H' S ad dx ∧ Fk S many size (j + 1) ∧ ¬ own S ad D ∧ H' D = some (.lst (((List.range j).map fun i : Nat => (1 : Int) + (i : Int)).map V.int))) ⟨newSys many size, ad, dx, hbx, W2.same (Same.new' hD), Fk.start, W2.at_.not_own hD, upd_same⟩ ?_ ?_
      · rintro j H3 hj ⟨S, ad3, dx3, hbx3, W3, F3, no3, hd3⟩
        have nD : H D = none := W2.old.free hD
        refine ⟨rfl, ?_⟩
        walk_at "wn"
        refine ⟨_, rfl, x, dx3 .box, _, rfl, W3.box hbx3, rfl, ?_⟩
        walk_at "wn"
        refine ⟨0, S, ad3, dx3, by rw [hbx3]; rfl, W3.at_, F3.mem (i := 0) (Nat.succ_pos _), by rw [F3.eP]; omega, by rw [F3.eP]; omega, by rw [F3.tab 0 (F3.mem (i := 0) (Nat.succ_pos _)), List.length_replicate]; omega, by rw [F3.len]; omega, fun m M H4 ad4 A4 st4 => ?_, fun NF => ?_⟩
        · obtain rfl := F3.uniq M
          have W4 := W3.step A4 st4
          have no4 : ¬ own (forked S 0 (j + 1)) ad4 D := fun z => (st4.new D z).elim no3 fun n => by rw [hd3] at n; cases n
          have hd4 := st4.keep _ _ no3 hd3
          refine ⟨_, hd4, by rw [List.length_map, List.length_map, List.length_range, sizeLine_eq]; omega, _, ad4, dx3, st4.box.trans hbx3, W4.put nD no4, F3.fork (Nat.succ_pos _), no4, ?_⟩
          rw [upd_same, List.range_succ, List.map_append, List.map_append]
          show some (HO.lst (_ ++ [V.int ((j + 1 : Nat) : Int)])) = some (HO.lst (_ ++ [V.int (1 + (j : Int))]))
          rw [show ((j + 1 : Nat) : Int) = 1 + (j : Int) by omega]
        · exact absurd (NF.all (j + 1) (by rw [F3.eP]; omega)) (F3.nmem (Nat.le_refl _))
      · rintro H3 ⟨S, ad3, dx3, hbx3, W3, F3, no3, hd3⟩
        walk_at "wn"
        refine ⟨_, rfl, 1, many, rfl, rfl, ⟨by omega, by omega, by omega, by omega, by omega⟩, fun q hq => ?_⟩
        have s4 := Same.new' (o := .lst (rgV 1 many)) hq
        rw [rgV_ints] at s4 ⊢
        refine q_neInts (s4 _ _ hd3) upd_same ?_
        walk_at "wn"
        rw [show (many - 1).toNat + 1 = many.toNat by omega] at F3
        exact ⟨S, ad3, dx3, rfl, hbx3, W3.same s4, F3⟩
    rintro σ' H3 ⟨S, ad3, dx3, rfl, hbx3, W3, F3⟩
    have G3 := Fs.of F3 (by omega)
    clear W1 W2 F3
    refine ⟨fun σ' H' => ∃ (S : Sys) (ad dx : Cell → Addr), σ' = [some (.int many), some (.int size), some (.ref x), none, none, none] ∧ ad .box = x ∧ Wf C H H' S ad dx ∧ Fs S many size size.toNat, ?_, ?_⟩
    · walk_at "wn"
      show iRng1 _ _ _ _
      show tCons _ _ _ _ _
      walk_at "wn"
      refine ⟨_, rfl, by omega, by omega, fun D hD => ?_⟩
      refine lc_range (lo := 0) (n := size.toNat) (fun j H' => ∃ (S : Sys) (ad dx : Cell → Addr), ad .box = x ∧ Wf C H H' S ad dx ∧ Fs S many size j ∧ ¬ own S ad D ∧ H' D = some (.lst (((List.range j).map fun i : Nat => (0 : Int) + (i : Int)).map V.int))) ⟨S, ad3, dx3, hbx3, W3.same (Same.new' hD), G3, W3.at_.not_own hD, upd_same⟩ ?_ ?_
      · rintro j H4 hj ⟨S, ad4, dx4, hbx4, W4, G4, no4, hd4⟩
        have nD : H D = none := W3.old.free hD
        refine ⟨rfl, ?_⟩
        walk_at "wn"
        refine ⟨_, rfl, x, dx4 .box, _, rfl, W4.box hbx4, rfl, ?_⟩
        walk_at "wn"
        refine ⟨many - 1, S, ad4, dx4, by rw [hbx4]; rfl, W4.at_, G4.mem (by omega) (by omega), by omega, by omega, by rw [G4.len]; omega, by rw [G4.srcs, List.length_map, List.length_range]; omega, ?_, fun n hf H5 ad5 A5 st5 => ?_, fun Fl => ?_⟩
        · rw [G4.srcs, G4.next]
          intro z
          obtain ⟨i, hi, e⟩ := List.mem_map.mp z
          have := List.mem_range.mp hi
          omega
        · obtain rfl := G4.uniq hj hf
          have W5 := W4.step A5 st5
          have no5 : ¬ own (newSource S (many - 1) n) ad5 D := fun z => (st5.new D z).elim no4 fun n => by rw [hd4] at n; cases n
          have hd5 := st5.keep _ _ no4 hd4
          refine ⟨_, hd5, by rw [List.length_map, List.length_map, List.length_range, sizeLine_eq]; omega, _, ad5, dx4, st5.box.trans hbx4, W5.put nD no5, G4.step hj, no5, ?_⟩
          rw [upd_same, List.range_succ, List.map_append, List.map_append]
          show some (HO.lst (_ ++ [V.int (n : Int)])) = some (HO.lst (_ ++ [V.int (0 + (n : Int))]))
          rw [Int.zero_add]
        · obtain ⟨y, e⟩ := Fl j (by rw [G4.len]; exact hj)
          rw [G4.hi j (Nat.le_refl _) hj] at e
          cases e
      · rintro H4 ⟨S, ad4, dx4, hbx4, W4, G4, no4, hd4⟩
        walk_at "wn"
        refine ⟨_, rfl, size, rfl, ⟨by omega, by omega, by omega, by omega, by omega⟩, fun q hq => ?_⟩
        have s5 := Same.new' (o := .lst (rgV 0 size)) hq
        rw [rgV_ints, Int.sub_zero] at s5 ⊢
        refine q_neInts (s5 _ _ hd4) upd_same ?_
        have W5 := W4.same s5
        generalize upd H4 q _ = H5 at W5 ⊢
        walk_at "wn"
        refine ⟨x, dx4 .box, _, rfl, W5.box hbx4, ?_⟩
        have ln : S.procs.length = many.toNat := by rw [G4.procs, List.length_map, List.length_range]
        refine ⟨S, ad4, dx4, by rw [hbx4], W5.at_, S.procs.length, rfl, by omega, ?_⟩
        walk_at "wn"
        have e : (!decide (V.int (S.procs.length : Int) = V.int many)) = false := by
          rw [ln, show ((many.toNat : Nat) : Int) = many by omega, decide_eq_true rfl]
          rfl
        rw [e]
        walk_at "wn"
        exact ⟨S, ad4, dx4, rfl, hbx4, W5, G4⟩
    rintro σ' H4 ⟨S, ad4, dx4, rfl, hbx4, W4, G4⟩
    refine ⟨fun σ' H' => ∃ T : Addr, σ' = [some (.int many), some (.int size), some (.ref x), none, some (.ref T), none] ∧ Wf C H H' S ad4 dx4 ∧ H' T = some (.lst []) ∧ H T = none ∧ ¬ own S ad4 T, ?_, ?_⟩
    · walk_at "wn"
      refine ⟨Nat.zero_le _, fun T hT => ?_⟩
      walk_at "wn"
      exact ⟨T, rfl, W4.same (Same.new' hT), upd_same, W4.old.free hT, W4.at_.not_own hT⟩
    rintro σ' H5 ⟨T, rfl, W5, hT5, nT, noT⟩
    refine ⟨fun σ' H' => σ' = [some (.int many), some (.int size), some (.ref x), none, some (.ref T), none] ∧ Wf C H H' S ad4 dx4 ∧ H' T = some (.lst [.bl true]), ?_, ?_⟩
    · walk_at "wn"
      refine ⟨_, rfl, x, dx4 .box, _, rfl, W5.box hbx4, rfl, ?_⟩
      walk_at "wn"
      refine ⟨1, S, ad4, dx4, by rw [hbx4], W5.at_, G4.mem (by decide) (by omega), by rw [G4.eP]; omega, by rw [G4.eP]; omega, ?_, ?_, fun m M => absurd (G4.mem (p := (m : Int)) (Int.natCast_nonneg _) (by have := M.hi; rw [G4.eP] at this; exact this)) M.no, fun NF H6 s6 => ⟨true, N2.te, fun _ a ha => ?_, fun z => Bool.noConfusion z⟩⟩
      · by_cases z : (1 : Int) = many - 1
        · rw [z, G4.len]
          omega
        · rw [G4.oth 1 (G4.mem (by decide) (by omega)) z, List.length_replicate]
          omega
      · rw [G4.procs, List.length_map, List.length_range]
        omega
      · have h6 := s6 _ _ hT5
        refine ⟨_, rfl, .inl ⟨rfl, _, SqL.of h6⟩, _, rfl, rfl, rfl, .ty "OverflowError", .type "OverflowError", true, rfl, fun u h => h, O2.kv, T, [], _, rfl, rfl, h6, by decide, ?_⟩
        exact ⟨rfl, (W5.same s6).put nT noT, upd_same⟩
    rintro σ' H6 ⟨rfl, W6, hT6⟩
    clear W4 W5 hT5
    refine ⟨fun σ' H' => ∃ e, σ' = [some (.int many), some (.int size), some (.ref x), none, some (.ref T), none] ∧ Wf C H H' S ad4 dx4 ∧ H' T = some (.lst [.bl true, .ref e]) ∧ H' e = some (.lst [.int (many - 1), .bl true]), ?_, ?_⟩
    · walk_at "wn"
      refine ⟨_, rfl, x, dx4 .box, _, rfl, W6.box hbx4, rfl, ?_⟩
      walk_at "wn"
      refine ⟨many - 1, S, ad4, dx4, by rw [hbx4], W6.at_, G4.mem (by omega) (by omega), by omega, by omega, by rw [G4.len]; omega, by rw [G4.sets]; decide, by rw [G4.sets]; exact List.not_mem_nil, fun n hf => ?_, fun Fl dd H7 hdd s7 h7 => ⟨true, N3.te, fun _ a ha => ?_, fun z => Bool.noConfusion z⟩⟩
      · have := G4.full n (List.getElem?_eq_some_iff.mp hf.1).1
        obtain ⟨y, e⟩ := this
        rw [hf.1] at e
        cases e
      · have hT7 := s7 _ _ hT6
        refine ⟨_, rfl, .inl ⟨rfl, _, SqL.of hT7⟩, ?_⟩
        refine ⟨_, rfl, rfl, rfl, dd, _, _, rfl, h7, rfl, _, rfl, rfl, .ty "OverflowError", .type "OverflowError", true, dd, _, rfl, fun u h => h, O3.kv, rfl, h7, by show 2 ≤ sizeLine; decide, fun l hl => ?_⟩
        have s8 := Same.new' (o := .lst [.int (many - 1), .bl true]) hl
        have hT8 := s8 _ _ hT7
        have nlT : l ≠ T := fun z => by rw [z, hT7] at hl; cases hl
        refine ⟨T, [.bl true], _, rfl, rfl, hT8, by show 1 < sizeLine; decide, ?_⟩
        exact ⟨l, rfl, ((W6.same s7).same s8).put nT noT, upd_same, (upd_ne nlT).trans upd_same⟩
    rintro σ' H7 ⟨e, rfl, W7, hT7, he7⟩
    walk_at "wn"
    refine ⟨by show 2 ≤ sizeLine; decide, fun p1 hp1 => ?_⟩
    have sA := Same.new' (o := .lst [.int (many - 1), .bl true]) hp1
    have hA : upd H7 p1 (.lst [.int (many - 1), .bl true]) p1 = some (.lst [.int (many - 1), .bl true]) := upd_same
    have W8 := W7.same sA
    generalize upd H7 p1 (.lst [.int (many - 1), .bl true]) = H8 at sA hA W8 ⊢
    walk_at "wn"
    refine ⟨by show 2 ≤ sizeLine; decide, fun p2 hp2 => ?_⟩
    have sB := Same.new' (o := .lst [.bl true, .ref p1]) hp2
    obtain ⟨lay, dep⟩ := told_lay (many - 1)
    refine ⟨.list [.bool true, .list [.int (many - 1), .bool true]], .list [.bool true, .list [.int (many - 1), .bool true]], .lst (SqL.of (sB _ _ (sA _ _ hT7))) (.cons (.bl true) (.cons (.lst (SqL.of (sB _ _ (sA _ _ he7))) (.cons (.int _) (.cons (.bl true) .nil))) .nil)), .lst (SqL.of upd_same) (.cons (.bl true) (.cons (.lst (SqL.of (sB _ _ hA)) (.cons (.int _) (.cons (.bl true) .nil))) .nil)), dep, dep, ?_⟩
    rw [SeqAt.eqv_refl_plain _ (PyData.plain_of_canLay0 _ lay)]
    have W9 := W8.same sB
    generalize upd H8 p2 _ = H9 at W9 ⊢
    walk_at "wn"
    refine ⟨_, rfl, x, dx4 .box, _, rfl, W9.box hbx4, rfl, ?_⟩
    walk_at "wn"
    refine ⟨0, S, ad4, dx4, by rw [hbx4]; rfl, W9.at_, G4.mem (by decide) (by omega), by rw [G4.oth 0 (G4.mem (by decide) (by omega)) (by omega)]; exact none_rep _, fun H10 r10 nr10 s10 h10 => ?_⟩
    walk_at "wn"
    refine ⟨Nat.zero_le _, fun z hz => ?_⟩
    have sC := Same.new' (o := .lst []) hz
    refine ⟨.list [], .list [], .lst (SqL.of (sC _ _ h10)) .nil, .lst (SqL.of upd_same) .nil, by decide +kernel, by decide +kernel, ?_⟩
    rw [show PyData.eqv (.list []) (.list []) = true from rfl]
    walk_at "wn"
    exact k _ ((W9.old.trans s10).trans sC)
end

theorem Flat.keepP {H H' : Hp} {v : V} {p : Addr} (f : Flat H v) (n : ∀ a, v = .ref a → a ≠ p) (k : ∀ b o, b ≠ p → H b = some o → H' b = some o) : Flat H' v := by
  cases f with
  | non => exact .non
  | bl b => exact .bl b
  | int i h => exact .int i h
  | str y h h2 => exact .str y h h2
  | tup a l h1 h2 h3 => exact .tup a l h1 h2 (k _ _ (n a rfl) h3)
  | lst a i l h1 h2 h3 => exact .lst a i l h1 h2 (k _ _ (n a rfl) h3)
theorem ints_okR : ∀ l : List Int, (∀ i ∈ l, i.natAbs.log2 < 1920) → okRA (l.map PyData.int) = true ∧ wtA (l.map PyData.int) ≤ 2002 * l.length ∧ PyData.depthAll (l.map PyData.int) = 0
  | [], _ => ⟨rfl, Nat.zero_le _, rfl⟩
  | i :: l, h => by
    obtain ⟨a, b, c⟩ := ints_okR l fun j hj => h j (List.mem_cons_of_mem _ hj)
    refine ⟨?_, ?_, ?_⟩
    · simp only [List.map_cons, okRA, okR, a, Bool.and_true]
      exact decide_eq_true (h i List.mem_cons_self)
    · simp only [List.map_cons, wtA, wt, List.length_cons]
      omega
    · simp only [List.map_cons, PyData.depthAll, c, PyData.depth]
      rfl
theorem Flat.data {K : PySem.W.Frag} {H : Hp} {v : V} (f : Flat H v) : ∃ d, (∀ H', (∀ b o, H b = some o → H' b = some o) → Dp K H' v d) ∧ okR d = true ∧ d.depth ≤ 1 ∧ wt d ≤ 100000 := by
  cases f with
  | non => exact ⟨.none, fun _ _ => .non, rfl, by decide, by decide⟩
  | bl b => exact ⟨.bool b, fun _ _ => .bl b, rfl, by simp [PyData.depth], by simp [wt]⟩
  | int i h => exact ⟨.int i, fun _ _ => .int i, by simp only [okR]; exact decide_eq_true h, by simp [PyData.depth], by simp [wt]⟩
  | str y h h2 => exact ⟨.str y, fun _ _ => .str y, by simp only [okR]; exact h2, by simp [PyData.depth], by simp only [wt]; omega⟩
  | tup a l h1 h2 h3 =>
    obtain ⟨x, y, z⟩ := ints_okR l h2
    exact ⟨.tuple (l.map PyData.int), fun H' s => .tup (SqT.of (s _ _ h3)) (dp_ints l), by simp only [okR]; exact x, by simp only [PyData.depth, z]; omega, by simp only [wt]; omega⟩
  | lst a i l h1 h2 h3 =>
    obtain ⟨x, y, z⟩ := ints_okR (i :: l) h2
    exact ⟨.list ((i :: l).map PyData.int), fun H' s => .lst (SqL.of (s _ _ h3)) (dp_ints (i :: l)), by simp only [okR]; exact x, by simp only [PyData.depth, z]; omega, by simp only [wt]; rw [List.length_cons] at y; omega⟩
theorem DueR.data {K : PySem.W.Frag} {H : Hp} {o : Option V} {v1 v2 : V} (h1 : DueR H o v1) (h2 : DueR H o v2) (f : ∀ v, o = some v → Flat H v) : ∃ d, Dp K H v1 d ∧ Dp K H v2 d ∧ okR d = true ∧ d.depth ≤ 40 ∧ wt d ≤ 16777216 := by
  cases h1 with
  | non =>
    cases h2 with
    | non => exact ⟨.none, .non, .non, rfl, by decide, by decide⟩
  | lst v l1 e1 =>
    cases h2 with
    | lst _ l2 e2 =>
      obtain ⟨d, hd, a, b, c⟩ := (f v rfl).data (K := K)
      have hd := hd H fun _ _ e => e
      refine ⟨.list [d, .bool true], .lst (SqL.of e1) (.cons hd (.cons (.bl true) .nil)), .lst (SqL.of e2) (.cons hd (.cons (.bl true) .nil)), ?_, ?_, ?_⟩
      · simp only [okR, okRA, a, Bool.and_self]
      · simp only [PyData.depth, PyData.depthAll]
        omega
      · simp only [wt, wtA]
        omega
structure LawTx (mg : Str → Option Value) : Prop where
  range : mg "range" = none
  max : mg "max" = none
  min : mg "min" = none
  len : mg "len" = none
  repr : mg "repr" = none
abbrev nLaw : List Str := ["_law_script", "_law_at", "_law_bag_here", "_law_turn", "_law_many", "_law_size", "_law_due"]
theorem scLaw : FnScope nLaw ["_law_script"] (defScope sLaw) := ⟨rfl, rfl, rfl, by decide +kernel, rfl, by decide +kernel, by decide +kernel⟩
section
variable {P : Program} {w : World} {K : PySem.W.Frag} {mg : Str → Option Value} {base : Heap} {C : Cs}
def spLaw (K : PySem.W.Frag) (Pt : Addr) : Sp := fun vs H Q _ => ∃ (a : Addr) (ns : List Int), vs = [.ref a] ∧ SqL K H a (ns.map V.int) ∧ ns.length ≤ 63 ∧ H Pt = some (.tbl #[]) ∧ ∀ H', Q (.bl true) H'
theorem okLaw {Pt f fB fT fO fS fR fF fI pL fL : Addr} {fd fdB fdT fdO fdS fdR fdF fdI fdL : FuncData} {mc u6 u8 : Value} {gp gn : List Value → List Value → List Value} {dsI : List Value} (F : Fun K "law" "law" sLaw f fd) (X : LawTx mg) (T : ClsF K C.S sysF)
    (GB : DO P w K mg base 1 "_law_bag" ["_law_script", "_law_at"] (spBag K) fB fdB) (GT : DO P w K mg base 1 "_law_take" ["_law_bag_here", "_law_many"] spTake fT fdT)
    (GO : DO P w K mg base 3 "_law_object" ["_law_bag_here"] spObject fO fdO) (GS : DO P w K mg base 1 "_law_is_from" ["_law_thing", "_law_low", "_law_high"] spIsFrom fS fdS)
    (GR : DO P w K mg base 5 "_law_refused" ["_law_many", "_law_size"] spRefused fR fdR) (GF : DO P w K mg base 7 "_law_fills" ["_law_many", "_law_size"] spFills fF fdF)
    (gS : mg "System" = some (.ref C.S)) (MS : Mk K C.S fI) (GI : FnOk P w K mg base CX0 3 fI fdI ["self", "processes", "numbers"] (spSysInit C)) (bI : Binds K fdI ["self", "processes", "numbers"] dsI) (dI : Vals [.int 4, .int 8] dsI)
    (kP : KBn K fdI ["self", "processes", "numbers"] 1 ["processes"] gp (fun vs zs => vs ++ zs ++ [.int 8])) (kN : KBn K fdI ["self", "processes", "numbers"] 1 ["numbers"] gn (fun vs zs => vs ++ [.int 4] ++ zs))
    (hL : PropOf K C.S "limits" pL fL) (GL : FnOk P w K mg base CX0 1 fL fdL ["self"] (spLimits C)) (bL : Binds K fdL ["self"] [])
    (CR : ClX.CRead K C.S mc) (c6 : ClX.CVal K C.S mc "MOST_PROCESSES" (.int 6) u6) (c8 : ClX.CVal K C.S mc "MOST_NUMBERS" (.int 8) u8) :
    FnG P w K mg base CX0 8 f fd ["_law_script"] (spLaw K Pt) := by
  refine okG F scLaw (fun vs H Q E h => ?_) (fun cdv A outer s H vs Q E hr hg h => ?_)
  · obtain ⟨x, _, rfl, _⟩ := h
    rfl
  · obtain ⟨a, ns, rfl, hS, hl, hP, k⟩ := h
    have hu := hr.units
    have r1 : Room 1 _ := hr.mono (by decide)
    have r2 : Room 2 _ := hr.mono (by decide)
    have r3 : Room 3 _ := hr.mono (by decide)
    have r4 : Room 4 _ := hr.mono (by decide)
    have r5 : Room 5 _ := hr.mono (by decide)
    have hg' : (A.deeper (envOfC "law" (defScope sLaw) s.heap.objs.size f cdv)).guards = some [] := hg
    refine ⟨_, PSs.nox (pss_cut (ps_if (PW.pt (pw_or (pt_cmpR op_ne (ClX.pe_cval (pe_glob (v := .ref C.S) (by rfl) gS rfl)) pe_int (nomark _))
          (pw_or (pt_cmpR op_ne (ClX.pe_cval (pe_glob (v := .ref C.S) (by rfl) gS rfl)) pe_int (nomark _))
          (pw_or1 (pt_cmpR (op_neD hu) (pe_prop (pe_make0 MS GI r4 (by rfl) gS bI dI pass0) T.cl hL GL r2 bL .nil pass0 (by rfl)) (pe_tup (pa_cons pe_int (pa_cons pe_int pa_nil))) (nomark _)))))) (pss_one (ps_ret pe_bl)) pss_nil)
      (pss_cut (ps_if (PW.pt (pw_or (pt_cmpR (op_neD hu) (pe_prop (pe_makeK0 (ks := ["processes"]) MS GI r4 (by rfl) gS kP pass0 (pk_cons pe_int pk_nil)) T.cl hL GL r2 bL .nil pass0 (by rfl)) (pe_tup (pa_cons pe_int (pa_cons pe_int pa_nil))) (nomark _))
          (pw_or1 (pt_cmpR (op_neD hu) (pe_prop (pe_makeK0 (ks := ["numbers"]) MS GI r4 (by rfl) gS kN pass0 (pk_cons pe_int pk_nil)) T.cl hL GL r2 bL .nil pass0 (by rfl)) (pe_tup (pa_cons pe_int (pa_cons pe_int pa_nil))) (nomark _))))) (pss_one (ps_ret pe_bl)) pss_nil)
      (pss_cut (ps_for PassesOwn.never rfl (pi_range1 (by rfl) X.range (pa_cons (pe_callB (cMax2 rfl) (by rfl) X.max (by decide +kernel) (pa_cons pe_int (pa_cons (pe_callB (cMin2 rfl) (by rfl) X.min (by decide +kernel) (pa_cons pe_int (pa_cons (pe_callB cLenQ (by rfl) X.len PySem.boot_len (pa_cons (pv 0) pa_nil)) pa_nil))) pa_nil))) pa_nil)) (pg_name (i := 1) scLaw.nd rfl (Or.inl rfl))
        (pss_cut (ps_set (i := 2) scLaw.nd rfl (Or.inl rfl) (pe_call GB.g r1 (by rfl) GB.m GB.k GB.b .nil pass0 (pa_cons (pv 0) (pa_cons (pv 1) pa_nil))))
        (pss_cut (ps_for PassesOwn.never rfl (pi_range1 (by rfl) X.range (pa_cons pe_int pa_nil)) (pg_name (i := 3) scLaw.nd rfl (Or.inl rfl))
          (pss_cut (ps_par (i := 4) (j := 5) (by rfl) scLaw.nd rfl rfl (by decide) rfl rfl (pa_cons (pe_call GO.g r3 (by rfl) GO.m GO.k GO.b .nil pass0 (pa_cons (pv 2) pa_nil)) (pa_cons (pe_call GO.g r3 (by rfl) GO.m GO.k GO.b .nil pass0 (pa_cons (pv 2) pa_nil)) pa_nil)) (by rfl))
          (pss_cons (ps_set (i := 6) scLaw.nd rfl (Or.inl rfl) pe_non)
          (pss_cut (ps_if (pt_not (pt_val (pe_call GS.g r1 (by rfl) GS.m GS.k GS.b .nil pass0 (pa_cons (pv 5) (pa_cons pe_int (pa_cons pe_int pa_nil)))))) (pss_one (ps_set (i := 6) scLaw.nd rfl (Or.inl rfl) (pe_lst (pa_cons (pv 5) (pa_cons pe_bl pa_nil))))) pss_nil)
          (pss_cut (ps_if (pt_not (pt_val (pe_call GS.g r1 (by rfl) GS.m GS.k GS.b .nil pass0 (pa_cons (pv 4) (pa_cons pe_int (pa_cons pe_int pa_nil)))))) (pss_one (ps_set (i := 6) scLaw.nd rfl (Or.inl rfl) (pe_lst (pa_cons (pv 4) (pa_cons pe_bl pa_nil))))) pss_nil)
          (pss_one (ps_if (pt_cmpR op_ne (pe_callB (cRepr hg' hu) (by rfl) X.repr PyProof.Rows.boot_repr (pa_cons (pe_call GR.g r5 (by rfl) GR.m GR.k GR.b .nil pass0 (pa_cons (pv 4) (pa_cons (pv 5) pa_nil))) pa_nil)) (pe_callB (cRepr hg' hu) (by rfl) X.repr PyProof.Rows.boot_repr (pa_cons (pv 6) pa_nil)) (nomark _)) (pss_one (ps_ret pe_bl)) pss_nil)))))))
        (pss_one (ps_if (pt_not (pt_val (pe_call GF.g hr (by rfl) GF.m GF.k GF.b .nil pass0 (pa_cons (pe_op op_add pe_int (pe_call GT.g r1 (by rfl) GT.m GT.k GT.b .nil pass0 (pa_cons (pv 2) (pa_cons pe_int pa_nil)))) (pa_cons (pe_op op_add pe_int (pe_call GT.g r1 (by rfl) GT.m GT.k GT.b .nil pass0 (pa_cons (pv 2) (pa_cons pe_int pa_nil)))) pa_nil))))) (pss_one (ps_ret pe_bl)) pss_nil)))))
      (pss_one (ps_ret pe_bl))))), ?_⟩
    refine ⟨fun σ' H' => σ' = [some (.ref a), none, none, none, none, none, none] ∧ Same H H', ?_, ?_⟩
    · walk_at "wn"
      refine ⟨C.S, mc, .int 6, u6, rfl, CR, c6, ?_⟩
      walk_at "wn"
      refine ⟨C.S, mc, .int 8, u8, rfl, CR, c8, ?_⟩
      walk_at "wn"
      refine fun x dx0 hx hd nd => ?_
      refine ⟨x, dx0, 4, 8, rfl, upd_same, by decide, by decide, by decide, by decide, fun H3 ad dx hbx A3 k3 n3 => ⟨rfl, ?_⟩⟩
      have s3 : Same H H3 := fun b o e => k3 b o (ne_of_none e hx) (by rw [upd_ne (ne_of_none e hx), upd_ne (ne_of_none e hd)]; exact e)
      refine ⟨x, dx .box, _, rfl, by rw [← hbx]; exact A3.at_ .box trivial, ?_⟩
      refine ⟨newSys 4 8, ad, dx, by rw [hbx], A3, fun H4 r s4 hr4 => ?_⟩
      walk_at "wn"
      refine ⟨by show 2 ≤ sizeLine; decide, fun t ht => ?_⟩
      have s5 := Same.new' (o := .tup [.int 4, .int 8]) ht
      refine ⟨_, _, .tup (SqT.of (s5 _ _ hr4)) (.cons (.int _) (.cons (.int _) .nil)), .tup (SqT.of upd_same) (.cons (.int _) (.cons (.int _) .nil)), two_shaped _ _, two_shaped _ _, ?_⟩
      rw [two_eqv, show (newSys 4 8).P = 4 from rfl, show (newSys 4 8).N = 8 from rfl, decide_eq_true rfl, decide_eq_true rfl]
      walk_at "wn"
      exact ⟨rfl, s3.trans (s4.trans s5)⟩
    rintro σ' H0 ⟨rfl, sH0⟩
    refine ⟨fun σ' H' => σ' = [some (.ref a), none, none, none, none, none, none] ∧ Same H H', ?_, ?_⟩
    · walk_at "wn"
      refine ⟨rfl, rfl, fun x dx0 hx hd nd => ?_⟩
      refine ⟨x, dx0, 2, 8, rfl, upd_same, by decide, by decide, by decide, by decide, fun H3 ad dx hbx A3 k3 n3 => ⟨rfl, ?_⟩⟩
      have s3 : Same H0 H3 := fun b o e => k3 b o (ne_of_none e hx) (by rw [upd_ne (ne_of_none e hx), upd_ne (ne_of_none e hd)]; exact e)
      refine ⟨x, dx .box, _, rfl, by rw [← hbx]; exact A3.at_ .box trivial, ?_⟩
      refine ⟨newSys 2 8, ad, dx, by rw [hbx], A3, fun H4 r s4 hr4 => ?_⟩
      walk_at "wn"
      refine ⟨by show 2 ≤ sizeLine; decide, fun t ht => ?_⟩
      have s5 := Same.new' (o := .tup [.int 2, .int 8]) ht
      refine ⟨_, _, .tup (SqT.of (s5 _ _ hr4)) (.cons (.int _) (.cons (.int _) .nil)), .tup (SqT.of upd_same) (.cons (.int _) (.cons (.int _) .nil)), two_shaped _ _, two_shaped _ _, ?_⟩
      rw [two_eqv, show (newSys 2 8).P = 2 from rfl, show (newSys 2 8).N = 8 from rfl, decide_eq_true rfl, decide_eq_true rfl]
      have s05 := s3.trans (s4.trans s5)
      generalize upd H4 t (.tup [.int 2, .int 8]) = H5 at s05 ⊢
      clear s3 s4 s5 A3 k3 n3 hx hd hbx
      walk_at "wn"
      refine ⟨rfl, rfl, fun x dx0 hx hd nd => ?_⟩
      refine ⟨x, dx0, 4, 3, rfl, upd_same, by decide, by decide, by decide, by decide, fun H3 ad dx hbx A3 k3 n3 => ⟨rfl, ?_⟩⟩
      have s3 : Same H5 H3 := fun b o e => k3 b o (ne_of_none e hx) (by rw [upd_ne (ne_of_none e hx), upd_ne (ne_of_none e hd)]; exact e)
      refine ⟨x, dx .box, _, rfl, by rw [← hbx]; exact A3.at_ .box trivial, ?_⟩
      refine ⟨newSys 4 3, ad, dx, by rw [hbx], A3, fun H4 r s4 hr4 => ?_⟩
      walk_at "wn"
      refine ⟨by show 2 ≤ sizeLine; decide, fun t ht => ?_⟩
      have s5 := Same.new' (o := .tup [.int 4, .int 3]) ht
      refine ⟨_, _, .tup (SqT.of (s5 _ _ hr4)) (.cons (.int _) (.cons (.int _) .nil)), .tup (SqT.of upd_same) (.cons (.int _) (.cons (.int _) .nil)), two_shaped _ _, two_shaped _ _, ?_⟩
      rw [two_eqv, show (newSys 4 3).P = 4 from rfl, show (newSys 4 3).N = 3 from rfl, decide_eq_true rfl, decide_eq_true rfl]
      walk_at "wn"
      exact ⟨rfl, sH0.trans (s05.trans (s3.trans (s4.trans s5)))⟩
    rintro σ' H1 ⟨rfl, sH1⟩
    have hS1 := Same.seq sH1 hS
    refine ⟨fun σ' H' => True, ?_, fun σ' H' _ => ?_⟩
    · walk_at "wn"
      show iRng1 _ _ _ _
      show tCons _ _ _ _ _
      walk_at "wn"
      refine ⟨a, _, rfl, .inl hS1, ?_⟩
      walk_at "wn"
      refine ⟨_, rfl, ?_, ?_, ?_⟩
      · split <;> split <;> omega
      · split <;> split <;> omega
      refine for_range (lo := 0) (fun i σ' H' => ∃ u1 u2 u3 u4 u5 u6 : Option V, σ' = [some (.ref a), u1, u2, u3, u4, u5, u6] ∧ SqL K H' a (ns.map V.int)) ⟨_, _, _, _, _, _, rfl, hS1⟩ ?_ (fun σ' H' _ => trivial)
      rintro i σ' Hb hi ⟨u1, u2, u3, u4, u5, u6, rfl, hSb⟩
      have hi100 : i ≤ 100 := by revert hi; split <;> split <;> omega
      walk_at "wn"
      refine ⟨fun σ' H' => ∃ p : Addr, σ' = [some (.ref a), some (.int (0 + (i : Int))), some (.ref p), u3, u4, u5, u6] ∧ Hb p = none ∧ Same Hb H' ∧ BagAt H' p, ?_, ?_⟩
      · walk_at "wn"
        refine ⟨a, ns, i, by simp, hSb, hl, hi100, fun H1 p n0 s1 b1 => ?_⟩
        walk_at "wn"
        exact ⟨p, rfl, n0, s1, b1⟩
      rintro σ' H2 ⟨p, rfl, n0, s2, b2⟩
      have dr : ∀ {H H' : Hp}, Same Hb H → (∀ b o, b ≠ p → H b = some o → H' b = some o) → Same Hb H' := fun s k b o e => k b o (ne_of_none e n0) (s b o e)
      refine ⟨fun σ' H' => ∃ u3 u4 u5 u6, σ' = [some (.ref a), some (.int (0 + (i : Int))), some (.ref p), u3, u4, u5, u6] ∧ Same Hb H' ∧ BagAt H' p, ?_, ?_⟩
      · walk_at "wn"
        show iRng1 _ _ _ _
        show tCons _ _ _ _ _
        walk_at "wn"
        refine ⟨30, rfl, by decide, by decide, ?_⟩
        refine for_range (lo := 0) (fun j σ' H' => ∃ u3 u4 u5 u6, σ' = [some (.ref a), some (.int (0 + (i : Int))), some (.ref p), u3, u4, u5, u6] ∧ Same Hb H' ∧ BagAt H' p) ⟨_, _, _, _, rfl, s2, b2⟩ ?_ (fun σ' H' h => h)
        clear u3 u4 u5 u6
        rintro j σ' H3 hj ⟨u3, u4, u5, u6, rfl, s3, b3⟩
        walk_at "wn"
        refine ⟨fun σ' H' => ∃ x y, σ' = [some (.ref a), some (.int (0 + (i : Int))), some (.ref p), some (.int (0 + (j : Int))), some x, some y, u6] ∧ Same Hb H' ∧ BagAt H' p ∧ Flat H' x ∧ Flat H' y, ?_, ?_⟩
        · show tPar 4 5 _ _ _ _
          refine ⟨_, rfl, p, rfl, b3, fun x H4 fx nx k4 b4 => ?_⟩
          refine ⟨_, rfl, p, rfl, b4, fun y H5 fy ny k5 b5 => ?_⟩
          walk_at "wn"
          exact ⟨_, _, rfl, x, y, rfl, dr (dr s3 k4) k5, b5, fx.keepP nx k5, fy⟩
        rintro σ' H4 ⟨x, y, rfl, s4, b4, fx, fy⟩
        walk_at "wn"
        refine ⟨fun σ' H' => ∃ v, σ' = [some (.ref a), some (.int (0 + (i : Int))), some (.ref p), some (.int (0 + (j : Int))), some x, some y, some v] ∧ Same H4 H' ∧ DueR H' (if inB y 3 8 = false then some y else none) v, ?_, ?_⟩
        · walk_at "wn"
          refine ⟨y, 3, 8, rfl, fy.ob, ?_⟩
          by_cases hy : inB y 3 8 = false
          · rw [hy]
            walk_at "wn"
            refine ⟨by show 2 ≤ sizeLine; decide, fun l hl => ?_⟩
            walk_at "wn"
            exact ⟨_, rfl, Same.new' hl, .lst y l upd_same⟩
          · rw [eq_true_of_ne_false hy]
            walk_at "wn"
            exact ⟨_, rfl, Same.refl _, .non⟩
        rintro σ' H5 ⟨v, rfl, s5, d5⟩
        refine ⟨fun σ' H' => ∃ v, σ' = [some (.ref a), some (.int (0 + (i : Int))), some (.ref p), some (.int (0 + (j : Int))), some x, some y, some v] ∧ Same H4 H' ∧ DueR H' (badV x y) v, ?_, ?_⟩
        · walk_at "wn"
          refine ⟨x, 2, 6, rfl, (fx.same s5).ob, ?_⟩
          unfold badV
          by_cases hx : inB x 2 6 = false
          · rw [hx]
            walk_at "wn"
            refine ⟨by show 2 ≤ sizeLine; decide, fun l hl => ?_⟩
            walk_at "wn"
            exact ⟨_, rfl, s5.trans (Same.new' hl), .lst x l upd_same⟩
          · rw [eq_true_of_ne_false hx]
            walk_at "wn"
            exact ⟨_, rfl, s5, d5⟩
        rintro σ' H6 ⟨v2, rfl, s6, d6⟩
        walk_at "wn"
        refine ⟨x, y, rfl, fx.same s6, fy.same s6, fun H7 v1 s7 d7 => ?_⟩
        obtain ⟨d, q1, q2, o1, o2, o3⟩ := DueR.data (K := K) d7 (d6.same s7) fun z hz => by
          unfold badV at hz
          split at hz
          · cases hz
            exact (fx.same s6).same s7
          · split at hz
            · cases hz
              exact (fy.same s6).same s7
            · cases hz
        refine ⟨v1, d, rfl, q1, o1, o2, o3, ?_⟩
        walk_at "wn"
        refine ⟨v2, d, rfl, q2, o1, o2, o3, ?_⟩
        walk_at "wn"
        obtain ⟨c1, c2, hc, hcr⟩ := b4
        exact ⟨_, _, _, _, rfl, s4.trans (s6.trans s7), c1, c2, s7 _ _ (s6 _ _ hc), hcr⟩
      clear u3 u4 u5 u6
      rintro σ' H3 ⟨u3, u4, u5, u6, rfl, s3, b3⟩
      walk_at "wn"
      refine ⟨p, 5, rfl, b3, by decide, by decide, fun m H4 m0 m1 e4 b4 => ?_⟩
      walk_at "wn"
      refine ⟨p, 6, rfl, b4, by decide, by decide, fun n H5 n0' n1 e5 b5 => ?_⟩
      walk_at "wn"
      refine ⟨2 + m, 3 + n, rfl, by omega, by omega, by omega, by omega, fun H6 s6 => ?_⟩
      walk_at "wn"
      exact ⟨_, _, _, _, _, _, rfl, Same.seq ((dr (dr s3 fun b o n e => (e4 b n).trans e) fun b o n e => (e5 b n).trans e).trans s6) hSb⟩
    · walk_at "wn"
      exact k _
end

/-! facts of the top, looked up by one kernel run: each fact a test of a part of the heap behind the top -/
abbrev Ck : Type := PySem.W.Frag → Bool
/-- an own error's class -/
def slotB (newId : String) : List (Option Value) → Bool
  | [_, _, _, _, some (.builtin n), _] => decide (n = newId)
  | _ => false
theorem slotB_ok {newId : String} {l : List (Option Value)} (h : slotB newId l = true) : ∃ k0 k1 k2 k3 k5, l = [k0, k1, k2, k3, some (.builtin newId), k5] := by
  unfold slotB at h
  split at h
  · rename_i k0 k1 k2 k3 n k5
    obtain rfl := of_decide_eq_true h
    exact ⟨k0, k1, k2, k3, k5, rfl⟩
  · cases h
def excB (K : PySem.W.Frag) (C : Addr) (bm : List Value) (newId : String) : Bool := match K.lookup C with
  | some ⟨.type t, _, .cls cd, sl⟩ => decide (t = "type") && (decide (cd.mro = .ref C :: bm) && (cd.hasDict && (!cd.hasDel && slotB newId sl.toList)))
  | _ => false
theorem excB_ok {K : PySem.W.Frag} {C : Addr} {bm : List Value} {newId : String} (h : excB K C bm newId = true) :
    ∃ nm q N bs sn sub ab col dd k0 k1 k2 k3 k5, K.lookup C = some (excClassObj nm q C N bs bm true sn sub ab col dd k0 k1 k2 k3 k5 newId) := by
  unfold excB at h
  cases e : K.lookup C with
  | none => rw [e] at h; cases h
  | some o =>
    obtain ⟨oc, od, dt, sl⟩ := o
    rw [e] at h
    cases oc with
    | type t =>
      cases dt with
      | cls cd =>
        obtain ⟨nm, bs, mro, ns, qn, hd, sn, sb, ab, col, del⟩ := cd
        obtain ⟨l⟩ := sl
        have h : (decide (t = "type") && (decide (mro = .ref C :: bm) && (hd && (!del && slotB newId l)))) = true := h
        simp only [Bool.and_eq_true, decide_eq_true_eq, Bool.not_eq_true'] at h
        obtain ⟨rfl, rfl, rfl, rfl, h5⟩ := h
        obtain ⟨k0, k1, k2, k3, k5, rfl⟩ := slotB_ok h5
        exact ⟨_, _, _, _, _, _, _, _, _, k0, k1, k2, k3, k5, rfl⟩
      | _ => cases h
    | _ => cases dt <;> cases h
/-- an int among the module's names, among a class's -/
def intB (o : Option (Option Value)) (i : Int) : Bool := match o with
  | some (some (.int j _)) => decide (j = i)
  | _ => false
theorem intB_ok {o : Option (Option Value)} {i : Int} (h : intB o i = true) : ∃ t, o = some (some (.int i t)) := by
  unfold intB at h
  split at h
  · rename_i j t
    obtain rfl := of_decide_eq_true h
    exact ⟨t, rfl⟩
  · cases h
def atB (K : PySem.W.Frag) (o : Option (Option Value)) (i : Int) : Bool := match o with
  | some (some (.int j t)) => decide (j = i) && decide (PySem.W.specialIn K (.int j t) "__get__" = some none)
  | _ => false
theorem atB_ok {K : PySem.W.Frag} {o : Option (Option Value)} {i : Int} (h : atB K o i = true) : ∃ t, o = some (some (.int i t)) ∧ PySem.W.specialIn K (.int i t) "__get__" = some none := by
  unfold atB at h
  split at h
  · rename_i j t
    simp only [Bool.and_eq_true, decide_eq_true_eq] at h
    obtain ⟨rfl, h2⟩ := h
    exact ⟨t, rfl, h2⟩
  · cases h
/-- a def's code, a code's table -/
def cdV (K : PySem.W.Frag) (f : Addr) : Option Value := match K.lookup f with
  | some ⟨_, _, .func fd, _⟩ => some fd.code
  | _ => none
def cdA (K : PySem.W.Frag) (f : Addr) : Addr := match cdV K f with
  | some (.ref c) => c
  | _ => 0
def ptA (K : PySem.W.Frag) (f : Addr) : Addr := match K.lookup (cdA K f) with
  | some ⟨_, _, .fields vs, _⟩ => (match vs.toList with
    | [_, _, _, _, _, _, _, _, _, _, _, .ref P] => P
    | _ :: _ :: _ :: _ :: _ :: _ :: _ :: _ :: _ :: _ :: _ :: .ref P :: _ => P
    | _ => 0)
  | _ => 0
/-- the texts of a tuple -/
def litB (x y z : Str) : List Value → Bool
  | [.str b _, .str c _, .str d _] => decide (b = x) && (decide (c = y) && decide (d = z))
  | _ => false
theorem litB_ok {x y z : Str} {l : List Value} (h : litB x y z l = true) : ∃ t0 t1 t2, l = [.str x t0, .str y t1, .str z t2] := by
  unfold litB at h
  split at h
  · rename_i b t0 c t1 d t2
    simp only [Bool.and_eq_true, decide_eq_true_eq] at h
    obtain ⟨rfl, rfl, rfl⟩ := h
    exact ⟨t0, t1, t2, rfl⟩
  · cases h
def txtB (K : PySem.W.Frag) (a : Addr) (x y z : Str) : Bool := match K.lookup a with
  | some ⟨.type t, _, .seq its _, _⟩ => decide (t = "tuple") && litB x y z its.toList
  | _ => false
theorem txtB_ok {K : PySem.W.Frag} {a : Addr} {x y z : Str} (h : txtB K a x y z = true) : ∃ dW t0 t1 t2 nW sW, K.lookup a = some ⟨.type "tuple", dW, .seq #[.str x t0, .str y t1, .str z t2] nW, sW⟩ := by
  unfold txtB at h
  cases e : K.lookup a with
  | none => rw [e] at h; cases h
  | some o =>
    obtain ⟨oc, od, dt, sl⟩ := o
    rw [e] at h
    cases oc with
    | type t =>
      cases dt with
      | seq its n =>
        obtain ⟨l⟩ := its
        have h : (decide (t = "tuple") && litB x y z l) = true := h
        simp only [Bool.and_eq_true, decide_eq_true_eq] at h
        obtain ⟨rfl, h2⟩ := h
        obtain ⟨t0, t1, t2, rfl⟩ := litB_ok h2
        exact ⟨_, t0, t1, t2, _, _, rfl⟩
      | _ => cases h
    | _ => cases dt <;> cases h
def clsB (o : Option PySem.W.CFound) (m : String) : Bool := match o with
  | some (.val (.builtin n)) => decide (n = m)
  | _ => false
theorem clsB_ok {o : Option PySem.W.CFound} {m : String} (h : clsB o m = true) : o = some (.val (.builtin m)) := by
  unfold clsB at h
  split at h
  · rename_i n
    obtain rfl := of_decide_eq_true h
    rfl
  · cases h
/-! a def that stands anywhere: a property's getter -/
def gtA (K : PySem.W.Frag) (p : Addr) : Addr := match PySem.W.recIn K p "property" with
  | some (.ref g :: _) => g
  | _ => 0
def gtB (K : PySem.W.Frag) (p : Addr) : Bool := match PySem.W.recIn K p "property" with
  | some (.ref _ :: _) => true
  | _ => false
theorem gtB_ok {K : PySem.W.Frag} {p : Addr} (h : gtB K p = true) : ∃ rest, PySem.W.recIn K p "property" = some (.ref (gtA K p) :: rest) := by
  unfold gtB at h
  split at h
  · rename_i g rest e
    refine ⟨rest, ?_⟩
    unfold gtA
    rw [e]
  · cases h
/-- an int that is read off a class -/
def cvB (o : Option PySem.W.CFound) (i : Int) : Bool := match o with
  | some (.val (.int j _)) => decide (j = i)
  | _ => false
theorem cvB_ok {o : Option PySem.W.CFound} {i : Int} (h : cvB o i = true) : ∃ t, o = some (.val (.int i t)) := by
  unfold cvB at h
  split at h
  · rename_i j t
    obtain rfl := of_decide_eq_true h
    exact ⟨t, rfl⟩
  · cases h
structure DefX where
  ad : PySem.W.Frag → Addr
  d : He.DefD
def fnX (K : PySem.W.Frag) (x : DefX) : He.FnW := match K.lookup (x.ad K) with
  | some ⟨_, _, .func fd, _⟩ => some (fd.name, fd.qualname, fd.params, fd.body, fd.scope, fd.globals, fd.closure, fd.builtins)
  | _ => none
def DefX.ok (K : PySem.W.Frag) (x : DefX) : Bool := PySem.W.keepIn K (.ref (x.ad K)) && (match K.lookup (x.ad K) with
  | some ⟨_, _, .func fd, _⟩ => PySem.W.codeIn K fd.code x.d.qual && (He.dflB K fd.defaults (x.d.dvs K) && He.kwdB K fd.kwdefaults (x.d.kws K))
  | _ => false)
theorem DefX.funD {K : PySem.W.Frag} {x : DefX} (e : fnX K x = x.d.val) (c : x.ok K = true) : ∃ fd, FunD K x.d.name x.d.qual x.d.params x.d.body x.d.scope (x.d.dvs K) (x.d.kws K) (x.ad K) fd := by
  obtain ⟨kp, c2⟩ := He.ba c
  unfold fnX at e
  cases q : K.lookup (x.ad K) with
  | none =>
    rw [q] at c2
    cases c2
  | some o =>
    obtain ⟨oc, od, dt, osl⟩ := o
    rw [q] at c2 e
    cases dt with
    | func fd =>
      obtain ⟨n1, n2, n3, n4, n5, n6, n7, n8, n9, n10, n11, n12, n13, n14, n15⟩ := fd
      have e2 : (some (n1, n2, n3, n4, n5, n6, n7, n15) : He.FnW) = some (x.d.name, x.d.qual, x.d.params, .stmts x.d.body, x.d.scope, mainGlobals, [], builtinsNs) := e
      simp only [Option.some.injEq, Prod.mk.injEq] at e2
      obtain ⟨h1, h2, h3, h4, h5, h6, h7, h8⟩ := e2
      subst h1 h2 h3 h4 h5 h6 h7 h8
      have c3 : (PySem.W.codeIn K n13 x.d.qual && (He.dflB K n8 (x.d.dvs K) && He.kwdB K n9 (x.d.kws K))) = true := c2
      obtain ⟨k1, k2⟩ := He.ba c3
      obtain ⟨k3, k4⟩ := He.ba k2
      exact ⟨_, ⟨oc, od, n8, n9, n10, n11, n12, n13, n14, osl, rfl, q, k1, He.dflB_ok k3, He.kwdB_ok k4⟩, kp⟩
    | _ => cases c2
/-! the Hook -/
abbrev Tb : Type := PySem.W.Frag → Addr
def frB (g : Addr → Option Obj) (n : Nat) (ex : PySem.W.Frag → List Addr) (tb : Option Tb) : PySem.W.Frag :=
  let as0 := He.asD g n ++ [cStatics]
  let K0 := He.frG g as0
  let as1 := as0 ++ (ex K0).flatMap fun a => a :: (match g a with
    | some o => He.refsD o
    | none => [])
  match tb with
  | none => He.frG g as1
  | some f => He.frG g (as1.filter fun a => a != f K0)
theorem frB_in {h : Heap} {n : Nat} {ex : PySem.W.Frag → List Addr} {tb : Option Tb} : (frB h.get? n ex tb).In h := by
  cases tb with
  | none => exact He.frG_in
  | some f => exact He.frG_in
def valX (fn : List He.DefD) (fx : List DefX) : He.AlD := (true, fn.map He.DefD.val ++ fx.map fun x => x.d.val)
def obsK (cs : List Ck) (fn : List He.DefD) (fx : List DefX) (K : PySem.W.Frag) : He.AlD := ((cs.all fun c => c K) && ((fn.all fun d => d.ok K) && fx.all fun x => x.ok K), (fn.map fun d => He.fnW K d.at_) ++ fx.map fun x => fnX K x)
def obsB (n : Nat) (ex : PySem.W.Frag → List Addr) (cs : List Ck) (fn : List He.DefD) (fx : List DefX) (tb : Option Tb) (g : Addr → Option Obj) : He.AlD × Option Obj := (obsK cs fn fx (frB g n ex tb), match tb with
  | none => none
  | some f => g (f (frB g n ex tb)))
def valB (fn : List He.DefD) (fx : List DefX) : Option Tb → He.AlD × Option Obj
  | none => (valX fn fx, none)
  | some _ => (valX fn fx, some (PySem.W.tabObj #[]))
def SaysB (cs : List Ck) (fn : List He.DefD) (fx : List DefX) (K : PySem.W.Frag) : Prop := obsK cs fn fx K = valX fn fx
def hookB (n : Nat) (ex : PySem.W.Frag → List Addr) (cs : List Ck) (fn : List He.DefD) (fx : List DefX) (tb : Option Tb) : PySem.W.Hook where
  α := He.AlD × Option Obj
  obs := fun s => obsB n ex cs fn fx tb s.heap.get?
  val := fun _ => valB fn fx tb
  says := fun _ h => ∃ K : PySem.W.Frag, K.In h ∧ SaysB cs fn fx K ∧ ∀ f, tb = some f → h.get? (f K) = some (PySem.W.tabObj #[])
  of := fun _ s e => by
    refine ⟨frB s.heap.get? n ex tb, frB_in, ?_, fun f hf => ?_⟩
    · cases tb with
      | none => exact congrArg Prod.fst e
      | some f => exact congrArg Prod.fst e
    · subst hf
      exact congrArg Prod.snd e
  keeps := fun _ _ _ ⟨K, hK, c, ht⟩ k => ⟨K, PySem.W.Frag.In.keeps hK k, c, fun f hf => k _ _ (ht f hf)⟩
theorem obsB_eq {n : Nat} {ex : PySem.W.Frag → List Addr} {cs : List Ck} {fn : List He.DefD} {fx : List DefX} {tb : Option Tb} {g : Addr → Option Obj} {s : Shared} (h : ∀ a, g a = s.heap.get? a) : obsB n ex cs fn fx tb g = (hookB n ex cs fn fx tb).obs s := by
  have e : g = s.heap.get? := funext h
  rw [e] <;> rfl
section
variable {cs : List Ck} {fn : List He.DefD} {fx : List DefX} {K : PySem.W.Frag}
theorem SaysB.ck (c : SaysB cs fn fx K) (i : Nat) {f : Ck} (h : cs[i]? = some f) : f K = true := by
  have c1 := (He.ba (show ((cs.all fun f => f K) && ((fn.all fun d => d.ok K) && fx.all fun x => x.ok K)) = true from congrArg (fun z : He.AlD => z.1) c)).1
  exact List.all_eq_true.mp c1 f (List.mem_of_getElem? h)
theorem SaysB.split (c : SaysB cs fn fx K) : (fn.map fun d => He.fnW K d.at_) = fn.map He.DefD.val ∧ (fx.map fun x => fnX K x) = fx.map fun x => x.d.val := by
  have e : (fn.map fun d => He.fnW K d.at_) ++ (fx.map fun x => fnX K x) = fn.map He.DefD.val ++ fx.map fun x => x.d.val := congrArg (fun z : He.AlD => z.2) c
  exact List.append_inj e (by rw [List.length_map, List.length_map])
theorem SaysB.def_ (c : SaysB cs fn fx K) (i : Nat) {d : He.DefD} (h : fn[i]? = some d) : ∃ fd, FunD K d.name d.qual d.params d.body d.scope (d.dvs K) (d.kws K) (He.fAd K d.at_) fd := by
  have c2 := (He.ba (He.ba (show ((cs.all fun f => f K) && ((fn.all fun d => d.ok K) && fx.all fun x => x.ok K)) = true from congrArg (fun z : He.AlD => z.1) c)).2).1
  have e2 : (fn.map fun d => He.fnW K d.at_)[i]? = (fn.map He.DefD.val)[i]? := by rw [c.split.1]
  rw [List.getElem?_map, List.getElem?_map, h] at e2
  exact He.DefD.funD (Option.some.inj e2) (List.all_eq_true.mp c2 d (List.mem_of_getElem? h))
theorem SaysB.defX (c : SaysB cs fn fx K) (i : Nat) {x : DefX} (h : fx[i]? = some x) : ∃ fd, FunD K x.d.name x.d.qual x.d.params x.d.body x.d.scope (x.d.dvs K) (x.d.kws K) (x.ad K) fd := by
  have c2 := (He.ba (He.ba (show ((cs.all fun f => f K) && ((fn.all fun d => d.ok K) && fx.all fun x => x.ok K)) = true from congrArg (fun z : He.AlD => z.1) c)).2).2
  have e2 : (fx.map fun x => fnX K x)[i]? = (fx.map fun x => x.d.val)[i]? := by rw [c.split.2]
  rw [List.getElem?_map, List.getElem?_map, h] at e2
  exact DefX.funD (Option.some.inj e2) (List.all_eq_true.mp c2 x (List.mem_of_getElem? h))
end
theorem fun_of {K : PySem.W.Frag} {x qual : Str} {st : Stmt} {f : Addr} {fd : FuncData} (F : FunD K x qual (defArgs st) (defBody st) (defScope st) [] [] f fd) : Fun K x qual st f fd := by
  obtain ⟨oc, od, dV, kV, doc, pm, an, cdv, ct, osl, e, lk, hc, hD, _⟩ := F.ex
  obtain rfl : dV = .none := by
    rcases hD with ⟨_, h⟩ | ⟨h, _⟩
    · exact h
    · exact absurd rfl h
  exact ⟨⟨oc, od, kV, doc, pm, an, cdv, ct, osl, e, lk, hc⟩, F.kp⟩

theorem Ln0 {α : Type} : ∀ {us : List α}, us.length = 0 → us = []
  | [], _ => rfl
theorem Ln1 {α : Type} : ∀ {us : List α}, us.length = 1 → ∃ a0, us = [a0]
  | [a0], _ => ⟨_, rfl⟩
theorem Ln2 {α : Type} : ∀ {us : List α}, us.length = 2 → ∃ a0 a1, us = [a0, a1]
  | [a0, a1], _ => ⟨_, _, rfl⟩
theorem Ln3 {α : Type} : ∀ {us : List α}, us.length = 3 → ∃ a0 a1 a2, us = [a0, a1, a2]
  | [a0, a1, a2], _ => ⟨_, _, _, rfl⟩
theorem Ln4 {α : Type} : ∀ {us : List α}, us.length = 4 → ∃ a0 a1 a2 a3, us = [a0, a1, a2, a3]
  | [a0, a1, a2, a3], _ => ⟨_, _, _, _, rfl⟩
theorem Ln5 {α : Type} : ∀ {us : List α}, us.length = 5 → ∃ a0 a1 a2 a3 a4, us = [a0, a1, a2, a3, a4]
  | [a0, a1, a2, a3, a4], _ => ⟨_, _, _, _, _, rfl⟩
theorem Ln6 {α : Type} : ∀ {us : List α}, us.length = 6 → ∃ a0 a1 a2 a3 a4 a5, us = [a0, a1, a2, a3, a4, a5]
  | [a0, a1, a2, a3, a4, a5], _ => ⟨_, _, _, _, _, _, rfl⟩
theorem Ln7 {α : Type} : ∀ {us : List α}, us.length = 7 → ∃ a0 a1 a2 a3 a4 a5 a6, us = [a0, a1, a2, a3, a4, a5, a6]
  | [a0, a1, a2, a3, a4, a5, a6], _ => ⟨_, _, _, _, _, _, _, rfl⟩
theorem isct {K : PySem.W.Frag} {h : Heap} {c P : Addr} (X : K.In h) (e : PySem.W.codeHdIn K c P = true) : isCodeTable h P := by
  obtain ⟨o, vs, _, _, _, _, _, _, _, e1, e2, e3, e4, _⟩ := PySem.W.codeHd_of_K X e
  exact ⟨c, o, vs, e1, e2, e3, e4⟩
theorem all_mk {P : Program} {w : World} {K : PySem.W.Frag} {h : Heap} {mg : Str → Option Value} {fa Pt : Addr} (X : K.In h) (G : h.Ns mainGlobals mg) (hfa : mg "law" = some (.ref fa))
    {CS CW : Addr}
    {CBl NBl : Addr} {nmBl qBl : Str} {bsBl subBl : List Value} {snBl : List Str} {abBl : Bool} {colBl : Option Bool} {ddBl : Option Addr} {maBl mbBl mcBl mdBl meBl : Option Value}
    {CFu NFu : Addr} {nmFu qFu : Str} {bsFu subFu : List Value} {snFu : List Str} {abFu : Bool} {colFu : Option Bool} {ddFu : Option Addr} {maFu mbFu mcFu mdFu meFu : Option Value}
    {CNo NNo : Addr} {nmNo qNo : Str} {bsNo subNo : List Value} {snNo : List Str} {abNo : Bool} {colNo : Option Bool} {ddNo : Option Addr} {maNo mbNo mcNo mdNo meNo : Option Value}
    {f_int : Addr} {fd_int : FuncData}
    {f_bet : Addr} {fd_bet : FuncData}
    {f_bag : Addr} {fd_bag : FuncData}
    {f_take : Addr} {fd_take : FuncData}
    {f_of : Addr} {fd_of : FuncData}
    {f_obj : Addr} {fd_obj : FuncData}
    {f_isf : Addr} {fd_isf : FuncData}
    {f_ref : Addr} {fd_ref : FuncData}
    {f_fil : Addr} {fd_fil : FuncData}
    {f_law : Addr} {fd_law : FuncData} {c_law : Addr}
    {f_xbl : Addr} {fd_xbl : FuncData}
    {f_xfu : Addr} {fd_xfu : FuncData}
    {f_xno : Addr} {fd_xno : FuncData}
    {f_wi : Addr} {fd_wi : FuncData}
    {f_si : Addr} {fd_si : FuncData}
    {f_con : Addr} {fd_con : FuncData}
    {f_tof : Addr} {fd_tof : FuncData}
    {f_frn : Addr} {fd_frn : FuncData}
    {f_nth : Addr} {fd_nth : FuncData}
    {f_nso : Addr} {fd_nso : FuncData}
    {f_nse : Addr} {fd_nse : FuncData}
    {f_frp : Addr} {fd_frp : FuncData}
    {f_frk : Addr} {fd_frk : FuncData}
    {f_len : Addr} {fd_len : FuncData}
    {f_ali : Addr} {fd_ali : FuncData}
    {p_lim : Addr}
    {f_lim : Addr} {fd_lim : FuncData}
    {f_num : Addr} {fd_num : FuncData}
    {f_tng : Addr} {fd_tng : FuncData}
    {f_reg : Addr} {fd_reg : FuncData}
    {tLP : Tok}
    {tLN : Tok}
    {tMP : Tok}
    {tMN : Tok}
    {tV6 tV8 : Tok}
    (gCS : PySem.W.nsIn K mainGlobals "System" = some (some (.ref CS)))
    (pgS : PySem.W.plainGet K CS Str.empty = true)
    (hdS : PySem.W.hasDictIn K CS = true)
    (poS : PySem.W.plainOver K CS = true)
    (saS : PySem.W.findIn K (.ref CS) "__setattr__" = some (some (.builtin "object.__setattr__")))
    (mkS : PySem.W.makesIn K CS = true)
    (kcS : PySem.W.keepIn K (.ref CS) = true)
    (noS0 : PySem.W.findIn K (.ref CS) "process_limit" = some none)
    (noS1 : PySem.W.findIn K (.ref CS) "number_limit" = some none)
    (noS2 : PySem.W.findIn K (.ref CS) "tables" = some none)
    (noS3 : PySem.W.findIn K (.ref CS) "sources" = some none)
    (noS4 : PySem.W.findIn K (.ref CS) "sets" = some none)
    (noS5 : PySem.W.findIn K (.ref CS) "next_thing" = some none)
    (gCW : PySem.W.nsIn K mainGlobals "WaitingSet" = some (some (.ref CW)))
    (pgW : PySem.W.plainGet K CW Str.empty = true)
    (hdW : PySem.W.hasDictIn K CW = true)
    (poW : PySem.W.plainOver K CW = true)
    (saW : PySem.W.findIn K (.ref CW) "__setattr__" = some (some (.builtin "object.__setattr__")))
    (mkW : PySem.W.makesIn K CW = true)
    (kcW : PySem.W.keepIn K (.ref CW) = true)
    (noW0 : PySem.W.findIn K (.ref CW) "entries" = some none)
    (noW1 : PySem.W.findIn K (.ref CW) "queue" = some none)
    (gCBl : PySem.W.nsIn K mainGlobals "BadLimit" = some (some (.ref CBl)))
    (xLBl : K.lookup CBl = some (excClassObj nmBl qBl CBl NBl bsBl [.type "ValueError", .type "Exception", .type "BaseException", .type "object"] true snBl subBl abBl colBl ddBl maBl mbBl mcBl mdBl meBl "ValueError.__new__"))
    (xsaBl : PySem.W.findIn K (.ref CBl) "__setattr__" = some (some (.builtin "object.__setattr__")))
    (xgaBl : PySem.W.findIn K (.ref CBl) "__getattribute__" = some (some (.builtin "BaseException.__getattribute__")))
    (xggBl : PySem.W.findIn K (.ref CBl) "__getattr__" = some none)
    (xnbBl0 : PySem.W.findIn K (.ref CBl) "limit" = some none)
    (xvVBl : PySem.W.findCls K (.type "ValueError") (.type "type") "__init__" = some (.val (.builtin "ValueError.__init__")))
    (xkCBl : PySem.W.keepIn K (.ref CBl) = true)
    (xeCBl : PySem.W.subIn K (.ref CBl) (.type "BaseException") = some true)
    (xtCBl : PySem.W.typeIn K (.ref CBl) = some (.type "type"))
    (xhCBl : PySem.W.hasDictIn K CBl = true)
    (xteBl : PySem.W.exmOne K (.ref CBl) (.ref CBl) = some true)
    (xC1Bl : PySem.W.findIn K (.ref CBl) "__class__" = some (some (.builtin "object.__class__")))
    (xC4Bl : PySem.W.mroIn K CBl (.type "object") = some true)
    (xC5Bl : (PySem.W.clsIn K CBl).isSome = true)
    (xkvBl : PySem.W.kitOne K (.ref CBl) (.type "ValueError") = some true)
    (xC2 : PySem.W.specialIn K (.builtin "object.__class__") "__get__" = some (some (.builtin "getset_descriptor.__get__")))
    (xC3 : PySem.W.takesIn K (.builtin "object.__class__") = some true)
    (gCFu : PySem.W.nsIn K mainGlobals "Full" = some (some (.ref CFu)))
    (xLFu : K.lookup CFu = some (excClassObj nmFu qFu CFu NFu bsFu [.type "OverflowError", .type "ArithmeticError", .type "Exception", .type "BaseException", .type "object"] true snFu subFu abFu colFu ddFu maFu mbFu mcFu mdFu meFu "OverflowError.__new__"))
    (xsaFu : PySem.W.findIn K (.ref CFu) "__setattr__" = some (some (.builtin "object.__setattr__")))
    (xgaFu : PySem.W.findIn K (.ref CFu) "__getattribute__" = some (some (.builtin "BaseException.__getattribute__")))
    (xggFu : PySem.W.findIn K (.ref CFu) "__getattr__" = some none)
    (xnbFu0 : PySem.W.findIn K (.ref CFu) "process" = some none)
    (xvVFu : PySem.W.findCls K (.type "OverflowError") (.type "type") "__init__" = some (.val (.builtin "OverflowError.__init__")))
    (xkCFu : PySem.W.keepIn K (.ref CFu) = true)
    (xeCFu : PySem.W.subIn K (.ref CFu) (.type "BaseException") = some true)
    (xtCFu : PySem.W.typeIn K (.ref CFu) = some (.type "type"))
    (xhCFu : PySem.W.hasDictIn K CFu = true)
    (xteFu : PySem.W.exmOne K (.ref CFu) (.ref CFu) = some true)
    (xC1Fu : PySem.W.findIn K (.ref CFu) "__class__" = some (some (.builtin "object.__class__")))
    (xC4Fu : PySem.W.mroIn K CFu (.type "object") = some true)
    (xC5Fu : (PySem.W.clsIn K CFu).isSome = true)
    (xkvFu : PySem.W.kitOne K (.ref CFu) (.type "OverflowError") = some true)
    (gCNo : PySem.W.nsIn K mainGlobals "NoRoom" = some (some (.ref CNo)))
    (xLNo : K.lookup CNo = some (excClassObj nmNo qNo CNo NNo bsNo [.type "OverflowError", .type "ArithmeticError", .type "Exception", .type "BaseException", .type "object"] true snNo subNo abNo colNo ddNo maNo mbNo mcNo mdNo meNo "OverflowError.__new__"))
    (xsaNo : PySem.W.findIn K (.ref CNo) "__setattr__" = some (some (.builtin "object.__setattr__")))
    (xgaNo : PySem.W.findIn K (.ref CNo) "__getattribute__" = some (some (.builtin "BaseException.__getattribute__")))
    (xggNo : PySem.W.findIn K (.ref CNo) "__getattr__" = some none)
    (xvVNo : PySem.W.findCls K (.type "OverflowError") (.type "type") "__init__" = some (.val (.builtin "OverflowError.__init__")))
    (xkCNo : PySem.W.keepIn K (.ref CNo) = true)
    (xeCNo : PySem.W.subIn K (.ref CNo) (.type "BaseException") = some true)
    (xtCNo : PySem.W.typeIn K (.ref CNo) = some (.type "type"))
    (xhCNo : PySem.W.hasDictIn K CNo = true)
    (xteNo : PySem.W.exmOne K (.ref CNo) (.ref CNo) = some true)
    (xC1No : PySem.W.findIn K (.ref CNo) "__class__" = some (some (.builtin "object.__class__")))
    (xC4No : PySem.W.mroIn K CNo (.type "object") = some true)
    (xC5No : (PySem.W.clsIn K CNo).isSome = true)
    (xkvNo : PySem.W.kitOne K (.ref CNo) (.type "OverflowError") = some true)
    (aint : PySem.W.nsIn K mainGlobals "is_integer" = some (some (.ref f_int)))
    (kint : PySem.W.keepIn K (.ref f_int) = true)
    (F0int : FunD K "is_integer" "is_integer" (defArgs sIsInteger) (defBody sIsInteger) (defScope sIsInteger) ([] : List V) ([] : List (Str × V)) f_int fd_int)
    (abet : PySem.W.nsIn K mainGlobals "is_between" = some (some (.ref f_bet)))
    (kbet : PySem.W.keepIn K (.ref f_bet) = true)
    (F0bet : FunD K "is_between" "is_between" (defArgs sIsBetween) (defBody sIsBetween) (defScope sIsBetween) ([] : List V) ([] : List (Str × V)) f_bet fd_bet)
    (abag : PySem.W.nsIn K mainGlobals "_law_bag" = some (some (.ref f_bag)))
    (kbag : PySem.W.keepIn K (.ref f_bag) = true)
    (F0bag : FunD K "_law_bag" "_law_bag" (defArgs sBag) (defBody sBag) (defScope sBag) ([] : List V) ([] : List (Str × V)) f_bag fd_bag)
    (atake : PySem.W.nsIn K mainGlobals "_law_take" = some (some (.ref f_take)))
    (ktake : PySem.W.keepIn K (.ref f_take) = true)
    (F0take : FunD K "_law_take" "_law_take" (defArgs sTake) (defBody sTake) (defScope sTake) ([] : List V) ([] : List (Str × V)) f_take fd_take)
    (aof : PySem.W.nsIn K mainGlobals "_law_of" = some (some (.ref f_of)))
    (kof : PySem.W.keepIn K (.ref f_of) = true)
    (F0of : FunD K "_law_of" "_law_of" (defArgs sOf) (defBody sOf) (defScope sOf) ([] : List V) ([] : List (Str × V)) f_of fd_of)
    (aobj : PySem.W.nsIn K mainGlobals "_law_object" = some (some (.ref f_obj)))
    (kobj : PySem.W.keepIn K (.ref f_obj) = true)
    (F0obj : FunD K "_law_object" "_law_object" (defArgs sObject) (defBody sObject) (defScope sObject) ([] : List V) ([] : List (Str × V)) f_obj fd_obj)
    (aisf : PySem.W.nsIn K mainGlobals "_law_is_from" = some (some (.ref f_isf)))
    (kisf : PySem.W.keepIn K (.ref f_isf) = true)
    (F0isf : FunD K "_law_is_from" "_law_is_from" (defArgs sIsFrom) (defBody sIsFrom) (defScope sIsFrom) ([] : List V) ([] : List (Str × V)) f_isf fd_isf)
    (aref : PySem.W.nsIn K mainGlobals "_law_refused" = some (some (.ref f_ref)))
    (kref : PySem.W.keepIn K (.ref f_ref) = true)
    (F0ref : FunD K "_law_refused" "_law_refused" (defArgs sRefused) (defBody sRefused) (defScope sRefused) ([] : List V) ([] : List (Str × V)) f_ref fd_ref)
    (afil : PySem.W.nsIn K mainGlobals "_law_fills" = some (some (.ref f_fil)))
    (kfil : PySem.W.keepIn K (.ref f_fil) = true)
    (F0fil : FunD K "_law_fills" "_law_fills" (defArgs sFills) (defBody sFills) (defScope sFills) ([] : List V) ([] : List (Str × V)) f_fil fd_fil)
    (alaw : PySem.W.nsIn K mainGlobals "law" = some (some (.ref f_law)))
    (klaw : PySem.W.keepIn K (.ref f_law) = true)
    (F0law : FunD K "law" "law" (defArgs sLaw) (defBody sLaw) (defScope sLaw) ([] : List V) ([] : List (Str × V)) f_law fd_law)
    (hcdlaw : cdV K f_law = some (.ref c_law))
    (axbl : PySem.W.findIn K (.ref CBl) "__init__" = some (some (.ref f_xbl)))
    (ixbl : PySem.W.isFn K (.ref f_xbl) = true)
    (kxbl : PySem.W.keepIn K (.ref f_xbl) = true)
    (F0xbl : FunD K "__init__" "BadLimit.__init__" (defArgs sBadLimitInit) (defBody sBadLimitInit) (defScope sBadLimitInit) ([] : List V) ([] : List (Str × V)) f_xbl fd_xbl)
    (axfu : PySem.W.findIn K (.ref CFu) "__init__" = some (some (.ref f_xfu)))
    (ixfu : PySem.W.isFn K (.ref f_xfu) = true)
    (kxfu : PySem.W.keepIn K (.ref f_xfu) = true)
    (F0xfu : FunD K "__init__" "Full.__init__" (defArgs sFullInit) (defBody sFullInit) (defScope sFullInit) ([] : List V) ([] : List (Str × V)) f_xfu fd_xfu)
    (axno : PySem.W.findIn K (.ref CNo) "__init__" = some (some (.ref f_xno)))
    (ixno : PySem.W.isFn K (.ref f_xno) = true)
    (kxno : PySem.W.keepIn K (.ref f_xno) = true)
    (F0xno : FunD K "__init__" "NoRoom.__init__" (defArgs sNoRoomInit) (defBody sNoRoomInit) (defScope sNoRoomInit) ([] : List V) ([] : List (Str × V)) f_xno fd_xno)
    (awi : PySem.W.findIn K (.ref CW) "__init__" = some (some (.ref f_wi)))
    (iwi : PySem.W.isFn K (.ref f_wi) = true)
    (kwi : PySem.W.keepIn K (.ref f_wi) = true)
    (F0wi : FunD K "__init__" "WaitingSet.__init__" (defArgs sWsInit) (defBody sWsInit) (defScope sWsInit) ([] : List V) ([] : List (Str × V)) f_wi fd_wi)
    (asi : PySem.W.findIn K (.ref CS) "__init__" = some (some (.ref f_si)))
    (isi : PySem.W.isFn K (.ref f_si) = true)
    (ksi : PySem.W.keepIn K (.ref f_si) = true)
    (F0si : FunD K "__init__" "System.__init__" (defArgs sSysInit) (defBody sSysInit) (defScope sSysInit) ([] : List V) ([("processes", V.int 4), ("numbers", V.int 8)] : List (Str × V)) f_si fd_si)
    (acon : PySem.W.findIn K (.ref CS) "__contains__" = some (some (.ref f_con)))
    (icon : PySem.W.isFn K (.ref f_con) = true)
    (kcon : PySem.W.keepIn K (.ref f_con) = true)
    (F0con : FunD K "__contains__" "System.__contains__" (defArgs sContains) (defBody sContains) (defScope sContains) ([] : List V) ([] : List (Str × V)) f_con fd_con)
    (atof : PySem.W.findIn K (.ref CS) "table_of" = some (some (.ref f_tof)))
    (itof : PySem.W.isFn K (.ref f_tof) = true)
    (ktof : PySem.W.keepIn K (.ref f_tof) = true)
    (F0tof : FunD K "table_of" "System.table_of" (defArgs sTableOf) (defBody sTableOf) (defScope sTableOf) ([] : List V) ([] : List (Str × V)) f_tof fd_tof)
    (afrn : PySem.W.findIn K (.ref CS) "free_number" = some (some (.ref f_frn)))
    (ifrn : PySem.W.isFn K (.ref f_frn) = true)
    (kfrn : PySem.W.keepIn K (.ref f_frn) = true)
    (F0frn : FunD K "free_number" "System.free_number" (defArgs sFreeNum) (defBody sFreeNum) (defScope sFreeNum) ([] : List V) ([] : List (Str × V)) f_frn fd_frn)
    (anth : PySem.W.findIn K (.ref CS) "new_thing" = some (some (.ref f_nth)))
    (inth : PySem.W.isFn K (.ref f_nth) = true)
    (knth : PySem.W.keepIn K (.ref f_nth) = true)
    (F0nth : FunD K "new_thing" "System.new_thing" (defArgs sNewThing) (defBody sNewThing) (defScope sNewThing) ([] : List V) ([] : List (Str × V)) f_nth fd_nth)
    (anso : PySem.W.findIn K (.ref CS) "new_source" = some (some (.ref f_nso)))
    (inso : PySem.W.isFn K (.ref f_nso) = true)
    (knso : PySem.W.keepIn K (.ref f_nso) = true)
    (F0nso : FunD K "new_source" "System.new_source" (defArgs sNewSource) (defBody sNewSource) (defScope sNewSource) ([] : List V) ([] : List (Str × V)) f_nso fd_nso)
    (anse : PySem.W.findIn K (.ref CS) "new_set" = some (some (.ref f_nse)))
    (inse : PySem.W.isFn K (.ref f_nse) = true)
    (knse : PySem.W.keepIn K (.ref f_nse) = true)
    (F0nse : FunD K "new_set" "System.new_set" (defArgs sNewSet) (defBody sNewSet) (defScope sNewSet) ([] : List V) ([] : List (Str × V)) f_nse fd_nse)
    (afrp : PySem.W.findIn K (.ref CS) "free_process" = some (some (.ref f_frp)))
    (ifrp : PySem.W.isFn K (.ref f_frp) = true)
    (kfrp : PySem.W.keepIn K (.ref f_frp) = true)
    (F0frp : FunD K "free_process" "System.free_process" (defArgs sFreeProc) (defBody sFreeProc) (defScope sFreeProc) ([] : List V) ([] : List (Str × V)) f_frp fd_frp)
    (afrk : PySem.W.findIn K (.ref CS) "fork" = some (some (.ref f_frk)))
    (ifrk : PySem.W.isFn K (.ref f_frk) = true)
    (kfrk : PySem.W.keepIn K (.ref f_frk) = true)
    (F0frk : FunD K "fork" "System.fork" (defArgs sFork) (defBody sFork) (defScope sFork) ([] : List V) ([] : List (Str × V)) f_frk fd_frk)
    (alen : PySem.W.findIn K (.ref CS) "__len__" = some (some (.ref f_len)))
    (ilen : PySem.W.isFn K (.ref f_len) = true)
    (klen : PySem.W.keepIn K (.ref f_len) = true)
    (F0len : FunD K "__len__" "System.__len__" (defArgs sLen) (defBody sLen) (defScope sLen) ([] : List V) ([] : List (Str × V)) f_len fd_len)
    (aali : PySem.W.findIn K (.ref CS) "alive" = some (some (.ref f_ali)))
    (iali : PySem.W.isFn K (.ref f_ali) = true)
    (kali : PySem.W.keepIn K (.ref f_ali) = true)
    (F0ali : FunD K "alive" "System.alive" (defArgs sAlive) (defBody sAlive) (defScope sAlive) ([] : List V) ([] : List (Str × V)) f_ali fd_ali)
    (alim : PySem.W.findIn K (.ref CS) "limits" = some (some (.ref p_lim)))
    (pglim : PySem.W.specialIn K (.ref p_lim) "__get__" = some (some (.builtin "property.__get__")))
    (ptlim : PySem.W.takesIn K (.ref p_lim) = some true)
    (prlim : ∃ rest, PySem.W.recIn K p_lim "property" = some (.ref f_lim :: rest))
    (klim : PySem.W.keepIn K (.ref f_lim) = true)
    (F0lim : FunD K "limits" "System.limits" (defArgs sLimits) (defBody sLimits) (defScope sLimits) ([] : List V) ([] : List (Str × V)) f_lim fd_lim)
    (anum : PySem.W.findIn K (.ref CS) "numbers" = some (some (.ref f_num)))
    (inum : PySem.W.isFn K (.ref f_num) = true)
    (knum : PySem.W.keepIn K (.ref f_num) = true)
    (F0num : FunD K "numbers" "System.numbers" (defArgs sNumbers) (defBody sNumbers) (defScope sNumbers) ([] : List V) ([] : List (Str × V)) f_num fd_num)
    (atng : PySem.W.findIn K (.ref CS) "things" = some (some (.ref f_tng)))
    (itng : PySem.W.isFn K (.ref f_tng) = true)
    (ktng : PySem.W.keepIn K (.ref f_tng) = true)
    (F0tng : FunD K "things" "System.things" (defArgs sThings) (defBody sThings) (defScope sThings) ([] : List V) ([] : List (Str × V)) f_tng fd_tng)
    (areg : PySem.W.findIn K (.ref CS) "registrations" = some (some (.ref f_reg)))
    (ireg : PySem.W.isFn K (.ref f_reg) = true)
    (kreg : PySem.W.keepIn K (.ref f_reg) = true)
    (F0reg : FunD K "registrations" "System.registrations" (defArgs sRegistrations) (defBody sRegistrations) (defScope sRegistrations) ([] : List V) ([] : List (Str × V)) f_reg fd_reg)
    (xtIBl : PySem.W.typeIn K (.ref f_xbl) = some (.type "function"))
    (xtIFu : PySem.W.typeIn K (.ref f_xfu) = some (.type "function"))
    (xtINo : PySem.W.typeIn K (.ref f_xno) = some (.type "function"))
    (z_len : PySem.W.nsIn K mainGlobals "len" = some none)
    (z_enumerate : PySem.W.nsIn K mainGlobals "enumerate" = some none)
    (z_int : PySem.W.nsIn K mainGlobals "int" = some none)
    (z_abs : PySem.W.nsIn K mainGlobals "abs" = some none)
    (z_isinstance : PySem.W.nsIn K mainGlobals "isinstance" = some none)
    (z_bool : PySem.W.nsIn K mainGlobals "bool" = some none)
    (z_list : PySem.W.nsIn K mainGlobals "list" = some none)
    (z_min : PySem.W.nsIn K mainGlobals "min" = some none)
    (z_max : PySem.W.nsIn K mainGlobals "max" = some none)
    (z_range : PySem.W.nsIn K mainGlobals "range" = some none)
    (z_sorted : PySem.W.nsIn K mainGlobals "sorted" = some none)
    (z_repr : PySem.W.nsIn K mainGlobals "repr" = some none)
    (z_ValueError : PySem.W.nsIn K mainGlobals "ValueError" = some none)
    (z_OverflowError : PySem.W.nsIn K mainGlobals "OverflowError" = some none)
    (gLP : PySem.W.nsIn K mainGlobals "LEAST_PROCESSES" = some (some (.int 2 tLP)))
    (gLN : PySem.W.nsIn K mainGlobals "LEAST_NUMBERS" = some (some (.int 3 tLN)))
    (gMP : PySem.W.findIn K (.ref CS) "MOST_PROCESSES" = some (some (.int 6 tMP)))
    (sMP : PySem.W.specialIn K (.int 6 tMP) "__get__" = some none)
    (gMN : PySem.W.findIn K (.ref CS) "MOST_NUMBERS" = some (some (.int 8 tMN)))
    (sMN : PySem.W.specialIn K (.int 8 tMN) "__get__" = some none)
    (cV6 : PySem.W.findCls K (.ref CS) (.type "type") "MOST_PROCESSES" = some (.val (.int 6 tV6)))
    (cV8 : PySem.W.findCls K (.ref CS) (.type "type") "MOST_NUMBERS" = some (.val (.int 8 tV8)))
    (crd : PySem.W.readsIn K CS (.type "type") = true)
    (cga : PySem.W.specialIn K (.ref CS) "__getattribute__" = some (some (.builtin "type.__getattribute__")))
    (xhdlaw : PySem.W.codeHdIn K c_law Pt = true)
    (xb3 : mainGlobals ≠ Pt) :
    ∃ fd : FuncData, (∀ (s : Shared) (u : Value), BindsTo s fd ⟨[u], []⟩ [("_law_script", u)]) ∧ (∀ base : Heap, K.In base → base.Ns mainGlobals mg → base.BuiltinsAt mg Pt → FnG P w K mg base CX0 8 fa fd ["_law_script"] (spLaw K Pt)) ∧
      ∀ (H : Hp) (a : Addr) (ns : List Int), ns.length ≤ 63 → SqL K H a (ns.map V.int) → H Pt = some (.tbl #[]) → spLaw K Pt [.ref a] H (fun v _ => v = .bl true) fun _ _ _ => False := by
  have e := hfa.symm.trans (PySem.W.mg_of X G alaw)
  cases e
  obtain ⟨oc_int, od_int, kV_int, dc_int, pm_int, an_int, cd_int, ct_int, sl_int, ef_int, lk_int, hc_int⟩ := (fun_of F0int).ex
  subst ef_int
  have Fint := fun_of (st := sIsInteger) F0int
  have bint := Fint.binds (ps := ["x"]) fun _ _ _ _ _ _ us hl => by
    obtain ⟨_, rfl⟩ := Ln1 hl
    rfl
  have mint := PySem.W.mg_of X G aint
  obtain ⟨oc_bet, od_bet, kV_bet, dc_bet, pm_bet, an_bet, cd_bet, ct_bet, sl_bet, ef_bet, lk_bet, hc_bet⟩ := (fun_of F0bet).ex
  subst ef_bet
  have Fbet := fun_of (st := sIsBetween) F0bet
  have bbet := Fbet.binds (ps := ["x", "least", "most"]) fun _ _ _ _ _ _ us hl => by
    obtain ⟨_, _, _, rfl⟩ := Ln3 hl
    rfl
  have mbet := PySem.W.mg_of X G abet
  obtain ⟨oc_bag, od_bag, kV_bag, dc_bag, pm_bag, an_bag, cd_bag, ct_bag, sl_bag, ef_bag, lk_bag, hc_bag⟩ := (fun_of F0bag).ex
  subst ef_bag
  have Fbag := fun_of (st := sBag) F0bag
  have bbag := Fbag.binds (ps := ["_law_script", "_law_at"]) fun _ _ _ _ _ _ us hl => by
    obtain ⟨_, _, rfl⟩ := Ln2 hl
    rfl
  have mbag := PySem.W.mg_of X G abag
  obtain ⟨oc_take, od_take, kV_take, dc_take, pm_take, an_take, cd_take, ct_take, sl_take, ef_take, lk_take, hc_take⟩ := (fun_of F0take).ex
  subst ef_take
  have Ftake := fun_of (st := sTake) F0take
  have btake := Ftake.binds (ps := ["_law_bag_here", "_law_many"]) fun _ _ _ _ _ _ us hl => by
    obtain ⟨_, _, rfl⟩ := Ln2 hl
    rfl
  have mtake := PySem.W.mg_of X G atake
  obtain ⟨oc_of, od_of, kV_of, dc_of, pm_of, an_of, cd_of, ct_of, sl_of, ef_of, lk_of, hc_of⟩ := (fun_of F0of).ex
  subst ef_of
  have Fof := fun_of (st := sOf) F0of
  have bof := Fof.binds (ps := ["_law_bag_here", "_law_some"]) fun _ _ _ _ _ _ us hl => by
    obtain ⟨_, _, rfl⟩ := Ln2 hl
    rfl
  have mof := PySem.W.mg_of X G aof
  obtain ⟨oc_obj, od_obj, kV_obj, dc_obj, pm_obj, an_obj, cd_obj, ct_obj, sl_obj, ef_obj, lk_obj, hc_obj⟩ := (fun_of F0obj).ex
  subst ef_obj
  have Fobj := fun_of (st := sObject) F0obj
  have bobj := Fobj.binds (ps := ["_law_bag_here"]) fun _ _ _ _ _ _ us hl => by
    obtain ⟨_, rfl⟩ := Ln1 hl
    rfl
  have mobj := PySem.W.mg_of X G aobj
  obtain ⟨oc_isf, od_isf, kV_isf, dc_isf, pm_isf, an_isf, cd_isf, ct_isf, sl_isf, ef_isf, lk_isf, hc_isf⟩ := (fun_of F0isf).ex
  subst ef_isf
  have Fisf := fun_of (st := sIsFrom) F0isf
  have bisf := Fisf.binds (ps := ["_law_thing", "_law_low", "_law_high"]) fun _ _ _ _ _ _ us hl => by
    obtain ⟨_, _, _, rfl⟩ := Ln3 hl
    rfl
  have misf := PySem.W.mg_of X G aisf
  obtain ⟨oc_ref, od_ref, kV_ref, dc_ref, pm_ref, an_ref, cd_ref, ct_ref, sl_ref, ef_ref, lk_ref, hc_ref⟩ := (fun_of F0ref).ex
  subst ef_ref
  have Fref := fun_of (st := sRefused) F0ref
  have bref := Fref.binds (ps := ["_law_many", "_law_size"]) fun _ _ _ _ _ _ us hl => by
    obtain ⟨_, _, rfl⟩ := Ln2 hl
    rfl
  have mref := PySem.W.mg_of X G aref
  obtain ⟨oc_fil, od_fil, kV_fil, dc_fil, pm_fil, an_fil, cd_fil, ct_fil, sl_fil, ef_fil, lk_fil, hc_fil⟩ := (fun_of F0fil).ex
  subst ef_fil
  have Ffil := fun_of (st := sFills) F0fil
  have bfil := Ffil.binds (ps := ["_law_many", "_law_size"]) fun _ _ _ _ _ _ us hl => by
    obtain ⟨_, _, rfl⟩ := Ln2 hl
    rfl
  have mfil := PySem.W.mg_of X G afil
  obtain ⟨oc_law, od_law, kV_law, dc_law, pm_law, an_law, cd_law, ct_law, sl_law, ef_law, lk_law, hc_law⟩ := (fun_of F0law).ex
  subst ef_law
  obtain rfl : cd_law = .ref c_law := by
    have e := hcdlaw
    unfold cdV at e
    rw [lk_law] at e
    exact Option.some.inj e
  have Flaw := fun_of (st := sLaw) F0law
  have blaw := Flaw.binds (ps := ["_law_script"]) fun _ _ _ _ _ _ us hl => by
    obtain ⟨_, rfl⟩ := Ln1 hl
    rfl
  have mlaw := PySem.W.mg_of X G alaw
  obtain ⟨oc_xbl, od_xbl, kV_xbl, dc_xbl, pm_xbl, an_xbl, cd_xbl, ct_xbl, sl_xbl, ef_xbl, lk_xbl, hc_xbl⟩ := (fun_of F0xbl).ex
  subst ef_xbl
  have Fxbl := fun_of (st := sBadLimitInit) F0xbl
  have bxbl := Fxbl.binds (ps := ["self", "limit"]) fun _ _ _ _ _ _ us hl => by
    obtain ⟨_, _, rfl⟩ := Ln2 hl
    rfl
  obtain ⟨oc_xfu, od_xfu, kV_xfu, dc_xfu, pm_xfu, an_xfu, cd_xfu, ct_xfu, sl_xfu, ef_xfu, lk_xfu, hc_xfu⟩ := (fun_of F0xfu).ex
  subst ef_xfu
  have Fxfu := fun_of (st := sFullInit) F0xfu
  have bxfu := Fxfu.binds (ps := ["self", "process"]) fun _ _ _ _ _ _ us hl => by
    obtain ⟨_, _, rfl⟩ := Ln2 hl
    rfl
  obtain ⟨oc_xno, od_xno, kV_xno, dc_xno, pm_xno, an_xno, cd_xno, ct_xno, sl_xno, ef_xno, lk_xno, hc_xno⟩ := (fun_of F0xno).ex
  subst ef_xno
  have Fxno := fun_of (st := sNoRoomInit) F0xno
  have bxno := Fxno.binds (ps := ["self"]) fun _ _ _ _ _ _ us hl => by
    obtain ⟨_, rfl⟩ := Ln1 hl
    rfl
  obtain ⟨oc_wi, od_wi, kV_wi, dc_wi, pm_wi, an_wi, cd_wi, ct_wi, sl_wi, ef_wi, lk_wi, hc_wi⟩ := (fun_of F0wi).ex
  subst ef_wi
  have Fwi := fun_of (st := sWsInit) F0wi
  have bwi := Fwi.binds (ps := ["self"]) fun _ _ _ _ _ _ us hl => by
    obtain ⟨_, rfl⟩ := Ln1 hl
    rfl
  have Fsi := F0si
  obtain ⟨oc_con, od_con, kV_con, dc_con, pm_con, an_con, cd_con, ct_con, sl_con, ef_con, lk_con, hc_con⟩ := (fun_of F0con).ex
  subst ef_con
  have Fcon := fun_of (st := sContains) F0con
  have bcon := Fcon.binds (ps := ["self", "x"]) fun _ _ _ _ _ _ us hl => by
    obtain ⟨_, _, rfl⟩ := Ln2 hl
    rfl
  obtain ⟨oc_tof, od_tof, kV_tof, dc_tof, pm_tof, an_tof, cd_tof, ct_tof, sl_tof, ef_tof, lk_tof, hc_tof⟩ := (fun_of F0tof).ex
  subst ef_tof
  have Ftof := fun_of (st := sTableOf) F0tof
  have btof := Ftof.binds (ps := ["self", "process"]) fun _ _ _ _ _ _ us hl => by
    obtain ⟨_, _, rfl⟩ := Ln2 hl
    rfl
  obtain ⟨oc_frn, od_frn, kV_frn, dc_frn, pm_frn, an_frn, cd_frn, ct_frn, sl_frn, ef_frn, lk_frn, hc_frn⟩ := (fun_of F0frn).ex
  subst ef_frn
  have Ffrn := fun_of (st := sFreeNum) F0frn
  have bfrn := Ffrn.binds (ps := ["self", "process"]) fun _ _ _ _ _ _ us hl => by
    obtain ⟨_, _, rfl⟩ := Ln2 hl
    rfl
  obtain ⟨oc_nth, od_nth, kV_nth, dc_nth, pm_nth, an_nth, cd_nth, ct_nth, sl_nth, ef_nth, lk_nth, hc_nth⟩ := (fun_of F0nth).ex
  subst ef_nth
  have Fnth := fun_of (st := sNewThing) F0nth
  have bnth := Fnth.binds (ps := ["self", "process"]) fun _ _ _ _ _ _ us hl => by
    obtain ⟨_, _, rfl⟩ := Ln2 hl
    rfl
  obtain ⟨oc_nso, od_nso, kV_nso, dc_nso, pm_nso, an_nso, cd_nso, ct_nso, sl_nso, ef_nso, lk_nso, hc_nso⟩ := (fun_of F0nso).ex
  subst ef_nso
  have Fnso := fun_of (st := sNewSource) F0nso
  have bnso := Fnso.binds (ps := ["self", "process"]) fun _ _ _ _ _ _ us hl => by
    obtain ⟨_, _, rfl⟩ := Ln2 hl
    rfl
  obtain ⟨oc_nse, od_nse, kV_nse, dc_nse, pm_nse, an_nse, cd_nse, ct_nse, sl_nse, ef_nse, lk_nse, hc_nse⟩ := (fun_of F0nse).ex
  subst ef_nse
  have Fnse := fun_of (st := sNewSet) F0nse
  have bnse := Fnse.binds (ps := ["self", "process"]) fun _ _ _ _ _ _ us hl => by
    obtain ⟨_, _, rfl⟩ := Ln2 hl
    rfl
  obtain ⟨oc_frp, od_frp, kV_frp, dc_frp, pm_frp, an_frp, cd_frp, ct_frp, sl_frp, ef_frp, lk_frp, hc_frp⟩ := (fun_of F0frp).ex
  subst ef_frp
  have Ffrp := fun_of (st := sFreeProc) F0frp
  have bfrp := Ffrp.binds (ps := ["self"]) fun _ _ _ _ _ _ us hl => by
    obtain ⟨_, rfl⟩ := Ln1 hl
    rfl
  obtain ⟨oc_frk, od_frk, kV_frk, dc_frk, pm_frk, an_frk, cd_frk, ct_frk, sl_frk, ef_frk, lk_frk, hc_frk⟩ := (fun_of F0frk).ex
  subst ef_frk
  have Ffrk := fun_of (st := sFork) F0frk
  have bfrk := Ffrk.binds (ps := ["self", "process"]) fun _ _ _ _ _ _ us hl => by
    obtain ⟨_, _, rfl⟩ := Ln2 hl
    rfl
  obtain ⟨oc_len, od_len, kV_len, dc_len, pm_len, an_len, cd_len, ct_len, sl_len, ef_len, lk_len, hc_len⟩ := (fun_of F0len).ex
  subst ef_len
  have Flen := fun_of (st := sLen) F0len
  have blen := Flen.binds (ps := ["self"]) fun _ _ _ _ _ _ us hl => by
    obtain ⟨_, rfl⟩ := Ln1 hl
    rfl
  obtain ⟨oc_ali, od_ali, kV_ali, dc_ali, pm_ali, an_ali, cd_ali, ct_ali, sl_ali, ef_ali, lk_ali, hc_ali⟩ := (fun_of F0ali).ex
  subst ef_ali
  have Fali := fun_of (st := sAlive) F0ali
  have bali := Fali.binds (ps := ["self"]) fun _ _ _ _ _ _ us hl => by
    obtain ⟨_, rfl⟩ := Ln1 hl
    rfl
  obtain ⟨oc_lim, od_lim, kV_lim, dc_lim, pm_lim, an_lim, cd_lim, ct_lim, sl_lim, ef_lim, lk_lim, hc_lim⟩ := (fun_of F0lim).ex
  subst ef_lim
  have Flim := fun_of (st := sLimits) F0lim
  have blim := Flim.binds (ps := ["self"]) fun _ _ _ _ _ _ us hl => by
    obtain ⟨_, rfl⟩ := Ln1 hl
    rfl
  obtain ⟨oc_num, od_num, kV_num, dc_num, pm_num, an_num, cd_num, ct_num, sl_num, ef_num, lk_num, hc_num⟩ := (fun_of F0num).ex
  subst ef_num
  have Fnum := fun_of (st := sNumbers) F0num
  have bnum := Fnum.binds (ps := ["self", "process"]) fun _ _ _ _ _ _ us hl => by
    obtain ⟨_, _, rfl⟩ := Ln2 hl
    rfl
  obtain ⟨oc_tng, od_tng, kV_tng, dc_tng, pm_tng, an_tng, cd_tng, ct_tng, sl_tng, ef_tng, lk_tng, hc_tng⟩ := (fun_of F0tng).ex
  subst ef_tng
  have Ftng := fun_of (st := sThings) F0tng
  have btng := Ftng.binds (ps := ["self"]) fun _ _ _ _ _ _ us hl => by
    obtain ⟨_, rfl⟩ := Ln1 hl
    rfl
  obtain ⟨oc_reg, od_reg, kV_reg, dc_reg, pm_reg, an_reg, cd_reg, ct_reg, sl_reg, ef_reg, lk_reg, hc_reg⟩ := (fun_of F0reg).ex
  subst ef_reg
  have Freg := fun_of (st := sRegistrations) F0reg
  have breg := Freg.binds (ps := ["self"]) fun _ _ _ _ _ _ us hl => by
    obtain ⟨_, rfl⟩ := Ln1 hl
    rfl
  obtain ⟨mvkbsi, kbsi⟩ := Fsi.kbinds0 (ps := ["self", "processes", "numbers"]) 1 ["processes", "numbers"] [] (fun us mv ws => us ++ ws) (by intro z; cases z) (fun q hq => absurd hq List.not_mem_nil) (fun a b c => a.append c) fun _ _ _ _ _ _ us mv ws hu hm hw => by
    obtain ⟨_, rfl⟩ := Ln1 hu
    obtain ⟨rfl⟩ := Ln0 hm
    obtain ⟨_, _, rfl⟩ := Ln2 hw
    exact rfl
  obtain ⟨mvkbP, kbP⟩ := Fsi.kbinds0 (ps := ["self", "processes", "numbers"]) 1 ["processes"] [("numbers", V.int 8)] (fun us mv ws => us ++ ws ++ mv) (by intro z; cases z) (fun q hq => by
    simp only [List.mem_cons, List.not_mem_nil, or_false] at hq
    rcases hq with rfl
    · simp) (fun a b c => (a.append c).append b) fun _ _ _ _ _ _ us mv ws hu hm hw => by
    obtain ⟨_, rfl⟩ := Ln1 hu
    obtain ⟨_, rfl⟩ := Ln1 hm
    obtain ⟨_, rfl⟩ := Ln1 hw
    exact ⟨_, _, _, _, _, _, rfl, rfl, rfl⟩
  obtain ⟨mvkbN, kbN⟩ := Fsi.kbinds0 (ps := ["self", "processes", "numbers"]) 1 ["numbers"] [("processes", V.int 4)] (fun us mv ws => us ++ mv ++ ws) (by intro z; cases z) (fun q hq => by
    simp only [List.mem_cons, List.not_mem_nil, or_false] at hq
    rcases hq with rfl
    · simp) (fun a b c => (a.append b).append c) fun _ _ _ _ _ _ us mv ws hu hm hw => by
    obtain ⟨_, rfl⟩ := Ln1 hu
    obtain ⟨_, rfl⟩ := Ln1 hm
    obtain ⟨_, rfl⟩ := Ln1 hw
    exact ⟨_, _, _, _, _, _, rfl, rfl, rfl⟩
  obtain ⟨mvkbJ, kbJ⟩ := Fsi.kbinds0 (ps := ["self", "processes", "numbers"]) 1 ["numbers", "processes"] [] (fun us mv ws => us ++ ws.reverse) (by intro z; cases z) (fun q hq => absurd hq List.not_mem_nil) (fun a b c => a.append c.reverse) fun _ _ _ _ _ _ us mv ws hu hm hw => by
    obtain ⟨_, rfl⟩ := Ln1 hu
    obtain ⟨rfl⟩ := Ln0 hm
    obtain ⟨_, _, rfl⟩ := Ln2 hw
    exact rfl
  obtain ⟨dssi, vsi, bsi⟩ := Fsi.binds0 (ps := ["self", "processes", "numbers"]) 1 (by intro z; cases z) rfl fun _ _ _ _ _ _ us ks hu hk => by
    obtain ⟨_, rfl⟩ := Ln1 hu
    obtain ⟨_, _, rfl⟩ := Ln2 hk
    exact ⟨_, _, _, _, _, _, rfl, rfl, ⟨_, _, _, _, _, _, rfl, rfl, rfl⟩⟩
  have DT : DrawTxt mg := ⟨(PySem.W.mg_none_of X G z_len), (PySem.W.mg_none_of X G z_enumerate), (PySem.W.mg_none_of X G z_int), (PySem.W.mg_none_of X G z_abs)⟩
  have CT : ChkTxt K mg := ⟨(PySem.W.mg_none_of X G z_isinstance), (PySem.W.mg_none_of X G z_int), (PySem.W.mg_none_of X G z_bool)⟩
  have YT : SysTxt mg := ⟨(PySem.W.mg_none_of X G z_enumerate), (PySem.W.mg_none_of X G z_list), (PySem.W.mg_none_of X G z_min)⟩
  have RT : RegTxt mg := ⟨(PySem.W.mg_none_of X G z_sorted), (PySem.W.mg_none_of X G z_list), (PySem.W.mg_none_of X G z_enumerate)⟩
  have FT : FillTx mg := ⟨(PySem.W.mg_none_of X G z_range), (PySem.W.mg_none_of X G z_list), (PySem.W.mg_none_of X G z_len)⟩
  have LX : LawTx mg := ⟨(PySem.W.mg_none_of X G z_range), (PySem.W.mg_none_of X G z_max), (PySem.W.mg_none_of X G z_min), (PySem.W.mg_none_of X G z_len), (PySem.W.mg_none_of X G z_repr)⟩
  have TS : ClsF K CS sysF := ⟨⟨pgS, hdS, poS, saS⟩, fun f hf => by
    simp only [sysF, List.mem_cons, List.not_mem_nil, or_false] at hf
    rcases hf with rfl | rfl | rfl | rfl | rfl | rfl
    · exact noS0
    · exact noS1
    · exact noS2
    · exact noS3
    · exact noS4
    · exact noS5⟩
  have TW : ClsF K CW wsF := ⟨⟨pgW, hdW, poW, saW⟩, fun f hf => by
    simp only [wsF, List.mem_cons, List.not_mem_nil, or_false] at hf
    rcases hf with rfl | rfl
    · exact noW0
    · exact noW1⟩
  have LT : LimTxt K mg CS := ⟨⟨tLP, PySem.W.mg_of X G gLP⟩, ⟨tLN, PySem.W.mg_of X G gLN⟩, ⟨_, gMP, ⟨_, rfl⟩, sMP, by decide⟩, ⟨_, gMN, ⟨_, rfl⟩, sMN, by decide⟩⟩
  have KS : Mk K CS f_si := ⟨mkS, asi, isi, kcS⟩
  have gmS := PySem.W.mg_of X G gCS
  have KW : Mk K CW f_wi := ⟨mkW, awi, iwi, kcW⟩
  have gmW := PySem.W.mg_of X G gCW
  have E1 : LimE K mg CBl f_xbl _ := { gC := PySem.W.mg_of X G gCBl, ox := ⟨⟨nmBl, qBl, NBl, bsBl, snBl, subBl, abBl, colBl, ddBl, maBl, mbBl, mcBl, mdBl, meBl, xLBl⟩, xsaBl, xeCBl, xtCBl, xkCBl⟩, noN := xnbBl0, iC := axbl, tI := xtIBl, bI := bxbl, te := xteBl, xf := ⟨xgaBl, xggBl, xeCBl, xhCBl⟩ }
  have E3 : FullE K mg CFu f_xfu _ := { gC := PySem.W.mg_of X G gCFu, ox := ⟨⟨nmFu, qFu, NFu, bsFu, snFu, subFu, abFu, colFu, ddFu, maFu, mbFu, mcFu, mdFu, meFu, xLFu⟩, xsaFu, xeCFu, xtCFu, xkCFu⟩, noN := xnbFu0, iC := axfu, tI := xtIFu, bI := bxfu, te := xteFu, xf := ⟨xgaFu, xggFu, xeCFu, xhCFu⟩ }
  have E2 : NoRoomE K mg CNo f_xno _ := { gC := PySem.W.mg_of X G gCNo, ox := ⟨⟨nmNo, qNo, NNo, bsNo, snNo, subNo, abNo, colNo, ddNo, maNo, mbNo, mcNo, mdNo, meNo, xLNo⟩, xsaNo, xeCNo, xtCNo, xkCNo⟩, iC := axno, tI := xtINo, bI := bxno, te := xteNo, xf := ⟨xgaNo, xggNo, xeCNo, xhCNo⟩ }
  have BT : BadTxt K mg CBl f_xbl _ := ⟨E1, ⟨xgaBl, xggBl, xeCBl, xhCBl, xC1Bl, xC2, xC3, xC4Bl⟩, xC5Bl, xkvBl, (PySem.W.mg_none_of X G z_ValueError), (PySem.W.mg_none_of X G z_isinstance)⟩
  have O2 : OvTxt K mg CNo := ⟨⟨xgaNo, xggNo, xeCNo, xhCNo, xC1No, xC2, xC3, xC4No⟩, xC5No, xkvNo, (PySem.W.mg_none_of X G z_OverflowError), (PySem.W.mg_none_of X G z_isinstance)⟩
  have O3 : OvTxt K mg CFu := ⟨⟨xgaFu, xggFu, xeCFu, xhCFu, xC1Fu, xC2, xC3, xC4Fu⟩, xC5Fu, xkvFu, (PySem.W.mg_none_of X G z_OverflowError), (PySem.W.mg_none_of X G z_isinstance)⟩
  have HL : PropOf K CS "limits" p_lim f_lim := ⟨alim, pglim, ptlim, prlim⟩
  have CRD : ClX.CRead K CS (.type "type") := ⟨crd, cga⟩
  refine ⟨PySem.W.fnOf "law" "law" (defArgs sLaw) (defBody sLaw) (defScope sLaw) .none kV_law dc_law pm_law an_law (.ref c_law) ct_law, fun s u => .of_eq rfl, fun base KB _ BM => ?_, fun H a ns hl hS hP => ⟨a, ns, rfl, hS, hl, hP, fun _ => rfl⟩⟩
  have Gint := okIsInteger (P := P) (w := w) (K := K) (mg := mg) (base := base) Fint CT
  have Gbet := okIsBetween (P := P) (w := w) (K := K) (mg := mg) (base := base) Fbet Gint kint mint bint
  have Gbag := okBag (P := P) (w := w) (K := K) (mg := mg) (base := base) Fbag DT
  have Gtake := okTake (P := P) (w := w) (K := K) (mg := mg) (base := base) Ftake DT
  have Gof := okOf (P := P) (w := w) (K := K) (mg := mg) (base := base) Fof DT Ftake mtake btake
  have Gxbl := okBadLimitInit (P := P) (w := w) (K := K) (mg := mg) (base := base) Fxbl (PySem.W.mg_none_of X G z_ValueError) xvVBl E1
  have Gxfu := okFullInit (P := P) (w := w) (K := K) (mg := mg) (base := base) Fxfu (PySem.W.mg_none_of X G z_OverflowError) xvVFu E3
  have Gxno := okNoRoomInit (P := P) (w := w) (K := K) (mg := mg) (base := base) Fxno (PySem.W.mg_none_of X G z_OverflowError) xvVNo E2
  have Gwi := okWsInit (P := P) (w := w) (K := K) (mg := mg) (base := base) Fwi TW
  have Gsi := okSysInit (P := P) (w := w) (K := K) (mg := mg) (base := base) (C := ⟨CS, CW⟩) Fsi TS LT ⟨Gbet, kbet, mbet, bbet⟩
  have GsiX := okSysInitX (P := P) (w := w) (K := K) (mg := mg) (base := base) (C := ⟨CS, CW⟩) Fsi TS LT E1 Gxbl ⟨Gbet, kbet, mbet, bbet⟩
  have Gcon := okContains (P := P) (w := w) (K := K) (mg := mg) (base := base) (C := ⟨CS, CW⟩) Fcon TS ⟨Gint, kint, mint, bint⟩
  have Gtof := okTableOf (P := P) (w := w) (K := K) (mg := mg) (base := base) (C := ⟨CS, CW⟩) Ftof TS ⟨Gcon, ⟨acon, icon, kcon⟩, bcon⟩
  have Gfrn := okFreeNum (P := P) (w := w) (K := K) (mg := mg) (base := base) (C := ⟨CS, CW⟩) Ffrn YT TS E3 Gxfu ⟨Gtof, ⟨atof, itof, ktof⟩, btof⟩
  have Gnth := okNewThing (P := P) (w := w) (K := K) (mg := mg) (base := base) (C := ⟨CS, CW⟩) Fnth TS ⟨Gfrn, ⟨afrn, ifrn, kfrn⟩, bfrn⟩
  have Gnso := okNewSource (P := P) (w := w) (K := K) (mg := mg) (base := base) (C := ⟨CS, CW⟩) Fnso TS ⟨Gnth, ⟨anth, inth, knth⟩, bnth⟩
  have Gnse := okNewSet (P := P) (w := w) (K := K) (mg := mg) (base := base) (C := ⟨CS, CW⟩) Fnse TS ⟨Gnth, ⟨anth, inth, knth⟩, bnth⟩ gmW KW Gwi bwi
  have Gfrp := okFreeProc (P := P) (w := w) (K := K) (mg := mg) (base := base) (C := ⟨CS, CW⟩) Ffrp (PySem.W.mg_none_of X G z_range) TS
  have Gfrk := okFork (P := P) (w := w) (K := K) (mg := mg) (base := base) (C := ⟨CS, CW⟩) Ffrk YT (PySem.W.mg_none_of X G z_list) TS E2 Gxno ⟨Gtof, ⟨atof, itof, ktof⟩, btof⟩ ⟨Gfrp, ⟨afrp, ifrp, kfrp⟩, bfrp⟩
  have Glen := okLen (P := P) (w := w) (K := K) (mg := mg) (base := base) (C := ⟨CS, CW⟩) Flen (PySem.W.mg_none_of X G z_len) TS
  have Gali := okAlive (P := P) (w := w) (K := K) (mg := mg) (base := base) (C := ⟨CS, CW⟩) Fali RT TS
  have Glim := okLimits (P := P) (w := w) (K := K) (mg := mg) (base := base) (C := ⟨CS, CW⟩) Flim TS
  have Gnum := okNumbersE (P := P) (w := w) (K := K) (mg := mg) (base := base) (C := ⟨CS, CW⟩) Fnum YT TS ⟨Gtof, ⟨atof, itof, ktof⟩, btof⟩
  have Gtng := okThings (P := P) (w := w) (K := K) (mg := mg) (base := base) (C := ⟨CS, CW⟩) Ftng RT TS
  have Greg := okRegsE (P := P) (w := w) (K := K) (mg := mg) (base := base) (C := ⟨CS, CW⟩) Freg TS ⟨Gtng, ⟨atng, itng, ktng⟩, btng⟩
  have Gobj := okObject (P := P) (w := w) (K := K) (mg := mg) (base := base) Fobj ⟨Gof, kof, mof, bof⟩
  have Gisf := okIsFrom (P := P) (w := w) (K := K) (mg := mg) (base := base) Fisf CT
  have Gref := okRefused (P := P) (w := w) (K := K) (mg := mg) (base := base) (C := ⟨CS, CW⟩) Fref BT gmS KS Gsi GsiX kbsi
  have Gfil := okFills (P := P) (w := w) (K := K) (mg := mg) (base := base) (C := ⟨CS, CW⟩) Ffil FT TS gmS KS Gsi kbJ HL Glim blim ⟨Gali, ⟨aali, iali, kali⟩, bali⟩ ⟨Gnum, ⟨anum, inum, knum⟩, bnum⟩ ⟨Greg, ⟨areg, ireg, kreg⟩, breg⟩ ⟨Gfrk, ⟨afrk, ifrk, kfrk⟩, bfrk⟩ ⟨Gnso, ⟨anso, inso, knso⟩, bnso⟩ ⟨Gnse, ⟨anse, inse, knse⟩, bnse⟩ ⟨Glen, ⟨alen, ilen, klen⟩, blen⟩ E2 O2 E3 O3
  exact okLaw (C := ⟨CS, CW⟩) Flaw LX TS ⟨Gbag, kbag, mbag, bbag⟩ ⟨Gtake, ktake, mtake, btake⟩ ⟨Gobj, kobj, mobj, bobj⟩ ⟨Gisf, kisf, misf, bisf⟩ ⟨Gref, kref, mref, bref⟩ ⟨Gfil, kfil, mfil, bfil⟩ gmS KS Gsi bsi vsi kbP kbN HL Glim blim CRD ⟨cV6, ⟨_, rfl⟩⟩ ⟨cV8, ⟨_, rfl⟩⟩
def ck0 : List Ck := [fun K => decide (PySem.W.nsIn K mainGlobals "System" = some (some (.ref (He.ga K "System")))),
  fun K => PySem.W.plainGet K (He.ga K "System") Str.empty,
  fun K => PySem.W.hasDictIn K (He.ga K "System"),
  fun K => PySem.W.plainOver K (He.ga K "System"),
  fun K => decide (PySem.W.findIn K (.ref (He.ga K "System")) "__setattr__" = some (some (.builtin "object.__setattr__"))),
  fun K => PySem.W.makesIn K (He.ga K "System"),
  fun K => PySem.W.keepIn K (.ref (He.ga K "System")),
  fun K => decide (PySem.W.findIn K (.ref (He.ga K "System")) "process_limit" = some none),
  fun K => decide (PySem.W.findIn K (.ref (He.ga K "System")) "number_limit" = some none),
  fun K => decide (PySem.W.findIn K (.ref (He.ga K "System")) "tables" = some none),
  fun K => decide (PySem.W.findIn K (.ref (He.ga K "System")) "sources" = some none),
  fun K => decide (PySem.W.findIn K (.ref (He.ga K "System")) "sets" = some none),
  fun K => decide (PySem.W.findIn K (.ref (He.ga K "System")) "next_thing" = some none),
  fun K => decide (PySem.W.nsIn K mainGlobals "WaitingSet" = some (some (.ref (He.ga K "WaitingSet")))),
  fun K => PySem.W.plainGet K (He.ga K "WaitingSet") Str.empty,
  fun K => PySem.W.hasDictIn K (He.ga K "WaitingSet"),
  fun K => PySem.W.plainOver K (He.ga K "WaitingSet"),
  fun K => decide (PySem.W.findIn K (.ref (He.ga K "WaitingSet")) "__setattr__" = some (some (.builtin "object.__setattr__"))),
  fun K => PySem.W.makesIn K (He.ga K "WaitingSet"),
  fun K => PySem.W.keepIn K (.ref (He.ga K "WaitingSet")),
  fun K => decide (PySem.W.findIn K (.ref (He.ga K "WaitingSet")) "entries" = some none),
  fun K => decide (PySem.W.findIn K (.ref (He.ga K "WaitingSet")) "queue" = some none),
  fun K => decide (PySem.W.nsIn K mainGlobals "BadLimit" = some (some (.ref (He.ga K "BadLimit")))),
  fun K => excB K (He.ga K "BadLimit") [.type "ValueError", .type "Exception", .type "BaseException", .type "object"] "ValueError.__new__",
  fun K => decide (PySem.W.findIn K (.ref (He.ga K "BadLimit")) "__setattr__" = some (some (.builtin "object.__setattr__"))),
  fun K => decide (PySem.W.findIn K (.ref (He.ga K "BadLimit")) "__getattribute__" = some (some (.builtin "BaseException.__getattribute__"))),
  fun K => decide (PySem.W.findIn K (.ref (He.ga K "BadLimit")) "__getattr__" = some none),
  fun K => decide (PySem.W.findIn K (.ref (He.ga K "BadLimit")) "limit" = some none),
  fun K => clsB (PySem.W.findCls K (.type "ValueError") (.type "type") "__init__") "ValueError.__init__",
  fun K => PySem.W.keepIn K (.ref (He.ga K "BadLimit"))]
def ck1 : List Ck := [fun K => decide (PySem.W.subIn K (.ref (He.ga K "BadLimit")) (.type "BaseException") = some true),
  fun K => decide (PySem.W.typeIn K (.ref (He.ga K "BadLimit")) = some (.type "type")),
  fun K => PySem.W.hasDictIn K (He.ga K "BadLimit"),
  fun K => decide (PySem.W.exmOne K (.ref (He.ga K "BadLimit")) (.ref (He.ga K "BadLimit")) = some true),
  fun K => decide (PySem.W.findIn K (.ref (He.ga K "BadLimit")) "__class__" = some (some (.builtin "object.__class__"))),
  fun K => decide (PySem.W.mroIn K (He.ga K "BadLimit") (.type "object") = some true),
  fun K => (PySem.W.clsIn K (He.ga K "BadLimit")).isSome,
  fun K => decide (PySem.W.kitOne K (.ref (He.ga K "BadLimit")) (.type "ValueError") = some true),
  fun K => decide (PySem.W.specialIn K (.builtin "object.__class__") "__get__" = some (some (.builtin "getset_descriptor.__get__"))),
  fun K => decide (PySem.W.takesIn K (.builtin "object.__class__") = some true),
  fun K => decide (PySem.W.nsIn K mainGlobals "Full" = some (some (.ref (He.ga K "Full")))),
  fun K => excB K (He.ga K "Full") [.type "OverflowError", .type "ArithmeticError", .type "Exception", .type "BaseException", .type "object"] "OverflowError.__new__",
  fun K => decide (PySem.W.findIn K (.ref (He.ga K "Full")) "__setattr__" = some (some (.builtin "object.__setattr__"))),
  fun K => decide (PySem.W.findIn K (.ref (He.ga K "Full")) "__getattribute__" = some (some (.builtin "BaseException.__getattribute__"))),
  fun K => decide (PySem.W.findIn K (.ref (He.ga K "Full")) "__getattr__" = some none),
  fun K => decide (PySem.W.findIn K (.ref (He.ga K "Full")) "process" = some none),
  fun K => clsB (PySem.W.findCls K (.type "OverflowError") (.type "type") "__init__") "OverflowError.__init__",
  fun K => PySem.W.keepIn K (.ref (He.ga K "Full")),
  fun K => decide (PySem.W.subIn K (.ref (He.ga K "Full")) (.type "BaseException") = some true),
  fun K => decide (PySem.W.typeIn K (.ref (He.ga K "Full")) = some (.type "type")),
  fun K => PySem.W.hasDictIn K (He.ga K "Full"),
  fun K => decide (PySem.W.exmOne K (.ref (He.ga K "Full")) (.ref (He.ga K "Full")) = some true),
  fun K => decide (PySem.W.findIn K (.ref (He.ga K "Full")) "__class__" = some (some (.builtin "object.__class__"))),
  fun K => decide (PySem.W.mroIn K (He.ga K "Full") (.type "object") = some true),
  fun K => (PySem.W.clsIn K (He.ga K "Full")).isSome,
  fun K => decide (PySem.W.kitOne K (.ref (He.ga K "Full")) (.type "OverflowError") = some true),
  fun K => decide (PySem.W.nsIn K mainGlobals "NoRoom" = some (some (.ref (He.ga K "NoRoom")))),
  fun K => excB K (He.ga K "NoRoom") [.type "OverflowError", .type "ArithmeticError", .type "Exception", .type "BaseException", .type "object"] "OverflowError.__new__",
  fun K => decide (PySem.W.findIn K (.ref (He.ga K "NoRoom")) "__setattr__" = some (some (.builtin "object.__setattr__"))),
  fun K => decide (PySem.W.findIn K (.ref (He.ga K "NoRoom")) "__getattribute__" = some (some (.builtin "BaseException.__getattribute__")))]
def ck2 : List Ck := [fun K => decide (PySem.W.findIn K (.ref (He.ga K "NoRoom")) "__getattr__" = some none),
  fun K => clsB (PySem.W.findCls K (.type "OverflowError") (.type "type") "__init__") "OverflowError.__init__",
  fun K => PySem.W.keepIn K (.ref (He.ga K "NoRoom")),
  fun K => decide (PySem.W.subIn K (.ref (He.ga K "NoRoom")) (.type "BaseException") = some true),
  fun K => decide (PySem.W.typeIn K (.ref (He.ga K "NoRoom")) = some (.type "type")),
  fun K => PySem.W.hasDictIn K (He.ga K "NoRoom"),
  fun K => decide (PySem.W.exmOne K (.ref (He.ga K "NoRoom")) (.ref (He.ga K "NoRoom")) = some true),
  fun K => decide (PySem.W.findIn K (.ref (He.ga K "NoRoom")) "__class__" = some (some (.builtin "object.__class__"))),
  fun K => decide (PySem.W.mroIn K (He.ga K "NoRoom") (.type "object") = some true),
  fun K => (PySem.W.clsIn K (He.ga K "NoRoom")).isSome,
  fun K => decide (PySem.W.kitOne K (.ref (He.ga K "NoRoom")) (.type "OverflowError") = some true),
  fun K => decide (PySem.W.nsIn K mainGlobals "is_integer" = some (some (.ref (He.ga K "is_integer")))),
  fun K => PySem.W.keepIn K (.ref (He.ga K "is_integer")),
  fun K => decide (PySem.W.nsIn K mainGlobals "is_between" = some (some (.ref (He.ga K "is_between")))),
  fun K => PySem.W.keepIn K (.ref (He.ga K "is_between")),
  fun K => decide (PySem.W.nsIn K mainGlobals "_law_bag" = some (some (.ref (He.ga K "_law_bag")))),
  fun K => PySem.W.keepIn K (.ref (He.ga K "_law_bag")),
  fun K => decide (PySem.W.nsIn K mainGlobals "_law_take" = some (some (.ref (He.ga K "_law_take")))),
  fun K => PySem.W.keepIn K (.ref (He.ga K "_law_take")),
  fun K => decide (PySem.W.nsIn K mainGlobals "_law_of" = some (some (.ref (He.ga K "_law_of")))),
  fun K => PySem.W.keepIn K (.ref (He.ga K "_law_of")),
  fun K => decide (PySem.W.nsIn K mainGlobals "_law_object" = some (some (.ref (He.ga K "_law_object")))),
  fun K => PySem.W.keepIn K (.ref (He.ga K "_law_object")),
  fun K => decide (PySem.W.nsIn K mainGlobals "_law_is_from" = some (some (.ref (He.ga K "_law_is_from")))),
  fun K => PySem.W.keepIn K (.ref (He.ga K "_law_is_from")),
  fun K => decide (PySem.W.nsIn K mainGlobals "_law_refused" = some (some (.ref (He.ga K "_law_refused")))),
  fun K => PySem.W.keepIn K (.ref (He.ga K "_law_refused")),
  fun K => decide (PySem.W.nsIn K mainGlobals "_law_fills" = some (some (.ref (He.ga K "_law_fills")))),
  fun K => PySem.W.keepIn K (.ref (He.ga K "_law_fills")),
  fun K => decide (PySem.W.nsIn K mainGlobals "law" = some (some (.ref (He.ga K "law"))))]
def ck3 : List Ck := [fun K => PySem.W.keepIn K (.ref (He.ga K "law")),
  fun K => decide (cdV K (He.ga K "law") = some (.ref (cdA K (He.ga K "law")))),
  fun K => decide (PySem.W.findIn K (.ref (He.ga K "BadLimit")) "__init__" = some (some (.ref (He.ma K (He.ga K "BadLimit") "__init__")))),
  fun K => PySem.W.isFn K (.ref (He.ma K (He.ga K "BadLimit") "__init__")),
  fun K => PySem.W.keepIn K (.ref (He.ma K (He.ga K "BadLimit") "__init__")),
  fun K => decide (PySem.W.findIn K (.ref (He.ga K "Full")) "__init__" = some (some (.ref (He.ma K (He.ga K "Full") "__init__")))),
  fun K => PySem.W.isFn K (.ref (He.ma K (He.ga K "Full") "__init__")),
  fun K => PySem.W.keepIn K (.ref (He.ma K (He.ga K "Full") "__init__")),
  fun K => decide (PySem.W.findIn K (.ref (He.ga K "NoRoom")) "__init__" = some (some (.ref (He.ma K (He.ga K "NoRoom") "__init__")))),
  fun K => PySem.W.isFn K (.ref (He.ma K (He.ga K "NoRoom") "__init__")),
  fun K => PySem.W.keepIn K (.ref (He.ma K (He.ga K "NoRoom") "__init__")),
  fun K => decide (PySem.W.findIn K (.ref (He.ga K "WaitingSet")) "__init__" = some (some (.ref (He.ma K (He.ga K "WaitingSet") "__init__")))),
  fun K => PySem.W.isFn K (.ref (He.ma K (He.ga K "WaitingSet") "__init__")),
  fun K => PySem.W.keepIn K (.ref (He.ma K (He.ga K "WaitingSet") "__init__")),
  fun K => decide (PySem.W.findIn K (.ref (He.ga K "System")) "__init__" = some (some (.ref (He.ma K (He.ga K "System") "__init__")))),
  fun K => PySem.W.isFn K (.ref (He.ma K (He.ga K "System") "__init__")),
  fun K => PySem.W.keepIn K (.ref (He.ma K (He.ga K "System") "__init__")),
  fun K => decide (PySem.W.findIn K (.ref (He.ga K "System")) "__contains__" = some (some (.ref (He.ma K (He.ga K "System") "__contains__")))),
  fun K => PySem.W.isFn K (.ref (He.ma K (He.ga K "System") "__contains__")),
  fun K => PySem.W.keepIn K (.ref (He.ma K (He.ga K "System") "__contains__")),
  fun K => decide (PySem.W.findIn K (.ref (He.ga K "System")) "table_of" = some (some (.ref (He.ma K (He.ga K "System") "table_of")))),
  fun K => PySem.W.isFn K (.ref (He.ma K (He.ga K "System") "table_of")),
  fun K => PySem.W.keepIn K (.ref (He.ma K (He.ga K "System") "table_of")),
  fun K => decide (PySem.W.findIn K (.ref (He.ga K "System")) "free_number" = some (some (.ref (He.ma K (He.ga K "System") "free_number")))),
  fun K => PySem.W.isFn K (.ref (He.ma K (He.ga K "System") "free_number")),
  fun K => PySem.W.keepIn K (.ref (He.ma K (He.ga K "System") "free_number")),
  fun K => decide (PySem.W.findIn K (.ref (He.ga K "System")) "new_thing" = some (some (.ref (He.ma K (He.ga K "System") "new_thing")))),
  fun K => PySem.W.isFn K (.ref (He.ma K (He.ga K "System") "new_thing")),
  fun K => PySem.W.keepIn K (.ref (He.ma K (He.ga K "System") "new_thing")),
  fun K => decide (PySem.W.findIn K (.ref (He.ga K "System")) "new_source" = some (some (.ref (He.ma K (He.ga K "System") "new_source"))))]
def ck4 : List Ck := [fun K => PySem.W.isFn K (.ref (He.ma K (He.ga K "System") "new_source")),
  fun K => PySem.W.keepIn K (.ref (He.ma K (He.ga K "System") "new_source")),
  fun K => decide (PySem.W.findIn K (.ref (He.ga K "System")) "new_set" = some (some (.ref (He.ma K (He.ga K "System") "new_set")))),
  fun K => PySem.W.isFn K (.ref (He.ma K (He.ga K "System") "new_set")),
  fun K => PySem.W.keepIn K (.ref (He.ma K (He.ga K "System") "new_set")),
  fun K => decide (PySem.W.findIn K (.ref (He.ga K "System")) "free_process" = some (some (.ref (He.ma K (He.ga K "System") "free_process")))),
  fun K => PySem.W.isFn K (.ref (He.ma K (He.ga K "System") "free_process")),
  fun K => PySem.W.keepIn K (.ref (He.ma K (He.ga K "System") "free_process")),
  fun K => decide (PySem.W.findIn K (.ref (He.ga K "System")) "fork" = some (some (.ref (He.ma K (He.ga K "System") "fork")))),
  fun K => PySem.W.isFn K (.ref (He.ma K (He.ga K "System") "fork")),
  fun K => PySem.W.keepIn K (.ref (He.ma K (He.ga K "System") "fork")),
  fun K => decide (PySem.W.findIn K (.ref (He.ga K "System")) "__len__" = some (some (.ref (He.ma K (He.ga K "System") "__len__")))),
  fun K => PySem.W.isFn K (.ref (He.ma K (He.ga K "System") "__len__")),
  fun K => PySem.W.keepIn K (.ref (He.ma K (He.ga K "System") "__len__")),
  fun K => decide (PySem.W.findIn K (.ref (He.ga K "System")) "alive" = some (some (.ref (He.ma K (He.ga K "System") "alive")))),
  fun K => PySem.W.isFn K (.ref (He.ma K (He.ga K "System") "alive")),
  fun K => PySem.W.keepIn K (.ref (He.ma K (He.ga K "System") "alive")),
  fun K => decide (PySem.W.findIn K (.ref (He.ga K "System")) "limits" = some (some (.ref (He.ma K (He.ga K "System") "limits")))),
  fun K => decide (PySem.W.specialIn K (.ref (He.ma K (He.ga K "System") "limits")) "__get__" = some (some (.builtin "property.__get__"))),
  fun K => decide (PySem.W.takesIn K (.ref (He.ma K (He.ga K "System") "limits")) = some true),
  fun K => gtB K (He.ma K (He.ga K "System") "limits"),
  fun K => PySem.W.keepIn K (.ref (gtA K (He.ma K (He.ga K "System") "limits"))),
  fun K => decide (PySem.W.findIn K (.ref (He.ga K "System")) "numbers" = some (some (.ref (He.ma K (He.ga K "System") "numbers")))),
  fun K => PySem.W.isFn K (.ref (He.ma K (He.ga K "System") "numbers")),
  fun K => PySem.W.keepIn K (.ref (He.ma K (He.ga K "System") "numbers")),
  fun K => decide (PySem.W.findIn K (.ref (He.ga K "System")) "things" = some (some (.ref (He.ma K (He.ga K "System") "things")))),
  fun K => PySem.W.isFn K (.ref (He.ma K (He.ga K "System") "things")),
  fun K => PySem.W.keepIn K (.ref (He.ma K (He.ga K "System") "things")),
  fun K => decide (PySem.W.findIn K (.ref (He.ga K "System")) "registrations" = some (some (.ref (He.ma K (He.ga K "System") "registrations")))),
  fun K => PySem.W.isFn K (.ref (He.ma K (He.ga K "System") "registrations"))]
def ck5 : List Ck := [fun K => PySem.W.keepIn K (.ref (He.ma K (He.ga K "System") "registrations")),
  fun K => decide (PySem.W.typeIn K (.ref (He.ma K (He.ga K "BadLimit") "__init__")) = some (.type "function")),
  fun K => decide (PySem.W.typeIn K (.ref (He.ma K (He.ga K "Full") "__init__")) = some (.type "function")),
  fun K => decide (PySem.W.typeIn K (.ref (He.ma K (He.ga K "NoRoom") "__init__")) = some (.type "function")),
  fun K => decide (PySem.W.nsIn K mainGlobals "len" = some none),
  fun K => decide (PySem.W.nsIn K mainGlobals "enumerate" = some none),
  fun K => decide (PySem.W.nsIn K mainGlobals "int" = some none),
  fun K => decide (PySem.W.nsIn K mainGlobals "abs" = some none),
  fun K => decide (PySem.W.nsIn K mainGlobals "isinstance" = some none),
  fun K => decide (PySem.W.nsIn K mainGlobals "bool" = some none),
  fun K => decide (PySem.W.nsIn K mainGlobals "list" = some none),
  fun K => decide (PySem.W.nsIn K mainGlobals "min" = some none),
  fun K => decide (PySem.W.nsIn K mainGlobals "max" = some none),
  fun K => decide (PySem.W.nsIn K mainGlobals "range" = some none),
  fun K => decide (PySem.W.nsIn K mainGlobals "sorted" = some none),
  fun K => decide (PySem.W.nsIn K mainGlobals "repr" = some none),
  fun K => decide (PySem.W.nsIn K mainGlobals "ValueError" = some none),
  fun K => decide (PySem.W.nsIn K mainGlobals "OverflowError" = some none),
  fun K => intB (PySem.W.nsIn K mainGlobals "LEAST_PROCESSES") 2,
  fun K => intB (PySem.W.nsIn K mainGlobals "LEAST_NUMBERS") 3,
  fun K => atB K (PySem.W.findIn K (.ref (He.ga K "System")) "MOST_PROCESSES") 6,
  fun K => atB K (PySem.W.findIn K (.ref (He.ga K "System")) "MOST_NUMBERS") 8,
  fun K => cvB (PySem.W.findCls K (.ref (He.ga K "System")) (.type "type") "MOST_PROCESSES") 6,
  fun K => cvB (PySem.W.findCls K (.ref (He.ga K "System")) (.type "type") "MOST_NUMBERS") 8,
  fun K => PySem.W.readsIn K (He.ga K "System") (.type "type"),
  fun K => decide (PySem.W.specialIn K (.ref (He.ga K "System")) "__getattribute__" = some (some (.builtin "type.__getattribute__"))),
  fun K => PySem.W.codeHdIn K (cdA K (He.ga K "law")) (ptA K (He.ga K "law")),
  fun K => decide (mainGlobals ≠ (ptA K (He.ga K "law"))),
  fun K => (K.lookup (ptA K (He.ga K "law"))).isNone]
def ckL : List Ck := ck0 ++ (ck1 ++ (ck2 ++ (ck3 ++ (ck4 ++ (ck5)))))
def fn0 : List He.DefD := [⟨("is_integer", none), "is_integer", "is_integer", defArgs sIsInteger, defBody sIsInteger, defScope sIsInteger, [], []⟩,
  ⟨("is_between", none), "is_between", "is_between", defArgs sIsBetween, defBody sIsBetween, defScope sIsBetween, [], []⟩,
  ⟨("_law_bag", none), "_law_bag", "_law_bag", defArgs sBag, defBody sBag, defScope sBag, [], []⟩,
  ⟨("_law_take", none), "_law_take", "_law_take", defArgs sTake, defBody sTake, defScope sTake, [], []⟩,
  ⟨("_law_of", none), "_law_of", "_law_of", defArgs sOf, defBody sOf, defScope sOf, [], []⟩,
  ⟨("_law_object", none), "_law_object", "_law_object", defArgs sObject, defBody sObject, defScope sObject, [], []⟩,
  ⟨("_law_is_from", none), "_law_is_from", "_law_is_from", defArgs sIsFrom, defBody sIsFrom, defScope sIsFrom, [], []⟩,
  ⟨("_law_refused", none), "_law_refused", "_law_refused", defArgs sRefused, defBody sRefused, defScope sRefused, [], []⟩,
  ⟨("_law_fills", none), "_law_fills", "_law_fills", defArgs sFills, defBody sFills, defScope sFills, [], []⟩,
  ⟨("law", none), "law", "law", defArgs sLaw, defBody sLaw, defScope sLaw, [], []⟩,
  ⟨("BadLimit", some "__init__"), "__init__", "BadLimit.__init__", defArgs sBadLimitInit, defBody sBadLimitInit, defScope sBadLimitInit, [], []⟩,
  ⟨("Full", some "__init__"), "__init__", "Full.__init__", defArgs sFullInit, defBody sFullInit, defScope sFullInit, [], []⟩,
  ⟨("NoRoom", some "__init__"), "__init__", "NoRoom.__init__", defArgs sNoRoomInit, defBody sNoRoomInit, defScope sNoRoomInit, [], []⟩,
  ⟨("WaitingSet", some "__init__"), "__init__", "WaitingSet.__init__", defArgs sWsInit, defBody sWsInit, defScope sWsInit, [], []⟩,
  ⟨("System", some "__init__"), "__init__", "System.__init__", defArgs sSysInit, defBody sSysInit, defScope sSysInit, [], [("processes", .int 4), ("numbers", .int 8)]⟩,
  ⟨("System", some "__contains__"), "__contains__", "System.__contains__", defArgs sContains, defBody sContains, defScope sContains, [], []⟩,
  ⟨("System", some "table_of"), "table_of", "System.table_of", defArgs sTableOf, defBody sTableOf, defScope sTableOf, [], []⟩,
  ⟨("System", some "free_number"), "free_number", "System.free_number", defArgs sFreeNum, defBody sFreeNum, defScope sFreeNum, [], []⟩,
  ⟨("System", some "new_thing"), "new_thing", "System.new_thing", defArgs sNewThing, defBody sNewThing, defScope sNewThing, [], []⟩,
  ⟨("System", some "new_source"), "new_source", "System.new_source", defArgs sNewSource, defBody sNewSource, defScope sNewSource, [], []⟩,
  ⟨("System", some "new_set"), "new_set", "System.new_set", defArgs sNewSet, defBody sNewSet, defScope sNewSet, [], []⟩,
  ⟨("System", some "free_process"), "free_process", "System.free_process", defArgs sFreeProc, defBody sFreeProc, defScope sFreeProc, [], []⟩,
  ⟨("System", some "fork"), "fork", "System.fork", defArgs sFork, defBody sFork, defScope sFork, [], []⟩,
  ⟨("System", some "__len__"), "__len__", "System.__len__", defArgs sLen, defBody sLen, defScope sLen, [], []⟩,
  ⟨("System", some "alive"), "alive", "System.alive", defArgs sAlive, defBody sAlive, defScope sAlive, [], []⟩,
  ⟨("System", some "numbers"), "numbers", "System.numbers", defArgs sNumbers, defBody sNumbers, defScope sNumbers, [], []⟩,
  ⟨("System", some "things"), "things", "System.things", defArgs sThings, defBody sThings, defScope sThings, [], []⟩,
  ⟨("System", some "registrations"), "registrations", "System.registrations", defArgs sRegistrations, defBody sRegistrations, defScope sRegistrations, [], []⟩]
def fnL : List He.DefD := fn0
def fx0 : List DefX := [⟨fun K => (gtA K (He.ma K (He.ga K "System") "limits")), ⟨("System", some "limits"), "limits", "System.limits", defArgs sLimits, defBody sLimits, defScope sLimits, [], []⟩⟩]
def fxL : List DefX := fx0
theorem facts {P : Program} {w : World} {K : PySem.W.Frag} {h : Heap} {mg : Str → Option Value} {fa : Addr} (X : K.In h) (G : h.Ns mainGlobals mg) (hfa : mg "law" = some (.ref fa)) (c : SaysB ckL fnL fxL K) :
    (∃ fd : FuncData, (∀ (s : Shared) (u : Value), BindsTo s fd ⟨[u], []⟩ [("_law_script", u)]) ∧ (∀ base : Heap, K.In base → base.Ns mainGlobals mg → base.BuiltinsAt mg (ptA K (He.ga K "law")) → FnG P w K mg base CX0 8 fa fd ["_law_script"] (spLaw K (ptA K (He.ga K "law")))) ∧
      ∀ (H : Hp) (a : Addr) (ns : List Int), ns.length ≤ 63 → SqL K H a (ns.map V.int) → H (ptA K (He.ga K "law")) = some (.tbl #[]) → spLaw K (ptA K (He.ga K "law")) [.ref a] H (fun v _ => v = .bl true) fun _ _ _ => False) ∧ K.lookup (ptA K (He.ga K "law")) = none ∧ isCodeTable h (ptA K (He.ga K "law")) := by
  have gCS : PySem.W.nsIn K mainGlobals "System" = some (some (.ref (He.ga K "System"))) := of_decide_eq_true (SaysB.ck c 0 (f := fun K => decide (PySem.W.nsIn K mainGlobals "System" = some (some (.ref (He.ga K "System"))))) rfl)
  have pgS : PySem.W.plainGet K (He.ga K "System") Str.empty = true := (SaysB.ck c 1 (f := fun K => PySem.W.plainGet K (He.ga K "System") Str.empty) rfl)
  have hdS : PySem.W.hasDictIn K (He.ga K "System") = true := (SaysB.ck c 2 (f := fun K => PySem.W.hasDictIn K (He.ga K "System")) rfl)
  have poS : PySem.W.plainOver K (He.ga K "System") = true := (SaysB.ck c 3 (f := fun K => PySem.W.plainOver K (He.ga K "System")) rfl)
  have saS : PySem.W.findIn K (.ref (He.ga K "System")) "__setattr__" = some (some (.builtin "object.__setattr__")) := of_decide_eq_true (SaysB.ck c 4 (f := fun K => decide (PySem.W.findIn K (.ref (He.ga K "System")) "__setattr__" = some (some (.builtin "object.__setattr__")))) rfl)
  have mkS : PySem.W.makesIn K (He.ga K "System") = true := (SaysB.ck c 5 (f := fun K => PySem.W.makesIn K (He.ga K "System")) rfl)
  have kcS : PySem.W.keepIn K (.ref (He.ga K "System")) = true := (SaysB.ck c 6 (f := fun K => PySem.W.keepIn K (.ref (He.ga K "System"))) rfl)
  have noS0 : PySem.W.findIn K (.ref (He.ga K "System")) "process_limit" = some none := of_decide_eq_true (SaysB.ck c 7 (f := fun K => decide (PySem.W.findIn K (.ref (He.ga K "System")) "process_limit" = some none)) rfl)
  have noS1 : PySem.W.findIn K (.ref (He.ga K "System")) "number_limit" = some none := of_decide_eq_true (SaysB.ck c 8 (f := fun K => decide (PySem.W.findIn K (.ref (He.ga K "System")) "number_limit" = some none)) rfl)
  have noS2 : PySem.W.findIn K (.ref (He.ga K "System")) "tables" = some none := of_decide_eq_true (SaysB.ck c 9 (f := fun K => decide (PySem.W.findIn K (.ref (He.ga K "System")) "tables" = some none)) rfl)
  have noS3 : PySem.W.findIn K (.ref (He.ga K "System")) "sources" = some none := of_decide_eq_true (SaysB.ck c 10 (f := fun K => decide (PySem.W.findIn K (.ref (He.ga K "System")) "sources" = some none)) rfl)
  have noS4 : PySem.W.findIn K (.ref (He.ga K "System")) "sets" = some none := of_decide_eq_true (SaysB.ck c 11 (f := fun K => decide (PySem.W.findIn K (.ref (He.ga K "System")) "sets" = some none)) rfl)
  have noS5 : PySem.W.findIn K (.ref (He.ga K "System")) "next_thing" = some none := of_decide_eq_true (SaysB.ck c 12 (f := fun K => decide (PySem.W.findIn K (.ref (He.ga K "System")) "next_thing" = some none)) rfl)
  have gCW : PySem.W.nsIn K mainGlobals "WaitingSet" = some (some (.ref (He.ga K "WaitingSet"))) := of_decide_eq_true (SaysB.ck c 13 (f := fun K => decide (PySem.W.nsIn K mainGlobals "WaitingSet" = some (some (.ref (He.ga K "WaitingSet"))))) rfl)
  have pgW : PySem.W.plainGet K (He.ga K "WaitingSet") Str.empty = true := (SaysB.ck c 14 (f := fun K => PySem.W.plainGet K (He.ga K "WaitingSet") Str.empty) rfl)
  have hdW : PySem.W.hasDictIn K (He.ga K "WaitingSet") = true := (SaysB.ck c 15 (f := fun K => PySem.W.hasDictIn K (He.ga K "WaitingSet")) rfl)
  have poW : PySem.W.plainOver K (He.ga K "WaitingSet") = true := (SaysB.ck c 16 (f := fun K => PySem.W.plainOver K (He.ga K "WaitingSet")) rfl)
  have saW : PySem.W.findIn K (.ref (He.ga K "WaitingSet")) "__setattr__" = some (some (.builtin "object.__setattr__")) := of_decide_eq_true (SaysB.ck c 17 (f := fun K => decide (PySem.W.findIn K (.ref (He.ga K "WaitingSet")) "__setattr__" = some (some (.builtin "object.__setattr__")))) rfl)
  have mkW : PySem.W.makesIn K (He.ga K "WaitingSet") = true := (SaysB.ck c 18 (f := fun K => PySem.W.makesIn K (He.ga K "WaitingSet")) rfl)
  have kcW : PySem.W.keepIn K (.ref (He.ga K "WaitingSet")) = true := (SaysB.ck c 19 (f := fun K => PySem.W.keepIn K (.ref (He.ga K "WaitingSet"))) rfl)
  have noW0 : PySem.W.findIn K (.ref (He.ga K "WaitingSet")) "entries" = some none := of_decide_eq_true (SaysB.ck c 20 (f := fun K => decide (PySem.W.findIn K (.ref (He.ga K "WaitingSet")) "entries" = some none)) rfl)
  have noW1 : PySem.W.findIn K (.ref (He.ga K "WaitingSet")) "queue" = some none := of_decide_eq_true (SaysB.ck c 21 (f := fun K => decide (PySem.W.findIn K (.ref (He.ga K "WaitingSet")) "queue" = some none)) rfl)
  have gCBl : PySem.W.nsIn K mainGlobals "BadLimit" = some (some (.ref (He.ga K "BadLimit"))) := of_decide_eq_true (SaysB.ck c 22 (f := fun K => decide (PySem.W.nsIn K mainGlobals "BadLimit" = some (some (.ref (He.ga K "BadLimit"))))) rfl)
  obtain ⟨nmBl, qBl, NBl, bsBl, snBl, subBl, abBl, colBl, ddBl, maBl, mbBl, mcBl, mdBl, meBl, xLBl⟩ := excB_ok (SaysB.ck c 23 (f := fun K => excB K (He.ga K "BadLimit") [.type "ValueError", .type "Exception", .type "BaseException", .type "object"] "ValueError.__new__") rfl)
  have xsaBl : PySem.W.findIn K (.ref (He.ga K "BadLimit")) "__setattr__" = some (some (.builtin "object.__setattr__")) := of_decide_eq_true (SaysB.ck c 24 (f := fun K => decide (PySem.W.findIn K (.ref (He.ga K "BadLimit")) "__setattr__" = some (some (.builtin "object.__setattr__")))) rfl)
  have xgaBl : PySem.W.findIn K (.ref (He.ga K "BadLimit")) "__getattribute__" = some (some (.builtin "BaseException.__getattribute__")) := of_decide_eq_true (SaysB.ck c 25 (f := fun K => decide (PySem.W.findIn K (.ref (He.ga K "BadLimit")) "__getattribute__" = some (some (.builtin "BaseException.__getattribute__")))) rfl)
  have xggBl : PySem.W.findIn K (.ref (He.ga K "BadLimit")) "__getattr__" = some none := of_decide_eq_true (SaysB.ck c 26 (f := fun K => decide (PySem.W.findIn K (.ref (He.ga K "BadLimit")) "__getattr__" = some none)) rfl)
  have xnbBl0 : PySem.W.findIn K (.ref (He.ga K "BadLimit")) "limit" = some none := of_decide_eq_true (SaysB.ck c 27 (f := fun K => decide (PySem.W.findIn K (.ref (He.ga K "BadLimit")) "limit" = some none)) rfl)
  have xvVBl : PySem.W.findCls K (.type "ValueError") (.type "type") "__init__" = some (.val (.builtin "ValueError.__init__")) := clsB_ok (SaysB.ck c 28 (f := fun K => clsB (PySem.W.findCls K (.type "ValueError") (.type "type") "__init__") "ValueError.__init__") rfl)
  have xkCBl : PySem.W.keepIn K (.ref (He.ga K "BadLimit")) = true := (SaysB.ck c 29 (f := fun K => PySem.W.keepIn K (.ref (He.ga K "BadLimit"))) rfl)
  have xeCBl : PySem.W.subIn K (.ref (He.ga K "BadLimit")) (.type "BaseException") = some true := of_decide_eq_true (SaysB.ck c 30 (f := fun K => decide (PySem.W.subIn K (.ref (He.ga K "BadLimit")) (.type "BaseException") = some true)) rfl)
  have xtCBl : PySem.W.typeIn K (.ref (He.ga K "BadLimit")) = some (.type "type") := of_decide_eq_true (SaysB.ck c 31 (f := fun K => decide (PySem.W.typeIn K (.ref (He.ga K "BadLimit")) = some (.type "type"))) rfl)
  have xhCBl : PySem.W.hasDictIn K (He.ga K "BadLimit") = true := (SaysB.ck c 32 (f := fun K => PySem.W.hasDictIn K (He.ga K "BadLimit")) rfl)
  have xteBl : PySem.W.exmOne K (.ref (He.ga K "BadLimit")) (.ref (He.ga K "BadLimit")) = some true := of_decide_eq_true (SaysB.ck c 33 (f := fun K => decide (PySem.W.exmOne K (.ref (He.ga K "BadLimit")) (.ref (He.ga K "BadLimit")) = some true)) rfl)
  have xC1Bl : PySem.W.findIn K (.ref (He.ga K "BadLimit")) "__class__" = some (some (.builtin "object.__class__")) := of_decide_eq_true (SaysB.ck c 34 (f := fun K => decide (PySem.W.findIn K (.ref (He.ga K "BadLimit")) "__class__" = some (some (.builtin "object.__class__")))) rfl)
  have xC4Bl : PySem.W.mroIn K (He.ga K "BadLimit") (.type "object") = some true := of_decide_eq_true (SaysB.ck c 35 (f := fun K => decide (PySem.W.mroIn K (He.ga K "BadLimit") (.type "object") = some true)) rfl)
  have xC5Bl : (PySem.W.clsIn K (He.ga K "BadLimit")).isSome = true := (SaysB.ck c 36 (f := fun K => (PySem.W.clsIn K (He.ga K "BadLimit")).isSome) rfl)
  have xkvBl : PySem.W.kitOne K (.ref (He.ga K "BadLimit")) (.type "ValueError") = some true := of_decide_eq_true (SaysB.ck c 37 (f := fun K => decide (PySem.W.kitOne K (.ref (He.ga K "BadLimit")) (.type "ValueError") = some true)) rfl)
  have xC2 : PySem.W.specialIn K (.builtin "object.__class__") "__get__" = some (some (.builtin "getset_descriptor.__get__")) := of_decide_eq_true (SaysB.ck c 38 (f := fun K => decide (PySem.W.specialIn K (.builtin "object.__class__") "__get__" = some (some (.builtin "getset_descriptor.__get__")))) rfl)
  have xC3 : PySem.W.takesIn K (.builtin "object.__class__") = some true := of_decide_eq_true (SaysB.ck c 39 (f := fun K => decide (PySem.W.takesIn K (.builtin "object.__class__") = some true)) rfl)
  have gCFu : PySem.W.nsIn K mainGlobals "Full" = some (some (.ref (He.ga K "Full"))) := of_decide_eq_true (SaysB.ck c 40 (f := fun K => decide (PySem.W.nsIn K mainGlobals "Full" = some (some (.ref (He.ga K "Full"))))) rfl)
  obtain ⟨nmFu, qFu, NFu, bsFu, snFu, subFu, abFu, colFu, ddFu, maFu, mbFu, mcFu, mdFu, meFu, xLFu⟩ := excB_ok (SaysB.ck c 41 (f := fun K => excB K (He.ga K "Full") [.type "OverflowError", .type "ArithmeticError", .type "Exception", .type "BaseException", .type "object"] "OverflowError.__new__") rfl)
  have xsaFu : PySem.W.findIn K (.ref (He.ga K "Full")) "__setattr__" = some (some (.builtin "object.__setattr__")) := of_decide_eq_true (SaysB.ck c 42 (f := fun K => decide (PySem.W.findIn K (.ref (He.ga K "Full")) "__setattr__" = some (some (.builtin "object.__setattr__")))) rfl)
  have xgaFu : PySem.W.findIn K (.ref (He.ga K "Full")) "__getattribute__" = some (some (.builtin "BaseException.__getattribute__")) := of_decide_eq_true (SaysB.ck c 43 (f := fun K => decide (PySem.W.findIn K (.ref (He.ga K "Full")) "__getattribute__" = some (some (.builtin "BaseException.__getattribute__")))) rfl)
  have xggFu : PySem.W.findIn K (.ref (He.ga K "Full")) "__getattr__" = some none := of_decide_eq_true (SaysB.ck c 44 (f := fun K => decide (PySem.W.findIn K (.ref (He.ga K "Full")) "__getattr__" = some none)) rfl)
  have xnbFu0 : PySem.W.findIn K (.ref (He.ga K "Full")) "process" = some none := of_decide_eq_true (SaysB.ck c 45 (f := fun K => decide (PySem.W.findIn K (.ref (He.ga K "Full")) "process" = some none)) rfl)
  have xvVFu : PySem.W.findCls K (.type "OverflowError") (.type "type") "__init__" = some (.val (.builtin "OverflowError.__init__")) := clsB_ok (SaysB.ck c 46 (f := fun K => clsB (PySem.W.findCls K (.type "OverflowError") (.type "type") "__init__") "OverflowError.__init__") rfl)
  have xkCFu : PySem.W.keepIn K (.ref (He.ga K "Full")) = true := (SaysB.ck c 47 (f := fun K => PySem.W.keepIn K (.ref (He.ga K "Full"))) rfl)
  have xeCFu : PySem.W.subIn K (.ref (He.ga K "Full")) (.type "BaseException") = some true := of_decide_eq_true (SaysB.ck c 48 (f := fun K => decide (PySem.W.subIn K (.ref (He.ga K "Full")) (.type "BaseException") = some true)) rfl)
  have xtCFu : PySem.W.typeIn K (.ref (He.ga K "Full")) = some (.type "type") := of_decide_eq_true (SaysB.ck c 49 (f := fun K => decide (PySem.W.typeIn K (.ref (He.ga K "Full")) = some (.type "type"))) rfl)
  have xhCFu : PySem.W.hasDictIn K (He.ga K "Full") = true := (SaysB.ck c 50 (f := fun K => PySem.W.hasDictIn K (He.ga K "Full")) rfl)
  have xteFu : PySem.W.exmOne K (.ref (He.ga K "Full")) (.ref (He.ga K "Full")) = some true := of_decide_eq_true (SaysB.ck c 51 (f := fun K => decide (PySem.W.exmOne K (.ref (He.ga K "Full")) (.ref (He.ga K "Full")) = some true)) rfl)
  have xC1Fu : PySem.W.findIn K (.ref (He.ga K "Full")) "__class__" = some (some (.builtin "object.__class__")) := of_decide_eq_true (SaysB.ck c 52 (f := fun K => decide (PySem.W.findIn K (.ref (He.ga K "Full")) "__class__" = some (some (.builtin "object.__class__")))) rfl)
  have xC4Fu : PySem.W.mroIn K (He.ga K "Full") (.type "object") = some true := of_decide_eq_true (SaysB.ck c 53 (f := fun K => decide (PySem.W.mroIn K (He.ga K "Full") (.type "object") = some true)) rfl)
  have xC5Fu : (PySem.W.clsIn K (He.ga K "Full")).isSome = true := (SaysB.ck c 54 (f := fun K => (PySem.W.clsIn K (He.ga K "Full")).isSome) rfl)
  have xkvFu : PySem.W.kitOne K (.ref (He.ga K "Full")) (.type "OverflowError") = some true := of_decide_eq_true (SaysB.ck c 55 (f := fun K => decide (PySem.W.kitOne K (.ref (He.ga K "Full")) (.type "OverflowError") = some true)) rfl)
  have gCNo : PySem.W.nsIn K mainGlobals "NoRoom" = some (some (.ref (He.ga K "NoRoom"))) := of_decide_eq_true (SaysB.ck c 56 (f := fun K => decide (PySem.W.nsIn K mainGlobals "NoRoom" = some (some (.ref (He.ga K "NoRoom"))))) rfl)
  obtain ⟨nmNo, qNo, NNo, bsNo, snNo, subNo, abNo, colNo, ddNo, maNo, mbNo, mcNo, mdNo, meNo, xLNo⟩ := excB_ok (SaysB.ck c 57 (f := fun K => excB K (He.ga K "NoRoom") [.type "OverflowError", .type "ArithmeticError", .type "Exception", .type "BaseException", .type "object"] "OverflowError.__new__") rfl)
  have xsaNo : PySem.W.findIn K (.ref (He.ga K "NoRoom")) "__setattr__" = some (some (.builtin "object.__setattr__")) := of_decide_eq_true (SaysB.ck c 58 (f := fun K => decide (PySem.W.findIn K (.ref (He.ga K "NoRoom")) "__setattr__" = some (some (.builtin "object.__setattr__")))) rfl)
  have xgaNo : PySem.W.findIn K (.ref (He.ga K "NoRoom")) "__getattribute__" = some (some (.builtin "BaseException.__getattribute__")) := of_decide_eq_true (SaysB.ck c 59 (f := fun K => decide (PySem.W.findIn K (.ref (He.ga K "NoRoom")) "__getattribute__" = some (some (.builtin "BaseException.__getattribute__")))) rfl)
  have xggNo : PySem.W.findIn K (.ref (He.ga K "NoRoom")) "__getattr__" = some none := of_decide_eq_true (SaysB.ck c 60 (f := fun K => decide (PySem.W.findIn K (.ref (He.ga K "NoRoom")) "__getattr__" = some none)) rfl)
  have xvVNo : PySem.W.findCls K (.type "OverflowError") (.type "type") "__init__" = some (.val (.builtin "OverflowError.__init__")) := clsB_ok (SaysB.ck c 61 (f := fun K => clsB (PySem.W.findCls K (.type "OverflowError") (.type "type") "__init__") "OverflowError.__init__") rfl)
  have xkCNo : PySem.W.keepIn K (.ref (He.ga K "NoRoom")) = true := (SaysB.ck c 62 (f := fun K => PySem.W.keepIn K (.ref (He.ga K "NoRoom"))) rfl)
  have xeCNo : PySem.W.subIn K (.ref (He.ga K "NoRoom")) (.type "BaseException") = some true := of_decide_eq_true (SaysB.ck c 63 (f := fun K => decide (PySem.W.subIn K (.ref (He.ga K "NoRoom")) (.type "BaseException") = some true)) rfl)
  have xtCNo : PySem.W.typeIn K (.ref (He.ga K "NoRoom")) = some (.type "type") := of_decide_eq_true (SaysB.ck c 64 (f := fun K => decide (PySem.W.typeIn K (.ref (He.ga K "NoRoom")) = some (.type "type"))) rfl)
  have xhCNo : PySem.W.hasDictIn K (He.ga K "NoRoom") = true := (SaysB.ck c 65 (f := fun K => PySem.W.hasDictIn K (He.ga K "NoRoom")) rfl)
  have xteNo : PySem.W.exmOne K (.ref (He.ga K "NoRoom")) (.ref (He.ga K "NoRoom")) = some true := of_decide_eq_true (SaysB.ck c 66 (f := fun K => decide (PySem.W.exmOne K (.ref (He.ga K "NoRoom")) (.ref (He.ga K "NoRoom")) = some true)) rfl)
  have xC1No : PySem.W.findIn K (.ref (He.ga K "NoRoom")) "__class__" = some (some (.builtin "object.__class__")) := of_decide_eq_true (SaysB.ck c 67 (f := fun K => decide (PySem.W.findIn K (.ref (He.ga K "NoRoom")) "__class__" = some (some (.builtin "object.__class__")))) rfl)
  have xC4No : PySem.W.mroIn K (He.ga K "NoRoom") (.type "object") = some true := of_decide_eq_true (SaysB.ck c 68 (f := fun K => decide (PySem.W.mroIn K (He.ga K "NoRoom") (.type "object") = some true)) rfl)
  have xC5No : (PySem.W.clsIn K (He.ga K "NoRoom")).isSome = true := (SaysB.ck c 69 (f := fun K => (PySem.W.clsIn K (He.ga K "NoRoom")).isSome) rfl)
  have xkvNo : PySem.W.kitOne K (.ref (He.ga K "NoRoom")) (.type "OverflowError") = some true := of_decide_eq_true (SaysB.ck c 70 (f := fun K => decide (PySem.W.kitOne K (.ref (He.ga K "NoRoom")) (.type "OverflowError") = some true)) rfl)
  have aint : PySem.W.nsIn K mainGlobals "is_integer" = some (some (.ref (He.ga K "is_integer"))) := of_decide_eq_true (SaysB.ck c 71 (f := fun K => decide (PySem.W.nsIn K mainGlobals "is_integer" = some (some (.ref (He.ga K "is_integer"))))) rfl)
  have kint : PySem.W.keepIn K (.ref (He.ga K "is_integer")) = true := (SaysB.ck c 72 (f := fun K => PySem.W.keepIn K (.ref (He.ga K "is_integer"))) rfl)
  obtain ⟨fd_int, F0int⟩ := SaysB.def_ c 0 (d := (⟨("is_integer", none), "is_integer", "is_integer", defArgs sIsInteger, defBody sIsInteger, defScope sIsInteger, [], []⟩ : He.DefD)) rfl
  have abet : PySem.W.nsIn K mainGlobals "is_between" = some (some (.ref (He.ga K "is_between"))) := of_decide_eq_true (SaysB.ck c 73 (f := fun K => decide (PySem.W.nsIn K mainGlobals "is_between" = some (some (.ref (He.ga K "is_between"))))) rfl)
  have kbet : PySem.W.keepIn K (.ref (He.ga K "is_between")) = true := (SaysB.ck c 74 (f := fun K => PySem.W.keepIn K (.ref (He.ga K "is_between"))) rfl)
  obtain ⟨fd_bet, F0bet⟩ := SaysB.def_ c 1 (d := (⟨("is_between", none), "is_between", "is_between", defArgs sIsBetween, defBody sIsBetween, defScope sIsBetween, [], []⟩ : He.DefD)) rfl
  have abag : PySem.W.nsIn K mainGlobals "_law_bag" = some (some (.ref (He.ga K "_law_bag"))) := of_decide_eq_true (SaysB.ck c 75 (f := fun K => decide (PySem.W.nsIn K mainGlobals "_law_bag" = some (some (.ref (He.ga K "_law_bag"))))) rfl)
  have kbag : PySem.W.keepIn K (.ref (He.ga K "_law_bag")) = true := (SaysB.ck c 76 (f := fun K => PySem.W.keepIn K (.ref (He.ga K "_law_bag"))) rfl)
  obtain ⟨fd_bag, F0bag⟩ := SaysB.def_ c 2 (d := (⟨("_law_bag", none), "_law_bag", "_law_bag", defArgs sBag, defBody sBag, defScope sBag, [], []⟩ : He.DefD)) rfl
  have atake : PySem.W.nsIn K mainGlobals "_law_take" = some (some (.ref (He.ga K "_law_take"))) := of_decide_eq_true (SaysB.ck c 77 (f := fun K => decide (PySem.W.nsIn K mainGlobals "_law_take" = some (some (.ref (He.ga K "_law_take"))))) rfl)
  have ktake : PySem.W.keepIn K (.ref (He.ga K "_law_take")) = true := (SaysB.ck c 78 (f := fun K => PySem.W.keepIn K (.ref (He.ga K "_law_take"))) rfl)
  obtain ⟨fd_take, F0take⟩ := SaysB.def_ c 3 (d := (⟨("_law_take", none), "_law_take", "_law_take", defArgs sTake, defBody sTake, defScope sTake, [], []⟩ : He.DefD)) rfl
  have aof : PySem.W.nsIn K mainGlobals "_law_of" = some (some (.ref (He.ga K "_law_of"))) := of_decide_eq_true (SaysB.ck c 79 (f := fun K => decide (PySem.W.nsIn K mainGlobals "_law_of" = some (some (.ref (He.ga K "_law_of"))))) rfl)
  have kof : PySem.W.keepIn K (.ref (He.ga K "_law_of")) = true := (SaysB.ck c 80 (f := fun K => PySem.W.keepIn K (.ref (He.ga K "_law_of"))) rfl)
  obtain ⟨fd_of, F0of⟩ := SaysB.def_ c 4 (d := (⟨("_law_of", none), "_law_of", "_law_of", defArgs sOf, defBody sOf, defScope sOf, [], []⟩ : He.DefD)) rfl
  have aobj : PySem.W.nsIn K mainGlobals "_law_object" = some (some (.ref (He.ga K "_law_object"))) := of_decide_eq_true (SaysB.ck c 81 (f := fun K => decide (PySem.W.nsIn K mainGlobals "_law_object" = some (some (.ref (He.ga K "_law_object"))))) rfl)
  have kobj : PySem.W.keepIn K (.ref (He.ga K "_law_object")) = true := (SaysB.ck c 82 (f := fun K => PySem.W.keepIn K (.ref (He.ga K "_law_object"))) rfl)
  obtain ⟨fd_obj, F0obj⟩ := SaysB.def_ c 5 (d := (⟨("_law_object", none), "_law_object", "_law_object", defArgs sObject, defBody sObject, defScope sObject, [], []⟩ : He.DefD)) rfl
  have aisf : PySem.W.nsIn K mainGlobals "_law_is_from" = some (some (.ref (He.ga K "_law_is_from"))) := of_decide_eq_true (SaysB.ck c 83 (f := fun K => decide (PySem.W.nsIn K mainGlobals "_law_is_from" = some (some (.ref (He.ga K "_law_is_from"))))) rfl)
  have kisf : PySem.W.keepIn K (.ref (He.ga K "_law_is_from")) = true := (SaysB.ck c 84 (f := fun K => PySem.W.keepIn K (.ref (He.ga K "_law_is_from"))) rfl)
  obtain ⟨fd_isf, F0isf⟩ := SaysB.def_ c 6 (d := (⟨("_law_is_from", none), "_law_is_from", "_law_is_from", defArgs sIsFrom, defBody sIsFrom, defScope sIsFrom, [], []⟩ : He.DefD)) rfl
  have aref : PySem.W.nsIn K mainGlobals "_law_refused" = some (some (.ref (He.ga K "_law_refused"))) := of_decide_eq_true (SaysB.ck c 85 (f := fun K => decide (PySem.W.nsIn K mainGlobals "_law_refused" = some (some (.ref (He.ga K "_law_refused"))))) rfl)
  have kref : PySem.W.keepIn K (.ref (He.ga K "_law_refused")) = true := (SaysB.ck c 86 (f := fun K => PySem.W.keepIn K (.ref (He.ga K "_law_refused"))) rfl)
  obtain ⟨fd_ref, F0ref⟩ := SaysB.def_ c 7 (d := (⟨("_law_refused", none), "_law_refused", "_law_refused", defArgs sRefused, defBody sRefused, defScope sRefused, [], []⟩ : He.DefD)) rfl
  have afil : PySem.W.nsIn K mainGlobals "_law_fills" = some (some (.ref (He.ga K "_law_fills"))) := of_decide_eq_true (SaysB.ck c 87 (f := fun K => decide (PySem.W.nsIn K mainGlobals "_law_fills" = some (some (.ref (He.ga K "_law_fills"))))) rfl)
  have kfil : PySem.W.keepIn K (.ref (He.ga K "_law_fills")) = true := (SaysB.ck c 88 (f := fun K => PySem.W.keepIn K (.ref (He.ga K "_law_fills"))) rfl)
  obtain ⟨fd_fil, F0fil⟩ := SaysB.def_ c 8 (d := (⟨("_law_fills", none), "_law_fills", "_law_fills", defArgs sFills, defBody sFills, defScope sFills, [], []⟩ : He.DefD)) rfl
  have alaw : PySem.W.nsIn K mainGlobals "law" = some (some (.ref (He.ga K "law"))) := of_decide_eq_true (SaysB.ck c 89 (f := fun K => decide (PySem.W.nsIn K mainGlobals "law" = some (some (.ref (He.ga K "law"))))) rfl)
  have klaw : PySem.W.keepIn K (.ref (He.ga K "law")) = true := (SaysB.ck c 90 (f := fun K => PySem.W.keepIn K (.ref (He.ga K "law"))) rfl)
  obtain ⟨fd_law, F0law⟩ := SaysB.def_ c 9 (d := (⟨("law", none), "law", "law", defArgs sLaw, defBody sLaw, defScope sLaw, [], []⟩ : He.DefD)) rfl
  have hcdlaw : cdV K (He.ga K "law") = some (.ref (cdA K (He.ga K "law"))) := of_decide_eq_true (SaysB.ck c 91 (f := fun K => decide (cdV K (He.ga K "law") = some (.ref (cdA K (He.ga K "law"))))) rfl)
  have axbl : PySem.W.findIn K (.ref (He.ga K "BadLimit")) "__init__" = some (some (.ref (He.ma K (He.ga K "BadLimit") "__init__"))) := of_decide_eq_true (SaysB.ck c 92 (f := fun K => decide (PySem.W.findIn K (.ref (He.ga K "BadLimit")) "__init__" = some (some (.ref (He.ma K (He.ga K "BadLimit") "__init__"))))) rfl)
  have ixbl : PySem.W.isFn K (.ref (He.ma K (He.ga K "BadLimit") "__init__")) = true := (SaysB.ck c 93 (f := fun K => PySem.W.isFn K (.ref (He.ma K (He.ga K "BadLimit") "__init__"))) rfl)
  have kxbl : PySem.W.keepIn K (.ref (He.ma K (He.ga K "BadLimit") "__init__")) = true := (SaysB.ck c 94 (f := fun K => PySem.W.keepIn K (.ref (He.ma K (He.ga K "BadLimit") "__init__"))) rfl)
  obtain ⟨fd_xbl, F0xbl⟩ := SaysB.def_ c 10 (d := (⟨("BadLimit", some "__init__"), "__init__", "BadLimit.__init__", defArgs sBadLimitInit, defBody sBadLimitInit, defScope sBadLimitInit, [], []⟩ : He.DefD)) rfl
  have axfu : PySem.W.findIn K (.ref (He.ga K "Full")) "__init__" = some (some (.ref (He.ma K (He.ga K "Full") "__init__"))) := of_decide_eq_true (SaysB.ck c 95 (f := fun K => decide (PySem.W.findIn K (.ref (He.ga K "Full")) "__init__" = some (some (.ref (He.ma K (He.ga K "Full") "__init__"))))) rfl)
  have ixfu : PySem.W.isFn K (.ref (He.ma K (He.ga K "Full") "__init__")) = true := (SaysB.ck c 96 (f := fun K => PySem.W.isFn K (.ref (He.ma K (He.ga K "Full") "__init__"))) rfl)
  have kxfu : PySem.W.keepIn K (.ref (He.ma K (He.ga K "Full") "__init__")) = true := (SaysB.ck c 97 (f := fun K => PySem.W.keepIn K (.ref (He.ma K (He.ga K "Full") "__init__"))) rfl)
  obtain ⟨fd_xfu, F0xfu⟩ := SaysB.def_ c 11 (d := (⟨("Full", some "__init__"), "__init__", "Full.__init__", defArgs sFullInit, defBody sFullInit, defScope sFullInit, [], []⟩ : He.DefD)) rfl
  have axno : PySem.W.findIn K (.ref (He.ga K "NoRoom")) "__init__" = some (some (.ref (He.ma K (He.ga K "NoRoom") "__init__"))) := of_decide_eq_true (SaysB.ck c 98 (f := fun K => decide (PySem.W.findIn K (.ref (He.ga K "NoRoom")) "__init__" = some (some (.ref (He.ma K (He.ga K "NoRoom") "__init__"))))) rfl)
  have ixno : PySem.W.isFn K (.ref (He.ma K (He.ga K "NoRoom") "__init__")) = true := (SaysB.ck c 99 (f := fun K => PySem.W.isFn K (.ref (He.ma K (He.ga K "NoRoom") "__init__"))) rfl)
  have kxno : PySem.W.keepIn K (.ref (He.ma K (He.ga K "NoRoom") "__init__")) = true := (SaysB.ck c 100 (f := fun K => PySem.W.keepIn K (.ref (He.ma K (He.ga K "NoRoom") "__init__"))) rfl)
  obtain ⟨fd_xno, F0xno⟩ := SaysB.def_ c 12 (d := (⟨("NoRoom", some "__init__"), "__init__", "NoRoom.__init__", defArgs sNoRoomInit, defBody sNoRoomInit, defScope sNoRoomInit, [], []⟩ : He.DefD)) rfl
  have awi : PySem.W.findIn K (.ref (He.ga K "WaitingSet")) "__init__" = some (some (.ref (He.ma K (He.ga K "WaitingSet") "__init__"))) := of_decide_eq_true (SaysB.ck c 101 (f := fun K => decide (PySem.W.findIn K (.ref (He.ga K "WaitingSet")) "__init__" = some (some (.ref (He.ma K (He.ga K "WaitingSet") "__init__"))))) rfl)
  have iwi : PySem.W.isFn K (.ref (He.ma K (He.ga K "WaitingSet") "__init__")) = true := (SaysB.ck c 102 (f := fun K => PySem.W.isFn K (.ref (He.ma K (He.ga K "WaitingSet") "__init__"))) rfl)
  have kwi : PySem.W.keepIn K (.ref (He.ma K (He.ga K "WaitingSet") "__init__")) = true := (SaysB.ck c 103 (f := fun K => PySem.W.keepIn K (.ref (He.ma K (He.ga K "WaitingSet") "__init__"))) rfl)
  obtain ⟨fd_wi, F0wi⟩ := SaysB.def_ c 13 (d := (⟨("WaitingSet", some "__init__"), "__init__", "WaitingSet.__init__", defArgs sWsInit, defBody sWsInit, defScope sWsInit, [], []⟩ : He.DefD)) rfl
  have asi : PySem.W.findIn K (.ref (He.ga K "System")) "__init__" = some (some (.ref (He.ma K (He.ga K "System") "__init__"))) := of_decide_eq_true (SaysB.ck c 104 (f := fun K => decide (PySem.W.findIn K (.ref (He.ga K "System")) "__init__" = some (some (.ref (He.ma K (He.ga K "System") "__init__"))))) rfl)
  have isi : PySem.W.isFn K (.ref (He.ma K (He.ga K "System") "__init__")) = true := (SaysB.ck c 105 (f := fun K => PySem.W.isFn K (.ref (He.ma K (He.ga K "System") "__init__"))) rfl)
  have ksi : PySem.W.keepIn K (.ref (He.ma K (He.ga K "System") "__init__")) = true := (SaysB.ck c 106 (f := fun K => PySem.W.keepIn K (.ref (He.ma K (He.ga K "System") "__init__"))) rfl)
  obtain ⟨fd_si, F0si⟩ := SaysB.def_ c 14 (d := (⟨("System", some "__init__"), "__init__", "System.__init__", defArgs sSysInit, defBody sSysInit, defScope sSysInit, [], [("processes", .int 4), ("numbers", .int 8)]⟩ : He.DefD)) rfl
  have acon : PySem.W.findIn K (.ref (He.ga K "System")) "__contains__" = some (some (.ref (He.ma K (He.ga K "System") "__contains__"))) := of_decide_eq_true (SaysB.ck c 107 (f := fun K => decide (PySem.W.findIn K (.ref (He.ga K "System")) "__contains__" = some (some (.ref (He.ma K (He.ga K "System") "__contains__"))))) rfl)
  have icon : PySem.W.isFn K (.ref (He.ma K (He.ga K "System") "__contains__")) = true := (SaysB.ck c 108 (f := fun K => PySem.W.isFn K (.ref (He.ma K (He.ga K "System") "__contains__"))) rfl)
  have kcon : PySem.W.keepIn K (.ref (He.ma K (He.ga K "System") "__contains__")) = true := (SaysB.ck c 109 (f := fun K => PySem.W.keepIn K (.ref (He.ma K (He.ga K "System") "__contains__"))) rfl)
  obtain ⟨fd_con, F0con⟩ := SaysB.def_ c 15 (d := (⟨("System", some "__contains__"), "__contains__", "System.__contains__", defArgs sContains, defBody sContains, defScope sContains, [], []⟩ : He.DefD)) rfl
  have atof : PySem.W.findIn K (.ref (He.ga K "System")) "table_of" = some (some (.ref (He.ma K (He.ga K "System") "table_of"))) := of_decide_eq_true (SaysB.ck c 110 (f := fun K => decide (PySem.W.findIn K (.ref (He.ga K "System")) "table_of" = some (some (.ref (He.ma K (He.ga K "System") "table_of"))))) rfl)
  have itof : PySem.W.isFn K (.ref (He.ma K (He.ga K "System") "table_of")) = true := (SaysB.ck c 111 (f := fun K => PySem.W.isFn K (.ref (He.ma K (He.ga K "System") "table_of"))) rfl)
  have ktof : PySem.W.keepIn K (.ref (He.ma K (He.ga K "System") "table_of")) = true := (SaysB.ck c 112 (f := fun K => PySem.W.keepIn K (.ref (He.ma K (He.ga K "System") "table_of"))) rfl)
  obtain ⟨fd_tof, F0tof⟩ := SaysB.def_ c 16 (d := (⟨("System", some "table_of"), "table_of", "System.table_of", defArgs sTableOf, defBody sTableOf, defScope sTableOf, [], []⟩ : He.DefD)) rfl
  have afrn : PySem.W.findIn K (.ref (He.ga K "System")) "free_number" = some (some (.ref (He.ma K (He.ga K "System") "free_number"))) := of_decide_eq_true (SaysB.ck c 113 (f := fun K => decide (PySem.W.findIn K (.ref (He.ga K "System")) "free_number" = some (some (.ref (He.ma K (He.ga K "System") "free_number"))))) rfl)
  have ifrn : PySem.W.isFn K (.ref (He.ma K (He.ga K "System") "free_number")) = true := (SaysB.ck c 114 (f := fun K => PySem.W.isFn K (.ref (He.ma K (He.ga K "System") "free_number"))) rfl)
  have kfrn : PySem.W.keepIn K (.ref (He.ma K (He.ga K "System") "free_number")) = true := (SaysB.ck c 115 (f := fun K => PySem.W.keepIn K (.ref (He.ma K (He.ga K "System") "free_number"))) rfl)
  obtain ⟨fd_frn, F0frn⟩ := SaysB.def_ c 17 (d := (⟨("System", some "free_number"), "free_number", "System.free_number", defArgs sFreeNum, defBody sFreeNum, defScope sFreeNum, [], []⟩ : He.DefD)) rfl
  have anth : PySem.W.findIn K (.ref (He.ga K "System")) "new_thing" = some (some (.ref (He.ma K (He.ga K "System") "new_thing"))) := of_decide_eq_true (SaysB.ck c 116 (f := fun K => decide (PySem.W.findIn K (.ref (He.ga K "System")) "new_thing" = some (some (.ref (He.ma K (He.ga K "System") "new_thing"))))) rfl)
  have inth : PySem.W.isFn K (.ref (He.ma K (He.ga K "System") "new_thing")) = true := (SaysB.ck c 117 (f := fun K => PySem.W.isFn K (.ref (He.ma K (He.ga K "System") "new_thing"))) rfl)
  have knth : PySem.W.keepIn K (.ref (He.ma K (He.ga K "System") "new_thing")) = true := (SaysB.ck c 118 (f := fun K => PySem.W.keepIn K (.ref (He.ma K (He.ga K "System") "new_thing"))) rfl)
  obtain ⟨fd_nth, F0nth⟩ := SaysB.def_ c 18 (d := (⟨("System", some "new_thing"), "new_thing", "System.new_thing", defArgs sNewThing, defBody sNewThing, defScope sNewThing, [], []⟩ : He.DefD)) rfl
  have anso : PySem.W.findIn K (.ref (He.ga K "System")) "new_source" = some (some (.ref (He.ma K (He.ga K "System") "new_source"))) := of_decide_eq_true (SaysB.ck c 119 (f := fun K => decide (PySem.W.findIn K (.ref (He.ga K "System")) "new_source" = some (some (.ref (He.ma K (He.ga K "System") "new_source"))))) rfl)
  have inso : PySem.W.isFn K (.ref (He.ma K (He.ga K "System") "new_source")) = true := (SaysB.ck c 120 (f := fun K => PySem.W.isFn K (.ref (He.ma K (He.ga K "System") "new_source"))) rfl)
  have knso : PySem.W.keepIn K (.ref (He.ma K (He.ga K "System") "new_source")) = true := (SaysB.ck c 121 (f := fun K => PySem.W.keepIn K (.ref (He.ma K (He.ga K "System") "new_source"))) rfl)
  obtain ⟨fd_nso, F0nso⟩ := SaysB.def_ c 19 (d := (⟨("System", some "new_source"), "new_source", "System.new_source", defArgs sNewSource, defBody sNewSource, defScope sNewSource, [], []⟩ : He.DefD)) rfl
  have anse : PySem.W.findIn K (.ref (He.ga K "System")) "new_set" = some (some (.ref (He.ma K (He.ga K "System") "new_set"))) := of_decide_eq_true (SaysB.ck c 122 (f := fun K => decide (PySem.W.findIn K (.ref (He.ga K "System")) "new_set" = some (some (.ref (He.ma K (He.ga K "System") "new_set"))))) rfl)
  have inse : PySem.W.isFn K (.ref (He.ma K (He.ga K "System") "new_set")) = true := (SaysB.ck c 123 (f := fun K => PySem.W.isFn K (.ref (He.ma K (He.ga K "System") "new_set"))) rfl)
  have knse : PySem.W.keepIn K (.ref (He.ma K (He.ga K "System") "new_set")) = true := (SaysB.ck c 124 (f := fun K => PySem.W.keepIn K (.ref (He.ma K (He.ga K "System") "new_set"))) rfl)
  obtain ⟨fd_nse, F0nse⟩ := SaysB.def_ c 20 (d := (⟨("System", some "new_set"), "new_set", "System.new_set", defArgs sNewSet, defBody sNewSet, defScope sNewSet, [], []⟩ : He.DefD)) rfl
  have afrp : PySem.W.findIn K (.ref (He.ga K "System")) "free_process" = some (some (.ref (He.ma K (He.ga K "System") "free_process"))) := of_decide_eq_true (SaysB.ck c 125 (f := fun K => decide (PySem.W.findIn K (.ref (He.ga K "System")) "free_process" = some (some (.ref (He.ma K (He.ga K "System") "free_process"))))) rfl)
  have ifrp : PySem.W.isFn K (.ref (He.ma K (He.ga K "System") "free_process")) = true := (SaysB.ck c 126 (f := fun K => PySem.W.isFn K (.ref (He.ma K (He.ga K "System") "free_process"))) rfl)
  have kfrp : PySem.W.keepIn K (.ref (He.ma K (He.ga K "System") "free_process")) = true := (SaysB.ck c 127 (f := fun K => PySem.W.keepIn K (.ref (He.ma K (He.ga K "System") "free_process"))) rfl)
  obtain ⟨fd_frp, F0frp⟩ := SaysB.def_ c 21 (d := (⟨("System", some "free_process"), "free_process", "System.free_process", defArgs sFreeProc, defBody sFreeProc, defScope sFreeProc, [], []⟩ : He.DefD)) rfl
  have afrk : PySem.W.findIn K (.ref (He.ga K "System")) "fork" = some (some (.ref (He.ma K (He.ga K "System") "fork"))) := of_decide_eq_true (SaysB.ck c 128 (f := fun K => decide (PySem.W.findIn K (.ref (He.ga K "System")) "fork" = some (some (.ref (He.ma K (He.ga K "System") "fork"))))) rfl)
  have ifrk : PySem.W.isFn K (.ref (He.ma K (He.ga K "System") "fork")) = true := (SaysB.ck c 129 (f := fun K => PySem.W.isFn K (.ref (He.ma K (He.ga K "System") "fork"))) rfl)
  have kfrk : PySem.W.keepIn K (.ref (He.ma K (He.ga K "System") "fork")) = true := (SaysB.ck c 130 (f := fun K => PySem.W.keepIn K (.ref (He.ma K (He.ga K "System") "fork"))) rfl)
  obtain ⟨fd_frk, F0frk⟩ := SaysB.def_ c 22 (d := (⟨("System", some "fork"), "fork", "System.fork", defArgs sFork, defBody sFork, defScope sFork, [], []⟩ : He.DefD)) rfl
  have alen : PySem.W.findIn K (.ref (He.ga K "System")) "__len__" = some (some (.ref (He.ma K (He.ga K "System") "__len__"))) := of_decide_eq_true (SaysB.ck c 131 (f := fun K => decide (PySem.W.findIn K (.ref (He.ga K "System")) "__len__" = some (some (.ref (He.ma K (He.ga K "System") "__len__"))))) rfl)
  have ilen : PySem.W.isFn K (.ref (He.ma K (He.ga K "System") "__len__")) = true := (SaysB.ck c 132 (f := fun K => PySem.W.isFn K (.ref (He.ma K (He.ga K "System") "__len__"))) rfl)
  have klen : PySem.W.keepIn K (.ref (He.ma K (He.ga K "System") "__len__")) = true := (SaysB.ck c 133 (f := fun K => PySem.W.keepIn K (.ref (He.ma K (He.ga K "System") "__len__"))) rfl)
  obtain ⟨fd_len, F0len⟩ := SaysB.def_ c 23 (d := (⟨("System", some "__len__"), "__len__", "System.__len__", defArgs sLen, defBody sLen, defScope sLen, [], []⟩ : He.DefD)) rfl
  have aali : PySem.W.findIn K (.ref (He.ga K "System")) "alive" = some (some (.ref (He.ma K (He.ga K "System") "alive"))) := of_decide_eq_true (SaysB.ck c 134 (f := fun K => decide (PySem.W.findIn K (.ref (He.ga K "System")) "alive" = some (some (.ref (He.ma K (He.ga K "System") "alive"))))) rfl)
  have iali : PySem.W.isFn K (.ref (He.ma K (He.ga K "System") "alive")) = true := (SaysB.ck c 135 (f := fun K => PySem.W.isFn K (.ref (He.ma K (He.ga K "System") "alive"))) rfl)
  have kali : PySem.W.keepIn K (.ref (He.ma K (He.ga K "System") "alive")) = true := (SaysB.ck c 136 (f := fun K => PySem.W.keepIn K (.ref (He.ma K (He.ga K "System") "alive"))) rfl)
  obtain ⟨fd_ali, F0ali⟩ := SaysB.def_ c 24 (d := (⟨("System", some "alive"), "alive", "System.alive", defArgs sAlive, defBody sAlive, defScope sAlive, [], []⟩ : He.DefD)) rfl
  have alim : PySem.W.findIn K (.ref (He.ga K "System")) "limits" = some (some (.ref (He.ma K (He.ga K "System") "limits"))) := of_decide_eq_true (SaysB.ck c 137 (f := fun K => decide (PySem.W.findIn K (.ref (He.ga K "System")) "limits" = some (some (.ref (He.ma K (He.ga K "System") "limits"))))) rfl)
  have pglim : PySem.W.specialIn K (.ref (He.ma K (He.ga K "System") "limits")) "__get__" = some (some (.builtin "property.__get__")) := of_decide_eq_true (SaysB.ck c 138 (f := fun K => decide (PySem.W.specialIn K (.ref (He.ma K (He.ga K "System") "limits")) "__get__" = some (some (.builtin "property.__get__")))) rfl)
  have ptlim : PySem.W.takesIn K (.ref (He.ma K (He.ga K "System") "limits")) = some true := of_decide_eq_true (SaysB.ck c 139 (f := fun K => decide (PySem.W.takesIn K (.ref (He.ma K (He.ga K "System") "limits")) = some true)) rfl)
  have prlim : ∃ rest, PySem.W.recIn K (He.ma K (He.ga K "System") "limits") "property" = some (.ref (gtA K (He.ma K (He.ga K "System") "limits")) :: rest) := gtB_ok (SaysB.ck c 140 (f := fun K => gtB K (He.ma K (He.ga K "System") "limits")) rfl)
  have klim : PySem.W.keepIn K (.ref (gtA K (He.ma K (He.ga K "System") "limits"))) = true := (SaysB.ck c 141 (f := fun K => PySem.W.keepIn K (.ref (gtA K (He.ma K (He.ga K "System") "limits")))) rfl)
  obtain ⟨fd_lim, F0lim⟩ := SaysB.defX c 0 (x := (⟨fun K => (gtA K (He.ma K (He.ga K "System") "limits")), ⟨("System", some "limits"), "limits", "System.limits", defArgs sLimits, defBody sLimits, defScope sLimits, [], []⟩⟩ : DefX)) rfl
  have anum : PySem.W.findIn K (.ref (He.ga K "System")) "numbers" = some (some (.ref (He.ma K (He.ga K "System") "numbers"))) := of_decide_eq_true (SaysB.ck c 142 (f := fun K => decide (PySem.W.findIn K (.ref (He.ga K "System")) "numbers" = some (some (.ref (He.ma K (He.ga K "System") "numbers"))))) rfl)
  have inum : PySem.W.isFn K (.ref (He.ma K (He.ga K "System") "numbers")) = true := (SaysB.ck c 143 (f := fun K => PySem.W.isFn K (.ref (He.ma K (He.ga K "System") "numbers"))) rfl)
  have knum : PySem.W.keepIn K (.ref (He.ma K (He.ga K "System") "numbers")) = true := (SaysB.ck c 144 (f := fun K => PySem.W.keepIn K (.ref (He.ma K (He.ga K "System") "numbers"))) rfl)
  obtain ⟨fd_num, F0num⟩ := SaysB.def_ c 25 (d := (⟨("System", some "numbers"), "numbers", "System.numbers", defArgs sNumbers, defBody sNumbers, defScope sNumbers, [], []⟩ : He.DefD)) rfl
  have atng : PySem.W.findIn K (.ref (He.ga K "System")) "things" = some (some (.ref (He.ma K (He.ga K "System") "things"))) := of_decide_eq_true (SaysB.ck c 145 (f := fun K => decide (PySem.W.findIn K (.ref (He.ga K "System")) "things" = some (some (.ref (He.ma K (He.ga K "System") "things"))))) rfl)
  have itng : PySem.W.isFn K (.ref (He.ma K (He.ga K "System") "things")) = true := (SaysB.ck c 146 (f := fun K => PySem.W.isFn K (.ref (He.ma K (He.ga K "System") "things"))) rfl)
  have ktng : PySem.W.keepIn K (.ref (He.ma K (He.ga K "System") "things")) = true := (SaysB.ck c 147 (f := fun K => PySem.W.keepIn K (.ref (He.ma K (He.ga K "System") "things"))) rfl)
  obtain ⟨fd_tng, F0tng⟩ := SaysB.def_ c 26 (d := (⟨("System", some "things"), "things", "System.things", defArgs sThings, defBody sThings, defScope sThings, [], []⟩ : He.DefD)) rfl
  have areg : PySem.W.findIn K (.ref (He.ga K "System")) "registrations" = some (some (.ref (He.ma K (He.ga K "System") "registrations"))) := of_decide_eq_true (SaysB.ck c 148 (f := fun K => decide (PySem.W.findIn K (.ref (He.ga K "System")) "registrations" = some (some (.ref (He.ma K (He.ga K "System") "registrations"))))) rfl)
  have ireg : PySem.W.isFn K (.ref (He.ma K (He.ga K "System") "registrations")) = true := (SaysB.ck c 149 (f := fun K => PySem.W.isFn K (.ref (He.ma K (He.ga K "System") "registrations"))) rfl)
  have kreg : PySem.W.keepIn K (.ref (He.ma K (He.ga K "System") "registrations")) = true := (SaysB.ck c 150 (f := fun K => PySem.W.keepIn K (.ref (He.ma K (He.ga K "System") "registrations"))) rfl)
  obtain ⟨fd_reg, F0reg⟩ := SaysB.def_ c 27 (d := (⟨("System", some "registrations"), "registrations", "System.registrations", defArgs sRegistrations, defBody sRegistrations, defScope sRegistrations, [], []⟩ : He.DefD)) rfl
  have xtIBl : PySem.W.typeIn K (.ref (He.ma K (He.ga K "BadLimit") "__init__")) = some (.type "function") := of_decide_eq_true (SaysB.ck c 151 (f := fun K => decide (PySem.W.typeIn K (.ref (He.ma K (He.ga K "BadLimit") "__init__")) = some (.type "function"))) rfl)
  have xtIFu : PySem.W.typeIn K (.ref (He.ma K (He.ga K "Full") "__init__")) = some (.type "function") := of_decide_eq_true (SaysB.ck c 152 (f := fun K => decide (PySem.W.typeIn K (.ref (He.ma K (He.ga K "Full") "__init__")) = some (.type "function"))) rfl)
  have xtINo : PySem.W.typeIn K (.ref (He.ma K (He.ga K "NoRoom") "__init__")) = some (.type "function") := of_decide_eq_true (SaysB.ck c 153 (f := fun K => decide (PySem.W.typeIn K (.ref (He.ma K (He.ga K "NoRoom") "__init__")) = some (.type "function"))) rfl)
  have z_len : PySem.W.nsIn K mainGlobals "len" = some none := of_decide_eq_true (SaysB.ck c 154 (f := fun K => decide (PySem.W.nsIn K mainGlobals "len" = some none)) rfl)
  have z_enumerate : PySem.W.nsIn K mainGlobals "enumerate" = some none := of_decide_eq_true (SaysB.ck c 155 (f := fun K => decide (PySem.W.nsIn K mainGlobals "enumerate" = some none)) rfl)
  have z_int : PySem.W.nsIn K mainGlobals "int" = some none := of_decide_eq_true (SaysB.ck c 156 (f := fun K => decide (PySem.W.nsIn K mainGlobals "int" = some none)) rfl)
  have z_abs : PySem.W.nsIn K mainGlobals "abs" = some none := of_decide_eq_true (SaysB.ck c 157 (f := fun K => decide (PySem.W.nsIn K mainGlobals "abs" = some none)) rfl)
  have z_isinstance : PySem.W.nsIn K mainGlobals "isinstance" = some none := of_decide_eq_true (SaysB.ck c 158 (f := fun K => decide (PySem.W.nsIn K mainGlobals "isinstance" = some none)) rfl)
  have z_bool : PySem.W.nsIn K mainGlobals "bool" = some none := of_decide_eq_true (SaysB.ck c 159 (f := fun K => decide (PySem.W.nsIn K mainGlobals "bool" = some none)) rfl)
  have z_list : PySem.W.nsIn K mainGlobals "list" = some none := of_decide_eq_true (SaysB.ck c 160 (f := fun K => decide (PySem.W.nsIn K mainGlobals "list" = some none)) rfl)
  have z_min : PySem.W.nsIn K mainGlobals "min" = some none := of_decide_eq_true (SaysB.ck c 161 (f := fun K => decide (PySem.W.nsIn K mainGlobals "min" = some none)) rfl)
  have z_max : PySem.W.nsIn K mainGlobals "max" = some none := of_decide_eq_true (SaysB.ck c 162 (f := fun K => decide (PySem.W.nsIn K mainGlobals "max" = some none)) rfl)
  have z_range : PySem.W.nsIn K mainGlobals "range" = some none := of_decide_eq_true (SaysB.ck c 163 (f := fun K => decide (PySem.W.nsIn K mainGlobals "range" = some none)) rfl)
  have z_sorted : PySem.W.nsIn K mainGlobals "sorted" = some none := of_decide_eq_true (SaysB.ck c 164 (f := fun K => decide (PySem.W.nsIn K mainGlobals "sorted" = some none)) rfl)
  have z_repr : PySem.W.nsIn K mainGlobals "repr" = some none := of_decide_eq_true (SaysB.ck c 165 (f := fun K => decide (PySem.W.nsIn K mainGlobals "repr" = some none)) rfl)
  have z_ValueError : PySem.W.nsIn K mainGlobals "ValueError" = some none := of_decide_eq_true (SaysB.ck c 166 (f := fun K => decide (PySem.W.nsIn K mainGlobals "ValueError" = some none)) rfl)
  have z_OverflowError : PySem.W.nsIn K mainGlobals "OverflowError" = some none := of_decide_eq_true (SaysB.ck c 167 (f := fun K => decide (PySem.W.nsIn K mainGlobals "OverflowError" = some none)) rfl)
  obtain ⟨tLP, gLP⟩ := intB_ok (SaysB.ck c 168 (f := fun K => intB (PySem.W.nsIn K mainGlobals "LEAST_PROCESSES") 2) rfl)
  obtain ⟨tLN, gLN⟩ := intB_ok (SaysB.ck c 169 (f := fun K => intB (PySem.W.nsIn K mainGlobals "LEAST_NUMBERS") 3) rfl)
  obtain ⟨tMP, gMP, sMP⟩ := atB_ok (SaysB.ck c 170 (f := fun K => atB K (PySem.W.findIn K (.ref (He.ga K "System")) "MOST_PROCESSES") 6) rfl)
  obtain ⟨tMN, gMN, sMN⟩ := atB_ok (SaysB.ck c 171 (f := fun K => atB K (PySem.W.findIn K (.ref (He.ga K "System")) "MOST_NUMBERS") 8) rfl)
  obtain ⟨tV6, cV6⟩ := cvB_ok (SaysB.ck c 172 (f := fun K => cvB (PySem.W.findCls K (.ref (He.ga K "System")) (.type "type") "MOST_PROCESSES") 6) rfl)
  obtain ⟨tV8, cV8⟩ := cvB_ok (SaysB.ck c 173 (f := fun K => cvB (PySem.W.findCls K (.ref (He.ga K "System")) (.type "type") "MOST_NUMBERS") 8) rfl)
  have crd : PySem.W.readsIn K (He.ga K "System") (.type "type") = true := (SaysB.ck c 174 (f := fun K => PySem.W.readsIn K (He.ga K "System") (.type "type")) rfl)
  have cga : PySem.W.specialIn K (.ref (He.ga K "System")) "__getattribute__" = some (some (.builtin "type.__getattribute__")) := of_decide_eq_true (SaysB.ck c 175 (f := fun K => decide (PySem.W.specialIn K (.ref (He.ga K "System")) "__getattribute__" = some (some (.builtin "type.__getattribute__")))) rfl)
  have xhdlaw : PySem.W.codeHdIn K (cdA K (He.ga K "law")) (ptA K (He.ga K "law")) = true := (SaysB.ck c 176 (f := fun K => PySem.W.codeHdIn K (cdA K (He.ga K "law")) (ptA K (He.ga K "law"))) rfl)
  have xb3 : mainGlobals ≠ (ptA K (He.ga K "law")) := of_decide_eq_true (SaysB.ck c 177 (f := fun K => decide (mainGlobals ≠ (ptA K (He.ga K "law")))) rfl)
  have nPt : K.lookup (ptA K (He.ga K "law")) = none := by
    have e := (SaysB.ck c 178 (f := fun K => (K.lookup (ptA K (He.ga K "law"))).isNone) rfl)
    exact Option.isNone_iff_eq_none.mp e
  exact ⟨all_mk (w := w) X G hfa gCS pgS hdS poS saS mkS kcS noS0 noS1 noS2 noS3 noS4 noS5 gCW pgW hdW poW saW mkW kcW noW0 noW1 gCBl xLBl xsaBl xgaBl xggBl xnbBl0 xvVBl xkCBl xeCBl xtCBl xhCBl xteBl xC1Bl xC4Bl xC5Bl xkvBl xC2 xC3 gCFu xLFu xsaFu xgaFu xggFu xnbFu0 xvVFu xkCFu xeCFu xtCFu xhCFu xteFu xC1Fu xC4Fu xC5Fu xkvFu gCNo xLNo xsaNo xgaNo xggNo xvVNo xkCNo xeCNo xtCNo xhCNo xteNo xC1No xC4No xC5No xkvNo aint kint F0int abet kbet F0bet abag kbag F0bag atake ktake F0take aof kof F0of aobj kobj F0obj aisf kisf F0isf aref kref F0ref afil kfil F0fil alaw klaw F0law hcdlaw axbl ixbl kxbl F0xbl axfu ixfu kxfu F0xfu axno ixno kxno F0xno awi iwi kwi F0wi asi isi ksi F0si acon icon kcon F0con atof itof ktof F0tof afrn ifrn kfrn F0frn anth inth knth F0nth anso inso knso F0nso anse inse knse F0nse afrp ifrp kfrp F0frp afrk ifrk kfrk F0frk alen ilen klen F0len aali iali kali F0ali alim pglim ptlim prlim klim F0lim anum inum knum F0num atng itng ktng F0tng areg ireg kreg F0reg xtIBl xtIFu xtINo z_len z_enumerate z_int z_abs z_isinstance z_bool z_list z_min z_max z_range z_sorted z_repr z_ValueError z_OverflowError gLP gLN gMP sMP gMN sMN cV6 cV8 crd cga xhdlaw xb3, nPt, isct X xhdlaw⟩
theorem walkTE {l : PySem.W.OpenLaw} {n k : Nat} {q : Program} {loose : List Str} {XP : (Str → Option Value) → Heap → Prop} {YP : World → Heap → Prop} {d : DefRec} {x : Str}
    (hn : l.most = some n) (hn2 : n ≤ sizeLine) (hdf : d.params.defaults = []) (hr : Room k callerA)
    (F : ∀ (w : World) (mg : Str → Option Value) (fa : Addr) (h : Heap), YP w h → h.Ns mainGlobals mg → mg d.name = some (.ref fa) →
      ∃ (K : PySem.W.Frag) (Pt : Addr) (fd : FuncData) (sp : Sp), K.In h ∧ h.get? Pt = some (PySem.W.tabObj #[]) ∧ K.lookup Pt = none ∧ isCodeTable h Pt ∧ (∀ (s : Shared) (u : Value), BindsTo s fd ⟨[u], []⟩ [(x, u)]) ∧ (∀ base : Heap, K.In base → base.Ns mainGlobals mg → base.BuiltinsAt mg Pt → FnG l.prog w K mg base CX0 k fa fd [x] sp) ∧
        ∀ (H : Hp) (a : Addr) (ns : List Int), ns.length ≤ n → SqL K H a (ns.map V.int) → H Pt = some (.tbl #[]) → sp [.ref a] H (fun v _ => v = .bl true) fun _ _ _ => False) :
    PySem.W.WalkO q loose XP YP l.row.toRowW d [] (fun f vs => PySem.call f vs) := by
  refine Att.attach_call hn hdf fun w s₀ s₁ mg mb fa o pm cd doc a vs ns G Y ho hd hcd hmg hobj hints hlen hg => ?_
  obtain ⟨K, Pt, fd, sp, KX, hP, nP, tP, hb, hF, hsp⟩ := F w mg fa _ Y G.T.g hmg
  have hbm : s₁.heap.BuiltinsAt mg Pt := by
    obtain ⟨bm, ob, b1, b2, b3, b4, b5, b6⟩ := G.T.bmain
    refine ⟨bm, ob, b1, b2, fun z => ?_, fun z => ?_, b3, b4, b5, b6⟩
    · obtain ⟨o, es, ep, e, d, r⟩ := G.T.g
      rw [z, e] at b3
      cases b3
      rw [d] at b6
      cases b6
    · rw [z, hP] at b3
      cases b3
      cases b6
  exact law_T KX G.T.g G.T.b G.T.builtins G.T.nolimit hg hobj hints (Nat.le_trans hlen hn2) hr hP nP tP (fun base k1 k2 _ _ k3 => hF base k1 k2 k3) hbm hb fun H hS hP => hsp H a ns hlen hS hP

end Wn
namespace Wn
open PySem PySem.Spec PyProof.Rows L2
abbrev Rw : PySem.W.OpenRow := PySem.W.OpenLaw.row PySem.Challenge.rw_waitnumbers_k23_limits_of_systems
abbrev tbL : Option Tb := (some fun K => (ptA K (He.ga K "law")))
abbrev exL : PySem.W.Frag → List Addr := fun K => [(gtA K (He.ma K (He.ga K "System") "limits"))]
abbrev hk : PySem.W.Hook := hookB 4 exL ckL fnL fxL tbL
def ob (s : PySem.W.SharedT) : He.AlD × Option Obj := obsB 4 exL ckL fnL fxL tbL (HandSHeadRun.getT s)
theorem ob_eq (s : PySem.W.SharedT) : ob s = hk.obs s.abs := obsB_eq (HandSHeadRun.getT_eq s)
def nm0 : List Str := ["_wall",
  "NoProcess",
  "NotOpen",
  "NotASource",
  "BadCount",
  "BadLimit",
  "Full",
  "NoRoom",
  "MOST_COUNT",
  "is_integer",
  "is_between",
  "is_count",
  "WaitingSet",
  "LEAST_PROCESSES",
  "LEAST_NUMBERS",
  "System",
  "_law_bag",
  "_law_take",
  "_law_of",
  "_law_object",
  "_law_is_from",
  "_law_refused",
  "_law_fills"]
def nmL : List Str := nm0
set_option maxRecDepth 100000 in
set_option maxHeartbeats 0 in
theorem run (w : World) : HandSHeadRun.RunEq Rw (PySem.W.view Rw.prog [28]) hk ob 7000 nmL w := by
  intro os
  kernel_rfl
end Wn
open PySem PySem.W PySem.Calls PyProof.Rows in
set_option maxRecDepth 100000 in
set_option maxHeartbeats 0 in
theorem PySem.Challenge.cw_waitnumbers_k23_limits_of_systems_holds : PySem.Challenge.rw_waitnumbers_k23_limits_of_systems.Holds := by
  w_on; o_law
  refine HandSHeadRun.head_any (r := OpenLaw.row PySem.Challenge.rw_waitnumbers_k23_limits_of_systems) (q := view (OpenLaw.row PySem.Challenge.rw_waitnumbers_k23_limits_of_systems).prog [28]) (H := Wn.hk) (ob := Wn.ob) (M := 7000) (loose := Wn.nmL) (d := HandSHeadRun.topDef (OpenLaw.row PySem.Challenge.rw_waitnumbers_k23_limits_of_systems).prog 28) (kwd := []) Wn.ob_eq
    (by kernel_rfl) (fun s => by kernel_rfl) Wn.run (by kernel_rfl) (by kernel_rfl) (by kernel_rfl) (by rfl) (by first | assumption | decide +kernel) (by decide +kernel) ⟨rfl, rfl, rfl, rfl, rfl, by decide +kernel⟩ ?hw ?hc
  case hw => w_witness2
  case hc =>
    refine Wn.walkTE (l := PySem.Challenge.rw_waitnumbers_k23_limits_of_systems) (n := 63) (k := 8) (x := "_law_script") rfl (by decide) (by kernel_rfl) ⟨rfl, by decide, by decide⟩ ?F
    intro w mg fa h Y G hmg0
    obtain ⟨K, KX, c, ht⟩ := Y
    have hmg : mg ("law" : PySem.Str) = some (.ref fa) := by
      have e : (HandSHeadRun.topDef Wn.Rw.prog 28).name = ("law" : PySem.Str) := by kernel_rfl
      rw [← e]
      exact hmg0
    obtain ⟨⟨fd, hb, hF, hs⟩, nP, tP⟩ := Wn.facts (P := (PySem.Challenge.rw_waitnumbers_k23_limits_of_systems).prog) (w := w) KX G hmg c
    exact ⟨K, _, fd, _, KX, ht _ rfl, nP, tP, hb, hF, hs⟩

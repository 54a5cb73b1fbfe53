import PyProof.Rows.All
import Wide.All
import OpenK.AllK
import Wide.FinOn
import HandS.ForMost
import HandS.Wide
import HandS.Evl
import HandS.Walk
import HandS.NoneIn
import HandS.IsInst
import HandS.More
import HandS.Defaults
import HandS.MakeKwOnly
import HandS.Conv
import HandS.Style
import HandS.OwnEq
import HandS.ExcInit
import HandS.ExcField
import HandS.ExcOwn
import KE.KExcInit
import KE.KExcIs
import HandS.FStr
import HandS.WordsExc
import HandS.FStrTup
import HandS.RaiseMore
import HandS.Lambda
import HandS.EndTab
import HandS.TryMany
import HandS.Flow
import PyProof.ReprLen
import PyProof.FitsInt
import HandS.ExcIs
import HandS.Sort
import PySem.Challenge.RW_waitnumbers_k05_units_of_sources
set_option Elab.async false
set_option linter.all false
set_option maxRecDepth 100000
set_option maxHeartbeats 4000000
namespace Wn
open PySem PySem.Spec PyProof.Rows L2 Evl
def top (i : Nat) : Stmt := PySem.Challenge.pw_waitnumbers_k05_units_of_sources.main.body.getD i (.Pass ⟨0, 0, 0, 0⟩)
abbrev sBag : Stmt := top 21
abbrev sTake : Stmt := top 22
abbrev sOf : Stmt := top 23
/-! readings with names -/
def rInt1 : List V → Hp → VK → Prop := fun xs H Q => (∃ i, xs = [.int i] ∧ Q (.int i) H) ∨ ∃ k, xs = [.bl k] ∧ Q (.int (if k = true then 1 else 0)) H
def rAbs : List V → Hp → VK → Prop := fun xs H Q => ∃ i, xs = [.int i] ∧ Q (.int (if i < 0 then -i else i)) H
theorem cInt1 {X : Cx} : CallR X (.type "int") rInt1 := call_int1
theorem cAbs {X : Cx} : CallR X (.builtin "abs") rAbs := call_abs
def rIsN : R2 := fun x y H Q => y = .non ∧ Q (.bl (decide (x = .non))) H
def rNotN : R2 := fun x y H Q => y = .non ∧ Q (.bl (!decide (x = .non))) H
def rAddS : R2 := fun x y H Q => ∃ i j, x = .str i ∧ y = .str j ∧ i.length + j.length ≤ sizeLine ∧ Q (.str (i ++ j)) H
def rLenQ (K : PySem.W.Frag) : List V → Hp → VK → Prop := fun xs H Q => ∃ p ys, xs = [.ref p] ∧ (SqL K H p ys ∨ SqT K H p ys) ∧ Q (.int ys.length) H
def rLenS : List V → Hp → VK → Prop := fun xs H Q => ∃ z, xs = [.str z] ∧ z.length ≤ sizeLine ∧ Q (.int z.length) H
def rMax2 : List V → Hp → VK → Prop := fun xs H Q => ∃ i j, xs = [.int i, .int j] ∧ Q (.int (if j > i then j else i)) H
def rMin2 : List V → Hp → VK → Prop := fun xs H Q => ∃ i j, xs = [.int i, .int j] ∧ Q (.int (if j < i then j else i)) H
theorem oIsN {X : Cx} : OpR X (compareOp .Is) rIsN := op_isN
theorem oNotN {X : Cx} : OpR X (compareOp .IsNot) rNotN := op_notN
theorem oAddS {X : Cx} : OpR X (binaryOp .Add) rAddS := op_add_str
theorem cLenQ {X : Cx} : CallR X (.builtin "len") (rLenQ X.K) := call_len_seq
theorem cLenS {X : Cx} : CallR X (.builtin "len") rLenS := call_len_str
theorem cMax2 {X : Cx} (hc : X.calm = true) : CallR X (.builtin "max") rMax2 := call_max2 hc
theorem cMin2 {X : Cx} (hc : X.calm = true) : CallR X (.builtin "min") rMin2 := call_min2 hc
/-! one step of a reading -/
section
variable {σ : L2.St} {H : Hp} {Q : VK} {ta tb te : TE} {tl : TA} {t u : TS} {D : Ends} {c : TT} {r : R2} {v : V} {i : Nat}
theorem g_var (h : σ[i]? = some (some v)) (q : Q v H) : tVar i σ H Q := ⟨v, h, q⟩
theorem g_c (q : Q v H) : tC v σ H Q := q
theorem g_op (q : ta σ H fun x H1 => tb σ H1 fun y H2 => r x y H2 Q) : tOp r ta tb σ H Q := q
theorem g_un {r : V → Hp → VK → Prop} (q : ta σ H fun x H1 => r x H1 Q) : tUn r ta σ H Q := q
theorem g_rI0 {g : Int → Int → V} {a b : Int} (q : Q (g a b) H) : rI0 g (.int a) (.int b) H Q := ⟨a, b, rfl, rfl, q⟩
theorem g_rI {C : Int → Int → Prop} {g : Int → Int → V} {a b : Int} (hc : C a b) (q : Q (g a b) H) : rI C g (.int a) (.int b) H Q := ⟨a, b, rfl, rfl, hc, q⟩
theorem g_mul {a b : Int} (h : (-(2 ^ 64) < a ∧ a < 2 ^ 64) ∨ (-(2 ^ 64) < b ∧ b < 2 ^ 64)) (q : Q (.int (a * b)) H) : rI CMul (fun i j => .int (i * j)) (.int a) (.int b) H Q := ⟨a, b, rfl, rfl, h, q⟩
theorem g_mod {a b : Int} (h : 0 < b) (q : Q (.int (a % b)) H) : rI (fun _ j => 0 < j) (fun i j => .int (i % j)) (.int a) (.int b) H Q := ⟨a, b, rfl, rfl, h, q⟩
theorem g_rEq {x y : V} (h : scal x y = true) (q : Q (.bl (decide (x = y))) H) : rEq x y H Q := ⟨h, q⟩
theorem g_rNe {x y : V} (h : scal x y = true) (q : Q (.bl (!decide (x = y))) H) : rNe x y H Q := ⟨h, q⟩
theorem g_asg {g : TG} (q : te σ H fun x H1 => g x σ H1 D.nx) : tAsg te g D σ H := q
theorem g_name {k : L2.St → Hp → Prop} (q : k (σ.set i (some v)) H) : gName i v σ H k := q
theorem g_seq (q : t { D with nx := u D } σ H) : tSeq t u D σ H := q
theorem g_ret (q : te σ H D.rt) : tRet te D σ H := q
theorem g_retN (q : D.rt .non H) : tRetN D σ H := q
theorem g_next (q : D.nx σ H) : tNext D σ H := q
theorem g_drop (q : te σ H fun _ H1 => D.nx σ H1) : tDrop te D σ H := q
theorem g_nil {k : List V → Hp → Prop} (q : k [] H) : tNil σ H k := q
theorem g_cons {k : List V → Hp → Prop} (q : ta σ H fun x H1 => tl σ H1 fun xs H2 => k (x :: xs) H2) : tCons ta tl σ H k := q
theorem g_cb {r : List V → Hp → VK → Prop} (q : tl σ H fun vs H1 => r vs H1 Q) : tCB r tl σ H Q := q
theorem g_test {k : Bool → Hp → Prop} (q : te σ H fun x H1 => ∃ b, x = .bl b ∧ k b H1) : tTest te σ H k := q
theorem g_tB {k : Bool → Hp → Prop} (q : te σ H fun x H1 => ∃ b, x = .bl b ∧ k b H1) : tB te σ H k := q
theorem g_bl {b : Bool} {k : Bool → Prop} (q : k b) : ∃ z, V.bl b = .bl z ∧ k z := ⟨b, rfl, q⟩
theorem g_if (q : c σ H fun b H1 => if b = true then ta σ H1 Q else tb σ H1 Q) : tIf c ta tb σ H Q := q
theorem g_ifs (q : c σ H fun b H1 => if b = true then t D σ H1 else u D σ H1) : tIfS c t u D σ H := q
theorem g_not {k : Bool → Hp → Prop} (q : c σ H fun b H1 => k (!b) H1) : tNot c σ H k := q
theorem g_part {k : Option Int → Hp → Prop} (q : te σ H fun x H1 => ∃ z, x = .int z ∧ k (some z) H1) : tPart te σ H k := q
theorem g_pint {z : Int} {k : Int → Prop} (q : k z) : ∃ y, V.int z = .int y ∧ k y := ⟨z, rfl, q⟩
theorem g_lst (q : tl σ H fun xs H1 => xs.length ≤ sizeLine ∧ ∀ p, H1 p = none → Q (.ref p) (upd H1 p (.lst xs))) : tLst tl σ H Q := q
theorem g_tup (q : tl σ H fun xs H1 => xs.length ≤ sizeLine ∧ ∀ p, H1 p = none → Q (.ref p) (upd H1 p (.tup xs))) : tTup tl σ H Q := q
theorem g_ixL {K : PySem.W.Frag} {p : Addr} {xs : List V} {z : Int} (h : H p = some (.lst xs)) (a : atI xs z = some v) (q : Q v H) : rIxL K (.ref p) (.int z) H Q := ⟨p, xs, z, v, rfl, rfl, SqL.of h, a, q⟩
theorem cdivw_of {a b : Int} (h0 : 0 < b) (h1 : b < 4611686018427387904) : CDivW a b := wide_div (b := 62) h0 (by omega) (by decide) (by decide)
theorem g_div {a b : Int} (h0 : 0 < b) (h1 : b < 4611686018427387904) (q : Q (.int (a / b)) H) : rI CDivW (fun i j => .int (i / j)) (.int a) (.int b) H Q := ⟨a, b, rfl, rfl, cdivw_of h0 h1, q⟩
theorem g_sub {to ti : TE} {ts : TSet} {k : L2.St → Hp → Prop} (q : to σ H fun o H1 => ti σ H1 fun i H2 => ts o i v H2 fun H3 => k σ H3) : gSub to ti ts v σ H k := q
theorem g_setL {p : Addr} {xs : List V} {z : Int} {j : Nat} {k : Hp → Prop} (h : H p = some (.lst xs)) (a : ixN xs.length z = some j) (q : k (upd H p (.lst (xs.set j v)))) : rSetL (.ref p) (.int z) v H k := ⟨p, xs, z, j, rfl, rfl, h, a, q⟩
theorem g_nopart {k : Option Int → Hp → Prop} (q : k none H) : tNoPart σ H k := q
theorem g_call {sp : Sp} {dvs : List V} {E : XK} (q : tl σ H fun vs H1 => sp (vs ++ dvs) H1 Q E) : tCall sp dvs E tl σ H Q := q
theorem g_rint (z : Int) (q : Q (.int z) H) : rInt1 [.int z] H Q := .inl ⟨z, rfl, q⟩
theorem g_rabs {z : Int} (q : Q (.int (if z < 0 then -z else z)) H) : rAbs [.int z] H Q := ⟨z, rfl, q⟩
theorem g_sl {r : V → Option Int → Option Int → Hp → VK → Prop} {a b : TO} (q : te σ H fun x H1 => a σ H1 fun l H2 => b σ H2 fun h H3 => r x l h H3 Q) : tSl r te a b σ H Q := q
theorem g_rIsN {x : V} (q : Q (.bl (decide (x = .non))) H) : rIsN x .non H Q := ⟨rfl, q⟩
theorem g_rNotN {x : V} (q : Q (.bl (!decide (x = .non))) H) : rNotN x .non H Q := ⟨rfl, q⟩
theorem g_lenL {K : PySem.W.Frag} {p : Addr} {xs : List V} (h : H p = some (.lst xs)) (q : Q (.int xs.length) H) : rLenQ K [.ref p] H Q := ⟨p, xs, rfl, .inl (SqL.of h), q⟩
theorem g_max2 {a b : Int} (q : Q (.int (if b > a then b else a)) H) : rMax2 [.int a, .int b] H Q := ⟨a, b, rfl, q⟩
theorem g_min2 {a b : Int} (q : Q (.int (if b < a then b else a)) H) : rMin2 [.int a, .int b] H Q := ⟨a, b, rfl, q⟩
theorem g_and {t u : TT} {k : Bool → Hp → Prop} (q : t σ H fun b H1 => if b = true then u σ H1 k else k false H1) : tAnd t u σ H k := q
theorem g_or {t u : TT} {k : Bool → Hp → Prop} (q : t σ H fun b H1 => if b = true then k true H1 else u σ H1 k) : tOr t u σ H k := q
theorem g_orV (q : ta σ H fun x H1 => ∃ b, x = .bl b ∧ if b = true then Q (.bl true) H1 else tb σ H1 Q) : tOrV ta tb σ H Q := q
theorem g_andV (q : ta σ H fun x H1 => ∃ b, x = .bl b ∧ if b = true then tb σ H1 Q else Q (.bl false) H1) : tAndV ta tb σ H Q := q
theorem g_notV (q : ta σ H fun x H1 => ∃ b, x = .bl b ∧ Q (.bl (!b)) H1) : tNotV ta σ H Q := q
theorem g_m0 {r : V → List V → Hp → VK → Prop} (q : ta σ H fun x H1 => (∃ a, x = .str a) ∧ r x [] H1 Q) : tM0 r ta σ H Q := q
theorem g_m1 {r : V → List V → Hp → VK → Prop} (q : ta σ H fun x H1 => (∃ a, x = .str a) ∧ tb σ H1 fun y H2 => r x [y] H2 Q) : tM1 r ta tb σ H Q := q
theorem g_isS {z : Str} {c : Prop} (q : c) : (∃ a, V.str z = .str a) ∧ c := ⟨⟨z, rfl⟩, q⟩
theorem g_bT {A B : Prop} (q : A) : if true = true then A else B := iteT q
theorem g_bF {A B : Prop} (q : B) : if false = true then A else B := iteF q
theorem g_bNT {A B : Prop} (q : B) : if (!true) = true then A else B := iteF q
theorem g_bNF {A B : Prop} (q : A) : if (!false) = true then A else B := iteT q
theorem g_bm {K : PySem.W.Frag} {T : String} {r : V → List V → Hp → VK → Prop} (q : ta σ H fun x H1 => tyV K T x H1 ∧ tl σ H1 fun xs H2 => r x xs H2 Q) : tBM K T r ta tl σ H Q := q
theorem g_bm0 {K : PySem.W.Frag} {T : String} {r : V → List V → Hp → VK → Prop} (q : ta σ H fun x H1 => tyV K T x H1 ∧ r x [] H1 Q) : tBM0 K T r ta σ H Q := q
theorem g_tyL {K : PySem.W.Frag} {p : Addr} {xs : List V} {c : Prop} (h : H p = some (.lst xs)) (q : c) : tyV K "list" (.ref p) H ∧ c := ⟨.inl ⟨rfl, _, SqL.of h⟩, q⟩
theorem g_lit {L : List V} {n : Nat} (h : L.length ≤ n) (z : n ≤ 100) : L.length ≤ 100 := Nat.le_trans h z
theorem g_yes {k : Bool → Hp → Prop} (q : k true H) : tYes σ H k := q
theorem g_nes {x : V} {A B : Prop} (q : B) : if (!decide (x = x)) = true then A else B := by
  rw [decide_eq_true rfl]
  exact iteF q
theorem g_es {x : V} {A B : Prop} (q : A) : if decide (x = x) = true then A else B := by
  rw [decide_eq_true rfl]
  exact iteT q
theorem g_callK {sp : Sp} {gV : List V → List V → List V} {E : XK} {tk : TA} (q : tl σ H fun vs H1 => tk σ H1 fun zs H2 => sp (gV vs zs) H2 Q E) : tCallK sp gV E tl tk σ H Q := q
theorem g_isN {x : V} (q : ta σ H fun x H1 => Q (.bl (decide (x = .non))) H1) : tIsN ta σ H Q := q
end
local macro_rules | `(tactic| walk_at "wn1") => `(tactic| first | ((with_reducible show (if (!decide _) = true then _ else _)); refine' g_nes ?_) | ((with_reducible show (if (decide _) = true then _ else _)); refine' g_es ?_) | with_reducible first
  | (refine' g_var ?h ?q; (case h => with_unfolding_all rfl))
  | refine' g_c ?_ | refine' g_op ?_ | refine' g_rI0 ?_ | refine' g_asg ?_ | refine' g_name ?_ | refine' g_seq ?_ | refine' g_ret ?_ | refine' g_retN ?_ | refine' g_next ?_ | refine' g_drop ?_
  | refine' g_nil ?_ | refine' g_cons ?_ | refine' g_cb ?_ | refine' g_test ?_ | refine' g_bl ?_ | refine' g_if ?_ | refine' g_ifs ?_ | refine' g_not ?_ | refine' g_part ?_ | refine' g_pint ?_ | refine' g_nopart ?_ | refine' g_call ?_
  | (refine' g_mul ?h ?q; (case h => with_unfolding_all first | exact Or.inl ⟨by decide, by decide⟩ | exact Or.inr ⟨by decide, by decide⟩ | exact Or.inl ⟨by omega, by omega⟩ | exact Or.inr ⟨by omega, by omega⟩))
  | (refine' g_mod ?h ?q; (case h => with_unfolding_all first | decide | omega))
  | refine' g_rIsN ?_ | refine' g_rNotN ?_ | refine' g_max2 ?_ | refine' g_min2 ?_ | refine' g_and ?_ | refine' g_or ?_ | refine' g_orV ?_ | refine' g_andV ?_ | refine' g_notV ?_ | refine' g_m1 ?_ | refine' g_yes ?_ | refine' g_bm ?_ | refine' g_bm0 ?_
  | (refine' g_tyL ?h ?q; (case h => first | assumption | exact upd_same))
  | refine' g_m0 ?_ | refine' g_tB ?_ | refine' g_isS ?_ | refine' g_bT ?_ | refine' g_bF ?_ | refine' g_bNT ?_ | refine' g_callK ?_ | refine' g_bNF ?_
  | (refine' g_lenL ?h ?q; (case h => first | assumption | exact upd_same))
  | refine' g_un ?_ | refine' g_rint _ ?_ | refine' g_rabs ?_ | refine' g_sl ?_ 
  | (refine' g_ixL ?h ?a ?q; (case h => first | assumption | exact upd_same); (case a => with_unfolding_all rfl))
  | (refine' g_div ?h0 ?h1 ?q; (case h0 => with_unfolding_all first | decide | omega); (case h1 => with_unfolding_all first | decide | omega))
  | refine' g_sub ?_
  | (refine' g_setL ?h ?a ?q; (case h => first | assumption | exact upd_same); (case a => with_unfolding_all rfl))
  | refine' g_lst ?_ | refine' g_tup ?_
  | (refine' g_rEq ?h ?q; (case h => with_unfolding_all rfl)) | (refine' g_rNe ?h ?q; (case h => with_unfolding_all rfl)))
local macro_rules | `(tactic| walk_at "wn") => `(tactic| repeat walk_at "wn1")

/-! the bag of draws: two numbers that are not negative, the second one below 2 ^ 31 -/
def BagAt (H : Hp) (p : Addr) : Prop := ∃ a b : Int, H p = some (.lst [.int a, .int b]) ∧ 0 ≤ a ∧ 0 ≤ b ∧ b < 2147483648
def Dr (p : Addr) (H H' : Hp) : Prop := (∀ a o, a ≠ p → H a = some o → H' a = some o) ∧ BagAt H' p
theorem Dr.refl {p : Addr} {H : Hp} (b : BagAt H p) : Dr p H H := ⟨fun _ _ _ h => h, b⟩
theorem Dr.trans {p : Addr} {H H1 H2 : Hp} (a : Dr p H H1) (b : Dr p H1 H2) : Dr p H H2 := ⟨fun x o n h => b.1 x o n (a.1 x o n h), b.2⟩
theorem Dr.ex {p : Addr} {H H1 : Hp} (b : BagAt H p) (e : Ex H H1) : Dr p H H1 := ⟨fun x o _ h => e x o h, by
  obtain ⟨u, v, h, r⟩ := b
  exact ⟨u, v, e _ _ h, r⟩⟩
theorem seq_at {K : PySem.W.Frag} {H H' : Hp} {l : Addr} {xs : List V} (e : H' l = H l) (h : SqL K H l xs) : SqL K H' l xs := by
  rcases h with (h | ⟨o, h⟩) | h
  · exact .inl (.inl (e.trans h))
  · exact .inl (.inr ⟨o, e.trans h⟩)
  · exact .inr h
theorem seqT_at {K : PySem.W.Frag} {H H' : Hp} {l : Addr} {xs : List V} (e : H' l = H l) (h : SqT K H l xs) : SqT K H' l xs := by
  rcases h with (h | ⟨o, h⟩) | h
  · exact .inl (.inl (e.trans h))
  · exact .inl (.inr ⟨o, e.trans h⟩)
  · exact .inr h
structure DrawTxt (mg : Str → Option Value) : Prop where
  len : mg "len" = none
  enum : mg "enumerate" = none
  int : mg "int" = none
  abs : mg "abs" = none
def spBag (K : PySem.W.Frag) : Sp := fun vs H Q _ => ∃ (a : Addr) (ns : List Int) (i : Nat), vs = [.ref a, .int i] ∧ SqL K H a (ns.map V.int) ∧ ns.length ≤ 63 ∧ i ≤ 100 ∧
  ∀ (H' : Hp) (p : Addr), H p = none → Same H H' → BagAt H' p → Q (.ref p) H'
def spTake : Sp := fun vs H Q _ => ∃ (p : Addr) (m : Int), vs = [.ref p, .int m] ∧ BagAt H p ∧ 0 < m ∧ m < 4611686018427387904 ∧
  ∀ (k : Int) (H' : Hp), 0 ≤ k → k < m → (∀ b, b ≠ p → H' b = H b) → BagAt H' p → Q (.int k) H'
def spOf (K : PySem.W.Frag) : Sp := fun vs H Q _ => ∃ (p l : Addr) (xs : List V), vs = [.ref p, .ref l] ∧ BagAt H p ∧ SqL K H l xs ∧ l ≠ p ∧ 0 < xs.length ∧ xs.length ≤ 1000 ∧
  ∀ (k : Nat) (v : V) (H' : Hp), xs[k]? = some v → (∀ b, b ≠ p → H' b = H b) → BagAt H' p → Q v H'
section
variable {P : Program} {w : World} {K : PySem.W.Frag} {mg : Str → Option Value} {base : Heap}
theorem scBag : FnScope ["_law_script", "_law_at", "_law_cell", "_law_blend", "_law_k", "_law_each"] ["_law_script", "_law_at"] (defScope sBag) := ⟨rfl, rfl, rfl, by decide +kernel, rfl, by decide +kernel, by decide +kernel⟩
theorem okBag {f : Addr} {fd : FuncData} (F : Fun K "_law_bag" "_law_bag" sBag f fd) (T : DrawTxt mg) : FnOk P w K mg base CX0 1 f fd ["_law_script", "_law_at"] (spBag K) := by
  refine F.ok scBag (fun vs H Q E h => ?_) (fun cdv A outer s H vs Q E hr h => ?_)
  · obtain ⟨a, ns, i, rfl, _⟩ := h
    rfl
  · obtain ⟨a, ns, i, rfl, hS, hl, hi, k⟩ := h
    refine ⟨_, pss_cut (ps_set (i := 2) scBag.nd rfl (Or.inl rfl) (pe_ifExp (pt_cmpR op_lt (pv 1) (pe_callB cLenQ (by rfl) T.len PySem.boot_len (pa_cons (pv 0) pa_nil)) (nomark _)) (pe_ix ix_list (pv 0) (pv 1) (fun _ _ => rfl)) pe_int))
      (pss_cons (ps_set (i := 3) scBag.nd rfl (Or.inl rfl) (pe_op op_add (pe_op op_mul pe_int (pv 1)) pe_int))
      (pss_cut (ps_for PassesOwn.never rfl (pi_enum (by rfl) T.enum (pa_cons (pe_slice sl_list (pv 0) po_none (po_some pe_int)) pa_nil)) (pg_tup rfl (pgs_cons (pg_name (i := 4) scBag.nd rfl (Or.inl rfl)) (pgs_cons (pg_name (i := 5) scBag.nd rfl (Or.inl rfl)) pgs_nil)))
        (pss_one (ps_set (i := 3) scBag.nd rfl (Or.inl rfl) (pe_op op_mod (pe_callTy cInt1 (by rfl) T.int PyProof.Rows.boot_int (pa_cons (pe_op op_add (pe_op op_add (pe_op op_add (pe_op op_mul (pv 3) pe_int) (pe_op op_mod (pe_callTy cInt1 (by rfl) T.int PyProof.Rows.boot_int (pa_cons (pv 5) pa_nil)) pe_int)) (pe_op op_mul pe_int (pv 4))) pe_int) pa_nil)) pe_int))))
      (pss_one (ps_ret (pe_lst (pa_cons (pe_ifExp (pt_cmpR op_ge (pe_callB cAbs (by rfl) T.abs (by decide +kernel) (pa_cons (pv 2) pa_nil)) (pe_op op_pow pe_int pe_int) (nomark _)) (pe_callB cAbs (by rfl) T.abs (by decide +kernel) (pa_cons (pv 2) pa_nil)) pe_int) (pa_cons (pv 3) pa_nil))))))), ?_⟩
    refine ⟨fun σ' H' => ∃ c : Int, σ' = [some (.ref a), some (.int i), some (.int c), none, none, none] ∧ H' = H, ?_, ?_⟩
    · walk_at "wn"
      refine ⟨a, _, rfl, .inl hS, ?_⟩
      walk_at "wn"
      refine ite2 (fun hc => ?_) (fun hc => ?_)
      · have hlt : i < (ns.map V.int).length := by have := of_decide_eq_true hc; omega
        rw [List.length_map] at hlt
        walk_at "wn"
        refine ⟨a, _, _, _, rfl, rfl, hS, atI_nat (v := V.int (ns[i])) (by rw [List.getElem?_map, List.getElem?_eq_getElem hlt]; rfl), ?_⟩
        exact ⟨_, rfl, rfl⟩
      · exact ⟨0, rfl, rfl⟩
    · rintro σ' H' ⟨c, rfl, rfl⟩
      walk_at "wn"
      refine ⟨fun σ' H2 => ∃ (b : Int) (u v : Option V), 0 ≤ b ∧ b < 2147483648 ∧ σ' = [some (.ref a), some (.int i), some (.int c), some (.int b), u, v] ∧ Same H' H2, ?_, ?_⟩
      · show tSl _ _ _ _ _ _ _
        walk_at "wn"
        refine ⟨a, _, rfl, hS, fun p hp => ?_⟩
        walk_at "wn"
        refine ⟨p, _, rfl, SqL.of upd_same, ?_⟩
        refine for_it (walk_enum (xs := cutV (ns.map V.int) none (some 40))) (fun j σ' H3 => ∃ (b : Int) (u v : Option V), 0 ≤ b ∧ b < 2147483648 ∧ σ' = [some (.ref a), some (.int i), some (.int c), some (.int b), u, v] ∧ Same (upd H' p (.lst (cutV (ns.map V.int) none (some 40)))) H3) ?_ ?_ ?_ ?_
        · exact ⟨_, none, none, by omega, by omega, rfl, Same.refl _⟩
        · rintro j σ' H3 hj ⟨b, u, v, b0, b1, rfl, sm⟩
          exact sm.seq (SqL.of upd_same)
        · rintro j x σ' H3 H4 hj ⟨b, u, v, b0, b1, rfl, sm⟩ ⟨T1, x1, y1, rfl, nT, rfl, hx, hy⟩
          obtain rfl := Option.some.inj hx
          obtain ⟨z, rfl⟩ : ∃ z, y1 = V.int z := by
            have q : y1 ∈ ns.map V.int := List.mem_of_mem_drop (List.mem_of_mem_take (List.mem_of_getElem? hy))
            obtain ⟨z, _, e⟩ := List.mem_map.mp q
            exact ⟨z, e.symm⟩
          refine ⟨T1, _, rfl, SqT.of upd_same, rfl, _, _, rfl, ?_⟩
          walk_at "wn"
          refine ⟨_, _, rfl, ?_⟩
          walk_at "wn"
          refine ⟨rfl, ?_⟩
          walk_at "wn"
          refine ⟨_, _, _, by omega, by omega, rfl, fun x o hx => ?_⟩
          rw [upd_ne (ne_of_none (sm _ _ hx) nT)]
          exact sm _ _ hx
        · rintro σ' H3 ⟨b, u, v, b0, b1, rfl, sm⟩
          exact ⟨b, u, v, b0, b1, rfl, fun x o hx => sm _ _ (by rw [upd_ne (ne_of_none hx hp)]; exact hx)⟩
      · rintro σ' H2 ⟨b, u, v, b0, b1, rfl, sm⟩
        walk_at "wn"
        refine g_rI ⟨by decide, by decide, by decide⟩ ?_
        walk_at "wn"
        have fin : ∀ z : Int, 0 ≤ z → ([V.int z, V.int b].length ≤ sizeLine ∧ ∀ p, H2 p = none → Q (V.ref p) (upd H2 p (HO.lst [V.int z, V.int b]))) := fun z hz => ⟨by show 2 ≤ sizeLine; decide, fun p hp => k _ p (sm.free hp) (fun x o hx => by
          rw [upd_ne (ne_of_none (sm _ _ hx) hp)]
          exact sm _ _ hx) ⟨z, b, upd_same, hz, b0, b1⟩⟩
        refine ite2 (fun hc => ?_) (fun hc => ?_)
        · walk_at "wn"
          exact fin _ (by split <;> omega)
        · walk_at "wn"
          exact fin 0 (by decide)
theorem scTake : FnScope ["_law_bag_here", "_law_lot", "_law_digit"] ["_law_bag_here", "_law_lot"] (defScope sTake) := ⟨rfl, rfl, rfl, by decide +kernel, rfl, by decide +kernel, by decide +kernel⟩
theorem okTake {f : Addr} {fd : FuncData} (F : Fun K "_law_take" "_law_take" sTake f fd) (T : DrawTxt mg) : FnOk P w K mg base CX0 1 f fd ["_law_bag_here", "_law_lot"] spTake := by
  refine F.ok scTake (fun vs H Q E h => ?_) (fun cdv A outer s H vs Q E hr h => ?_)
  · obtain ⟨a, m, rfl, _⟩ := h
    rfl
  · obtain ⟨p, m, rfl, ⟨a, b, hp, a0, b0, b1⟩, m0, m1, k⟩ := h
    refine ⟨_, pss_cons (ps_if (pt_cmpR op_gt (pe_ix ix_list (pv 0) pe_int (fun _ _ => rfl)) pe_int (nomark _))
        (pss_cons (ps_set (i := 2) scTake.nd rfl (Or.inl rfl) (pe_op op_mod (pe_callTy cInt1 (by rfl) T.int PyProof.Rows.boot_int (pa_cons (pe_ix ix_list (pv 0) pe_int (fun _ _ => rfl)) pa_nil)) (pv 1)))
        (pss_cons (ps_asg (pe_op op_fdivW (pe_ix ix_list (pv 0) pe_int (fun _ _ => rfl)) (pv 1)) (pg_sub (pv 0) pe_int set_list))
        (pss_one (ps_ret (pv 2))))) pss_nil)
      (pss_cons (ps_asg (pe_op op_mod (pe_callTy cInt1 (by rfl) T.int PyProof.Rows.boot_int (pa_cons (pe_op op_add (pe_op op_mul (pe_ix ix_list (pv 0) pe_int (fun _ _ => rfl)) pe_int) pe_int) pa_nil)) pe_int) (pg_sub (pv 0) pe_int set_list))
      (pss_one (ps_ret (pe_op op_mod (pe_op op_fdivW (pe_op op_mod (pe_callTy cInt1 (by rfl) T.int PyProof.Rows.boot_int (pa_cons (pe_op op_mul (pe_op op_fdivW (pe_ix ix_list (pv 0) pe_int (fun _ _ => rfl)) pe_int) pe_int) pa_nil)) pe_int) pe_int) (pv 1))))), ?_⟩
    walk_at "wn"
    refine ite2 (fun hc => ?_) (fun hc => ?_)
    · walk_at "wn"
      refine k _ _ (Int.emod_nonneg _ (by omega)) (Int.emod_lt_of_pos _ m0) (fun x hx => upd_ne hx) ⟨_, _, upd_same, Int.ediv_nonneg a0 (by omega), b0, b1⟩
    · walk_at "wn"
      refine k _ _ (Int.emod_nonneg _ (by omega)) (Int.emod_lt_of_pos _ m0) (fun x hx => upd_ne hx) ⟨_, _, upd_same, a0, by omega, by omega⟩
theorem scOf : FnScope ["_law_bag_here", "_law_some"] ["_law_bag_here", "_law_some"] (defScope sOf) := ⟨rfl, rfl, rfl, by decide +kernel, rfl, by decide +kernel, by decide +kernel⟩
theorem okOf {f fT : Addr} {fd fdT : FuncData} (F : Fun K "_law_of" "_law_of" sOf f fd) (T : DrawTxt mg) (FT : Fun K "_law_take" "_law_take" sTake fT fdT) (gT : mg "_law_take" = some (.ref fT)) (bT : Binds K fdT ["_law_bag_here", "_law_lot"] []) : FnOk P w K mg base CX0 2 f fd ["_law_bag_here", "_law_some"] (spOf K) := by
  have GT : FnOk P w K mg base CX0 1 fT fdT ["_law_bag_here", "_law_lot"] spTake := okTake FT T
  refine F.ok scOf (fun vs H Q E h => ?_) (fun cdv A outer s H vs Q E hr h => ?_)
  · obtain ⟨a, l, xs, rfl, _⟩ := h
    rfl
  · obtain ⟨p, l, xs, rfl, hb, hx, hl, l0, l1, k⟩ := h
    refine ⟨_, pss_one (ps_ret (pe_ix ix_seq (pv 1) (pe_call GT hr (by rfl) gT FT.kp bT .nil pass0 (pa_cons (pv 0) (pa_cons (pe_callB cLenQ (by rfl) T.len PySem.boot_len (pa_cons (pv 1) pa_nil)) pa_nil))) (fun _ _ => rfl))), ?_⟩
    walk_at "wn"
    refine ⟨l, xs, rfl, .inl hx, ?_⟩
    walk_at "wn"
    refine ⟨p, _, rfl, hb, by omega, by omega, fun i H1 i0 i1 he hb1 => ?_⟩
    obtain ⟨j, rfl⟩ := Int.eq_ofNat_of_zero_le i0
    have hj : j < xs.length := by omega
    exact .inl ⟨l, xs, _, xs[j], rfl, rfl, seq_at (he l hl) hx, atI_nat (List.getElem?_eq_getElem hj), k j _ H1 (List.getElem?_eq_getElem hj) he hb1⟩
end

def clsBody : Stmt → List Stmt
  | .ClassDef _ _ _ b _ _ _ _ _ _ _ => b
  | _ => []
def meth (i j : Nat) : Stmt := (clsBody (top i)).getD j (.Pass ⟨0, 0, 0, 0⟩)
abbrev sIsInteger : Stmt := top 13
abbrev sIsBetween : Stmt := top 14
abbrev sIsCount : Stmt := top 15
/-! own __contains__ -/
def rOwnNotIn (C : Addr) (sp : Sp) : R2 := fun x y H Q => ∃ a dx fs, y = .ref a ∧ H a = some (.ins C dx fs) ∧ sp [.ref a, x] H (fun v H' => ∃ b, v = .bl b ∧ Q (.bl (!b)) H') fun _ _ _ => False
theorem op_ownNotIn {X : Cx} {CX : CXT} {k : Nat} {C f : Addr} {fd : FuncData} {ps : List Str} {sp : Sp} (F : FnOk X.prog X.w X.K X.mg X.base CX k f fd ps sp) (hr : Room k X.A)
    (hs : PySem.W.findIn X.K (.ref C) "__contains__" = some (some (.ref f))) (hf : PySem.W.isFn X.K (.ref f) = true) (hb : Binds X.K fd ps []) (hx : Passes CX X fun _ _ _ => False) : OpR X (compareOp .NotIn) (rOwnNotIn C sp) := by
  intro pins s σ H x y v u Q I rx ry d
  obtain ⟨a, dx, fs, rfl, ha, hsp⟩ := d
  cases ry
  obtain ⟨mA, J, _⟩ := ins_get I.hok ha
  obtain ⟨od, J, _⟩ := J.look
  obtain ⟨m, hF⟩ := I.fr
  refine PySem.W.notIn_K hF I.ok.mod.kin J hs hf ?_
  have hl := F.len _ _ _ _ hsp
  have r2 : Vals [V.ref a, x] [Value.ref a, v] := .cons rfl (.cons rx .nil)
  refine wpAny_call (codeAny_mono (F.run X.A X.stack s H ⟨[.ref a, v], []⟩ [.ref a, v] [.ref a, x] _ _ hr I.env0 (by
    have := hb s [.ref a, v] I.kIn (by simpa using hl)
    simpa using this) r2 hsp) fun r s' hq => ?_)
  cases r with
  | error e => exact hx pins σ H s e s' I hq
  | ok fl =>
    cases fl with
    | ret w =>
      obtain ⟨z, H', I', rz, b, ez, q⟩ := I.after hq
      subst ez
      cases rz
      exact wpAny_truthy_bool ⟨.bl (!b), H', I', rfl, q⟩
    | next => exact False.elim hq
    | brk => exact False.elim hq
    | cont => exact False.elim hq
section
variable {P : Program} {w : World} {K : PySem.W.Frag} {mg : Str → Option Value} {base : Heap}
structure ChkTxt (K : PySem.W.Frag) (mg : Str → Option Value) : Prop where
  isin : mg "isinstance" = none
  int : mg "int" = none
  bool : mg "bool" = none
  count : ∃ t, mg "MOST_COUNT" = some (.int 1000000 t)
def spIsInteger : Sp := fun vs H Q _ => ∃ i : Int, vs = [.int i] ∧ Q (.bl true) H
theorem scIsInteger : FnScope ["x"] ["x"] (defScope sIsInteger) := ⟨rfl, rfl, rfl, by decide +kernel, rfl, by decide +kernel, by decide +kernel⟩
theorem okIsInteger {f : Addr} {fd : FuncData} (F : Fun K "is_integer" "is_integer" sIsInteger f fd) (T : ChkTxt K mg) : FnOk P w K mg base CX0 1 f fd ["x"] spIsInteger := by
  refine F.ok scIsInteger (fun vs H Q E h => ?_) (fun cdv A outer s H vs Q E hr h => ?_)
  · obtain ⟨x, rfl, _⟩ := h
    rfl
  · obtain ⟨i, rfl, k⟩ := h
    refine ⟨_, pss_one (ps_ret (pe_and (pe_callB call_isi (by rfl) T.isin PyProof.Rows.boot_isinstance (pa_cons (pv 0) (pa_cons (pe_bltn (v := .ty "int") (by rfl) T.int PyProof.Rows.boot_int rfl) pa_nil))) (pe_one (pe_not (pe_callB call_isi (by rfl) T.isin PyProof.Rows.boot_isinstance (pa_cons (pv 0) (pa_cons (pe_bltn (v := .ty "bool") (by rfl) T.bool (by decide +kernel) rfl) pa_nil))))))), ?_⟩
    refine ⟨_, rfl, _, _, _, _, true, rfl, .ty "int", .base (.int i), kit_ty (by decide +kernel), ?_⟩
    refine ⟨_, rfl, _, rfl, _, _, _, _, false, rfl, .ty "bool", .base (.int i), kit_ty (by decide +kernel), ?_⟩
    exact ⟨_, rfl, k⟩
def spIsBetween : Sp := fun vs H Q _ => ∃ i a b : Int, vs = [.int i, .int a, .int b] ∧ Q (.bl (decide (a ≤ i) && decide (i ≤ b))) H
theorem scIsBetween : FnScope ["x", "least", "most"] ["x", "least", "most"] (defScope sIsBetween) := ⟨rfl, rfl, rfl, by decide +kernel, rfl, by decide +kernel, by decide +kernel⟩
theorem okIsBetween {f fI : Addr} {fd fdI : FuncData} (F : Fun K "is_between" "is_between" sIsBetween f fd) (GI : FnOk P w K mg base CX0 1 fI fdI ["x"] spIsInteger) (kI : PySem.W.keepIn K (.ref fI) = true) (gI : mg "is_integer" = some (.ref fI)) (bI : Binds K fdI ["x"] []) :
    FnOk P w K mg base CX0 2 f fd ["x", "least", "most"] spIsBetween := by
  refine F.ok scIsBetween (fun vs H Q E h => ?_) (fun cdv A outer s H vs Q E hr h => ?_)
  · obtain ⟨x, y, z, rfl, _⟩ := h
    rfl
  · obtain ⟨i, a, b, rfl, k⟩ := h
    refine ⟨_, pss_one (ps_ret (pe_and (pe_call GI hr (by rfl) gI kI bI .nil pass0 (pa_cons (pv 0) pa_nil)) (pe_one (pe_chain op_le op_le (pv 1) (pv 0) (pv 2))))), ?_⟩
    walk_at "wn"
    refine ⟨i, rfl, ?_⟩
    walk_at "wn"
    refine ⟨_, rfl, _, rfl, a, i, rfl, rfl, _, rfl, ?_⟩
    refine ite2 (fun hc => ?_) (fun hc => ?_)
    · rw [hc, Bool.true_and] at k
      exact ⟨_, rfl, i, b, rfl, rfl, k⟩
    · rw [Bool.eq_false_iff.mpr hc, Bool.false_and] at k
      exact k
def spIsCount : Sp := fun vs H Q _ => ∃ i : Int, vs = [.int i] ∧ Q (.bl (decide (1 ≤ i) && decide (i ≤ 1000000))) H
theorem scIsCount : FnScope ["x"] ["x"] (defScope sIsCount) := ⟨rfl, rfl, rfl, by decide +kernel, rfl, by decide +kernel, by decide +kernel⟩
theorem okIsCount {f fB : Addr} {fd fdB : FuncData} (F : Fun K "is_count" "is_count" sIsCount f fd) (T : ChkTxt K mg) (GB : FnOk P w K mg base CX0 2 fB fdB ["x", "least", "most"] spIsBetween) (kB : PySem.W.keepIn K (.ref fB) = true) (gB : mg "is_between" = some (.ref fB)) (bB : Binds K fdB ["x", "least", "most"] []) :
    FnOk P w K mg base CX0 3 f fd ["x"] spIsCount := by
  refine F.ok scIsCount (fun vs H Q E h => ?_) (fun cdv A outer s H vs Q E hr h => ?_)
  · obtain ⟨x, rfl, _⟩ := h
    rfl
  · obtain ⟨i, rfl, k⟩ := h
    obtain ⟨t, ht⟩ := T.count
    refine ⟨_, pss_one (ps_ret (pe_call GB hr (by rfl) gB kB bB .nil pass0 (pa_cons (pv 0) (pa_cons pe_int (pa_cons (pe_glob (v := .int 1000000) (by rfl) ht ⟨_, rfl⟩) pa_nil))))), ?_⟩
    walk_at "wn"
    exact ⟨i, 1, 1000000, rfl, k⟩
end

/-! the classes of the program -/
structure ClsF (K : PySem.W.Frag) (C : Addr) (fs : List Str) : Prop where
  cl : Cls K C
  no : ∀ f ∈ fs, NoAttr K C f
abbrev sysF : List Str := ["process_limit", "number_limit", "tables", "sources", "sets", "next_thing"]
theorem Same.new' {H : Hp} {l : Addr} {o : HO} (hl : H l = none) : Same H (upd H l o) := fun b u e => by rw [upd_ne (ne_of_none e hl)]; exact e
def entKV (ls : List Int) (ad : Int → Addr) : List (Key × V) := ls.map fun l => (Sum.inl l, .ref (ad l))
theorem ent_val (ls : List Int) (ad : Int → Addr) (l : Int) : valV (entKV ls ad) (Sum.inl l) = if l ∈ ls then some (.ref (ad l)) else none := by
  induction ls with
  | nil => rfl
  | cons x ls ih =>
    unfold entKV at ih ⊢
    rw [List.map_cons]
    by_cases h : x = l
    · subst h
      rw [valV_pos rfl, if_pos List.mem_cons_self]
    · rw [valV_neg (fun z => h (Sum.inl.inj z)), ih]
      by_cases h2 : l ∈ ls
      · rw [if_pos h2, if_pos (List.mem_cons_of_mem _ h2)]
      · rw [if_neg h2, if_neg fun z => (List.mem_cons.mp z).elim (fun e => h e.symm) h2]
theorem ent_put (ls : List Int) (ad : Int → Addr) (l : Int) (b : Addr) : putK (entKV ls ad) (Sum.inl l) (.ref b) = entKV (if l ∈ ls then ls else ls ++ [l]) (fun j => if j = l then b else ad j) := by
  unfold putK
  rw [valV_any, ent_val]
  by_cases h : l ∈ ls
  · rw [if_pos h, if_pos h]
    show List.map _ (entKV ls ad) = _
    unfold entKV
    rw [List.map_map]
    refine List.map_congr_left fun x _ => ?_
    by_cases e : x = l
    · show (if (Sum.inl x : Key) = Sum.inl l then _ else _) = _
      rw [if_pos (by rw [e])]
      show (_, V.ref b) = (_, V.ref (if x = l then b else ad x))
      rw [if_pos e]
    · show (if (Sum.inl x : Key) = Sum.inl l then _ else _) = _
      rw [if_neg (fun z => e (Sum.inl.inj z))]
      show _ = (_, V.ref (if x = l then b else ad x))
      rw [if_neg e]
  · rw [if_neg h, if_neg h]
    show entKV ls ad ++ _ = _
    unfold entKV
    rw [List.map_append]
    have e1 : ls.map (fun j => ((Sum.inl j : Key), V.ref (if j = l then b else ad j))) = ls.map fun j => (Sum.inl j, V.ref (ad j)) := List.map_congr_left fun x hx => by rw [if_neg fun z : x = l => h (by rw [← z]; exact hx)]
    rw [e1]
    congr 1
    show [(_, V.ref b)] = [(_, V.ref (if l = l then b else ad l))]
    rw [if_pos rfl]

abbrev sSysInit : Stmt := meth 19 2
abbrev sNewSource : Stmt := meth 19 4
abbrev sArrive : Stmt := meth 19 10
abbrev sRead : Stmt := meth 19 12
abbrev sContains : Stmt := meth 19 30
abbrev sTableOf : Stmt := meth 19 32
abbrev sIsTabNum : Stmt := meth 19 33
abbrev sThingAt : Stmt := meth 19 34
abbrev sSourceAt : Stmt := meth 19 35
abbrev sFreeNum : Stmt := meth 19 37
abbrev sNewThing : Stmt := meth 19 39
abbrev sUnfinished : Stmt := meth 19 42
abbrev sNotify : Stmt := meth 19 45
/-! a system, its cells and what stands in them -/
inductive Cell
  | box | tabD | srcD | setD
  | tab (p : Int) | srcT (t : Int)
  deriving DecidableEq
structure Sys where
  P : Int
  N : Int
  next : Int
  procs : List Int
  tab : Int → List (Option Int)
  srcs : List Int
  unit : Int → Int × Bool
def live (S : Sys) : Cell → Prop
  | .box | .tabD | .srcD | .setD => True
  | .tab p => p ∈ S.procs
  | .srcT t => t ∈ S.srcs
def optV : Option Int → V
  | none => .non
  | some t => .int t
def sysO (CS dx : Addr) (S : Sys) (t s u : Addr) : HO := .ins CS dx [("process_limit", .int S.P), ("number_limit", .int S.N), ("tables", .ref t), ("sources", .ref s), ("sets", .ref u), ("next_thing", .int S.next)]
structure Cs where
  S : Addr
def co (C : Cs) (S : Sys) (ad dx : Cell → Addr) : Cell → HO
  | .box => sysO C.S (dx .box) S (ad .tabD) (ad .srcD) (ad .setD)
  | .tabD => .dK (entKV S.procs fun p => ad (.tab p))
  | .srcD => .dK (entKV S.srcs fun t => ad (.srcT t))
  | .setD => .dK []
  | .tab p => .lst ((S.tab p).map optV)
  | .srcT t => .tup [.int (S.unit t).1, .bl (S.unit t).2]
structure At (C : Cs) (H : Hp) (S : Sys) (ad dx : Cell → Addr) : Prop where
  at_ : ∀ c, live S c → H (ad c) = some (co C S ad dx c)
  inj : ∀ c c', live S c → live S c' → ad c = ad c' → c = c'
def own (S : Sys) (ad : Cell → Addr) (b : Addr) : Prop := ∃ c, live S c ∧ ad c = b
/-- what lies outside stays; what comes in is new -/
structure Step (H : Hp) (S : Sys) (ad : Cell → Addr) (H' : Hp) (S' : Sys) (ad' : Cell → Addr) : Prop where
  keep : ∀ b o, ¬ own S ad b → H b = some o → H' b = some o
  new : ∀ b, own S' ad' b → own S ad b ∨ H b = none
  box : ad' .box = ad .box
section
variable {C : Cs} {H H' H2 : Hp} {S S' S2 : Sys} {ad ad' ad2 dx dx' : Cell → Addr}
theorem Step.refl : Step H S ad H S ad := ⟨fun _ _ _ z => z, fun _ z => .inl z, rfl⟩
theorem Step.trans (a : Step H S ad H' S' ad') (b : Step H' S' ad' H2 S2 ad2) : Step H S ad H2 S2 ad2 := by
  refine ⟨fun x o n e => b.keep x o (fun z => ?_) (a.keep x o n e), fun x z => ?_, b.box.trans a.box⟩
  · rcases a.new x z with y | y
    · exact n y
    · rw [y] at e
      cases e
  · rcases b.new x z with y | y
    · exact a.new x y
    · cases e : H x with
      | none => exact .inr rfl
      | some o =>
        by_cases w : own S ad x
        · exact .inl w
        · rw [a.keep x o w e] at y
          cases y
theorem Step.same (s : Same H H') : Step H S ad H' S ad := ⟨fun b o _ e => s _ _ e, fun _ z => .inl z, rfl⟩
theorem At.same (A : At C H S ad dx) (s : Same H H') : At C H' S ad dx := ⟨fun c hc => s _ _ (A.at_ c hc), A.inj⟩
theorem At.ne (A : At C H S ad dx) {c c' : Cell} (h : live S c) (h' : live S c') (n : c ≠ c') : ad c ≠ ad c' := fun z => n (A.inj c c' h h' z)
theorem At.new (A : At C H S ad dx) {c : Cell} {l : Addr} (h : live S c) (n : H l = none) : ad c ≠ l := ne_of_none (A.at_ c h) n
/-- where the cells' addresses stay -/
theorem At.re (A : At C H S ad dx) (hl : ∀ c, live S' c ↔ live S c) (h : ∀ c, live S c → (H' (ad c) = some (co C S' ad dx c)) ∨ (co C S' ad dx c = co C S ad dx c ∧ H' (ad c) = H (ad c))) : At C H' S' ad dx := by
  refine ⟨fun c hc => ?_, fun c c' h1 h2 => A.inj c c' ((hl c).mp h1) ((hl c').mp h2)⟩
  have hc := (hl c).mp hc
  rcases h c hc with e | ⟨e1, e2⟩
  · exact e
  · rw [e1, e2]
    exact A.at_ c hc
theorem Step.re (hl : ∀ c, live S' c ↔ live S c) (h : ∀ b o, ¬ own S ad b → H b = some o → H' b = some o) : Step H S ad H' S' ad := ⟨h, fun b ⟨c, h1, h2⟩ => .inl ⟨c, (hl c).mp h1, h2⟩, rfl⟩
end
section
variable {P : Program} {w : World} {K : PySem.W.Frag} {mg : Str → Option Value} {base : Heap} {C : Cs}
structure MO (P : Program) (w : World) (K : PySem.W.Frag) (mg : Str → Option Value) (base : Heap) (k : Nat) (C : Addr) (m : Str) (ps : List Str) (sp : Sp) (f : Addr) (fd : FuncData) : Prop where
  g : FnOk P w K mg base CX0 k f fd ps sp
  m : Meth K C m f
  b : Binds K fd ps []
structure DO (P : Program) (w : World) (K : PySem.W.Frag) (mg : Str → Option Value) (base : Heap) (k : Nat) (x : Str) (ps : List Str) (sp : Sp) (f : Addr) (fd : FuncData) : Prop where
  g : FnOk P w K mg base CX0 k f fd ps sp
  k : PySem.W.keepIn K (.ref f) = true
  m : mg x = some (.ref f)
  b : Binds K fd ps []
/-- a call on a system -/
def OnSys (C : Cs) (vs : List V) (H : Hp) (rest : List V) (k : Sys → (Cell → Addr) → (Cell → Addr) → Prop) : Prop := ∃ (S : Sys) (ad dx : Cell → Addr), vs = .ref (ad .box) :: rest ∧ At C H S ad dx ∧ k S ad dx
def spContains (C : Cs) : Sp := fun vs H Q _ => ∃ p : Int, OnSys C vs H [.int p] fun S _ _ => Q (.bl (decide (p ∈ S.procs))) H
theorem scContains : FnScope ["self", "x"] ["self", "x"] (defScope sContains) := ⟨rfl, rfl, rfl, by decide +kernel, rfl, by decide +kernel, by decide +kernel⟩
theorem okContains {f fI : Addr} {fd fdI : FuncData} (F : Fun K "__contains__" "System.__contains__" sContains f fd) (T : ClsF K C.S sysF) (GI : DO P w K mg base 1 "is_integer" ["x"] spIsInteger fI fdI) : FnOk P w K mg base CX0 2 f fd ["self", "x"] (spContains C) := by
  refine F.ok scContains (fun vs H Q E h => ?_) (fun cdv A outer s H vs Q E hr h => ?_)
  · obtain ⟨_, _, _, _, rfl, _⟩ := h
    rfl
  · obtain ⟨p, S, ad, dx, rfl, A0, k⟩ := h
    have hu := hu_of hr
    refine ⟨_, pss_one (ps_ret (pe_and (pe_call GI.g hr (by rfl) GI.m GI.k GI.b .nil pass0 (pa_cons (pv 1) pa_nil)) (pe_one (pe_cmp (pc_din hu (pv 1) (pe_fld (pv 0) rfl)) rfl)))), ?_⟩
    walk_at "wn"
    refine ⟨p, rfl, ?_⟩
    walk_at "wn"
    refine ⟨_, rfl, _, rfl, ad .box, C.S, dx .box, _, _, rfl, A0.at_ .box trivial, T.cl, T.no _ (by decide), rfl, ?_⟩
    refine ⟨ad .tabD, _, rfl, DGet.k (k := Sum.inl p) (A0.at_ .tabD trivial), ?_⟩
    rw [ent_val]
    by_cases hp : p ∈ S.procs
    · rw [if_pos hp]
      rw [decide_eq_true hp] at k
      exact k
    · rw [if_neg hp]
      rw [decide_eq_false hp] at k
      exact k
def spTableOf (C : Cs) : Sp := fun vs H Q _ => ∃ p : Int, OnSys C vs H [.int p] fun S ad _ => p ∈ S.procs ∧ Q (.ref (ad (.tab p))) H
theorem scTableOf : FnScope ["self", "process"] ["self", "process"] (defScope sTableOf) := ⟨rfl, rfl, rfl, by decide +kernel, rfl, by decide +kernel, by decide +kernel⟩
theorem okTableOf {f fC : Addr} {fd fdC : FuncData} (F : Fun K "table_of" "System.table_of" sTableOf f fd) (T : ClsF K C.S sysF) (GC : MO P w K mg base 2 C.S "__contains__" ["self", "x"] (spContains C) fC fdC) : FnOk P w K mg base CX0 3 f fd ["self", "process"] (spTableOf C) := by
  refine F.ok scTableOf (fun vs H Q E h => ?_) (fun cdv A outer s H vs Q E hr h => ?_)
  · obtain ⟨_, _, _, _, rfl, _⟩ := h
    rfl
  · obtain ⟨p, S, ad, dx, rfl, A0, hp, k⟩ := h
    have hu := hu_of hr
    refine ⟨_, pss_cons (ps_if (pt_cmpR (op_ownNotIn GC.g hr GC.m.at_ GC.m.fn GC.b pass0) (pv 1) (pv 0) (by rfl)) (pss_one ps_never) pss_nil)
      (pss_one (ps_ret (pe_dget hu (pe_fld (pv 0) rfl) (pv 1) (fun _ _ => rfl)))), ?_⟩
    walk_at "wn"
    refine ⟨ad .box, dx .box, _, rfl, A0.at_ .box trivial, p, S, ad, dx, rfl, A0, _, rfl, ?_⟩
    rw [decide_eq_true hp]
    walk_at "wn"
    refine ⟨_, rfl, ad .box, C.S, dx .box, _, _, rfl, A0.at_ .box trivial, T.cl, T.no _ (by decide), rfl, ?_⟩
    have hv : valV (entKV S.procs fun p => ad (.tab p)) (Sum.inl p) = some (.ref (ad (.tab p))) := by rw [ent_val, if_pos hp]
    exact ⟨_, rfl, ad .tabD, _, rfl, hv ▸ DGet.k (k := Sum.inl p) (A0.at_ .tabD trivial), k⟩
def spIsTabNum (C : Cs) : Sp := fun vs H Q _ => ∃ n : Int, OnSys C vs H [.int n] fun S _ _ => Q (.bl (decide (0 ≤ n) && decide (n ≤ S.N - 1))) H
theorem scIsTabNum : FnScope ["self", "number"] ["self", "number"] (defScope sIsTabNum) := ⟨rfl, rfl, rfl, by decide +kernel, rfl, by decide +kernel, by decide +kernel⟩
theorem okIsTabNum {f fB : Addr} {fd fdB : FuncData} (F : Fun K "is_table_number" "System.is_table_number" sIsTabNum f fd) (T : ClsF K C.S sysF) (GB : DO P w K mg base 2 "is_between" ["x", "least", "most"] spIsBetween fB fdB) : FnOk P w K mg base CX0 3 f fd ["self", "number"] (spIsTabNum C) := by
  refine F.ok scIsTabNum (fun vs H Q E h => ?_) (fun cdv A outer s H vs Q E hr h => ?_)
  · obtain ⟨_, _, _, _, rfl, _⟩ := h
    rfl
  · obtain ⟨n, S, ad, dx, rfl, A0, k⟩ := h
    refine ⟨_, pss_one (ps_ret (pe_call GB.g hr (by rfl) GB.m GB.k GB.b .nil pass0 (pa_cons (pv 1) (pa_cons pe_int (pa_cons (pe_op op_sub (pe_fld (pv 0) rfl) pe_int) pa_nil))))), ?_⟩
    walk_at "wn"
    refine ⟨_, rfl, ad .box, C.S, dx .box, _, _, rfl, A0.at_ .box trivial, T.cl, T.no _ (by decide), rfl, ?_⟩
    walk_at "wn"
    exact ⟨n, 0, S.N - 1, rfl, k⟩
/-- a number that means a thing -/
structure Means (S : Sys) (p n t : Int) : Prop where
  pr : p ∈ S.procs
  lo : 0 ≤ n
  hi : n ≤ S.N - 1
  at_ : (S.tab p)[n.toNat]? = some (some t)
def spThingAt (C : Cs) : Sp := fun vs H Q _ => ∃ p n t : Int, OnSys C vs H [.int p, .int n] fun S _ _ => Means S p n t ∧ Q (.int t) H
theorem scThingAt : FnScope ["self", "process", "number", "table"] ["self", "process", "number"] (defScope sThingAt) := ⟨rfl, rfl, rfl, by decide +kernel, rfl, by decide +kernel, by decide +kernel⟩
theorem okThingAt {f fT fN : Addr} {fd fdT fdN : FuncData} (F : Fun K "thing_at" "System.thing_at" sThingAt f fd) (T : ClsF K C.S sysF) (GT : MO P w K mg base 3 C.S "table_of" ["self", "process"] (spTableOf C) fT fdT) (GN : MO P w K mg base 3 C.S "is_table_number" ["self", "number"] (spIsTabNum C) fN fdN) :
    FnOk P w K mg base CX0 4 f fd ["self", "process", "number"] (spThingAt C) := by
  refine F.ok scThingAt (fun vs H Q E h => ?_) (fun cdv A outer s H vs Q E hr h => ?_)
  · obtain ⟨_, _, _, _, _, _, rfl, _⟩ := h
    rfl
  · obtain ⟨p, n, t, S, ad, dx, rfl, A0, M, k⟩ := h
    refine ⟨_, pss_cons (ps_set (i := 3) scThingAt.nd rfl (Or.inl rfl) (pe_meth (pv 0) T.cl GT.m GT.g hr GT.b .nil pass0 (pa_cons (pv 1) pa_nil)))
      (pss_cons (ps_if (PW.pt (pw_or (pt_not (pt_val (pe_meth (pv 0) T.cl GN.m GN.g hr GN.b .nil pass0 (pa_cons (pv 2) pa_nil)))) (pw_or1 (pt_cmpR oIsN (pe_ix ix_list (pv 3) (pv 2) (fun _ _ => rfl)) pe_non (nomark _))))) (pss_one ps_never) pss_nil)
      (pss_one (ps_ret (pe_ix ix_list (pv 3) (pv 2) (fun _ _ => rfl))))), ?_⟩
    have hb := A0.at_ .box trivial
    have ht := A0.at_ (.tab p) M.pr
    obtain ⟨m, hm⟩ := Int.eq_ofNat_of_zero_le M.lo
    have hat : atI ((S.tab p).map optV) n = some (V.int t) := by
      have e := M.at_
      rw [hm] at e ⊢
      refine atI_nat ?_
      rw [List.getElem?_map, show (S.tab p)[m]? = some (some t) from e]
      rfl
    walk_at "wn"
    refine ⟨_, rfl, ad .box, dx .box, _, rfl, hb, rfl, ?_⟩
    walk_at "wn"
    refine ⟨p, S, ad, dx, rfl, A0, M.pr, ?_⟩
    walk_at "wn"
    refine ⟨_, rfl, ad .box, dx .box, _, rfl, hb, rfl, ?_⟩
    walk_at "wn"
    refine ⟨n, S, ad, dx, rfl, A0, ?_⟩
    dsimp only
    rw [decide_eq_true M.lo, decide_eq_true M.hi]
    walk_at "wn"
    refine ⟨_, rfl, ?_⟩
    walk_at "wn"
    refine ⟨ad (.tab p), _, n, _, rfl, rfl, SqL.of ht, hat, ?_⟩
    walk_at "wn"
    have e : decide (V.int t = V.non) = false := decide_eq_false fun z => nomatch z
    rw [e]
    walk_at "wn"
    exact ⟨ad (.tab p), _, n, _, rfl, rfl, SqL.of ht, hat, k⟩
def spSourceAt (C : Cs) : Sp := fun vs H Q _ => ∃ p n t : Int, OnSys C vs H [.int p, .int n] fun S _ _ => Means S p n t ∧ t ∈ S.srcs ∧ Q (.int t) H
theorem scSourceAt : FnScope ["self", "process", "number", "thing"] ["self", "process", "number"] (defScope sSourceAt) := ⟨rfl, rfl, rfl, by decide +kernel, rfl, by decide +kernel, by decide +kernel⟩
theorem okSourceAt {f fT : Addr} {fd fdT : FuncData} (F : Fun K "source_at" "System.source_at" sSourceAt f fd) (T : ClsF K C.S sysF) (GT : MO P w K mg base 4 C.S "thing_at" ["self", "process", "number"] (spThingAt C) fT fdT) :
    FnOk P w K mg base CX0 5 f fd ["self", "process", "number"] (spSourceAt C) := by
  refine F.ok scSourceAt (fun vs H Q E h => ?_) (fun cdv A outer s H vs Q E hr h => ?_)
  · obtain ⟨_, _, _, _, _, _, rfl, _⟩ := h
    rfl
  · obtain ⟨p, n, t, S, ad, dx, rfl, A0, M, ht, k⟩ := h
    have hu := hu_of hr
    refine ⟨_, pss_cons (ps_set (i := 3) scSourceAt.nd rfl (Or.inl rfl) (pe_meth (pv 0) T.cl GT.m GT.g hr GT.b .nil pass0 (pa_cons (pv 1) (pa_cons (pv 2) pa_nil))))
      (pss_cons (ps_if (pt_cmp (pc_dnotin hu (pv 3) (pe_fld (pv 0) rfl)) rfl) (pss_one ps_never) pss_nil)
      (pss_one (ps_ret (pv 3)))), ?_⟩
    have hb := A0.at_ .box trivial
    walk_at "wn"
    refine ⟨_, rfl, ad .box, dx .box, _, rfl, hb, rfl, ?_⟩
    walk_at "wn"
    refine ⟨p, n, t, S, ad, dx, rfl, A0, M, ?_⟩
    walk_at "wn"
    refine ⟨_, rfl, _, rfl, ad .box, C.S, dx .box, _, _, rfl, hb, T.cl, T.no _ (by decide), rfl, ?_⟩
    refine ⟨ad .srcD, _, rfl, DGet.k (k := Sum.inl t) (A0.at_ .srcD trivial), ?_⟩
    rw [ent_val, if_pos ht]
    refine ⟨_, rfl, ?_⟩
    show if false = true then _ else _
    walk_at "wn"
    exact k
/-! free_number -/
def firstFree (t : List (Option Int)) (n : Nat) : Prop := t[n]? = some none ∧ ∀ i, i < n → ∃ x, t[i]? = some (some x)
def spFreeNum (C : Cs) : Sp := fun vs H Q _ => ∃ (p : Int) (n : Nat), OnSys C vs H [.int p] fun S _ _ => p ∈ S.procs ∧ firstFree (S.tab p) n ∧ (S.tab p).length ≤ 1000 ∧ ∀ H', Same H H' → Q (.int (n : Int)) H'
theorem scFreeNum : FnScope ["self", "process", "number", "thing"] ["self", "process"] (defScope sFreeNum) := ⟨rfl, rfl, rfl, by decide +kernel, rfl, by decide +kernel, by decide +kernel⟩
structure SysTxt (mg : Str → Option Value) : Prop where
  enum : mg "enumerate" = none
  list : mg "list" = none
  min : mg "min" = none
theorem okFreeNum {f fT : Addr} {fd fdT : FuncData} (F : Fun K "free_number" "System.free_number" sFreeNum f fd) (X : SysTxt mg) (T : ClsF K C.S sysF) (GT : MO P w K mg base 3 C.S "table_of" ["self", "process"] (spTableOf C) fT fdT) :
    FnOk P w K mg base CX0 4 f fd ["self", "process"] (spFreeNum C) := by
  refine F.ok scFreeNum (fun vs H Q E h => ?_) (fun cdv A outer s H vs Q E hr h => ?_)
  · obtain ⟨_, _, _, _, _, rfl, _⟩ := h
    rfl
  · obtain ⟨p, n, S, ad, dx, rfl, A0, hp, hf, hl, k⟩ := h
    refine ⟨_, pss_cons (ps_for PassesOwn.never rfl (pi_enum (by rfl) X.enum (pa_cons (pe_meth (pv 0) T.cl GT.m GT.g hr GT.b .nil pass0 (pa_cons (pv 1) pa_nil)) pa_nil)) (pg_tup rfl (pgs_cons (pg_name (i := 2) scFreeNum.nd rfl (Or.inl rfl)) (pgs_cons (pg_name (i := 3) scFreeNum.nd rfl (Or.inl rfl)) pgs_nil)))
        (pss_one (ps_if (pt_cmpR oIsN (pv 3) pe_non (nomark _)) (pss_one (ps_ret (pv 2))) pss_nil)))
      (pss_one ps_never), ?_⟩
    have hb := A0.at_ .box trivial
    have ht := A0.at_ (.tab p) hp
    refine ⟨_, rfl, ad .box, dx .box, _, rfl, hb, rfl, ?_⟩
    walk_at "wn"
    refine ⟨p, S, ad, dx, rfl, A0, hp, ?_⟩
    refine ⟨ad (.tab p), _, rfl, SqL.of ht, ?_⟩
    have hn : n < (S.tab p).length := (List.getElem?_eq_some_iff.mp hf.1).1
    refine for_it (walk_enum (xs := (S.tab p).map optV)) (fun i σ' H1 => ∃ u v : Option V, σ' = [some (.ref (ad .box)), some (.int p), u, v] ∧ Same H H1 ∧ i ≤ n) ⟨_, _, rfl, Same.refl _, Nat.zero_le _⟩ (fun i σ' H1 _ ⟨_, _, _, sm, _⟩ => Same.seq sm (SqL.of ht)) ?_ ?_
    · rintro i x σ' H1 H2 hi ⟨u, v, rfl, sm, hin⟩ ⟨T1, x1, y1, rfl, nT, rfl, ex, ey⟩
      have smT := sm.trans (Same.new' (o := .tup [x1, y1]) nT)
      obtain rfl := Option.some.inj ex
      have ey : ((S.tab p).map optV)[i]? = some y1 := ey
      rw [List.getElem?_map] at ey
      refine ⟨T1, _, rfl, SqT.of upd_same, rfl, _, _, rfl, ?_⟩
      walk_at "wn"
      refine ⟨_, _, rfl, ?_⟩
      walk_at "wn"
      refine ⟨rfl, ?_⟩
      walk_at "wn"
      rcases Nat.lt_or_ge i n with z | z
      · obtain ⟨t, et⟩ := hf.2 i z
        rw [et] at ey
        cases ey
        have e : decide (optV (some t) = V.non) = false := decide_eq_false fun z => nomatch z
        rw [e]
        walk_at "wn"
        exact ⟨_, _, rfl, smT, z⟩
      · obtain rfl : i = n := by omega
        rw [hf.1] at ey
        cases ey
        have e : decide (optV none = V.non) = true := decide_eq_true rfl
        rw [e]
        walk_at "wn"
        exact k _ smT
    · rintro σ' H1 ⟨u, v, rfl, sm, hin⟩
      rw [List.length_map] at hin
      exact absurd hin (by omega)
end

section
variable {C : Cs} {H H' H2 : Hp} {S S' S2 : Sys} {ad ad' ad2 dx dx' : Cell → Addr}
/-- some cells are written, made or stand elsewhere; the others stay -/
theorem At.re3 (ch : List Cell) (A : At C H S ad dx) (hl : ∀ c, live S' c → c ∈ ch ∨ live S c) (h1 : ∀ c ∈ ch, live S' c → H' (ad' c) = some (co C S' ad' dx' c)) (h2 : ∀ c, c ∉ ch → live S c → ad' c = ad c ∧ co C S' ad' dx' c = co C S ad dx c)
    (fresh : ∀ c ∈ ch, live S' c → (ad' c = ad c ∧ live S c) ∨ H (ad' c) = none) (dist : ∀ c ∈ ch, ∀ c' ∈ ch, live S' c → live S' c' → H (ad' c) = none → ad' c = ad' c' → c = c')
    (k : ∀ b o, (∀ c ∈ ch, live S c → b ≠ ad c) → H b = some o → H' b = some o) (box : ad' .box = ad .box) : At C H' S' ad' dx' ∧ Step H S ad H' S' ad' := by
  have out : ∀ c, c ∉ ch → live S' c → live S c := fun c hc l => (hl c l).resolve_left hc
  have keep : ∀ c, c ∉ ch → live S c → H' (ad c) = H (ad c) := fun c hc l => by
    rw [A.at_ c l]
    exact k _ _ (fun c' hc' l' z => hc (by rw [A.inj c c' l l' z]; exact hc')) (A.at_ c l)
  refine ⟨⟨fun c l => ?_, fun c c' l l' z => ?_⟩, ⟨fun b o n e => k b o (fun c hc lc z => n ⟨c, lc, z.symm⟩) e, fun b ⟨c, l, e⟩ => ?_, box⟩⟩
  · by_cases hc : c ∈ ch
    · exact h1 c hc l
    · have ls := out c hc l
      obtain ⟨e1, e2⟩ := h2 c hc ls
      rw [e1, e2, keep c hc ls]
      exact A.at_ c ls
  · have some_ : ∀ c, c ∉ ch → live S' c → H (ad' c) ≠ none := fun c hc l z => by
      have ls := out c hc l
      rw [(h2 c hc ls).1, A.at_ c ls] at z
      cases z
    by_cases hc : c ∈ ch
    · by_cases hc' : c' ∈ ch
      · rcases fresh c hc l with f | f
        · rcases fresh c' hc' l' with f' | f'
          · exact A.inj c c' f.2 f'.2 (by rw [← f.1, ← f'.1, z])
          · rw [← z, f.1, A.at_ c f.2] at f'
            cases f'
        · exact dist c hc c' hc' l l' f z
      · rcases fresh c hc l with f | f
        · have ls := out c' hc' l'
          exact A.inj c c' f.2 ls (by rw [← f.1, z, (h2 c' hc' ls).1])
        · rw [z] at f
          exact absurd f (some_ c' hc' l')
    · have ls := out c hc l
      by_cases hc' : c' ∈ ch
      · rcases fresh c' hc' l' with f | f
        · exact A.inj c c' ls f.2 (by rw [← f.1, ← z, (h2 c hc ls).1])
        · rw [← z] at f
          exact absurd f (some_ c hc l)
      · have ls' := out c' hc' l'
        exact A.inj c c' ls ls' (by rw [← (h2 c hc ls).1, z, (h2 c' hc' ls').1])
  · by_cases hc : c ∈ ch
    · rcases fresh c hc l with f | f
      · exact .inl ⟨c, f.2, by rw [← f.1]; exact e⟩
      · rw [e] at f
        exact .inr f
    · have ls := out c hc l
      exact .inl ⟨c, ls, by rw [← (h2 c hc ls).1]; exact e⟩
/-- where the addresses stay -/
theorem At.re2 (ch : List Cell) (A : At C H S ad dx) (hl : ∀ c, live S' c → live S c) (lv : ∀ c ∈ ch, live S c) (h1 : ∀ c ∈ ch, H' (ad c) = some (co C S' ad dx c)) (h2 : ∀ c, c ∉ ch → live S c → co C S' ad dx c = co C S ad dx c)
    (k : ∀ b o, (∀ c ∈ ch, b ≠ ad c) → H b = some o → H' b = some o) : At C H' S' ad dx ∧ Step H S ad H' S' ad :=
  At.re3 ch A (fun c l => .inr (hl c l)) (fun c hc _ => h1 c hc) (fun c hc l => ⟨rfl, h2 c hc l⟩) (fun c hc l => .inl ⟨rfl, hl c l⟩) (fun c hc c' hc' l l' _ z => A.inj c c' (hl c l) (hl c' l') z)
    (fun b o n e => k b o (fun c hc => n c hc (lv c hc)) e) rfl
theorem At.not_own (A : At C H S ad dx) {l : Addr} (n : H l = none) : ¬ own S ad l := fun ⟨c, h, e⟩ => by
  rw [← e, A.at_ c h] at n
  cases n
end
theorem nodup_idx {α : Type} : ∀ {l : List α} {i j : Nat} {a : α}, l.Nodup → l[i]? = some a → l[j]? = some a → i = j
  | [], i, _, _, _, h, _ => by simp at h
  | _ :: _, 0, 0, _, _, _, _ => rfl
  | x :: l, 0, j + 1, a, nd, h, h' => by
    obtain rfl : x = a := by simpa using h
    exact absurd (List.mem_of_getElem? (show l[j]? = some x from h')) (List.nodup_cons.mp nd).1
  | x :: l, i + 1, 0, a, nd, h, h' => by
    obtain rfl : x = a := by simpa using h'
    exact absurd (List.mem_of_getElem? (show l[i]? = some x from h)) (List.nodup_cons.mp nd).1
  | x :: l, i + 1, j + 1, a, nd, h, h' => by rw [nodup_idx (List.nodup_cons.mp nd).2 (show l[i]? = some a from h) (show l[j]? = some a from h')]
def newThing (S : Sys) (p : Int) (n : Nat) : Sys := { S with next := S.next + 1, tab := fun q => if q = p then (S.tab p).set n (some S.next) else S.tab q }
section
variable {P : Program} {w : World} {K : PySem.W.Frag} {mg : Str → Option Value} {base : Heap} {C : Cs}
def spNewThing (C : Cs) : Sp := fun vs H Q _ => ∃ (p : Int) (n : Nat), OnSys C vs H [.int p] fun S ad dx => p ∈ S.procs ∧ firstFree (S.tab p) n ∧ (S.tab p).length ≤ 1000 ∧
  ∀ H' T, H T = none → H' T = some (.tup [.int (n : Int), .int S.next]) → At C H' (newThing S p n) ad dx → Step H S ad H' (newThing S p n) ad → Q (.ref T) H'
theorem scNewThing : FnScope ["self", "process", "number", "thing"] ["self", "process"] (defScope sNewThing) := ⟨rfl, rfl, rfl, by decide +kernel, rfl, by decide +kernel, by decide +kernel⟩
theorem okNewThing {f fF : Addr} {fd fdF : FuncData} (F : Fun K "new_thing" "System.new_thing" sNewThing f fd) (T : ClsF K C.S sysF) (GF : MO P w K mg base 4 C.S "free_number" ["self", "process"] (spFreeNum C) fF fdF) :
    FnOk P w K mg base CX0 5 f fd ["self", "process"] (spNewThing C) := by
  refine F.ok scNewThing (fun vs H Q E h => ?_) (fun cdv A outer s H vs Q E hr h => ?_)
  · obtain ⟨_, _, _, _, _, rfl, _⟩ := h
    rfl
  · obtain ⟨p, n, S, ad, dx, rfl, A0, hp, hf, hl, k⟩ := h
    have hu := hu_of hr
    refine ⟨_, pss_cons (ps_set (i := 2) scNewThing.nd rfl (Or.inl rfl) (pe_meth (pv 0) T.cl GF.m GF.g hr GF.b .nil pass0 (pa_cons (pv 1) pa_nil)))
      (pss_cons (ps_set (i := 3) scNewThing.nd rfl (Or.inl rfl) (pe_fld (pv 0) rfl))
      (pss_cons (ps_fldaug (pv 0) pe_int in_add)
      (pss_cons (ps_asg (pv 3) (pg_sub (pe_dget hu (pe_fld (pv 0) rfl) (pv 1) (fun _ _ => rfl)) (pv 2) set_list))
      (pss_one (ps_ret (pe_tup (pa_cons (pv 2) (pa_cons (pv 3) pa_nil)))))))), ?_⟩
    walk_at "wn"
    refine ⟨_, rfl, ad .box, dx .box, _, rfl, A0.at_ .box trivial, rfl, ?_⟩
    walk_at "wn"
    refine ⟨p, n, S, ad, dx, rfl, A0, hp, hf, hl, fun H1 s1 => ?_⟩
    have A1 := A0.same s1
    have hb := A1.at_ .box trivial
    have ht := A1.at_ (.tab p) hp
    have nbt : ad .box ≠ ad (.tab p) := A1.ne (c := .box) (c' := .tab p) trivial hp (by intro z; cases z)
    have nbd : ad .tabD ≠ ad .box := A1.ne (c := .tabD) (c' := .box) trivial trivial (by intro z; cases z)
    walk_at "wn"
    refine ⟨_, rfl, ad .box, C.S, dx .box, _, _, rfl, hb, T.cl, T.no _ (by decide), rfl, ?_⟩
    walk_at "wn"
    refine ⟨_, rfl, ad .box, C.S, dx .box, _, _, rfl, hb, T.cl, T.no _ (by decide), rfl, ?_⟩
    refine ⟨_, _, rfl, rfl, ?_⟩
    refine ⟨_, _, hb, by show 6 < 1000; decide, ?_⟩
    walk_at "wn"
    have hv : valV (entKV S.procs fun p => ad (.tab p)) (Sum.inl p) = some (.ref (ad (.tab p))) := by rw [ent_val, if_pos hp]
    refine ⟨_, rfl, ad .box, C.S, dx .box, _, _, rfl, upd_same, T.cl, T.no _ (by decide), rfl, ?_⟩
    refine ⟨_, rfl, ad .tabD, _, rfl, hv ▸ DGet.k (k := Sum.inl p) (by rw [upd_ne nbd]; exact A1.at_ .tabD trivial), ?_⟩
    have hn : n < (S.tab p).length := (List.getElem?_eq_some_iff.mp hf.1).1
    refine ⟨_, rfl, ad (.tab p), _, _, n, rfl, rfl, by rw [upd_ne (Ne.symm nbt)]; exact ht, by rw [List.length_map]; exact ixN_nat hn, ?_⟩
    walk_at "wn"
    refine ⟨by show 2 ≤ sizeLine; decide, fun T1 hT => ?_⟩
    have nTt : T1 ≠ ad (.tab p) := fun z => by rw [z, upd_same] at hT; cases hT
    rw [upd_ne nTt] at hT
    have nTb : T1 ≠ ad .box := fun z => by rw [z, upd_same] at hT; cases hT
    rw [upd_ne nTb] at hT
    refine (fun z : At C _ _ _ _ ∧ Step _ _ _ _ _ _ => k _ T1 (s1.free hT) upd_same z.1 ((Step.same s1).trans z.2)) ?_
    refine At.re2 [.box, .tab p] A1 (fun c l => by cases c <;> exact l) (fun c hc => ?_) (fun c hc => ?_) (fun c hc l => ?_) (fun b o n e => ?_)
    · simp only [List.mem_cons, List.not_mem_nil, or_false] at hc
      rcases hc with rfl | rfl
      · exact trivial
      · exact hp
    · simp only [List.mem_cons, List.not_mem_nil, or_false] at hc
      rcases hc with rfl | rfl
      · rw [upd_ne (Ne.symm nTb), upd_ne nbt, upd_same]
        rfl
      · rw [upd_ne (Ne.symm nTt), upd_same]
        show _ = some (HO.lst ((if p = p then (S.tab p).set n (some S.next) else S.tab p).map optV))
        rw [if_pos rfl, List.map_set]
        rfl
    · cases c with
      | box => exact absurd List.mem_cons_self hc
      | tab q =>
        have nq : q ≠ p := fun z => hc (by rw [z]; simp)
        show HO.lst ((if q = p then (S.tab p).set n (some S.next) else S.tab q).map optV) = _
        rw [if_neg nq]
        rfl
      | _ => rfl
    · have n1 := n .box (by simp)
      have n2 := n (.tab p) (by simp)
      rw [upd_ne (ne_of_none e hT), upd_ne n2, upd_ne n1]
      exact e
end

def setA (ad : Cell → Addr) (c0 : Cell) (T : Addr) : Cell → Addr := fun c => if c = c0 then T else ad c
theorem setA_same {ad : Cell → Addr} {c0 : Cell} {T : Addr} : setA ad c0 T c0 = T := if_pos rfl
theorem setA_ne {ad : Cell → Addr} {c0 c : Cell} {T : Addr} (h : c ≠ c0) : setA ad c0 T c = ad c := if_neg h
theorem srcT_fun (ad : Cell → Addr) (t : Int) (T : Addr) : (fun j => if j = t then T else ad (.srcT j)) = fun j => setA ad (.srcT t) T (.srcT j) := by
  funext j
  by_cases h : j = t
  · rw [if_pos h, h, setA_same]
  · rw [if_neg h, setA_ne fun z => h (by cases z; rfl)]
def withUnit (S : Sys) (t u : Int) (f : Bool) : Sys := { S with unit := fun j => if j = t then (u, f) else S.unit j }
section
variable {C : Cs} {H : Hp} {S : Sys} {ad dx : Cell → Addr}
/-- sources[t] = (u, f) -/
theorem At.unit (A : At C H S ad dx) {t u : Int} {f : Bool} {T : Addr} (ht : t ∈ S.srcs) (hT : H T = none) :
    At C (upd (upd H T (.tup [.int u, .bl f])) (ad .srcD) (.dK (putK (entKV S.srcs fun j => ad (.srcT j)) (Sum.inl t) (.ref T)))) (withUnit S t u f) (setA ad (.srcT t) T) dx ∧
    Step H S ad (upd (upd H T (.tup [.int u, .bl f])) (ad .srcD) (.dK (putK (entKV S.srcs fun j => ad (.srcT j)) (Sum.inl t) (.ref T)))) (withUnit S t u f) (setA ad (.srcT t) T) := by
  have hD := A.at_ .srcD trivial
  have nTD : T ≠ ad .srcD := fun z => by rw [z, hD] at hT; cases hT
  refine At.re3 [.srcD, .srcT t] A (fun c l => .inr (by cases c <;> exact l)) (fun c hc l => ?_) (fun c hc l => ?_) (fun c hc l => ?_) (fun c hc c' hc' l l' z e => ?_) (fun b o n e => ?_) (setA_ne (by intro z; cases z))
  · simp only [List.mem_cons, List.not_mem_nil, or_false] at hc
    rcases hc with rfl | rfl
    · rw [setA_ne (by intro z; cases z), upd_same, ent_put, if_pos ht, srcT_fun]
      rfl
    · rw [setA_same, upd_ne nTD, upd_same]
      show _ = some (HO.tup [.int (if t = t then (u, f) else S.unit t).1, .bl (if t = t then (u, f) else S.unit t).2])
      rw [if_pos rfl]
  · have n1 : c ≠ .srcD := fun z => hc (by rw [z]; simp)
    have n2 : c ≠ .srcT t := fun z => hc (by rw [z]; simp)
    refine ⟨setA_ne n2, ?_⟩
    cases c with
    | srcD => exact absurd rfl n1
    | srcT j =>
      have nj : j ≠ t := fun z => n2 (by rw [z])
      show HO.tup [.int (if j = t then (u, f) else S.unit j).1, .bl (if j = t then (u, f) else S.unit j).2] = _
      rw [if_neg nj]
      rfl
    | _ => rfl
  · simp only [List.mem_cons, List.not_mem_nil, or_false] at hc
    rcases hc with rfl | rfl
    · exact .inl ⟨setA_ne (by intro z; cases z), trivial⟩
    · exact .inr (by rw [setA_same]; exact hT)
  · simp only [List.mem_cons, List.not_mem_nil, or_false] at hc hc'
    rcases hc with rfl | rfl
    · rw [setA_ne (by intro z; cases z), hD] at z
      cases z
    · rcases hc' with rfl | rfl
      · rw [setA_same, setA_ne (by intro z; cases z)] at e
        exact absurd e nTD
      · rfl
  · rw [upd_ne (n .srcD (by simp) trivial), upd_ne (ne_of_none e hT)]
    exact e
end

def newSource (S : Sys) (p : Int) (n : Nat) : Sys := { newThing S p n with
  srcs := S.srcs ++ [S.next]
  unit := fun j => if j = S.next then (0, false) else S.unit j }
section
variable {P : Program} {w : World} {K : PySem.W.Frag} {mg : Str → Option Value} {base : Heap} {C : Cs}
def spNewSource (C : Cs) : Sp := fun vs H Q _ => ∃ (p : Int) (n : Nat), OnSys C vs H [.int p] fun S ad dx => p ∈ S.procs ∧ firstFree (S.tab p) n ∧ (S.tab p).length ≤ 1000 ∧ S.srcs.length ≤ 1000 ∧ S.next ∉ S.srcs ∧
  ∀ H' ad', At C H' (newSource S p n) ad' dx → Step H S ad H' (newSource S p n) ad' → Q (.int (n : Int)) H'
theorem scNewSource : FnScope ["self", "process", "number", "thing"] ["self", "process"] (defScope sNewSource) := ⟨rfl, rfl, rfl, by decide +kernel, rfl, by decide +kernel, by decide +kernel⟩
theorem okNewSource {f fN : Addr} {fd fdN : FuncData} (F : Fun K "new_source" "System.new_source" sNewSource f fd) (T : ClsF K C.S sysF) (GN : MO P w K mg base 5 C.S "new_thing" ["self", "process"] (spNewThing C) fN fdN) :
    FnOk P w K mg base CX0 6 f fd ["self", "process"] (spNewSource C) := by
  refine F.ok scNewSource (fun vs H Q E h => ?_) (fun cdv A outer s H vs Q E hr h => ?_)
  · obtain ⟨_, _, _, _, _, rfl, _⟩ := h
    rfl
  · obtain ⟨p, n, S, ad, dx, rfl, A0, hp, hf, hl, hz, hnx, k⟩ := h
    have hu := hu_of hr
    refine ⟨_, pss_cons (ps_asg (pe_meth (pv 0) T.cl GN.m GN.g hr GN.b .nil pass0 (pa_cons (pv 1) pa_nil)) (pg_tup rfl (pgs_cons (pg_name (i := 2) scNewSource.nd rfl (Or.inl rfl)) (pgs_cons (pg_name (i := 3) scNewSource.nd rfl (Or.inl rfl)) pgs_nil))))
      (pss_cons (ps_dput hu (pe_fld (pv 0) rfl) (pv 3) (pe_tup (pa_cons pe_int (pa_cons pe_bl pa_nil))) rfl) (pss_one (ps_ret (pv 2)))), ?_⟩
    walk_at "wn"
    refine ⟨_, rfl, ad .box, dx .box, _, rfl, A0.at_ .box trivial, rfl, ?_⟩
    walk_at "wn"
    refine ⟨p, n, S, ad, dx, rfl, A0, hp, hf, hl, fun H1 T1 hT1 hT A1 st1 => ?_⟩
    refine ⟨T1, _, rfl, SqT.of hT, rfl, _, _, rfl, ?_⟩
    walk_at "wn"
    refine ⟨_, _, rfl, ?_⟩
    walk_at "wn"
    refine ⟨rfl, ?_⟩
    walk_at "wn"
    refine ⟨by show 2 ≤ sizeLine; decide, fun T2 hT2 => ?_⟩
    have hb := A1.at_ .box trivial
    have hD : H1 (ad .srcD) = some (.dK (entKV S.srcs fun t => ad (.srcT t))) := A1.at_ .srcD trivial
    have nTD : T2 ≠ ad .srcD := fun z => by rw [z, hD] at hT2; cases hT2
    have nTb : ad .box ≠ T2 := ne_of_none hb hT2
    refine ⟨_, rfl, ad .box, C.S, dx .box, _, _, rfl, by rw [upd_ne nTb]; exact hb, T.cl, T.no _ (by decide), rfl, ?_⟩
    refine ⟨_, rfl, ad .srcD, _, rfl, DPut.k (k := Sum.inl S.next) (by rw [upd_ne (Ne.symm nTD)]; exact hD) (by unfold entKV; rw [List.length_map, sizeLine_eq]; omega), ?_⟩
    walk_at "wn"
    refine (fun z : At C _ _ _ _ ∧ Step H1 (newThing S p n) ad _ _ _ => k _ (setA ad (.srcT S.next) T2) z.1 (st1.trans z.2)) ?_
    refine At.re3 [.srcD, .srcT S.next] A1 (fun c lc => ?_) (fun c hc lc => ?_) (fun c hc lc => ?_) (fun c hc lc => ?_) (fun c hc c' hc' lc lc' z e => ?_) (fun b o nb e => ?_) (setA_ne (by intro z; cases z))
    · cases c with
      | srcT t =>
        rcases List.mem_append.mp (show t ∈ S.srcs ++ [S.next] from lc) with y | y
        · exact .inr y
        · rw [List.mem_singleton.mp y]
          exact .inl (by simp)
      | _ => exact .inr lc
    · simp only [List.mem_cons, List.not_mem_nil, or_false] at hc
      rcases hc with rfl | rfl
      · rw [setA_ne (by intro z; cases z), upd_same, ent_put, if_neg hnx, srcT_fun]
        rfl
      · rw [setA_same, upd_ne nTD, upd_same]
        show _ = some (HO.tup [.int (if S.next = S.next then ((0 : Int), false) else S.unit S.next).1, .bl (if S.next = S.next then ((0 : Int), false) else S.unit S.next).2])
        rw [if_pos rfl]
    · have n1 : c ≠ .srcD := fun z => hc (by rw [z]; simp)
      have n2 : c ≠ .srcT S.next := fun z => hc (by rw [z]; simp)
      refine ⟨setA_ne n2, ?_⟩
      cases c with
      | srcD => exact absurd rfl n1
      | srcT j =>
        have nj : j ≠ S.next := fun z => n2 (by rw [z])
        show HO.tup [.int (if j = S.next then ((0 : Int), false) else S.unit j).1, .bl (if j = S.next then ((0 : Int), false) else S.unit j).2] = _
        rw [if_neg nj]
        rfl
      | _ => rfl
    · simp only [List.mem_cons, List.not_mem_nil, or_false] at hc
      rcases hc with rfl | rfl
      · exact .inl ⟨setA_ne (by intro z; cases z), trivial⟩
      · exact .inr (by rw [setA_same]; exact hT2)
    · simp only [List.mem_cons, List.not_mem_nil, or_false] at hc hc'
      rcases hc with rfl | rfl
      · rw [setA_ne (by intro z; cases z), hD] at z
        cases z
      · rcases hc' with rfl | rfl
        · rw [setA_same, setA_ne (by intro z; cases z)] at e
          exact absurd e nTD
        · rfl
    · rw [upd_ne (nb .srcD (by simp) trivial), upd_ne (ne_of_none e hT2)]
      exact e
end

def newSys (P N : Int) : Sys where
  P := P
  N := N
  next := 0
  procs := [0]
  tab := fun _ => List.replicate N.toNat none
  srcs := []
  unit := fun _ => (0, false)
section
variable {P : Program} {w : World} {K : PySem.W.Frag} {mg : Str → Option Value} {base : Heap} {C : Cs}
structure LimTxt (K : PySem.W.Frag) (mg : Str → Option Value) (CS : Addr) : Prop where
  lp : ∃ t, mg "LEAST_PROCESSES" = some (.int 2 t)
  ln : ∃ t, mg "LEAST_NUMBERS" = some (.int 3 t)
  mp : ∃ u, Con K CS "MOST_PROCESSES" (.int 6) u
  mn : ∃ u, Con K CS "MOST_NUMBERS" (.int 8) u
def spSysInit (C : Cs) : Sp := fun vs H Q _ => ∃ (x dx0 : Addr) (p n : Int), vs = [.ref x, .int p, .int n] ∧ H x = some (.ins C.S dx0 []) ∧ 2 ≤ p ∧ p ≤ 6 ∧ 3 ≤ n ∧ n ≤ 8 ∧
  ∀ H' ad dx, ad .box = x → At C H' (newSys p n) ad dx → (∀ b o, b ≠ x → H b = some o → H' b = some o) → (∀ b, own (newSys p n) ad b → b = x ∨ H b = none) → Q .non H'
theorem scSysInit : FnScope ["self", "processes", "numbers"] ["self", "processes", "numbers"] (defScope sSysInit) := ⟨rfl, rfl, rfl, by decide +kernel, rfl, by decide +kernel, by decide +kernel⟩
def initA (x td sd ud tl : Addr) : Cell → Addr
  | .box => x
  | .tabD => td
  | .srcD => sd
  | .setD => ud
  | _ => tl
theorem okSysInit {dvs : List V} {kws : List (Str × V)} {f fB : Addr} {fd fdB : FuncData} (F : FunD K "__init__" "System.__init__" (defArgs sSysInit) (defBody sSysInit) (defScope sSysInit) dvs kws f fd) (T : ClsF K C.S sysF) (L : LimTxt K mg C.S)
    (GB : DO P w K mg base 2 "is_between" ["x", "least", "most"] spIsBetween fB fdB) : FnOk P w K mg base CX0 3 f fd ["self", "processes", "numbers"] (spSysInit C) := by
  refine F.ok scSysInit (fun vs H Q E h => ?_) (fun cdv A outer s H vs Q E hr h => ?_)
  · obtain ⟨_, _, _, _, rfl, _⟩ := h
    rfl
  · obtain ⟨x, dx0, p, n, rfl, hx, p0, p1, n0, n1, k⟩ := h
    obtain ⟨tp, lp⟩ := L.lp
    obtain ⟨tn, ln⟩ := L.ln
    obtain ⟨up, mp⟩ := L.mp
    obtain ⟨un, mn⟩ := L.mn
    refine ⟨_, pss_cons (ps_if (pt_not (pt_val (pe_call GB.g hr (by rfl) GB.m GB.k GB.b .nil pass0 (pa_cons (pv 1) (pa_cons (pe_glob (v := .int 2) (by rfl) lp ⟨_, rfl⟩) (pa_cons (pe_con (pv 0) rfl) pa_nil)))))) (pss_one ps_never) pss_nil)
      (pss_cons (ps_if (pt_not (pt_val (pe_call GB.g hr (by rfl) GB.m GB.k GB.b .nil pass0 (pa_cons (pv 2) (pa_cons (pe_glob (v := .int 3) (by rfl) ln ⟨_, rfl⟩) (pa_cons (pe_con (pv 0) rfl) pa_nil)))))) (pss_one ps_never) pss_nil)
      (pss_cons (ps_fld (pv 0) (pv 1) rfl) (pss_cons (ps_fld (pv 0) (pv 2) rfl)
      (pss_cons (ps_fld (pv 0) (pe_disp (pps_cons pe_int (pe_op op_rep (pe_lst (pa_cons pe_non pa_nil)) (pv 2)) pps_nil) (by rfl) (by rfl) (fun z => by cases z) (by decide)) rfl)
      (pss_cons (ps_fld (pv 0) pe_dnewK rfl) (pss_cons (ps_fld (pv 0) pe_dnewK rfl) (pss_one (ps_fld (pv 0) pe_int rfl)))))))), ?_⟩
    walk_at "wn"
    refine ⟨_, rfl, x, C.S, dx0, _, _, _, rfl, hx, T.cl, mp, rfl, ?_⟩
    refine ⟨p, 2, 6, rfl, ?_⟩
    rw [decide_eq_true p0, decide_eq_true p1]
    refine ⟨_, rfl, ?_⟩
    walk_at "wn"
    refine ⟨_, rfl, _, rfl, x, C.S, dx0, _, _, _, rfl, hx, T.cl, mn, rfl, ?_⟩
    refine ⟨n, 3, 8, rfl, ?_⟩
    rw [decide_eq_true n0, decide_eq_true n1]
    refine ⟨_, rfl, ?_⟩
    refine ⟨_, rfl, _, rfl, x, C.S, dx0, _, rfl, hx, T.cl, T.no _ (by decide), by show 0 < 1000; decide, ?_⟩
    refine ⟨_, rfl, _, rfl, x, C.S, dx0, _, rfl, upd_same, T.cl, T.no _ (by decide), by show 1 < 1000; decide, ?_⟩
    have g1 : ∀ b o, b ≠ x → H b = some o → upd (upd H x (.ins C.S dx0 (putF "process_limit" (V.int p) []))) x (.ins C.S dx0 (putF "number_limit" (V.int n) (putF "process_limit" (V.int p) []))) b = some o := fun b o nb e => by rw [upd_ne nb, upd_ne nb]; exact e
    have x1 : upd (upd H x (.ins C.S dx0 (putF "process_limit" (V.int p) []))) x (.ins C.S dx0 (putF "number_limit" (V.int n) (putF "process_limit" (V.int p) []))) x = some (.ins C.S dx0 [("process_limit", .int p), ("number_limit", .int n)]) := upd_same
    generalize upd (upd H x (.ins C.S dx0 (putF "process_limit" (V.int p) []))) x (.ins C.S dx0 (putF "number_limit" (V.int n) (putF "process_limit" (V.int p) []))) = H1 at g1 x1
    have fr : ∀ {H' : Hp} {l : Addr}, (∀ b o, b ≠ x → H b = some o → H' b = some o) → H' l = none → l ≠ x → H l = none := fun {H'} {l} g e nl => by
      cases z : H l with
      | none => rfl
      | some o => rw [g l o nl z] at e; cases e
    intro td htd
    have ntx : td ≠ x := fun z => by rw [z, x1] at htd; cases htd
    have s2 := Same.new' (o := .dK []) htd
    refine ⟨by show 1 ≤ sizeLine; decide, fun l0 hl0 => ?_⟩
    have s3 := Same.new' (o := .lst [V.non]) hl0
    have l0' : upd (upd H1 td (.dK [])) l0 (.lst [V.non]) l0 = some (.lst [V.non]) := upd_same
    refine ⟨_, rfl, l0, n, _, rfl, rfl, l0', by omega, by omega, ?_, fun tl htl => ?_⟩
    · show 1 * n.toNat ≤ sizeLine
      rw [sizeLine_eq]
      omega
    have s4 := Same.new' (o := .lst (List.replicate n.toNat [V.non]).flatten) htl
    have td4 : upd (upd (upd H1 td (.dK [])) l0 (.lst [V.non])) tl (.lst (List.replicate n.toNat [V.non]).flatten) td = some (.dK []) := s4 _ _ (s3 _ _ upd_same)
    have x4 := s4 _ _ (s3 _ _ (s2 _ _ x1))
    have tl4 : upd (upd (upd H1 td (.dK [])) l0 (.lst [V.non])) tl (.lst (List.replicate n.toNat [V.non]).flatten) tl = some (.lst (List.replicate n.toNat [V.non]).flatten) := upd_same
    have g4 : ∀ b o, b ≠ x → H b = some o → upd (upd (upd H1 td (.dK [])) l0 (.lst [V.non])) tl (.lst (List.replicate n.toNat [V.non]).flatten) b = some o := fun b o nb e => s4 _ _ (s3 _ _ (s2 _ _ (g1 b o nb e)))
    have hd0 : H td = none := fr g1 htd ntx
    have ntlx : tl ≠ x := fun z => by rw [z] at htl; rw [s3 _ _ (s2 _ _ x1)] at htl; cases htl
    have htl0 : H tl = none := fr (H' := upd (upd H1 td (.dK [])) l0 (.lst [V.non])) (fun b o nb e => s3 _ _ (s2 _ _ (g1 b o nb e))) htl ntlx
    generalize upd (upd (upd H1 td (.dK [])) l0 (.lst [V.non])) tl (.lst (List.replicate n.toNat [V.non]).flatten) = H4 at td4 x4 tl4 g4
    have ntd : tl ≠ td := ne_of tl4 td4 (by intro z; cases z)
    refine ⟨td4, [(Sum.inl 0, .ref tl)], rfl, by show 1 ≤ 15; decide, ?_⟩
    have g5 : ∀ b o, b ≠ x → H b = some o → upd H4 td (.dK (mergeK [] [((Sum.inl 0 : Key), V.ref tl)])) b = some o := fun b o nb e => by rw [upd_ne (ne_of_none e hd0)]; exact g4 b o nb e
    have x5 : upd H4 td (.dK (mergeK [] [((Sum.inl 0 : Key), V.ref tl)])) x = _ := (upd_ne (Ne.symm ntx)).trans x4
    have tl5 : upd H4 td (.dK (mergeK [] [((Sum.inl 0 : Key), V.ref tl)])) tl = _ := (upd_ne ntd).trans tl4
    have td5 : upd H4 td (.dK (mergeK [] [((Sum.inl 0 : Key), V.ref tl)])) td = some (.dK [((Sum.inl 0 : Key), V.ref tl)]) := upd_same
    generalize upd H4 td (.dK (mergeK [] [((Sum.inl 0 : Key), V.ref tl)])) = H5 at g5 x5 tl5 td5
    refine ⟨_, rfl, x, C.S, dx0, _, rfl, x5, T.cl, T.no _ (by decide), by show 2 < 1000; decide, ?_⟩
    have g6 : ∀ b o, b ≠ x → H5 b = some o → upd H5 x (.ins C.S dx0 (putF "tables" (V.ref td) [("process_limit", .int p), ("number_limit", .int n)])) b = some o := fun b o nb e => by rw [upd_ne nb]; exact e
    have x6 : upd H5 x (.ins C.S dx0 (putF "tables" (V.ref td) [("process_limit", .int p), ("number_limit", .int n)])) x = some (.ins C.S dx0 [("process_limit", .int p), ("number_limit", .int n), ("tables", .ref td)]) := upd_same
    generalize upd H5 x (.ins C.S dx0 (putF "tables" (V.ref td) [("process_limit", .int p), ("number_limit", .int n)])) = H6 at g6 x6
    intro sd hsd
    have nsx : sd ≠ x := fun z => by rw [z, x6] at hsd; cases hsd
    have nst : sd ≠ td := fun z => by rw [z, g6 _ _ ntx td5] at hsd; cases hsd
    have hsd0 : H sd = none := fr (fun b o nb e => g6 b o nb (g5 b o nb e)) hsd nsx
    have s7 := Same.new' (o := .dK []) hsd
    refine ⟨_, rfl, x, C.S, dx0, _, rfl, s7 _ _ x6, T.cl, T.no _ (by decide), by show 3 < 1000; decide, ?_⟩
    have g8 : ∀ b o, b ≠ x → H6 b = some o → upd (upd H6 sd (.dK [])) x (.ins C.S dx0 (putF "sources" (V.ref sd) [("process_limit", .int p), ("number_limit", .int n), ("tables", .ref td)])) b = some o := fun b o nb e => by rw [upd_ne nb]; exact s7 _ _ e
    have sd8 : upd (upd H6 sd (.dK [])) x (.ins C.S dx0 (putF "sources" (V.ref sd) [("process_limit", .int p), ("number_limit", .int n), ("tables", .ref td)])) sd = some (.dK []) := by rw [upd_ne nsx]; exact upd_same
    have x8 : upd (upd H6 sd (.dK [])) x (.ins C.S dx0 (putF "sources" (V.ref sd) [("process_limit", .int p), ("number_limit", .int n), ("tables", .ref td)])) x = some (.ins C.S dx0 [("process_limit", .int p), ("number_limit", .int n), ("tables", .ref td), ("sources", .ref sd)]) := upd_same
    generalize upd (upd H6 sd (.dK [])) x (.ins C.S dx0 (putF "sources" (V.ref sd) [("process_limit", .int p), ("number_limit", .int n), ("tables", .ref td)])) = H8 at g8 sd8 x8
    intro ud hud
    have nux : ud ≠ x := fun z => by rw [z, x8] at hud; cases hud
    have nut : ud ≠ td := fun z => by rw [z, g8 _ _ ntx (g6 _ _ ntx td5)] at hud; cases hud
    have nus : ud ≠ sd := fun z => by rw [z, sd8] at hud; cases hud
    have hud0 : H ud = none := fr (fun b o nb e => g8 b o nb (g6 b o nb (g5 b o nb e))) hud nux
    have s9 := Same.new' (o := .dK []) hud
    refine ⟨_, rfl, x, C.S, dx0, _, rfl, s9 _ _ x8, T.cl, T.no _ (by decide), by show 4 < 1000; decide, ?_⟩
    refine ⟨_, rfl, x, C.S, dx0, _, rfl, upd_same, T.cl, T.no _ (by decide), by show 5 < 1000; decide, ?_⟩
    have fin : ∀ b o, b ≠ x → upd H8 ud (.dK []) b = some o → upd (upd (upd H8 ud (.dK [])) x (.ins C.S dx0 (putF "sets" (V.ref ud) [("process_limit", .int p), ("number_limit", .int n), ("tables", .ref td), ("sources", .ref sd)]))) x (.ins C.S dx0 (putF "next_thing" (V.int 0) (putF "sets" (V.ref ud) [("process_limit", .int p), ("number_limit", .int n), ("tables", .ref td), ("sources", .ref sd)]))) b = some o := fun b o nb e => by rw [upd_ne nb, upd_ne nb]; exact e
    have xf : upd (upd (upd H8 ud (.dK [])) x (.ins C.S dx0 (putF "sets" (V.ref ud) [("process_limit", .int p), ("number_limit", .int n), ("tables", .ref td), ("sources", .ref sd)]))) x (.ins C.S dx0 (putF "next_thing" (V.int 0) (putF "sets" (V.ref ud) [("process_limit", .int p), ("number_limit", .int n), ("tables", .ref td), ("sources", .ref sd)]))) x = some (sysO C.S dx0 (newSys p n) td sd ud) := upd_same
    generalize upd (upd (upd H8 ud (.dK [])) x (.ins C.S dx0 (putF "sets" (V.ref ud) [("process_limit", .int p), ("number_limit", .int n), ("tables", .ref td), ("sources", .ref sd)]))) x (.ins C.S dx0 (putF "next_thing" (V.int 0) (putF "sets" (V.ref ud) [("process_limit", .int p), ("number_limit", .int n), ("tables", .ref td), ("sources", .ref sd)]))) = HF at fin xf
    have tdF : HF td = some (.dK [((Sum.inl 0 : Key), V.ref tl)]) := fin _ _ ntx (s9 _ _ (g8 _ _ ntx (g6 _ _ ntx td5)))
    have sdF : HF sd = some (.dK []) := fin _ _ nsx (s9 _ _ sd8)
    have udF : HF ud = some (.dK []) := fin _ _ nux upd_same
    have tlF : HF tl = some (.lst (List.replicate n.toNat [V.non]).flatten) := fin _ _ ntlx (s9 _ _ (g8 _ _ ntlx (g6 _ _ ntlx tl5)))
    have et : (List.replicate n.toNat [V.non]).flatten = (List.replicate n.toNat (none : Option Int)).map optV := by
      rw [List.map_replicate]
      have : ∀ m : Nat, (List.replicate m [V.non]).flatten = List.replicate m V.non := by
        intro m
        induction m with
        | zero => rfl
        | succ m ih => rw [List.replicate_succ, List.flatten_cons, ih]; rfl
      exact this _
    rw [et] at tlF
    have lt0 : ∀ t, live (newSys p n) (.tab t) → t = 0 := fun t h => List.mem_singleton.mp h
    have no : ∀ t : Int, t ∉ ([] : List Int) := fun t h => nomatch h
    refine k HF (initA x td sd ud tl) (fun _ => dx0) rfl ⟨fun c hc => ?_, fun c c' hc hc' z => ?_⟩ (fun b o nb e => fin b o nb (s9 _ _ (g8 b o nb (g6 b o nb (g5 b o nb e))))) (fun b hb => ?_)
    · cases c with
      | box => exact xf
      | tabD => exact tdF
      | srcD => exact sdF
      | setD => exact udF
      | tab t => exact tlF
      | srcT t => exact absurd hc (no t)
    · have n_xt : x ≠ td := Ne.symm ntx
      have n_ts : tl ≠ sd := ne_of tlF sdF (by intro z; cases z)
      have n_tu : tl ≠ ud := ne_of tlF udF (by intro z; cases z)
      have dead : ∀ {c : Cell}, live (newSys p n) c → c = .box ∨ c = .tabD ∨ c = .srcD ∨ c = .setD ∨ c = .tab 0 := fun {c} hc => by
        cases c with
        | box => exact .inl rfl
        | tabD => exact .inr (.inl rfl)
        | srcD => exact .inr (.inr (.inl rfl))
        | setD => exact .inr (.inr (.inr (.inl rfl)))
        | tab t => exact .inr (.inr (.inr (.inr (by rw [lt0 t hc]))))
        | srcT t => exact absurd hc (no t)
      rcases dead hc with rfl | rfl | rfl | rfl | rfl <;> rcases dead hc' with rfl | rfl | rfl | rfl | rfl <;> first | rfl | (exfalso; revert z; first | exact fun z => n_xt z | exact fun z => n_xt z.symm | exact fun z => nsx z | exact fun z => nsx z.symm | exact fun z => nux z | exact fun z => nux z.symm | exact fun z => ntlx z | exact fun z => ntlx z.symm | exact fun z => nst z | exact fun z => nst z.symm | exact fun z => nut z | exact fun z => nut z.symm | exact fun z => nus z | exact fun z => nus z.symm | exact fun z => ntd z | exact fun z => ntd z.symm | exact fun z => n_ts z | exact fun z => n_ts z.symm | exact fun z => n_tu z | exact fun z => n_tu z.symm)
    · obtain ⟨c, hc, rfl⟩ := hb
      cases c with
      | box => exact .inl rfl
      | tabD => exact .inr hd0
      | srcD => exact .inr hsd0
      | setD => exact .inr hud0
      | tab t => exact .inr htl0
      | srcT t => exact absurd hc (no t)
end

abbrev sCopy : Stmt := meth 19 6
abbrev sFinish : Stmt := meth 19 11
def copied (S : Sys) (p : Int) (m : Nat) (t : Int) : Sys := { S with tab := fun q => if q = p then (S.tab p).set m (some t) else S.tab q }
section
variable {P : Program} {w : World} {K : PySem.W.Frag} {mg : Str → Option Value} {base : Heap} {C : Cs}
/-! a copy onto the lowest free number -/
def spCopy (C : Cs) : Sp := fun vs H Q _ => ∃ (p n t : Int) (m : Nat), OnSys C vs H [.int p, .int n, .non] fun S ad dx => Means S p n t ∧ firstFree (S.tab p) m ∧ (S.tab p).length ≤ 1000 ∧ ∀ H', At C H' (copied S p m t) ad dx → Step H S ad H' (copied S p m t) ad → Q (.int (m : Int)) H'
theorem scCopy : FnScope ["self", "process", "number", "to", "thing", "goal", "table"] ["self", "process", "number", "to"] (defScope sCopy) := ⟨rfl, rfl, rfl, by decide +kernel, rfl, by decide +kernel, by decide +kernel⟩
theorem okCopy {dvs : List V} {kws : List (Str × V)} {f fT fN fF : Addr} {fd fdT fdN fdF : FuncData} (F : FunD K "copy" "System.copy" (defArgs sCopy) (defBody sCopy) (defScope sCopy) dvs kws f fd) (T : ClsF K C.S sysF)
    (GT : MO P w K mg base 4 C.S "thing_at" ["self", "process", "number"] (spThingAt C) fT fdT) (GN : MO P w K mg base 3 C.S "is_table_number" ["self", "number"] (spIsTabNum C) fN fdN) (GF : MO P w K mg base 4 C.S "free_number" ["self", "process"] (spFreeNum C) fF fdF) :
    FnOk P w K mg base CX0 5 f fd ["self", "process", "number", "to"] (spCopy C) := by
  refine F.ok scCopy (fun vs H Q E h => ?_) (fun cdv A outer s H vs Q E hr h => ?_)
  · obtain ⟨_, _, _, _, _, _, _, rfl, _⟩ := h
    rfl
  · obtain ⟨p, n, t, m, S, ad, dx, rfl, A0, M, hf, hl, k⟩ := h
    have hu := hu_of hr
    have hr3 : Room 3 _ := hr.mono (by decide)
    refine ⟨_, pss_cons (ps_set (i := 4) scCopy.nd rfl (Or.inl rfl) (pe_meth (pv 0) T.cl GT.m GT.g hr GT.b .nil pass0 (pa_cons (pv 1) (pa_cons (pv 2) pa_nil))))
      (pss_cons (ps_if (PW.pt (pw_and (pt_cmpR oNotN (pv 3) pe_non (nomark _)) (pw_and1 (pt_not (pt_val (pe_meth (pv 0) T.cl GN.m GN.g hr3 GN.b .nil pass0 (pa_cons (pv 3) pa_nil))))))) (pss_one ps_never) pss_nil)
      (pss_cons (ps_set (i := 5) scCopy.nd rfl (Or.inl rfl) (pe_ifExp (pt_cmpR oIsN (pv 3) pe_non (nomark _)) (pe_meth (pv 0) T.cl GF.m GF.g hr GF.b .nil pass0 (pa_cons (pv 1) pa_nil)) (pv 3)))
      (pss_cons (ps_set (i := 6) scCopy.nd rfl (Or.inl rfl) (pe_dget hu (pe_fld (pv 0) rfl) (pv 1) (fun _ _ => rfl)))
      (pss_cons (ps_if (pt_cmpR op_ne (pe_ix ix_list (pv 6) (pv 5) (fun _ _ => rfl)) (pv 4) (nomark _))
        (pss_cons (ps_if (pt_cmpR oNotN (pe_ix ix_list (pv 6) (pv 5) (fun _ _ => rfl)) pe_non (nomark _)) (pss_one ps_never) pss_nil)
        (pss_one (ps_asg (pv 4) (pg_sub (pv 6) (pv 5) set_list)))) pss_nil)
      (pss_one (ps_ret (pv 5))))))), ?_⟩
    have hb := A0.at_ .box trivial
    walk_at "wn"
    refine ⟨_, rfl, ad .box, dx .box, _, rfl, hb, rfl, ?_⟩
    walk_at "wn"
    refine ⟨p, n, t, S, ad, dx, rfl, A0, M, ?_⟩
    walk_at "wn"
    refine ⟨_, rfl, ad .box, dx .box, _, rfl, hb, rfl, ?_⟩
    walk_at "wn"
    refine ⟨p, m, S, ad, dx, rfl, A0, M.pr, hf, hl, fun H1 s1 => ?_⟩
    have A1 := A0.same s1
    have hb1 := A1.at_ .box trivial
    have ht := A1.at_ (.tab p) M.pr
    walk_at "wn"
    have hv : valV (entKV S.procs fun p => ad (.tab p)) (Sum.inl p) = some (.ref (ad (.tab p))) := by rw [ent_val, if_pos M.pr]
    refine ⟨_, rfl, ad .box, C.S, dx .box, _, _, rfl, hb1, T.cl, T.no _ (by decide), rfl, ?_⟩
    refine ⟨_, rfl, ad .tabD, _, rfl, hv ▸ DGet.k (k := Sum.inl p) (A1.at_ .tabD trivial), ?_⟩
    have hm : m < (S.tab p).length := (List.getElem?_eq_some_iff.mp hf.1).1
    have hat : atI ((S.tab p).map optV) (m : Int) = some V.non := atI_nat (by rw [List.getElem?_map, hf.1]; rfl)
    walk_at "wn"
    refine ⟨ad (.tab p), _, (m : Int), _, rfl, rfl, SqL.of ht, hat, ?_⟩
    walk_at "wn"
    rw [decide_eq_false (by intro z; cases z)]
    walk_at "wn"
    refine ⟨ad (.tab p), _, (m : Int), _, rfl, rfl, SqL.of ht, hat, ?_⟩
    walk_at "wn"
    refine ⟨ad (.tab p), _, (m : Int), m, rfl, rfl, ht, by rw [List.length_map]; exact ixN_nat hm, ?_⟩
    walk_at "wn"
    refine (fun z : At C _ _ _ _ ∧ Step _ _ _ _ _ _ => k _ z.1 ((Step.same s1).trans z.2)) ?_
    refine At.re2 [.tab p] A1 (fun c l => by cases c <;> exact l) (fun c hc => ?_) (fun c hc => ?_) (fun c hc l => ?_) (fun b o n e => ?_)
    · rw [List.mem_singleton.mp hc]
      exact M.pr
    · rw [List.mem_singleton.mp hc, upd_same]
      show _ = some (HO.lst ((if p = p then (S.tab p).set m (some t) else S.tab p).map optV))
      rw [if_pos rfl, List.map_set]
      rfl
    · cases c with
      | tab q =>
        have nq : q ≠ p := fun z => hc (by rw [z]; simp)
        show HO.lst ((if q = p then (S.tab p).set m (some t) else S.tab q).map optV) = _
        rw [if_neg nq]
        rfl
      | _ => rfl
    · rw [upd_ne (n (.tab p) (by simp))]
      exact e
end

/-! own errors over any built-in base -/
structure BX (x : Str) (B newId initId : String) (tl : List Value) : Prop where
  bf : ExcBaseFacts B newId initId (.type B :: tl)
  sf : StoreFacts B (.type B :: tl) "object.__setattr__" "object"
  ty : typeOf (.type B) = pure (.type "type")
  st : Manifest.isStub B = false
  bo : bootBuiltins x = some (.type B)
  nn : x ≠ "__name__"
  nd : (x == ("__debug__" : Str)) = false
  hi : PySem.W.handedIn (.builtin initId) = true
theorem bxRuntime : BX "RuntimeError" "RuntimeError" "RuntimeError.__new__" "RuntimeError.__init__" [.type "Exception", .type "BaseException", .type "object"] := ⟨F.excBase_RuntimeError, F.store_RuntimeError, by kernel_rfl, by decide +kernel, PyProof.Rows.Boot.«RuntimeError», by decide, by decide, by decide +kernel⟩
theorem bxLookup : BX "LookupError" "LookupError" "LookupError.__new__" "LookupError.__init__" [.type "Exception", .type "BaseException", .type "object"] := ⟨F.excBase_LookupError, F.store_LookupError, by kernel_rfl, by decide +kernel, PyProof.Rows.Boot.«LookupError», by decide, by decide, by decide +kernel⟩
theorem bxOverflow : BX "OverflowError" "OverflowError" "OverflowError.__new__" "OverflowError.__init__" [.type "ArithmeticError", .type "Exception", .type "BaseException", .type "object"] := ⟨F.excBase_OverflowError, F.store_OverflowError, by kernel_rfl, by decide +kernel, PyProof.Rows.Boot.«OverflowError», by decide, by decide, by decide +kernel⟩
theorem bxType : BX "TypeError" "TypeError" "TypeError.__new__" "TypeError.__init__" [.type "Exception", .type "BaseException", .type "object"] := ⟨F.excBase_TypeError, F.store_TypeError, by kernel_rfl, by decide +kernel, PyProof.Rows.Boot.«TypeError», by decide, by decide, by decide +kernel⟩
theorem bxValue : BX "ValueError" "ValueError" "ValueError.__new__" "ValueError.__init__" [.type "Exception", .type "BaseException", .type "object"] := ⟨F.excBase_ValueError, F.store_ValueError, by kernel_rfl, by decide +kernel, PyProof.Rows.Boot.«ValueError», by decide, by decide, by decide +kernel⟩
/-- a class of the program's straight over the base with this mro -/
structure OxB (K : PySem.W.Frag) (C : Addr) (newId : String) (bm : List Value) : Prop where
  cls : ∃ nm q N bs sn sub ab col dd k0 k1 k2 k3 k5, K.lookup C = some (excClassObj nm q C N bs bm true sn sub ab col dd k0 k1 k2 k3 k5 newId)
  sa : PySem.W.findIn K (.ref C) "__setattr__" = some (some (.builtin "object.__setattr__"))
  exC : PySem.W.subIn K (.ref C) (.type "BaseException") = some true
  tyC : PySem.W.typeIn K (.ref C) = some (.type "type")
  kC : PySem.W.keepIn K (.ref C) = true
namespace OxB
variable {K : PySem.W.Frag} {C : Addr} {newId B : String} {tl : List Value}
theorem data (T : OxB K C newId (.type B :: tl)) : ∃ cd : ClassData, PySem.W.clsIn K C = some cd ∧ cd.mro = .ref C :: .type B :: tl ∧ cd.hasDict = true := by
  obtain ⟨nm, q, N, bs, sn, sub, ab, col, dd, k0, k1, k2, k3, k5, hC⟩ := T.cls
  refine ⟨{ name := nm, bases := bs, mro := .ref C :: .type B :: tl, ns := N, qualname := q, hasDict := true, slotNames := sn, subclasses := sub, abstract := ab, collection := col, hasDel := false }, ?_, rfl, rfl⟩
  unfold PySem.W.clsIn
  rw [hC]
theorem over (T : OxB K C newId (.type B :: tl)) : PySem.W.excOver K C (.type B :: tl) = true := by
  obtain ⟨cd, h1, h2, _⟩ := T.data
  unfold PySem.W.excOver
  rw [h1]
  show (match cd.mro with | .ref C' :: bm => C' == C && PySem.W.excTail (.type B :: tl) bm | _ => false) = true
  rw [h2]
  have e : PySem.W.excTail (.type B :: tl) (.type B :: tl) = true := by
    unfold PySem.W.excTail
    exact beq_self_eq_true _
  show (C == C && PySem.W.excTail (.type B :: tl) (.type B :: tl)) = true
  rw [e, beq_self_eq_true]
  rfl
end OxB
section
open Builtin Builtin.ObjectAttr
/-- the first field of an error that has no dict yet -/
theorem oxb_first {prog : Program} {w : World} {A : Around} {R : Result → Shared → Prop} {hp : Heap} {g : Array GenState} {d : Drawn} {t : Nat} {os : OsState} {K : PySem.W.Frag} {C x : Addr} {newId B : String} {tl : List Value} {name : Str} {tk : Tok} {v : Value} {fv : Array Value}
    (T : OxB K C newId (.type B :: tl)) (SF : StoreFacts B (.type B :: tl) "object.__setattr__" "object") (X : K.In hp) (hx : hp.get? x = some { cls := .ref C, data := .fields fv }) (no : PySem.W.findIn K (.ref C) name = some none)
    (q : ∀ h' tk' dx, (∀ b o, b ≠ x → hp.get? b = some o → h'.get? b = some o) → hp.objs.size ≤ dx → dx ≠ x → h'.get? x = some { cls := .ref C, dict := some dx, data := .fields fv } → h'.Ns1 dx (fun y => if y = name then some v else none) → R (.ok (.ret .none)) ⟨h', g, d, tk', os⟩) :
    codeAny (model prog w) A (.call (.builtin "object.__setattr__") ⟨[.ref x, .str name tk, v], []⟩) R ⟨hp, g, d, t, os⟩ := by
  have J : PySem.W.InstAt (⟨hp, g, d, t, os⟩ : Shared).heap x { cls := .ref C, data := .fields fv } C none := ⟨hx, rfl, rfl, trivial⟩
  have tkr : PySem.W.takerIn K C name = some none := by
    unfold PySem.W.takerIn
    rw [no]
    rfl
  obtain ⟨cd, hcd, _, hhd⟩ := T.data
  have away : x ≠ hp.objs.size := Nat.ne_of_lt (Heap.lt_size hx)
  refine PySem.W.osa_openX (s := ⟨hp, g, d, t, os⟩) SF X J T.over tkr fun onT => ?_
  show wpAny _ _ (storeInOwnDict (.ref x) (.ref C) (.str name tk) name v onT) _ _ _
  have ask : PySem.W.Looks (model prog w) hp (classData C) cd := PySem.W.looks_clsIn X hcd
  obtain ⟨nm, bs, mro, ns, qn, hd, sn, sb, ab, col, del⟩ := cd
  obtain rfl : hd = true := hhd
  unfold storeInOwnDict ownDictForStores
  repeat (first | with_reducible refine PySem.HandSPX.store_in_new ?_ ?_ | (with_reducible refine wpAny_loadPart_at hx ?_) | (with_reducible refine ask.at ?_) | wp_step)
  · exact (fun laid => ⟨_, #[], _, laid, rfl, fun e he => absurd he (by simp), fun _ => rfl⟩) ((Heap.get?_update_ne _ _ _ _ away.symm).trans (Heap.get?_push_at rfl rfl))
  · intro h' tk' hn same
    have h1 : (hp.push { cls := .type "dict", data := .dict #[] }).get? x = some { cls := .ref C, data := .fields fv } := Heap.get?_push_of_some _ hx
    refine q h' tk' hp.objs.size (fun b o nb eb => ?_) (Nat.le_refl _) away.symm ((same.2 x away).trans (Heap.get?_update_self _ h1 rfl)) hn
    rw [same.2 b (Nat.ne_of_lt (Heap.lt_size eb)), Heap.get?_update_ne _ _ _ _ nb]
    exact Heap.get?_push_of_some _ eb
end
section
variable {X : Cx} {pins : List (Addr × Obj)} {σ : L2.St} {H : Hp} {s : Shared} {a C : Addr} {f : Str} {y : V} {u : Value} {newId initId B : String} {tl : List Value} {A : Around}
theorem oxb_store {Q : Unit → Shared → Prop} {E : Value → Shared → Prop} (T : OxB X.K C newId (.type B :: tl)) (SF : StoreFacts B (.type B :: tl) "object.__setattr__" "object") (I : Inv X pins σ H s) (e : H a = some (exo a C none)) (no : PySem.W.findIn X.K (.ref C) f = some none) (ry : RelV y u)
    (k : ∀ dx s', H dx = none → dx ≠ a → Inv X pins σ (upd (upd H dx (exd dx [(f, y)])) a (exo a C (some dx))) s' → Q () s') : wpAny (model X.prog X.w) A (setAttr (.ref a) f u) Q E s := by
  obtain ⟨t1, ho⟩ := exo_at I.hok e
  obtain ⟨hp, g, d, t, os⟩ := s
  refine PySem.W.set_plain I.kIn (od := none) (ox := { cls := .ref C, dict := none, data := .fields #[.ref t1, .none, .none, .none, .bool false, .none] }) ⟨ho, rfl, rfl, trivial⟩ T.sa (oxb_first T SF I.kIn ho no fun h' tk' dx kp dn dne hx hn => ?_)
  have free : H dx = none := I.hok.fresh dn
  have apart : ∀ {b : Addr} {o : Obj}, hp.get? b = some o → b ≠ dx := fun {b o} z => Nat.ne_of_lt (Nat.lt_of_lt_of_le (Heap.lt_size z) dn)
  have other : ∀ {b : Addr}, H b = none → b ≠ a := fun {b} n z => by rw [z, e] at n; cases n
  refine k dx _ free dne (I.un (t' := tk') ⟨fun b o z n _ _ => kp b o (other n) z, fun b o z n _ _ => ⟨o.slots, kp b o (other n) z⟩, fun b o z n _ => ?_, fun b o z _ => ?_, fun b xs z => ?_, fun b o v z => ?_, fun b ps z => ⟨#[], ?_⟩⟩ fun b o z => ?_)
  · rw [upd_ne (other n), upd_ne (apart z)]
    exact n
  · by_cases hb : b = a
    · exact ⟨_, by rw [hb]; exact hx⟩
    · exact ⟨o, kp b o hb z⟩
  · rw [upd_ne (at_ne e z exo_tup), upd_ne (ne_of_none z free)]
    exact z
  · rw [upd_ne (at_ne e z exo_frz), upd_ne (ne_of_none z free)]
    exact z
  · rw [upd_ne (at_ne e z exo_tbl), upd_ne (ne_of_none z free), z]
    simp
  · by_cases hb : b = a
    · subst hb
      rw [upd_same] at z
      cases z
      exact exo_ok hx
    rw [upd_ne hb] at z
    by_cases hd : b = dx
    · subst hd
      rw [upd_same] at z
      cases z
      exact exd_ok hn (relO_put (fs := []) ry fun g => True.intro)
    rw [upd_ne hd] at z
    refine (I.hok b o z).stay (fun c v hc y1 => kp c v ?_ y1) (fun c hc => ?_) (fun c xs hc => ?_)
    · rcases hc with hc | hc
      · exact hc ▸ hb
      · exact at_ne e hc exo_own
    · rw [upd_ne (at_ne e hc exo_own), upd_ne (ne_of_none hc free)]
      exact hc
    · rw [upd_ne (at_ne e hc exo_tup), upd_ne (ne_of_none hc free)]
      exact hc
theorem oxb_init {us : List Value} {Q : Value → Shared → Prop} {E : Value → Shared → Prop} (T : OxB X.K C newId (.type B :: tl)) (BF : ExcBaseFacts B newId initId (.type B :: tl)) (I : Inv X pins σ H s) (e : H a = some (exo a C none)) (hl : us.length ≤ sizeLine) (k : ∀ s', Inv X pins σ H s' → Q .none s') :
    wpAny (model X.prog X.w) A (call (.builtin initId) (.ref a :: us)) Q E s := by
  obtain ⟨nm, q, N, bs, sn, sub, ab, col, dd, k0, k1, k2, k3, k5, hC⟩ := T.cls
  obtain ⟨t1, ho⟩ := exo_at I.hok e
  obtain ⟨hp, g, d, t, os⟩ := s
  refine wpAny_call (PySem.HandSPX.init_base BF (fun _ => rfl) (I.kIn _ _ hC) ho hl fun h' t2 kp hx => k _ ?_)
  have J := I.write (t' := t) (x := a) (e := a) (o := exo a C none) (by rw [e]; exact True.intro) (.inl rfl) kp ⟨_, hx⟩ (exo_ok hx)
  have eu : upd H a (exo a C none) = H := funext fun b => by
    by_cases hb : b = a
    · rw [hb, upd_same, e]
    · exact upd_ne hb
  exact eu ▸ J
/-- B.__init__(self, ..) of a base B -/
def tBI (K : PySem.W.Frag) (newId B : String) (tl : List Value) (ta : TA) : TE := fun σ H Q => ta σ H fun vs H1 => ∃ (a C : Addr) (ws : List V), vs = .ref a :: ws ∧ ws.length ≤ 1000 ∧ OxB K C newId (.type B :: tl) ∧ H1 a = some (exo a C none) ∧ Q .non H1
/-- self.f = e, the only field -/
def tOsB (K : PySem.W.Frag) (newId B : String) (tl : List Value) (f : Str) (to te : TE) : TS := fun D σ H => te σ H fun y H1 => to σ H1 fun x H2 => ∃ a C : Addr, x = .ref a ∧ OxB K C newId (.type B :: tl) ∧ PySem.W.findIn K (.ref C) f = some none ∧ H2 a = some (exo a C none) ∧
  ∀ dx, H2 dx = none → dx ≠ a → D.nx σ (upd (upd H2 dx (exd dx [(f, y)])) a (exo a C (some dx)))
variable {o e : Expr} {es : List Expr} {to te : TE} {ta : TA} {x : Str} {p p' p1 p2 pos : Pos}
theorem pe_binit {pl : Sem Bool} (Z : BX x B newId initId tl) (hg : Gl X x) (hm : X.mg x = none) (fI : PySem.W.findCls X.K (.type B) (.type "type") "__init__" = some (.val (.builtin initId))) (ha : PA X (e :: es) ta)
    (hc : eval (.Call (.Attribute (.Name x p1) "__init__" p2) (e :: es) [] pos) X.env = (eval (.Name x p1) X.env >>= fun ov => standAt p2.atName >>= fun _ => holding [ov] (getMethod ov "__init__" pl) >>= fun r => callWith pos r.1 r.2 (backTo pos (starEach (e :: es) X.env)) (backToKw pos (keywordEach [] X.env))) := by rfl)
    (st : starEach (e :: es) X.env = (false, eval e X.env) :: starEach es X.env := by rfl) (pn : (backTo pos (starEach es X.env)).any (·.1) = false := by rfl) : PE X (.Call (.Attribute (.Name x p1) "__init__" p2) (e :: es) [] pos) (tBI X.K newId B tl ta) := by
  refine ⟨fun pins s σ H Q I h => PySem.W.methodCall_KW (ld_blt I hg hm Z.bo ?_ Z.nn Z.nd) hc⟩
  obtain ⟨m, fr⟩ := I.fr
  refine PySem.W.method_type fr I.ok.mod.kin Z.ty Z.st fI Z.hi ?_
  show wpAny _ _ (callWith pos (Value.builtin initId) [] (backTo pos (starEach (e :: es) X.env)) []) _ _ _
  refine PyProof.Rows.callWith_method1 (thn (ha.run pos pins _ σ H _ (I.tok _) h) ?_) st pn
  rintro us s1 ⟨vs, H1, I1, r1, a, C, ws, rfl, hl, T, ea, q⟩
  cases r1 with
  | @cons _ u0 _ ur ra rw' =>
    obtain rfl : u0 = Value.ref a := ra
    exact oxb_init T Z.bf I1 ea (by rw [← Paired.length rw', sizeLine_eq]; omega) fun s' J => ⟨.non, H1, J, rfl, q⟩
theorem ps_osb (Z : BX x B newId initId tl) (ho : PE X o to) (he : PE X e te) (sw : swapsWith e (some (.Attribute o f p')) pos.line X.env = pure false := by rfl) : PS X (.Assign [.Attribute o f p'] e pos) (tOsB X.K newId B tl f to te) := by
  refine ⟨fun pins s σ H D I h => plainObj_wpAny_Assign_Attribute (thn (he.run pins s σ H _ I h) ?_) sw⟩
  rintro v s1 ⟨y, H1, I1, r1, q1⟩
  refine thn (ho.run pins s1 σ H1 _ I1 q1) ?_
  rintro u s2 ⟨x, H2, I2, r2, a, C, rfl, T, no, ea, q⟩
  obtain rfl : u = Value.ref a := r2
  exact oxb_store T Z.sf I2 ea no r1 fun dx s' n ne J => ⟨σ, _, J, q dx n ne⟩
theorem pmk_oxb {CX : CXT} {n : Str} {fI : Addr} {k : Nat} {fd : FuncData} {ps : List Str} {sp : Sp} {ds : List Value} {dvs : List V} (Z : BX x B newId initId tl) (T : OxB X.K C newId (.type B :: tl)) (iC : PySem.W.findIn X.K (.ref C) "__init__" = some (some (.ref fI)))
    (tI : PySem.W.typeIn X.K (.ref fI) = some (.type "function")) (G : FnOk X.prog X.w X.K X.mg X.base CX k fI fd ps sp) (hr : Room (k + 1) X.A) (hb : Binds X.K fd ps ds) (hd : Vals dvs ds) (hx : Passes CX X (fun _ _ _ => False)) (hg : Gl X n) (hm : X.mg n = some (.ref C)) (ha : PA X (e :: es) ta)
    (db : (n == ("__debug__" : Str)) = false := by decide) (st : starEach (e :: es) X.env = (false, eval e X.env) :: starEach es X.env := by rfl) (pn : (backTo pos (starEach es X.env)).any (·.1) = false := by rfl) : PMk X (.Call (.Name n p) (e :: es) [] pos) (tMkO C sp dvs ta) := by
  intro pins s σ H Q I h
  obtain ⟨nm, q, N, bs, sn, sub, ab, col, dd, k0, k1, k2, k3, k5, hC⟩ := T.cls
  refine wpAny_Call_Name_kw (ld_glob I hg hm (PySem.W.callWith_K (h₀ := X.base) I.ok.mod.kin T.kC (thn (ha.run pos pins s σ H _ I h) ?_) st pn) db)
  rintro us ⟨hp, g, dr, tk, os⟩ ⟨vs, H1, I1, r1, hz, q1⟩
  refine ⟨I1.kIn, ?_⟩
  show wpAny _ _ (call (.ref C) us) _ _ _
  have above : hp.objs.size ≤ hp.objs.size + 1 := Nat.le_succ _
  have want := q1 (hp.objs.size + 1) (I1.hok.fresh above)
  have kp : ∀ b o, hp.get? b = some o → ((hp.push (PySem.W.kdv_tup us)).push (PySem.HandSPX.excO C hp.objs.size)).get? b = some o := fun b o z => Heap.get?_push_of_some _ (Heap.get?_push_of_some _ z)
  have here : ((hp.push (PySem.W.kdv_tup us)).push (PySem.HandSPX.excO C hp.objs.size)).get? (hp.objs.size + 1) = some (PySem.HandSPX.excO C hp.objs.size) := by heap_get
  have I2 : Inv X pins σ (upd H1 (hp.objs.size + 1) (exo (hp.objs.size + 1) C none)) ⟨(hp.push (PySem.W.kdv_tup us)).push (PySem.HandSPX.excO C hp.objs.size), g, dr, tk, os⟩ := I1.laid (t' := tk) kp above (exo_ok here)
  have rs : Vals (V.ref (hp.objs.size + 1) :: (vs ++ dvs)) (Value.ref (hp.objs.size + 1) :: (us ++ ds)) := .cons rfl (r1.append hd)
  have many : (Value.ref (hp.objs.size + 1) :: us ++ ds).length = ps.length := (G.len _ _ _ _ want ▸ rs.length).symm
  have short : us.length ≤ sizeLine := by rw [← Paired.length r1, sizeLine_eq]; omega
  refine wpAny_call (PySem.HandSPX.call_own Z.bf (fun _ => rfl) (I1.kIn _ _ hC) (PySem.W.looks_findIn I1.kIn iC) (fun self => PySem.W.bind_fn I1.kIn self tI) short
    (codeAny_mono (G.run _ X.stack _ _ ⟨Value.ref (hp.objs.size + 1) :: us, []⟩ (Value.ref (hp.objs.size + 1) :: (us ++ ds)) _ _ (fun _ _ _ => False) (hr.make C us []) (I2.env0.make C us []) (hb _ (Value.ref (hp.objs.size + 1) :: us) I2.kIn many) rs want) fun r s' hq => ?_))
  rcases r with er | (_ | _ | _ | u)
  all_goals first | exact False.elim hq | exact hx pins σ _ _ er s' I2 hq | skip
  all_goals
    obtain ⟨v, H2, os2, bare2, un2, hok2, rv, ev, d, fs, ea, ed, hd1, q2⟩ := hq
    subst ev
    obtain ⟨h2, g2, d2, t2, os'⟩ := s'
    exact ⟨rv, mk_end (raises_own T.exC T.tyC) I1 above kp un2 hok2 os2 bare2 ea ed hd1 q2⟩
end

abbrev sFinInit : Stmt := meth 10 0
abbrev sFork : Stmt := meth 19 8
abbrev sUnits : Stmt := meth 19 19
abbrev sFreeProc : Stmt := meth 19 38
theorem passX {X : Cx} {E : XK} (tk : Takes X fun cls d _ H => E cls d H) : Passes (L2.CX X.prog X.w) X E := fun pins σ H s e s' I c => tk e s' (XE.of_call I (fun _ _ _ h => h) c)
abbrev exT : List Value := [.type "Exception", .type "BaseException", .type "object"]
/-! an error of the class at D whose only field, named f, is an int -/
structure ErrF (K : PySem.W.Frag) (mg : Str → Option Value) (nm : Str) (f : Str) (D fI : Addr) (fdI : FuncData) (newId : String) (bm : List Value) : Prop where
  gC : mg nm = some (.ref D)
  ox : OxB K D newId bm
  noN : PySem.W.findIn K (.ref D) f = some none
  iC : PySem.W.findIn K (.ref D) "__init__" = some (some (.ref fI))
  tI : PySem.W.typeIn K (.ref fI) = some (.type "function")
  bI : Binds K fdI ["self", f] []
  te : PySem.W.exmOne K (.ref D) (.ref D) = some true
  xf : XfC K D
section
variable {P : Program} {w : World} {K : PySem.W.Frag} {mg : Str → Option Value} {base : Heap} {C : Cs}
def spErrInit (D : Addr) (f : Str) : Sp := fun vs H Q _ => ∃ (a : Addr) (n : Int), vs = [.ref a, .int n] ∧ n.natAbs.log2 < 1920 ∧ (Str.ofString (toString n)).length ≤ 700 ∧ H a = some (exo a D none) ∧
  ∀ d, H d = none → d ≠ a → Q .non (upd (upd H d (exd d [(f, .int n)])) a (exo a D (some d)))
theorem scFinInit : FnScope ["self", "number"] ["self", "number"] (defScope sFinInit) := ⟨rfl, rfl, rfl, by decide +kernel, rfl, by decide +kernel, by decide +kernel⟩
theorem okFinInit {D fI : Addr} {fdI : FuncData} (F : Fun K "__init__" "Finished.__init__" sFinInit fI fdI) (gB : mg "RuntimeError" = none) (fB : PySem.W.findCls K (.type "RuntimeError") (.type "type") "__init__" = some (.val (.builtin "RuntimeError.__init__"))) (T : ErrF K mg "Finished" "number" D fI fdI "RuntimeError.__new__" (.type "RuntimeError" :: exT)) : FnOk P w K mg base CX0 1 fI fdI ["self", "number"] (spErrInit D "number") := by
  refine F.ok scFinInit (fun vs H Q E h => ?_) (fun cdv A outer s H vs Q E hr h => ?_)
  · obtain ⟨a, n, rfl, _⟩ := h
    rfl
  · obtain ⟨a, n, rfl, h1, h2, ha, k⟩ := h
    refine ⟨_, pss_cons (ps_expr (pe_binit bxRuntime (by rfl) gB fB (pa_cons (pv 0) (pa_cons (pe_joined (.cons pe_str (.cons (pe_fmtR (pv 1)) (.cons pe_str .nil)))) pa_nil))))
      (pss_one (ps_osb (f := "number") bxRuntime (pv 0) (pv 1))), ?_⟩
    walk_at "wn"
    show tCons _ _ _ _ _
    walk_at "wn"
    show tJs _ _ _ _ _
    have e5 : (((" is finished" : String) : Str)).length = 12 := rfl
    have e6 : (((("the source of number " : String) : Str))).length = 21 := rfl
    refine ⟨"the source of number ", rfl, by decide, ?_⟩
    refine ⟨_, rfl, ?_⟩
    refine Or.inr ⟨n, rfl, h1, toString n, rfl, ?_, ?_⟩
    · rw [strLen_append, strLen_append, sizeLine_eq, e6]
      show 0 + 21 + _ ≤ _
      omega
    refine ⟨" is finished", rfl, ?_, ?_⟩
    · rw [strLen_append, strLen_append, strLen_append, sizeLine_eq, e5, e6]
      show 0 + 21 + _ + _ ≤ _
      omega
    refine ⟨a, D, [_], rfl, by show 1 ≤ 1000; decide, T.ox, ha, ?_⟩
    refine ⟨_, rfl, _, rfl, ?_⟩
    exact ⟨a, D, rfl, T.ox, T.noN, ha, fun dx h1 h2 => k dx h1 h2⟩
/-- the way out with an error of the class at D whose field is n -/
def Out (D : Addr) (f : Str) (n : Int) (H : Hp) (E : XK) : Prop := ∀ d H', H d = none → Same H H' → H' d = some (.xd [(f, .int n)]) → E (.ref D) (some d) H'
theorem out_made {D : Addr} {f : Str} {n : Int} {H : Hp} {Q : XK} (h1 : n.natAbs.log2 < 1920) (h2 : (Str.ofString (toString n)).length ≤ 700) (k : Out D f n H Q) :
    ([V.int n].length ≤ 1000 ∧ ∀ a, H a = none → spErrInit D f (.ref a :: ([V.int n] ++ [])) (upd H a (exo a D none)) (fun v H2 => v = .non ∧ ∃ (d : Addr) (fs : List (Str × V)), H2 a = some (exo a D (some d)) ∧ H2 d = some (exd d fs) ∧ H d = none ∧ Q (.ref D) (some d) (upd (del H2 a) d (.xd fs))) fun _ _ _ => False) := by
  refine ⟨by show 1 ≤ 1000; decide, fun a ha => ⟨a, n, rfl, h1, h2, upd_same, fun d hd nd => ⟨rfl, d, [(f, .int n)], upd_same, ?_, ?_, ?_⟩⟩⟩
  · rw [upd_ne nd, upd_same]
  · rw [upd_ne nd] at hd
    exact hd
  · rw [upd_ne nd] at hd
    refine k d _ hd (fun b o e => ?_) upd_same
    have n1 : b ≠ d := fun z => by rw [z, hd] at e; cases e
    have n2 : b ≠ a := fun z => by rw [z, ha] at e; cases e
    rw [upd_ne n1]
    show (if b = a then none else _) = _
    rw [if_neg n2, upd_ne n2, upd_ne n1, upd_ne n2]
    exact e
theorem small_int {n : Int} (h0 : 0 ≤ n) (h1 : n ≤ 1000) : n.natAbs.log2 < 1920 ∧ (Str.ofString (toString n)).length ≤ 700 := by
  refine ⟨?_, ?_⟩
  · have : n.natAbs.log2 ≤ n.natAbs := Nat.log2_le_self _
    omega
  · have := toString_length_le (v := n) h0 (k := 4) (by decide) (by omega)
    omega
/-! unread_of_unfinished -/
def spUnfinished (C : Cs) (D : Addr) : Sp := fun vs H Q E => ∃ t n : Int, OnSys C vs H [.int t, .int n] fun S _ _ => t ∈ S.srcs ∧ 0 ≤ n ∧ n ≤ 1000 ∧ ((S.unit t).2 = false → Q (.int (S.unit t).1) H) ∧ ((S.unit t).2 = true → Out D "number" n H E)
theorem scUnfinished : FnScope ["self", "source", "number", "unread", "finished"] ["self", "source", "number"] (defScope sUnfinished) := ⟨rfl, rfl, rfl, by decide +kernel, rfl, by decide +kernel, by decide +kernel⟩
theorem okUnfinished {D f fI : Addr} {fd fdI : FuncData} (F : Fun K "unread_of_unfinished" "System.unread_of_unfinished" sUnfinished f fd) (T : ClsF K C.S sysF) (TE : ErrF K mg "Finished" "number" D fI fdI "RuntimeError.__new__" (.type "RuntimeError" :: exT)) (GI : FnOk P w K mg base CX0 1 fI fdI ["self", "number"] (spErrInit D "number")) :
    FnOk P w K mg base (L2.CX P w) 3 f fd ["self", "source", "number"] (spUnfinished C D) := by
  refine F.okX scUnfinished (fun vs H Q E h => ?_) (fun cdv A outer s H vs Q E hr h => ?_)
  · obtain ⟨_, _, _, _, _, rfl, _⟩ := h
    rfl
  · obtain ⟨t, n, S, ad, dx, rfl, A0, ht, n0, n1, k1, k2⟩ := h
    have hu := hu_of hr
    have hr2 : Room 2 _ := hr.mono (by decide)
    refine ⟨_, pss_cons (ps_asg (pe_dget hu (pe_fld (pv 0) rfl) (pv 1) (fun _ _ => rfl)) (pg_tup rfl (pgs_cons (pg_name (i := 3) scUnfinished.nd rfl (Or.inl rfl)) (pgs_cons (pg_name (i := 4) scUnfinished.nd rfl (Or.inl rfl)) pgs_nil))))
      (pss_cons (ps_if (pt_val (pv 4)) (pss_one (ps_raise rfl (takes_of rfl rfl rfl rfl) (pmk_oxb bxRuntime TE.ox TE.iC TE.tI GI hr2 TE.bI .nil pass0 (by rfl) TE.gC (pa_cons (pv 2) pa_nil)))) pss_nil) (pss_one (ps_ret (pv 3)))), ?_⟩
    have hv : valV (entKV S.srcs fun t => ad (.srcT t)) (Sum.inl t) = some (.ref (ad (.srcT t))) := by rw [ent_val, if_pos ht]
    walk_at "wn"
    refine ⟨_, rfl, ad .box, C.S, dx .box, _, _, rfl, A0.at_ .box trivial, T.cl, T.no _ (by decide), rfl, ?_⟩
    refine ⟨_, rfl, ad .srcD, _, rfl, hv ▸ DGet.k (k := Sum.inl t) (A0.at_ .srcD trivial), ?_⟩
    refine ⟨ad (.srcT t), _, rfl, SqT.of (A0.at_ (.srcT t) ht), rfl, _, _, rfl, ?_⟩
    walk_at "wn"
    refine ⟨_, _, rfl, ?_⟩
    walk_at "wn"
    refine ⟨rfl, ?_⟩
    walk_at "wn"
    cases hf : (S.unit t).2 with
    | false =>
      walk_at "wn"
      exact k1 hf
    | true =>
      walk_at "wn"
      show tCons _ _ _ _ _
      walk_at "wn"
      exact out_made (small_int n0 n1).1 (small_int n0 n1).2 (k2 hf)
/-! notify: there are no sets -/
def spNotify (C : Cs) : Sp := fun vs H Q _ => ∃ t : Int, OnSys C vs H [.int t] fun S ad dx => ∀ H', At C H' S ad dx → Step H S ad H' S ad → Q .non H'
theorem scNotify : FnScope ["self", "source", "waiting"] ["self", "source"] (defScope sNotify) := ⟨rfl, rfl, rfl, by decide +kernel, rfl, by decide +kernel, by decide +kernel⟩
theorem okNotify {f : Addr} {fd : FuncData} (F : Fun K "notify" "System.notify" sNotify f fd) (T : ClsF K C.S sysF) : FnOk P w K mg base CX0 3 f fd ["self", "source"] (spNotify C) := by
  refine F.ok scNotify (fun vs H Q E h => ?_) (fun cdv A outer s H vs Q E hr h => ?_)
  · obtain ⟨_, _, _, _, rfl, _⟩ := h
    rfl
  · obtain ⟨t, S, ad, dx, rfl, A0, k⟩ := h
    have hb := A0.at_ .box trivial
    have hD : H (ad .setD) = some (.dK []) := A0.at_ .setD trivial
    have nbD : ad .box ≠ ad .setD := A0.ne (c := .box) (c' := .setD) trivial trivial (by intro z; cases z)
    refine ⟨_, pss_one (ps_lock (ps_for PassesOwn.never rfl (pi_values (pe_fld (pv 0) rfl)) (pg_name (i := 2) scNotify.nd rfl (Or.inl rfl)) (pss_one ps_never))), ?_⟩
    refine ⟨ad .setD, _, hD, trivial, fun od => ?_⟩
    refine ⟨_, rfl, ad .box, C.S, dx .box, _, _, rfl, by rw [upd_ne nbD]; exact hb, T.cl, T.no _ (by decide), rfl, ?_⟩
    refine ⟨ad .setD, od, _, rfl, upd_same, ?_⟩
    refine for_it walk_values (fun i σ' H1 => H1 = upd H (ad .setD) (.frz od (.dK []))) rfl (fun i σ' H1 _ h => by rw [h]; exact upd_same) (fun i x σ' H1 H2 hi => absurd hi (Nat.not_lt_zero _)) ?_
    rintro σ' H1 rfl
    refine ⟨upd_same, ?_⟩
    have e : upd (upd H (ad .setD) (.frz od (.dK []))) (ad .setD) (.dK []) = H := funext fun b => by
      by_cases hb2 : b = ad .setD
      · rw [hb2, upd_same, hD]
      · rw [upd_ne hb2, upd_ne hb2]
    rw [e]
    exact k H A0 Step.refl
/-! arrive -/
def arrived (S : Sys) (t m : Int) : Sys := withUnit S t ((S.unit t).1 + m) false
def spArrive (C : Cs) (D : Addr) : Sp := fun vs H Q E => ∃ p n t m : Int, OnSys C vs H [.int p, .int n, .int m] fun S ad dx => Means S p n t ∧ t ∈ S.srcs ∧ n ≤ 1000 ∧ 1 ≤ m ∧ m ≤ 1000000 ∧ S.srcs.length ≤ 900 ∧
  ((S.unit t).2 = false → ∀ H' ad', At C H' (arrived S t m) ad' dx → Step H S ad H' (arrived S t m) ad' → Q .non H') ∧ ((S.unit t).2 = true → Out D "number" n H E)
theorem scArrive : FnScope ["self", "process", "number", "many", "source", "unread"] ["self", "process", "number", "many"] (defScope sArrive) := ⟨rfl, rfl, rfl, by decide +kernel, rfl, by decide +kernel, by decide +kernel⟩
theorem okArrive {D : Addr} {dvs : List V} {kws : List (Str × V)} {f fS fU fN fC : Addr} {fd fdS fdU fdN fdC : FuncData} (F : FunD K "arrive" "System.arrive" (defArgs sArrive) (defBody sArrive) (defScope sArrive) dvs kws f fd) (T : ClsF K C.S sysF)
    (GS : MO P w K mg base 5 C.S "source_at" ["self", "process", "number"] (spSourceAt C) fS fdS) (gU : FnOk P w K mg base (L2.CX P w) 3 fU fdU ["self", "source", "number"] (spUnfinished C D)) (mU : Meth K C.S "unread_of_unfinished" fU) (bU : Binds K fdU ["self", "source", "number"] []) (GN : MO P w K mg base 3 C.S "notify" ["self", "source"] (spNotify C) fN fdN)
    (GC : DO P w K mg base 3 "is_count" ["x"] spIsCount fC fdC) : FnOk P w K mg base (L2.CX P w) 6 f fd ["self", "process", "number", "many"] (spArrive C D) := by
  refine F.ok scArrive (fun vs H Q E h => ?_) (fun cdv A outer s H vs Q E hr h => ?_)
  · obtain ⟨_, _, _, _, _, _, _, rfl, _⟩ := h
    rfl
  · obtain ⟨p, n, t, m, S, ad, dx, rfl, A0, M, ht, hn, m0, m1, hz, k1, k2⟩ := h
    have hu := hu_of hr
    have hr2 : Room 2 _ := hr.mono (by decide)
    have hr3 : Room 3 _ := hr.mono (by decide)
    refine ⟨_, pss_cons (ps_set (i := 4) scArrive.nd rfl (Or.inl rfl) (pe_meth (pv 0) T.cl GS.m GS.g hr GS.b .nil pass0 (pa_cons (pv 1) (pa_cons (pv 2) pa_nil))))
      (pss_cons (ps_if (pt_not (pt_val (pe_call GC.g hr3 (by rfl) GC.m GC.k GC.b .nil pass0 (pa_cons (pv 3) pa_nil)))) (pss_one ps_never) pss_nil)
      (pss_cons (ps_set (i := 5) scArrive.nd rfl (Or.inl rfl) (pe_meth (pv 0) T.cl mU gU hr3 bU .nil (passX (takes_of rfl rfl rfl rfl)) (pa_cons (pv 4) (pa_cons (pv 2) pa_nil))))
      (pss_cons (ps_dput hu (pe_fld (pv 0) rfl) (pv 4) (pe_tup (pa_cons (pe_op op_add (pv 5) (pv 3)) (pa_cons pe_bl pa_nil))) rfl)
      (pss_one (ps_expr (pe_meth (pv 0) T.cl GN.m GN.g hr3 GN.b .nil pass0 (pa_cons (pv 4) pa_nil))))))), ?_⟩
    have hb := A0.at_ .box trivial
    walk_at "wn"
    refine ⟨_, rfl, ad .box, dx .box, _, rfl, hb, rfl, ?_⟩
    walk_at "wn"
    refine ⟨p, n, t, S, ad, dx, rfl, A0, M, ht, ?_⟩
    walk_at "wn"
    refine ⟨m, rfl, ?_⟩
    rw [decide_eq_true m0, decide_eq_true m1]
    refine ⟨_, rfl, ?_⟩
    walk_at "wn"
    refine ⟨_, rfl, ad .box, dx .box, _, rfl, hb, rfl, ?_⟩
    walk_at "wn"
    refine ⟨t, n, S, ad, dx, rfl, A0, ht, M.lo, hn, fun hf => ?_, fun hf => k2 hf⟩
    walk_at "wn"
    refine ⟨_, rfl, _, rfl, _, _, rfl, rfl, by show 2 ≤ sizeLine; decide, fun T1 hT => ?_⟩
    have nbT : ad .box ≠ T1 := ne_of_none hb hT
    have nDT : ad .srcD ≠ T1 := ne_of_none (A0.at_ .srcD trivial) hT
    refine ⟨_, rfl, ad .box, C.S, dx .box, _, _, rfl, by rw [upd_ne nbT]; exact hb, T.cl, T.no _ (by decide), rfl, ?_⟩
    refine ⟨_, rfl, ad .srcD, _, rfl, DPut.k (k := Sum.inl t) (by rw [upd_ne nDT]; exact A0.at_ .srcD trivial) (by unfold entKV; rw [List.length_map, sizeLine_eq]; omega), ?_⟩
    obtain ⟨A1, st1⟩ := A0.unit (u := (S.unit t).1 + m) (f := false) ht hT
    walk_at "wn"
    refine ⟨_, rfl, setA ad (.srcT t) T1 .box, dx .box, _, by rw [setA_ne (by intro z; cases z)], A1.at_ .box trivial, rfl, ?_⟩
    walk_at "wn"
    exact ⟨t, _, _, dx, by rw [setA_ne (by intro z; cases z)]; rfl, A1, fun H' A2 st2 => k1 hf H' _ A2 (st1.trans st2)⟩
/-! finish -/
def finished (S : Sys) (t : Int) : Sys := withUnit S t (S.unit t).1 true
def spFinish (C : Cs) (D : Addr) : Sp := fun vs H Q E => ∃ p n t : Int, OnSys C vs H [.int p, .int n] fun S ad dx => Means S p n t ∧ t ∈ S.srcs ∧ n ≤ 1000 ∧ S.srcs.length ≤ 900 ∧
  ((S.unit t).2 = false → ∀ H' ad', At C H' (finished S t) ad' dx → Step H S ad H' (finished S t) ad' → Q .non H') ∧ ((S.unit t).2 = true → Out D "number" n H E)
theorem scFinish : FnScope ["self", "process", "number", "source", "unread"] ["self", "process", "number"] (defScope sFinish) := ⟨rfl, rfl, rfl, by decide +kernel, rfl, by decide +kernel, by decide +kernel⟩
theorem okFinish {D f fS fU fN : Addr} {fd fdS fdU fdN : FuncData} (F : Fun K "finish" "System.finish" sFinish f fd) (T : ClsF K C.S sysF)
    (GS : MO P w K mg base 5 C.S "source_at" ["self", "process", "number"] (spSourceAt C) fS fdS) (gU : FnOk P w K mg base (L2.CX P w) 3 fU fdU ["self", "source", "number"] (spUnfinished C D)) (mU : Meth K C.S "unread_of_unfinished" fU) (bU : Binds K fdU ["self", "source", "number"] []) (GN : MO P w K mg base 3 C.S "notify" ["self", "source"] (spNotify C) fN fdN) :
    FnOk P w K mg base (L2.CX P w) 6 f fd ["self", "process", "number"] (spFinish C D) := by
  refine F.okX scFinish (fun vs H Q E h => ?_) (fun cdv A outer s H vs Q E hr h => ?_)
  · obtain ⟨_, _, _, _, _, _, rfl, _⟩ := h
    rfl
  · obtain ⟨p, n, t, S, ad, dx, rfl, A0, M, ht, hn, hz, k1, k2⟩ := h
    have hu := hu_of hr
    have hr2 : Room 2 _ := hr.mono (by decide)
    have hr3 : Room 3 _ := hr.mono (by decide)
    refine ⟨_, pss_cons (ps_set (i := 3) scFinish.nd rfl (Or.inl rfl) (pe_meth (pv 0) T.cl GS.m GS.g hr GS.b .nil pass0 (pa_cons (pv 1) (pa_cons (pv 2) pa_nil))))
      (pss_cons (ps_set (i := 4) scFinish.nd rfl (Or.inl rfl) (pe_meth (pv 0) T.cl mU gU hr3 bU .nil (passX (takes_of rfl rfl rfl rfl)) (pa_cons (pv 3) (pa_cons (pv 2) pa_nil))))
      (pss_cons (ps_dput hu (pe_fld (pv 0) rfl) (pv 3) (pe_tup (pa_cons (pv 4) (pa_cons pe_bl pa_nil))) rfl)
      (pss_one (ps_expr (pe_meth (pv 0) T.cl GN.m GN.g hr3 GN.b .nil pass0 (pa_cons (pv 3) pa_nil)))))), ?_⟩
    have hb := A0.at_ .box trivial
    walk_at "wn"
    refine ⟨_, rfl, ad .box, dx .box, _, rfl, hb, rfl, ?_⟩
    walk_at "wn"
    refine ⟨p, n, t, S, ad, dx, rfl, A0, M, ht, ?_⟩
    walk_at "wn"
    refine ⟨_, rfl, ad .box, dx .box, _, rfl, hb, rfl, ?_⟩
    walk_at "wn"
    refine ⟨t, n, S, ad, dx, rfl, A0, ht, M.lo, hn, fun hf => ?_, fun hf => k2 hf⟩
    walk_at "wn"
    refine ⟨_, rfl, by show 2 ≤ sizeLine; decide, fun T1 hT => ?_⟩
    have nbT : ad .box ≠ T1 := ne_of_none hb hT
    have nDT : ad .srcD ≠ T1 := ne_of_none (A0.at_ .srcD trivial) hT
    refine ⟨_, rfl, ad .box, C.S, dx .box, _, _, rfl, by rw [upd_ne nbT]; exact hb, T.cl, T.no _ (by decide), rfl, ?_⟩
    refine ⟨_, rfl, ad .srcD, _, rfl, DPut.k (k := Sum.inl t) (by rw [upd_ne nDT]; exact A0.at_ .srcD trivial) (by unfold entKV; rw [List.length_map, sizeLine_eq]; omega), ?_⟩
    obtain ⟨A1, st1⟩ := A0.unit (u := (S.unit t).1) (f := true) ht hT
    walk_at "wn"
    refine ⟨_, rfl, setA ad (.srcT t) T1 .box, dx .box, _, by rw [setA_ne (by intro z; cases z)], A1.at_ .box trivial, rfl, ?_⟩
    walk_at "wn"
    exact ⟨t, _, _, dx, by rw [setA_ne (by intro z; cases z)]; rfl, A1, fun H' A2 st2 => k1 hf H' _ A2 (st1.trans st2)⟩
/-! units -/
def spUnits (C : Cs) : Sp := fun vs H Q _ => ∃ p n t : Int, OnSys C vs H [.int p, .int n] fun S ad dx => Means S p n t ∧ t ∈ S.srcs ∧ Q (.ref (ad (.srcT t))) H
theorem scUnits : FnScope ["self", "process", "number"] ["self", "process", "number"] (defScope sUnits) := ⟨rfl, rfl, rfl, by decide +kernel, rfl, by decide +kernel, by decide +kernel⟩
theorem okUnits {f fS : Addr} {fd fdS : FuncData} (F : Fun K "units" "System.units" sUnits f fd) (T : ClsF K C.S sysF) (GS : MO P w K mg base 5 C.S "source_at" ["self", "process", "number"] (spSourceAt C) fS fdS) : FnOk P w K mg base CX0 6 f fd ["self", "process", "number"] (spUnits C) := by
  refine F.ok scUnits (fun vs H Q E h => ?_) (fun cdv A outer s H vs Q E hr h => ?_)
  · obtain ⟨_, _, _, _, _, _, rfl, _⟩ := h
    rfl
  · obtain ⟨p, n, t, S, ad, dx, rfl, A0, M, ht, k⟩ := h
    have hu := hu_of hr
    refine ⟨_, pss_one (ps_ret (pe_dget hu (pe_fld (pv 0) rfl) (pe_meth (pv 0) T.cl GS.m GS.g hr GS.b .nil pass0 (pa_cons (pv 1) (pa_cons (pv 2) pa_nil))) (fun _ _ => rfl))), ?_⟩
    have hb := A0.at_ .box trivial
    have hv : valV (entKV S.srcs fun t => ad (.srcT t)) (Sum.inl t) = some (.ref (ad (.srcT t))) := by rw [ent_val, if_pos ht]
    walk_at "wn"
    refine ⟨_, rfl, ad .box, C.S, dx .box, _, _, rfl, hb, T.cl, T.no _ (by decide), rfl, ?_⟩
    refine ⟨_, rfl, ad .box, dx .box, _, rfl, hb, rfl, ?_⟩
    walk_at "wn"
    refine ⟨p, n, t, S, ad, dx, rfl, A0, M, ht, ?_⟩
    exact ⟨ad .srcD, _, rfl, hv ▸ DGet.k (k := Sum.inl t) (A0.at_ .srcD trivial), k⟩
/-! fork -/
structure FreeP (S : Sys) (m : Nat) : Prop where
  no : (m : Int) ∉ S.procs
  lo : ∀ i : Nat, i < m → (i : Int) ∈ S.procs
  hi : (m : Int) < S.P
  P0 : S.P ≤ 1000
def spFreeProc (C : Cs) : Sp := fun vs H Q _ => ∃ m : Nat, OnSys C vs H [] fun S ad dx => FreeP S m ∧ Q (.int (m : Int)) H
theorem scFreeProc : FnScope ["self", "process"] ["self"] (defScope sFreeProc) := ⟨rfl, rfl, rfl, by decide +kernel, rfl, by decide +kernel, by decide +kernel⟩
theorem okFreeProc {f : Addr} {fd : FuncData} (F : Fun K "free_process" "System.free_process" sFreeProc f fd) (rng : mg "range" = none) (T : ClsF K C.S sysF) : FnOk P w K mg base CX0 1 f fd ["self"] (spFreeProc C) := by
  refine F.ok scFreeProc (fun vs H Q E h => ?_) (fun cdv A outer s H vs Q E hr h => ?_)
  · obtain ⟨_, _, _, _, rfl, _⟩ := h
    rfl
  · obtain ⟨m, S, ad, dx, rfl, A0, M, k⟩ := h
    have hu := hu_of hr
    refine ⟨_, pss_cons (ps_for PassesOwn.never rfl (pi_range1 (by rfl) rng (pa_cons (pe_fld (pv 0) rfl) pa_nil)) (pg_name (i := 1) scFreeProc.nd rfl (Or.inl rfl))
      (pss_one (ps_if (pt_cmp (pc_dnotin hu (pv 1) (pe_fld (pv 0) rfl)) rfl) (pss_one (ps_ret (pv 1))) pss_nil))) (pss_one ps_never), ?_⟩
    have hb := A0.at_ .box trivial
    have h1 := M.hi
    have h2 := M.P0
    walk_at "wn"
    show iRng1 _ _ _ _
    show tCons _ _ _ _ _
    walk_at "wn"
    refine ⟨_, rfl, ad .box, C.S, dx .box, _, _, rfl, hb, T.cl, T.no _ (by decide), rfl, ?_⟩
    walk_at "wn"
    refine ⟨_, rfl, by omega, by omega, ?_⟩
    refine for_range (lo := 0) (fun i σ' H1 => ∃ u : Option V, σ' = [some (.ref (ad .box)), u] ∧ H1 = H ∧ i ≤ m) ⟨_, rfl, rfl, Nat.zero_le _⟩ ?_ ?_
    · rintro i σ' H1 hi ⟨u, rfl, rfl, him⟩
      walk_at "wn"
      refine ⟨_, rfl, _, rfl, ad .box, C.S, dx .box, _, _, rfl, hb, T.cl, T.no _ (by decide), rfl, ?_⟩
      refine ⟨ad .tabD, _, rfl, DGet.k (k := Sum.inl (0 + (i : Int))) (A0.at_ .tabD trivial), ?_⟩
      rw [ent_val, Int.zero_add]
      by_cases hm : i = m
      · subst hm
        rw [if_neg M.no]
        refine ⟨_, rfl, ?_⟩
        show if true = true then _ else _
        walk_at "wn"
        exact k
      · rw [if_pos (M.lo i (by omega))]
        refine ⟨_, rfl, ?_⟩
        show if false = true then _ else _
        walk_at "wn"
        exact ⟨_, rfl, rfl, by omega⟩
    · rintro σ' H1 ⟨u, rfl, rfl, him⟩
      exact absurd him (by omega)
def forked (S : Sys) (p : Int) (m : Nat) : Sys := { S with procs := S.procs ++ [(m : Int)], tab := fun q => if q = (m : Int) then S.tab p else S.tab q }
def spFork (C : Cs) : Sp := fun vs H Q _ => ∃ (p : Int) (m : Nat), OnSys C vs H [.int p] fun S ad dx => p ∈ S.procs ∧ FreeP S m ∧ (S.tab p).length ≤ 900 ∧ S.procs.length ≤ 900 ∧ ∀ H' ad', At C H' (forked S p m) ad' dx → Step H S ad H' (forked S p m) ad' → Q (.int (m : Int)) H'
theorem scFork : FnScope ["self", "process", "table", "other"] ["self", "process"] (defScope sFork) := ⟨rfl, rfl, rfl, by decide +kernel, rfl, by decide +kernel, by decide +kernel⟩
theorem tab_fun (ad : Cell → Addr) (t : Int) (T : Addr) : (fun j => if j = t then T else ad (.tab j)) = fun j => setA ad (.tab t) T (.tab j) := by
  funext j
  by_cases h : j = t
  · rw [if_pos h, h, setA_same]
  · rw [if_neg h, setA_ne fun z => h (by cases z; rfl)]
theorem okFork {f fT fF : Addr} {fd fdT fdF : FuncData} (F : Fun K "fork" "System.fork" sFork f fd) (X : SysTxt mg) (T : ClsF K C.S sysF) (GT : MO P w K mg base 3 C.S "table_of" ["self", "process"] (spTableOf C) fT fdT) (GF : MO P w K mg base 1 C.S "free_process" ["self"] (spFreeProc C) fF fdF) :
    FnOk P w K mg base CX0 4 f fd ["self", "process"] (spFork C) := by
  refine F.ok scFork (fun vs H Q E h => ?_) (fun cdv A outer s H vs Q E hr h => ?_)
  · obtain ⟨_, _, _, _, _, rfl, _⟩ := h
    rfl
  · obtain ⟨p, m, S, ad, dx, rfl, A0, hp, M, hl, hz, k⟩ := h
    have hu := hu_of hr
    have hr1 : Room 1 _ := hr.mono (by decide)
    have hr3 : Room 3 _ := hr.mono (by decide)
    refine ⟨_, pss_cons (ps_set (i := 2) scFork.nd rfl (Or.inl rfl) (pe_meth (pv 0) T.cl GT.m GT.g hr3 GT.b .nil pass0 (pa_cons (pv 1) pa_nil)))
      (pss_cons (ps_set (i := 3) scFork.nd rfl (Or.inl rfl) (pe_meth0 (pv 0) T.cl GF.m GF.g hr1 GF.b .nil pass0))
      (pss_cons (ps_if (pt_cmpR oIsN (pv 3) pe_non (nomark _)) (pss_one ps_never) pss_nil)
      (pss_cons (ps_dput hu (pe_fld (pv 0) rfl) (pv 3) (pe_callTy call_list_of (by rfl) X.list PyProof.Rows.boot_list (pa_cons (pv 2) pa_nil)) rfl)
      (pss_one (ps_ret (pv 3)))))), ?_⟩
    have hb := A0.at_ .box trivial
    have ht := A0.at_ (.tab p) hp
    have hD : H (ad .tabD) = some (.dK (entKV S.procs fun p => ad (.tab p))) := A0.at_ .tabD trivial
    walk_at "wn"
    refine ⟨_, rfl, ad .box, dx .box, _, rfl, hb, rfl, ?_⟩
    walk_at "wn"
    refine ⟨p, S, ad, dx, rfl, A0, hp, ?_⟩
    walk_at "wn"
    refine ⟨_, rfl, ad .box, dx .box, _, rfl, hb, rfl, ?_⟩
    walk_at "wn"
    refine ⟨m, S, ad, dx, rfl, A0, M, ?_⟩
    walk_at "wn"
    have e : decide (V.int (m : Int) = V.non) = false := decide_eq_false fun z => nomatch z
    rw [e]
    walk_at "wn"
    refine ⟨_, rfl, ad (.tab p), _, rfl, .inl (SqL.of ht), fun r hr0 => ?_⟩
    have nbr : ad .box ≠ r := ne_of_none hb hr0
    have nDr : ad .tabD ≠ r := ne_of_none hD hr0
    refine ⟨_, rfl, ad .box, C.S, dx .box, _, _, rfl, by rw [upd_ne nbr]; exact hb, T.cl, T.no _ (by decide), rfl, ?_⟩
    refine ⟨_, rfl, ad .tabD, _, rfl, DPut.k (k := Sum.inl (m : Int)) (by rw [upd_ne nDr]; exact hD) (by unfold entKV; rw [List.length_map, sizeLine_eq]; omega), ?_⟩
    walk_at "wn"
    refine (fun z : At C _ _ _ _ ∧ Step H S ad _ _ _ => k _ (setA ad (.tab (m : Int)) r) z.1 z.2) ?_
    refine At.re3 [.tabD, .tab (m : Int)] A0 (fun c lc => ?_) (fun c hc lc => ?_) (fun c hc lc => ?_) (fun c hc lc => ?_) (fun c hc c' hc' lc lc' z e => ?_) (fun b o nb e => ?_) (setA_ne (by intro z; cases z))
    · cases c with
      | tab t =>
        rcases List.mem_append.mp (show t ∈ S.procs ++ [(m : Int)] from lc) with y | y
        · exact .inr y
        · rw [List.mem_singleton.mp y]
          exact .inl (by simp)
      | _ => exact .inr lc
    · simp only [List.mem_cons, List.not_mem_nil, or_false] at hc
      rcases hc with rfl | rfl
      · rw [setA_ne (by intro z; cases z), upd_same, ent_put, if_neg M.no, tab_fun]
        rfl
      · rw [setA_same, upd_ne (Ne.symm nDr), upd_same]
        show _ = some (HO.lst ((if (m : Int) = (m : Int) then S.tab p else S.tab (m : Int)).map optV))
        rw [if_pos rfl]
    · have n1 : c ≠ .tabD := fun z => hc (by rw [z]; simp)
      have n2 : c ≠ .tab (m : Int) := fun z => hc (by rw [z]; simp)
      refine ⟨setA_ne n2, ?_⟩
      cases c with
      | tabD => exact absurd rfl n1
      | tab j =>
        have nj : j ≠ (m : Int) := fun z => n2 (by rw [z])
        show HO.lst ((if j = (m : Int) then S.tab p else S.tab j).map optV) = _
        rw [if_neg nj]
        rfl
      | _ => rfl
    · simp only [List.mem_cons, List.not_mem_nil, or_false] at hc
      rcases hc with rfl | rfl
      · exact .inl ⟨setA_ne (by intro z; cases z), trivial⟩
      · exact .inr (by rw [setA_same]; exact hr0)
    · simp only [List.mem_cons, List.not_mem_nil, or_false] at hc hc'
      rcases hc with rfl | rfl
      · rw [setA_ne (by intro z; cases z), hD] at z
        cases z
      · rcases hc' with rfl | rfl
        · rw [setA_same, setA_ne (by intro z; cases z)] at e
          exact absurd e (Ne.symm nDr)
        · rfl
    · rw [upd_ne (nb .tabD (by simp) trivial), upd_ne (ne_of_none e hr0)]
      exact e
end

section
variable {P : Program} {w : World} {K : PySem.W.Frag} {mg : Str → Option Value} {base : Heap} {C : Cs}
/-! read -/
def taken (u : Int) : Option Int → Int
  | none => u
  | some m => if u < m then u else m
def readS (S : Sys) (t : Int) (mo : Option Int) : Sys := withUnit S t ((S.unit t).1 - taken (S.unit t).1 mo) (S.unit t).2
def spRead (C : Cs) : Sp := fun vs H Q _ => ∃ (p n t : Int) (mo : Option Int), OnSys C vs H [.int p, .int n, optV mo] fun S ad dx => Means S p n t ∧ t ∈ S.srcs ∧ (∀ m, mo = some m → 1 ≤ m ∧ m ≤ 1000000) ∧ S.srcs.length ≤ 900 ∧ ∀ H' ad', At C H' (readS S t mo) ad' dx → Step H S ad H' (readS S t mo) ad' → Q (.int (taken (S.unit t).1 mo)) H'
theorem scRead : FnScope ["self", "process", "number", "many", "source", "unread", "finished", "taken"] ["self", "process", "number", "many"] (defScope sRead) := ⟨rfl, rfl, rfl, by decide +kernel, rfl, by decide +kernel, by decide +kernel⟩
theorem okRead {dvs : List V} {kws : List (Str × V)} {f fS fC : Addr} {fd fdS fdC : FuncData} (F : FunD K "read" "System.read" (defArgs sRead) (defBody sRead) (defScope sRead) dvs kws f fd) (X : SysTxt mg) (T : ClsF K C.S sysF)
    (GS : MO P w K mg base 5 C.S "source_at" ["self", "process", "number"] (spSourceAt C) fS fdS) (GC : DO P w K mg base 3 "is_count" ["x"] spIsCount fC fdC) : FnOk P w K mg base CX0 6 f fd ["self", "process", "number", "many"] (spRead C) := by
  refine F.ok scRead (fun vs H Q E h => ?_) (fun cdv A outer s H vs Q E hr h => ?_)
  · obtain ⟨_, _, _, _, _, _, _, rfl, _⟩ := h
    rfl
  · obtain ⟨p, n, t, mo, S, ad, dx, rfl, A0, M, ht, hm, sm0, k⟩ := h
    have hu := hu_of hr
    have hr3 : Room 3 _ := hr.mono (by decide)
    refine ⟨_, pss_cons (ps_set (i := 4) scRead.nd rfl (Or.inl rfl) (pe_meth (pv 0) T.cl GS.m GS.g hr GS.b .nil pass0 (pa_cons (pv 1) (pa_cons (pv 2) pa_nil))))
      (pss_cut (ps_if (PW.pt (pw_and (pt_cmpR oNotN (pv 3) pe_non (nomark _)) (pw_and1 (pt_not (pt_val (pe_call GC.g hr3 (by rfl) GC.m GC.k GC.b .nil pass0 (pa_cons (pv 3) pa_nil))))))) (pss_one ps_never) pss_nil)
      (pss_cons (ps_asg (pe_dget hu (pe_fld (pv 0) rfl) (pv 4) (fun _ _ => rfl)) (pg_tup rfl (pgs_cons (pg_name (i := 5) scRead.nd rfl (Or.inl rfl)) (pgs_cons (pg_name (i := 6) scRead.nd rfl (Or.inl rfl)) pgs_nil))))
      (pss_cut (ps_set (i := 7) scRead.nd rfl (Or.inl rfl) (pe_ifExp (pt_cmpR oIsN (pv 3) pe_non (nomark _)) (pv 5) (pe_callB (cMin2 rfl) (by rfl) X.min (by decide +kernel) (pa_cons (pv 3) (pa_cons (pv 5) pa_nil)))))
      (pss_cons (ps_dput hu (pe_fld (pv 0) rfl) (pv 4) (pe_tup (pa_cons (pe_op op_sub (pv 5) (pv 7)) (pa_cons (pv 6) pa_nil))) rfl)
      (pss_one (ps_ret (pv 7))))))), ?_⟩
    have hb := A0.at_ .box trivial
    have hv : valV (entKV S.srcs fun t => ad (.srcT t)) (Sum.inl t) = some (.ref (ad (.srcT t))) := by rw [ent_val, if_pos ht]
    walk_at "wn"
    refine ⟨_, rfl, ad .box, dx .box, _, rfl, hb, rfl, ?_⟩
    walk_at "wn"
    refine ⟨p, n, t, S, ad, dx, rfl, A0, M, ht, ?_⟩
    walk_at "wn"
    refine ⟨fun σ' H' => σ' = [some (.ref (ad .box)), some (.int p), some (.int n), some (optV mo), some (.int t), none, none, none] ∧ H' = H, ?_, ?_⟩
    · walk_at "wn"
      cases mo with
      | none =>
        have e : decide (optV none = V.non) = true := decide_eq_true rfl
        rw [e]
        walk_at "wn"
        exact ⟨rfl, rfl⟩
      | some m =>
        have e : decide (optV (some m) = V.non) = false := decide_eq_false fun z => nomatch z
        rw [e]
        walk_at "wn"
        refine ⟨m, rfl, ?_⟩
        rw [decide_eq_true (hm m rfl).1, decide_eq_true (hm m rfl).2]
        refine ⟨_, rfl, ?_⟩
        walk_at "wn"
        exact ⟨rfl, rfl⟩
    rintro σ' H' ⟨rfl, rfl⟩
    walk_at "wn"
    refine ⟨_, rfl, ad .box, C.S, dx .box, _, _, rfl, hb, T.cl, T.no _ (by decide), rfl, ?_⟩
    refine ⟨_, rfl, ad .srcD, _, rfl, hv ▸ DGet.k (k := Sum.inl t) (A0.at_ .srcD trivial), ?_⟩
    refine ⟨ad (.srcT t), _, rfl, SqT.of (A0.at_ (.srcT t) ht), rfl, _, _, rfl, ?_⟩
    walk_at "wn"
    refine ⟨_, _, rfl, ?_⟩
    walk_at "wn"
    refine ⟨rfl, ?_⟩
    refine ⟨fun σ' H1 => σ' = [some (.ref (ad .box)), some (.int p), some (.int n), some (optV mo), some (.int t), some (.int (S.unit t).1), some (.bl (S.unit t).2), some (.int (taken (S.unit t).1 mo))] ∧ H1 = H', ?_, ?_⟩
    · walk_at "wn"
      cases mo with
      | none =>
        have e : decide (optV none = V.non) = true := decide_eq_true rfl
        rw [e]
        walk_at "wn"
        exact ⟨rfl, rfl⟩
      | some m =>
        have e : decide (optV (some m) = V.non) = false := decide_eq_false fun z => nomatch z
        rw [e]
        walk_at "wn"
        refine ⟨m, (S.unit t).1, rfl, ?_⟩
        exact ⟨rfl, rfl⟩
    rintro σ' H1 ⟨rfl, rfl⟩
    walk_at "wn"
    refine ⟨_, rfl, _, rfl, _, _, rfl, rfl, ?_⟩
    walk_at "wn"
    refine ⟨by show 2 ≤ sizeLine; decide, fun T1 hT => ?_⟩
    have nbT : ad .box ≠ T1 := ne_of_none hb hT
    have nDT : ad .srcD ≠ T1 := ne_of_none (A0.at_ .srcD trivial) hT
    refine ⟨_, rfl, ad .box, C.S, dx .box, _, _, rfl, by rw [upd_ne nbT]; exact hb, T.cl, T.no _ (by decide), rfl, ?_⟩
    refine ⟨_, rfl, ad .srcD, _, rfl, DPut.k (k := Sum.inl t) (by rw [upd_ne nDT]; exact A0.at_ .srcD trivial) (by unfold entKV; rw [List.length_map, sizeLine_eq]; omega), ?_⟩
    obtain ⟨A1, st1⟩ := A0.unit (u := (S.unit t).1 - taken (S.unit t).1 mo) (f := (S.unit t).2) ht hT
    walk_at "wn"
    exact k _ _ A1 st1
end

structure FnG (P : Program) (w : World) (K : PySem.W.Frag) (mg : Str → Option Value) (base : Heap) (CX : CXT) (k : Nat) (f : Addr) (fd : FuncData) (ps : List Str) (sp : Sp) : Prop where
  size : ∀ vs H Q E, sp vs H Q E → vs.length = ps.length
  go : ∀ (A : Around), Room k A → A.guards = some [] → ∀ (outer : List Env) (s : Shared) (H : Hp), Env0 P w K mg base A outer s H → ∀ (args : Args) (us : List Value) (vs : List V), BindsTo s fd args (ps.zip us) → Vals vs us →
    ∀ (Q : VK) (E : XK), sp vs H Q E → codeAny (model P w) A (.call (.ref f) args) (CR CX outer P w H s Q E) s
section
variable {P : Program} {w : World} {K : PySem.W.Frag} {mg : Str → Option Value} {base : Heap} {CX : CXT} {k : Nat} {f : Addr} {fd : FuncData} {ps : List Str} {sp : Sp}
theorem FnG.of (F : FnOk P w K mg base CX k f fd ps sp) : FnG P w K mg base CX k f fd ps sp :=
  ⟨F.len, fun A hr _ outer s H e args us vs hb r Q E h => F.run A outer s H args us vs Q E hr e hb r h⟩
/-- the body, from «no repr is under way» -/
theorem okG {x qual : Str} {st : Stmt} {N : List Str} (F : Fun K x qual st f fd) (S : FnScope N ps (defScope st)) (len : ∀ vs H Q E, sp vs H Q E → vs.length = ps.length)
    (body : ∀ (cdv : Value) (A : Around) (outer : List Env) (s : Shared) (H : Hp) (vs : List V) (Q : VK) (E : XK), Room k (A.deeper (envOfC qual (defScope st) s.heap.objs.size f cdv)) → A.guards = some [] → sp vs H Q E →
      ∃ t, PSs (cxOf CX P w K mg base N qual (defScope st) f cdv A outer s H E) (defBody st) t ∧ t { nx := fun _ H' => Q .non H', rt := Q } (start N vs) H) : FnG P w K mg base CX (k + 1) f fd ps sp := by
  refine ⟨len, fun A hr hg outer s H e args us vs hb r Q E h => ?_⟩
  obtain ⟨oc, od, kV, doc, pm, an, cdv, ct, osl, rfl, lk, hcd⟩ := F.ex
  have hl := len _ _ _ _ h
  have KX : K.In s.heap := e.mod.kin.keeps fun b o z => (e.bs b o z).1
  have lim : s.heap.NoLimit := e.mod.nolimit.keeps fun b o z => (e.bs b o z).1
  have kinds : ∀ y ∈ ps.zip us, (defScope st).names.lookup y.1 = some .local ∨ ((defScope st).names.lookup y.1 = some .cell ∧ ((cellsFrom (s.heap.objs.size + 1) (defScope st).names []).lookup y.1).isSome = true) := by
    rintro ⟨n, v⟩ hy
    rcases S.par n (List.of_mem_zip hy).1 with q | q
    · exact Or.inl q
    · exact Or.inr ⟨q, PySem.W.cellsFrom_some _ _ _ (Or.inl q)⟩
  refine codeAny_call_function hr.depth (KX _ _ lk) rfl S.co S.gen rfl (PySem.W.codeRec_of KX hcd) (hb _ _ _ _ ?_)
  refine wpAny_newFunctionEnv_cells S.kind kinds fun env henv s1 ic => ?_
  cases henv
  refine ⟨lim.keeps ic.toInCall.keep, codeAny_func ?_⟩
  obtain ⟨t, ht, q⟩ := body cdv A outer s H vs Q E (hr.deeper _) hg h
  have I := inv_start (E := E) (CX := CX) S hr.hd e hl r ic
  refine wpAny_mono (ht.run [] s1 _ H _ I q) (fun fl s' z => ?_) fun _ _ z => z
  cases fl with
  | next =>
    obtain ⟨_, H', J, z⟩ := z
    exact ⟨V.non, H', J.os, J.bare, J.base, J.hok, rfl, z⟩
  | ret u =>
    obtain ⟨v, _, H', J, rv, z⟩ := z
    exact ⟨v, H', J.os, J.bare, J.base, J.hok, rv, z⟩
  | brk =>
    obtain ⟨_, _, _, z⟩ := z
    exact False.elim z
  | cont =>
    obtain ⟨_, _, _, z⟩ := z
    exact False.elim z
end
section
variable {X : Cx} {CX : CXT} {k : Nat} {f : Addr} {fd : FuncData} {ps : List Str} {sp : Sp} {dvs : List V} {ds : List Value} {E : XK} {x : Str} {p pos : Pos} {e : Expr} {es : List Expr} {t : TA}
theorem pe_callG (F : FnG X.prog X.w X.K X.mg X.base CX k f fd ps sp) (hr : Room k X.A) (gd : X.A.guards = some []) (hg : Gl X x) (hm : X.mg x = some (.ref f)) (hk : PySem.W.keepIn X.K (.ref f) = true) (hb : Binds X.K fd ps ds) (hd : Vals dvs ds) (hx : Passes CX X E)
    (ha : PA X (e :: es) t) (hdb : (x == ("__debug__" : Str)) = false := by decide) (he : starEach (e :: es) X.env = (false, eval e X.env) :: starEach es X.env := by rfl) (hpl : (backTo pos (starEach es X.env)).any (·.1) = false := by rfl) :
    PE X (.Call (.Name x p) (e :: es) [] pos) (tCall sp dvs E t) := by
  constructor
  intro pins s σ H Q I h
  refine wpAny_Call_Name_kw (ld_glob I hg hm (PySem.W.callWith_K (h₀ := X.base) I.ok.mod.kin hk (thn (ha.run pos pins s σ H _ I h) ?_) he hpl) hdb)
  rintro us s1 ⟨vs, H1, I1, r, q⟩
  refine ⟨I1.kIn, ?_⟩
  have r2 : Vals (vs ++ dvs) (us ++ ds) := r.append hd
  have hl : (us ++ ds).length = ps.length := r2.length.symm.trans (F.size _ _ _ _ q)
  refine wpAny_call (codeAny_mono (F.go X.A hr gd X.stack s1 H1 I1.env0 ⟨us, []⟩ _ _ (hb s1 us I1.kIn hl) r2 Q E q) ?_)
  rintro (er | fl) s' z
  · exact hx pins σ H1 s1 er s' I1 z
  · cases fl with
    | ret u => exact I1.after z
    | next => exact z.elim
    | brk => exact z.elim
    | cont => exact z.elim
end
section
variable {P : Program} {w : World} {K : PySem.W.Frag} {mg : Str → Option Value} {base : Heap}
/-- a def whose code is known -/
theorem okC {CX : CXT} {x qual : Str} {st : Stmt} {N ps : List Str} {k : Nat} {f c : Addr} {fd : FuncData} {sp : Sp} (F : Fun K x qual st f fd) (hc : fd.code = .ref c) (S : FnScope N ps (defScope st)) (len : ∀ vs H Q E, sp vs H Q E → vs.length = ps.length)
    (body : ∀ (A : Around) (outer : List Env) (s : Shared) (H : Hp) (vs : List V) (Q : VK) (E : XK), Room k (A.deeper (envOfC qual (defScope st) s.heap.objs.size f (.ref c))) → sp vs H Q E →
      ∃ t, PSs (cxOf CX P w K mg base N qual (defScope st) f (.ref c) A outer s H E) (defBody st) t ∧ t { nx := fun _ H' => Q .non H', rt := Q } (start N vs) H) : FnOk P w K mg base CX (k + 1) f fd ps sp := by
  obtain ⟨oc, od, kV, doc, pm, an, cdv, ct, osl, rfl, lk, hcd⟩ := F.ex
  obtain rfl : cdv = .ref c := hc
  exact ⟨len, fun A outer s H args us vs Q E hr e hb r h => LamX.run_ofS lk hcd S hr e hb r (len _ _ _ _ h) fun hr' => body A outer s H vs Q E hr' h⟩
end
/-! the law's call where a code's table grows -/
theorem law_T {P : Program} {w : World} {K : PySem.W.Frag} {mg mb : Str → Option Value} {k : Nat} {fa a Pt : Addr} {fd : FuncData} {x : Str} {sp : Sp} {s : Shared} {vs : List Value} {ns : List Int}
    (KX : K.In s.heap) (hns : s.heap.Ns mainGlobals mg) (hb : s.heap.Ns builtinsNs mb) (hbb : ∀ x : Str, x ≠ "__name__" → mb x = bootBuiltins x) (hlim : s.heap.NoLimit) (hg : s.gens = #[])
    (ha : s.heap.get? a = some { cls := .type "list", data := .seq vs.toArray }) (hi : IntsAre vs ns) (hl : ns.length ≤ sizeLine) (hr : Room k callerA)
    (hPt : s.heap.get? Pt = some (PySem.W.tabObj #[])) (nPt : K.lookup Pt = none) (tPt : isCodeTable s.heap Pt)
    (F : ∀ base : Heap, K.In base → base.Ns mainGlobals mg → (∀ x : Str, x ≠ "__name__" → mb x = bootBuiltins x) → base.Ns builtinsNs mb → base.BuiltinsAt mg Pt → FnG P w K mg base CX0 k fa fd [x] sp) (hbm : s.heap.BuiltinsAt mg Pt) (hbind : ∀ (s : Shared) (u : Value), BindsTo s fd ⟨[u], []⟩ [(x, u)])
    (hsp : ∀ H : Hp, SqL K H a (ns.map V.int) → H Pt = some (.tbl #[]) → sp [.ref a] H (fun v _ => v = .bl true) fun _ _ _ => False) :
    codeAny (model P w) callerA (.call (.ref fa) ⟨[.ref a], []⟩) (fun r s' => r = .ok (.ret (.bool true)) ∧ OldK s.heap s'.heap ∧ s'.os = s.os ∧ AllBare s'.gens) s := by
  have rv := vals_ints hi
  have nPa : Pt ≠ a := fun z => by
    rw [z, ha] at hPt
    cases hPt
  have run : ∀ H : Hp, (∀ b u, H b = some u → (b = a ∧ ∃ o ys, u = .frz o (.lst ys)) ∨ (b = Pt ∧ u = .tbl #[])) → (∀ u, H a = some u → K.lookup a = none) → HOk P w H s.heap → SqL K H a (ns.map V.int) → H Pt = some (.tbl #[]) →
      codeAny (model P w) callerA (.call (.ref fa) ⟨[.ref a], []⟩) (fun r s' => r = .ok (.ret (.bool true)) ∧ OldK s.heap s'.heap ∧ s'.os = s.os ∧ AllBare s'.gens) s := by
    intro H only noK ok hS hP
    have old : ∀ {b : Addr} {o : Obj}, s.heap.get? b = some o → H b = none → (hidT s.heap H).get? b = some o := fun e n => hidT_get e n
    have free : ∀ {b : Addr}, b ≠ a → b ≠ Pt → H b = none := fun {b} n1 n2 => by
      cases e : H b with
      | none => rfl
      | some u =>
        rcases only b u e with z | z
        · exact absurd z.1 n1
        · exact absurd z.1 n2
    have spaces : ∀ {b : Addr} {m : Str → Option Value}, s.heap.Ns b m → (hidT s.heap H).Ns b m := by
      rintro b m ⟨o, es, ep, e, d, r⟩
      refine ⟨o, es, ep, old e (free (fun z => ?_) fun z => ?_), d, r⟩
      · subst z
        rw [ha] at e
        cases e
        cases d
      · subst z
        rw [hPt] at e
        cases e
        cases d
    have bmh : (hidT s.heap H).BuiltinsAt mg Pt := by
      obtain ⟨bm, o, b1, b2, b3, b4, b5, b6, b7, b8⟩ := hbm
      refine ⟨bm, o, b1, b2, b3, b4, old b5 (free (fun z => ?_) b4), b6, b7, b8⟩
      rw [z, ha] at b5
      cases b5
      cases b8
    have kb : K.In (hidT s.heap H) := fun b o e => by
      refine old (KX b o e) ?_
      cases q : H b with
      | none => rfl
      | some u =>
        rcases only b u q with ⟨rfl, _⟩ | ⟨rfl, _⟩
        · rw [noK u q] at e
          cases e
        · rw [nPt] at e
          cases e
    have md : Mod K mg (hidT s.heap H) := ⟨kb, spaces hns, ⟨mb, spaces hb, hbb⟩, hlim.elim fun mc z => ⟨mc, spaces z.1, z.2⟩⟩
    have e0 : Env0 P w K mg (hidT s.heap H) callerA [] s H := ⟨rfl, md, fun b o e => of_hidT e, Nat.le_of_eq (hidT_size _ _), trivial, fun b hb => (nomatch (show b ∈ ([] : List Addr) from hb)), ok, .of_eq hg⟩
    refine codeAny_mono ((F _ kb (spaces hns) hbb (spaces hb) bmh).go callerA hr rfl [] s H e0 ⟨[.ref a], []⟩ [.ref a] [.ref a] (hbind s _) (.cons rfl .nil) _ _ (hsp H hS hP)) ?_
    rintro (er | fl) s' z
    · exact z.elim
    cases fl with
    | next => exact z.elim
    | brk => exact z.elim
    | cont => exact z.elim
    | ret u =>
      obtain ⟨v, H', os, bare, un, ok', rv', rfl⟩ := z
      obtain rfl : u = Value.bool true := rv'
      have fin : ∀ b o, s.heap.get? b = some o → b ≠ Pt → s'.heap.get? b = some o := fun b o e nb => by
        cases q : H b with
        | none => exact un.keep b o e q (fun z => nomatch z) (by simp)
        | some u =>
          rcases only b u q with ⟨rfl, ob, ys, rfl⟩ | ⟨rfl, _⟩
          · have e1 := (ok _ _ q).1
            have e2 := (ok' _ _ (un.frzs _ _ _ q)).1
            rw [e] at e1
            cases e1
            exact e2
          · exact absurd rfl nb
      obtain ⟨more, hm⟩ := un.tbls _ _ hP
      have eP : s'.heap.get? Pt = some { cls := Value.none, data := Data.fields (#[] ++ more) } := ok' _ _ hm
      refine ⟨rfl, ⟨fun b o e => ?_, fun b o e => ?_⟩, os, bare⟩
      · by_cases nb : b = Pt
        · subst nb
          rw [hPt] at e
          cases e
          exact .inr (.inl ⟨tPt, rfl, #[], more, rfl, eP⟩)
        · exact .inl (fin b o e nb)
      · by_cases nb : b = Pt
        · subst nb
          exact ⟨_, eP⟩
        · exact ⟨_, fin b o e nb⟩
  have lenV := hi.length
  cases hk : K.lookup a with
  | some o =>
    have e := KX a o hk
    rw [ha] at e
    cases e
    refine run (fun b => if b = Pt then some (.tbl #[]) else none) (fun b u z => ?_) (fun u z => ?_) (fun b u z => ?_) (.inr ⟨_, vs.toArray, _, hk, rfl, rfl, rfl, by rw [List.size_toArray, lenV]; exact hl, by simpa using rv⟩) (if_pos rfl)
    · by_cases hb : b = Pt
      · try dsimp only at z
        rw [if_pos hb] at z
        cases z
        exact .inr ⟨hb, rfl⟩
      · try dsimp only at z
        rw [if_neg hb] at z
        cases z
    · try dsimp only at z
      rw [if_neg nPa.symm] at z
      cases z
    · by_cases hb : b = Pt
      · try dsimp only at z
        rw [if_pos hb] at z
        cases z
        subst hb
        exact hPt
      · try dsimp only at z
        rw [if_neg hb] at z
        cases z
  | none =>
    refine run (fun b => if b = a then some (.frz { cls := .type "list", data := .seq vs.toArray } (.lst (ns.map V.int))) else if b = Pt then some (.tbl #[]) else none) (fun b u z => ?_) (fun _ _ => hk) (fun b u z => ?_) (.inl (.inr ⟨_, if_pos rfl⟩)) ?_
    · try dsimp only at z
      by_cases hb : b = a
      · rw [if_pos hb] at z
        cases z
        exact .inl ⟨hb, _, _, rfl⟩
      · rw [if_neg hb] at z
        by_cases hb2 : b = Pt
        · rw [if_pos hb2] at z
          cases z
          exact .inr ⟨hb2, rfl⟩
        · rw [if_neg hb2] at z
          cases z
    · try dsimp only at z
      by_cases hb : b = a
      · rw [if_pos hb] at z
        cases z
        subst hb
        exact ⟨ha, by rw [List.length_map]; exact hl, vs, _, rv, ha⟩
      · rw [if_neg hb] at z
        by_cases hb2 : b = Pt
        · rw [if_pos hb2] at z
          cases z
          subst hb2
          exact hPt
        · rw [if_neg hb2] at z
          cases z
    · try dsimp only
      rw [if_neg nPa, if_pos rfl]
theorem walkT {l : PySem.W.OpenLaw} {n k : Nat} {q : Program} {loose : List Str} {XP : (Str → Option Value) → Heap → Prop} {YP : World → Heap → Prop} {d : DefRec} {K : Params → PySem.W.Frag} {sp : PySem.W.Frag → (Str → Option Value) → Sp} {x : Str} {Pt : Addr}
    (hn : l.most = some n) (hn2 : n ≤ sizeLine) (hdf : d.params.defaults = []) (hr : Room k callerA) (hY : ∀ (w : World) (h : Heap), YP w h → (K w.params).In h) (hT : ∀ (w : World) (h : Heap), YP w h → h.get? Pt = some (PySem.W.tabObj #[])) (nT : ∀ w : World, (K w.params).lookup Pt = none)
    (tT : ∀ (w : World) (h : Heap), (K w.params).In h → isCodeTable h Pt)
    (F : ∀ (w : World) (mg : Str → Option Value) (fa : Addr) (h : Heap), (K w.params).In h → h.Ns mainGlobals mg → mg d.name = some (.ref fa) →
      ∃ fd : FuncData, (∀ (s : Shared) (u : Value), BindsTo s fd ⟨[u], []⟩ [(x, u)]) ∧ (∀ base : Heap, (K w.params).In base → base.Ns mainGlobals mg → base.BuiltinsAt mg Pt → FnG l.prog w (K w.params) mg base CX0 k fa fd [x] (sp (K w.params) mg)) ∧
        ∀ (H : Hp) (a : Addr) (ns : List Int), ns.length ≤ n → SqL (K w.params) H a (ns.map V.int) → H Pt = some (.tbl #[]) → sp (K w.params) mg [.ref a] H (fun v _ => v = .bl true) fun _ _ _ => False) :
    PySem.W.WalkO q loose XP YP l.row.toRowW d [] (fun f vs => PySem.call f vs) := by
  refine Att.attach_call hn hdf fun w s₀ s₁ mg mb fa o pm cd doc a vs ns G Y ho hd hcd hmg hobj hints hlen hg => ?_
  obtain ⟨fd, hb, hF, hsp⟩ := F w mg fa _ (hY w _ Y) G.T.g hmg
  have hbm : s₁.heap.BuiltinsAt mg Pt := by
    obtain ⟨bm, ob, b1, b2, b3, b4, b5, b6⟩ := G.T.bmain
    refine ⟨bm, ob, b1, b2, fun z => ?_, fun z => ?_, b3, b4, b5, b6⟩
    · obtain ⟨o, es, ep, e, d, r⟩ := G.T.g
      rw [z, e] at b3
      cases b3
      rw [d] at b6
      cases b6
    · rw [z, hT w _ Y] at b3
      cases b3
      cases b6
  exact law_T (hY w _ Y) G.T.g G.T.b G.T.builtins G.T.nolimit hg hobj hints (Nat.le_trans hlen hn2) hr (hT w _ Y) (nT w) (tT w _ (hY w _ Y)) (fun base k1 k2 _ _ k3 => hF base k1 k2 k3) hbm hb fun H hS hP => hsp H a ns hlen hS hP
/-! how long a datum's repr may be -/
mutual
def wt : PyData → Nat
  | .none => 4
  | .bool _ => 5
  | .int _ => 2000
  | .str x => 10 * x.length + 2
  | .list xs => wtA xs + 3
  | .tuple xs => wtA xs + 3
  | .dict _ => 0
def wtA : List PyData → Nat
  | [] => 0
  | x :: xs => wt x + 2 + wtA xs
end
mutual
def okR : PyData → Bool
  | .none => true
  | .bool _ => true
  | .int i => decide (i.natAbs.log2 < 1920)
  | .str x => x.cps.toList.all fun c => decide (c < 16 ^ 8)
  | .list xs => okRA xs
  | .tuple xs => okRA xs
  | .dict _ => false
def okRA : List PyData → Bool
  | [] => true
  | x :: xs => okR x && okRA xs
end
mutual
theorem okR_show : ∀ d : PyData, okR d = true → d.showable = true ∧ d.hasDict = false
  | .none, _ => by simp [PyData.showable, PyData.hasDict]
  | .bool _, _ => by simp [PyData.showable, PyData.hasDict]
  | .str _, _ => by simp [PyData.showable, PyData.hasDict]
  | .int i, h => by
    simp only [okR] at h
    simp only [PyData.showable, PyData.hasDict]
    exact ⟨h, trivial⟩
  | .list xs, h => by
    simp only [okR] at h
    simp only [PyData.showable, PyData.hasDict]
    exact okRA_show xs h
  | .tuple xs, h => by
    simp only [okR] at h
    simp only [PyData.showable, PyData.hasDict]
    exact okRA_show xs h
  | .dict _, h => by simp only [okR] at h; cases h
theorem okRA_show : ∀ ds : List PyData, okRA ds = true → PyData.showableAll ds = true ∧ PyData.hasDictAll ds = false
  | [], _ => by simp [PyData.showableAll, PyData.hasDictAll]
  | d :: ds, h => by
    simp only [okRA, Bool.and_eq_true] at h
    have h1 := okR_show d h.1
    have h2 := okRA_show ds h.2
    simp only [PyData.showableAll, PyData.hasDictAll, h1.1, h1.2, h2.1, h2.2, Bool.and_self, Bool.or_self, and_self]
end
theorem shownAll_length : ∀ ds : List PyData, (PyData.shownAll ds).length = ds.length
  | [] => rfl
  | d :: ds => by simp only [PyData.shownAll, List.length_cons, shownAll_length ds]
mutual
theorem shown_le : ∀ d : PyData, okR d = true → d.shown.length ≤ wt d
  | .none, _ => by simp only [PyData.shown, wt]; decide +kernel
  | .bool b, _ => by cases b <;> (simp only [PyData.shown, wt]; decide +kernel)
  | .int i, h => by
    simp only [okR] at h
    have e := int_text_length_le (k := 1920) (by decide) (of_decide_eq_true h)
    simp only [PyData.shown, wt]
    rw [PySem.ofString_length]
    omega
  | .str x, h => by
    simp only [okR, List.all_eq_true, decide_eq_true_eq] at h
    simp only [PyData.shown, wt]
    exact StrLaws.reprText_len x h
  | .list xs, h => by
    simp only [okR] at h
    have e := listText_len_le (PyData.shownAll xs)
    have f := shownAll_le xs h
    rw [shownAll_length] at e
    simp only [PyData.shown, wt]
    omega
  | .tuple xs, h => by
    simp only [okR] at h
    have e := fmt_text (PyData.shownAll xs)
    have f := shownAll_le xs h
    have g : piled (PyData.shownAll xs) = ((PyData.shownAll xs).map (·.length)).sum + 2 * xs.length := by
      rw [← shownAll_length xs]
      unfold piled
      generalize PyData.shownAll xs = l
      induction l with
      | nil => rfl
      | cons a l ih => simp only [List.map_cons, List.sum_cons, List.length_cons] at ih ⊢; omega
    simp only [PyData.shown, wt]
    omega
  | .dict _, h => by simp only [okR] at h; cases h
theorem shownAll_le : ∀ ds : List PyData, okRA ds = true → ((PyData.shownAll ds).map (·.length)).sum + 2 * ds.length ≤ wtA ds
  | [], _ => by simp [PyData.shownAll, wtA]
  | d :: ds, h => by
    simp only [okRA, Bool.and_eq_true] at h
    have h1 := shown_le d h.1
    have h2 := shownAll_le ds h.2
    simp only [PyData.shownAll, wtA, List.map_cons, List.sum_cons, List.length_cons]
    omega
end
/-- repr(x), x data -/
def rRepr (K : PySem.W.Frag) : List V → Hp → VK → Prop := fun xs H Q => ∃ x d, xs = [x] ∧ Dp K H x d ∧ okR d = true ∧ d.depth ≤ 40 ∧ wt d ≤ 16777216 ∧ Q (.str d.shown) H
section
variable {X : Cx}
theorem cRepr (gd : X.A.guards = some []) (hu : X.A.units + 64 < cLine) : CallR X (.builtin "repr") (rRepr X.K) := by
  intro pins s σ H xs us Q I r h
  obtain ⟨x, d, rfl, dp, ok, dd, dz, q⟩ := h
  obtain ⟨u, rfl, rx⟩ := vals1 r
  obtain ⟨as, rd⟩ := Dp.reads I d x u dp rx
  have sh := okR_show d ok
  have sz : d.shown.length ≤ sizeLine := Nat.le_trans (shown_le d ok) (by rw [sizeLine_eq]; exact dz)
  cases rd with
  | none => exact PySem.P.repr_of_none ⟨.str _, H, I.tok _, ⟨_, rfl⟩, q⟩
  | bool b => exact PySem.P.repr_of_bool ⟨.str _, H, I.tok _, ⟨_, rfl⟩, q⟩
  | int i t => exact PySem.P.repr_of_int (by simpa [okR] using ok) ⟨.str _, H, I.tok _, ⟨_, rfl⟩, q⟩
  | str z t => exact PySem.P.repr_of_str ⟨.str _, H, I.tok _, ⟨_, rfl⟩, q⟩ sz
  | list h1 h2 h3 h4 => exact repr_of_reads' (.list h1 h2 h3 h4) sh.1 (PyData.noDict_hsm sh.2) gd (by omega) (fun _ _ e => e) (fun h' u tk hk => ⟨.str _, H, I.kept hk, ⟨_, rfl⟩, q⟩) sz
  | tuple h1 h2 h3 h4 => exact repr_of_reads' (.tuple h1 h2 h3 h4) sh.1 (PyData.noDict_hsm sh.2) gd (by omega) (fun _ _ e => e) (fun h' u tk hk => ⟨.str _, H, I.kept hk, ⟨_, rfl⟩, q⟩) sz
  | dict => simp only [okR] at ok; cases ok
end

abbrev sOutcome : Stmt := top 24
abbrev sArrived : Stmt := top 25
abbrev sDone : Stmt := top 26
abbrev sLaw : Stmt := top 27
theorem takes_len {X : Cx} {W : WX} (tk : Takes X W) : Takes X fun cls d σ H => σ.length = X.N.length → W cls d σ H := fun u s' ⟨a, B, sI, pins, σ, H, cls, d, h1, I, h2, h3, h4, h5, h6, h7, h8⟩ => tk u s' ⟨a, B, sI, pins, σ, H, cls, d, h1, I, h2, h3, h4, h5, h6, h7, h8 I.len⟩
theorem takes0 {X : Cx} : Takes X (fun _ _ _ _ => False) := fun u s' ⟨_, _, _, _, _, _, _, _, _, _, _, _, _, _, _, _, w⟩ => w.elim
/-! isinstance(e, T), e a caught error with its own dict -/
def rIsX (K : PySem.W.Frag) (D a : Addr) (cls : Value) (d : Option Addr) : List V → Hp → VK → Prop := fun xs H Q => cls = .ref D ∧ ∃ (c : V) (cv : Value) (b : Bool) (dd : Addr) (fs : List (Str × V)), xs = [.ref a, c] ∧ (∀ u, RelV c u → u = cv) ∧ PySem.W.kitOne K (.ref D) cv = some b ∧ d = some dd ∧ H dd = some (.xd fs) ∧ Q (.bl b) H
theorem call_isX {X : Cx} {a D : Addr} {cls : Value} {d : Option Addr} {oe : Obj} {pn : List (Addr × Obj)} (C : ExcC X.K D) (hD : (PySem.W.clsIn X.K D).isSome = true) (hz : Zc cls d oe) (hf : ∃ vs, oe.data = .fields vs) : CallR (X.suite a ((a, oe) :: pn)) (.builtin "isinstance") (rIsX X.K D a cls d) := by
  rintro pins s σ H xs us Q I r ⟨rfl, c, cv, b, dd, fs, rfl, hcv, e, rfl, hd, q⟩
  obtain ⟨u1, u2, rfl, ra, rb⟩ := vals2 r
  obtain rfl : u1 = Value.ref a := ra
  obtain rfl := hcv _ rb
  have hp := I.pin (a, oe) (List.mem_append.mpr (.inl List.mem_cons_self))
  have ok := I.hok _ _ hd
  obtain ⟨hz1, hz2⟩ := hz
  obtain ⟨vs, hf⟩ := hf
  obtain ⟨o, ho⟩ : ∃ o, s.heap.get? dd = some o := by
    obtain ⟨mA, ⟨o, es, ep, e1, _⟩, _⟩ := ok
    exact ⟨o, e1⟩
  have ia : PySem.W.InstAt s.heap a oe D (some o) := ⟨hp.1, hz1, by unfold PySem.W.notCls; rw [hf], by rw [hz2]; exact ho⟩
  refine PySem.W.kia_one (PySem.W.kitx_exc (od := some o) (ox := oe) hD C.hg C.hk C.hs C.ha C.hn C.ht C.hm) I.kIn ia e (fun z => nomatch z) fun tk => ?_
  exact ⟨.bl b, H, I.tok _, rfl, q⟩
/-- what is handed to _law_outcome returns, or raises an error with a number -/
def TOut (D : Addr) (tl : XK → Hp → VK → Prop) (H : Hp) (Q : VK) : Prop :=
  ∀ E : XK, (∀ (dd : Addr) (n : Int) (H' : Hp), H' dd = some (.xd [(("number" : Str), .int n)]) → (∀ l, H' l = none → Q (.ref l) (upd H' l (.lst [.str "finished", .int n, .bl true]))) → E (.ref D) (some dd) H') → tl E H Q
section
variable {D fI : Addr} {fdI : FuncData}
theorem scOutcome : FnScope ["_law_deed", "e"] ["_law_deed"] (defScope sOutcome) := ⟨rfl, rfl, rfl, by decide +kernel, rfl, by decide +kernel, by decide +kernel⟩
abbrev FinE (K : PySem.W.Frag) (mg : Str → Option Value) (D fI : Addr) (fdI : FuncData) : Prop := ErrF K mg "Finished" "number" D fI fdI "RuntimeError.__new__" (.type "RuntimeError" :: exT)
theorem out_gives {X : Cx} {g : Addr} {cdg : Value} {q : Str} (T : FinE X.K X.mg D fI fdI) (gR : X.mg "RuntimeError" = none) (isin : X.mg "isinstance" = none) (EC : ExcC X.K D) (hC : (PySem.W.clsIn X.K D).isSome = true) (kv : PySem.W.kitOne X.K (.ref D) (.type "RuntimeError") = some true) :
    LamX.GivesTo X ["_law_deed", "e"] "_law_outcome" (defScope sOutcome) g cdg (defBody sOutcome) "_law_deed" q (TOut D) := by
  intro f c' s H Q tl hPE hc' hT
  refine ⟨_, pss_one (ps_try_as (i := 1) (c := .ref D) (Wout := fun _ _ _ _ => False)
      (tb := fun W Ds σ H1 => (σ[0]? = some (some (.ref f)) ∧ H1 c' = some (LamX.CodeO c' q) ∧ tl (fun cls d H' => ∀ σ' : L2.St, σ'.length = 2 → W cls d σ' H') H1 Ds.rt))
      (ts := fun a cls d => tRet (tLst (tCons (tC (.str "finished")) (tCons (tXf a cls d D "number" (tVar 1)) (tCons (tCB (rIsX X.K D a cls d) (tCons (tVar 1) (tCons (tC (.ty "RuntimeError")) tNil))) tNil)))))
      rfl rfl scOutcome.nd rfl rfl ⟨rfl, by decide, Or.inl T.gC⟩ takes0
      (fun W pn xe tk _ => pss_one (ps_ret (hPE _ pn xe _ _ _ (takes_len tk) (fun cls d σ' H' h hl => h σ' hl))))
      (fun a oe cls d pn hz hf => pss_one (ps_ret (pe_lst (pa_cons pe_str (pa_cons (pe_xf T.xf T.noN hz hf (pv 1)) (pa_cons (pe_callB (call_isX EC hC hz hf) (by rfl) isin PyProof.Rows.boot_isinstance (pa_cons (pv 1) (pa_cons (pe_bltn (v := .ty "RuntimeError") (by rfl) gR (by rfl) rfl) pa_nil))) pa_nil))))))), ?_⟩
  refine ⟨rfl, hc', hT _ fun dd n H' hd k σ' hl => ⟨true, T.te, fun _ a ha => ?_, fun z => Bool.noConfusion z⟩⟩
  have e1 : (σ'.set 1 (some (V.ref a)))[1]? = some (some (V.ref a)) := by rw [List.getElem?_set_self (by omega)]
  refine ⟨_, e1, rfl, rfl, dd, _, _, rfl, hd, rfl, _, e1, rfl, .ty "RuntimeError", .type "RuntimeError", true, dd, _, rfl, fun u h => h, kv, rfl, hd, by show 3 ≤ sizeLine; decide, fun l hl2 => k l hl2⟩
end
/-- what _law_outcome rests on -/
structure OutTxt (K : PySem.W.Frag) (mg : Str → Option Value) (D fI : Addr) (fdI : FuncData) (g : Addr) (fd : FuncData) : Prop where
  fn : Fun K "_law_outcome" "_law_outcome" sOutcome g fd
  gm : mg "_law_outcome" = some (.ref g)
  bd : Binds K fd ["_law_deed"] []
  err : FinE K mg D fI fdI
  gR : mg "RuntimeError" = none
  isin : mg "isinstance" = none
  exc : ExcC K D
  cls : (PySem.W.clsIn K D).isSome = true
  kv : PySem.W.kitOne K (.ref D) (.type "RuntimeError") = some true
/-- _law_outcome(lambda: e) -/
theorem pe_out {X : Cx} {D fI g c Pt : Addr} {fdI fd : FuncData} {T : List (Addr × Str)} {k : Nat} {params : Arguments} {body : Expr} {scope : PySem.Scope} {t : XK → TE} {p lpos pos : Pos} (R : OutTxt X.K X.mg D fI fdI g fd) (hg : Gl X "_law_outcome")
    (TB : LamX.TabB X.base X.mg c Pt) (hcode : X.env.code = .ref c) (hmT : (Pt, X.env.qual ++ "<lambda>") ∈ T) (hu : ∀ p ∈ T, p.1 = Pt → p.2 = X.env.qual ++ "<lambda>") (hr : Room (k + 2) X.A) (L : LamX.LamS X.env.scope scope) (hdef : defaultsOf params X.env = ([], []))
    (hbind : ∀ (q : Str) (cl : List (Str × Addr)) (pm cv ctv : Value), bindArgs (PySem.W.kla_fn "<lambda>" q params body scope cl pm cv ctv) ⟨[], []⟩ = pure [])
    (hbody : ∀ (A : Around) (outer : List Env) (s : Shared) (H : Hp) (E : XK) (f c' : Addr), Room k (A.deeper (LamX.lamEnv X scope s.heap.objs.size f c')) → PE (LamX.lamCx X A outer s H E scope f c') body (t E)) :
    PE X (.Call (.Name "_law_outcome" p) [.Lambda params body scope lpos] [] pos) (LamX.tLam T (TOut D) t) := by
  obtain ⟨oc, od, kV, doc, pm, an, cdv, ct, osl, e, lk, hcg⟩ := R.fn.ex
  have bd := R.bd
  subst e
  exact LamX.pe_lamcall hg R.gm R.fn.kp lk hcg bd scOutcome rfl (by exact Or.inl rfl) (out_gives R.err R.gR R.isin R.exc R.cls R.kv) TB hcode hmT hu hr L hdef hbind hbody
section
variable {P : Program} {w : World} {K : PySem.W.Frag} {mg : Str → Option Value} {base : Heap} {C : Cs}
/-! _law_arrived -/
def spArrived : Sp := fun vs H Q _ => ∃ (u : Addr) (n lot a : Int) (b f : Bool), vs = [.ref u, .int n, .int lot, .bl f] ∧ H u = some (.lst [.int a, .bl b]) ∧
  (b = true → ∀ l, H l = none → Q (.ref l) (upd H l (.lst [.str "finished", .int n, .bl true]))) ∧ (b = false → ∀ H', H' u = some (.lst [.int (a + lot), .bl f]) → (∀ x, x ≠ u → H' x = H x) → Q .non H')
theorem scArrived : FnScope ["_law_units", "_law_n", "_law_lot", "_law_finishes"] ["_law_units", "_law_n", "_law_lot", "_law_finishes"] (defScope sArrived) := ⟨rfl, rfl, rfl, by decide +kernel, rfl, by decide +kernel, by decide +kernel⟩
theorem okArrived {f : Addr} {fd : FuncData} (F : Fun K "_law_arrived" "_law_arrived" sArrived f fd) : FnOk P w K mg base CX0 1 f fd ["_law_units", "_law_n", "_law_lot", "_law_finishes"] spArrived := by
  refine F.ok scArrived (fun vs H Q E h => ?_) (fun cdv A outer s H vs Q E hr h => ?_)
  · obtain ⟨_, _, _, _, _, _, rfl, _⟩ := h
    rfl
  · obtain ⟨u, n, lot, a, b, fi, rfl, hu, k1, k2⟩ := h
    refine ⟨_, pss_cons (ps_if (pt_val (pe_ix ix_list (pv 0) pe_int (fun _ _ => rfl))) (pss_one (ps_ret (pe_lst (pa_cons pe_str (pa_cons (pv 1) (pa_cons pe_bl pa_nil)))))) pss_nil)
      (pss_cons (ps_asg (pe_op op_add (pe_ix ix_list (pv 0) pe_int (fun _ _ => rfl)) (pv 2)) (pg_sub (pv 0) pe_int set_list))
      (pss_cons (ps_asg (pv 3) (pg_sub (pv 0) pe_int set_list))
      (pss_one (ps_ret pe_non)))), ?_⟩
    walk_at "wn"
    cases b with
    | true =>
      walk_at "wn"
      exact ⟨by show 3 ≤ sizeLine; decide, fun l hl => k1 rfl l hl⟩
    | false =>
      walk_at "wn"
      refine k2 rfl _ upd_same fun x hx => ?_
      rw [upd_ne hx, upd_ne hx]
end

open LamX
/-! o.m(e, .., k = v, ..), o.m(k = v, ..) -/
def tMethK (C : Addr) (m : Str) (n j : Nat) (sp : Sp) (gV : List V → List V → List V) (E : XK) (ta : TE) (t tk : TA) : TE := fun σ H Q => ta σ H fun x H1 => ∃ a dx fs, x = .ref a ∧ H1 a = some (.ins C dx fs) ∧ fs.lookup m = none ∧ t σ H1 fun vs H2 => tk σ H2 fun zs H3 => vs.length = n ∧ zs.length = j ∧ sp (gV (x :: vs) zs) H3 Q E
def tMethK0 (C : Addr) (m : Str) (j : Nat) (sp : Sp) (gV : List V → List V → List V) (E : XK) (ta : TE) (tk : TA) : TE := fun σ H Q => ta σ H fun x H1 => ∃ a dx fs, x = .ref a ∧ H1 a = some (.ins C dx fs) ∧ fs.lookup m = none ∧ tk σ H1 fun zs H3 => zs.length = j ∧ sp (gV [x] zs) H3 Q E
section
variable {X : Cx} {CX : CXT} {k n : Nat} {f C : Addr} {fd : FuncData} {ps ks : List Str} {sp : Sp} {E : XK} {m : Str} {apos pos : Pos} {o e : Expr} {es : List Expr} {kws : List Keyword} {ta : TE} {t tk : TA} {g : List Value → List Value → List Value} {gV : List V → List V → List V}
theorem pe_methK {pl : Sem Bool} (he : PE X o ta) (c : Cls X.K C) (hm : Meth X.K C m f) (F : FnOk X.prog X.w X.K X.mg X.base CX k f fd ps sp) (hr : Room k X.A) (hb : KBn X.K fd ps (n + 1) ks g gV) (hx : Passes CX X E) (ha : PA X (e :: es) t) (hkw : PK X kws tk)
    (hall : (backToKw pos (keywordEach kws X.env)).all (·.1.isSome) = true := by rfl) (hks : (backToKw pos (keywordEach kws X.env)).filterMap (·.1) = ks := by rfl)
    (hst : starEach (e :: es) X.env = (false, eval e X.env) :: starEach es X.env := by rfl) (hpl : ((backTo pos (starEach (e :: es) X.env)).any (·.1) || (backToKw pos (keywordEach kws X.env)).any (·.1.isNone)) = false := by rfl)
    (ht : eval (.Call (.Attribute o m apos) (e :: es) kws pos) X.env = (do
      let ov ← eval o X.env
      standAt apos.atName
      let (f, first) ← holding [ov] (getMethod ov m pl)
      callWith pos f first (backTo pos (starEach (e :: es) X.env)) (backToKw pos (keywordEach kws X.env))) := by rfl) :
    PE X (.Call (.Attribute o m apos) (e :: es) kws pos) (tMethK C m n ks.length sp gV E ta t tk) := by
  refine ⟨fun pins s σ H Q I h => ?_⟩
  refine PySem.W.methodCall_KW (pl := pl) (thn (he.run pins s σ H _ I h) fun u s1 ⟨x, H1, I1, rx, a, dx, fs, ex, ea, l, q⟩ => ?_) ht
  subst ex
  obtain rfl : u = Value.ref a := rx
  refine getmeth_ok I1 ea c hm l ?_
  refine PySem.W.callWith_KW (first := [.ref a]) (h₀ := X.base) I.ok.mod.kin hm.kp hall (thn (ha.run pos pins s1 σ H1 _ I1 q) fun us s2 ⟨vs, H2, I2, r, q2⟩ => ?_) hpl hst
  refine thn (hkw.run pos pins s2 σ H2 _ I2 q2) fun ws s3 ⟨zs, H3, I3, rz, l1, l2, q3⟩ => ⟨I3.kIn, ?_⟩
  rw [hks]
  exact run_fnN (us := .ref a :: us) (vs := .ref a :: vs) F hr hb hx I3 (.cons rfl r) rz (by rw [List.length_cons, l1]) l2 q3
theorem pe_methK0 {pl : Sem Bool} (he : PE X o ta) (c : Cls X.K C) (hm : Meth X.K C m f) (F : FnOk X.prog X.w X.K X.mg X.base CX k f fd ps sp) (hr : Room k X.A) (hb : KBn X.K fd ps 1 ks g gV) (hx : Passes CX X E) (hkw : PK X kws tk)
    (hall : (backToKw pos (keywordEach kws X.env)).all (·.1.isSome) = true := by rfl) (hks : (backToKw pos (keywordEach kws X.env)).filterMap (·.1) = ks := by rfl)
    (hpl : ((backTo pos (starEach [] X.env)).any (·.1) || (backToKw pos (keywordEach kws X.env)).any (·.1.isNone)) = false := by rfl)
    (ht : eval (.Call (.Attribute o m apos) [] kws pos) X.env = (do
      let ov ← eval o X.env
      standAt apos.atName
      let (f, first) ← holding [ov] (getMethod ov m pl)
      callWith pos f first (backTo pos (starEach [] X.env)) (backToKw pos (keywordEach kws X.env))) := by rfl) :
    PE X (.Call (.Attribute o m apos) [] kws pos) (tMethK0 C m ks.length sp gV E ta tk) := by
  refine ⟨fun pins s σ H Q I h => ?_⟩
  refine PySem.W.methodCall_KW (pl := pl) (thn (he.run pins s σ H _ I h) fun u s1 ⟨x, H1, I1, rx, a, dx, fs, ex, ea, l, q⟩ => ?_) ht
  subst ex
  obtain rfl : u = Value.ref a := rx
  refine getmeth_ok I1 ea c hm l ?_
  refine PySem.W.callWith_KW0 (first := [.ref a]) (h₀ := X.base) I.ok.mod.kin hm.kp hall (thn (hkw.run pos pins s1 σ H1 _ I1 q) fun ws s3 ⟨zs, H3, I3, rz, l2, q3⟩ => ⟨I3.kIn, ?_⟩) hpl
  rw [hks]
  exact run_fnN (us := [.ref a]) (vs := [.ref a]) F hr hb hx I3 (.cons rfl .nil) rz rfl l2 q3
end
/-- all parameters by position or by name, of a def with positional defaults -/
theorem kb1 {K : PySem.W.Frag} {x qual : Str} {params : Arguments} {body : List Stmt} {scope : PySem.Scope} {dvs : List V} {kws : List (Str × V)} {f : Addr} {fd : FuncData} {ps : List Str} (F : FunD K x qual params body scope dvs kws f fd) (n : Nat) (ks : List Str) (hd : dvs ≠ [])
    (h : ∀ (T : Addr) (kV doc pm : Value) (an : Option Addr) (cdv ct : Value) (us its ws : List Value), us.length = n → its.length = dvs.length → ws.length = ks.length →
      ∃ k, bindArgs (PySem.W.fnOf x qual params body scope (.ref T) kV doc pm an cdv ct) ⟨us, ks.zip ws⟩ = seqItems? (.ref T) >>= k ∧ k (some its.toArray) = pure (ps.zip (us ++ ws))) : KBn K fd ps n ks (fun us ws => us ++ ws) (fun vs zs => vs ++ zs) := by
  obtain ⟨oc, od, dV, kV, doc, pm, an, cdv, ct, osl, rfl, lk, hcd, hD, hK⟩ := F.ex
  rcases hD with ⟨e, _⟩ | ⟨_, T, o, its, m, rfl, lT, oT, rT⟩
  · exact absurd e hd
  refine ⟨fun s us ws X l1 l2 => BindsTo.of_looks fun M => ?_, fun r1 r2 => r1.append r2⟩
  obtain ⟨k, e1, e2⟩ := h T kV doc pm an cdv ct us its ws l1 rT.length.symm l2
  rw [e1]
  exact looks_items X lT oT (.of_pure e2)
/-- a method: its promise, its places, what it binds where all is given -/
structure MX (P : Program) (w : World) (K : PySem.W.Frag) (mg : Str → Option Value) (base : Heap) (CX : CXT) (k : Nat) (C : Addr) (m : Str) (ps : List Str) (sp : Sp) (f : Addr) (fd : FuncData) : Prop where
  g : FnOk P w K mg base CX k f fd ps sp
  m : Meth K C m f
  b : Binds K fd ps []

open LamX
theorem Dr.draw {p : Addr} {H H' : Hp} (e : ∀ b, b ≠ p → H' b = H b) (b : BagAt H' p) : Dr p H H' := ⟨fun a o n h => (e a n).trans h, b⟩
theorem co_tbl {C : Cs} {S : Sys} {ad dx : Cell → Addr} {c : Cell} (ps : Array Value) : co C S ad dx c ≠ .tbl ps := fun z => by
  cases c <;> (unfold co at z; first | (unfold sysO at z; cases z) | cases z)
theorem At.extN {C : Cs} {H H1 : Hp} {S : Sys} {ad dx : Cell → Addr} (A : At C H S ad dx) (e : ExtN H H1) : At C H1 S ad dx := ⟨fun c hc => e _ _ (A.at_ c hc) co_tbl, A.inj⟩
theorem code_ne {C : Cs} {S : Sys} {ad dx : Cell → Addr} {c : Cell} {a : Addr} {q : Str} : co C S ad dx c ≠ CodeO a q := fun z => by
  unfold CodeO at z
  cases c <;> (unfold co at z; first | (unfold sysO at z; cases z) | cases z)
/-- where tables and code objects stay -/
theorem Tabs.by {T : List (Addr × Str)} {H H' : Hp} (t : Tabs T H) (e1 : ∀ b ps, H b = some (.tbl ps) → H' b = some (.tbl ps)) (e2 : ∀ b q, H b = some (CodeO b q) → H' b = some (CodeO b q)) : Tabs T H' := fun p hp => by
  obtain ⟨ps, h1, h2, h3⟩ := t p hp
  refine ⟨ps, e1 _ _ h1, h2, fun pos cv hc => ?_⟩
  obtain ⟨c, x1, x2⟩ := h3 pos cv hc
  exact ⟨c, x1, e2 _ _ x2⟩
theorem Tabs.step {T : List (Addr × Str)} {C : Cs} {H H' : Hp} {S S' : Sys} {ad ad' dx : Cell → Addr} (t : Tabs T H) (A : At C H S ad dx) (st : Step H S ad H' S' ad') : Tabs T H' :=
  Tabs.by t (fun b ps h => st.keep b _ (fun ⟨c, lc, ec⟩ => by rw [← ec, A.at_ c lc] at h; exact co_tbl ps (Option.some.inj h)) h) (fun b q h => st.keep b _ (fun ⟨c, lc, ec⟩ => by rw [← ec, A.at_ c lc] at h; exact code_ne (Option.some.inj h)) h)
theorem Tabs.lst {T : List (Addr × Str)} {H : Hp} {l : Addr} {us : List V} {o : HO} (t : Tabs T H) (hl : H l = some (.lst us)) : Tabs T (upd H l o) :=
  Tabs.by t (fun b ps h => by rw [upd_ne (fun z => by rw [z, hl] at h; cases h)]; exact h) (fun b q h => by rw [upd_ne (fun z => by rw [z, hl] at h; unfold CodeO at h; cases h)]; exact h)
/-- the heap without its tables -/
def hT (H : Hp) : Hp := fun b => match H b with
  | some (.tbl _) => none
  | r => r
theorem hT_at {H : Hp} {b : Addr} {o : HO} (h : H b = some o) (n : ∀ ps, o ≠ .tbl ps) : hT H b = some o := by
  unfold hT
  rw [h]
  cases o <;> first | rfl | exact absurd rfl (n _)
theorem hT_of {H : Hp} {b : Addr} {o : HO} (h : hT H b = some o) : H b = some o ∧ ∀ ps, o ≠ .tbl ps := by
  unfold hT at h
  cases e : H b with
  | none => rw [e] at h; cases h
  | some u =>
    rw [e] at h
    cases u <;> first | (cases h; exact ⟨rfl, fun ps z => by cases z⟩) | cases h
theorem hT_none {H : Hp} {b : Addr} (h : H b = none) : hT H b = none := by
  unfold hT
  rw [h]
theorem extN_hT {H H1 : Hp} (e : ExtN H H1) : Same (hT H) H1 := fun b o h => e b o (hT_of h).1 (hT_of h).2
theorem Same.frees {H H' : Hp} (s : Same H H') {b : Addr} (h : H' b = none) : H b = none := by
  cases q : H b with
  | none => rfl
  | some o => rw [s b o q] at h; cases h
/-- what has become of the system behind a deed -/
structure Mid (C : Cs) (T : List (Addr × Str)) (H : Hp) (S : Sys) (ad : Cell → Addr) (H' : Hp) (S' : Sys) (ad' dx' : Cell → Addr) : Prop where
  at_ : At C H' S' ad' dx'
  tab : Tabs T H'
  keep : ∀ q o, ¬ own S ad q → hT H q = some o → H' q = some o
  new : ∀ b, own S' ad' b → own S ad b ∨ hT H b = none
  box : ad' .box = ad .box
theorem Mid.of {C : Cs} {T : List (Addr × Str)} {H H1 H' : Hp} {S S' : Sys} {ad ad' dx dx' : Cell → Addr} (e : ExtN H H1) (t : Tabs T H1) (A : At C H1 S ad dx) (A' : At C H' S' ad' dx') (st : Step H1 S ad H' S' ad') : Mid C T H S ad H' S' ad' dx' :=
  ⟨A', Tabs.step t A st, fun q o n h => st.keep q o n (extN_hT e _ _ h), fun b h => (st.new b h).imp id fun z => Same.frees (extN_hT e) z, st.box⟩
theorem Mid.same {C : Cs} {T : List (Addr × Str)} {H H' H2 : Hp} {S S' : Sys} {ad ad' dx' : Cell → Addr} (m : Mid C T H S ad H' S' ad' dx') (s : Same H' H2) : Mid C T H S ad H2 S' ad' dx' :=
  ⟨m.at_.same s, m.tab.ext s, fun q o n h => s _ _ (m.keep q o n h), m.new, m.box⟩
/-- what is told by an outcome and what is due -/
inductive Agree (H : Hp) : V → V → Prop
  | non : Agree H .non .non
  | int (k : Int) : 0 ≤ k → k ≤ 1000000000 → Agree H (.int k) (.int k)
  | fin (l1 l2 : Addr) (n : Int) : 0 ≤ n → n ≤ 1000 → H l1 = some (.lst [.str "finished", .int n, .bl true]) → H l2 = some (.lst [.str "finished", .int n, .bl true]) → Agree H (.ref l1) (.ref l2)
/-- the reading of an outcome whose deed may be refused -/
theorem out_call {T : List (Addr × Str)} {H : Hp} {σ : L2.St} {D : Addr} {t : XK → TE} {Q : VK} {sp : Sp} {vs : List V} (tb : Tabs T H) (hb : ∀ (E : XK) (H1 : Hp) (k : VK), sp vs H1 k E → t E σ H1 k)
    (h : ∀ (H1 : Hp) (E : XK), ExtN H H1 → Tabs T H1 → (∀ (dd : Addr) (n : Int) (H' : Hp), H' dd = some (.xd [(("number" : Str), .int n)]) → (∀ l, H' l = none → Q (.ref l) (upd H' l (.lst [.str "finished", .int n, .bl true]))) → E (.ref D) (some dd) H') → sp vs H1 Q E) : tLam T (TOut D) t σ H Q :=
  ⟨tb, fun H1 e1 t1 E hE => hb E H1 Q (h H1 E e1 t1 hE)⟩
section
variable {T : List (Addr × Str)} {H : Hp} {σ : L2.St} {D x : Addr} {t : XK → TE} {Q : VK} {C : Cs} {S : Sys} {ad dx : Cell → Addr} {pr n tt : Int}
theorem out_arrive {m : Int} (tb : Tabs T H) (hb : ∀ (E : XK) (H1 : Hp) (k : VK), spArrive C D [.ref x, .int pr, .int n, .int m] H1 k E → t E σ H1 k) (A : At C H S ad dx) (hx : ad .box = x) (M : Means S pr n tt) (ht : tt ∈ S.srcs) (hn : n ≤ 1000) (m0 : 1 ≤ m) (m1 : m ≤ 1000000) (hz : S.srcs.length ≤ 900)
    (k1 : (S.unit tt).2 = false → ∀ H' ad', Mid C T H S ad H' (arrived S tt m) ad' dx → Q .non H') (k2 : (S.unit tt).2 = true → ∀ H' l, Mid C T H S ad H' S ad dx → H' l = some (.lst [.str "finished", .int n, .bl true]) → hT H l = none → Q (.ref l) H') : tLam T (TOut D) t σ H Q := by
  refine out_call tb hb fun H1 E e1 t1 hE => ?_
  have A1 := A.extN e1
  refine ⟨pr, n, tt, m, S, ad, dx, by rw [hx], A1, M, ht, hn, m0, m1, hz, fun hf H' ad' A' st => k1 hf H' ad' (Mid.of e1 t1 A1 A' st), fun hf d H2 hd s2 h2 => hE d n H2 h2 fun l hl => ?_⟩
  have s3 : Same H2 (upd H2 l (.lst [.str "finished", .int n, .bl true])) := Same.new' hl
  exact k2 hf _ l (Mid.of e1 t1 A1 (A1.same (s2.trans s3)) (Step.same (s2.trans s3))) upd_same (Same.frees (extN_hT e1) (Same.frees s2 hl))
theorem out_finish (tb : Tabs T H) (hb : ∀ (E : XK) (H1 : Hp) (k : VK), spFinish C D [.ref x, .int pr, .int n] H1 k E → t E σ H1 k) (A : At C H S ad dx) (hx : ad .box = x) (M : Means S pr n tt) (ht : tt ∈ S.srcs) (hn : n ≤ 1000) (hz : S.srcs.length ≤ 900)
    (k1 : (S.unit tt).2 = false → ∀ H' ad', Mid C T H S ad H' (finished S tt) ad' dx → Q .non H') (k2 : (S.unit tt).2 = true → ∀ H' l, Mid C T H S ad H' S ad dx → H' l = some (.lst [.str "finished", .int n, .bl true]) → hT H l = none → Q (.ref l) H') : tLam T (TOut D) t σ H Q := by
  refine out_call tb hb fun H1 E e1 t1 hE => ?_
  have A1 := A.extN e1
  refine ⟨pr, n, tt, S, ad, dx, by rw [hx], A1, M, ht, hn, hz, fun hf H' ad' A' st => k1 hf H' ad' (Mid.of e1 t1 A1 A' st), fun hf d H2 hd s2 h2 => hE d n H2 h2 fun l hl => ?_⟩
  have s3 : Same H2 (upd H2 l (.lst [.str "finished", .int n, .bl true])) := Same.new' hl
  exact k2 hf _ l (Mid.of e1 t1 A1 (A1.same (s2.trans s3)) (Step.same (s2.trans s3))) upd_same (Same.frees (extN_hT e1) (Same.frees s2 hl))
theorem out_read {mo : Option Int} (tb : Tabs T H) (hb : ∀ (E : XK) (H1 : Hp) (k : VK), spRead C [.ref x, .int pr, .int n, optV mo] H1 k E → t E σ H1 k) (A : At C H S ad dx) (hx : ad .box = x) (M : Means S pr n tt) (ht : tt ∈ S.srcs) (hm : ∀ m, mo = some m → 1 ≤ m ∧ m ≤ 1000000) (hz : S.srcs.length ≤ 900)
    (k1 : ∀ H' ad', Mid C T H S ad H' (readS S tt mo) ad' dx → Q (.int (taken (S.unit tt).1 mo)) H') : tLam T (TOut D) t σ H Q := by
  refine out_call tb hb fun H1 E e1 t1 hE => ?_
  have A1 := A.extN e1
  exact ⟨pr, n, tt, mo, S, ad, dx, by rw [hx], A1, M, ht, hm, hz, fun H' ad' A' st => k1 H' ad' (Mid.of e1 t1 A1 A' st)⟩
end

open LamX
abbrev U2 (a : Int) (b : Bool) : HO := .lst [.int a, .bl b]
theorem withUnit_self (S : Sys) (t : Int) : withUnit S t (S.unit t).1 (S.unit t).2 = S := by
  unfold withUnit
  have e : (fun j => if j = t then ((S.unit t).1, (S.unit t).2) else S.unit j) = S.unit := funext fun j => by
    by_cases h : j = t
    · rw [if_pos h, h]
    · rw [if_neg h]
  rw [e]
/-- what _law_done starts from and draws in -/
structure Dn (C : Cs) (T : List (Addr × Str)) (Hb H : Hp) (p u : Addr) (S : Sys) (ad dx : Cell → Addr) (a : Int) (b : Bool) : Prop where
  at_ : At C H S ad dx
  tab : Tabs T H
  bag : BagAt H p
  lst : H u = some (U2 a b)
  keep : ∀ q o, q ≠ p → q ≠ u → hT Hb q = some o → H q = some o
  np : ¬ own S ad p
  nu : ¬ own S ad u
  up : u ≠ p
theorem BagAt.lst {H : Hp} {p : Addr} (b : BagAt H p) : ∃ xs, H p = some (.lst xs) := by
  obtain ⟨x, y, h, _⟩ := b
  exact ⟨_, h⟩
theorem Tabs.off {T : List (Addr × Str)} {H H' : Hp} {l : Addr} {us : List V} (t : Tabs T H) (hl : H l = some (.lst us)) (k : ∀ q o, q ≠ l → H q = some o → H' q = some o) : Tabs T H' :=
  Tabs.by t (fun b ps h => k b _ (fun z => by rw [z, hl] at h; cases h) h) (fun b q h => k b _ (fun z => by rw [z, hl] at h; unfold CodeO at h; cases h) h)
section
variable {C : Cs} {T : List (Addr × Str)} {Hb H H1 H' : Hp} {p u : Addr} {S : Sys} {ad ad1 dx : Cell → Addr} {tt a : Int} {b : Bool}
theorem Dn.same (d : Dn C T Hb H p u S ad dx a b) (s : Same H H') : Dn C T Hb H' p u S ad dx a b := by
  refine ⟨d.at_.same s, d.tab.ext s, ?_, s _ _ d.lst, fun q o n n2 h => s _ _ (d.keep q o n n2 h), d.np, d.nu, d.up⟩
  obtain ⟨x, y, h, r⟩ := d.bag
  exact ⟨x, y, s _ _ h, r⟩
theorem Dn.draw (d : Dn C T Hb H p u S ad dx a b) (e : ∀ b, b ≠ p → H' b = H b) (bg : BagAt H' p) : Dn C T Hb H' p u S ad dx a b := by
  obtain ⟨xs, hp⟩ := d.bag.lst
  exact ⟨⟨fun c hc => (e _ fun z => d.np ⟨c, hc, z⟩).trans (d.at_.at_ c hc), d.at_.inj⟩, Tabs.off d.tab hp fun q o n h => (e q n).trans h, bg, (e u d.up).trans d.lst, fun q o n n2 h => (e q n).trans (d.keep q o n n2 h), d.np, d.nu, d.up⟩
theorem Dn.put {a1 : Int} {b1 : Bool} (d : Dn C T Hb H p u S ad dx a b) (hu : H' u = some (U2 a1 b1)) (e : ∀ q, q ≠ u → H' q = H q) : Dn C T Hb H' p u S ad dx a1 b1 := by
  refine ⟨⟨fun c hc => (e _ fun z => d.nu ⟨c, hc, z⟩).trans (d.at_.at_ c hc), d.at_.inj⟩, Tabs.off d.tab d.lst fun q o n h => (e q n).trans h, ?_, hu, fun q o n n2 h => (e q n2).trans (d.keep q o n n2 h), d.np, d.nu, d.up⟩
  obtain ⟨x, y, h, r⟩ := d.bag
  exact ⟨x, y, (e p (Ne.symm d.up)).trans h, r⟩
/-- what _law_done leaves -/
structure Post (C : Cs) (T : List (Addr × Str)) (Hb H : Hp) (p u : Addr) (S : Sys) (ad dx : Cell → Addr) (tt : Int) (ad' : Cell → Addr) (a : Int) (b : Bool) : Prop where
  at_ : At C H (withUnit S tt a b) ad' dx
  tab : Tabs T H
  bag : BagAt H p
  lst : H u = some (U2 a b)
  keep : ∀ q o, ¬ own S ad q → q ≠ p → q ≠ u → hT Hb q = some o → H q = some o
  new : ∀ c, own (withUnit S tt a b) ad' c → own S ad c ∨ hT Hb c = none
  box : ad' .box = ad .box
theorem Dn.post {a1 : Int} {b1 : Bool} (d : Dn C T Hb H p u S ad dx a b) (m : Mid C T H S ad H1 (withUnit S tt a1 b1) ad1 dx) (k : ∀ q o, q ≠ u → H1 q = some o → H' q = some o) (hu : H' u = some (U2 a1 b1)) (hb : hT Hb u ≠ none) : Post C T Hb H' p u S ad dx tt ad1 a1 b1 := by
  have hu1 := m.keep u _ d.nu (hT_at d.lst fun ps z => by cases z)
  obtain ⟨x, y, hp, r⟩ := d.bag
  have hp0 := hT_at hp fun ps z => by cases z
  have hp1 := m.keep p _ d.np hp0
  have n1 : ¬ own (withUnit S tt a1 b1) ad1 u := fun h => by
    rcases m.new u h with z | z
    · exact d.nu z
    · rw [hT_at d.lst fun ps z => by cases z] at z
      cases z
  refine ⟨⟨fun c hc => k _ _ (fun z => n1 ⟨c, hc, z⟩) (m.at_.at_ c hc), m.at_.inj⟩, Tabs.off m.tab hu1 k, ⟨x, y, k p _ (Ne.symm d.up) hp1, r⟩, hu, fun q o n np nu h => ?_, fun c hc => ?_, m.box⟩
  · exact k q o nu (m.keep q o n (hT_at (d.keep q o np nu h) (hT_of h).2))
  · refine (m.new c hc).imp id fun z => ?_
    by_cases e : c = p
    · rw [e, hp0] at z
      cases z
    · by_cases e2 : c = u
      · rw [e2, hT_at d.lst fun ps z => by cases z] at z
        cases z
      · cases q : hT Hb c with
        | none => rfl
        | some o =>
          rw [hT_at (d.keep c o e e2 q) (hT_of q).2] at z
          cases z
/-- the answers of _law_done -/
def Ans (C : Cs) (T : List (Addr × Str)) (Hb : Hp) (p u : Addr) (S : Sys) (ad dx : Cell → Addr) (tt : Int) (Q : VK) : Prop :=
  ∀ H' ad' r v1 v2 a b, H' r = some (.lst [v1, v2]) → Agree H' v1 v2 → 0 ≤ a → a ≤ (S.unit tt).1 + 1000000 → Post C T Hb H' p u S ad dx tt ad' a b → Q (.ref r) H'
theorem Dn.ok {n m : Int} {fi : Bool} {Q : VK} (d : Dn C T Hb H p u S ad dx (S.unit tt).1 (S.unit tt).2) (hf : (S.unit tt).2 = false) (mm : Mid C T H S ad H1 (withUnit S tt ((S.unit tt).1 + m) fi) ad1 dx) (hb : hT Hb u ≠ none) (m0 : 0 ≤ m) (m1 : m ≤ 1000000) (u0 : 0 ≤ (S.unit tt).1)
    (k : Ans C T Hb p u S ad dx tt Q) (E : XK) : spArrived [.ref u, .int n, .int m, .bl fi] H1 (fun v2 H6 => [V.non, v2].length ≤ sizeLine ∧ ∀ r, H6 r = none → Q (.ref r) (upd H6 r (.lst [V.non, v2]))) E := by
  have hu1 := mm.keep u _ d.nu (hT_at d.lst fun ps z => by cases z)
  refine ⟨u, n, m, _, _, fi, rfl, hu1, (fun z => by rw [hf] at z; cases z), fun _ H6 h6 e6 => ⟨by show 2 ≤ sizeLine; decide, fun r hr => ?_⟩⟩
  have nr : u ≠ r := ne_of_none h6 hr
  refine k _ ad1 r _ _ _ fi upd_same .non (by omega) (by omega) (d.post mm (fun q o nq h => ?_) (by rw [upd_ne nr]; exact h6) hb)
  have h := (e6 q nq).trans h
  rw [upd_ne (ne_of_none h hr)]
  exact h
theorem Dn.no {n m : Int} {fi : Bool} {l : Addr} {Q : VK} (d : Dn C T Hb H p u S ad dx (S.unit tt).1 (S.unit tt).2) (hf : (S.unit tt).2 = true) (mm : Mid C T H S ad H1 S ad1 dx) (hb : hT Hb u ≠ none) (n0 : 0 ≤ n) (n1 : n ≤ 1000) (u0 : 0 ≤ (S.unit tt).1)
    (hl : H1 l = some (.lst [.str "finished", .int n, .bl true])) (k : Ans C T Hb p u S ad dx tt Q) (E : XK) : spArrived [.ref u, .int n, .int m, .bl fi] H1 (fun v2 H6 => [V.ref l, v2].length ≤ sizeLine ∧ ∀ r, H6 r = none → Q (.ref r) (upd H6 r (.lst [V.ref l, v2]))) E := by
  have hu1 := mm.keep u _ d.nu (hT_at d.lst fun ps z => by cases z)
  refine ⟨u, n, m, _, _, fi, rfl, hu1, fun _ l2 h2 => ⟨by show 2 ≤ sizeLine; decide, fun r hr => ?_⟩, fun z => by rw [hf] at z; cases z⟩
  have s2 : Same H1 (upd (upd H1 l2 (.lst [.str "finished", .int n, .bl true])) r (.lst [.ref l, .ref l2])) := (Same.new' h2).trans (Same.new' hr)
  have mm2 : Mid C T H S ad (upd (upd H1 l2 (.lst [.str "finished", .int n, .bl true])) r (.lst [.ref l, .ref l2])) (withUnit S tt (S.unit tt).1 (S.unit tt).2) ad1 dx := by
    rw [withUnit_self]
    exact mm.same s2
  refine k _ ad1 r _ _ _ _ upd_same (.fin l l2 n n0 n1 (s2 _ _ hl) ?_) u0 (by omega) (d.post mm2 (fun q o nq h => h) (s2 _ _ hu1) hb)
  rw [upd_ne (ne_of_none upd_same hr)]
  exact upd_same
theorem Dn.read {mo : Option Int} {Q : VK} (d : Dn C T Hb H p u S ad dx ((S.unit tt).1 - taken (S.unit tt).1 mo) (S.unit tt).2) (mm : Mid C T H S ad H1 (readS S tt mo) ad1 dx) (hb : hT Hb u ≠ none) (u0 : 0 ≤ (S.unit tt).1) (u1 : (S.unit tt).1 ≤ 1000000000) (hm : ∀ m, mo = some m → 1 ≤ m)
    (k : Ans C T Hb p u S ad dx tt Q) : [V.int (taken (S.unit tt).1 mo), V.int (taken (S.unit tt).1 mo)].length ≤ sizeLine ∧ ∀ r, H1 r = none → Q (.ref r) (upd H1 r (.lst [V.int (taken (S.unit tt).1 mo), V.int (taken (S.unit tt).1 mo)])) := by
  have tk : 0 ≤ taken (S.unit tt).1 mo ∧ taken (S.unit tt).1 mo ≤ (S.unit tt).1 := by
    cases mo with
    | none => exact ⟨u0, Int.le_refl _⟩
    | some m =>
      have := hm m rfl
      show 0 ≤ (if (S.unit tt).1 < m then (S.unit tt).1 else m) ∧ (if (S.unit tt).1 < m then (S.unit tt).1 else m) ≤ (S.unit tt).1
      split <;> omega
  refine ⟨by show 2 ≤ sizeLine; decide, fun r hr => ?_⟩
  have hu1 := mm.keep u _ d.nu (hT_at d.lst fun ps z => by cases z)
  have s1 := Same.new' (o := .lst [V.int (taken (S.unit tt).1 mo), V.int (taken (S.unit tt).1 mo)]) hr
  exact k _ ad1 r _ _ _ _ upd_same (.int _ tk.1 (by omega)) (by omega) (by omega) (d.post (mm.same s1) (fun q o nq h => h) (s1 _ _ hu1) hb)
end
section
variable {P : Program} {w : World} {K : PySem.W.Frag} {mg : Str → Option Value} {base : Heap} {C : Cs}
structure LawTx (mg : Str → Option Value) : Prop where
  range : mg "range" = none
  max : mg "max" = none
  min : mg "min" = none
  len : mg "len" = none
  sorted : mg "sorted" = none
  repr : mg "repr" = none
  tuple : mg "tuple" = none
def spDone (C : Cs) (T : List (Addr × Str)) : Sp := fun vs H Q _ => ∃ (p x u : Addr) (pr n tt : Int) (S : Sys) (ad dx : Cell → Addr), vs = [.ref p, .ref x, .int pr, .int n, .ref u] ∧ Dn C T H H p u S ad dx (S.unit tt).1 (S.unit tt).2 ∧ ad .box = x ∧ Means S pr n tt ∧ tt ∈ S.srcs ∧ n ≤ 1000 ∧ S.srcs.length ≤ 900 ∧ 0 ≤ (S.unit tt).1 ∧ (S.unit tt).1 ≤ 1000000000 ∧
  Ans C T H p u S ad dx tt Q
abbrev nDone : List Str := ["_law_bag_here", "_law_box", "_law_p", "_law_n", "_law_units", "_law_lot", "_law_way", "_law_took"]
theorem scDone : FnScope nDone ["_law_bag_here", "_law_box", "_law_p", "_law_n", "_law_units"] (defScope sDone) := ⟨rfl, rfl, rfl, by decide +kernel, rfl, by decide +kernel, by decide +kernel⟩
abbrev qDone : Str := "_law_done.<locals>.<lambda>"
theorem okDone {D c Pt f fI fO fT fF fA fRr fRn fRd : Addr} {fd fdI fdO fdT fdF fdA fdRr fdRn fdRd : FuncData} {dsA dsR : List Value} (F : Fun K "_law_done" "_law_done" sDone f fd) (hc : fd.code = .ref c) (X : LawTx mg) (T : ClsF K C.S sysF) (R : OutTxt K mg D fI fdI fO fdO) (TB : TabB base mg c Pt)
    (GT : DO P w K mg base 1 "_law_take" ["_law_bag_here", "_law_lot"] spTake fT fdT) (GF : DO P w K mg base 2 "_law_of" ["_law_bag_here", "_law_some"] (spOf K) fF fdF) (GA : DO P w K mg base 1 "_law_arrived" ["_law_units", "_law_n", "_law_lot", "_law_finishes"] spArrived fA fdA)
    (gR : FnOk P w K mg base (L2.CX P w) 6 fRr fdRr ["self", "process", "number", "many"] (spArrive C D)) (mR : Meth K C.S "arrive" fRr) (bR : Binds K fdRr ["self", "process", "number", "many"] dsA) (dR : Vals [.int 1] dsA) (kR : KBn K fdRr ["self", "process", "number", "many"] 1 ["process", "number", "many"] (fun us ws => us ++ ws) (fun vs zs => vs ++ zs))
    (gN : FnOk P w K mg base (L2.CX P w) 6 fRn fdRn ["self", "process", "number"] (spFinish C D)) (mN : Meth K C.S "finish" fRn) (bN : Binds K fdRn ["self", "process", "number"] [])
    (gD : FnOk P w K mg base CX0 6 fRd fdRd ["self", "process", "number", "many"] (spRead C)) (mD : Meth K C.S "read" fRd) (bD : Binds K fdRd ["self", "process", "number", "many"] dsR) (dD : Vals [.non] dsR) (bD2 : Binds K fdRd ["self", "process", "number", "many"] []) (kD : KBn K fdRd ["self", "process", "number", "many"] 2 ["number", "many"] (fun us ws => us ++ ws) (fun vs zs => vs ++ zs)) :
    FnOk P w K mg base CX0 9 f fd ["_law_bag_here", "_law_box", "_law_p", "_law_n", "_law_units"] (spDone C [(Pt, qDone)]) := by
  refine okC F hc scDone (fun vs H Q E h => ?_) (fun A outer s H vs Q E hr h => ?_)
  · obtain ⟨_, _, _, _, _, _, _, _, _, rfl, _⟩ := h
    rfl
  · obtain ⟨p, x, u, pr, n, tt, S, ad, dx, rfl, d0, hx, M, ht, hn, hz, u0, u1, k⟩ := h
    have r1 : Room 1 _ := hr.mono (by decide)
    have r2 : Room 2 _ := hr.mono (by decide)
    refine ⟨_, PSs.nox (pss_cons (ps_asg (pe_tup (pa_cons (pe_call GF.g r2 (by rfl) GF.m GF.k GF.b .nil pass0 (pa_cons (pv 0) (pa_cons (pe_lst (pa_cons pe_int (pa_cons pe_int (pa_cons pe_int (pa_cons pe_int (pa_cons pe_int pa_nil)))))) pa_nil))) (pa_cons (pe_call GT.g r1 (by rfl) GT.m GT.k GT.b .nil pass0 (pa_cons (pv 0) (pa_cons pe_int pa_nil))) pa_nil))) (pg_tup rfl (pgs_cons (pg_name (i := 5) scDone.nd rfl (Or.inr rfl)) (pgs_cons (pg_name (i := 6) scDone.nd rfl (Or.inl rfl)) pgs_nil))))
      (pss_cons (ps_if (pt_cmpR op_eq (pv 6) pe_int (nomark _)) (pss_one (ps_ret (pe_lst (pa_cons (pe_out (k := 6) (T := [(Pt, qDone)]) (t := fun E => tMeth C.S "arrive" (spArrive C D) [.int 1] E (tVar 1) (tCons (tVar 2) (tCons (tVar 3) tNil))) R (by rfl) TB rfl (List.mem_singleton.mpr (by rfl)) (fun p hp _ => by rw [List.mem_singleton.mp hp]; rfl) hr (lamS_by (sc := defScope sDone) (by decide +kernel)) rfl (fun _ _ _ _ _ => rfl) (fun A outer s H E f c' hr2 => by exact pe_meth (pv 1) T.cl mR gR hr2 bR dR (passX (takes_of rfl rfl rfl rfl)) (pa_cons (pv 2) (pa_cons (pv 3) pa_nil))))
          (pa_cons (pe_call GA.g r1 (by rfl) GA.m GA.k GA.b .nil pass0 (pa_cons (pv 4) (pa_cons (pv 3) (pa_cons pe_int (pa_cons pe_bl pa_nil))))) pa_nil))))) pss_nil)
      (pss_cons (ps_if (pt_cmpR op_lt (pv 6) pe_int (nomark _)) (pss_one (ps_ret (pe_lst (pa_cons (pe_out (k := 6) (T := [(Pt, qDone)]) (t := fun E => tMethK0 C.S "arrive" 3 (spArrive C D) (fun vs zs => vs ++ zs) E (tVar 1) (tCons (tVar 2) (tCons (tVar 3) (tCons (tVar 5) tNil)))) R (by rfl) TB rfl (List.mem_singleton.mpr (by rfl)) (fun p hp _ => by rw [List.mem_singleton.mp hp]; rfl) hr (lamS_by (sc := defScope sDone) (by decide +kernel)) rfl (fun _ _ _ _ _ => rfl) (fun A outer s H E f c' hr2 => by exact pe_methK0 (ks := ["process", "number", "many"]) (pv 1) T.cl mR gR hr2 kR (passX (takes_of rfl rfl rfl rfl)) (pk_cons (pv 2) (pk_cons (pv 3) (pk_cons (pv 5) pk_nil)))))
          (pa_cons (pe_call GA.g r1 (by rfl) GA.m GA.k GA.b .nil pass0 (pa_cons (pv 4) (pa_cons (pv 3) (pa_cons (pv 5) (pa_cons pe_bl pa_nil))))) pa_nil))))) pss_nil)
      (pss_cons (ps_if (pt_cmpR op_eq (pv 6) pe_int (nomark _)) (pss_one (ps_ret (pe_lst (pa_cons (pe_out (k := 6) (T := [(Pt, qDone)]) (t := fun E => tMeth C.S "finish" (spFinish C D) [] E (tVar 1) (tCons (tVar 2) (tCons (tVar 3) tNil))) R (by rfl) TB rfl (List.mem_singleton.mpr (by rfl)) (fun p hp _ => by rw [List.mem_singleton.mp hp]; rfl) hr (lamS_by (sc := defScope sDone) (by decide +kernel)) rfl (fun _ _ _ _ _ => rfl) (fun A outer s H E f c' hr2 => by exact pe_meth (pv 1) T.cl mN gN hr2 bN .nil (passX (takes_of rfl rfl rfl rfl)) (pa_cons (pv 2) (pa_cons (pv 3) pa_nil))))
          (pa_cons (pe_call GA.g r1 (by rfl) GA.m GA.k GA.b .nil pass0 (pa_cons (pv 4) (pa_cons (pv 3) (pa_cons pe_int (pa_cons pe_bl pa_nil))))) pa_nil))))) pss_nil)
      (pss_cut (ps_set (i := 7) scDone.nd rfl (Or.inl rfl) (pe_ifExp (pt_cmpR op_lt (pv 6) pe_int (nomark _)) (pe_ix ix_list (pv 4) pe_int (fun _ _ => rfl)) (pe_callB (cMin2 rfl) (by rfl) X.min (by decide +kernel) (pa_cons (pv 5) (pa_cons (pe_ix ix_list (pv 4) pe_int (fun _ _ => rfl)) pa_nil)))))
      (pss_cons (ps_asg (pe_op op_sub (pe_ix ix_list (pv 4) pe_int (fun _ _ => rfl)) (pv 7)) (pg_sub (pv 4) pe_int set_list))
      (pss_cons (ps_if (pt_cmpR op_eq (pv 6) pe_int (nomark _)) (pss_one (ps_ret (pe_lst (pa_cons (pe_out (k := 6) (T := [(Pt, qDone)]) (t := fun E => tMeth C.S "read" (spRead C) [.non] E (tVar 1) (tCons (tVar 2) (tCons (tVar 3) tNil))) R (by rfl) TB rfl (List.mem_singleton.mpr (by rfl)) (fun p hp _ => by rw [List.mem_singleton.mp hp]; rfl) hr (lamS_by (sc := defScope sDone) (by decide +kernel)) rfl (fun _ _ _ _ _ => rfl) (fun A outer s H E f c' hr2 => by exact pe_meth (pv 1) T.cl mD gD hr2 bD dD pass0 (pa_cons (pv 2) (pa_cons (pv 3) pa_nil))))
          (pa_cons (pv 7) pa_nil))))) pss_nil)
      (pss_cons (ps_if (pt_cmpR op_eq (pv 6) pe_int (nomark _)) (pss_one (ps_ret (pe_lst (pa_cons (pe_out (k := 6) (T := [(Pt, qDone)]) (t := fun E => tMethK C.S "read" 1 2 (spRead C) (fun vs zs => vs ++ zs) E (tVar 1) (tCons (tVar 2) tNil) (tCons (tVar 3) (tCons (tC .non) tNil))) R (by rfl) TB rfl (List.mem_singleton.mpr (by rfl)) (fun p hp _ => by rw [List.mem_singleton.mp hp]; rfl) hr (lamS_by (sc := defScope sDone) (by decide +kernel)) rfl (fun _ _ _ _ _ => rfl) (fun A outer s H E f c' hr2 => by exact pe_methK (n := 1) (ks := ["number", "many"]) (pv 1) T.cl mD gD hr2 kD pass0 (pa_cons (pv 2) pa_nil) (pk_cons (pv 3) (pk_cons pe_non pk_nil))))
          (pa_cons (pv 7) pa_nil))))) pss_nil)
      (pss_one (ps_ret (pe_lst (pa_cons (pe_out (k := 6) (T := [(Pt, qDone)]) (t := fun E => tMeth C.S "read" (spRead C) [] E (tVar 1) (tCons (tVar 2) (tCons (tVar 3) (tCons (tVar 5) tNil)))) R (by rfl) TB rfl (List.mem_singleton.mpr (by rfl)) (fun p hp _ => by rw [List.mem_singleton.mp hp]; rfl) hr (lamS_by (sc := defScope sDone) (by decide +kernel)) rfl (fun _ _ _ _ _ => rfl) (fun A outer s H E f c' hr2 => by exact pe_meth (pv 1) T.cl mD gD hr2 bD2 .nil pass0 (pa_cons (pv 2) (pa_cons (pv 3) (pa_cons (pv 5) pa_nil)))))
          (pa_cons (pv 7) pa_nil))))))))))))), ?_⟩
    walk_at "wn"
    refine ⟨by show 5 ≤ sizeLine; decide, fun l hl => ?_⟩
    walk_at "wn"
    have d1 := d0.same (Same.new' (o := .lst [.int 1, .int 2, .int 3, .int 10, .int 1000000]) hl)
    have nlp : l ≠ p := fun z => by
      obtain ⟨_, hp⟩ := d0.bag.lst
      rw [← z, hl] at hp
      cases hp
    refine ⟨p, l, _, rfl, d1.bag, SqL.of upd_same, nlp, by decide, by decide, fun j lotv H1 hj e1 b1 => ?_⟩
    have d2 := d1.draw e1 b1
    obtain ⟨lot, rfl, l0, l1⟩ : ∃ lot : Int, lotv = .int lot ∧ 1 ≤ lot ∧ lot ≤ 1000000 := by
      match j, hj with
      | 0, e => cases e; exact ⟨1, rfl, by decide, by decide⟩
      | 1, e => cases e; exact ⟨2, rfl, by decide, by decide⟩
      | 2, e => cases e; exact ⟨3, rfl, by decide, by decide⟩
      | 3, e => cases e; exact ⟨10, rfl, by decide, by decide⟩
      | 4, e => cases e; exact ⟨1000000, rfl, by decide, by decide⟩
      | j + 5, e => cases e
    walk_at "wn"
    refine ⟨p, 9, rfl, d2.bag, by decide, by decide, fun wy H2 w0 w1 e2 b2 => ?_⟩
    have d3 := d2.draw e2 b2
    walk_at "wn"
    refine ⟨by show 2 ≤ sizeLine; decide, fun tp htp => ?_⟩
    have d4 := d3.same (Same.new' (o := .tup [.int lot, .int wy]) htp)
    walk_at "wn"
    refine ⟨tp, _, rfl, SqT.of upd_same, rfl, _, _, rfl, ?_⟩
    walk_at "wn"
    refine ⟨_, _, rfl, ?_⟩
    walk_at "wn"
    refine ⟨rfl, ?_⟩
    walk_at "wn"
    generalize upd H2 tp (.tup [.int lot, .int wy]) = H3 at d4 ⊢
    have hbu : hT H u ≠ none := fun z => by
      rw [hT_at d0.lst fun ps z => by cases z] at z
      cases z
    have box : ∀ {rest rest2 : List V} {H1 : Hp} {kk}, OnSys C (.ref x :: rest) H1 rest2 kk → ∃ dx1 S1 t1 s1 v1, H1 x = some (sysO C.S dx1 S1 t1 s1 v1) := fun {rest} {rest2} {H1} {kk} ⟨S1, ad1, dx1, e, A1, _⟩ => by
      cases e
      exact ⟨_, _, _, _, _, A1.at_ .box trivial⟩
    refine ite2 (fun c0 => ?_) (fun c0 => ?_)
    · walk_at "wn"
      refine out_arrive (m := 1) d4.tab (fun E H1 k h => ?_) d4.at_ hx M ht hn (by decide) (by decide) hz (fun hf H5 ad5 m5 => ?_) (fun hf H5 l5 m5 h5 n5 => ?_)
      · obtain ⟨dx1, S1, t1, s1, v1, hb1⟩ := box h.choose_spec.choose_spec.choose_spec.choose_spec
        walk_at "wn"
        refine ⟨_, rfl, x, dx1, _, rfl, hb1, rfl, ?_⟩
        walk_at "wn"
        exact h
      · walk_at "wn"
        exact d4.ok hf m5 hbu (by decide) (by decide) u0 k _
      · walk_at "wn"
        exact d4.no hf m5 hbu M.lo hn u0 h5 k _
    walk_at "wn"
    refine ite2 (fun c1 => ?_) (fun c1 => ?_)
    · walk_at "wn"
      refine out_arrive (m := lot) d4.tab (fun E H1 k h => ?_) d4.at_ hx M ht hn l0 l1 hz (fun hf H5 ad5 m5 => ?_) (fun hf H5 l5 m5 h5 n5 => ?_)
      · obtain ⟨dx1, S1, t1, s1, v1, hb1⟩ := box h.choose_spec.choose_spec.choose_spec.choose_spec
        refine ⟨_, rfl, x, dx1, _, rfl, hb1, rfl, ?_⟩
        walk_at "wn"
        exact ⟨rfl, h⟩
      · walk_at "wn"
        exact d4.ok hf m5 hbu (by omega) l1 u0 k _
      · walk_at "wn"
        exact d4.no hf m5 hbu M.lo hn u0 h5 k _
    walk_at "wn"
    refine ite2 (fun c2 => ?_) (fun c2 => ?_)
    · walk_at "wn"
      refine out_finish d4.tab (fun E H1 k h => ?_) d4.at_ hx M ht hn hz (fun hf H5 ad5 m5 => ?_) (fun hf H5 l5 m5 h5 n5 => ?_)
      · obtain ⟨dx1, S1, t1, s1, v1, hb1⟩ := box h.choose_spec.choose_spec.choose_spec
        refine ⟨_, rfl, x, dx1, _, rfl, hb1, rfl, ?_⟩
        walk_at "wn"
        exact h
      · walk_at "wn"
        refine d4.ok (ad1 := ad5) (m := 0) (fi := true) hf ?_ hbu (by decide) (by decide) u0 k _
        rw [Int.add_zero]
        exact m5
      · walk_at "wn"
        exact d4.no hf m5 hbu M.lo hn u0 h5 k _
    walk_at "wn"
    have c0' : wy ≠ 0 := fun z => c0 (decide_eq_true (by rw [z]))
    have c1' : ¬ wy < 4 := fun z => c1 (decide_eq_true z)
    have c2' : wy ≠ 4 := fun z => c2 (decide_eq_true (by rw [z]))
    refine ⟨fun σ' H' => ∃ mo : Option Int, (wy < 7 → mo = none) ∧ (¬ wy < 7 → mo = some lot) ∧ σ' = [some (.ref p), some (.ref x), some (.int pr), some (.int n), some (.ref u), some (.int lot), some (.int wy), some (.int (taken (S.unit tt).1 mo))] ∧ H' = H3, ?_, ?_⟩
    · walk_at "wn"
      refine ite2 (fun c3 => ?_) (fun c3 => ?_)
      · walk_at "wn"
        refine ⟨u, _, _, _, rfl, rfl, SqL.of d4.lst, rfl, ?_⟩
        walk_at "wn"
        exact ⟨none, fun _ => rfl, fun z => absurd (of_decide_eq_true c3) z, rfl, rfl⟩
      · walk_at "wn"
        refine ⟨u, _, _, _, rfl, rfl, SqL.of d4.lst, rfl, ?_⟩
        walk_at "wn"
        exact ⟨some lot, fun z => absurd (decide_eq_true z) c3, fun _ => rfl, rfl, rfl⟩
    rintro σ' H' ⟨mo, q1, q2, rfl, rfl⟩
    walk_at "wn"
    refine ⟨u, _, _, _, rfl, rfl, SqL.of d4.lst, rfl, ?_⟩
    walk_at "wn"
    refine ⟨u, _, 0, 0, rfl, rfl, d4.lst, rfl, ?_⟩
    have d5 : Dn C [(Pt, qDone)] H (upd H' u (U2 ((S.unit tt).1 - taken (S.unit tt).1 mo) (S.unit tt).2)) p u S ad dx ((S.unit tt).1 - taken (S.unit tt).1 mo) (S.unit tt).2 := d4.put upd_same fun q nq => upd_ne nq
    have hm : ∀ m, mo = some m → 1 ≤ m ∧ m ≤ 1000000 := fun m e => by
      by_cases h : wy < 7
      · rw [q1 h] at e
        cases e
      · rw [q2 h] at e
        cases e
        exact ⟨l0, l1⟩
    show tSeq _ _ _ _ (upd H' u (U2 ((S.unit tt).1 - taken (S.unit tt).1 mo) (S.unit tt).2))
    generalize upd H' u (U2 ((S.unit tt).1 - taken (S.unit tt).1 mo) (S.unit tt).2) = H5 at d5 ⊢
    walk_at "wn"
    refine ite2 (fun c3 => ?_) (fun c3 => ?_)
    · walk_at "wn"
      have w5 : wy = 5 := by
        have := of_decide_eq_true c3
        exact V.int.inj this
      have em : mo = none := q1 (by omega)
      refine out_read (mo := mo) d5.tab (fun E H1 k h => ?_) d5.at_ hx M ht hm hz (fun H6 ad6 m6 => ?_)
      · obtain ⟨dx1, S1, t1, s1, v1, hb1⟩ := box h.choose_spec.choose_spec.choose_spec.choose_spec
        refine ⟨_, rfl, x, dx1, _, rfl, hb1, rfl, ?_⟩
        walk_at "wn"
        rw [em] at h
        exact h
      · walk_at "wn"
        exact d5.read m6 hbu u0 u1 (fun m e => (hm m e).1) k
    walk_at "wn"
    refine ite2 (fun c4 => ?_) (fun c4 => ?_)
    · walk_at "wn"
      have w6 : wy = 6 := by
        have := of_decide_eq_true c4
        exact V.int.inj this
      have em : mo = none := q1 (by omega)
      refine out_read (mo := mo) d5.tab (fun E H1 k h => ?_) d5.at_ hx M ht hm hz (fun H6 ad6 m6 => ?_)
      · obtain ⟨dx1, S1, t1, s1, v1, hb1⟩ := box h.choose_spec.choose_spec.choose_spec.choose_spec
        refine ⟨_, rfl, x, dx1, _, rfl, hb1, rfl, ?_⟩
        walk_at "wn"
        rw [em] at h
        exact ⟨rfl, rfl, h⟩
      · walk_at "wn"
        exact d5.read m6 hbu u0 u1 (fun m e => (hm m e).1) k
    walk_at "wn"
    have c3' : wy ≠ 5 := fun z => c3 (decide_eq_true (by rw [z]))
    have c4' : wy ≠ 6 := fun z => c4 (decide_eq_true (by rw [z]))
    have em : mo = some lot := q2 (by omega)
    refine out_read (mo := mo) d5.tab (fun E H1 k h => ?_) d5.at_ hx M ht hm hz (fun H6 ad6 m6 => ?_)
    · obtain ⟨dx1, S1, t1, s1, v1, hb1⟩ := box h.choose_spec.choose_spec.choose_spec.choose_spec
      refine ⟨_, rfl, x, dx1, _, rfl, hb1, rfl, ?_⟩
      walk_at "wn"
      rw [em] at h
      exact h
    · walk_at "wn"
      exact d5.read m6 hbu u0 u1 (fun m e => (hm m e).1) k
end

open LamX
/-! the system's numbers while the law goes on: cnt of them mean sources, the same ones in the process 1 behind the fork -/
structure Num (S : Sys) (cnt : Nat) (src : Nat → Int) (fk : Bool) (B : Int) : Prop where
  p0 : (0 : Int) ∈ S.procs
  one : fk = false → S.procs = [0]
  two : fk = true → (1 : Int) ∈ S.procs ∧ S.tab 1 = S.tab 0
  P4 : S.P = 4
  N8 : S.N = 8
  len : (S.tab 0).length = 8
  at_ : ∀ i, i < cnt → (S.tab 0)[i]? = some (some (src i))
  fr : ∀ i, cnt ≤ i → i < 8 → (S.tab 0)[i]? = some none
  src : ∀ i, i < cnt → src i ∈ S.srcs
  nx : ∀ t ∈ S.srcs, t < S.next
  le : S.srcs.length ≤ cnt
  u : ∀ t ∈ S.srcs, 0 ≤ (S.unit t).1 ∧ (S.unit t).1 ≤ B
  c8 : cnt ≤ 8
theorem Num.means {S : Sys} {cnt : Nat} {src : Nat → Int} {fk : Bool} {B : Int} (n : Num S cnt src fk B) {i : Nat} (hi : i < cnt) : Means S 0 (i : Int) (src i) := by
  have := n.c8
  have := n.N8
  exact ⟨n.p0, by omega, by omega, by rw [Int.toNat_natCast]; exact n.at_ i hi⟩
theorem Num.means1 {S : Sys} {cnt : Nat} {src : Nat → Int} {B : Int} (n : Num S cnt src true B) {i : Nat} (hi : i < cnt) : Means S 1 (i : Int) (src i) := by
  have := n.c8
  have := n.N8
  exact ⟨(n.two rfl).1, by omega, by omega, by rw [Int.toNat_natCast, (n.two rfl).2]; exact n.at_ i hi⟩
theorem Num.free {S : Sys} {cnt : Nat} {src : Nat → Int} {fk : Bool} {B : Int} (n : Num S cnt src fk B) (h : cnt < 8) : firstFree (S.tab 0) cnt := ⟨n.fr cnt (Nat.le_refl _) h, fun i hi => ⟨_, n.at_ i hi⟩⟩
def srcUp (src : Nat → Int) (cnt : Nat) (t : Int) : Nat → Int := fun i => if i = cnt then t else src i
theorem set_at {α : Type} {l : List α} {n i : Nat} {a : α} : (l.set n a)[i]? = if n = i ∧ i < l.length then some a else l[i]? := by
  rw [List.getElem?_set]
  by_cases h : n = i
  · subst h
    by_cases h2 : n < l.length
    · rw [if_pos rfl, if_pos h2, if_pos ⟨rfl, h2⟩]
    · rw [if_pos rfl, if_neg h2, if_neg (fun z => h2 z.2), List.getElem?_eq_none (by omega)]
  · rw [if_neg h, if_neg (fun z => h z.1)]
theorem Num.more {S S' : Sys} {cnt : Nat} {src : Nat → Int} {B : Int} {t : Int} (n : Num S cnt src false B) (h : cnt < 8) (e1 : S'.procs = S.procs) (e2 : S'.P = S.P) (e3 : S'.N = S.N) (e4 : S'.tab 0 = (S.tab 0).set cnt (some t)) (hs : ∀ t' ∈ S.srcs, t' ∈ S'.srcs) (ht : t ∈ S'.srcs) (nx : ∀ t' ∈ S'.srcs, t' < S'.next) (le : S'.srcs.length ≤ cnt + 1)
    (u : ∀ t' ∈ S'.srcs, 0 ≤ (S'.unit t').1 ∧ (S'.unit t').1 ≤ B) : Num S' (cnt + 1) (srcUp src cnt t) false B where
  p0 := by rw [e1]; exact n.p0
  one := fun z => by rw [e1]; exact n.one z
  two := fun z => by cases z
  P4 := e2.trans n.P4
  N8 := e3.trans n.N8
  len := by rw [e4, List.length_set]; exact n.len
  at_ := fun i hi => by
    have := n.len
    rw [e4, set_at]
    unfold srcUp
    by_cases z : i = cnt
    · rw [if_pos ⟨z.symm, by omega⟩, if_pos z]
    · rw [if_neg (fun y => z y.1.symm), if_neg z]
      exact n.at_ i (by omega)
  fr := fun i h1 h2 => by
    rw [e4, set_at, if_neg (fun y => by omega)]
    exact n.fr i (by omega) h2
  src := fun i hi => by
    unfold srcUp
    by_cases z : i = cnt
    · rw [if_pos z]
      exact ht
    · rw [if_neg z]
      exact hs _ (n.src i (by omega))
  nx := nx
  le := le
  u := u
  c8 := h
theorem Num.fork {S : Sys} {cnt : Nat} {src : Nat → Int} {B : Int} (n : Num S cnt src false B) : Num (forked S 0 1) cnt src true B where
  p0 := List.mem_append_left _ n.p0
  one := fun z => by cases z
  two := fun _ => ⟨List.mem_append_right _ (List.mem_singleton.mpr rfl), by
    show (if (1 : Int) = ((1 : Nat) : Int) then S.tab 0 else S.tab 1) = if (0 : Int) = ((1 : Nat) : Int) then S.tab 0 else S.tab 0
    rw [if_pos (by decide), if_neg (by decide)]⟩
  P4 := n.P4
  N8 := n.N8
  len := n.len
  at_ := n.at_
  fr := n.fr
  src := n.src
  nx := n.nx
  le := n.le
  u := n.u
  c8 := n.c8
theorem Num.unit {S : Sys} {cnt : Nat} {src : Nat → Int} {fk : Bool} {B : Int} {t a : Int} {b : Bool} (n : Num S cnt src fk B) (a0 : 0 ≤ a) (a1 : a ≤ B + 1000000) : Num (withUnit S t a b) cnt src fk (B + 1000000) where
  p0 := n.p0
  one := n.one
  two := n.two
  P4 := n.P4
  N8 := n.N8
  len := n.len
  at_ := n.at_
  fr := n.fr
  src := n.src
  nx := n.nx
  le := n.le
  u := fun t' h => by
    show 0 ≤ (if t' = t then (a, b) else S.unit t').1 ∧ (if t' = t then (a, b) else S.unit t').1 ≤ B + 1000000
    have := n.u t' h
    by_cases z : t' = t
    · rw [if_pos z]
      exact ⟨a0, a1⟩
    · rw [if_neg z]
      exact ⟨this.1, by omega⟩
  c8 := n.c8
theorem Num.new : Num (newSys 4 8) 0 (fun _ => 0) false 0 where
  p0 := List.mem_singleton.mpr rfl
  one := fun _ => rfl
  two := fun z => by cases z
  P4 := rfl
  N8 := rfl
  len := rfl
  at_ := fun i h => absurd h (Nat.not_lt_zero _)
  fr := fun i _ h => by
    show (List.replicate 8 (none : Option Int))[i]? = some none
    rw [List.getElem?_replicate, if_pos h]
  src := fun i h => absurd h (Nat.not_lt_zero _)
  nx := fun t h => nomatch h
  le := Nat.le_refl _
  u := fun t h => nomatch h
  c8 := Nat.zero_le _
/-! the law's heap -/
abbrev nums (cnt : Nat) : List Int := (List.range cnt).map fun i : Nat => (i : Int)
abbrev lstF (src : Nat → Int) (L : Int → Addr) : Int → Addr := fun k => L (src k.toNat)
structure LW (C : Cs) (T : List (Addr × Str)) (Hb H : Hp) (p x D : Addr) (S : Sys) (ad dx : Cell → Addr) (cnt : Nat) (src : Nat → Int) (L : Int → Addr) : Prop where
  at_ : At C H S ad dx
  box : ad .box = x
  tab : Tabs T H
  bag : BagAt H p
  dict : H D = some (.dK (entKV (nums cnt) (lstF src L)))
  ls : ∀ t ∈ S.srcs, H (L t) = some (U2 (S.unit t).1 (S.unit t).2)
  inj : ∀ t ∈ S.srcs, ∀ t' ∈ S.srcs, L t = L t' → t = t'
  old : ∀ q o, hT Hb q = some o → H q = some o
  nb : ∀ b, own S ad b → hT Hb b = none
  pb : hT Hb p = none
  Db : hT Hb D = none
  Lb : ∀ t ∈ S.srcs, hT Hb (L t) = none
  np : ¬ own S ad p
  nD : ¬ own S ad D
  nL : ∀ t ∈ S.srcs, ¬ own S ad (L t)
section
variable {C : Cs} {T : List (Addr × Str)} {Hb H H1 H' : Hp} {p x D : Addr} {S S' : Sys} {ad ad' dx : Cell → Addr} {cnt : Nat} {src : Nat → Int} {L : Int → Addr}
theorem LW.pL (W : LW C T Hb H p x D S ad dx cnt src L) {t : Int} (ht : t ∈ S.srcs) : L t ≠ p := fun z => by
  obtain ⟨a, b, h, _⟩ := W.bag
  rw [← z, W.ls t ht] at h
  cases h
theorem LW.DL (W : LW C T Hb H p x D S ad dx cnt src L) {t : Int} (ht : t ∈ S.srcs) : L t ≠ D := fun z => by
  have h := W.dict
  rw [← z, W.ls t ht] at h
  cases h
theorem LW.pD (W : LW C T Hb H p x D S ad dx cnt src L) : p ≠ D := fun z => by
  obtain ⟨a, b, h, _⟩ := W.bag
  rw [z, W.dict] at h
  cases h
theorem LW.same (W : LW C T Hb H p x D S ad dx cnt src L) (s : Same H H') : LW C T Hb H' p x D S ad dx cnt src L := by
  obtain ⟨a, b, h, r⟩ := W.bag
  exact ⟨W.at_.same s, W.box, W.tab.ext s, ⟨a, b, s _ _ h, r⟩, s _ _ W.dict, fun t ht => s _ _ (W.ls t ht), W.inj, fun q o h => s _ _ (W.old q o h), W.nb, W.pb, W.Db, W.Lb, W.np, W.nD, W.nL⟩
theorem LW.draw (W : LW C T Hb H p x D S ad dx cnt src L) (e : ∀ b, b ≠ p → H' b = H b) (bg : BagAt H' p) : LW C T Hb H' p x D S ad dx cnt src L := by
  obtain ⟨xs, hp⟩ := W.bag.lst
  exact ⟨⟨fun c hc => (e _ fun z => W.np ⟨c, hc, z⟩).trans (W.at_.at_ c hc), W.at_.inj⟩, W.box, Tabs.off W.tab hp fun q o n h => (e q n).trans h, bg, (e D (Ne.symm W.pD)).trans W.dict, fun t ht => (e _ (W.pL ht)).trans (W.ls t ht), W.inj,
    fun q o h => (e q fun z => by rw [z, W.pb] at h; cases h).trans (W.old q o h), W.nb, W.pb, W.Db, W.Lb, W.np, W.nD, W.nL⟩
/-- a call that leaves the units -/
theorem LW.call (W : LW C T Hb H p x D S ad dx cnt src L) (A : At C H' S' ad' dx) (st : Step H S ad H' S' ad') (es : S'.srcs = S.srcs) (eu : S'.unit = S.unit) : LW C T Hb H' p x D S' ad' dx cnt src L := by
  obtain ⟨a, b, hp, r⟩ := W.bag
  have not : ∀ {q : Addr} {o : HO}, H q = some o → ¬ own S ad q → ¬ own S' ad' q := fun {q} {o} h n z => by
    rcases st.new q z with y | y
    · exact n y
    · rw [h] at y; cases y
  refine ⟨A, st.box.trans W.box, Tabs.step W.tab W.at_ st, ⟨a, b, st.keep _ _ W.np hp, r⟩, st.keep _ _ W.nD W.dict, fun t ht => ?_, fun t ht t' ht' => W.inj t (es ▸ ht) t' (es ▸ ht'), fun q o h => ?_, fun b hb => ?_, W.pb, W.Db, fun t ht => W.Lb t (es ▸ ht), not hp W.np, not W.dict W.nD, fun t ht => not (W.ls t (es ▸ ht)) (W.nL t (es ▸ ht))⟩
  · rw [es] at ht
    rw [eu]
    exact st.keep _ _ (W.nL t ht) (W.ls t ht)
  · exact st.keep _ _ (fun z => by rw [W.nb q z] at h; cases h) (W.old q o h)
  · rcases st.new b hb with z | z
    · exact W.nb b z
    · cases q : hT Hb b with
      | none => rfl
      | some o => rw [W.old b o q] at z; cases z
theorem nums_put (cnt : Nat) (f : Int → Addr) (b : Addr) : putK (entKV (nums cnt) f) (Sum.inl (cnt : Int)) (.ref b) = entKV (nums (cnt + 1)) (fun k => if k = (cnt : Int) then b else f k) := by
  rw [ent_put, if_neg (fun z => by obtain ⟨i, hi, e⟩ := List.mem_map.mp z; have := List.mem_range.mp hi; omega)]
  unfold nums
  rw [List.range_succ, List.map_append]
  rfl
theorem ent_congr {ls : List Int} {f g : Int → Addr} (h : ∀ k ∈ ls, f k = g k) : entKV ls f = entKV ls g := by
  unfold entKV
  exact List.map_congr_left fun k hk => by rw [h k hk]
theorem mem_nums {cnt : Nat} {k : Int} (h : k ∈ nums cnt) : ∃ i : Nat, i < cnt ∧ k = (i : Int) := by
  obtain ⟨i, hi, e⟩ := List.mem_map.mp h
  exact ⟨i, List.mem_range.mp hi, e.symm⟩
/-- things[cnt] = the list of the source t -/
theorem LW.put (W : LW C T Hb H p x D S ad dx cnt src L) {t : Int} (h : H' D = some (.dK (entKV (nums (cnt + 1)) (lstF (srcUp src cnt t) L)))) (k : ∀ q, q ≠ D → H' q = H q) : LW C T Hb H' p x D S ad dx (cnt + 1) (srcUp src cnt t) L := by
  obtain ⟨a, b, hp, r⟩ := W.bag
  refine ⟨⟨fun c hc => (k _ fun z => W.nD ⟨c, hc, z⟩).trans (W.at_.at_ c hc), W.at_.inj⟩, W.box, Tabs.by W.tab (fun b ps e => (k b fun z => by rw [z, W.dict] at e; cases e).trans e) (fun b q e => (k b fun z => by rw [z, W.dict] at e; unfold CodeO at e; cases e).trans e), ⟨a, b, (k p W.pD).trans hp, r⟩, h,
    fun t ht => (k _ (W.DL ht)).trans (W.ls t ht), W.inj, fun q o e => (k q fun z => by rw [z, W.Db] at e; cases e).trans (W.old q o e), W.nb, W.pb, W.Db, W.Lb, W.np, W.nD, W.nL⟩
theorem lst_up {src : Nat → Int} {cnt : Nat} {t : Int} {L : Int → Addr} : ∀ k ∈ nums (cnt + 1), (if k = (cnt : Int) then L t else lstF src L k) = lstF (srcUp src cnt t) L k := fun k hk => by
  obtain ⟨i, hi, rfl⟩ := mem_nums hk
  unfold lstF srcUp
  rw [Int.toNat_natCast]
  by_cases z : i = cnt
  · rw [if_pos (by rw [z]), if_pos z]
  · rw [if_neg (fun y => z (by omega)), if_neg z]
/-- things[box.new_source(0)] = [0, False] -/
theorem LW.mkSrc {H2 : Hp} {T1 : Addr} {B : Int} (W : LW C T Hb H p x D S ad dx cnt src L) (N : Num S cnt src false B) (h1 : H T1 = none) (A : At C H2 (newSource S 0 cnt) ad' dx) (st : Step (upd H T1 (U2 0 false)) S ad H2 (newSource S 0 cnt) ad') :
    H2 D = some (.dK (entKV (nums cnt) (lstF src L))) ∧ LW C T Hb (upd H2 D (.dK (putK (entKV (nums cnt) (lstF src L)) (Sum.inl (cnt : Int)) (.ref T1)))) p x D (newSource S 0 cnt) ad' dx (cnt + 1) (srcUp src cnt S.next) (fun t => if t = S.next then T1 else L t) := by
  have s1 : Same H (upd H T1 (U2 0 false)) := Same.new' h1
  have W1 := W.same s1
  have nx : S.next ∉ S.srcs := fun z => absurd (N.nx _ z) (Int.lt_irrefl _)
  have no : ¬ own S ad T1 := W.at_.not_own h1
  have hb1 : hT Hb T1 = none := by
    cases q : hT Hb T1 with
    | none => rfl
    | some o => rw [W.old T1 o q] at h1; cases h1
  have not : ∀ {q : Addr} {o : HO}, upd H T1 (U2 0 false) q = some o → ¬ own S ad q → ¬ own (newSource S 0 cnt) ad' q := fun {q} {o} h n z => by
    rcases st.new q z with y | y
    · exact n y
    · rw [h] at y; cases y
  have e1 : upd H T1 (U2 0 false) T1 = some (U2 0 false) := upd_same
  obtain ⟨ba, bb, hp, br⟩ := W1.bag
  have keepD := st.keep _ _ W.nD W1.dict
  have nT1D : T1 ≠ D := fun z => by rw [z, W.dict] at h1; cases h1
  have nLT : ∀ t ∈ S.srcs, L t ≠ T1 := fun t ht z => by rw [← z, W.ls t ht] at h1; cases h1
  have mem : ∀ t, t ∈ (newSource S 0 cnt).srcs → t ∈ S.srcs ∨ t = S.next := fun t h => by
    rcases List.mem_append.mp (show t ∈ S.srcs ++ [S.next] from h) with y | y
    · exact .inl y
    · exact .inr (List.mem_singleton.mp y)
  have ne : ∀ t ∈ S.srcs, t ≠ S.next := fun t h z => nx (z ▸ h)
  refine ⟨keepD, ?_⟩
  have offD : ∀ q, q ≠ D → upd H2 D (.dK (putK (entKV (nums cnt) (lstF src L)) (Sum.inl (cnt : Int)) (.ref T1))) q = H2 q := fun q n => upd_ne n
  have nD' := not W1.dict W.nD
  refine ⟨⟨fun c hc => (offD _ fun z => nD' ⟨c, hc, z⟩).trans (A.at_ c hc), A.inj⟩, st.box.trans W.box, ?_, ⟨ba, bb, (offD p W.pD).trans (st.keep _ _ W.np hp), br⟩, ?_, fun t ht => ?_, fun t ht t' ht' e => ?_, fun q o h => ?_, fun b hb => ?_, W.pb, W.Db, fun t ht => ?_, not hp W.np, nD', fun t ht => ?_⟩
  · have tb := Tabs.step W1.tab W1.at_ st
    exact Tabs.by tb (fun b ps e => (offD b fun z => by rw [z, keepD] at e; cases e).trans e) (fun b q e => (offD b fun z => by rw [z, keepD] at e; unfold CodeO at e; cases e).trans e)
  · rw [upd_same, nums_put]
    refine congrArg (fun z => some (HO.dK z)) (ent_congr fun k hk => ?_)
    obtain ⟨i, hi, rfl⟩ := mem_nums hk
    unfold lstF srcUp
    rw [Int.toNat_natCast]
    by_cases z : i = cnt
    · rw [if_pos (by rw [z]), if_pos z]
      exact (if_pos rfl).symm
    · rw [if_neg (fun y => z (by omega)), if_neg z]
      exact (if_neg (ne _ (N.src i (by omega)))).symm
  · rcases mem t ht with y | rfl
    · rw [if_neg (ne t y)]
      refine (offD _ (W.DL y)).trans ?_
      show H2 (L t) = some (U2 (if t = S.next then ((0 : Int), false) else S.unit t).1 (if t = S.next then ((0 : Int), false) else S.unit t).2)
      rw [if_neg (ne t y)]
      exact st.keep _ _ (W.nL t y) (W1.ls t y)
    · rw [if_pos rfl]
      refine (offD _ nT1D).trans ?_
      show H2 T1 = some (U2 (if S.next = S.next then ((0 : Int), false) else S.unit S.next).1 (if S.next = S.next then ((0 : Int), false) else S.unit S.next).2)
      rw [if_pos rfl]
      exact st.keep _ _ no e1
  · rcases mem t ht with y | rfl <;> rcases mem t' ht' with y' | rfl
    · rw [if_neg (ne t y), if_neg (ne t' y')] at e
      exact W.inj t y t' y' e
    · rw [if_neg (ne t y), if_pos rfl] at e
      exact absurd e (nLT t y)
    · rw [if_pos rfl, if_neg (ne t' y')] at e
      exact absurd e.symm (nLT t' y')
    · rfl
  · refine (offD q fun z => by rw [z, W.Db] at h; cases h).trans (st.keep _ _ (fun z => by rw [W.nb q z] at h; cases h) (W1.old q o h))
  · rcases st.new b hb with z | z
    · exact W.nb b z
    · cases q : hT Hb b with
      | none => rfl
      | some o => rw [W1.old b o q] at z; cases z
  · rcases mem t ht with y | rfl
    · rw [if_neg (ne t y)]
      exact W.Lb t y
    · rw [if_pos rfl]
      exact hb1
  · rcases mem t ht with y | rfl
    · rw [if_neg (ne t y)]
      exact not (W1.ls t y) (W.nL t y)
    · rw [if_pos rfl]
      exact not e1 no
theorem Num.mkSrc {B : Int} (N : Num S cnt src false B) (h : cnt < 8) (B0 : 0 ≤ B) : Num (newSource S 0 cnt) (cnt + 1) (srcUp src cnt S.next) false B := by
  have mem : ∀ t, t ∈ (newSource S 0 cnt).srcs → t ∈ S.srcs ∨ t = S.next := fun t h => by
    rcases List.mem_append.mp (show t ∈ S.srcs ++ [S.next] from h) with y | y
    · exact .inl y
    · exact .inr (List.mem_singleton.mp y)
  refine N.more h rfl rfl rfl ?_ (fun t ht => List.mem_append_left _ ht) (List.mem_append_right _ (List.mem_singleton.mpr rfl)) (fun t ht => ?_) ?_ (fun t ht => ?_)
  · show (if (0 : Int) = 0 then (S.tab 0).set cnt (some S.next) else S.tab 0) = _
    rw [if_pos rfl]
  · show t < S.next + 1
    rcases mem t ht with y | y
    · have := N.nx t y
      omega
    · omega
  · show (S.srcs ++ [S.next]).length ≤ _
    rw [List.length_append]
    have := N.le
    show _ + 1 ≤ _
    omega
  · show 0 ≤ (if t = S.next then ((0 : Int), false) else S.unit t).1 ∧ (if t = S.next then ((0 : Int), false) else S.unit t).1 ≤ B
    by_cases z : t = S.next
    · rw [if_pos z]
      exact ⟨Int.le_refl _, B0⟩
    · rw [if_neg z]
      rcases mem t ht with y | y
      · exact N.u t y
      · exact absurd y z
theorem Num.mkCopy {B : Int} {i : Nat} (N : Num S cnt src false B) (h : cnt < 8) (hi : i < cnt) : Num (copied S 0 cnt (src i)) (cnt + 1) (srcUp src cnt (src i)) false B := by
  refine N.more h rfl rfl rfl ?_ (fun t ht => ht) (N.src i hi) N.nx (Nat.le_succ_of_le N.le) N.u
  show (if (0 : Int) = 0 then (S.tab 0).set cnt (some (src i)) else S.tab 0) = _
  rw [if_pos rfl]
theorem LW.sq {K : PySem.W.Frag} {a : Addr} {xs : List V} (W : LW C T Hb H p x D S ad dx cnt src L) (h : SqL K Hb a xs) : SqL K H a xs := by
  rcases h with (h | ⟨o, h⟩) | h
  · exact .inl (.inl (W.old _ _ (hT_at h fun ps z => by cases z)))
  · exact .inl (.inr ⟨o, W.old _ _ (hT_at h fun ps z => by cases z)⟩)
  · exact .inr h
theorem LW.done {t aa : Int} {bb : Bool} (W : LW C T Hb H p x D S ad dx cnt src L) (ht : t ∈ S.srcs) (Po : Post C T H H' p (L t) S ad dx t ad' aa bb) : LW C T Hb H' p x D (withUnit S t aa bb) ad' dx cnt src L := by
  obtain ⟨xs, hp⟩ := W.bag.lst
  have hp' := hT_at hp fun ps z => by cases z
  have kp : ∀ q o, ¬ own S ad q → q ≠ p → q ≠ L t → H q = some o → (∀ ps, o ≠ .tbl ps) → H' q = some o := fun q o n n1 n2 h n3 => Po.keep q o n n1 n2 (hT_at h n3)
  have not : ∀ {q : Addr} {o : HO}, H q = some o → (∀ ps, o ≠ .tbl ps) → ¬ own S ad q → ¬ own (withUnit S t aa bb) ad' q := fun {q} {o} h n3 n z => by
    rcases Po.new q z with y | y
    · exact n y
    · rw [hT_at h n3] at y
      cases y
  refine ⟨Po.at_, Po.box.trans W.box, Po.tab, Po.bag, kp D _ W.nD (Ne.symm W.pD) (Ne.symm (W.DL ht)) W.dict (fun ps z => by cases z), fun t' h => ?_, W.inj, fun q o h => ?_, fun b hb => ?_, W.pb, W.Db, W.Lb, not hp (fun ps z => by cases z) W.np, not W.dict (fun ps z => by cases z) W.nD, fun t' h => not (W.ls t' h) (fun ps z => by cases z) (W.nL t' h)⟩
  · show H' (L t') = some (U2 (if t' = t then (aa, bb) else S.unit t').1 (if t' = t then (aa, bb) else S.unit t').2)
    by_cases z : t' = t
    · rw [if_pos z, z]
      exact Po.lst
    · rw [if_neg z]
      exact kp _ _ (W.nL t' h) (W.pL h) (fun e => z (W.inj t' h t ht e)) (W.ls t' h) fun ps z => by cases z
  · exact kp q o (fun z => by rw [W.nb q z] at h; cases h) (fun z => by rw [z, W.pb] at h; cases h) (fun z => by rw [z, W.Lb t ht] at h; cases h) (W.old q o h) (hT_of h).2
  · rcases Po.new b hb with z | z
    · exact W.nb b z
    · cases q : hT Hb b with
      | none => rfl
      | some o =>
        rw [hT_at (W.old b o q) (hT_of q).2] at z
        cases z
theorem LW.dn {t : Int} (W : LW C T Hb H p x D S ad dx cnt src L) (ht : t ∈ S.srcs) : Dn C T H H p (L t) S ad dx (S.unit t).1 (S.unit t).2 := ⟨W.at_, W.tab, W.bag, W.ls t ht, fun q o _ _ h => (hT_of h).1, W.np, W.nL t ht, W.pL ht⟩
theorem LW.look {i : Nat} (W : LW C T Hb H p x D S ad dx cnt src L) (h : i < cnt) : DGet H D (.int (i : Int)) (some (.ref (L (src i)))) := by
  have hv : valV (entKV (nums cnt) (lstF src L)) (Sum.inl (i : Int)) = some (.ref (L (src i))) := by
    rw [ent_val, if_pos (List.mem_map.mpr ⟨i, List.mem_range.mpr h, rfl⟩)]
    unfold lstF
    rw [Int.toNat_natCast]
  exact hv ▸ DGet.k (k := Sum.inl (i : Int)) W.dict
end

open LamX
abbrev nLaw : List Str := ["_law_script", "_law_at", "_law_bag_here", "_law_box", "_law_things", "_law_turn", "_law_n", "_law_found", "_law_due", "_law_m"]
theorem scLaw : FnScope nLaw ["_law_script"] (defScope sLaw) := ⟨rfl, rfl, rfl, by decide +kernel, rfl, by decide +kernel, by decide +kernel⟩
/-- the law's frame while its things are cnt numbers -/
inductive JB (C : Cs) (T : List (Addr × Str)) (Hb : Hp) (a : Addr) (i : Int) (p x D : Addr) (fk : Bool) (cnt : Nat) (B : Int) (Φ : Hp → Option V → Option V → Option V → Prop) : L2.St → Hp → Prop
  | mk {H : Hp} {S : Sys} {ad dx : Cell → Addr} {src : Nat → Int} {L : Int → Addr} {u5 u6 u7 u8 u9 : Option V} : LW C T Hb H p x D S ad dx cnt src L → Num S cnt src fk B → Φ H u6 u7 u8 → JB C T Hb a i p x D fk cnt B Φ [some (.ref a), some (.int i), some (.ref p), some (.ref x), some (.ref D), u5, u6, u7, u8, u9] H
abbrev any3 : Hp → Option V → Option V → Option V → Prop := fun _ _ _ _ => True
abbrev isNum (cnt : Nat) : Hp → Option V → Option V → Option V → Prop := fun _ u _ _ => ∃ n : Nat, n < cnt ∧ u = some (.int (n : Int))
abbrev agree (cnt : Nat) : Hp → Option V → Option V → Option V → Prop := fun H _ v w => ∃ v1 v2, v = some v1 ∧ w = some v2 ∧ Agree H v1 v2
theorem agree_data {K : PySem.W.Frag} {H : Hp} {v1 v2 : V} (h : Agree H v1 v2) : ∃ d, Dp K H v1 d ∧ Dp K H v2 d ∧ okR d = true ∧ d.depth ≤ 40 ∧ wt d ≤ 16777216 := by
  cases h with
  | non => exact ⟨.none, .non, .non, rfl, by decide, by decide⟩
  | int k h0 h1 =>
    refine ⟨.int k, .int k, .int k, ?_, by simp [PyData.depth], by simp [wt]⟩
    unfold okR
    refine decide_eq_true ?_
    have := Nat.log2_self_le (n := k.natAbs)
    by_cases z : k.natAbs = 0
    · rw [z]
      decide
    · have h30 : k.natAbs.log2 < 30 := (Nat.log2_lt z).mpr (by omega)
      omega
  | fin l1 l2 n n0 n1 h1 h2 =>
    refine ⟨.list [.str "finished", .int n, .bool true], .lst (SqL.of h1) (.cons (.str _) (.cons (.int n) (.cons (.bl true) .nil))), .lst (SqL.of h2) (.cons (.str _) (.cons (.int n) (.cons (.bl true) .nil))), ?_, ?_, ?_⟩
    · have e := (small_int n0 n1).1
      simp only [okR, okRA, Bool.and_true, Bool.and_eq_true]
      exact ⟨by decide +kernel, decide_eq_true e⟩
    · simp [PyData.depth, PyData.depthAll]
    · simp only [wt, wtA]
      have : (("finished" : String) : Str).length = 8 := rfl
      rw [this]
      decide
section
variable {P : Program} {w : World} {K : PySem.W.Frag} {mg : Str → Option Value} {base : Heap} {C : Cs}
def spLaw (K : PySem.W.Frag) (Pt : Addr) : Sp := fun vs H Q _ => ∃ (a : Addr) (ns : List Int), vs = [.ref a] ∧ SqL K H a (ns.map V.int) ∧ ns.length ≤ 63 ∧ H Pt = some (.tbl #[]) ∧ ∀ H', Q (.bl true) H'
theorem okLaw {Pt f fB fT fO fDn fI fNs fCp fFk fUn : Addr} {fd fdB fdT fdO fdDn fdI fdNs fdCp fdFk fdUn : FuncData} {dsI dsC : List Value} (F : Fun K "law" "law" sLaw f fd) (X : LawTx mg) (T : ClsF K C.S sysF)
    (GB : DO P w K mg base 1 "_law_bag" ["_law_script", "_law_at"] (spBag K) fB fdB) (GT : DO P w K mg base 1 "_law_take" ["_law_bag_here", "_law_lot"] spTake fT fdT) (GO : DO P w K mg base 2 "_law_of" ["_law_bag_here", "_law_some"] (spOf K) fO fdO)
    (GD : DO P w K mg base 9 "_law_done" ["_law_bag_here", "_law_box", "_law_p", "_law_n", "_law_units"] (spDone C [(Pt, qDone)]) fDn fdDn)
    (gS : mg "System" = some (.ref C.S)) (MS : Mk K C.S fI) (GI : FnOk P w K mg base CX0 3 fI fdI ["self", "processes", "numbers"] (spSysInit C)) (bI : Binds K fdI ["self", "processes", "numbers"] dsI) (dI : Vals [.int 4, .int 8] dsI)
    (GN : MO P w K mg base 6 C.S "new_source" ["self", "process"] (spNewSource C) fNs fdNs) (gC : FnOk P w K mg base CX0 5 fCp fdCp ["self", "process", "number", "to"] (spCopy C)) (mC : Meth K C.S "copy" fCp) (bC : Binds K fdCp ["self", "process", "number", "to"] dsC) (dC : Vals [.non] dsC)
    (GF : MO P w K mg base 4 C.S "fork" ["self", "process"] (spFork C) fFk fdFk) (GU : MO P w K mg base 6 C.S "units" ["self", "process", "number"] (spUnits C) fUn fdUn) (kU : KBn K fdUn ["self", "process", "number"] 2 ["number"] (fun us ws => us ++ ws) (fun vs zs => vs ++ zs)) :
    FnG P w K mg base CX0 10 f fd ["_law_script"] (spLaw K Pt) := by
  refine okG F scLaw (fun vs H Q E h => ?_) (fun cdv A outer s H vs Q E hr hg h => ?_)
  · obtain ⟨x, _, rfl, _⟩ := h
    rfl
  · obtain ⟨a, ns, rfl, hS, hl, hP, k⟩ := h
    have hu := hr.units
    have hu1 := hu_of hr
    have r1 : Room 1 _ := hr.mono (by decide)
    have r2 : Room 2 _ := hr.mono (by decide)
    have r4 : Room 4 _ := hr.mono (by decide)
    have r5 : Room 5 _ := hr.mono (by decide)
    have r6 : Room 6 _ := hr.mono (by decide)
    have hg' : (A.deeper (envOfC "law" (defScope sLaw) s.heap.objs.size f cdv)).guards = some [] := hg
    refine ⟨_, PSs.nox (pss_cut (ps_for PassesOwn.never rfl (pi_range1 (by rfl) X.range (pa_cons (pe_callB (cMax2 rfl) (by rfl) X.max (by decide +kernel) (pa_cons pe_int (pa_cons (pe_callB (cMin2 rfl) (by rfl) X.min (by decide +kernel) (pa_cons pe_int (pa_cons (pe_callB cLenQ (by rfl) X.len PySem.boot_len (pa_cons (pv 0) pa_nil)) pa_nil))) pa_nil))) pa_nil)) (pg_name (i := 1) scLaw.nd rfl (Or.inl rfl))
      (pss_cut (ps_set (i := 2) scLaw.nd rfl (Or.inl rfl) (pe_call GB.g r1 (by rfl) GB.m GB.k GB.b .nil pass0 (pa_cons (pv 0) (pa_cons (pv 1) pa_nil))))
      (pss_cut (ps_par (i := 3) (j := 4) (by rfl) scLaw.nd rfl rfl (by decide) rfl rfl (pa_cons (pe_make0 MS GI r4 (by rfl) gS bI dI pass0) (pa_cons pe_dnewK pa_nil)) (by rfl))
      (pss_cut (ps_for PassesOwn.never rfl (pi_range1 (by rfl) X.range (pa_cons (pe_op op_add pe_int (pe_call GT.g r1 (by rfl) GT.m GT.k GT.b .nil pass0 (pa_cons (pv 2) (pa_cons pe_int pa_nil)))) pa_nil)) (pg_name (i := 5) scLaw.nd rfl (Or.inl rfl))
        (pss_one (ps_dput hu1 (pv 4) (pe_meth (pv 3) T.cl GN.m GN.g r6 GN.b .nil pass0 (pa_cons pe_int pa_nil)) (pe_lst (pa_cons pe_int (pa_cons pe_bl pa_nil))) rfl)))
      (pss_cut (ps_for PassesOwn.never rfl (pi_range1 (by rfl) X.range (pa_cons (pe_call GT.g r1 (by rfl) GT.m GT.k GT.b .nil pass0 (pa_cons (pv 2) (pa_cons pe_int pa_nil))) pa_nil)) (pg_name (i := 5) scLaw.nd rfl (Or.inl rfl))
        (pss_cut (ps_set (i := 6) scLaw.nd rfl (Or.inl rfl) (pe_call GO.g r2 (by rfl) GO.m GO.k GO.b .nil pass0 (pa_cons (pv 2) (pa_cons (pe_callB (call_sortedDI rfl) (by rfl) X.sorted (by decide +kernel) (pa_cons (pv 4) pa_nil)) pa_nil))))
        (pss_one (ps_dput hu1 (pv 4) (pe_meth (pv 3) T.cl mC gC r5 bC dC pass0 (pa_cons pe_int (pa_cons (pv 6) pa_nil))) (pe_dget hu1 (pv 4) (pv 6) (fun _ _ => rfl)) rfl))))
      (pss_cut (ps_expr (pe_meth (pv 3) T.cl GF.m GF.g r4 GF.b .nil pass0 (pa_cons pe_int pa_nil)))
      (pss_one (ps_for PassesOwn.never rfl (pi_range1 (by rfl) X.range (pa_cons (pe_op op_add pe_int (pe_call GT.g r1 (by rfl) GT.m GT.k GT.b .nil pass0 (pa_cons (pv 2) (pa_cons pe_int pa_nil)))) pa_nil)) (pg_name (i := 5) scLaw.nd rfl (Or.inl rfl))
        (pss_cut (ps_set (i := 6) scLaw.nd rfl (Or.inl rfl) (pe_call GO.g r2 (by rfl) GO.m GO.k GO.b .nil pass0 (pa_cons (pv 2) (pa_cons (pe_callB (call_sortedDI rfl) (by rfl) X.sorted (by decide +kernel) (pa_cons (pv 4) pa_nil)) pa_nil))))
        (pss_cut (ps_asg (pe_call GD.g hr (by rfl) GD.m GD.k GD.b .nil pass0 (pa_cons (pv 2) (pa_cons (pv 3) (pa_cons (pe_call GT.g r1 (by rfl) GT.m GT.k GT.b .nil pass0 (pa_cons (pv 2) (pa_cons pe_int pa_nil))) (pa_cons (pv 6) (pa_cons (pe_dget hu1 (pv 4) (pv 6) (fun _ _ => rfl)) pa_nil)))))) (pg_unl rfl (pgs_cons (pg_name (i := 7) scLaw.nd rfl (Or.inl rfl)) (pgs_cons (pg_name (i := 8) scLaw.nd rfl (Or.inl rfl)) pgs_nil))))
        (pss_cut (ps_if (pt_cmpR op_ne (pe_callB (cRepr hg' hu) (by rfl) X.repr PyProof.Rows.boot_repr (pa_cons (pv 7) pa_nil)) (pe_callB (cRepr hg' hu) (by rfl) X.repr PyProof.Rows.boot_repr (pa_cons (pv 8) pa_nil)) (nomark _)) (pss_one (ps_ret pe_bl)) pss_nil)
        (pss_one (ps_lock (ps_for PassesOwn.never rfl (pi_keys (pv 4)) (pg_name (i := 9) scLaw.nd rfl (Or.inl rfl))
          (pss_one (ps_if (pt_cmpR (op_neD hu) (pe_lst (pa_cons (pe_meth (pv 3) T.cl GU.m GU.g r6 GU.b .nil pass0 (pa_cons pe_int (pa_cons (pv 9) pa_nil))) (pa_cons (pe_methK (n := 1) (ks := ["number"]) (pv 3) T.cl GU.m GU.g r6 kU pass0 (pa_cons pe_int pa_nil) (pk_cons (pv 9) pk_nil)) pa_nil)))
            (pe_lst (pa_cons (pe_callTy call_tuple_of (by rfl) X.tuple (by rfl) (pa_cons (pe_dget hu1 (pv 4) (pv 9) (fun _ _ => rfl)) pa_nil)) (pa_cons (pe_callTy call_tuple_of (by rfl) X.tuple (by rfl) (pa_cons (pe_dget hu1 (pv 4) (pv 9) (fun _ _ => rfl)) pa_nil)) pa_nil))) (nomark _)) (pss_one (ps_ret pe_bl)) pss_nil))))))))))))))))
      (pss_one (ps_ret pe_bl))), ?_⟩
    generalize hTT : [(Pt, qDone)] = TT at GD
    have tb0 : Tabs TT H := fun x hx => by
      rw [← hTT] at hx
      obtain rfl := List.mem_singleton.mp hx
      exact TabS.nil hP
    refine ⟨fun σ' H' => Tabs TT H', ?_, fun σ' H' _ => ?_⟩
    · walk_at "wn"
      show iRng1 _ _ _ _
      show tCons _ _ _ _ _
      walk_at "wn"
      refine ⟨a, _, rfl, .inl hS, ?_⟩
      walk_at "wn"
      refine ⟨_, rfl, ?_, ?_, ?_⟩
      · split <;> split <;> omega
      · split <;> split <;> omega
      refine for_range (lo := 0) (fun i σ' H' => ∃ u1 u2 u3 u4 u5 u6 u7 u8 u9 : Option V, σ' = [some (.ref a), u1, u2, u3, u4, u5, u6, u7, u8, u9] ∧ SqL K H' a (ns.map V.int) ∧ Tabs TT H') ⟨_, _, _, _, _, _, _, _, _, rfl, hS, tb0⟩ ?_ (fun σ' H' ⟨_, _, _, _, _, _, _, _, _, _, _, h⟩ => h)
      rintro i σ' Hb hi ⟨u1, u2, u3, u4, u5, u6, u7, u8, u9, rfl, hSb, tbb⟩
      have hi100 : i ≤ 100 := by revert hi; split <;> split <;> omega
      walk_at "wn"
      refine ⟨fun σ' H' => ∃ p : Addr, σ' = [some (.ref a), some (.int (0 + (i : Int))), some (.ref p), u3, u4, u5, u6, u7, u8, u9] ∧ Hb p = none ∧ Same Hb H' ∧ BagAt H' p, ?_, ?_⟩
      · walk_at "wn"
        refine ⟨a, ns, i, by simp, hSb, hl, hi100, fun H1 p n0 s1 b1 => ?_⟩
        walk_at "wn"
        exact ⟨p, rfl, n0, s1, b1⟩
      rintro σ' H1 ⟨p, rfl, n0, s1, b1⟩
      refine ⟨fun σ' H' => ∃ x D : Addr, JB C TT Hb a (0 + (i : Int)) p x D false 0 0 any3 σ' H', ?_, ?_⟩
      · show tPar 3 4 _ _ _ _
        refine (fun x dx0 hx hd nd => ?_ : ∀ x dx0, _ → _ → _ → _)
        refine ⟨x, dx0, 4, 8, rfl, upd_same, by decide, by decide, by decide, by decide, fun H2 ad dx hbx A2 k2 n2 => ⟨rfl, ?_⟩⟩
        intro D hD
        refine ⟨_, _, rfl, ?_⟩
        have hx0 : hT Hb x = none := hT_none (Same.frees s1 hx)
        have sH2 : Same H1 H2 := fun b o e => k2 b o (ne_of_none e hx) (by rw [upd_ne (ne_of_none e hx), upd_ne (ne_of_none e hd)]; exact e)
        have sH3 : Same H1 (upd H2 D (.dK [])) := sH2.trans (Same.new' hD)
        have old : ∀ q o, hT Hb q = some o → upd H2 D (.dK []) q = some o := fun q o h => sH3 _ _ (s1 _ _ (hT_of h).1)
        obtain ⟨b1a, b1b, hp1, hpr⟩ := b1
        have fresh : ∀ b, own (newSys 4 8) ad b → hT Hb b = none ∧ H1 b = none := fun b hb => by
          rcases n2 b hb with z | z
          · rw [z]
            exact ⟨hx0, hx⟩
          · by_cases e : b = x
            · rw [e]
              exact ⟨hx0, hx⟩
            · rw [upd_ne e] at z
              by_cases e2 : b = dx0
              · rw [e2]
                exact ⟨hT_none (Same.frees s1 hd), hd⟩
              · rw [upd_ne e2] at z
                exact ⟨hT_none (Same.frees s1 z), z⟩
        refine ⟨x, D, .mk (S := newSys 4 8) (ad := ad) (dx := dx) (src := fun _ => 0) (L := fun _ => 0) ?_ Num.new trivial⟩
        refine ⟨A2.same (Same.new' hD), hbx, tbb.ext fun b o h => sH3 _ _ (s1 b o h), ⟨b1a, b1b, sH3 _ _ hp1, hpr⟩, upd_same, (fun t h => nomatch h), (fun t h => nomatch h), old, fun b hb => (fresh b hb).1, hT_none n0, hT_none (Same.frees s1 (Same.frees sH2 hD)), (fun t h => nomatch h), fun z => ?_, A2.not_own hD, (fun t h => nomatch h)⟩
        rw [(fresh p z).2] at hp1
        cases hp1
      rintro σ' H2 ⟨x, D, J0⟩
      refine ⟨fun σ' H' => ∃ cnt, 1 ≤ cnt ∧ cnt ≤ 4 ∧ JB C TT Hb a (0 + (i : Int)) p x D false cnt 0 any3 σ' H', ?_, ?_⟩
      · cases J0 with
        | @mk _ S ad dx src L u5 u6 u7 u8 u9 W0 N0 _ =>
        show iRng1 _ _ _ _
        show tCons _ _ _ _ _
        walk_at "wn"
        refine ⟨p, 4, rfl, W0.bag, by decide, by decide, fun kk H3 k0 k1 e3 b3 => ?_⟩
        have W1 := W0.draw e3 b3
        walk_at "wn"
        refine ⟨_, rfl, by omega, by omega, ?_⟩
        refine for_range (lo := 0) (fun j σ' H' => JB C TT Hb a (0 + (i : Int)) p x D false j 0 any3 σ' H') (.mk W1 N0 trivial) ?_ ?_
        · rintro j σ' H4 hj J1
          cases J1 with
          | @mk _ S ad dx src L u5 u6 u7 u8 u9 W N _ =>
          have hj8 : j < 8 := by omega
          walk_at "wn"
          refine ⟨by show 2 ≤ sizeLine; decide, fun T1 hT1 => ?_⟩
          have W2 := W.same (Same.new' (o := U2 0 false) hT1)
          have hb : upd H4 T1 (U2 0 false) x = some (sysO C.S (dx .box) S (ad .tabD) (ad .srcD) (ad .setD)) := by rw [← W.box]; exact W2.at_.at_ .box trivial
          walk_at "wn"
          refine ⟨_, rfl, x, dx .box, _, rfl, hb, rfl, ?_⟩
          walk_at "wn"
          have := N.le
          have nx : S.next ∉ S.srcs := fun z => absurd (N.nx _ z) (Int.lt_irrefl _)
          refine ⟨0, j, S, ad, dx, by rw [W.box]; rfl, W2.at_, N.p0, N.free hj8, by rw [N.len]; decide, by omega, nx, fun H5 ad' A5 st5 => ?_⟩
          obtain ⟨kD, W3⟩ := W.mkSrc N hT1 A5 st5
          refine ⟨D, _, rfl, DPut.k (k := Sum.inl (j : Int)) kD (by unfold entKV nums; rw [List.length_map, List.length_map, List.length_range, sizeLine_eq]; omega), ?_⟩
          exact .mk W3 (N.mkSrc hj8 (Int.le_refl _)) trivial
        · intro σ' H4 J1
          exact ⟨_, by omega, by omega, J1⟩
      rintro σ' H3 ⟨cnt, c1, c4, J1⟩
      have pick : ∀ {H : Hp} {S : Sys} {ad dx : Cell → Addr} {src : Nat → Int} {L : Int → Addr} {cn : Nat} (W : LW C TT Hb H p x D S ad dx cn src L), 1 ≤ cn → cn ≤ 8 → ∀ (Q' : VK), (∀ (n : Nat) (H' : Hp), n < cn → LW C TT Hb H' p x D S ad dx cn src L → Q' (.int (n : Int)) H') →
          ∃ (a_1 : Addr) (kvs : List (L2.Key × V)) (ks : List Int), [V.ref D] = [V.ref a_1] ∧ Rd H a_1 (.dK kvs) ∧ kvs.map (·.1) = ks.map Sum.inl ∧ ks.length < 64 ∧ ∀ (ys : List Int) (q : Addr), ys.Perm ks → ys.Pairwise (· ≤ ·) → H q = none → spOf K [.ref p, .ref q] (upd H q (.lst (ys.map V.int))) Q' E0 := by
        intro H S ad dx src L cn W c1 c8 Q' h
        refine ⟨D, _, nums cn, rfl, .inl W.dict, by unfold entKV; rw [List.map_map]; rfl, by unfold nums; rw [List.length_map, List.length_range]; omega, fun ys q pm _ hq => ?_⟩
        have W1 := W.same (Same.new' (o := .lst (ys.map V.int)) hq)
        have ly : ys.length = cn := by rw [pm.length_eq]; unfold nums; rw [List.length_map, List.length_range]
        refine ⟨p, q, ys.map V.int, rfl, W1.bag, SqL.of upd_same, fun z => ?_, by rw [List.length_map]; omega, by rw [List.length_map]; omega, fun j v H2 hv e2 b2 => ?_⟩
        · obtain ⟨_, hp⟩ := W.bag.lst
          rw [← z, hq] at hp
          cases hp
        · rw [List.getElem?_map] at hv
          cases ey : ys[j]? with
          | none => rw [ey] at hv; cases hv
          | some y =>
            rw [ey] at hv
            cases hv
            obtain ⟨n, hn, rfl⟩ := mem_nums (pm.mem_iff.mp (List.mem_of_getElem? ey))
            exact h n H2 hn (W1.draw e2 b2)
      refine ⟨fun σ' H' => ∃ cnt, 1 ≤ cnt ∧ cnt ≤ 7 ∧ JB C TT Hb a (0 + (i : Int)) p x D false cnt 0 any3 σ' H', ?_, ?_⟩
      · cases J1 with
        | @mk _ S ad dx src L u5 u6 u7 u8 u9 W0 N0 _ =>
        show iRng1 _ _ _ _
        show tCons _ _ _ _ _
        walk_at "wn"
        refine ⟨p, 4, rfl, W0.bag, by decide, by decide, fun kk H4 k0 k1 e3 b3 => ?_⟩
        have W1 := W0.draw e3 b3
        walk_at "wn"
        refine ⟨_, rfl, by omega, by omega, ?_⟩
        refine for_range (lo := 0) (fun j σ' H' => JB C TT Hb a (0 + (i : Int)) p x D false (cnt + j) 0 any3 σ' H') (.mk W1 N0 trivial) ?_ (fun σ' H5 J => ⟨_, by omega, by omega, J⟩)
        rintro j σ' H5 hj J2
        cases J2 with
        | @mk _ S ad dx src L u5 u6 u7 u8 u9 W N _ =>
        walk_at "wn"
        refine ⟨fun σ' H' => JB C TT Hb a (0 + (i : Int)) p x D false (cnt + j) 0 (isNum (cnt + j)) σ' H', ?_, ?_⟩
        · walk_at "wn"
          refine pick W (by omega) (by omega) _ fun n H6 hn W2 => ?_
          walk_at "wn"
          exact .mk W2 N ⟨n, hn, rfl⟩
        intro σ' H6 J3
        cases J3 with
        | @mk _ S ad dx src L u5 u6 u7 u8 u9 W N hn =>
        obtain ⟨n, hn, rfl⟩ := hn
        have hb : H6 x = some (sysO C.S (dx .box) S (ad .tabD) (ad .srcD) (ad .setD)) := by rw [← W.box]; exact W.at_.at_ .box trivial
        walk_at "wn"
        refine ⟨_, rfl, _, rfl, D, _, rfl, W.look hn, ?_⟩
        walk_at "wn"
        refine ⟨_, rfl, x, dx .box, _, rfl, hb, rfl, ?_⟩
        walk_at "wn"
        have hc8 : cnt + j < 8 := by omega
        refine ⟨0, (n : Int), src n, cnt + j, S, ad, dx, by rw [W.box]; rfl, W.at_, N.means hn, N.free hc8, by rw [N.len]; decide, fun H7 A7 st7 => ?_⟩
        have W7 := W.call A7 st7 rfl rfl
        refine ⟨D, _, rfl, DPut.k (k := Sum.inl ((cnt + j : Nat) : Int)) W7.dict (by unfold entKV nums; rw [List.length_map, List.length_map, List.length_range, sizeLine_eq]; omega), ?_⟩
        refine .mk (W7.put (t := src n) ?_ fun q nq => upd_ne nq) (N.mkCopy hc8 hn) trivial
        rw [upd_same, nums_put]
        exact congrArg (fun z => some (HO.dK z)) (ent_congr lst_up)
      rintro σ' H4 ⟨cn, c1', c7, J2⟩
      clear J1 J0 c1 c4 cnt
      refine ⟨fun σ' H' => JB C TT Hb a (0 + (i : Int)) p x D true cn 0 any3 σ' H', ?_, ?_⟩
      · cases J2 with
        | @mk _ S ad dx src L u5 u6 u7 u8 u9 W N _ =>
        have hb : H4 x = some (sysO C.S (dx .box) S (ad .tabD) (ad .srcD) (ad .setD)) := by rw [← W.box]; exact W.at_.at_ .box trivial
        walk_at "wn"
        refine ⟨_, rfl, x, dx .box, _, rfl, hb, rfl, ?_⟩
        walk_at "wn"
        have e0 := N.one rfl
        have e4 := N.P4
        have fp : FreeP S 1 := ⟨(fun z => by rw [e0] at z; simp at z), (fun i hi => by
          obtain rfl : i = 0 := by omega
          exact N.p0), (by rw [e4]; decide), (by rw [e4]; decide)⟩
        refine ⟨0, 1, S, ad, dx, by rw [W.box]; rfl, W.at_, N.p0, fp, by rw [N.len]; decide, by rw [e0]; decide, fun H5 ad' A5 st5 => ?_⟩
        walk_at "wn"
        exact .mk (W.call A5 st5 rfl rfl) N.fork trivial
      rintro σ' H5 J3
      clear J2
      cases J3 with
      | @mk _ S ad dx src L u5 u6 u7 u8 u9 W0 N0 _ =>
      show iRng1 _ _ _ _
      show tCons _ _ _ _ _
      walk_at "wn"
      refine ⟨p, 31, rfl, W0.bag, by decide, by decide, fun kk H6 k0 k1 e3 b3 => ?_⟩
      have W1 := W0.draw e3 b3
      walk_at "wn"
      refine ⟨_, rfl, by omega, by omega, ?_⟩
      have N0' : Num S cn src true (1000000 * ((0 : Nat) : Int)) := N0
      refine for_range (lo := 0) (fun j σ' H' => JB C TT Hb a (0 + (i : Int)) p x D true cn (1000000 * (j : Int)) any3 σ' H') (.mk W1 N0' trivial) ?_ (fun σ' H7 J => ?_)
      rotate_left
      · cases J with
        | @mk _ S ad dx src L u5 u6 u7 u8 u9 W N _ =>
        exact ⟨_, _, _, _, _, _, _, _, _, rfl, W.sq hSb, W.tab⟩
      rintro j σ' H7 hj J1
      have hj41 : j ≤ 41 := by omega
      cases J1 with
      | @mk _ S ad dx src L u5 u6 u7 u8 u9 W N _ =>
      walk_at "wn"
      refine ⟨fun σ' H' => JB C TT Hb a (0 + (i : Int)) p x D true cn (1000000 * (j : Int)) (isNum cn) σ' H', ?_, ?_⟩
      · walk_at "wn"
        refine pick W c1' (by omega) _ fun n H8 hn W2 => ?_
        walk_at "wn"
        exact .mk W2 N ⟨n, hn, rfl⟩
      clear W N W1 W0 N0 N0'
      intro σ' H8 J2
      refine ⟨fun σ' H' => JB C TT Hb a (0 + (i : Int)) p x D true cn (1000000 * ((j + 1 : Nat) : Int)) (agree cn) σ' H', ?_, ?_⟩
      · cases J2 with
        | @mk _ S ad dx src L u5 u6 u7 u8 u9 W N hn =>
        obtain ⟨n, hn, rfl⟩ := hn
        walk_at "wn"
        refine ⟨p, 2, rfl, W.bag, by decide, by decide, fun pr H9 pr0 pr1 e9 b9 => ?_⟩
        have W2 := W.draw e9 b9
        walk_at "wn"
        refine ⟨_, rfl, _, rfl, D, _, rfl, W2.look hn, ?_⟩
        walk_at "wn"
        have ht := N.src n hn
        have hu1 := N.u _ ht
        have hle := N.le
        have M : Means S pr (n : Int) (src n) := by
          rcases (show pr = 0 ∨ pr = 1 by omega) with rfl | rfl
          · exact N.means hn
          · exact N.means1 hn
        refine ⟨p, x, L (src n), pr, (n : Int), src n, S, ad, dx, rfl, W2.dn ht, W2.box, M, ht, by omega, by omega, hu1.1, by omega, fun Ha ad' r v1 v2 aa bb hr9 ag a0 a1 Po => ?_⟩
        refine ⟨r, _, rfl, SqL.of hr9, rfl, _, _, rfl, ?_⟩
        walk_at "wn"
        refine ⟨_, _, rfl, ?_⟩
        walk_at "wn"
        refine ⟨rfl, ?_⟩
        walk_at "wn"
        have N2 := N.unit (t := src n) (a := aa) (b := bb) a0 (by omega)
        have eB : 1000000 * (j : Int) + 1000000 = 1000000 * ((j + 1 : Nat) : Int) := by push_cast; omega
        rw [eB] at N2
        exact .mk (W2.done ht Po) N2 ⟨v1, v2, rfl, rfl, ag⟩
      clear J2
      intro σ' H9 J3
      refine ⟨fun σ' H' => JB C TT Hb a (0 + (i : Int)) p x D true cn (1000000 * ((j + 1 : Nat) : Int)) any3 σ' H', ?_, ?_⟩
      · cases J3 with
        | @mk _ S ad dx src L u5 u6 u7 u8 u9 W N hag =>
        obtain ⟨v1, v2, rfl, rfl, ag⟩ := hag
        obtain ⟨d, d1, d2, o1, o2, o3⟩ := agree_data (K := K) ag
        walk_at "wn"
        refine ⟨v1, d, rfl, d1, o1, o2, o3, ?_⟩
        walk_at "wn"
        refine ⟨v2, d, rfl, d2, o1, o2, o3, ?_⟩
        walk_at "wn"
        exact .mk W N trivial
      clear J3
      intro σ' Hc J4
      cases J4 with
      | @mk _ S ad dx src L u5 u6 u7 u8 u9 W N _ =>
      refine ⟨D, _, W.dict, trivial, fun od => ?_⟩
      refine ⟨_, rfl, D, od, rfl, .inl ⟨_, upd_same, ?_⟩⟩
      refine for_it walk_keys (fun m σ' H' => ∃ u9, σ' = [some (.ref a), some (.int (0 + (i : Int))), some (.ref p), some (.ref x), some (.ref D), u5, u6, u7, u8, u9] ∧ Same (upd Hc D (.frz od (.dK (entKV (nums cn) (lstF src L))))) H') ⟨_, rfl, Same.refl _⟩ (fun m σ' H' _ ⟨_, _, sm⟩ => sm _ _ upd_same) ?_ ?_
      · rintro m y0 σ' Hd He hm ⟨u, rfl, sm⟩ ⟨rfl, key, vv, ek, rfl⟩
        obtain ⟨n, hn, rfl⟩ : ∃ n : Nat, n < cn ∧ key = Sum.inl (n : Int) := by
          have hk := List.mem_of_getElem? ek
          obtain ⟨l, hl, e⟩ := List.mem_map.mp hk
          obtain ⟨n, hn, rfl⟩ := mem_nums hl
          exact ⟨n, hn, (congrArg Prod.fst e).symm⟩
        have off : ∀ q o, q ≠ D → Hc q = some o → He q = some o := fun q o nq h => sm q o (by rw [upd_ne nq]; exact h)
        have ht := N.src n hn
        have Ad : At C He S ad dx := ⟨fun c hc => off _ _ (fun z => W.nD ⟨c, hc, z⟩) (W.at_.at_ c hc), W.at_.inj⟩
        have hb : He x = some (sysO C.S (dx .box) S (ad .tabD) (ad .srcD) (ad .setD)) := by rw [← W.box]; exact Ad.at_ .box trivial
        have hsT : He (ad (.srcT (src n))) = some (.tup [.int (S.unit (src n)).1, .bl (S.unit (src n)).2]) := Ad.at_ (.srcT (src n)) ht
        have hL : He (L (src n)) = some (U2 (S.unit (src n)).1 (S.unit (src n)).2) := off _ _ (W.DL ht) (W.ls _ ht)
        have hF : He D = some (.frz od (.dK (entKV (nums cn) (lstF src L)))) := sm _ _ upd_same
        have look : ∀ H', Same He H' → DGet H' D (.int (n : Int)) (some (.ref (L (src n)))) := fun H' s => by
          have hv : valV (entKV (nums cn) (lstF src L)) (Sum.inl (n : Int)) = some (.ref (L (src n))) := by
            rw [ent_val, if_pos (List.mem_map.mpr ⟨n, List.mem_range.mpr hn, rfl⟩)]
            unfold lstF
            rw [Int.toNat_natCast]
          exact .inl ⟨_, Sum.inl (n : Int), .inr ⟨od, s _ _ hF⟩, rfl, hv.symm⟩
        walk_at "wn"
        refine ⟨_, rfl, x, dx .box, _, rfl, hb, rfl, ?_⟩
        walk_at "wn"
        refine ⟨0, (n : Int), src n, S, ad, dx, by rw [W.box]; rfl, Ad, N.means hn, ht, ?_⟩
        refine ⟨_, rfl, x, dx .box, _, rfl, hb, rfl, ?_⟩
        walk_at "wn"
        refine ⟨rfl, rfl, 1, (n : Int), src n, S, ad, dx, by rw [W.box]; rfl, Ad, N.means1 hn, ht, ?_⟩
        walk_at "wn"
        refine ⟨by show 2 ≤ sizeLine; decide, fun r1 hr1 => ?_⟩
        have q1 := Same.new' (o := .lst [.ref (ad (.srcT (src n))), .ref (ad (.srcT (src n)))]) hr1
        walk_at "wn"
        refine ⟨_, rfl, _, rfl, D, _, rfl, look _ q1, ?_⟩
        walk_at "wn"
        refine ⟨L (src n), _, rfl, .inl ⟨SqL.of (q1 _ _ hL), fun T1 hT1 => ?_⟩⟩
        have q2 := q1.trans (Same.new' (o := .tup [.int (S.unit (src n)).1, .bl (S.unit (src n)).2]) hT1)
        walk_at "wn"
        refine ⟨_, rfl, _, rfl, D, _, rfl, look _ q2, ?_⟩
        walk_at "wn"
        refine ⟨L (src n), _, rfl, .inl ⟨SqL.of (q2 _ _ hL), fun T2 hT2 => ?_⟩⟩
        have q3' := Same.new' (o := .tup [.int (S.unit (src n)).1, .bl (S.unit (src n)).2]) hT2
        have q3 := q2.trans q3'
        walk_at "wn"
        refine ⟨by show 2 ≤ sizeLine; decide, fun r2 hr2 => ?_⟩
        have q4' := Same.new' (o := .lst [.ref T1, .ref T2]) hr2
        have q4 := q3.trans q4'
        have dT : Dp K (upd (upd (upd (upd He r1 _) T1 _) T2 _) r2 _) (.ref (ad (.srcT (src n)))) (.tuple [.int (S.unit (src n)).1, .bool (S.unit (src n)).2]) := .tup (SqT.of (q4 _ _ hsT)) (.cons (.int _) (.cons (.bl _) .nil))
        have d1 : Dp K (upd (upd (upd (upd He r1 _) T1 _) T2 _) r2 _) (.ref T1) (.tuple [.int (S.unit (src n)).1, .bool (S.unit (src n)).2]) := .tup (SqT.of (q4' _ _ (q3' _ _ upd_same))) (.cons (.int _) (.cons (.bl _) .nil))
        have d2 : Dp K (upd (upd (upd (upd He r1 _) T1 _) T2 _) r2 _) (.ref T2) (.tuple [.int (S.unit (src n)).1, .bool (S.unit (src n)).2]) := .tup (SqT.of (q4' _ _ upd_same)) (.cons (.int _) (.cons (.bl _) .nil))
        have hr1' := (Same.new' (o := .tup [.int (S.unit (src n)).1, .bl (S.unit (src n)).2]) hT1) _ _ (upd_same (H := He) (a := r1) (o := .lst [.ref (ad (.srcT (src n))), .ref (ad (.srcT (src n)))]))
        refine ⟨.list [.tuple [.int (S.unit (src n)).1, .bool (S.unit (src n)).2], .tuple [.int (S.unit (src n)).1, .bool (S.unit (src n)).2]], .list [.tuple [.int (S.unit (src n)).1, .bool (S.unit (src n)).2], .tuple [.int (S.unit (src n)).1, .bool (S.unit (src n)).2]], .lst (SqL.of (q4' _ _ (q3' _ _ hr1'))) (.cons dT (.cons dT .nil)), .lst (SqL.of upd_same) (.cons d1 (.cons d2 .nil)), rfl, rfl, ?_⟩
        rw [PySem.SeqAt.eqv_refl _ (SeqAt.canLay_of_shaped rfl)]
        walk_at "wn"
        exact ⟨_, rfl, fun q o h => q4 _ _ (sm q o h)⟩
      · rintro σ' Hd ⟨u, rfl, sm⟩
        refine ⟨sm _ _ upd_same, ?_⟩
        refine .mk (W.same fun q o h => ?_) N trivial
        by_cases z : q = D
        · rw [z, upd_same, ← h, z, W.dict]
        · rw [upd_ne z]
          exact sm _ _ (by rw [upd_ne z]; exact h)
    · walk_at "wn"
      exact k _
end

theorem isct {K : PySem.W.Frag} {h : Heap} {c P : Addr} (X : K.In h) (e : PySem.W.codeHdIn K c P = true) : isCodeTable h P := by
  obtain ⟨o, vs, _, _, _, _, _, _, _, e1, e2, e3, e4, _⟩ := PySem.W.codeHd_of_K X e
  exact ⟨c, o, vs, e1, e2, e3, e4⟩
theorem all_mk {P : Program} {w : World} {K : PySem.W.Frag} {h : Heap} {mg : Str → Option Value} {fa Pt : Addr} (X : K.In h) (G : h.Ns mainGlobals mg) (hfa : mg "law" = some (.ref fa))
    {CS CD cDone : Addr}
    {f_int : Addr} {oc_int dc_int pm_int cd_int ct_int : Value} {od_int an_int : Option Addr} {sl_int : Array (Option Value)}
    {kV_int : Value}
    {f_bet : Addr} {oc_bet dc_bet pm_bet cd_bet ct_bet : Value} {od_bet an_bet : Option Addr} {sl_bet : Array (Option Value)}
    {kV_bet : Value}
    {f_cnt : Addr} {oc_cnt dc_cnt pm_cnt cd_cnt ct_cnt : Value} {od_cnt an_cnt : Option Addr} {sl_cnt : Array (Option Value)}
    {kV_cnt : Value}
    {f_bag : Addr} {oc_bag dc_bag pm_bag cd_bag ct_bag : Value} {od_bag an_bag : Option Addr} {sl_bag : Array (Option Value)}
    {kV_bag : Value}
    {f_take : Addr} {oc_take dc_take pm_take cd_take ct_take : Value} {od_take an_take : Option Addr} {sl_take : Array (Option Value)}
    {kV_take : Value}
    {f_of : Addr} {oc_of dc_of pm_of cd_of ct_of : Value} {od_of an_of : Option Addr} {sl_of : Array (Option Value)}
    {kV_of : Value}
    {f_out : Addr} {oc_out dc_out pm_out cd_out ct_out : Value} {od_out an_out : Option Addr} {sl_out : Array (Option Value)}
    {kV_out : Value}
    {f_ard : Addr} {oc_ard dc_ard pm_ard cd_ard ct_ard : Value} {od_ard an_ard : Option Addr} {sl_ard : Array (Option Value)}
    {kV_ard : Value}
    {f_don : Addr} {oc_don dc_don pm_don ct_don : Value} {od_don an_don : Option Addr} {sl_don : Array (Option Value)}
    {kV_don : Value}
    {f_law : Addr} {oc_law dc_law pm_law cd_law ct_law : Value} {od_law an_law : Option Addr} {sl_law : Array (Option Value)}
    {kV_law : Value}
    {f_fin : Addr} {oc_fin dc_fin pm_fin cd_fin ct_fin : Value} {od_fin an_fin : Option Addr} {sl_fin : Array (Option Value)}
    {kV_fin : Value}
    {f_si : Addr} {oc_si dc_si pm_si cd_si ct_si : Value} {od_si an_si : Option Addr} {sl_si : Array (Option Value)}
    {D_si : Addr}
    {tw_si0 : Tok}
    {tw_si1 : Tok}
    {f_con : Addr} {oc_con dc_con pm_con cd_con ct_con : Value} {od_con an_con : Option Addr} {sl_con : Array (Option Value)}
    {kV_con : Value}
    {f_tof : Addr} {oc_tof dc_tof pm_tof cd_tof ct_tof : Value} {od_tof an_tof : Option Addr} {sl_tof : Array (Option Value)}
    {kV_tof : Value}
    {f_itn : Addr} {oc_itn dc_itn pm_itn cd_itn ct_itn : Value} {od_itn an_itn : Option Addr} {sl_itn : Array (Option Value)}
    {kV_itn : Value}
    {f_tha : Addr} {oc_tha dc_tha pm_tha cd_tha ct_tha : Value} {od_tha an_tha : Option Addr} {sl_tha : Array (Option Value)}
    {kV_tha : Value}
    {f_sra : Addr} {oc_sra dc_sra pm_sra cd_sra ct_sra : Value} {od_sra an_sra : Option Addr} {sl_sra : Array (Option Value)}
    {kV_sra : Value}
    {f_frn : Addr} {oc_frn dc_frn pm_frn cd_frn ct_frn : Value} {od_frn an_frn : Option Addr} {sl_frn : Array (Option Value)}
    {kV_frn : Value}
    {f_fpr : Addr} {oc_fpr dc_fpr pm_fpr cd_fpr ct_fpr : Value} {od_fpr an_fpr : Option Addr} {sl_fpr : Array (Option Value)}
    {kV_fpr : Value}
    {f_nth : Addr} {oc_nth dc_nth pm_nth cd_nth ct_nth : Value} {od_nth an_nth : Option Addr} {sl_nth : Array (Option Value)}
    {kV_nth : Value}
    {f_unf : Addr} {oc_unf dc_unf pm_unf cd_unf ct_unf : Value} {od_unf an_unf : Option Addr} {sl_unf : Array (Option Value)}
    {kV_unf : Value}
    {f_nfy : Addr} {oc_nfy dc_nfy pm_nfy cd_nfy ct_nfy : Value} {od_nfy an_nfy : Option Addr} {sl_nfy : Array (Option Value)}
    {kV_nfy : Value}
    {f_nso : Addr} {oc_nso dc_nso pm_nso cd_nso ct_nso : Value} {od_nso an_nso : Option Addr} {sl_nso : Array (Option Value)}
    {kV_nso : Value}
    {f_cpy : Addr} {oc_cpy dc_cpy pm_cpy cd_cpy ct_cpy : Value} {od_cpy an_cpy : Option Addr} {sl_cpy : Array (Option Value)}
    {T_cpy : Addr} {dd_cpy : Option Addr} {nd_cpy : Nat} {sd_cpy : Array (Option Value)}
    {kV_cpy : Value}
    {f_frk : Addr} {oc_frk dc_frk pm_frk cd_frk ct_frk : Value} {od_frk an_frk : Option Addr} {sl_frk : Array (Option Value)}
    {kV_frk : Value}
    {f_arr : Addr} {oc_arr dc_arr pm_arr cd_arr ct_arr : Value} {od_arr an_arr : Option Addr} {sl_arr : Array (Option Value)}
    {T_arr : Addr} {dd_arr : Option Addr} {nd_arr : Nat} {sd_arr : Array (Option Value)}
    {tv_arr0 : Tok}
    {kV_arr : Value}
    {f_fsh : Addr} {oc_fsh dc_fsh pm_fsh cd_fsh ct_fsh : Value} {od_fsh an_fsh : Option Addr} {sl_fsh : Array (Option Value)}
    {kV_fsh : Value}
    {f_rd : Addr} {oc_rd dc_rd pm_rd cd_rd ct_rd : Value} {od_rd an_rd : Option Addr} {sl_rd : Array (Option Value)}
    {T_rd : Addr} {dd_rd : Option Addr} {nd_rd : Nat} {sd_rd : Array (Option Value)}
    {kV_rd : Value}
    {f_uni : Addr} {oc_uni dc_uni pm_uni cd_uni ct_uni : Value} {od_uni an_uni : Option Addr} {sl_uni : Array (Option Value)}
    {kV_uni : Value}
    {tMC tLP tLN tMP tMN : Tok}
    {nmD qD : Str} {ND : Addr} {bsD : List Value} {snD : List Str} {subD : List Value} {abD : Bool} {colD : Option Bool} {ddD : Option Addr} {mm0 mm1 mm2 mm3 mm5 : Option Value}
    (gCS : PySem.W.nsIn K mainGlobals "System" = some (some (.ref CS)))
    (gCD : PySem.W.nsIn K mainGlobals "Finished" = some (some (.ref CD)))
    (pgS : PySem.W.plainGet K CS Str.empty = true)
    (hdS : PySem.W.hasDictIn K CS = true)
    (poS : PySem.W.plainOver K CS = true)
    (saS : PySem.W.findIn K (.ref CS) "__setattr__" = some (some (.builtin "object.__setattr__")))
    (mkS : PySem.W.makesIn K CS = true)
    (kcS : PySem.W.keepIn K (.ref CS) = true)
    (noS0 : PySem.W.findIn K (.ref CS) "process_limit" = some none)
    (noS1 : PySem.W.findIn K (.ref CS) "number_limit" = some none)
    (noS2 : PySem.W.findIn K (.ref CS) "tables" = some none)
    (noS3 : PySem.W.findIn K (.ref CS) "sources" = some none)
    (noS4 : PySem.W.findIn K (.ref CS) "sets" = some none)
    (noS5 : PySem.W.findIn K (.ref CS) "next_thing" = some none)
    (aint : PySem.W.nsIn K mainGlobals "is_integer" = some (some (.ref f_int)))
    (lint : K.lookup f_int = some ⟨oc_int, od_int, .func (PySem.W.fnOf "is_integer" "is_integer" (defArgs sIsInteger) (defBody sIsInteger) (defScope sIsInteger) .none kV_int dc_int pm_int an_int cd_int ct_int), sl_int⟩)
    (cint : PySem.W.codeIn K cd_int "is_integer" = true)
    (kint : PySem.W.keepIn K (.ref f_int) = true)
    (abet : PySem.W.nsIn K mainGlobals "is_between" = some (some (.ref f_bet)))
    (lbet : K.lookup f_bet = some ⟨oc_bet, od_bet, .func (PySem.W.fnOf "is_between" "is_between" (defArgs sIsBetween) (defBody sIsBetween) (defScope sIsBetween) .none kV_bet dc_bet pm_bet an_bet cd_bet ct_bet), sl_bet⟩)
    (cbet : PySem.W.codeIn K cd_bet "is_between" = true)
    (kbet : PySem.W.keepIn K (.ref f_bet) = true)
    (acnt : PySem.W.nsIn K mainGlobals "is_count" = some (some (.ref f_cnt)))
    (lcnt : K.lookup f_cnt = some ⟨oc_cnt, od_cnt, .func (PySem.W.fnOf "is_count" "is_count" (defArgs sIsCount) (defBody sIsCount) (defScope sIsCount) .none kV_cnt dc_cnt pm_cnt an_cnt cd_cnt ct_cnt), sl_cnt⟩)
    (ccnt : PySem.W.codeIn K cd_cnt "is_count" = true)
    (kcnt : PySem.W.keepIn K (.ref f_cnt) = true)
    (abag : PySem.W.nsIn K mainGlobals "_law_bag" = some (some (.ref f_bag)))
    (lbag : K.lookup f_bag = some ⟨oc_bag, od_bag, .func (PySem.W.fnOf "_law_bag" "_law_bag" (defArgs sBag) (defBody sBag) (defScope sBag) .none kV_bag dc_bag pm_bag an_bag cd_bag ct_bag), sl_bag⟩)
    (cbag : PySem.W.codeIn K cd_bag "_law_bag" = true)
    (kbag : PySem.W.keepIn K (.ref f_bag) = true)
    (atake : PySem.W.nsIn K mainGlobals "_law_take" = some (some (.ref f_take)))
    (ltake : K.lookup f_take = some ⟨oc_take, od_take, .func (PySem.W.fnOf "_law_take" "_law_take" (defArgs sTake) (defBody sTake) (defScope sTake) .none kV_take dc_take pm_take an_take cd_take ct_take), sl_take⟩)
    (ctake : PySem.W.codeIn K cd_take "_law_take" = true)
    (ktake : PySem.W.keepIn K (.ref f_take) = true)
    (aof : PySem.W.nsIn K mainGlobals "_law_of" = some (some (.ref f_of)))
    (lof : K.lookup f_of = some ⟨oc_of, od_of, .func (PySem.W.fnOf "_law_of" "_law_of" (defArgs sOf) (defBody sOf) (defScope sOf) .none kV_of dc_of pm_of an_of cd_of ct_of), sl_of⟩)
    (cof : PySem.W.codeIn K cd_of "_law_of" = true)
    (kof : PySem.W.keepIn K (.ref f_of) = true)
    (aout : PySem.W.nsIn K mainGlobals "_law_outcome" = some (some (.ref f_out)))
    (lout : K.lookup f_out = some ⟨oc_out, od_out, .func (PySem.W.fnOf "_law_outcome" "_law_outcome" (defArgs sOutcome) (defBody sOutcome) (defScope sOutcome) .none kV_out dc_out pm_out an_out cd_out ct_out), sl_out⟩)
    (cout : PySem.W.codeIn K cd_out "_law_outcome" = true)
    (kout : PySem.W.keepIn K (.ref f_out) = true)
    (aard : PySem.W.nsIn K mainGlobals "_law_arrived" = some (some (.ref f_ard)))
    (lard : K.lookup f_ard = some ⟨oc_ard, od_ard, .func (PySem.W.fnOf "_law_arrived" "_law_arrived" (defArgs sArrived) (defBody sArrived) (defScope sArrived) .none kV_ard dc_ard pm_ard an_ard cd_ard ct_ard), sl_ard⟩)
    (card : PySem.W.codeIn K cd_ard "_law_arrived" = true)
    (kard : PySem.W.keepIn K (.ref f_ard) = true)
    (adon : PySem.W.nsIn K mainGlobals "_law_done" = some (some (.ref f_don)))
    (ldon : K.lookup f_don = some ⟨oc_don, od_don, .func (PySem.W.fnOf "_law_done" "_law_done" (defArgs sDone) (defBody sDone) (defScope sDone) .none kV_don dc_don pm_don an_don (.ref cDone) ct_don), sl_don⟩)
    (cdon : PySem.W.codeIn K (.ref cDone) "_law_done" = true)
    (kdon : PySem.W.keepIn K (.ref f_don) = true)
    (alaw : PySem.W.nsIn K mainGlobals "law" = some (some (.ref f_law)))
    (llaw : K.lookup f_law = some ⟨oc_law, od_law, .func (PySem.W.fnOf "law" "law" (defArgs sLaw) (defBody sLaw) (defScope sLaw) .none kV_law dc_law pm_law an_law cd_law ct_law), sl_law⟩)
    (claw : PySem.W.codeIn K cd_law "law" = true)
    (klaw : PySem.W.keepIn K (.ref f_law) = true)
    (afin : PySem.W.findIn K (.ref CD) "__init__" = some (some (.ref f_fin)))
    (ifin : PySem.W.isFn K (.ref f_fin) = true)
    (lfin : K.lookup f_fin = some ⟨oc_fin, od_fin, .func (PySem.W.fnOf "__init__" "Finished.__init__" (defArgs sFinInit) (defBody sFinInit) (defScope sFinInit) .none kV_fin dc_fin pm_fin an_fin cd_fin ct_fin), sl_fin⟩)
    (cfin : PySem.W.codeIn K cd_fin "Finished.__init__" = true)
    (kfin : PySem.W.keepIn K (.ref f_fin) = true)
    (asi : PySem.W.findIn K (.ref CS) "__init__" = some (some (.ref f_si)))
    (isi : PySem.W.isFn K (.ref f_si) = true)
    (lsi : K.lookup f_si = some ⟨oc_si, od_si, .func (PySem.W.fnOf "__init__" "System.__init__" (defArgs sSysInit) (defBody sSysInit) (defScope sSysInit) .none (.ref D_si) dc_si pm_si an_si cd_si ct_si), sl_si⟩)
    (csi : PySem.W.codeIn K cd_si "System.__init__" = true)
    (ksi : PySem.W.keepIn K (.ref f_si) = true)
    (wsi0 : PySem.W.nsIn K D_si "processes" = some (some (.int 4 tw_si0)))
    (wsi1 : PySem.W.nsIn K D_si "numbers" = some (some (.int 8 tw_si1)))
    (acon : PySem.W.findIn K (.ref CS) "__contains__" = some (some (.ref f_con)))
    (icon : PySem.W.isFn K (.ref f_con) = true)
    (lcon : K.lookup f_con = some ⟨oc_con, od_con, .func (PySem.W.fnOf "__contains__" "System.__contains__" (defArgs sContains) (defBody sContains) (defScope sContains) .none kV_con dc_con pm_con an_con cd_con ct_con), sl_con⟩)
    (ccon : PySem.W.codeIn K cd_con "System.__contains__" = true)
    (kcon : PySem.W.keepIn K (.ref f_con) = true)
    (atof : PySem.W.findIn K (.ref CS) "table_of" = some (some (.ref f_tof)))
    (itof : PySem.W.isFn K (.ref f_tof) = true)
    (ltof : K.lookup f_tof = some ⟨oc_tof, od_tof, .func (PySem.W.fnOf "table_of" "System.table_of" (defArgs sTableOf) (defBody sTableOf) (defScope sTableOf) .none kV_tof dc_tof pm_tof an_tof cd_tof ct_tof), sl_tof⟩)
    (ctof : PySem.W.codeIn K cd_tof "System.table_of" = true)
    (ktof : PySem.W.keepIn K (.ref f_tof) = true)
    (aitn : PySem.W.findIn K (.ref CS) "is_table_number" = some (some (.ref f_itn)))
    (iitn : PySem.W.isFn K (.ref f_itn) = true)
    (litn : K.lookup f_itn = some ⟨oc_itn, od_itn, .func (PySem.W.fnOf "is_table_number" "System.is_table_number" (defArgs sIsTabNum) (defBody sIsTabNum) (defScope sIsTabNum) .none kV_itn dc_itn pm_itn an_itn cd_itn ct_itn), sl_itn⟩)
    (citn : PySem.W.codeIn K cd_itn "System.is_table_number" = true)
    (kitn : PySem.W.keepIn K (.ref f_itn) = true)
    (atha : PySem.W.findIn K (.ref CS) "thing_at" = some (some (.ref f_tha)))
    (itha : PySem.W.isFn K (.ref f_tha) = true)
    (ltha : K.lookup f_tha = some ⟨oc_tha, od_tha, .func (PySem.W.fnOf "thing_at" "System.thing_at" (defArgs sThingAt) (defBody sThingAt) (defScope sThingAt) .none kV_tha dc_tha pm_tha an_tha cd_tha ct_tha), sl_tha⟩)
    (ctha : PySem.W.codeIn K cd_tha "System.thing_at" = true)
    (ktha : PySem.W.keepIn K (.ref f_tha) = true)
    (asra : PySem.W.findIn K (.ref CS) "source_at" = some (some (.ref f_sra)))
    (isra : PySem.W.isFn K (.ref f_sra) = true)
    (lsra : K.lookup f_sra = some ⟨oc_sra, od_sra, .func (PySem.W.fnOf "source_at" "System.source_at" (defArgs sSourceAt) (defBody sSourceAt) (defScope sSourceAt) .none kV_sra dc_sra pm_sra an_sra cd_sra ct_sra), sl_sra⟩)
    (csra : PySem.W.codeIn K cd_sra "System.source_at" = true)
    (ksra : PySem.W.keepIn K (.ref f_sra) = true)
    (afrn : PySem.W.findIn K (.ref CS) "free_number" = some (some (.ref f_frn)))
    (ifrn : PySem.W.isFn K (.ref f_frn) = true)
    (lfrn : K.lookup f_frn = some ⟨oc_frn, od_frn, .func (PySem.W.fnOf "free_number" "System.free_number" (defArgs sFreeNum) (defBody sFreeNum) (defScope sFreeNum) .none kV_frn dc_frn pm_frn an_frn cd_frn ct_frn), sl_frn⟩)
    (cfrn : PySem.W.codeIn K cd_frn "System.free_number" = true)
    (kfrn : PySem.W.keepIn K (.ref f_frn) = true)
    (afpr : PySem.W.findIn K (.ref CS) "free_process" = some (some (.ref f_fpr)))
    (ifpr : PySem.W.isFn K (.ref f_fpr) = true)
    (lfpr : K.lookup f_fpr = some ⟨oc_fpr, od_fpr, .func (PySem.W.fnOf "free_process" "System.free_process" (defArgs sFreeProc) (defBody sFreeProc) (defScope sFreeProc) .none kV_fpr dc_fpr pm_fpr an_fpr cd_fpr ct_fpr), sl_fpr⟩)
    (cfpr : PySem.W.codeIn K cd_fpr "System.free_process" = true)
    (kfpr : PySem.W.keepIn K (.ref f_fpr) = true)
    (anth : PySem.W.findIn K (.ref CS) "new_thing" = some (some (.ref f_nth)))
    (inth : PySem.W.isFn K (.ref f_nth) = true)
    (lnth : K.lookup f_nth = some ⟨oc_nth, od_nth, .func (PySem.W.fnOf "new_thing" "System.new_thing" (defArgs sNewThing) (defBody sNewThing) (defScope sNewThing) .none kV_nth dc_nth pm_nth an_nth cd_nth ct_nth), sl_nth⟩)
    (cnth : PySem.W.codeIn K cd_nth "System.new_thing" = true)
    (knth : PySem.W.keepIn K (.ref f_nth) = true)
    (aunf : PySem.W.findIn K (.ref CS) "unread_of_unfinished" = some (some (.ref f_unf)))
    (iunf : PySem.W.isFn K (.ref f_unf) = true)
    (lunf : K.lookup f_unf = some ⟨oc_unf, od_unf, .func (PySem.W.fnOf "unread_of_unfinished" "System.unread_of_unfinished" (defArgs sUnfinished) (defBody sUnfinished) (defScope sUnfinished) .none kV_unf dc_unf pm_unf an_unf cd_unf ct_unf), sl_unf⟩)
    (cunf : PySem.W.codeIn K cd_unf "System.unread_of_unfinished" = true)
    (kunf : PySem.W.keepIn K (.ref f_unf) = true)
    (anfy : PySem.W.findIn K (.ref CS) "notify" = some (some (.ref f_nfy)))
    (infy : PySem.W.isFn K (.ref f_nfy) = true)
    (lnfy : K.lookup f_nfy = some ⟨oc_nfy, od_nfy, .func (PySem.W.fnOf "notify" "System.notify" (defArgs sNotify) (defBody sNotify) (defScope sNotify) .none kV_nfy dc_nfy pm_nfy an_nfy cd_nfy ct_nfy), sl_nfy⟩)
    (cnfy : PySem.W.codeIn K cd_nfy "System.notify" = true)
    (knfy : PySem.W.keepIn K (.ref f_nfy) = true)
    (anso : PySem.W.findIn K (.ref CS) "new_source" = some (some (.ref f_nso)))
    (inso : PySem.W.isFn K (.ref f_nso) = true)
    (lnso : K.lookup f_nso = some ⟨oc_nso, od_nso, .func (PySem.W.fnOf "new_source" "System.new_source" (defArgs sNewSource) (defBody sNewSource) (defScope sNewSource) .none kV_nso dc_nso pm_nso an_nso cd_nso ct_nso), sl_nso⟩)
    (cnso : PySem.W.codeIn K cd_nso "System.new_source" = true)
    (knso : PySem.W.keepIn K (.ref f_nso) = true)
    (acpy : PySem.W.findIn K (.ref CS) "copy" = some (some (.ref f_cpy)))
    (icpy : PySem.W.isFn K (.ref f_cpy) = true)
    (lcpy : K.lookup f_cpy = some ⟨oc_cpy, od_cpy, .func (PySem.W.fnOf "copy" "System.copy" (defArgs sCopy) (defBody sCopy) (defScope sCopy) (.ref T_cpy) kV_cpy dc_cpy pm_cpy an_cpy cd_cpy ct_cpy), sl_cpy⟩)
    (ccpy : PySem.W.codeIn K cd_cpy "System.copy" = true)
    (kcpy : PySem.W.keepIn K (.ref f_cpy) = true)
    (Lcpy : K.lookup T_cpy = some ⟨.type "tuple", dd_cpy, .seq #[.none] nd_cpy, sd_cpy⟩)
    (afrk : PySem.W.findIn K (.ref CS) "fork" = some (some (.ref f_frk)))
    (ifrk : PySem.W.isFn K (.ref f_frk) = true)
    (lfrk : K.lookup f_frk = some ⟨oc_frk, od_frk, .func (PySem.W.fnOf "fork" "System.fork" (defArgs sFork) (defBody sFork) (defScope sFork) .none kV_frk dc_frk pm_frk an_frk cd_frk ct_frk), sl_frk⟩)
    (cfrk : PySem.W.codeIn K cd_frk "System.fork" = true)
    (kfrk : PySem.W.keepIn K (.ref f_frk) = true)
    (aarr : PySem.W.findIn K (.ref CS) "arrive" = some (some (.ref f_arr)))
    (iarr : PySem.W.isFn K (.ref f_arr) = true)
    (larr : K.lookup f_arr = some ⟨oc_arr, od_arr, .func (PySem.W.fnOf "arrive" "System.arrive" (defArgs sArrive) (defBody sArrive) (defScope sArrive) (.ref T_arr) kV_arr dc_arr pm_arr an_arr cd_arr ct_arr), sl_arr⟩)
    (carr : PySem.W.codeIn K cd_arr "System.arrive" = true)
    (karr : PySem.W.keepIn K (.ref f_arr) = true)
    (Larr : K.lookup T_arr = some ⟨.type "tuple", dd_arr, .seq #[.int 1 tv_arr0] nd_arr, sd_arr⟩)
    (afsh : PySem.W.findIn K (.ref CS) "finish" = some (some (.ref f_fsh)))
    (ifsh : PySem.W.isFn K (.ref f_fsh) = true)
    (lfsh : K.lookup f_fsh = some ⟨oc_fsh, od_fsh, .func (PySem.W.fnOf "finish" "System.finish" (defArgs sFinish) (defBody sFinish) (defScope sFinish) .none kV_fsh dc_fsh pm_fsh an_fsh cd_fsh ct_fsh), sl_fsh⟩)
    (cfsh : PySem.W.codeIn K cd_fsh "System.finish" = true)
    (kfsh : PySem.W.keepIn K (.ref f_fsh) = true)
    (ard : PySem.W.findIn K (.ref CS) "read" = some (some (.ref f_rd)))
    (ird : PySem.W.isFn K (.ref f_rd) = true)
    (lrd : K.lookup f_rd = some ⟨oc_rd, od_rd, .func (PySem.W.fnOf "read" "System.read" (defArgs sRead) (defBody sRead) (defScope sRead) (.ref T_rd) kV_rd dc_rd pm_rd an_rd cd_rd ct_rd), sl_rd⟩)
    (crd : PySem.W.codeIn K cd_rd "System.read" = true)
    (krd : PySem.W.keepIn K (.ref f_rd) = true)
    (Lrd : K.lookup T_rd = some ⟨.type "tuple", dd_rd, .seq #[.none] nd_rd, sd_rd⟩)
    (auni : PySem.W.findIn K (.ref CS) "units" = some (some (.ref f_uni)))
    (iuni : PySem.W.isFn K (.ref f_uni) = true)
    (luni : K.lookup f_uni = some ⟨oc_uni, od_uni, .func (PySem.W.fnOf "units" "System.units" (defArgs sUnits) (defBody sUnits) (defScope sUnits) .none kV_uni dc_uni pm_uni an_uni cd_uni ct_uni), sl_uni⟩)
    (cuni : PySem.W.codeIn K cd_uni "System.units" = true)
    (kuni : PySem.W.keepIn K (.ref f_uni) = true)
    (z_len : PySem.W.nsIn K mainGlobals "len" = some none)
    (z_enumerate : PySem.W.nsIn K mainGlobals "enumerate" = some none)
    (z_int : PySem.W.nsIn K mainGlobals "int" = some none)
    (z_abs : PySem.W.nsIn K mainGlobals "abs" = some none)
    (z_isinstance : PySem.W.nsIn K mainGlobals "isinstance" = some none)
    (z_bool : PySem.W.nsIn K mainGlobals "bool" = some none)
    (z_list : PySem.W.nsIn K mainGlobals "list" = some none)
    (z_min : PySem.W.nsIn K mainGlobals "min" = some none)
    (z_max : PySem.W.nsIn K mainGlobals "max" = some none)
    (z_range : PySem.W.nsIn K mainGlobals "range" = some none)
    (z_sorted : PySem.W.nsIn K mainGlobals "sorted" = some none)
    (z_repr : PySem.W.nsIn K mainGlobals "repr" = some none)
    (z_tuple : PySem.W.nsIn K mainGlobals "tuple" = some none)
    (z_RuntimeError : PySem.W.nsIn K mainGlobals "RuntimeError" = some none)
    (gMC : PySem.W.nsIn K mainGlobals "MOST_COUNT" = some (some (.int 1000000 tMC)))
    (gLP : PySem.W.nsIn K mainGlobals "LEAST_PROCESSES" = some (some (.int 2 tLP)))
    (gLN : PySem.W.nsIn K mainGlobals "LEAST_NUMBERS" = some (some (.int 3 tLN)))
    (gMP : PySem.W.findIn K (.ref CS) "MOST_PROCESSES" = some (some (.int 6 tMP)))
    (gMN : PySem.W.findIn K (.ref CS) "MOST_NUMBERS" = some (some (.int 8 tMN)))
    (sMP : PySem.W.specialIn K (.int 6 tMP) "__get__" = some none)
    (sMN : PySem.W.specialIn K (.int 8 tMN) "__get__" = some none)
    (xL : K.lookup CD = some (excClassObj nmD qD CD ND bsD [.type "RuntimeError", .type "Exception", .type "BaseException", .type "object"] true snD subD abD colD ddD mm0 mm1 mm2 mm3 mm5 "RuntimeError.__new__"))
    (xsa : PySem.W.findIn K (.ref CD) "__setattr__" = some (some (.builtin "object.__setattr__")))
    (xga : PySem.W.findIn K (.ref CD) "__getattribute__" = some (some (.builtin "BaseException.__getattribute__")))
    (xgg : PySem.W.findIn K (.ref CD) "__getattr__" = some none)
    (xnb : PySem.W.findIn K (.ref CD) "number" = some none)
    (xvV : PySem.W.findCls K (.type "RuntimeError") (.type "type") "__init__" = some (.val (.builtin "RuntimeError.__init__")))
    (xtI : PySem.W.typeIn K (.ref f_fin) = some (.type "function"))
    (xkC : PySem.W.keepIn K (.ref CD) = true)
    (xeC : PySem.W.subIn K (.ref CD) (.type "BaseException") = some true)
    (xtC : PySem.W.typeIn K (.ref CD) = some (.type "type"))
    (xhC : PySem.W.hasDictIn K CD = true)
    (xte : PySem.W.exmOne K (.ref CD) (.ref CD) = some true)
    (xC1 : PySem.W.findIn K (.ref CD) "__class__" = some (some (.builtin "object.__class__")))
    (xC2 : PySem.W.specialIn K (.builtin "object.__class__") "__get__" = some (some (.builtin "getset_descriptor.__get__")))
    (xC3 : PySem.W.takesIn K (.builtin "object.__class__") = some true)
    (xC4 : PySem.W.mroIn K CD (.type "object") = some true)
    (xC5 : (PySem.W.clsIn K CD).isSome = true)
    (xkv : PySem.W.kitOne K (.ref CD) (.type "RuntimeError") = some true)
    (xhd : PySem.W.codeHdIn K cDone Pt = true)
    (xb3 : mainGlobals ≠ Pt) :
    ∃ fd : FuncData, (∀ (s : Shared) (u : Value), BindsTo s fd ⟨[u], []⟩ [("_law_script", u)]) ∧ (∀ base : Heap, K.In base → base.Ns mainGlobals mg → base.BuiltinsAt mg Pt → FnG P w K mg base CX0 10 fa fd ["_law_script"] (spLaw K Pt)) ∧
      ∀ (H : Hp) (a : Addr) (ns : List Int), ns.length ≤ 63 → SqL K H a (ns.map V.int) → H Pt = some (.tbl #[]) → spLaw K Pt [.ref a] H (fun v _ => v = .bl true) fun _ _ _ => False := by
  have e := hfa.symm.trans (PySem.W.mg_of X G alaw)
  cases e
  have Fint := fun_mk (st := sIsInteger) lint cint kint
  have bint := Fint.binds (ps := ["x"]) fun _ _ _ _ _ _ us hl => match us, hl with | [_], _ => rfl
  have mint := PySem.W.mg_of X G aint
  have Fbet := fun_mk (st := sIsBetween) lbet cbet kbet
  have bbet := Fbet.binds (ps := ["x", "least", "most"]) fun _ _ _ _ _ _ us hl => match us, hl with | [_, _, _], _ => rfl
  have mbet := PySem.W.mg_of X G abet
  have Fcnt := fun_mk (st := sIsCount) lcnt ccnt kcnt
  have bcnt := Fcnt.binds (ps := ["x"]) fun _ _ _ _ _ _ us hl => match us, hl with | [_], _ => rfl
  have mcnt := PySem.W.mg_of X G acnt
  have Fbag := fun_mk (st := sBag) lbag cbag kbag
  have bbag := Fbag.binds (ps := ["_law_script", "_law_at"]) fun _ _ _ _ _ _ us hl => match us, hl with | [_, _], _ => rfl
  have mbag := PySem.W.mg_of X G abag
  have Ftake := fun_mk (st := sTake) ltake ctake ktake
  have btake := Ftake.binds (ps := ["_law_bag_here", "_law_lot"]) fun _ _ _ _ _ _ us hl => match us, hl with | [_, _], _ => rfl
  have mtake := PySem.W.mg_of X G atake
  have Fof := fun_mk (st := sOf) lof cof kof
  have bof := Fof.binds (ps := ["_law_bag_here", "_law_some"]) fun _ _ _ _ _ _ us hl => match us, hl with | [_, _], _ => rfl
  have mof := PySem.W.mg_of X G aof
  have Fout := fun_mk (st := sOutcome) lout cout kout
  have bout := Fout.binds (ps := ["_law_deed"]) fun _ _ _ _ _ _ us hl => match us, hl with | [_], _ => rfl
  have mout := PySem.W.mg_of X G aout
  have Fard := fun_mk (st := sArrived) lard card kard
  have bard := Fard.binds (ps := ["_law_units", "_law_n", "_law_lot", "_law_finishes"]) fun _ _ _ _ _ _ us hl => match us, hl with | [_, _, _, _], _ => rfl
  have mard := PySem.W.mg_of X G aard
  have Fdon := fun_mk (st := sDone) ldon cdon kdon
  have bdon := Fdon.binds (ps := ["_law_bag_here", "_law_box", "_law_p", "_law_n", "_law_units"]) fun _ _ _ _ _ _ us hl => match us, hl with | [_, _, _, _, _], _ => rfl
  have mdon := PySem.W.mg_of X G adon
  have Flaw := fun_mk (st := sLaw) llaw claw klaw
  have blaw := Flaw.binds (ps := ["_law_script"]) fun _ _ _ _ _ _ us hl => match us, hl with | [_], _ => rfl
  have mlaw := PySem.W.mg_of X G alaw
  have Ffin := fun_mk (st := sFinInit) lfin cfin kfin
  have bfin := Ffin.binds (ps := ["self", "number"]) fun _ _ _ _ _ _ us hl => match us, hl with | [_, _], _ => rfl
  have Fsi : FunD K "__init__" "System.__init__" (defArgs sSysInit) (defBody sSysInit) (defScope sSysInit) ([] : List V) ([("processes", V.int 4), ("numbers", V.int 8)] : List (Str × V)) f_si (PySem.W.fnOf "__init__" "System.__init__" (defArgs sSysInit) (defBody sSysInit) (defScope sSysInit) .none (.ref D_si) dc_si pm_si an_si cd_si ct_si) := ⟨⟨_, _, .none, (.ref D_si), _, _, _, _, _, _, rfl, lsi, csi, .inl ⟨rfl, rfl⟩, .inr ⟨D_si, rfl, fun q hq => by
    simp only [List.mem_cons, List.not_mem_nil, or_false] at hq
    rcases hq with rfl | rfl
    · exact ⟨_, wsi0, _, rfl⟩
    · exact ⟨_, wsi1, _, rfl⟩⟩⟩, ksi⟩
  obtain ⟨dssi, vsi, bsi⟩ := Fsi.binds0 (ps := ["self", "processes", "numbers"]) 1 (by intro z; cases z) rfl fun _ _ _ _ _ _ us ks hu hk => match us, ks, hu, hk with | [u0], [x0, x1], _, _ => ⟨_, _, _, _, _, _, rfl, rfl, ⟨_, _, _, _, _, _, rfl, rfl, rfl⟩⟩
  have Fcon := fun_mk (st := sContains) lcon ccon kcon
  have bcon := Fcon.binds (ps := ["self", "x"]) fun _ _ _ _ _ _ us hl => match us, hl with | [_, _], _ => rfl
  have Ftof := fun_mk (st := sTableOf) ltof ctof ktof
  have btof := Ftof.binds (ps := ["self", "process"]) fun _ _ _ _ _ _ us hl => match us, hl with | [_, _], _ => rfl
  have Fitn := fun_mk (st := sIsTabNum) litn citn kitn
  have bitn := Fitn.binds (ps := ["self", "number"]) fun _ _ _ _ _ _ us hl => match us, hl with | [_, _], _ => rfl
  have Ftha := fun_mk (st := sThingAt) ltha ctha ktha
  have btha := Ftha.binds (ps := ["self", "process", "number"]) fun _ _ _ _ _ _ us hl => match us, hl with | [_, _, _], _ => rfl
  have Fsra := fun_mk (st := sSourceAt) lsra csra ksra
  have bsra := Fsra.binds (ps := ["self", "process", "number"]) fun _ _ _ _ _ _ us hl => match us, hl with | [_, _, _], _ => rfl
  have Ffrn := fun_mk (st := sFreeNum) lfrn cfrn kfrn
  have bfrn := Ffrn.binds (ps := ["self", "process"]) fun _ _ _ _ _ _ us hl => match us, hl with | [_, _], _ => rfl
  have Ffpr := fun_mk (st := sFreeProc) lfpr cfpr kfpr
  have bfpr := Ffpr.binds (ps := ["self"]) fun _ _ _ _ _ _ us hl => match us, hl with | [_], _ => rfl
  have Fnth := fun_mk (st := sNewThing) lnth cnth knth
  have bnth := Fnth.binds (ps := ["self", "process"]) fun _ _ _ _ _ _ us hl => match us, hl with | [_, _], _ => rfl
  have Funf := fun_mk (st := sUnfinished) lunf cunf kunf
  have bunf := Funf.binds (ps := ["self", "source", "number"]) fun _ _ _ _ _ _ us hl => match us, hl with | [_, _, _], _ => rfl
  have Fnfy := fun_mk (st := sNotify) lnfy cnfy knfy
  have bnfy := Fnfy.binds (ps := ["self", "source"]) fun _ _ _ _ _ _ us hl => match us, hl with | [_, _], _ => rfl
  have Fnso := fun_mk (st := sNewSource) lnso cnso knso
  have bnso := Fnso.binds (ps := ["self", "process"]) fun _ _ _ _ _ _ us hl => match us, hl with | [_, _], _ => rfl
  have Fcpy : FunD K "copy" "System.copy" (defArgs sCopy) (defBody sCopy) (defScope sCopy) ([V.non] : List V) ([] : List (Str × V)) f_cpy (PySem.W.fnOf "copy" "System.copy" (defArgs sCopy) (defBody sCopy) (defScope sCopy) (.ref T_cpy) kV_cpy dc_cpy pm_cpy an_cpy cd_cpy ct_cpy) := ⟨⟨_, _, (.ref T_cpy), kV_cpy, _, _, _, _, _, _, rfl, lcpy, ccpy, .inr ⟨(by intro z; cases z), T_cpy, _, [.none], nd_cpy, rfl, Lcpy, rfl, (.cons rfl .nil)⟩, .inl rfl⟩, kcpy⟩
  obtain ⟨dscpy, vcpy, bcpy⟩ := Fcpy.binds1 (ps := ["self", "process", "number", "to"]) 3 0 (by intro z; cases z) rfl fun _ _ _ _ _ _ _ us its hu hi => match us, its, hu, hi with | [u0, u1, u2], [x0], _, _ => ⟨_, rfl, rfl⟩
  have Bcpy : Binds K (PySem.W.fnOf "copy" "System.copy" (defArgs sCopy) (defBody sCopy) (defScope sCopy) (.ref T_cpy) kV_cpy dc_cpy pm_cpy an_cpy cd_cpy ct_cpy) (["self", "process", "number", "to"] : List Str) [] := by
    obtain ⟨ds, v, b⟩ := Fcpy.binds1 (ps := ["self", "process", "number", "to"]) 4 1 (by intro z; cases z) rfl fun _ _ _ _ _ _ _ us its hu hi => match us, its, hu, hi with | [u0, u1, u2, u3], [x0], _, _ => ⟨_, rfl, rfl⟩
    cases v
    exact b
  have Ffrk := fun_mk (st := sFork) lfrk cfrk kfrk
  have bfrk := Ffrk.binds (ps := ["self", "process"]) fun _ _ _ _ _ _ us hl => match us, hl with | [_, _], _ => rfl
  have Farr : FunD K "arrive" "System.arrive" (defArgs sArrive) (defBody sArrive) (defScope sArrive) ([V.int 1] : List V) ([] : List (Str × V)) f_arr (PySem.W.fnOf "arrive" "System.arrive" (defArgs sArrive) (defBody sArrive) (defScope sArrive) (.ref T_arr) kV_arr dc_arr pm_arr an_arr cd_arr ct_arr) := ⟨⟨_, _, (.ref T_arr), kV_arr, _, _, _, _, _, _, rfl, larr, carr, .inr ⟨(by intro z; cases z), T_arr, _, [.int 1 tv_arr0], nd_arr, rfl, Larr, rfl, (.cons ⟨_, rfl⟩ .nil)⟩, .inl rfl⟩, karr⟩
  obtain ⟨dsarr, varr, barr⟩ := Farr.binds1 (ps := ["self", "process", "number", "many"]) 3 0 (by intro z; cases z) rfl fun _ _ _ _ _ _ _ us its hu hi => match us, its, hu, hi with | [u0, u1, u2], [x0], _, _ => ⟨_, rfl, rfl⟩
  have Barr : Binds K (PySem.W.fnOf "arrive" "System.arrive" (defArgs sArrive) (defBody sArrive) (defScope sArrive) (.ref T_arr) kV_arr dc_arr pm_arr an_arr cd_arr ct_arr) (["self", "process", "number", "many"] : List Str) [] := by
    obtain ⟨ds, v, b⟩ := Farr.binds1 (ps := ["self", "process", "number", "many"]) 4 1 (by intro z; cases z) rfl fun _ _ _ _ _ _ _ us its hu hi => match us, its, hu, hi with | [u0, u1, u2, u3], [x0], _, _ => ⟨_, rfl, rfl⟩
    cases v
    exact b
  have warr := kb1 Farr (ps := ["self", "process", "number", "many"]) 1 ["process", "number", "many"] (by intro z; cases z) fun _ _ _ _ _ _ _ us its ws hu hi hw => match us, its, ws, hu, hi, hw with | [u0], [x0], [y0, y1, y2], _, _, _ => ⟨_, rfl, rfl⟩
  have Ffsh := fun_mk (st := sFinish) lfsh cfsh kfsh
  have bfsh := Ffsh.binds (ps := ["self", "process", "number"]) fun _ _ _ _ _ _ us hl => match us, hl with | [_, _, _], _ => rfl
  have Frd : FunD K "read" "System.read" (defArgs sRead) (defBody sRead) (defScope sRead) ([V.non] : List V) ([] : List (Str × V)) f_rd (PySem.W.fnOf "read" "System.read" (defArgs sRead) (defBody sRead) (defScope sRead) (.ref T_rd) kV_rd dc_rd pm_rd an_rd cd_rd ct_rd) := ⟨⟨_, _, (.ref T_rd), kV_rd, _, _, _, _, _, _, rfl, lrd, crd, .inr ⟨(by intro z; cases z), T_rd, _, [.none], nd_rd, rfl, Lrd, rfl, (.cons rfl .nil)⟩, .inl rfl⟩, krd⟩
  obtain ⟨dsrd, vrd, brd⟩ := Frd.binds1 (ps := ["self", "process", "number", "many"]) 3 0 (by intro z; cases z) rfl fun _ _ _ _ _ _ _ us its hu hi => match us, its, hu, hi with | [u0, u1, u2], [x0], _, _ => ⟨_, rfl, rfl⟩
  have Brd : Binds K (PySem.W.fnOf "read" "System.read" (defArgs sRead) (defBody sRead) (defScope sRead) (.ref T_rd) kV_rd dc_rd pm_rd an_rd cd_rd ct_rd) (["self", "process", "number", "many"] : List Str) [] := by
    obtain ⟨ds, v, b⟩ := Frd.binds1 (ps := ["self", "process", "number", "many"]) 4 1 (by intro z; cases z) rfl fun _ _ _ _ _ _ _ us its hu hi => match us, its, hu, hi with | [u0, u1, u2, u3], [x0], _, _ => ⟨_, rfl, rfl⟩
    cases v
    exact b
  have wrd := kb1 Frd (ps := ["self", "process", "number", "many"]) 2 ["number", "many"] (by intro z; cases z) fun _ _ _ _ _ _ _ us its ws hu hi hw => match us, its, ws, hu, hi, hw with | [u0, u1], [x0], [y0, y1], _, _, _ => ⟨_, rfl, rfl⟩
  have Funi := fun_mk (st := sUnits) luni cuni kuni
  have buni := Funi.binds (ps := ["self", "process", "number"]) fun _ _ _ _ _ _ us hl => match us, hl with | [_, _, _], _ => rfl
  have wuni : KBn K (PySem.W.fnOf "units" "System.units" (defArgs sUnits) (defBody sUnits) (defScope sUnits) .none kV_uni dc_uni pm_uni an_uni cd_uni ct_uni) ["self", "process", "number"] 2 ["number"] (fun us ws => us ++ ws) (fun vs zs => vs ++ zs) := ⟨fun s us ws _ hu hw => match us, ws, hu, hw with | [u0, u1], [y0], _, _ => .of_eq rfl, fun a b => a.append b⟩
  have DT : DrawTxt mg := ⟨(PySem.W.mg_none_of X G z_len), (PySem.W.mg_none_of X G z_enumerate), (PySem.W.mg_none_of X G z_int), (PySem.W.mg_none_of X G z_abs)⟩
  have CT : ChkTxt K mg := ⟨(PySem.W.mg_none_of X G z_isinstance), (PySem.W.mg_none_of X G z_int), (PySem.W.mg_none_of X G z_bool), ⟨tMC, PySem.W.mg_of X G gMC⟩⟩
  have YT : SysTxt mg := ⟨(PySem.W.mg_none_of X G z_enumerate), (PySem.W.mg_none_of X G z_list), (PySem.W.mg_none_of X G z_min)⟩
  have LX : LawTx mg := ⟨(PySem.W.mg_none_of X G z_range), (PySem.W.mg_none_of X G z_max), (PySem.W.mg_none_of X G z_min), (PySem.W.mg_none_of X G z_len), (PySem.W.mg_none_of X G z_sorted), (PySem.W.mg_none_of X G z_repr), (PySem.W.mg_none_of X G z_tuple)⟩
  have TS : ClsF K CS sysF := ⟨⟨pgS, hdS, poS, saS⟩, fun f hf => by
    simp only [sysF, List.mem_cons, List.not_mem_nil, or_false] at hf
    rcases hf with rfl | rfl | rfl | rfl | rfl | rfl
    · exact noS0
    · exact noS1
    · exact noS2
    · exact noS3
    · exact noS4
    · exact noS5⟩
  have LT : LimTxt K mg CS := ⟨⟨tLP, PySem.W.mg_of X G gLP⟩, ⟨tLN, PySem.W.mg_of X G gLN⟩, ⟨_, gMP, ⟨_, rfl⟩, sMP, by decide⟩, ⟨_, gMN, ⟨_, rfl⟩, sMN, by decide⟩⟩
  have KS : Mk K CS f_si := ⟨mkS, asi, isi, kcS⟩
  have gmS := PySem.W.mg_of X G gCS
  have TE : FinE K mg CD f_fin _ := { gC := PySem.W.mg_of X G gCD, ox := ⟨⟨nmD, qD, ND, bsD, snD, subD, abD, colD, ddD, mm0, mm1, mm2, mm3, mm5, xL⟩, xsa, xeC, xtC, xkC⟩, noN := xnb, iC := afin, tI := xtI, bI := bfin, te := xte, xf := ⟨xga, xgg, xeC, xhC⟩ }
  have R : OutTxt K mg CD f_fin _ f_out _ := ⟨Fout, mout, bout, TE, (PySem.W.mg_none_of X G z_RuntimeError), (PySem.W.mg_none_of X G z_isinstance), ⟨xga, xgg, xeC, xhC, xC1, xC2, xC3, xC4⟩, xC5, xkv⟩
  refine ⟨PySem.W.fnOf "law" "law" (defArgs sLaw) (defBody sLaw) (defScope sLaw) .none kV_law dc_law pm_law an_law cd_law ct_law, fun s u => .of_eq rfl, fun base KB _ BM => ?_, fun H a ns hl hS hP => ⟨a, ns, rfl, hS, hl, hP, fun _ => rfl⟩⟩
  have TB : LamX.TabB base mg cDone Pt := ⟨PySem.W.codeHd_of_K KB xhd, BM, xb3⟩
  have Gint := okIsInteger (P := P) (w := w) (K := K) (mg := mg) (base := base) Fint CT
  have Gbet := okIsBetween (P := P) (w := w) (K := K) (mg := mg) (base := base) Fbet Gint kint mint bint
  have Gcnt := okIsCount (P := P) (w := w) (K := K) (mg := mg) (base := base) Fcnt CT Gbet kbet mbet bbet
  have Gbag := okBag (P := P) (w := w) (K := K) (mg := mg) (base := base) Fbag DT
  have Gtake := okTake (P := P) (w := w) (K := K) (mg := mg) (base := base) Ftake DT
  have Gof := okOf (P := P) (w := w) (K := K) (mg := mg) (base := base) Fof DT Ftake mtake btake
  have Gfin := okFinInit (P := P) (w := w) (K := K) (mg := mg) (base := base) Ffin (PySem.W.mg_none_of X G z_RuntimeError) xvV TE
  have Gsi := okSysInit (P := P) (w := w) (K := K) (mg := mg) (base := base) (C := ⟨CS⟩) Fsi TS LT ⟨Gbet, kbet, mbet, bbet⟩
  have Gcon := okContains (P := P) (w := w) (K := K) (mg := mg) (base := base) (C := ⟨CS⟩) Fcon TS ⟨Gint, kint, mint, bint⟩
  have Gtof := okTableOf (P := P) (w := w) (K := K) (mg := mg) (base := base) (C := ⟨CS⟩) Ftof TS ⟨Gcon, ⟨acon, icon, kcon⟩, bcon⟩
  have Gitn := okIsTabNum (P := P) (w := w) (K := K) (mg := mg) (base := base) (C := ⟨CS⟩) Fitn TS ⟨Gbet, kbet, mbet, bbet⟩
  have Gtha := okThingAt (P := P) (w := w) (K := K) (mg := mg) (base := base) (C := ⟨CS⟩) Ftha TS ⟨Gtof, ⟨atof, itof, ktof⟩, btof⟩ ⟨Gitn, ⟨aitn, iitn, kitn⟩, bitn⟩
  have Gsra := okSourceAt (P := P) (w := w) (K := K) (mg := mg) (base := base) (C := ⟨CS⟩) Fsra TS ⟨Gtha, ⟨atha, itha, ktha⟩, btha⟩
  have Gfrn := okFreeNum (P := P) (w := w) (K := K) (mg := mg) (base := base) (C := ⟨CS⟩) Ffrn YT TS ⟨Gtof, ⟨atof, itof, ktof⟩, btof⟩
  have Gfpr := okFreeProc (P := P) (w := w) (K := K) (mg := mg) (base := base) (C := ⟨CS⟩) Ffpr (PySem.W.mg_none_of X G z_range) TS
  have Gnth := okNewThing (P := P) (w := w) (K := K) (mg := mg) (base := base) (C := ⟨CS⟩) Fnth TS ⟨Gfrn, ⟨afrn, ifrn, kfrn⟩, bfrn⟩
  have Gunf := okUnfinished (P := P) (w := w) (K := K) (mg := mg) (base := base) (C := ⟨CS⟩) Funf TS TE Gfin
  have Gnfy := okNotify (P := P) (w := w) (K := K) (mg := mg) (base := base) (C := ⟨CS⟩) Fnfy TS
  have Gnso := okNewSource (P := P) (w := w) (K := K) (mg := mg) (base := base) (C := ⟨CS⟩) Fnso TS ⟨Gnth, ⟨anth, inth, knth⟩, bnth⟩
  have Gcpy := okCopy (P := P) (w := w) (K := K) (mg := mg) (base := base) (C := ⟨CS⟩) Fcpy TS ⟨Gtha, ⟨atha, itha, ktha⟩, btha⟩ ⟨Gitn, ⟨aitn, iitn, kitn⟩, bitn⟩ ⟨Gfrn, ⟨afrn, ifrn, kfrn⟩, bfrn⟩
  have Gfrk := okFork (P := P) (w := w) (K := K) (mg := mg) (base := base) (C := ⟨CS⟩) Ffrk YT TS ⟨Gtof, ⟨atof, itof, ktof⟩, btof⟩ ⟨Gfpr, ⟨afpr, ifpr, kfpr⟩, bfpr⟩
  have Garr := okArrive (P := P) (w := w) (K := K) (mg := mg) (base := base) (C := ⟨CS⟩) Farr TS ⟨Gsra, ⟨asra, isra, ksra⟩, bsra⟩ Gunf ⟨aunf, iunf, kunf⟩ bunf ⟨Gnfy, ⟨anfy, infy, knfy⟩, bnfy⟩ ⟨Gcnt, kcnt, mcnt, bcnt⟩
  have Gfsh := okFinish (P := P) (w := w) (K := K) (mg := mg) (base := base) (C := ⟨CS⟩) Ffsh TS ⟨Gsra, ⟨asra, isra, ksra⟩, bsra⟩ Gunf ⟨aunf, iunf, kunf⟩ bunf ⟨Gnfy, ⟨anfy, infy, knfy⟩, bnfy⟩
  have Grd := okRead (P := P) (w := w) (K := K) (mg := mg) (base := base) (C := ⟨CS⟩) Frd YT TS ⟨Gsra, ⟨asra, isra, ksra⟩, bsra⟩ ⟨Gcnt, kcnt, mcnt, bcnt⟩
  have Guni := okUnits (P := P) (w := w) (K := K) (mg := mg) (base := base) (C := ⟨CS⟩) Funi TS ⟨Gsra, ⟨asra, isra, ksra⟩, bsra⟩
  have Gard := okArrived (P := P) (w := w) (K := K) (mg := mg) (base := base) Fard 
  have Gdon := okDone (P := P) (w := w) (K := K) (mg := mg) (base := base) (C := ⟨CS⟩) Fdon rfl LX TS R TB ⟨Gtake, ktake, mtake, btake⟩ ⟨Gof, kof, mof, bof⟩ ⟨Gard, kard, mard, bard⟩ Garr ⟨aarr, iarr, karr⟩ barr varr warr Gfsh ⟨afsh, ifsh, kfsh⟩ bfsh Grd ⟨ard, ird, krd⟩ brd vrd Brd wrd
  exact okLaw (C := ⟨CS⟩) Flaw LX TS ⟨Gbag, kbag, mbag, bbag⟩ ⟨Gtake, ktake, mtake, btake⟩ ⟨Gof, kof, mof, bof⟩ ⟨Gdon, kdon, mdon, bdon⟩ gmS KS Gsi bsi vsi ⟨Gnso, ⟨anso, inso, knso⟩, bnso⟩ Gcpy ⟨acpy, icpy, kcpy⟩ bcpy vcpy ⟨Gfrk, ⟨afrk, ifrk, kfrk⟩, bfrk⟩ ⟨Guni, ⟨auni, iuni, kuni⟩, buni⟩ wuni

end Wn
open PySem PySem.W PyProof.Rows in
set_option maxRecDepth 100000 in
set_option maxHeartbeats 0 in
theorem PySem.Challenge.cw_waitnumbers_k05_units_of_sources_holds : PySem.Challenge.rw_waitnumbers_k05_units_of_sources.Holds := by
  w_on; o_law; k_head; (case hw => w_witness2)
  k_fill
  refine Wn.walkT (l := PySem.Challenge.rw_waitnumbers_k05_units_of_sources) (n := 63) (k := 10) (x := "_law_script") (Pt := 623) (sp := fun K _ => Wn.spLaw K 623) rfl (by decide) rfl ⟨rfl, by decide, by decide⟩ (fun w h Y => PySem.W.km_in_of Y) (fun w h Y => PySem.W.km_tabs_of Y 623 (List.mem_singleton.mpr rfl)) ?nT ?tT ?F
  case F =>
    intro w mg fa h KX G hmg
    refine' Wn.all_mk (w := w) KX G hmg ?gCS ?gCD ?pgS ?hdS ?poS ?saS ?mkS ?kcS ?noS0 ?noS1 ?noS2 ?noS3 ?noS4 ?noS5 ?aint ?lint ?cint ?kint ?abet ?lbet ?cbet ?kbet ?acnt ?lcnt ?ccnt ?kcnt ?abag ?lbag ?cbag ?kbag ?atake ?ltake ?ctake ?ktake ?aof ?lof ?cof ?kof ?aout ?lout ?cout ?kout ?aard ?lard ?card ?kard ?adon ?ldon ?cdon ?kdon ?alaw ?llaw ?claw ?klaw ?afin ?ifin ?lfin ?cfin ?kfin ?asi ?isi ?lsi ?csi ?ksi ?wsi0 ?wsi1 ?acon ?icon ?lcon ?ccon ?kcon ?atof ?itof ?ltof ?ctof ?ktof ?aitn ?iitn ?litn ?citn ?kitn ?atha ?itha ?ltha ?ctha ?ktha ?asra ?isra ?lsra ?csra ?ksra ?afrn ?ifrn ?lfrn ?cfrn ?kfrn ?afpr ?ifpr ?lfpr ?cfpr ?kfpr ?anth ?inth ?lnth ?cnth ?knth ?aunf ?iunf ?lunf ?cunf ?kunf ?anfy ?infy ?lnfy ?cnfy ?knfy ?anso ?inso ?lnso ?cnso ?knso ?acpy ?icpy ?lcpy ?ccpy ?kcpy ?Lcpy ?afrk ?ifrk ?lfrk ?cfrk ?kfrk ?aarr ?iarr ?larr ?carr ?karr ?Larr ?afsh ?ifsh ?lfsh ?cfsh ?kfsh ?ard ?ird ?lrd ?crd ?krd ?Lrd ?auni ?iuni ?luni ?cuni ?kuni ?z_len ?z_enumerate ?z_int ?z_abs ?z_isinstance ?z_bool ?z_list ?z_min ?z_max ?z_range ?z_sorted ?z_repr ?z_tuple ?z_RuntimeError ?gMC ?gLP ?gLN ?gMP ?gMN ?sMP ?sMN ?xL ?xsa ?xga ?xgg ?xnb ?xvV ?xtI ?xkC ?xeC ?xtC ?xhC ?xte ?xC1 ?xC2 ?xC3 ?xC4 ?xC5 ?xkv ?xhd ?xb3
    (case gCS => first | k_is | rfl)
    (case gCD => first | k_is | rfl)
    (case pgS => first | k_is | rfl)
    (case hdS => first | k_is | rfl)
    (case poS => first | k_is | rfl)
    (case saS => first | k_is | rfl)
    (case mkS => first | k_is | rfl)
    (case kcS => first | k_is | rfl)
    (case noS0 => first | k_is | rfl)
    (case noS1 => first | k_is | rfl)
    (case noS2 => first | k_is | rfl)
    (case noS3 => first | k_is | rfl)
    (case noS4 => first | k_is | rfl)
    (case noS5 => first | k_is | rfl)
    (case aint => first | k_is | rfl)
    (case lint => first | k_is | rfl)
    (case cint => first | k_is | rfl)
    (case kint => first | k_is | rfl)
    (case abet => first | k_is | rfl)
    (case lbet => first | k_is | rfl)
    (case cbet => first | k_is | rfl)
    (case kbet => first | k_is | rfl)
    (case acnt => first | k_is | rfl)
    (case lcnt => first | k_is | rfl)
    (case ccnt => first | k_is | rfl)
    (case kcnt => first | k_is | rfl)
    (case abag => first | k_is | rfl)
    (case lbag => first | k_is | rfl)
    (case cbag => first | k_is | rfl)
    (case kbag => first | k_is | rfl)
    (case atake => first | k_is | rfl)
    (case ltake => first | k_is | rfl)
    (case ctake => first | k_is | rfl)
    (case ktake => first | k_is | rfl)
    (case aof => first | k_is | rfl)
    (case lof => first | k_is | rfl)
    (case cof => first | k_is | rfl)
    (case kof => first | k_is | rfl)
    (case aout => first | k_is | rfl)
    (case lout => first | k_is | rfl)
    (case cout => first | k_is | rfl)
    (case kout => first | k_is | rfl)
    (case aard => first | k_is | rfl)
    (case lard => first | k_is | rfl)
    (case card => first | k_is | rfl)
    (case kard => first | k_is | rfl)
    (case adon => first | k_is | rfl)
    (case ldon => first | k_is | rfl)
    (case cdon => first | k_is | rfl)
    (case kdon => first | k_is | rfl)
    (case alaw => first | k_is | rfl)
    (case llaw => first | k_is | rfl)
    (case claw => first | k_is | rfl)
    (case klaw => first | k_is | rfl)
    (case afin => first | k_is | rfl)
    (case ifin => first | k_is | rfl)
    (case lfin => first | k_is | rfl)
    (case cfin => first | k_is | rfl)
    (case kfin => first | k_is | rfl)
    (case asi => first | k_is | rfl)
    (case isi => first | k_is | rfl)
    (case lsi => first | k_is | rfl)
    (case csi => first | k_is | rfl)
    (case ksi => first | k_is | rfl)
    (case wsi0 => first | k_is | rfl)
    (case wsi1 => first | k_is | rfl)
    (case acon => first | k_is | rfl)
    (case icon => first | k_is | rfl)
    (case lcon => first | k_is | rfl)
    (case ccon => first | k_is | rfl)
    (case kcon => first | k_is | rfl)
    (case atof => first | k_is | rfl)
    (case itof => first | k_is | rfl)
    (case ltof => first | k_is | rfl)
    (case ctof => first | k_is | rfl)
    (case ktof => first | k_is | rfl)
    (case aitn => first | k_is | rfl)
    (case iitn => first | k_is | rfl)
    (case litn => first | k_is | rfl)
    (case citn => first | k_is | rfl)
    (case kitn => first | k_is | rfl)
    (case atha => first | k_is | rfl)
    (case itha => first | k_is | rfl)
    (case ltha => first | k_is | rfl)
    (case ctha => first | k_is | rfl)
    (case ktha => first | k_is | rfl)
    (case asra => first | k_is | rfl)
    (case isra => first | k_is | rfl)
    (case lsra => first | k_is | rfl)
    (case csra => first | k_is | rfl)
    (case ksra => first | k_is | rfl)
    (case afrn => first | k_is | rfl)
    (case ifrn => first | k_is | rfl)
    (case lfrn => first | k_is | rfl)
    (case cfrn => first | k_is | rfl)
    (case kfrn => first | k_is | rfl)
    (case afpr => first | k_is | rfl)
    (case ifpr => first | k_is | rfl)
    (case lfpr => first | k_is | rfl)
    (case cfpr => first | k_is | rfl)
    (case kfpr => first | k_is | rfl)
    (case anth => first | k_is | rfl)
    (case inth => first | k_is | rfl)
    (case lnth => first | k_is | rfl)
    (case cnth => first | k_is | rfl)
    (case knth => first | k_is | rfl)
    (case aunf => first | k_is | rfl)
    (case iunf => first | k_is | rfl)
    (case lunf => first | k_is | rfl)
    (case cunf => first | k_is | rfl)
    (case kunf => first | k_is | rfl)
    (case anfy => first | k_is | rfl)
    (case infy => first | k_is | rfl)
    (case lnfy => first | k_is | rfl)
    (case cnfy => first | k_is | rfl)
    (case knfy => first | k_is | rfl)
    (case anso => first | k_is | rfl)
    (case inso => first | k_is | rfl)
    (case lnso => first | k_is | rfl)
    (case cnso => first | k_is | rfl)
    (case knso => first | k_is | rfl)
    (case acpy => first | k_is | rfl)
    (case icpy => first | k_is | rfl)
    (case lcpy => first | k_is | rfl)
    (case ccpy => first | k_is | rfl)
    (case kcpy => first | k_is | rfl)
    (case Lcpy => first | k_is | rfl)
    (case afrk => first | k_is | rfl)
    (case ifrk => first | k_is | rfl)
    (case lfrk => first | k_is | rfl)
    (case cfrk => first | k_is | rfl)
    (case kfrk => first | k_is | rfl)
    (case aarr => first | k_is | rfl)
    (case iarr => first | k_is | rfl)
    (case larr => first | k_is | rfl)
    (case carr => first | k_is | rfl)
    (case karr => first | k_is | rfl)
    (case Larr => first | k_is | rfl)
    (case afsh => first | k_is | rfl)
    (case ifsh => first | k_is | rfl)
    (case lfsh => first | k_is | rfl)
    (case cfsh => first | k_is | rfl)
    (case kfsh => first | k_is | rfl)
    (case ard => first | k_is | rfl)
    (case ird => first | k_is | rfl)
    (case lrd => first | k_is | rfl)
    (case crd => first | k_is | rfl)
    (case krd => first | k_is | rfl)
    (case Lrd => first | k_is | rfl)
    (case auni => first | k_is | rfl)
    (case iuni => first | k_is | rfl)
    (case luni => first | k_is | rfl)
    (case cuni => first | k_is | rfl)
    (case kuni => first | k_is | rfl)
    (case z_len => first | k_is | rfl)
    (case z_enumerate => first | k_is | rfl)
    (case z_int => first | k_is | rfl)
    (case z_abs => first | k_is | rfl)
    (case z_isinstance => first | k_is | rfl)
    (case z_bool => first | k_is | rfl)
    (case z_list => first | k_is | rfl)
    (case z_min => first | k_is | rfl)
    (case z_max => first | k_is | rfl)
    (case z_range => first | k_is | rfl)
    (case z_sorted => first | k_is | rfl)
    (case z_repr => first | k_is | rfl)
    (case z_tuple => first | k_is | rfl)
    (case z_RuntimeError => first | k_is | rfl)
    (case gMC => first | k_is | rfl)
    (case gLP => first | k_is | rfl)
    (case gLN => first | k_is | rfl)
    (case gMP => first | k_is | rfl)
    (case gMN => first | k_is | rfl)
    (case sMP => first | k_is | rfl)
    (case sMN => first | k_is | rfl)
    (case xL => first | k_is | rfl)
    (case xsa => first | k_is | rfl)
    (case xga => first | k_is | rfl)
    (case xgg => first | k_is | rfl)
    (case xnb => first | k_is | rfl)
    (case xvV => first | k_is | rfl)
    (case xtI => first | k_is | rfl)
    (case xkC => first | k_is | rfl)
    (case xeC => first | k_is | rfl)
    (case xtC => first | k_is | rfl)
    (case xhC => first | k_is | rfl)
    (case xte => first | k_is | rfl)
    (case xC1 => first | k_is | rfl)
    (case xC2 => first | k_is | rfl)
    (case xC3 => first | k_is | rfl)
    (case xC4 => first | k_is | rfl)
    (case xC5 => first | k_is | rfl)
    (case xkv => first | k_is | rfl)
    (case xhd => first | k_is | rfl)
    (case xb3 => decide)
  case nT => exact fun w => rfl
  case tT => exact fun w h KX => Wn.isct KX (c := 627) (by first | k_is | rfl)

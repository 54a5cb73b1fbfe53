import PyProof.Rows.All
import Wide.All
import OpenK.AllK
import Wide.FinOn
import HandS.ForMost
import HandS.Wide
import HandS.Evl
import HandS.Walk
import HandS.NoneIn
import HandS.IsInst
import HandS.More
import HandS.Defaults
import HandS.MakeKwOnly
import HandS.Conv
import HandS.Style
import HandS.OwnEq
import HandS.Flow
import PySem.Challenge.RW_waitnumbers_k14_one_source_at_several_nu
set_option Elab.async false
set_option linter.all false
set_option compiler.extract_closed false
set_option genSizeOf false
set_option genInjectivity false
set_option maxRecDepth 100000
set_option maxHeartbeats 4000000
namespace Wn
open PySem PySem.Spec PyProof.Rows L2 Evl
def top (i : Nat) : Stmt := PySem.Challenge.pw_waitnumbers_k14_one_source_at_several_nu.main.body.getD i (.Pass ⟨0, 0, 0, 0⟩)
abbrev sBag : Stmt := top 33
abbrev sTake : Stmt := top 34
abbrev sOf : Stmt := top 35
/-! readings with names -/
def rInt1 : List V → Hp → VK → Prop := fun xs H Q => (∃ i, xs = [.int i] ∧ Q (.int i) H) ∨ ∃ k, xs = [.bl k] ∧ Q (.int (if k = true then 1 else 0)) H
def rAbs : List V → Hp → VK → Prop := fun xs H Q => ∃ i, xs = [.int i] ∧ Q (.int (if i < 0 then -i else i)) H
theorem cInt1 {X : Cx} : CallR X (.type "int") rInt1 := call_int1
theorem cAbs {X : Cx} : CallR X (.builtin "abs") rAbs := call_abs
def rIsN : R2 := fun x y H Q => y = .non ∧ Q (.bl (decide (x = .non))) H
def rNotN : R2 := fun x y H Q => y = .non ∧ Q (.bl (!decide (x = .non))) H
def rAddS : R2 := fun x y H Q => ∃ i j, x = .str i ∧ y = .str j ∧ i.length + j.length ≤ sizeLine ∧ Q (.str (i ++ j)) H
def rLenQ (K : PySem.W.Frag) : List V → Hp → VK → Prop := fun xs H Q => ∃ p ys, xs = [.ref p] ∧ (SqL K H p ys ∨ SqT K H p ys) ∧ Q (.int ys.length) H
def rLenS : List V → Hp → VK → Prop := fun xs H Q => ∃ z, xs = [.str z] ∧ z.length ≤ sizeLine ∧ Q (.int z.length) H
def rMax2 : List V → Hp → VK → Prop := fun xs H Q => ∃ i j, xs = [.int i, .int j] ∧ Q (.int (if j > i then j else i)) H
def rMin2 : List V → Hp → VK → Prop := fun xs H Q => ∃ i j, xs = [.int i, .int j] ∧ Q (.int (if j < i then j else i)) H
theorem oIsN {X : Cx} : OpR X (compareOp .Is) rIsN := op_isN
theorem oNotN {X : Cx} : OpR X (compareOp .IsNot) rNotN := op_notN
theorem cLenQ {X : Cx} : CallR X (.builtin "len") (rLenQ X.K) := call_len_seq
theorem cMax2 {X : Cx} (hc : X.calm = true) : CallR X (.builtin "max") rMax2 := call_max2 hc
theorem cMin2 {X : Cx} (hc : X.calm = true) : CallR X (.builtin "min") rMin2 := call_min2 hc
/-! one step of a reading -/
section
variable {σ : L2.St} {H : Hp} {Q : VK} {ta tb te : TE} {tl : TA} {t u : TS} {D : Ends} {c : TT} {r : R2} {v : V} {i : Nat}
theorem g_var (h : σ[i]? = some (some v)) (q : Q v H) : tVar i σ H Q := ⟨v, h, q⟩
theorem g_c (q : Q v H) : tC v σ H Q := q
theorem g_op (q : ta σ H fun x H1 => tb σ H1 fun y H2 => r x y H2 Q) : tOp r ta tb σ H Q := q
theorem g_rI0 {g : Int → Int → V} {a b : Int} (q : Q (g a b) H) : rI0 g (.int a) (.int b) H Q := ⟨a, b, rfl, rfl, q⟩
theorem g_rI {C : Int → Int → Prop} {g : Int → Int → V} {a b : Int} (hc : C a b) (q : Q (g a b) H) : rI C g (.int a) (.int b) H Q := ⟨a, b, rfl, rfl, hc, q⟩
theorem g_mul {a b : Int} (h : (-(2 ^ 64) < a ∧ a < 2 ^ 64) ∨ (-(2 ^ 64) < b ∧ b < 2 ^ 64)) (q : Q (.int (a * b)) H) : rI CMul (fun i j => .int (i * j)) (.int a) (.int b) H Q := ⟨a, b, rfl, rfl, h, q⟩
theorem g_mod {a b : Int} (h : 0 < b) (q : Q (.int (a % b)) H) : rI (fun _ j => 0 < j) (fun i j => .int (i % j)) (.int a) (.int b) H Q := ⟨a, b, rfl, rfl, h, q⟩
theorem g_rEq {x y : V} (h : scal x y = true) (q : Q (.bl (decide (x = y))) H) : rEq x y H Q := ⟨h, q⟩
theorem g_rNe {x y : V} (h : scal x y = true) (q : Q (.bl (!decide (x = y))) H) : rNe x y H Q := ⟨h, q⟩
theorem g_asg {g : TG} (q : te σ H fun x H1 => g x σ H1 D.nx) : tAsg te g D σ H := q
theorem g_name {k : L2.St → Hp → Prop} (q : k (σ.set i (some v)) H) : gName i v σ H k := q
theorem g_seq (q : t { D with nx := u D } σ H) : tSeq t u D σ H := q
theorem g_ret (q : te σ H D.rt) : tRet te D σ H := q
theorem g_next (q : D.nx σ H) : tNext D σ H := q
theorem g_drop (q : te σ H fun _ H1 => D.nx σ H1) : tDrop te D σ H := q
theorem g_nil {k : List V → Hp → Prop} (q : k [] H) : tNil σ H k := q
theorem g_cons {k : List V → Hp → Prop} (q : ta σ H fun x H1 => tl σ H1 fun xs H2 => k (x :: xs) H2) : tCons ta tl σ H k := q
theorem g_cb {r : List V → Hp → VK → Prop} (q : tl σ H fun vs H1 => r vs H1 Q) : tCB r tl σ H Q := q
theorem g_tB {k : Bool → Hp → Prop} (q : te σ H fun x H1 => ∃ b, x = .bl b ∧ k b H1) : tB te σ H k := q
theorem g_bl {b : Bool} {k : Bool → Prop} (q : k b) : ∃ z, V.bl b = .bl z ∧ k z := ⟨b, rfl, q⟩
theorem g_if (q : c σ H fun b H1 => if b = true then ta σ H1 Q else tb σ H1 Q) : tIf c ta tb σ H Q := q
theorem g_ifs (q : c σ H fun b H1 => if b = true then t D σ H1 else u D σ H1) : tIfS c t u D σ H := q
theorem g_not {k : Bool → Hp → Prop} (q : c σ H fun b H1 => k (!b) H1) : tNot c σ H k := q
theorem g_part {k : Option Int → Hp → Prop} (q : te σ H fun x H1 => ∃ z, x = .int z ∧ k (some z) H1) : tPart te σ H k := q
theorem g_pint {z : Int} {k : Int → Prop} (q : k z) : ∃ y, V.int z = .int y ∧ k y := ⟨z, rfl, q⟩
theorem g_lst (q : tl σ H fun xs H1 => xs.length ≤ sizeLine ∧ ∀ p, H1 p = none → Q (.ref p) (upd H1 p (.lst xs))) : tLst tl σ H Q := q
theorem g_tup (q : tl σ H fun xs H1 => xs.length ≤ sizeLine ∧ ∀ p, H1 p = none → Q (.ref p) (upd H1 p (.tup xs))) : tTup tl σ H Q := q
theorem g_ixL {K : PySem.W.Frag} {p : Addr} {xs : List V} {z : Int} (h : H p = some (.lst xs)) (a : atI xs z = some v) (q : Q v H) : rIxL K (.ref p) (.int z) H Q := ⟨p, xs, z, v, rfl, rfl, SqL.of h, a, q⟩
theorem cdivw_of {a b : Int} (h0 : 0 < b) (h1 : b < 4611686018427387904) : CDivW a b := wide_div (b := 62) h0 (by omega) (by decide) (by decide)
theorem g_div {a b : Int} (h0 : 0 < b) (h1 : b < 4611686018427387904) (q : Q (.int (a / b)) H) : rI CDivW (fun i j => .int (i / j)) (.int a) (.int b) H Q := ⟨a, b, rfl, rfl, cdivw_of h0 h1, q⟩
theorem g_sub {to ti : TE} {ts : TSet} {k : L2.St → Hp → Prop} (q : to σ H fun o H1 => ti σ H1 fun i H2 => ts o i v H2 fun H3 => k σ H3) : gSub to ti ts v σ H k := q
theorem g_setL {p : Addr} {xs : List V} {z : Int} {j : Nat} {k : Hp → Prop} (h : H p = some (.lst xs)) (a : ixN xs.length z = some j) (q : k (upd H p (.lst (xs.set j v)))) : rSetL (.ref p) (.int z) v H k := ⟨p, xs, z, j, rfl, rfl, h, a, q⟩
theorem g_nopart {k : Option Int → Hp → Prop} (q : k none H) : tNoPart σ H k := q
theorem g_call {sp : Sp} {dvs : List V} {E : XK} (q : tl σ H fun vs H1 => sp (vs ++ dvs) H1 Q E) : tCall sp dvs E tl σ H Q := q
theorem g_rint (z : Int) (q : Q (.int z) H) : rInt1 [.int z] H Q := .inl ⟨z, rfl, q⟩
theorem g_rabs {z : Int} (q : Q (.int (if z < 0 then -z else z)) H) : rAbs [.int z] H Q := ⟨z, rfl, q⟩
theorem g_sl {r : V → Option Int → Option Int → Hp → VK → Prop} {a b : TO} (q : te σ H fun x H1 => a σ H1 fun l H2 => b σ H2 fun h H3 => r x l h H3 Q) : tSl r te a b σ H Q := q
theorem g_rIsN {x : V} (q : Q (.bl (decide (x = .non))) H) : rIsN x .non H Q := ⟨rfl, q⟩
theorem g_rNotN {x : V} (q : Q (.bl (!decide (x = .non))) H) : rNotN x .non H Q := ⟨rfl, q⟩
theorem g_lenL {K : PySem.W.Frag} {p : Addr} {xs : List V} (h : H p = some (.lst xs)) (q : Q (.int xs.length) H) : rLenQ K [.ref p] H Q := ⟨p, xs, rfl, .inl (SqL.of h), q⟩
theorem g_max2 {a b : Int} (q : Q (.int (if b > a then b else a)) H) : rMax2 [.int a, .int b] H Q := ⟨a, b, rfl, q⟩
theorem g_min2 {a b : Int} (q : Q (.int (if b < a then b else a)) H) : rMin2 [.int a, .int b] H Q := ⟨a, b, rfl, q⟩
theorem g_and {t u : TT} {k : Bool → Hp → Prop} (q : t σ H fun b H1 => if b = true then u σ H1 k else k false H1) : tAnd t u σ H k := q
theorem g_or {t u : TT} {k : Bool → Hp → Prop} (q : t σ H fun b H1 => if b = true then k true H1 else u σ H1 k) : tOr t u σ H k := q
theorem g_orV (q : ta σ H fun x H1 => ∃ b, x = .bl b ∧ if b = true then Q (.bl true) H1 else tb σ H1 Q) : tOrV ta tb σ H Q := q
theorem g_andV (q : ta σ H fun x H1 => ∃ b, x = .bl b ∧ if b = true then tb σ H1 Q else Q (.bl false) H1) : tAndV ta tb σ H Q := q
theorem g_bT {A B : Prop} (q : A) : if true = true then A else B := iteT q
theorem g_bF {A B : Prop} (q : B) : if false = true then A else B := iteF q
theorem g_bNT {A B : Prop} (q : B) : if (!true) = true then A else B := iteF q
theorem g_bNF {A B : Prop} (q : A) : if (!false) = true then A else B := iteT q
theorem g_bm {K : PySem.W.Frag} {T : String} {r : V → List V → Hp → VK → Prop} (q : ta σ H fun x H1 => tyV K T x H1 ∧ tl σ H1 fun xs H2 => r x xs H2 Q) : tBM K T r ta tl σ H Q := q
theorem g_tyL {K : PySem.W.Frag} {p : Addr} {xs : List V} {c : Prop} (h : H p = some (.lst xs)) (q : c) : tyV K "list" (.ref p) H ∧ c := ⟨.inl ⟨rfl, _, SqL.of h⟩, q⟩
theorem g_yes {k : Bool → Hp → Prop} (q : k true H) : tYes σ H k := q
theorem g_nes {x : V} {A B : Prop} (q : B) : if (!decide (x = x)) = true then A else B := by
  rw [decide_eq_true rfl]
  exact iteF q
theorem g_es {x : V} {A B : Prop} (q : A) : if decide (x = x) = true then A else B := by
  rw [decide_eq_true rfl]
  exact iteT q
theorem g_opVC (h : σ[i]? = some (some v)) {c : V} (q : r v c H Q) : tOp r (tVar i) (tC c) σ H Q := ⟨v, h, q⟩
theorem g_opVV {j : Nat} {w : V} (h : σ[i]? = some (some v)) (h' : σ[j]? = some (some w)) (q : r v w H Q) : tOp r (tVar i) (tVar j) σ H Q := ⟨v, h, w, h', q⟩
theorem g_opV (h : σ[i]? = some (some v)) (q : tb σ H fun y H2 => r v y H2 Q) : tOp r (tVar i) tb σ H Q := ⟨v, h, q⟩
theorem g_consV1 {k : List V → Hp → Prop} (h : σ[i]? = some (some v)) (q : k [v] H) : tCons (tVar i) tNil σ H k := ⟨v, h, q⟩
theorem g_consC1 {k : List V → Hp → Prop} (q : k [v] H) : tCons (tC v) tNil σ H k := q
theorem g_consV {k : List V → Hp → Prop} (h : σ[i]? = some (some v)) (q : tl σ H fun xs H2 => k (v :: xs) H2) : tCons (tVar i) tl σ H k := ⟨v, h, q⟩
theorem g_consC {k : List V → Hp → Prop} (q : tl σ H fun xs H2 => k (v :: xs) H2) : tCons (tC v) tl σ H k := q
theorem g_consL {k : List V → Hp → Prop} (q : ta σ H fun x H1 => k [x] H1) : tCons ta tNil σ H k := q
theorem g_asgN (q : te σ H fun x H1 => D.nx (σ.set i (some x)) H1) : tAsg te (gName i) D σ H := q
theorem g_testO {k : Bool → Hp → Prop} (q : ta σ H fun x H1 => tb σ H1 fun y H2 => r x y H2 fun x H1 => ∃ b, x = .bl b ∧ k b H1) : tTest (tOp r ta tb) σ H k := q
theorem g_ifsT (q : te σ H fun x H1 => ∃ b, x = .bl b ∧ if b = true then t D σ H1 else u D σ H1) : tIfS (tTest te) t u D σ H := q
theorem g_tBV {k : Bool → Hp → Prop} {b : Bool} (h : σ[i]? = some (some (.bl b))) (q : k b H) : tB (tVar i) σ H k := ⟨_, h, b, rfl, q⟩
end
local macro_rules | `(tactic| walk_at "wn1") => `(tactic| first | ((with_reducible show (if (!decide _) = true then _ else _)); refine' g_nes ?_) | ((with_reducible show (if (decide _) = true then _ else _)); refine' g_es ?_) | with_reducible first
  | (refine' g_opVC ?h ?q; (case h => with_unfolding_all rfl)) | (refine' g_opVV ?h ?h' ?q; (case h => with_unfolding_all rfl); (case h' => with_unfolding_all rfl)) | (refine' g_opV ?h ?q; (case h => with_unfolding_all rfl))
  | (refine' g_consV1 ?h ?q; (case h => with_unfolding_all rfl)) | refine' g_consC1 ?_ | (refine' g_consV ?h ?q; (case h => with_unfolding_all rfl)) | refine' g_consC ?_ | refine' g_consL ?_ | refine' g_asgN ?_ | refine' g_ifsT ?_ | refine' g_testO ?_ | (refine' g_tBV ?h ?q; (case h => with_unfolding_all rfl))
  | (refine' g_var ?h ?q; (case h => with_unfolding_all rfl))
  | refine' g_c ?_ | refine' g_op ?_ | refine' g_rI0 ?_ | refine' g_asg ?_ | refine' g_name ?_ | refine' g_seq ?_ | refine' g_ret ?_ | refine' g_retN ?_ | refine' g_next ?_ | refine' g_drop ?_
  | refine' g_nil ?_ | refine' g_cons ?_ | refine' g_cb ?_ | refine' g_test ?_ | refine' g_bl ?_ | refine' g_if ?_ | refine' g_ifs ?_ | refine' g_not ?_ | refine' g_part ?_ | refine' g_pint ?_ | refine' g_nopart ?_ | refine' g_call ?_
  | (refine' g_mul ?h ?q; (case h => with_unfolding_all first | exact Or.inl ⟨by decide, by decide⟩ | exact Or.inr ⟨by decide, by decide⟩ | exact Or.inl ⟨by omega, by omega⟩ | exact Or.inr ⟨by omega, by omega⟩))
  | (refine' g_mod ?h ?q; (case h => with_unfolding_all first | decide | omega))
  | refine' g_rIsN ?_ | refine' g_rNotN ?_ | refine' g_max2 ?_ | refine' g_min2 ?_ | refine' g_and ?_ | refine' g_or ?_ | refine' g_orV ?_ | refine' g_andV ?_ | refine' g_notV ?_ | refine' g_m1 ?_ | refine' g_yes ?_ | refine' g_bm ?_ | refine' g_bm0 ?_
  | (refine' g_tyL ?h ?q; (case h => first | assumption | exact upd_same))
  | refine' g_m0 ?_ | refine' g_tB ?_ | refine' g_isS ?_ | refine' g_bT ?_ | refine' g_bF ?_ | refine' g_bNT ?_ | refine' g_callK ?_ | refine' g_bNF ?_
  | (refine' g_lenL ?h ?q; (case h => first | assumption | exact upd_same))
  | refine' g_un ?_ | refine' g_rint _ ?_ | refine' g_rabs ?_ | refine' g_sl ?_ 
  | (refine' g_ixL ?h ?a ?q; (case h => first | assumption | exact upd_same); (case a => with_unfolding_all rfl))
  | (refine' g_div ?h0 ?h1 ?q; (case h0 => with_unfolding_all first | decide | omega); (case h1 => with_unfolding_all first | decide | omega))
  | refine' g_sub ?_
  | (refine' g_setL ?h ?a ?q; (case h => first | assumption | exact upd_same); (case a => with_unfolding_all rfl))
  | refine' g_lst ?_ | refine' g_tup ?_
  | (refine' g_rEq ?h ?q; (case h => with_unfolding_all rfl)) | (refine' g_rNe ?h ?q; (case h => with_unfolding_all rfl)))
local macro_rules | `(tactic| walk_at "wn") => `(tactic| repeat walk_at "wn1")

/-! the bag of draws: two numbers that are not negative, the second one below 2 ^ 31 -/
def BagAt (H : Hp) (p : Addr) : Prop := ∃ a b : Int, H p = some (.lst [.int a, .int b]) ∧ 0 ≤ a ∧ 0 ≤ b ∧ b < 2147483648
def Dr (p : Addr) (H H' : Hp) : Prop := (∀ a o, a ≠ p → H a = some o → H' a = some o) ∧ BagAt H' p
theorem seq_at {K : PySem.W.Frag} {H H' : Hp} {l : Addr} {xs : List V} (e : H' l = H l) (h : SqL K H l xs) : SqL K H' l xs := by
  rcases h with (h | ⟨o, h⟩) | h
  · exact .inl (.inl (e.trans h))
  · exact .inl (.inr ⟨o, e.trans h⟩)
  · exact .inr h
structure DrawTxt (mg : Str → Option Value) : Prop where
  len : mg "len" = none
  enum : mg "enumerate" = none
  int : mg "int" = none
  abs : mg "abs" = none
inductive PspBag (K : PySem.W.Frag) (vs : List V) (H : Hp) (Q : VK) : Prop
  | mk (a : Addr) (ns : List Int) (i : Nat) (h_0 : vs = [.ref a, .int i]) (h_1 : SqL K H a (ns.map V.int)) (h_2 : ns.length ≤ 63) (h_3 : i ≤ 100) (h_4 : ∀ (H' : Hp) (p : Addr), H p = none → Same H H' → BagAt H' p → Q (.ref p) H') : PspBag K vs H Q
def spBag (K : PySem.W.Frag) : Sp := fun vs H Q _ => PspBag K vs H Q
inductive PspTake  (vs : List V) (H : Hp) (Q : VK) : Prop
  | mk (p : Addr) (m : Int) (h_0 : vs = [.ref p, .int m]) (h_1 : BagAt H p) (h_2 : 0 < m) (h_3 : m < 4611686018427387904) (h_4 : ∀ (k : Int) (H' : Hp), 0 ≤ k → k < m → (∀ b, b ≠ p → H' b = H b) → BagAt H' p → Q (.int k) H') : PspTake  vs H Q
def spTake  : Sp := fun vs H Q _ => PspTake  vs H Q
inductive PspOf (K : PySem.W.Frag) (vs : List V) (H : Hp) (Q : VK) : Prop
  | mk (p l : Addr) (xs : List V) (h_0 : vs = [.ref p, .ref l]) (h_1 : BagAt H p) (h_2 : SqL K H l xs) (h_3 : l ≠ p) (h_4 : 0 < xs.length) (h_5 : xs.length ≤ 1000) (h_6 : ∀ (k : Nat) (v : V) (H' : Hp), xs[k]? = some v → (∀ b, b ≠ p → H' b = H b) → BagAt H' p → Q v H') : PspOf K vs H Q
def spOf (K : PySem.W.Frag) : Sp := fun vs H Q _ => PspOf K vs H Q
section
variable {P : Program} {w : World} {K : PySem.W.Frag} {mg : Str → Option Value} {base : Heap}
theorem scBag : FnScope ["_law_script", "_law_at", "_law_cell", "_law_blend", "_law_k", "_law_each"] ["_law_script", "_law_at"] (defScope sBag) := ⟨rfl, rfl, rfl, by decide +kernel, rfl, by decide +kernel, by decide +kernel⟩
theorem okBag {f : Addr} {fd : FuncData} (F : Fun K "_law_bag" "_law_bag" sBag f fd) (T : DrawTxt mg) : FnOk P w K mg base CX0 1 f fd ["_law_script", "_law_at"] (spBag K) := by
  refine F.ok scBag (fun vs H Q E h => ?_) (fun cdv A outer s H vs Q E hr h => ?_)
  · obtain ⟨a, ns, i, rfl, _⟩ := h
    rfl
  · obtain ⟨a, ns, i, rfl, hS, hl, hi, k⟩ := h
    refine ⟨_, pss_cut (ps_set (i := 2) scBag.nd rfl (Or.inl rfl) (pe_ifExp (pt_cmpR op_lt (pv 1) (pe_callB cLenQ (by rfl) T.len PySem.boot_len (pa_cons (pv 0) pa_nil)) (nomark _)) (pe_ix ix_list (pv 0) (pv 1) (fun _ _ => rfl)) pe_int))
      (pss_cons (ps_set (i := 3) scBag.nd rfl (Or.inl rfl) (pe_op op_add (pe_op op_mul pe_int (pv 1)) pe_int))
      (pss_cut (ps_for PassesOwn.never rfl (pi_enum (by rfl) T.enum (pa_cons (pe_slice sl_list (pv 0) po_none (po_some pe_int)) pa_nil)) (pg_tup rfl (pgs_cons (pg_name (i := 4) scBag.nd rfl (Or.inl rfl)) (pgs_cons (pg_name (i := 5) scBag.nd rfl (Or.inl rfl)) pgs_nil)))
        (pss_one (ps_set (i := 3) scBag.nd rfl (Or.inl rfl) (pe_op op_mod (pe_callTy cInt1 (by rfl) T.int PyProof.Rows.boot_int (pa_cons (pe_op op_add (pe_op op_add (pe_op op_add (pe_op op_mul (pv 3) pe_int) (pe_op op_mod (pe_callTy cInt1 (by rfl) T.int PyProof.Rows.boot_int (pa_cons (pv 5) pa_nil)) pe_int)) (pe_op op_mul pe_int (pv 4))) pe_int) pa_nil)) pe_int))))
      (pss_one (ps_ret (pe_lst (pa_cons (pe_ifExp (pt_cmpR op_ge (pe_callB cAbs (by rfl) T.abs (by decide +kernel) (pa_cons (pv 2) pa_nil)) (pe_op op_pow pe_int pe_int) (nomark _)) (pe_callB cAbs (by rfl) T.abs (by decide +kernel) (pa_cons (pv 2) pa_nil)) pe_int) (pa_cons (pv 3) pa_nil))))))), ?_⟩
    refine ⟨fun σ' H' => ∃ c : Int, σ' = [some (.ref a), some (.int i), some (.int c), none, none, none] ∧ H' = H, ?_, ?_⟩
    · walk_at "wn"
      refine ⟨a, _, rfl, .inl hS, ?_⟩
      walk_at "wn"
      refine ite2 (fun hc => ?_) (fun hc => ?_)
      · have hlt : i < (ns.map V.int).length := by have := of_decide_eq_true hc; omega
        rw [List.length_map] at hlt
        walk_at "wn"
        refine ⟨a, _, _, _, rfl, rfl, hS, atI_nat (v := V.int (ns[i])) (by rw [List.getElem?_map, List.getElem?_eq_getElem hlt]; rfl), ?_⟩
        exact ⟨_, rfl, rfl⟩
      · exact ⟨0, rfl, rfl⟩
    · rintro σ' H' ⟨c, rfl, rfl⟩
      walk_at "wn"
      refine ⟨fun σ' H2 => ∃ (b : Int) (u v : Option V), 0 ≤ b ∧ b < 2147483648 ∧ σ' = [some (.ref a), some (.int i), some (.int c), some (.int b), u, v] ∧ Same H' H2, ?_, ?_⟩
      · show tSl _ _ _ _ _ _ _
        walk_at "wn"
        refine ⟨a, _, rfl, hS, fun p hp => ?_⟩
        walk_at "wn"
        refine ⟨p, _, rfl, SqL.of upd_same, ?_⟩
        refine for_it (walk_enum (xs := cutV (ns.map V.int) none (some 40))) (fun j σ' H3 => ∃ (b : Int) (u v : Option V), 0 ≤ b ∧ b < 2147483648 ∧ σ' = [some (.ref a), some (.int i), some (.int c), some (.int b), u, v] ∧ Same (upd H' p (.lst (cutV (ns.map V.int) none (some 40)))) H3) ?_ ?_ ?_ ?_
        · exact ⟨_, none, none, by omega, by omega, rfl, Same.refl _⟩
        · rintro j σ' H3 hj ⟨b, u, v, b0, b1, rfl, sm⟩
          exact sm.seq (SqL.of upd_same)
        · rintro j x σ' H3 H4 hj ⟨b, u, v, b0, b1, rfl, sm⟩ ⟨T1, x1, y1, rfl, nT, rfl, hx, hy⟩
          obtain rfl := Option.some.inj hx
          obtain ⟨z, rfl⟩ : ∃ z, y1 = V.int z := by
            have q : y1 ∈ ns.map V.int := List.mem_of_mem_drop (List.mem_of_mem_take (List.mem_of_getElem? hy))
            obtain ⟨z, _, e⟩ := List.mem_map.mp q
            exact ⟨z, e.symm⟩
          refine ⟨T1, _, rfl, SqT.of upd_same, rfl, _, _, rfl, ?_⟩
          walk_at "wn"
          refine ⟨_, _, rfl, ?_⟩
          walk_at "wn"
          refine ⟨rfl, ?_⟩
          walk_at "wn"
          refine ⟨_, _, _, by omega, by omega, rfl, fun x o hx => ?_⟩
          rw [upd_ne (ne_of_none (sm _ _ hx) nT)]
          exact sm _ _ hx
        · rintro σ' H3 ⟨b, u, v, b0, b1, rfl, sm⟩
          exact ⟨b, u, v, b0, b1, rfl, fun x o hx => sm _ _ (by rw [upd_ne (ne_of_none hx hp)]; exact hx)⟩
      · rintro σ' H2 ⟨b, u, v, b0, b1, rfl, sm⟩
        walk_at "wn"
        refine g_rI ⟨by decide, by decide, by decide⟩ ?_
        walk_at "wn"
        have fin : ∀ z : Int, 0 ≤ z → ([V.int z, V.int b].length ≤ sizeLine ∧ ∀ p, H2 p = none → Q (V.ref p) (upd H2 p (HO.lst [V.int z, V.int b]))) := fun z hz => ⟨by show 2 ≤ sizeLine; decide, fun p hp => k _ p (sm.free hp) (fun x o hx => by
          rw [upd_ne (ne_of_none (sm _ _ hx) hp)]
          exact sm _ _ hx) ⟨z, b, upd_same, hz, b0, b1⟩⟩
        refine ite2 (fun hc => ?_) (fun hc => ?_)
        · walk_at "wn"
          exact fin _ (by split <;> omega)
        · walk_at "wn"
          exact fin 0 (by decide)
theorem scTake : FnScope ["_law_bag_here", "_law_many", "_law_digit"] ["_law_bag_here", "_law_many"] (defScope sTake) := ⟨rfl, rfl, rfl, by decide +kernel, rfl, by decide +kernel, by decide +kernel⟩
theorem okTake {f : Addr} {fd : FuncData} (F : Fun K "_law_take" "_law_take" sTake f fd) (T : DrawTxt mg) : FnOk P w K mg base CX0 1 f fd ["_law_bag_here", "_law_many"] spTake := by
  refine F.ok scTake (fun vs H Q E h => ?_) (fun cdv A outer s H vs Q E hr h => ?_)
  · obtain ⟨a, m, rfl, _⟩ := h
    rfl
  · obtain ⟨p, m, rfl, ⟨a, b, hp, a0, b0, b1⟩, m0, m1, k⟩ := h
    refine ⟨_, pss_cons (ps_if (pt_cmpR op_gt (pe_ix ix_list (pv 0) pe_int (fun _ _ => rfl)) pe_int (nomark _))
        (pss_cons (ps_set (i := 2) scTake.nd rfl (Or.inl rfl) (pe_op op_mod (pe_callTy cInt1 (by rfl) T.int PyProof.Rows.boot_int (pa_cons (pe_ix ix_list (pv 0) pe_int (fun _ _ => rfl)) pa_nil)) (pv 1)))
        (pss_cons (ps_asg (pe_op op_fdivW (pe_ix ix_list (pv 0) pe_int (fun _ _ => rfl)) (pv 1)) (pg_sub (pv 0) pe_int set_list))
        (pss_one (ps_ret (pv 2))))) pss_nil)
      (pss_cons (ps_asg (pe_op op_mod (pe_callTy cInt1 (by rfl) T.int PyProof.Rows.boot_int (pa_cons (pe_op op_add (pe_op op_mul (pe_ix ix_list (pv 0) pe_int (fun _ _ => rfl)) pe_int) pe_int) pa_nil)) pe_int) (pg_sub (pv 0) pe_int set_list))
      (pss_one (ps_ret (pe_op op_mod (pe_op op_fdivW (pe_op op_mod (pe_callTy cInt1 (by rfl) T.int PyProof.Rows.boot_int (pa_cons (pe_op op_mul (pe_op op_fdivW (pe_ix ix_list (pv 0) pe_int (fun _ _ => rfl)) pe_int) pe_int) pa_nil)) pe_int) pe_int) (pv 1))))), ?_⟩
    walk_at "wn"
    refine ite2 (fun hc => ?_) (fun hc => ?_)
    · walk_at "wn"
      refine k _ _ (Int.emod_nonneg _ (by omega)) (Int.emod_lt_of_pos _ m0) (fun x hx => upd_ne hx) ⟨_, _, upd_same, Int.ediv_nonneg a0 (by omega), b0, b1⟩
    · walk_at "wn"
      refine k _ _ (Int.emod_nonneg _ (by omega)) (Int.emod_lt_of_pos _ m0) (fun x hx => upd_ne hx) ⟨_, _, upd_same, a0, by omega, by omega⟩
theorem scOf : FnScope ["_law_bag_here", "_law_some"] ["_law_bag_here", "_law_some"] (defScope sOf) := ⟨rfl, rfl, rfl, by decide +kernel, rfl, by decide +kernel, by decide +kernel⟩
theorem okOf {f fT : Addr} {fd fdT : FuncData} (F : Fun K "_law_of" "_law_of" sOf f fd) (T : DrawTxt mg) (FT : Fun K "_law_take" "_law_take" sTake fT fdT) (gT : mg "_law_take" = some (.ref fT)) (bT : Binds K fdT ["_law_bag_here", "_law_many"] []) : FnOk P w K mg base CX0 2 f fd ["_law_bag_here", "_law_some"] (spOf K) := by
  have GT : FnOk P w K mg base CX0 1 fT fdT ["_law_bag_here", "_law_many"] spTake := okTake FT T
  refine F.ok scOf (fun vs H Q E h => ?_) (fun cdv A outer s H vs Q E hr h => ?_)
  · obtain ⟨a, l, xs, rfl, _⟩ := h
    rfl
  · obtain ⟨p, l, xs, rfl, hb, hx, hl, l0, l1, k⟩ := h
    refine ⟨_, pss_one (ps_ret (pe_ix ix_seq (pv 1) (pe_call GT hr (by rfl) gT FT.kp bT .nil pass0 (pa_cons (pv 0) (pa_cons (pe_callB cLenQ (by rfl) T.len PySem.boot_len (pa_cons (pv 1) pa_nil)) pa_nil))) (fun _ _ => rfl))), ?_⟩
    walk_at "wn"
    refine ⟨l, xs, rfl, .inl hx, ?_⟩
    walk_at "wn"
    refine ⟨p, _, rfl, hb, by omega, by omega, fun i H1 i0 i1 he hb1 => ?_⟩
    obtain ⟨j, rfl⟩ := Int.eq_ofNat_of_zero_le i0
    have hj : j < xs.length := by omega
    exact .inl ⟨l, xs, _, xs[j], rfl, rfl, seq_at (he l hl) hx, atI_nat (List.getElem?_eq_getElem hj), k j _ H1 (List.getElem?_eq_getElem hj) he hb1⟩
end

def clsBody : Stmt → List Stmt
  | .ClassDef _ _ _ b _ _ _ _ _ _ _ => b
  | _ => []
def meth (i j : Nat) : Stmt := (clsBody (top i)).getD j (.Pass ⟨0, 0, 0, 0⟩)
abbrev sIsInteger : Stmt := top 20
abbrev sIsBetween : Stmt := top 21
abbrev sIsCount : Stmt := top 22
abbrev sIsLabel : Stmt := top 23
abbrev sIsWord : Stmt := top 24
abbrev sRegInit : Stmt := meth 26 0
abbrev sWsInit : Stmt := meth 27 0
abbrev sLabelOf : Stmt := meth 27 2
abbrev sPut : Stmt := meth 27 3
abbrev sAppend : Stmt := meth 27 4
abbrev sNotice : Stmt := meth 27 7
abbrev sReports : Stmt := meth 27 8
abbrev sSettle : Stmt := meth 27 9
/-! own __contains__ -/
def rOwnNotIn (C : Addr) (sp : Sp) : R2 := fun x y H Q => ∃ a dx fs, y = .ref a ∧ H a = some (.ins C dx fs) ∧ sp [.ref a, x] H (fun v H' => ∃ b, v = .bl b ∧ Q (.bl (!b)) H') fun _ _ _ => False
theorem op_ownNotIn {X : Cx} {CX : CXT} {k : Nat} {C f : Addr} {fd : FuncData} {ps : List Str} {sp : Sp} (F : FnOk X.prog X.w X.K X.mg X.base CX k f fd ps sp) (hr : Room k X.A)
    (hs : PySem.W.findIn X.K (.ref C) "__contains__" = some (some (.ref f))) (hf : PySem.W.isFn X.K (.ref f) = true) (hb : Binds X.K fd ps []) (hx : Passes CX X fun _ _ _ => False) : OpR X (compareOp .NotIn) (rOwnNotIn C sp) := by
  intro pins s σ H x y v u Q I rx ry d
  obtain ⟨a, dx, fs, rfl, ha, hsp⟩ := d
  cases ry
  obtain ⟨mA, J, _⟩ := ins_get I.hok ha
  obtain ⟨od, J, _⟩ := J.look
  obtain ⟨m, hF⟩ := I.fr
  refine PySem.W.notIn_K hF I.ok.mod.kin J hs hf ?_
  have hl := F.len _ _ _ _ hsp
  have r2 : Vals [V.ref a, x] [Value.ref a, v] := .cons rfl (.cons rx .nil)
  refine wpAny_call (codeAny_mono (F.run X.A X.stack s H ⟨[.ref a, v], []⟩ [.ref a, v] [.ref a, x] _ _ hr I.env0 (by
    have := hb s [.ref a, v] I.kIn (by simpa using hl)
    simpa using this) r2 hsp) fun r s' hq => ?_)
  cases r with
  | error e => exact hx pins σ H s e s' I hq
  | ok fl =>
    cases fl with
    | ret w =>
      obtain ⟨z, H', I', rz, b, ez, q⟩ := I.after hq
      subst ez
      cases rz
      exact wpAny_truthy_bool ⟨.bl (!b), H', I', rfl, q⟩
    | next => exact False.elim hq
    | brk => exact False.elim hq
    | cont => exact False.elim hq
section
variable {P : Program} {w : World} {K : PySem.W.Frag} {mg : Str → Option Value} {base : Heap}
structure ChkTxt (K : PySem.W.Frag) (mg : Str → Option Value) : Prop where
  isin : mg "isinstance" = none
  int : mg "int" = none
  bool : mg "bool" = none
  count : ∃ t, mg "MOST_COUNT" = some (.int 1000000 t)
  label : ∃ t, mg "MOST_LABEL" = some (.int 999999 t)
  words : ∃ a, mg "WORDS" = some (.ref a) ∧ ∀ H, SqT K H a [.str "level", .str "edge", .str "once"]
inductive PspIsInteger  (vs : List V) (H : Hp) (Q : VK) : Prop
  | mk (i : Int) (h_0 : vs = [.int i]) (h_1 : Q (.bl true) H) : PspIsInteger  vs H Q
def spIsInteger  : Sp := fun vs H Q _ => PspIsInteger  vs H Q
theorem scIsInteger : FnScope ["x"] ["x"] (defScope sIsInteger) := ⟨rfl, rfl, rfl, by decide +kernel, rfl, by decide +kernel, by decide +kernel⟩
theorem okIsInteger {f : Addr} {fd : FuncData} (F : Fun K "is_integer" "is_integer" sIsInteger f fd) (T : ChkTxt K mg) : FnOk P w K mg base CX0 1 f fd ["x"] spIsInteger := by
  refine F.ok scIsInteger (fun vs H Q E h => ?_) (fun cdv A outer s H vs Q E hr h => ?_)
  · obtain ⟨x, rfl, _⟩ := h
    rfl
  · obtain ⟨i, rfl, k⟩ := h
    refine ⟨_, pss_one (ps_ret (pe_and (pe_callB call_isi (by rfl) T.isin PyProof.Rows.boot_isinstance (pa_cons (pv 0) (pa_cons (pe_bltn (v := .ty "int") (by rfl) T.int PyProof.Rows.boot_int rfl) pa_nil))) (pe_one (pe_not (pe_callB call_isi (by rfl) T.isin PyProof.Rows.boot_isinstance (pa_cons (pv 0) (pa_cons (pe_bltn (v := .ty "bool") (by rfl) T.bool (by decide +kernel) rfl) pa_nil))))))), ?_⟩
    refine ⟨_, rfl, _, _, _, _, true, rfl, .ty "int", .base (.int i), kit_ty (by decide +kernel), ?_⟩
    refine ⟨_, rfl, _, rfl, _, _, _, _, false, rfl, .ty "bool", .base (.int i), kit_ty (by decide +kernel), ?_⟩
    exact ⟨_, rfl, k⟩
inductive PspIsBetween  (vs : List V) (H : Hp) (Q : VK) : Prop
  | mk (i a b : Int) (h_0 : vs = [.int i, .int a, .int b]) (h_1 : Q (.bl (decide (a ≤ i) && decide (i ≤ b))) H) : PspIsBetween  vs H Q
def spIsBetween  : Sp := fun vs H Q _ => PspIsBetween  vs H Q
theorem scIsBetween : FnScope ["x", "least", "most"] ["x", "least", "most"] (defScope sIsBetween) := ⟨rfl, rfl, rfl, by decide +kernel, rfl, by decide +kernel, by decide +kernel⟩
theorem okIsBetween {f fI : Addr} {fd fdI : FuncData} (F : Fun K "is_between" "is_between" sIsBetween f fd) (GI : FnOk P w K mg base CX0 1 fI fdI ["x"] spIsInteger) (kI : PySem.W.keepIn K (.ref fI) = true) (gI : mg "is_integer" = some (.ref fI)) (bI : Binds K fdI ["x"] []) :
    FnOk P w K mg base CX0 2 f fd ["x", "least", "most"] spIsBetween := by
  refine F.ok scIsBetween (fun vs H Q E h => ?_) (fun cdv A outer s H vs Q E hr h => ?_)
  · obtain ⟨x, y, z, rfl, _⟩ := h
    rfl
  · obtain ⟨i, a, b, rfl, k⟩ := h
    refine ⟨_, pss_one (ps_ret (pe_and (pe_call GI hr (by rfl) gI kI bI .nil pass0 (pa_cons (pv 0) pa_nil)) (pe_one (pe_chain op_le op_le (pv 1) (pv 0) (pv 2))))), ?_⟩
    walk_at "wn"
    refine ⟨i, rfl, ?_⟩
    walk_at "wn"
    refine ⟨_, rfl, _, rfl, a, i, rfl, rfl, _, rfl, ?_⟩
    refine ite2 (fun hc => ?_) (fun hc => ?_)
    · rw [hc, Bool.true_and] at k
      exact ⟨_, rfl, i, b, rfl, rfl, k⟩
    · rw [Bool.eq_false_iff.mpr hc, Bool.false_and] at k
      exact k
inductive PspIsCount  (vs : List V) (H : Hp) (Q : VK) : Prop
  | mk (i : Int) (h_0 : vs = [.int i]) (h_1 : Q (.bl (decide (1 ≤ i) && decide (i ≤ 1000000))) H) : PspIsCount  vs H Q
def spIsCount  : Sp := fun vs H Q _ => PspIsCount  vs H Q
theorem scIsCount : FnScope ["x"] ["x"] (defScope sIsCount) := ⟨rfl, rfl, rfl, by decide +kernel, rfl, by decide +kernel, by decide +kernel⟩
theorem okIsCount {f fB : Addr} {fd fdB : FuncData} (F : Fun K "is_count" "is_count" sIsCount f fd) (T : ChkTxt K mg) (GB : FnOk P w K mg base CX0 2 fB fdB ["x", "least", "most"] spIsBetween) (kB : PySem.W.keepIn K (.ref fB) = true) (gB : mg "is_between" = some (.ref fB)) (bB : Binds K fdB ["x", "least", "most"] []) :
    FnOk P w K mg base CX0 3 f fd ["x"] spIsCount := by
  refine F.ok scIsCount (fun vs H Q E h => ?_) (fun cdv A outer s H vs Q E hr h => ?_)
  · obtain ⟨x, rfl, _⟩ := h
    rfl
  · obtain ⟨i, rfl, k⟩ := h
    obtain ⟨t, ht⟩ := T.count
    refine ⟨_, pss_one (ps_ret (pe_call GB hr (by rfl) gB kB bB .nil pass0 (pa_cons (pv 0) (pa_cons pe_int (pa_cons (pe_glob (v := .int 1000000) (by rfl) ht ⟨_, rfl⟩) pa_nil))))), ?_⟩
    walk_at "wn"
    exact ⟨i, 1, 1000000, rfl, k⟩
inductive PspIsLabel  (vs : List V) (H : Hp) (Q : VK) : Prop
  | mk (i : Int) (h_0 : vs = [.int i]) (h_1 : Q (.bl (decide (0 ≤ i) && decide (i ≤ 999999))) H) : PspIsLabel  vs H Q
def spIsLabel  : Sp := fun vs H Q _ => PspIsLabel  vs H Q
theorem scIsLabel : FnScope ["x"] ["x"] (defScope sIsLabel) := ⟨rfl, rfl, rfl, by decide +kernel, rfl, by decide +kernel, by decide +kernel⟩
theorem okIsLabel {f fB : Addr} {fd fdB : FuncData} (F : Fun K "is_label" "is_label" sIsLabel f fd) (T : ChkTxt K mg) (GB : FnOk P w K mg base CX0 2 fB fdB ["x", "least", "most"] spIsBetween) (kB : PySem.W.keepIn K (.ref fB) = true) (gB : mg "is_between" = some (.ref fB)) (bB : Binds K fdB ["x", "least", "most"] []) :
    FnOk P w K mg base CX0 3 f fd ["x"] spIsLabel := by
  refine F.ok scIsLabel (fun vs H Q E h => ?_) (fun cdv A outer s H vs Q E hr h => ?_)
  · obtain ⟨x, rfl, _⟩ := h
    rfl
  · obtain ⟨i, rfl, k⟩ := h
    obtain ⟨t, ht⟩ := T.label
    refine ⟨_, pss_one (ps_ret (pe_call GB hr (by rfl) gB kB bB .nil pass0 (pa_cons (pv 0) (pa_cons pe_int (pa_cons (pe_glob (v := .int 999999) (by rfl) ht ⟨_, rfl⟩) pa_nil))))), ?_⟩
    walk_at "wn"
    exact ⟨i, 0, 999999, rfl, k⟩
def wordsL : List Str := ["level", "edge", "once"]
inductive PspIsWord  (vs : List V) (H : Hp) (Q : VK) : Prop
  | mk (x : Str) (h_0 : vs = [.str x]) (h_1 : x ∈ wordsL) (h_2 : Q (.bl true) H) : PspIsWord  vs H Q
def spIsWord  : Sp := fun vs H Q _ => PspIsWord  vs H Q
theorem word_in : ∀ x ∈ wordsL, inV (.str x) [.str "level", .str "edge", .str "once"] = true := by decide +kernel
theorem scIsWord : FnScope ["x"] ["x"] (defScope sIsWord) := ⟨rfl, rfl, rfl, by decide +kernel, rfl, by decide +kernel, by decide +kernel⟩
theorem okIsWord {f : Addr} {fd : FuncData} (F : Fun K "is_word" "is_word" sIsWord f fd) (T : ChkTxt K mg) : FnOk P w K mg base CX0 1 f fd ["x"] spIsWord := by
  refine F.ok scIsWord (fun vs H Q E h => ?_) (fun cdv A outer s H vs Q E hr h => ?_)
  · obtain ⟨x, rfl, _⟩ := h
    rfl
  · obtain ⟨x, rfl, hx, k⟩ := h
    obtain ⟨aW, gW, sW⟩ := T.words
    refine ⟨_, pss_one (ps_ret (pe_cmpR op_in_seq (pv 0) (pe_glob (v := .ref aW) (by rfl) gW rfl) (by rfl))), ?_⟩
    walk_at "wn"
    refine ⟨aW, _, rfl, .inr (sW _), rfl, by decide, ?_⟩
    show Q (.bl (inV _ _)) H
    rw [word_in x hx]
    exact k
end

/-! the classes of the program -/
structure ClsF (K : PySem.W.Frag) (C : Addr) (fs : List Str) : Prop where
  cl : Cls K C
  no : ∀ f ∈ fs, NoAttr K C f
abbrev regF : List Str := ["number", "source", "word", "armed"]
abbrev wsF : List Str := ["entries", "queue"]
abbrev sysF : List Str := ["process_limit", "number_limit", "tables", "sources", "sets", "next_thing"]
def regO (C dx : Addr) (n s : Int) (wd : Str) (ar : Bool) : HO := .ins C dx [("number", .int n), ("source", .int s), ("word", .str wd), ("armed", .bl ar)]
def wsO (C dx e q : Addr) : HO := .ins C dx [("entries", .ref e), ("queue", .ref q)]
theorem Same.new' {H : Hp} {l : Addr} {o : HO} (hl : H l = none) : Same H (upd H l o) := fun b u e => by rw [upd_ne (ne_of_none e hl)]; exact e
theorem inV_int (l : Int) : ∀ qs : List Int, inV (.int l) (qs.map V.int) = decide (l ∈ qs)
  | [] => rfl
  | x :: qs => by
    have ih := inV_int l qs
    unfold inV at ih ⊢
    rw [List.map_cons, List.any_cons, ih]
    have e : eqV (V.int x) (V.int l) = decide (x = l) := rfl
    rw [e]
    by_cases h : x = l
    · rw [decide_eq_true h, Bool.true_or]
      exact (decide_eq_true (by rw [h]; exact List.mem_cons_self)).symm
    · rw [decide_eq_false h, Bool.false_or]
      by_cases h2 : l ∈ qs
      · rw [decide_eq_true h2]
        exact (decide_eq_true (List.mem_cons_of_mem _ h2)).symm
      · rw [decide_eq_false h2]
        exact (decide_eq_false fun z => (List.mem_cons.mp z).elim (fun e => h e.symm) h2).symm
theorem flat_ints (qs : List Int) : (qs.map V.int).all flatV = true := by
  rw [List.all_map, List.all_eq_true]
  intro x _
  rfl
section
variable {P : Program} {w : World} {K : PySem.W.Frag} {mg : Str → Option Value} {base : Heap} {CR CW : Addr}
/-! Registration -/
inductive PspRegInit (CR : Addr) (vs : List V) (H : Hp) (Q : VK) : Prop
  | mk (a dx : Addr) (n s : Int) (wd : Str) (ar : Bool) (h_0 : vs = [.ref a, .int n, .int s, .str wd, .bl ar]) (h_1 : H a = some (.ins CR dx [])) (h_2 : ∀ H', (∀ b, b ≠ a → H' b = H b) → H' a = some (regO CR dx n s wd ar) → Q .non H') : PspRegInit CR vs H Q
def spRegInit (CR : Addr) : Sp := fun vs H Q _ => PspRegInit CR vs H Q
theorem scRegInit : FnScope ["self", "number", "source", "word", "armed"] ["self", "number", "source", "word", "armed"] (defScope sRegInit) := ⟨rfl, rfl, rfl, by decide +kernel, rfl, by decide +kernel, by decide +kernel⟩
theorem okRegInit {f : Addr} {fd : FuncData} (F : Fun K "__init__" "Registration.__init__" sRegInit f fd) (T : ClsF K CR regF) : FnOk P w K mg base CX0 1 f fd ["self", "number", "source", "word", "armed"] (spRegInit CR) := by
  refine F.ok scRegInit (fun vs H Q E h => ?_) (fun cdv A outer s H vs Q E hr h => ?_)
  · obtain ⟨_, _, _, _, _, _, rfl, _⟩ := h
    rfl
  · obtain ⟨a, dx, n, s, wd, ar, rfl, ha, k⟩ := h
    refine ⟨_, pss_cons (ps_fld (pv 0) (pv 1) rfl) (pss_cons (ps_fld (pv 0) (pv 2) rfl) (pss_cons (ps_fld (pv 0) (pv 3) rfl) (pss_one (ps_fld (pv 0) (pv 4) rfl)))), ?_⟩
    refine ⟨_, rfl, _, rfl, a, CR, dx, _, rfl, ha, T.cl, T.no _ (by decide), by decide, ?_⟩
    refine ⟨_, rfl, _, rfl, a, CR, dx, _, rfl, upd_same, T.cl, T.no _ (by decide), by show 1 < 1000; decide, ?_⟩
    refine ⟨_, rfl, _, rfl, a, CR, dx, _, rfl, upd_same, T.cl, T.no _ (by decide), by show 2 < 1000; decide, ?_⟩
    refine ⟨_, rfl, _, rfl, a, CR, dx, _, rfl, upd_same, T.cl, T.no _ (by decide), by show 3 < 1000; decide, ?_⟩
    exact k _ (fun b hb => by rw [upd_ne hb, upd_ne hb, upd_ne hb, upd_ne hb]) upd_same
/-! WaitingSet -/
inductive PspWsInit (CW : Addr) (vs : List V) (H : Hp) (Q : VK) : Prop
  | mk (a dx : Addr) (h_0 : vs = [.ref a]) (h_1 : H a = some (.ins CW dx [])) (h_2 : ∀ H' e q, H e = none → H q = none → H' e = some (.dK []) → H' q = some (.lst []) → H' a = some (wsO CW dx e q) → (∀ b, b ≠ a → b ≠ e → b ≠ q → H' b = H b) → Q .non H') : PspWsInit CW vs H Q
def spWsInit (CW : Addr) : Sp := fun vs H Q _ => PspWsInit CW vs H Q
theorem scWsInit : FnScope ["self"] ["self"] (defScope sWsInit) := ⟨rfl, rfl, rfl, by decide +kernel, rfl, by decide +kernel, by decide +kernel⟩
theorem okWsInit {f : Addr} {fd : FuncData} (F : Fun K "__init__" "WaitingSet.__init__" sWsInit f fd) (T : ClsF K CW wsF) : FnOk P w K mg base CX0 1 f fd ["self"] (spWsInit CW) := by
  refine F.ok scWsInit (fun vs H Q E h => ?_) (fun cdv A outer s H vs Q E hr h => ?_)
  · obtain ⟨_, _, rfl, _⟩ := h
    rfl
  · obtain ⟨a, dx, rfl, ha, k⟩ := h
    refine ⟨_, pss_cons (ps_fld (pv 0) pe_dnewK rfl) (pss_one (ps_fld (pv 0) (pe_lst pa_nil) rfl)), ?_⟩
    intro e he
    have nae : a ≠ e := ne_of_none ha he
    refine ⟨_, rfl, a, CW, dx, _, rfl, by rw [upd_ne nae]; exact ha, T.cl, T.no _ (by decide), by decide, ?_⟩
    refine ⟨Nat.zero_le _, fun q hq => ?_⟩
    have nqa : q ≠ a := fun z => by rw [z, upd_same] at hq; cases hq
    rw [upd_ne nqa] at hq
    have nqe : q ≠ e := fun z => by rw [z, upd_same] at hq; cases hq
    rw [upd_ne nqe] at hq
    refine ⟨_, rfl, a, CW, dx, _, rfl, by rw [upd_ne (Ne.symm nqa)]; exact upd_same, T.cl, T.no _ (by decide), by show 1 < 1000; decide, ?_⟩
    refine k _ e q he hq ?_ ?_ upd_same (fun b h1 h2 h3 => ?_)
    · rw [upd_ne (Ne.symm nae), upd_ne (Ne.symm nqe), upd_ne (Ne.symm nae), upd_same]
    · rw [upd_ne nqa, upd_same]
    · rw [upd_ne h1, upd_ne h3, upd_ne h1, upd_ne h2]
/-! append_pending -/
def qAdd (l : Int) (qs : List Int) : List Int := if l ∈ qs then qs else qs ++ [l]
inductive PspAppend (CW : Addr) (vs : List V) (H : Hp) (Q : VK) : Prop
  | mk (a dx e q : Addr) (l : Int) (qs : List Int) (h_0 : vs = [.ref a, .int l]) (h_1 : H a = some (wsO CW dx e q)) (h_2 : H q = some (.lst (qs.map V.int))) (h_3 : qs.length ≤ 10000) (h_4 : ∀ H', H' q = some (.lst ((qAdd l qs).map V.int)) → (∀ b, b ≠ q → H' b = H b) → Q .non H') : PspAppend CW vs H Q
def spAppend (CW : Addr) : Sp := fun vs H Q _ => PspAppend CW vs H Q
theorem scAppend : FnScope ["self", "label"] ["self", "label"] (defScope sAppend) := ⟨rfl, rfl, rfl, by decide +kernel, rfl, by decide +kernel, by decide +kernel⟩
theorem okAppend {f : Addr} {fd : FuncData} (F : Fun K "append_pending" "WaitingSet.append_pending" sAppend f fd) (T : ClsF K CW wsF) : FnOk P w K mg base CX0 1 f fd ["self", "label"] (spAppend CW) := by
  refine F.ok scAppend (fun vs H Q E h => ?_) (fun cdv A outer s H vs Q E hr h => ?_)
  · obtain ⟨_, _, _, _, _, _, rfl, _⟩ := h
    rfl
  · obtain ⟨a, dx, e, q, l, qs, rfl, ha, hq, hl, k⟩ := h
    refine ⟨_, pss_one (ps_if (pt_cmpR op_notIn_seq (pv 1) (pe_fld (pv 0) rfl) (by rfl)) (pss_one (ps_expr (pe_bm PySem.F.plainAttrs_list PySem.F.slot_list_append PySem.F.type_list_append mt_append (pe_fld (pv 0) rfl) (pa_cons (pv 1) pa_nil)))) pss_nil), ?_⟩
    walk_at "wn"
    refine ⟨_, rfl, a, CW, dx, _, _, rfl, ha, T.cl, T.no _ (by decide), rfl, ?_⟩
    refine ⟨q, qs.map V.int, rfl, .inl (SqL.of hq), rfl, flat_ints qs, ?_⟩
    refine ⟨_, rfl, ?_⟩
    rw [inV_int]
    by_cases h : l ∈ qs
    · rw [decide_eq_true h]
      walk_at "wn"
      refine k H ?_ fun _ _ => rfl
      unfold qAdd
      rw [if_pos h]
      exact hq
    · rw [decide_eq_false h]
      walk_at "wn"
      refine ⟨_, rfl, a, CW, dx, _, _, rfl, ha, T.cl, T.no _ (by decide), rfl, ?_⟩
      refine ⟨.inl ⟨rfl, _, SqL.of hq⟩, ?_⟩
      refine ⟨_, rfl, q, _, _, rfl, rfl, hq, by rw [List.length_map, sizeLine_eq]; omega, ?_⟩
      refine k _ ?_ fun b hb => upd_ne hb
      unfold qAdd
      rw [if_neg h, upd_same, List.map_append]
      rfl
end

/-- a registration as data -/
structure Reg where
  num : Int
  src : Int
  word : Str
  armed : Bool
/-- the entries: labels, with what stands at the address of each -/
def entKV (ls : List Int) (ad : Int → Addr) : List (Key × V) := ls.map fun l => (Sum.inl l, .ref (ad l))
theorem ent_val (ls : List Int) (ad : Int → Addr) (l : Int) : valV (entKV ls ad) (Sum.inl l) = if l ∈ ls then some (.ref (ad l)) else none := by
  induction ls with
  | nil => rfl
  | cons x ls ih =>
    unfold entKV at ih ⊢
    rw [List.map_cons]
    by_cases h : x = l
    · subst h
      rw [valV_pos rfl, if_pos List.mem_cons_self]
    · rw [valV_neg (fun z => h (Sum.inl.inj z)), ih]
      by_cases h2 : l ∈ ls
      · rw [if_pos h2, if_pos (List.mem_cons_of_mem _ h2)]
      · rw [if_neg h2, if_neg fun z => (List.mem_cons.mp z).elim (fun e => h e.symm) h2]
theorem ent_put (ls : List Int) (ad : Int → Addr) (l : Int) (b : Addr) : putK (entKV ls ad) (Sum.inl l) (.ref b) = entKV (if l ∈ ls then ls else ls ++ [l]) (fun j => if j = l then b else ad j) := by
  unfold putK
  rw [valV_any, ent_val]
  by_cases h : l ∈ ls
  · rw [if_pos h, if_pos h]
    show List.map _ (entKV ls ad) = _
    unfold entKV
    rw [List.map_map]
    refine List.map_congr_left fun x _ => ?_
    by_cases e : x = l
    · show (if (Sum.inl x : Key) = Sum.inl l then _ else _) = _
      rw [if_pos (by rw [e])]
      show (_, V.ref b) = (_, V.ref (if x = l then b else ad x))
      rw [if_pos e]
    · show (if (Sum.inl x : Key) = Sum.inl l then _ else _) = _
      rw [if_neg (fun z => e (Sum.inl.inj z))]
      show _ = (_, V.ref (if x = l then b else ad x))
      rw [if_neg e]
  · rw [if_neg h, if_neg h]
    show entKV ls ad ++ _ = _
    unfold entKV
    rw [List.map_append]
    have e1 : ls.map (fun j => ((Sum.inl j : Key), V.ref (if j = l then b else ad j))) = ls.map fun j => (Sum.inl j, V.ref (ad j)) := List.map_congr_left fun x hx => by rw [if_neg fun z : x = l => h (by rw [← z]; exact hx)]
    rw [e1]
    congr 1
    show [(_, V.ref b)] = [(_, V.ref (if l = l then b else ad l))]
    rw [if_pos rfl]
/-- at the labels' addresses stand the registrations -/
def RegsAt (CR : Addr) (H : Hp) (ls : List Int) (ad : Int → Addr) (reg : Int → Reg) : Prop := ∀ l ∈ ls, ∃ dx, H (ad l) = some (regO CR dx (reg l).num (reg l).src (reg l).word (reg l).armed)
section
variable {P : Program} {w : World} {K : PySem.W.Frag} {mg : Str → Option Value} {base : Heap} {CR CW : Addr}
theorem str_inj' {x y : Str} : V.str x = V.str y ↔ x = y := ⟨fun h => by cases h; rfl, fun h => by rw [h]⟩
def settled (reg : Int → Reg) (l : Int) : Int → Reg := fun j => if j = l ∧ (reg l).word = "once" then { reg l with armed := false } else reg j
theorem settled_at {reg : Int → Reg} {l : Int} (h : (reg l).word = "once") : settled reg l l = { reg l with armed := false } := if_pos ⟨rfl, h⟩
theorem settled_ne {reg : Int → Reg} {l j : Int} (h : j ≠ l) : settled reg l j = reg j := if_neg fun z => h z.1
theorem settled_no {reg : Int → Reg} {l j : Int} (h : (reg l).word ≠ "once") : settled reg l j = reg j := if_neg fun z => h z.2
/-! put -/
inductive PspPut (CW : Addr) (vs : List V) (H : Hp) (Q : VK) : Prop
  | mk (a dx e q b : Addr) (l : Int) (r : Bool) (qs : List Int) (kvs : List (Key × V)) (h_0 : vs = [.ref a, .int l, .ref b, .bl r]) (h_1 : H a = some (wsO CW dx e q)) (h_2 : H q = some (.lst (qs.map V.int))) (h_3 : H e = some (.dK kvs)) (h_4 : qs.length ≤ 10000) (h_5 : kvs.length ≤ 10000) (h_6 : ∀ H', H' e = some (.dK (putK kvs (Sum.inl l) (.ref b))) → H' q = some (.lst ((if r = true then qAdd l qs else qs).map V.int)) → (∀ x, x ≠ e → x ≠ q → H' x = H x) → Q .non H') : PspPut CW vs H Q
def spPut (CW : Addr) : Sp := fun vs H Q _ => PspPut CW vs H Q
theorem scPut : FnScope ["self", "label", "kept", "ready"] ["self", "label", "kept", "ready"] (defScope sPut) := ⟨rfl, rfl, rfl, by decide +kernel, rfl, by decide +kernel, by decide +kernel⟩
theorem okPut {f fA : Addr} {fd fdA : FuncData} (F : Fun K "put" "WaitingSet.put" sPut f fd) (T : ClsF K CW wsF) (GA : FnOk P w K mg base CX0 1 fA fdA ["self", "label"] (spAppend CW)) (mA : Meth K CW "append_pending" fA) (bA : Binds K fdA ["self", "label"] []) :
    FnOk P w K mg base CX0 2 f fd ["self", "label", "kept", "ready"] (spPut CW) := by
  refine F.ok scPut (fun vs H Q E h => ?_) (fun cdv A outer s H vs Q E hr h => ?_)
  · obtain ⟨_, _, _, _, _, _, _, _, _, rfl, _⟩ := h
    rfl
  · obtain ⟨a, dx, e, q, b, l, r, qs, kvs, rfl, ha, hq, he, hl, hl2, k⟩ := h
    have hu := hu_of hr
    refine ⟨_, pss_cons (ps_dput hu (pe_fld (pv 0) rfl) (pv 1) (pv 2) rfl) (pss_one (ps_if (pt_val (pv 3)) (pss_one (ps_expr (pe_meth (pv 0) T.cl mA GA hr bA .nil pass0 (pa_cons (pv 1) pa_nil)))) pss_nil)), ?_⟩
    have nae : a ≠ e := ne_of ha he (by intro z; cases z)
    have nqe : q ≠ e := ne_of hq he (by intro z; cases z)
    refine ⟨_, rfl, _, rfl, a, CW, dx, _, _, rfl, ha, T.cl, T.no _ (by decide), rfl, ?_⟩
    refine ⟨_, rfl, e, _, rfl, DPut.k (k := Sum.inl l) he (by rw [sizeLine_eq]; omega), ?_⟩
    refine ⟨_, rfl, r, rfl, ?_⟩
    have hq1 : upd H e (.dK (putK kvs (Sum.inl l) (.ref b))) q = some (.lst (qs.map V.int)) := by rw [upd_ne nqe]; exact hq
    cases r with
    | true =>
      walk_at "wn"
      refine ⟨_, rfl, a, dx, _, rfl, by rw [upd_ne nae]; exact ha, rfl, ?_⟩
      walk_at "wn"
      refine ⟨a, dx, e, q, l, qs, rfl, by rw [upd_ne nae]; exact ha, hq1, hl, fun H' h1 h2 => ?_⟩
      refine k H' ?_ h1 fun x n1 n2 => ?_
      · rw [h2 e (Ne.symm nqe), upd_same]
      · rw [h2 x n2, upd_ne n1]
    | false =>
      walk_at "wn"
      exact k _ upd_same hq1 fun x n1 n2 => upd_ne n1
/-! settle -/
inductive PspSettle (CW CR : Addr) (vs : List V) (H : Hp) (Q : VK) : Prop
  | mk (a dx e q : Addr) (l : Int) (qs ls : List Int) (ad : Int → Addr) (reg : Int → Reg) (h_0 : vs = [.ref a, .int l]) (h_1 : H a = some (wsO CW dx e q)) (h_2 : H q = some (.lst (qs.map V.int))) (h_3 : H e = some (.dK (entKV ls ad))) (h_4 : RegsAt CR H ls ad reg) (h_5 : l ∈ ls) (h_6 : CW ≠ CR) (h_7 : qs.length ≤ 10000) (h_8 : ls.length ≤ 10000) (h_9 : ∀ H' ad', H' e = some (.dK (entKV ls ad')) → H' q = some (.lst ((if (reg l).word = "level" then qs ++ [l] else qs).map V.int)) → (∀ j, j ≠ l → ad' j = ad j) → (ad' l = ad l ∨ H (ad' l) = none) → RegsAt CR H' ls ad' (settled reg l) → (∀ x o, x ≠ e → x ≠ q → H x = some o → H' x = some o) → Q .non H') : PspSettle CW CR vs H Q
def spSettle (CW CR : Addr) : Sp := fun vs H Q _ => PspSettle CW CR vs H Q
theorem scSettle : FnScope ["self", "label", "kept"] ["self", "label"] (defScope sSettle) := ⟨rfl, rfl, rfl, by decide +kernel, rfl, by decide +kernel, by decide +kernel⟩
theorem okSettle {f fI : Addr} {fd fdI : FuncData} (F : Fun K "settle" "WaitingSet.settle" sSettle f fd) (T : ClsF K CW wsF) (TR : ClsF K CR regF) (gR : mg "Registration" = some (.ref CR)) (M : Mk K CR fI) (GI : FnOk P w K mg base CX0 1 fI fdI ["self", "number", "source", "word", "armed"] (spRegInit CR)) (bI : Binds K fdI ["self", "number", "source", "word", "armed"] []) :
    FnOk P w K mg base CX0 3 f fd ["self", "label"] (spSettle CW CR) := by
  refine F.ok scSettle (fun vs H Q E h => ?_) (fun cdv A outer s H vs Q E hr h => ?_)
  · obtain ⟨_, _, _, _, _, _, _, _, _, rfl, _⟩ := h
    rfl
  · obtain ⟨a, dx, e, q, l, qs, ls, ad, reg, rfl, ha, hq, he, hR, hl, nWR, hz, hz2, k⟩ := h
    have hu := hu_of hr
    refine ⟨_, pss_cons (ps_set (i := 2) scSettle.nd rfl (Or.inl rfl) (pe_dget hu (pe_fld (pv 0) rfl) (pv 1) (fun _ _ => rfl)))
      (pss_cut (ps_if (pt_cmpR op_eq (pe_fld (pv 2) rfl) pe_str (nomark _)) (pss_one (ps_expr (pe_bm PySem.F.plainAttrs_list PySem.F.slot_list_append PySem.F.type_list_append mt_append (pe_fld (pv 0) rfl) (pa_cons (pv 1) pa_nil)))) pss_nil)
      (pss_one (ps_if (pt_cmpR op_eq (pe_fld (pv 2) rfl) pe_str (nomark _)) (pss_one (ps_dput hu (pe_fld (pv 0) rfl) (pv 1) (pe_make M GI hr (by rfl) gR bI .nil pass0 (pa_cons (pe_fld (pv 2) rfl) (pa_cons (pe_fld (pv 2) rfl) (pa_cons (pe_fld (pv 2) rfl) (pa_cons pe_bl pa_nil))))) rfl)) pss_nil))), ?_⟩
    obtain ⟨dr, hr1⟩ := hR l hl
    have nqe : q ≠ e := ne_of hq he (by intro z; cases z)
    have nae : a ≠ e := ne_of ha he (by intro z; cases z)
    have naq : a ≠ q := ne_of ha hq (by intro z; cases z)
    have nre : ad l ≠ e := ne_of hr1 he (by intro z; cases z)
    have nrq : ad l ≠ q := ne_of hr1 hq (by intro z; cases z)
    refine ⟨_, rfl, a, CW, dx, _, _, rfl, ha, T.cl, T.no _ (by decide), rfl, ?_⟩
    have hv : valV (entKV ls ad) (Sum.inl l) = some (.ref (ad l)) := by rw [ent_val, if_pos hl]
    refine ⟨_, rfl, e, _, rfl, hv ▸ DGet.k (k := Sum.inl l) he, ?_⟩
    refine ⟨fun σ' H1 => σ' = [some (.ref a), some (.int l), some (.ref (ad l))] ∧ H1 q = some (.lst ((if (reg l).word = "level" then qs ++ [l] else qs).map V.int)) ∧ ∀ x, x ≠ q → H1 x = H x, ?_, ?_⟩
    · refine ⟨_, rfl, ad l, CR, dr, _, _, rfl, hr1, TR.cl, TR.no _ (by decide), rfl, rfl, _, rfl, ?_⟩
      by_cases h : (reg l).word = "level"
      · rw [decide_eq_true (str_inj'.mpr h)]
        walk_at "wn"
        refine ⟨_, rfl, a, CW, dx, _, _, rfl, ha, T.cl, T.no _ (by decide), rfl, ?_⟩
        refine ⟨.inl ⟨rfl, _, SqL.of hq⟩, ?_⟩
        refine ⟨_, rfl, q, _, _, rfl, rfl, hq, by rw [List.length_map, sizeLine_eq]; omega, ?_⟩
        refine ⟨rfl, ?_, fun x n => upd_ne n⟩
        rw [if_pos h, upd_same, List.map_append]
        rfl
      · rw [decide_eq_false (fun z => h (str_inj'.mp z))]
        walk_at "wn"
        exact ⟨rfl, by rw [if_neg h]; exact hq, fun _ _ => rfl⟩
    rintro σ' H1 ⟨rfl, hq1, h1⟩
    have hr2 : H1 (ad l) = _ := (h1 _ nrq).trans hr1
    have he1 : H1 e = _ := (h1 _ (Ne.symm nqe)).trans he
    have ha1 : H1 a = _ := (h1 _ naq).trans ha
    have hR1 : ∀ j ∈ ls, ∃ dx, H1 (ad j) = some (regO CR dx (reg j).num (reg j).src (reg j).word (reg j).armed) := fun j hj => by
      obtain ⟨dj, ej⟩ := hR j hj
      exact ⟨dj, (h1 _ (ne_of ej hq (by intro z; cases z))).trans ej⟩
    refine ⟨_, rfl, ad l, CR, dr, _, _, rfl, hr2, TR.cl, TR.no _ (by decide), rfl, rfl, _, rfl, ?_⟩
    by_cases h : (reg l).word = "once"
    · rw [decide_eq_true (str_inj'.mpr h)]
      walk_at "wn"
      refine ⟨_, rfl, ad l, CR, dr, _, _, rfl, hr2, TR.cl, TR.no _ (by decide), rfl, ?_⟩
      refine ⟨_, rfl, ad l, CR, dr, _, _, rfl, hr2, TR.cl, TR.no _ (by decide), rfl, ?_⟩
      refine ⟨_, rfl, ad l, CR, dr, _, _, rfl, hr2, TR.cl, TR.no _ (by decide), rfl, ?_⟩
      walk_at "wn"
      intro x dx2 hx hdx ndx
      refine ⟨x, dx2, _, _, _, _, rfl, upd_same, fun H2 k1 k2 => ⟨rfl, ?_⟩⟩
      have k3 : ∀ b o, H1 b = some o → H2 b = some o := fun b o e => by
        rw [k1 b (ne_of_none e hx), upd_ne (ne_of_none e hx), upd_ne (ne_of_none e hdx)]
        exact e
      refine ⟨_, rfl, a, CW, dx, _, _, rfl, k3 _ _ ha1, T.cl, T.no _ (by decide), rfl, ?_⟩
      refine ⟨_, rfl, e, _, rfl, DPut.k (k := Sum.inl l) (k3 _ _ he1) (by rw [sizeLine_eq]; unfold entKV; rw [List.length_map]; omega), ?_⟩
      rw [ent_put, if_pos hl]
      have nxe : x ≠ e := fun z => by rw [z, he1] at hx; cases hx
      refine k _ _ upd_same ?_ (fun j hj => if_neg hj) (.inr ?_) (fun j hj => ?_) fun b o n1 n2 e2 => ?_
      · rw [upd_ne nqe]
        exact k3 _ _ hq1
      · show H (if l = l then x else ad l) = none
        rw [if_pos rfl, ← h1 x (fun z => by rw [z, hq1] at hx; cases hx)]
        exact hx
      · show ∃ dx, upd H2 e _ (if j = l then x else ad j) = _
        by_cases ej : j = l
        · rw [ej, if_pos rfl, settled_at h, upd_ne nxe, k2]
          exact ⟨dx2, rfl⟩
        · rw [if_neg ej, settled_ne ej]
          obtain ⟨dj, e3⟩ := hR1 j hj
          rw [upd_ne (ne_of e3 he1 (by intro z; cases z))]
          exact ⟨dj, k3 _ _ e3⟩
      · rw [upd_ne n1]
        exact k3 _ _ ((h1 _ n2).trans e2)
    · rw [decide_eq_false (fun z => h (str_inj'.mp z))]
      walk_at "wn"
      refine k H1 ad he1 hq1 (fun _ _ => rfl) (.inl rfl) (fun j hj => ?_) fun b o n1 n2 e2 => (h1 _ n2).trans e2
      rw [settled_no h]
      exact hR1 j hj
/-! label_of -/
def keyOf (reg : Int → Reg) (n s : Int) (l : Int) : Bool := decide ((reg l).num = n) && decide ((reg l).src = s)
inductive PspLabelOf (CW CR : Addr) (vs : List V) (H : Hp) (Q : VK) : Prop
  | mk (a dx e q : Addr) (n s : Int) (ls : List Int) (ad : Int → Addr) (reg : Int → Reg) (h_0 : vs = [.ref a, .int n, .int s]) (h_1 : H a = some (wsO CW dx e q)) (h_2 : H e = some (.dK (entKV ls ad))) (h_3 : RegsAt CR H ls ad reg) (h_4 : ∀ H', Same H H' → Q (match ls.find? (keyOf reg n s) with | some l => .int l | none => .non) H') : PspLabelOf CW CR vs H Q
def spLabelOf (CW CR : Addr) : Sp := fun vs H Q _ => PspLabelOf CW CR vs H Q
theorem scLabelOf : FnScope ["self", "number", "source", "label", "kept"] ["self", "number", "source"] (defScope sLabelOf) := ⟨rfl, rfl, rfl, by decide +kernel, rfl, by decide +kernel, by decide +kernel⟩
theorem okLabelOf {f : Addr} {fd : FuncData} (F : Fun K "label_of" "WaitingSet.label_of" sLabelOf f fd) (T : ClsF K CW wsF) (TR : ClsF K CR regF) : FnOk P w K mg base CX0 1 f fd ["self", "number", "source"] (spLabelOf CW CR) := by
  refine F.ok scLabelOf (fun vs H Q E h => ?_) (fun cdv A outer s H vs Q E hr h => ?_)
  · obtain ⟨_, _, _, _, _, _, _, _, _, rfl, _⟩ := h
    rfl
  · obtain ⟨a, dx, e, q, n, s, ls, ad, reg, rfl, ha, he, hR, k⟩ := h
    refine ⟨_, pss_cons (ps_lock (ps_for PassesOwn.never rfl (pi_items (pe_fld (pv 0) rfl)) (pg_tup rfl (pgs_cons (pg_name (i := 3) scLabelOf.nd rfl (Or.inl rfl)) (pgs_cons (pg_name (i := 4) scLabelOf.nd rfl (Or.inl rfl)) pgs_nil)))
        (pss_one (ps_if (PW.pt (pw_and (pt_cmpR op_eq (pe_fld (pv 4) rfl) (pv 1) (nomark _)) (pw_and1 (pt_cmpR op_eq (pe_fld (pv 4) rfl) (pv 2) (nomark _))))) (pss_one (ps_ret (pv 3))) pss_nil))))
      (pss_one (ps_ret pe_non)), ?_⟩
    have nae : a ≠ e := ne_of ha he (by intro z; cases z)
    refine ⟨e, _, he, trivial, fun od => ?_⟩
    have ha1 : upd H e (.frz od (.dK (entKV ls ad))) a = some (wsO CW dx e q) := by rw [upd_ne nae]; exact ha
    refine ⟨_, rfl, a, CW, dx, _, _, rfl, ha1, T.cl, T.no _ (by decide), rfl, ?_⟩
    refine ⟨e, od, entKV ls ad, rfl, upd_same, ?_⟩
    -- behind the lock
    have un : ∀ {H1 : Hp}, Same (upd H e (.frz od (.dK (entKV ls ad)))) H1 → Same H (upd H1 e (.dK (entKV ls ad))) := fun {H1} sm b o e1 => by
      by_cases hb : b = e
      · rw [hb, upd_same, ← he, ← hb, e1]
      · rw [upd_ne hb]
        exact sm _ _ (by rw [upd_ne hb]; exact e1)
    have hR1 : ∀ j ∈ ls, ∃ dx, upd H e (.frz od (.dK (entKV ls ad))) (ad j) = some (regO CR dx (reg j).num (reg j).src (reg j).word (reg j).armed) := fun j hj => by
      obtain ⟨dj, ej⟩ := hR j hj
      exact ⟨dj, by rw [upd_ne (ne_of ej he (by intro z; cases z))]; exact ej⟩
    refine for_it walk_items (fun i σ' H1 => ∃ u v : Option V, σ' = [some (.ref a), some (.int n), some (.int s), u, v] ∧ Same (upd H e (.frz od (.dK (entKV ls ad)))) H1 ∧ ∀ j l, ls[j]? = some l → j < i → keyOf reg n s l = false) ⟨_, _, rfl, Same.refl _, fun _ _ _ z => absurd z (Nat.not_lt_zero _)⟩ (fun i σ' H1 _ z => by obtain ⟨_, _, _, sm, _⟩ := z; exact sm _ _ upd_same) ?_ ?_
    · rintro i x σ' H1 H2 hi ⟨u, v, rfl, sm, hn⟩ ⟨T1, x1, y1, rfl, nT, rfl, ex, ey⟩
      have hi' : i < ls.length := by unfold entKV at hi; rwa [List.length_map] at hi
      have e1 : (entKV ls ad)[i]? = some (Sum.inl ls[i], .ref (ad ls[i])) := by
        unfold entKV
        rw [List.getElem?_map, List.getElem?_eq_getElem hi']
        rfl
      have ex : (entKV ls ad)[i]?.map (fun kv => kV kv.1) = some x1 := ex
      have ey : (entKV ls ad)[i]?.map Prod.snd = some y1 := ey
      rw [e1] at ex ey
      cases ex
      cases ey
      have smT := sm.trans (Same.new' (o := .tup [V.int ls[i], V.ref (ad ls[i])]) nT)
      obtain ⟨dr, er⟩ := hR1 ls[i] (List.getElem_mem hi')
      have er2 := smT _ _ er
      refine ⟨T1, _, rfl, SqT.of upd_same, rfl, _, _, rfl, ?_⟩
      walk_at "wn"
      refine ⟨_, _, rfl, ?_⟩
      walk_at "wn"
      refine ⟨rfl, ?_⟩
      refine ⟨_, rfl, ad ls[i], CR, dr, _, _, rfl, er2, TR.cl, TR.no _ (by decide), rfl, _, rfl, rfl, _, rfl, ?_⟩
      have no : keyOf reg n s ls[i] = false → ∃ u v : Option V, ([some (.ref a), some (.int n), some (.int s), some (.int ls[i]), some (.ref (ad ls[i]))] : L2.St) = [some (.ref a), some (.int n), some (.int s), u, v] ∧ Same (upd H e (.frz od (.dK (entKV ls ad)))) (upd H1 T1 (.tup [V.int ls[i], V.ref (ad ls[i])])) ∧ ∀ j l, ls[j]? = some l → j < i + 1 → keyOf reg n s l = false := fun hk => ⟨_, _, rfl, smT, fun j l ej hj => by
        rcases Nat.lt_or_ge j i with z | z
        · exact hn j l ej z
        · obtain rfl : j = i := by omega
          rw [List.getElem?_eq_getElem hi'] at ej
          cases ej
          exact hk⟩
      by_cases h1 : (reg ls[i]).num = n
      · rw [decide_eq_true (by rw [h1])]
        walk_at "wn"
        refine ⟨_, rfl, ad ls[i], CR, dr, _, _, rfl, er2, TR.cl, TR.no _ (by decide), rfl, _, rfl, rfl, _, rfl, ?_⟩
        by_cases h2 : (reg ls[i]).src = s
        · rw [decide_eq_true (by rw [h2])]
          walk_at "wn"
          refine ⟨smT _ _ upd_same, ?_⟩
          have hf : ls.find? (keyOf reg n s) = some ls[i] := by
            rw [List.find?_eq_some_iff_getElem]
            refine ⟨by unfold keyOf; rw [decide_eq_true h1, decide_eq_true h2]; rfl, i, hi', rfl, fun j hj => ?_⟩
            rw [hn j _ (List.getElem?_eq_getElem (by omega)) hj]
            rfl
          have z := k _ (un smT)
          rw [hf] at z
          exact z
        · rw [decide_eq_false fun z => h2 (V.int.inj z)]
          walk_at "wn"
          exact no (by unfold keyOf; rw [decide_eq_false h2, Bool.and_false])
      · rw [decide_eq_false fun z => h1 (V.int.inj z)]
        walk_at "wn"
        exact no (by unfold keyOf; rw [decide_eq_false h1, Bool.false_and])
    · rintro σ' H1 ⟨u, v, rfl, sm, hn⟩
      refine ⟨sm _ _ upd_same, ?_⟩
      walk_at "wn"
      have hf : ls.find? (keyOf reg n s) = none := by
        rw [List.find?_eq_none]
        intro l hl
        obtain ⟨j, hj, rfl⟩ := List.getElem_of_mem hl
        rw [hn j _ (List.getElem?_eq_getElem hj) (by unfold entKV; rw [List.length_map]; exact hj)]
        exact Bool.false_ne_true
      have z := k _ (un sm)
      rw [hf] at z
      exact z
/-! notice -/
def noticeQ (reg : Int → Reg) (s : Int) (ls qs : List Int) : List Int := ls.foldl (fun acc l => if (reg l).src = s ∧ (reg l).armed = true then qAdd l acc else acc) qs
theorem notice_len (reg : Int → Reg) (s : Int) : ∀ ls qs : List Int, (noticeQ reg s ls qs).length ≤ qs.length + ls.length
  | [], _ => Nat.le_refl _
  | l :: ls, qs => by
    have := notice_len reg s ls (if (reg l).src = s ∧ (reg l).armed = true then qAdd l qs else qs)
    have h2 : (if (reg l).src = s ∧ (reg l).armed = true then qAdd l qs else qs).length ≤ qs.length + 1 := by
      unfold qAdd
      split
      · split
        · omega
        · rw [List.length_append]
          exact Nat.le_refl _
      · omega
    refine Nat.le_trans this ?_
    rw [List.length_cons]
    omega
theorem notice_step (reg : Int → Reg) (s : Int) (ls qs : List Int) {i : Nat} (hi : i < ls.length) : noticeQ reg s (ls.take (i + 1)) qs = if (reg ls[i]).src = s ∧ (reg ls[i]).armed = true then qAdd ls[i] (noticeQ reg s (ls.take i) qs) else noticeQ reg s (ls.take i) qs := by
  unfold noticeQ
  rw [List.take_add_one, List.getElem?_eq_getElem hi, List.foldl_append]
  rfl
inductive PspNotice (CW CR : Addr) (vs : List V) (H : Hp) (Q : VK) : Prop
  | mk (a dx e q : Addr) (s : Int) (qs ls : List Int) (ad : Int → Addr) (reg : Int → Reg) (h_0 : vs = [.ref a, .int s]) (h_1 : H a = some (wsO CW dx e q)) (h_2 : H q = some (.lst (qs.map V.int))) (h_3 : H e = some (.dK (entKV ls ad))) (h_4 : RegsAt CR H ls ad reg) (h_5 : qs.length ≤ 4000) (h_6 : ls.length ≤ 4000) (h_7 : ∀ H', H' q = some (.lst ((noticeQ reg s ls qs).map V.int)) → (∀ b o, b ≠ q → H b = some o → H' b = some o) → Q .non H') : PspNotice CW CR vs H Q
def spNotice (CW CR : Addr) : Sp := fun vs H Q _ => PspNotice CW CR vs H Q
theorem scNotice : FnScope ["self", "source", "label", "kept"] ["self", "source"] (defScope sNotice) := ⟨rfl, rfl, rfl, by decide +kernel, rfl, by decide +kernel, by decide +kernel⟩
theorem okNotice {f fA : Addr} {fd fdA : FuncData} (F : Fun K "notice" "WaitingSet.notice" sNotice f fd) (T : ClsF K CW wsF) (TR : ClsF K CR regF) (GA : FnOk P w K mg base CX0 1 fA fdA ["self", "label"] (spAppend CW)) (mA : Meth K CW "append_pending" fA) (bA : Binds K fdA ["self", "label"] []) :
    FnOk P w K mg base CX0 2 f fd ["self", "source"] (spNotice CW CR) := by
  refine F.ok scNotice (fun vs H Q E h => ?_) (fun cdv A outer s H vs Q E hr h => ?_)
  · obtain ⟨_, _, _, _, _, _, _, _, _, rfl, _⟩ := h
    rfl
  · obtain ⟨a, dx, e, q, s, qs, ls, ad, reg, rfl, ha, hq, he, hR, hz, hz2, k⟩ := h
    refine ⟨_, pss_one (ps_lock (ps_for PassesOwn.never rfl (pi_items (pe_fld (pv 0) rfl)) (pg_tup rfl (pgs_cons (pg_name (i := 2) scNotice.nd rfl (Or.inl rfl)) (pgs_cons (pg_name (i := 3) scNotice.nd rfl (Or.inl rfl)) pgs_nil)))
        (pss_one (ps_if (PW.pt (pw_and (pt_cmpR op_eq (pe_fld (pv 3) rfl) (pv 1) (nomark _)) (pw_and1 (pt_val (pe_fld (pv 3) rfl))))) (pss_one (ps_expr (pe_meth (pv 0) T.cl mA GA hr bA .nil pass0 (pa_cons (pv 2) pa_nil)))) pss_nil)))), ?_⟩
    have nae : a ≠ e := ne_of ha he (by intro z; cases z)
    have naq : a ≠ q := ne_of ha hq (by intro z; cases z)
    have nqe : q ≠ e := ne_of hq he (by intro z; cases z)
    refine ⟨e, _, he, trivial, fun od => ?_⟩
    have ha1 : upd H e (.frz od (.dK (entKV ls ad))) a = some (wsO CW dx e q) := by rw [upd_ne nae]; exact ha
    have hq1 : upd H e (.frz od (.dK (entKV ls ad))) q = some (.lst (qs.map V.int)) := by rw [upd_ne nqe]; exact hq
    refine ⟨_, rfl, a, CW, dx, _, _, rfl, ha1, T.cl, T.no _ (by decide), rfl, ?_⟩
    refine ⟨e, od, entKV ls ad, rfl, upd_same, ?_⟩
    have hR1 : ∀ j ∈ ls, ∃ dx, upd H e (.frz od (.dK (entKV ls ad))) (ad j) = some (regO CR dx (reg j).num (reg j).src (reg j).word (reg j).armed) ∧ ad j ≠ q := fun j hj => by
      obtain ⟨dj, ej⟩ := hR j hj
      exact ⟨dj, by rw [upd_ne (ne_of ej he (by intro z; cases z))]; exact ej, ne_of ej hq (by intro z; cases z)⟩
    have un : ∀ {H1 : Hp}, (∀ b o, b ≠ q → upd H e (.frz od (.dK (entKV ls ad))) b = some o → H1 b = some o) → ∀ b o, b ≠ q → H b = some o → upd H1 e (.dK (entKV ls ad)) b = some o := fun {H1} sm b o n e1 => by
      by_cases hb : b = e
      · rw [hb, upd_same, ← he, ← hb, e1]
      · rw [upd_ne hb]
        exact sm _ _ n (by rw [upd_ne hb]; exact e1)
    refine for_it walk_items (fun i σ' H1 => ∃ u v : Option V, σ' = [some (.ref a), some (.int s), u, v] ∧ (∀ b o, b ≠ q → upd H e (.frz od (.dK (entKV ls ad))) b = some o → H1 b = some o) ∧ H1 q = some (.lst ((noticeQ reg s (ls.take i) qs).map V.int))) ⟨_, _, rfl, fun _ _ _ z => z, hq1⟩ (fun i σ' H1 _ z => by obtain ⟨_, _, _, sm, _⟩ := z; exact sm _ _ (Ne.symm nqe) upd_same) ?_ ?_
    · rintro i x σ' H1 H2 hi ⟨u, v, rfl, sm, hqi⟩ ⟨T1, x1, y1, rfl, nT, rfl, ex, ey⟩
      have hi' : i < ls.length := by unfold entKV at hi; rwa [List.length_map] at hi
      have e1 : (entKV ls ad)[i]? = some (Sum.inl ls[i], .ref (ad ls[i])) := by
        unfold entKV
        rw [List.getElem?_map, List.getElem?_eq_getElem hi']
        rfl
      have ex : (entKV ls ad)[i]?.map (fun kv => kV kv.1) = some x1 := ex
      have ey : (entKV ls ad)[i]?.map Prod.snd = some y1 := ey
      rw [e1] at ex ey
      cases ex
      cases ey
      have nT2 := Same.new' (o := .tup [V.int ls[i], V.ref (ad ls[i])]) nT
      have smT : ∀ b o, b ≠ q → upd H e (.frz od (.dK (entKV ls ad))) b = some o → upd H1 T1 (.tup [V.int ls[i], V.ref (ad ls[i])]) b = some o := fun b o n z => nT2 _ _ (sm b o n z)
      have hqT := nT2 _ _ hqi
      obtain ⟨dr, er, nrq⟩ := hR1 ls[i] (List.getElem_mem hi')
      have er2 := smT _ _ nrq er
      have st := notice_step reg s ls qs hi'
      refine ⟨T1, _, rfl, SqT.of upd_same, rfl, _, _, rfl, ?_⟩
      walk_at "wn"
      refine ⟨_, _, rfl, ?_⟩
      walk_at "wn"
      refine ⟨rfl, ?_⟩
      refine ⟨_, rfl, ad ls[i], CR, dr, _, _, rfl, er2, TR.cl, TR.no _ (by decide), rfl, _, rfl, rfl, _, rfl, ?_⟩
      by_cases h1 : (reg ls[i]).src = s
      · rw [decide_eq_true (by rw [h1])]
        walk_at "wn"
        refine ⟨_, rfl, ad ls[i], CR, dr, _, _, rfl, er2, TR.cl, TR.no _ (by decide), rfl, _, rfl, ?_⟩
        cases h2 : (reg ls[i]).armed with
        | true =>
          walk_at "wn"
          refine ⟨_, rfl, a, dx, _, rfl, smT _ _ naq ha1, rfl, ?_⟩
          walk_at "wn"
          have hl3 := notice_len reg s (ls.take i) qs
          rw [List.length_take] at hl3
          refine ⟨a, dx, e, q, ls[i], _, rfl, smT _ _ naq ha1, hqT, by omega, fun H' k1 k2 => ?_⟩
          refine ⟨_, _, rfl, fun b o n z => by rw [k2 b n]; exact smT b o n z, ?_⟩
          rw [st, if_pos ⟨h1, h2⟩]
          exact k1
        | false =>
          walk_at "wn"
          refine ⟨_, _, rfl, smT, ?_⟩
          rw [st, if_neg fun z => by rw [h2] at z; exact Bool.noConfusion z.2]
          exact hqT
      · rw [decide_eq_false fun z => h1 (V.int.inj z)]
        walk_at "wn"
        refine ⟨_, _, rfl, smT, ?_⟩
        rw [st, if_neg fun z => h1 z.1]
        exact hqT
    · rintro σ' H1 ⟨u, v, rfl, sm, hqi⟩
      refine ⟨sm _ _ (Ne.symm nqe) upd_same, ?_⟩
      have e3 : ls.take (entKV ls ad).length = ls := by unfold entKV; rw [List.length_map, List.take_length]
      rw [e3] at hqi
      exact k _ (by rw [upd_ne nqe]; exact hqi) (un sm)
end

/-! what a wait takes -/
structure TSt where
  reps : List (Int × Int × Bool)
  que : List Int
  reg : Int → Reg
def takeStep (unit : Int → Int × Bool) (s : TSt) (l : Int) : TSt :=
  if decide (0 < (unit (s.reg l).src).1) || (unit (s.reg l).src).2 then ⟨s.reps ++ [(l, (unit (s.reg l).src).1, (unit (s.reg l).src).2)], if (s.reg l).word = "level" then s.que.drop 1 ++ [l] else s.que.drop 1, settled s.reg l⟩ else ⟨s.reps, s.que.drop 1, s.reg⟩
def takeAll (unit : Int → Int × Bool) (most : Int) : List Int → TSt → TSt
  | [], s => s
  | l :: ls, s => if (s.reps.length : Int) = most then s else takeAll unit most ls (takeStep unit s l)
theorem settled_src (reg : Int → Reg) (l j : Int) : (settled reg l j).src = (reg j).src := by
  unfold settled
  split
  · rename_i h
    rw [h.1]
  · rfl
theorem step_src (unit : Int → Int × Bool) (s : TSt) (l j : Int) : ((takeStep unit s l).reg j).src = (s.reg j).src := by
  unfold takeStep
  split
  · exact settled_src _ _ _
  · rfl
theorem step_len (unit : Int → Int × Bool) (s : TSt) (l : Int) : (takeStep unit s l).que.length ≤ s.que.length + 1 ∧ (takeStep unit s l).reps.length ≤ s.reps.length + 1 := by
  unfold takeStep
  split
  · refine ⟨?_, by simp⟩
    dsimp only
    split
    · rw [List.length_append, List.length_drop]
      show s.que.length - 1 + 1 ≤ _
      omega
    · rw [List.length_drop]
      omega
  · refine ⟨?_, Nat.le_succ _⟩
    dsimp only
    rw [List.length_drop]
    omega
theorem cut_one (l : List V) : cutV l (some 1) none = l.drop 1 := by
  cases l with
  | nil => rfl
  | cons v l =>
    unfold cutV HT.sIx
    simp
/-- the units of the sources, each a tuple -/
def UnitsAt (H : Hp) (ss : List Int) (ad : Int → Addr) (unit : Int → Int × Bool) : Prop := ∀ s ∈ ss, H (ad s) = some (.tup [.int (unit s).1, .bl (unit s).2])
abbrev RepAt (H : Hp) : V → Int × Int × Bool → Prop := fun v r => ∃ t, v = .ref t ∧ H t = some (.tup [.int r.1, .int r.2.1, .bl r.2.2])
theorem reps_keep {H H' : Hp} {vs : List V} {rs : List (Int × Int × Bool)} (p : Paired (RepAt H) vs rs) (k : ∀ b xs, H b = some (.tup xs) → H' b = some (.tup xs)) : Paired (RepAt H') vs rs := by
  induction p with
  | nil => exact .nil
  | cons r _ ih =>
    obtain ⟨t, e1, e2⟩ := r
    exact .cons ⟨t, e1, k _ _ e2⟩ ih
theorem reps_snoc {H : Hp} {vs : List V} {rs : List (Int × Int × Bool)} {v : V} {r : Int × Int × Bool} (p : Paired (RepAt H) vs rs) (q : RepAt H v r) : Paired (RepAt H) (vs ++ [v]) (rs ++ [r]) := by
  induction p with
  | nil => exact .cons q .nil
  | cons r _ ih => exact .cons r ih
theorem or_pure {σ : L2.St} {H : Hp} {t u : TT} {b1 b2 : Bool} {k : Bool → Hp → Prop} (h1 : ∀ k : Bool → Hp → Prop, k b1 H → t σ H k) (h2 : ∀ k : Bool → Hp → Prop, k b2 H → u σ H k) (q : k (b1 || b2) H) : tOr t u σ H k := by
  show t σ H fun b H1 => if b = true then k true H1 else u σ H1 k
  refine h1 _ ?_
  cases b1 with
  | true => exact q
  | false => exact h2 k q
section
variable {P : Program} {w : World} {K : PySem.W.Frag} {mg : Str → Option Value} {base : Heap} {CR CW : Addr}
inductive PspReports (CW CR : Addr) (vs : List V) (H : Hp) (Q : VK) : Prop
  | mk (a dx e q D : Addr) (most : Int) (qs ls ss : List Int) (ad adS : Int → Addr) (reg : Int → Reg) (unit : Int → Int × Bool) (h_0 : vs = [.ref a, .int most, .ref D]) (h_1 : H a = some (wsO CW dx e q)) (h_2 : H q = some (.lst (qs.map V.int))) (h_3 : H e = some (.dK (entKV ls ad))) (h_4 : RegsAt CR H ls ad reg) (h_5 : H D = some (.dK (entKV ss adS))) (h_6 : D ≠ e) (h_7 : UnitsAt H ss adS unit) (h_8 : (∀ l ∈ qs, l ∈ ls)) (h_9 : (∀ l ∈ ls, (reg l).src ∈ ss)) (h_10 : CW ≠ CR) (h_11 : (∀ l ∈ ls, ∀ l' ∈ ls, ad l = ad l' → l = l')) (h_12 : qs.length ≤ 1000) (h_13 : ls.length ≤ 1000) (h_14 : ∀ H' r rs q' ad', H' a = some (wsO CW dx e q') → H' q' = some (.lst ((takeAll unit most qs ⟨[], qs, reg⟩).que.map V.int)) → (q' = q ∨ H q' = none) → H' e = some (.dK (entKV ls ad')) → RegsAt CR H' ls ad' (takeAll unit most qs ⟨[], qs, reg⟩).reg → (∀ j, ad' j = ad j ∨ H (ad' j) = none) → (∀ l ∈ ls, ∀ l' ∈ ls, ad' l = ad' l' → l = l') → H r = none → r ≠ q' → H' r = some (.lst rs) → Paired (RepAt H') rs (takeAll unit most qs ⟨[], qs, reg⟩).reps → (∀ b o, b ≠ a → b ≠ e → b ≠ q → H b = some o → H' b = some o) → Q (.ref r) H') : PspReports CW CR vs H Q
def spReports (CW CR : Addr) : Sp := fun vs H Q _ => PspReports CW CR vs H Q
theorem scReports : FnScope ["self", "most", "sources", "reports", "pending", "label", "unread", "finished"] ["self", "most", "sources"] (defScope sReports) := ⟨rfl, rfl, rfl, by decide +kernel, rfl, by decide +kernel, by decide +kernel⟩
structure WsTxt (mg : Str → Option Value) : Prop where
  list : mg "list" = none
  len : mg "len" = none
inductive RepI (CW CR : Addr) (H : Hp) (a dx e q r p D : Addr) (most : Int) (qs ls ss : List Int) (ad : Int → Addr) (reg : Int → Reg) (unit : Int → Int × Bool) (i : Nat) (σ' : L2.St) (H1 : Hp) : Prop
  | mk (st : TSt) (rs : List V) (q' : Addr) (ad' : Int → Addr) (u5 u6 u7 : Option V) (h_0 : σ' = [some (.ref a), some (.int most), some (.ref D), some (.ref r), some (.ref p), u5, u6, u7]) (h_1 : takeAll unit most (qs.drop i) st = takeAll unit most qs ⟨[], qs, reg⟩) (h_2 : H1 a = some (wsO CW dx e q')) (h_3 : H1 q' = some (.lst (st.que.map V.int))) (h_4 : (q' = q ∨ H q' = none)) (h_5 : q' ≠ r) (h_6 : q' ≠ p) (h_7 : H1 e = some (.dK (entKV ls ad'))) (h_8 : RegsAt CR H1 ls ad' st.reg) (h_9 : (∀ j, ad' j = ad j ∨ H (ad' j) = none)) (h_10 : (∀ l ∈ ls, ∀ l' ∈ ls, ad' l = ad' l' → l = l')) (h_11 : H1 r = some (.lst rs)) (h_12 : H1 p = some (.lst (qs.map V.int))) (h_13 : Paired (RepAt H1) rs st.reps) (h_14 : (∀ b o, b ≠ a → b ≠ e → b ≠ q → H b = some o → H1 b = some o)) (h_15 : (∀ l ∈ ls, (st.reg l).src ∈ ss)) (h_16 : st.que.length ≤ 1000 + i) (h_17 : st.reps.length ≤ i) (h_18 : ∃ o, H1 q = some o) : RepI CW CR H a dx e q r p D most qs ls ss ad reg unit i σ' H1
theorem okReports {f fS : Addr} {fd fdS : FuncData} (F : Fun K "take_reports" "WaitingSet.take_reports" sReports f fd) (X : WsTxt mg) (T : ClsF K CW wsF) (TR : ClsF K CR regF) (GS : FnOk P w K mg base CX0 3 fS fdS ["self", "label"] (spSettle CW CR)) (mS : Meth K CW "settle" fS) (bS : Binds K fdS ["self", "label"] []) :
    FnOk P w K mg base CX0 4 f fd ["self", "most", "sources"] (spReports CW CR) := by
  refine F.ok scReports (fun vs H Q E h => ?_) (fun cdv A outer s H vs Q E hr h => ?_)
  · obtain ⟨_, _, _, _, _, _, _, _, _, _, _, _, _, rfl, _⟩ := h
    rfl
  · obtain ⟨a, dx, e, q, D, most, qs, ls, ss, ad, adS, reg, unit, rfl, ha, hq, he, hR, hD, nDe, hU, hql, hls, nWR, hinj, hz, hz2, k⟩ := h
    have hu := hu_of hr
    refine ⟨_, pss_cons (ps_set (i := 3) scReports.nd rfl (Or.inl rfl) (pe_lst pa_nil))
      (pss_cons (ps_set (i := 4) scReports.nd rfl (Or.inl rfl) (pe_callTy call_list_of (by rfl) X.list PyProof.Rows.boot_list (pa_cons (pe_fld (pv 0) rfl) pa_nil)))
      (pss_cons (ps_for PassesOwn.never rfl (pi_list (pv 4)) (pg_name (i := 5) scReports.nd rfl (Or.inl rfl))
        (pss_cons (ps_if (pt_cmpR op_eq (pe_callB cLenQ (by rfl) X.len PySem.boot_len (pa_cons (pv 3) pa_nil)) (pv 1) (nomark _)) (pss_one ps_break) pss_nil)
        (pss_cons (ps_fld (pv 0) (pe_slice sl_list (pe_fld (pv 0) rfl) (po_some pe_int) po_none) rfl)
        (pss_cons (ps_asg (pe_dget hu (pv 2) (pe_fld (pe_dget hu (pe_fld (pv 0) rfl) (pv 5) (fun _ _ => rfl)) rfl) (fun _ _ => rfl)) (pg_tup rfl (pgs_cons (pg_name (i := 6) scReports.nd rfl (Or.inl rfl)) (pgs_cons (pg_name (i := 7) scReports.nd rfl (Or.inl rfl)) pgs_nil))))
        (pss_one (ps_if (PW.pt (pw_or (pt_cmpR op_gt (pv 6) pe_int (nomark _)) (pw_or1 (pt_val (pv 7)))))
          (pss_cons (ps_expr (pe_bm PySem.F.plainAttrs_list PySem.F.slot_list_append PySem.F.type_list_append mt_append (pv 3) (pa_cons (pe_tup (pa_cons (pv 5) (pa_cons (pv 6) (pa_cons (pv 7) pa_nil)))) pa_nil)))
          (pss_one (ps_expr (pe_meth (pv 0) T.cl mS GS hr bS .nil pass0 (pa_cons (pv 5) pa_nil))))) pss_nil))))))
      (pss_one (ps_ret (pv 3))))), ?_⟩
    walk_at "wn"
    refine ⟨Nat.zero_le _, fun r hr0 => ?_⟩
    walk_at "wn"
    have s1 := Same.new' (o := .lst []) hr0
    refine ⟨_, rfl, a, CW, dx, _, _, rfl, s1 _ _ ha, T.cl, T.no _ (by decide), rfl, ?_⟩
    refine ⟨q, qs.map V.int, rfl, .inl (SqL.of (s1 _ _ hq)), fun p hp => ?_⟩
    walk_at "wn"
    have s2 := Same.new' (o := .lst (qs.map V.int)) hp
    have hrr : upd (upd H r (.lst [])) p (.lst (qs.map V.int)) r = some (.lst []) := s2 _ _ upd_same
    have nPr : p ≠ r := fun z => by rw [z, upd_same] at hp; cases hp
    have npr : p ≠ r := fun z => by rw [z, upd_same] at hp; cases hp
    have hp0 : H p = none := by rw [upd_ne npr] at hp; exact hp
    have sm := s1.trans s2
    have hpp : upd (upd H r (.lst [])) p (.lst (qs.map V.int)) p = some (.lst (qs.map V.int)) := upd_same
    generalize upd (upd H r (.lst [])) p (.lst (qs.map V.int)) = H0 at sm hrr hpp
    refine ⟨_, rfl, p, rfl, ⟨_, SqL.of hpp⟩, for_list (xs := qs.map V.int) (fun i σ' H1 => RepI CW CR H a dx e q r p D most qs ls ss ad reg unit i σ' H1) ?_ (fun i σ' H1 _ z => by obtain ⟨_, _, _, _, _, _, _, _, _, _, _, _, _, _, _, _, _, _, _, h, _⟩ := z; exact SqL.of h) ?_ ?_⟩
    · refine ⟨⟨[], qs, reg⟩, [], q, ad, _, _, _, rfl, rfl, sm _ _ ha, sm _ _ hq, .inl rfl, ne_of_none hq hr0, ne_of_none hq hp0, sm _ _ he, fun l hl => ?_, fun _ => .inl rfl, hinj, hrr, hpp, .nil, fun b o _ _ _ z => sm b o z, hls, by show qs.length ≤ 1000 + 0; omega, Nat.le_refl _, _, sm _ _ hq⟩
      obtain ⟨dl, el⟩ := hR l hl
      exact ⟨dl, sm _ _ el⟩
    · rintro i x σ' H1 hx ⟨st, rs, q', ad', u5, u6, u7, rfl, ht, h1a, h1q, hq', nqr, nqp, h1e, hR1, had, hij, h1r, h1p, hreps, fr, hsrc, hql1, hrl, oq, hoq⟩
      rw [List.getElem?_map] at hx
      cases el : qs[i]? with
      | none => rw [el] at hx; cases hx
      | some l =>
      rw [el] at hx
      cases hx
      obtain ⟨hi, eli⟩ := List.getElem?_eq_some_iff.mp el
      have hin : i < 1000 := by omega
      have hll : l ∈ ls := hql l (List.mem_of_getElem? el)
      rw [List.drop_eq_getElem_cons hi, eli] at ht
      have hlen := hreps.length
      walk_at "wn"
      by_cases hm : (st.reps.length : Int) = most
      · rw [decide_eq_true (by rw [hlen, hm])]
        walk_at "wn"
        have ht2 : st = takeAll unit most qs ⟨[], qs, reg⟩ := by
          rw [← ht]
          unfold takeAll
          rw [if_pos hm]
        refine ⟨_, rfl, ?_⟩
        exact k H1 r rs q' ad' h1a (ht2 ▸ h1q) hq' h1e (ht2 ▸ hR1) had hij hr0 (Ne.symm nqr) h1r (ht2 ▸ hreps) fr
      · rw [decide_eq_false fun z => hm (by rw [← hlen]; exact V.int.inj z)]
        walk_at "wn"
        have ht2 : takeAll unit most (qs.drop (i + 1)) (takeStep unit st l) = takeAll unit most qs ⟨[], qs, reg⟩ := by
          rw [← ht]
          conv => rhs; unfold takeAll
          rw [if_neg hm]
        have nDa : D ≠ a := ne_of hD ha (by intro z; cases z)
        have nDq : D ≠ q := ne_of hD hq (by intro z; cases z)
        have h1D := fr D _ nDa nDe nDq hD
        have ec : cutV (st.que.map V.int) (some 1) none = (st.que.drop 1).map V.int := by rw [cut_one, List.map_drop]
        refine ⟨_, rfl, a, CW, dx, _, _, rfl, h1a, T.cl, T.no _ (by decide), rfl, ?_⟩
        refine ⟨1, rfl, q', _, rfl, SqL.of h1q, fun p2 hp2 => ?_⟩
        rw [ec]
        have s3 := Same.new' (o := .lst ((st.que.drop 1).map V.int)) hp2
        have np2a : p2 ≠ a := fun z => by rw [z, h1a] at hp2; cases hp2
        have np2p : p2 ≠ p := fun z => by rw [z, h1p] at hp2; cases hp2
        have np2r : p2 ≠ r := fun z => by rw [z, h1r] at hp2; cases hp2
        refine ⟨_, rfl, a, CW, dx, _, rfl, s3 _ _ h1a, T.cl, T.no _ (by decide), by show 2 < 1000; decide, ?_⟩
        have h3a : upd (upd H1 p2 (.lst ((st.que.drop 1).map V.int))) a (.ins CW dx (putF "queue" (V.ref p2) [("entries", V.ref e), ("queue", V.ref q')])) a = some (wsO CW dx e p2) := upd_same
        have h3p : upd (upd H1 p2 (.lst ((st.que.drop 1).map V.int))) a (.ins CW dx (putF "queue" (V.ref p2) [("entries", V.ref e), ("queue", V.ref q')])) p2 = some (.lst ((st.que.drop 1).map V.int)) := by rw [upd_ne np2a, upd_same]
        have h3 : ∀ b o, b ≠ a → H1 b = some o → upd (upd H1 p2 (.lst ((st.que.drop 1).map V.int))) a (.ins CW dx (putF "queue" (V.ref p2) [("entries", V.ref e), ("queue", V.ref q')])) b = some o := fun b o n z => by rw [upd_ne n]; exact s3 _ _ z
        generalize upd (upd H1 p2 (.lst ((st.que.drop 1).map V.int))) a (.ins CW dx (putF "queue" (V.ref p2) [("entries", V.ref e), ("queue", V.ref q')])) = H3 at h3a h3p h3
        have h3e := h3 e _ (ne_of h1e h1a (by intro z; cases z)) h1e
        have h3D := h3 D _ nDa h1D
        have h3r := h3 r _ (ne_of h1r h1a (by intro z; cases z)) h1r
        have h3P := h3 p _ (ne_of h1p h1a (by intro z; cases z)) h1p
        have hR3 : RegsAt CR H3 ls ad' st.reg := fun j hj => by
          obtain ⟨dj, ej⟩ := hR1 j hj
          refine ⟨dj, h3 _ _ (fun z => ?_) ej⟩
          rw [z, h1a] at ej
          cases ej
        have hreps3 : Paired (RepAt H3) rs st.reps := reps_keep hreps fun b xs z => h3 b _ (ne_of z h1a (by intro z; cases z)) z
        have fr3 : ∀ b o, b ≠ a → b ≠ e → b ≠ q → H b = some o → H3 b = some o := fun b o n1 n2 n3 z => h3 b o n1 (fr b o n1 n2 n3 z)
        obtain ⟨dr, er⟩ := hR3 l hll
        have hsl : (st.reg l).src ∈ ss := hsrc l hll
        have hUl := hU _ hsl
        have h3U := fr3 _ _ (ne_of hUl ha (by intro z; cases z)) (ne_of hUl he (by intro z; cases z)) (ne_of hUl hq (by intro z; cases z)) hUl
        have hp2H : H p2 = none := by
          cases z : H p2 with
          | none => rfl
          | some o =>
            by_cases n2 : p2 = e
            · rw [n2, h1e] at hp2
              cases hp2
            · by_cases n3 : p2 = q
              · rw [n3, hoq] at hp2
                cases hp2
              · rw [fr p2 o np2a n2 n3 z] at hp2
                cases hp2
        have naq : q ≠ a := ne_of hq ha (by intro z; cases z)
        have neq : q ≠ e := ne_of hq he (by intro z; cases z)
        have np2q : q ≠ p2 := fun z => by rw [← z, hoq] at hp2; cases hp2
        have np2e : p2 ≠ e := fun z => by rw [z, h1e] at hp2; cases hp2
        have h3q := h3 q _ naq hoq
        have hv1 : valV (entKV ls ad') (Sum.inl l) = some (.ref (ad' l)) := by rw [ent_val, if_pos hll]
        have hv2 : valV (entKV ss adS) (Sum.inl (st.reg l).src) = some (.ref (adS (st.reg l).src)) := by rw [ent_val, if_pos hsl]
        have stl := step_len unit st l
        walk_at "wn"
        refine ⟨_, rfl, _, rfl, a, CW, dx, _, _, rfl, h3a, T.cl, T.no _ (by decide), rfl, ?_⟩
        refine ⟨_, rfl, e, _, rfl, hv1 ▸ DGet.k (k := Sum.inl l) h3e, ?_⟩
        refine ⟨ad' l, CR, dr, _, _, rfl, er, TR.cl, TR.no _ (by decide), rfl, ?_⟩
        refine ⟨D, _, rfl, hv2 ▸ DGet.k (k := Sum.inl (st.reg l).src) h3D, ?_⟩
        refine ⟨adS (st.reg l).src, _, rfl, SqT.of h3U, rfl, _, _, rfl, ?_⟩
        walk_at "wn"
        refine ⟨_, _, rfl, ?_⟩
        walk_at "wn"
        refine ⟨rfl, ?_⟩
        with_reducible refine' g_ifs ?_
        refine or_pure (b1 := decide (0 < (unit (st.reg l).src).1)) (b2 := (unit (st.reg l).src).2) (fun k q => ?_) (fun k q => ?_) ?_
        · exact ⟨_, rfl, _, _, rfl, rfl, _, rfl, q⟩
        · exact ⟨_, rfl, _, rfl, q⟩
        refine ite2 (fun hd => ?_) (fun hd => ?_)
        · have est : takeStep unit st l = ⟨st.reps ++ [(l, (unit (st.reg l).src).1, (unit (st.reg l).src).2)], if (st.reg l).word = "level" then st.que.drop 1 ++ [l] else st.que.drop 1, settled st.reg l⟩ := by
            unfold takeStep
            rw [if_pos hd]
          walk_at "wn"
          refine ⟨by show 3 ≤ sizeLine; decide, fun t nt => ?_⟩
          have s4 := Same.new' (o := .tup [V.int l, V.int (unit (st.reg l).src).1, V.bl (unit (st.reg l).src).2]) nt
          have h4t : upd H3 t (.tup [V.int l, V.int (unit (st.reg l).src).1, V.bl (unit (st.reg l).src).2]) t = some (.tup [V.int l, V.int (unit (st.reg l).src).1, V.bl (unit (st.reg l).src).2]) := upd_same
          generalize upd H3 t (.tup [V.int l, V.int (unit (st.reg l).src).1, V.bl (unit (st.reg l).src).2]) = H4 at s4 h4t
          have h4r := s4 _ _ h3r
          refine ⟨r, rs, _, rfl, rfl, h4r, by rw [sizeLine_eq]; omega, ?_⟩
          have s5 : ∀ b o, b ≠ r → H3 b = some o → upd H4 r (.lst (rs ++ [V.ref t])) b = some o := fun b o n z => by rw [upd_ne n]; exact s4 _ _ z
          have h5r : upd H4 r (.lst (rs ++ [V.ref t])) r = some (.lst (rs ++ [V.ref t])) := upd_same
          have h5t : upd H4 r (.lst (rs ++ [V.ref t])) t = some (.tup [V.int l, V.int (unit (st.reg l).src).1, V.bl (unit (st.reg l).src).2]) := by rw [upd_ne (ne_of h4t h4r (by intro z; cases z))]; exact h4t
          generalize upd H4 r (.lst (rs ++ [V.ref t])) = H5 at s5 h5r h5t
          have nra : a ≠ r := ne_of h3a h3r (by intro z; cases z)
          have nre : e ≠ r := ne_of h3e h3r (by intro z; cases z)
          have h5a := s5 _ _ nra h3a
          have h5e := s5 _ _ nre h3e
          have h5p := s5 _ _ np2r h3p
          have h5P := s5 _ _ nPr h3P
          have hR5 : RegsAt CR H5 ls ad' st.reg := fun j hj => by
            obtain ⟨dj, ej⟩ := hR3 j hj
            exact ⟨dj, s5 _ _ (ne_of ej h3r (by intro z; cases z)) ej⟩
          have hreps5 := reps_snoc (r := (l, (unit (st.reg l).src).1, (unit (st.reg l).src).2)) (reps_keep hreps3 fun b xs z => s5 b _ (ne_of z h3r (by intro z; cases z)) z) ⟨t, rfl, h5t⟩
          walk_at "wn"
          refine ⟨_, rfl, a, dx, _, rfl, h5a, rfl, ?_⟩
          walk_at "wn"
          refine ⟨a, dx, e, p2, l, st.que.drop 1, ls, ad', st.reg, rfl, h5a, h5p, h5e, hR5, hll, nWR, by rw [List.length_drop]; omega, by omega, fun H6 ad6 k1 k2 k3 k4 k5 k6 => ?_⟩
          have nae : a ≠ e := ne_of ha he (by intro z; cases z)
          have inj6 : ∀ j ∈ ls, ∀ j' ∈ ls, ad6 j = ad6 j' → j = j' := fun j hj j' hj' z => by
            have some5 : ∀ j ∈ ls, H5 (ad' j) ≠ none := fun j hj y => by
              obtain ⟨dj, ej⟩ := hR5 j hj
              rw [y] at ej
              cases ej
            by_cases e1 : j = l
            · by_cases e2 : j' = l
              · rw [e1, e2]
              · rw [k3 j' e2, e1] at z
                rcases k4 with y | y
                · exact hij j hj j' hj' (by rw [e1, ← y, z])
                · rw [z] at y
                  exact absurd y (some5 j' hj')
            · by_cases e2 : j' = l
              · rw [k3 j e1, e2] at z
                rcases k4 with y | y
                · exact hij j hj j' hj' (by rw [e2, ← y, z])
                · rw [← z] at y
                  exact absurd y (some5 j hj)
              · rw [k3 j e1, k3 j' e2] at z
                exact hij j hj j' hj' z
          refine ⟨_, rs ++ [V.ref t], p2, ad6, _, _, _, rfl, ht2, k6 _ _ nae (Ne.symm np2a) h5a, ?_, .inr hp2H, np2r, np2p, k1, ?_, fun j => ?_, inj6, k6 _ _ (Ne.symm nre) (Ne.symm np2r) h5r, k6 _ _ ?_ (Ne.symm np2p) h5P, ?_, fun b o n1 n2 n3 z => ?_, fun j hj => by rw [step_src]; exact hsrc j hj, by omega, by omega, oq, k6 _ _ neq np2q (s5 _ _ ?_ h3q)⟩
          · rw [est]
            exact k2
          · rw [est]
            exact k5
          · by_cases ej : j = l
            · rw [ej]
              rcases k4 with z | z
              · rw [z]
                exact had l
              · refine .inr ?_
                cases y : H (ad6 l) with
                | none => rfl
                | some o =>
                  exfalso
                  by_cases m1 : ad6 l = a
                  · rw [m1, h5a] at z
                    cases z
                  · by_cases m2 : ad6 l = e
                    · rw [m2, h5e] at z
                      cases z
                    · by_cases m3 : ad6 l = q
                      · rw [m3, s5 _ _ (ne_of_none hq hr0) h3q] at z
                        cases z
                      · rw [s5 _ _ (fun w => by rw [w, hr0] at y; cases y) (fr3 _ _ m1 m2 m3 y)] at z
                        cases z
            · rw [k3 j ej]
              exact had j
          · exact ne_of h1p h1e (by intro z; cases z)
          · rw [est]
            exact reps_keep hreps5 fun b xs z => k6 b _ (ne_of z h5e (by intro z; cases z)) (ne_of z h5p (by intro z; cases z)) z
          · refine k6 _ _ n2 (fun w => by rw [w, hp2H] at z; cases z) (s5 _ _ (fun w => by rw [w, hr0] at z; cases z) (fr3 _ _ n1 n2 n3 z))
          · exact ne_of_none hq hr0
        · have est : takeStep unit st l = ⟨st.reps, st.que.drop 1, st.reg⟩ := by
            unfold takeStep
            rw [if_neg hd]
          walk_at "wn"
          refine ⟨_, rs, p2, ad', _, _, _, rfl, ht2, h3a, by rw [est]; exact h3p, .inr hp2H, np2r, np2p, h3e, by rw [est]; exact hR3, had, hij, h3r, h3P, by rw [est]; exact hreps3, fr3, fun j hj => by rw [step_src]; exact hsrc j hj, by omega, by omega, oq, h3q⟩
    · rintro σ' H1 ⟨st, rs, q', ad', u5, u6, u7, rfl, ht, h1a, h1q, hq', nqr, nqp, h1e, hR1, had, hij, h1r, h1p, hreps, fr, hsrc, hql1, hrl, oq, hoq⟩
      have e0 : qs.drop (qs.map V.int).length = [] := by rw [List.length_map, List.drop_length]
      rw [e0] at ht
      have ht2 : st = takeAll unit most qs ⟨[], qs, reg⟩ := ht
      walk_at "wn"
      exact k H1 r rs q' ad' h1a (ht2 ▸ h1q) hq' h1e (ht2 ▸ hR1) had hij hr0 (Ne.symm nqr) h1r (ht2 ▸ hreps) fr
end

abbrev sSysInit : Stmt := meth 31 2
abbrev sNewSource : Stmt := meth 31 4
abbrev sNewSet : Stmt := meth 31 5
abbrev sArrive : Stmt := meth 31 10
abbrev sRead : Stmt := meth 31 12
abbrev sAdd : Stmt := meth 31 13
abbrev sWait : Stmt := meth 31 16
abbrev sRowOf : Stmt := meth 31 24
abbrev sContains : Stmt := meth 31 30
abbrev sTableOf : Stmt := meth 31 32
abbrev sIsTabNum : Stmt := meth 31 33
abbrev sThingAt : Stmt := meth 31 34
abbrev sSourceAt : Stmt := meth 31 35
abbrev sSetAt : Stmt := meth 31 36
abbrev sFreeNum : Stmt := meth 31 37
abbrev sNewThing : Stmt := meth 31 39
abbrev sUnfinished : Stmt := meth 31 42
abbrev sIsReady : Stmt := meth 31 43
abbrev sNotify : Stmt := meth 31 45
/-! a system, its cells and what stands in them -/
inductive Cell
  | box | tabD | srcD | setD
  | tab (p : Int) | srcT (t : Int) | ws (s : Int) | ent (s : Int) | que (s : Int)
  | reg (s l : Int)
  deriving DecidableEq
structure Sys where
  P : Int
  N : Int
  next : Int
  procs : List Int
  tab : Int → List (Option Int)
  srcs : List Int
  unit : Int → Int × Bool
  sets : List Int
  ents : Int → List Int
  reg : Int → Int → Reg
  que : Int → List Int
def live (S : Sys) : Cell → Prop
  | .box | .tabD | .srcD | .setD => True
  | .tab p => p ∈ S.procs
  | .srcT t => t ∈ S.srcs
  | .ws s | .ent s | .que s => s ∈ S.sets
  | .reg s l => s ∈ S.sets ∧ l ∈ S.ents s
def optV : Option Int → V
  | none => .non
  | some t => .int t
def sysO (CS dx : Addr) (S : Sys) (t s u : Addr) : HO := .ins CS dx [("process_limit", .int S.P), ("number_limit", .int S.N), ("tables", .ref t), ("sources", .ref s), ("sets", .ref u), ("next_thing", .int S.next)]
structure Cs where
  S : Addr
  W : Addr
  R : Addr
def co (C : Cs) (S : Sys) (ad dx : Cell → Addr) : Cell → HO
  | .box => sysO C.S (dx .box) S (ad .tabD) (ad .srcD) (ad .setD)
  | .tabD => .dK (entKV S.procs fun p => ad (.tab p))
  | .srcD => .dK (entKV S.srcs fun t => ad (.srcT t))
  | .setD => .dK (entKV S.sets fun s => ad (.ws s))
  | .tab p => .lst ((S.tab p).map optV)
  | .srcT t => .tup [.int (S.unit t).1, .bl (S.unit t).2]
  | .ws s => wsO C.W (dx (.ws s)) (ad (.ent s)) (ad (.que s))
  | .ent s => .dK (entKV (S.ents s) fun l => ad (.reg s l))
  | .que s => .lst ((S.que s).map V.int)
  | .reg s l => regO C.R (dx (.reg s l)) (S.reg s l).num (S.reg s l).src (S.reg s l).word (S.reg s l).armed
structure At (C : Cs) (H : Hp) (S : Sys) (ad dx : Cell → Addr) : Prop where
  at_ : ∀ c, live S c → H (ad c) = some (co C S ad dx c)
  inj : ∀ c c', live S c → live S c' → ad c = ad c' → c = c'
def own (S : Sys) (ad : Cell → Addr) (b : Addr) : Prop := ∃ c, live S c ∧ ad c = b
/-- what lies outside stays; what comes in is new -/
structure Step (H : Hp) (S : Sys) (ad : Cell → Addr) (H' : Hp) (S' : Sys) (ad' : Cell → Addr) : Prop where
  keep : ∀ b o, ¬ own S ad b → H b = some o → H' b = some o
  new : ∀ b, own S' ad' b → own S ad b ∨ H b = none
  box : ad' .box = ad .box
section
variable {C : Cs} {H H' H2 : Hp} {S S' S2 : Sys} {ad ad' ad2 dx dx' : Cell → Addr}
theorem Step.trans (a : Step H S ad H' S' ad') (b : Step H' S' ad' H2 S2 ad2) : Step H S ad H2 S2 ad2 := by
  refine ⟨fun x o n e => b.keep x o (fun z => ?_) (a.keep x o n e), fun x z => ?_, b.box.trans a.box⟩
  · rcases a.new x z with y | y
    · exact n y
    · rw [y] at e
      cases e
  · rcases b.new x z with y | y
    · exact a.new x y
    · cases e : H x with
      | none => exact .inr rfl
      | some o =>
        by_cases w : own S ad x
        · exact .inl w
        · rw [a.keep x o w e] at y
          cases y
theorem Step.same (s : Same H H') : Step H S ad H' S ad := ⟨fun b o _ e => s _ _ e, fun _ z => .inl z, rfl⟩
theorem At.same (A : At C H S ad dx) (s : Same H H') : At C H' S ad dx := ⟨fun c hc => s _ _ (A.at_ c hc), A.inj⟩
theorem At.ne (A : At C H S ad dx) {c c' : Cell} (h : live S c) (h' : live S c') (n : c ≠ c') : ad c ≠ ad c' := fun z => n (A.inj c c' h h' z)
end
section
variable {P : Program} {w : World} {K : PySem.W.Frag} {mg : Str → Option Value} {base : Heap} {C : Cs}
structure MO (P : Program) (w : World) (K : PySem.W.Frag) (mg : Str → Option Value) (base : Heap) (k : Nat) (C : Addr) (m : Str) (ps : List Str) (sp : Sp) (f : Addr) (fd : FuncData) : Prop where
  g : FnOk P w K mg base CX0 k f fd ps sp
  m : Meth K C m f
  b : Binds K fd ps []
structure DO (P : Program) (w : World) (K : PySem.W.Frag) (mg : Str → Option Value) (base : Heap) (k : Nat) (x : Str) (ps : List Str) (sp : Sp) (f : Addr) (fd : FuncData) : Prop where
  g : FnOk P w K mg base CX0 k f fd ps sp
  k : PySem.W.keepIn K (.ref f) = true
  m : mg x = some (.ref f)
  b : Binds K fd ps []
/-- a call on a system -/
def OnSys (C : Cs) (vs : List V) (H : Hp) (rest : List V) (k : Sys → (Cell → Addr) → (Cell → Addr) → Prop) : Prop := ∃ (S : Sys) (ad dx : Cell → Addr), vs = .ref (ad .box) :: rest ∧ At C H S ad dx ∧ k S ad dx
inductive PspContains (C : Cs) (vs : List V) (H : Hp) (Q : VK) : Prop
  | mk (p : Int) (S : Sys) (ad dx : Cell → Addr) (h_0 : vs = .ref (ad .box) :: [.int p]) (h_1 : At C H S ad dx) (h_2 : Q (.bl (decide (p ∈ S.procs))) H) : PspContains C vs H Q
def spContains (C : Cs) : Sp := fun vs H Q _ => PspContains C vs H Q
theorem scContains : FnScope ["self", "x"] ["self", "x"] (defScope sContains) := ⟨rfl, rfl, rfl, by decide +kernel, rfl, by decide +kernel, by decide +kernel⟩
theorem okContains {f fI : Addr} {fd fdI : FuncData} (F : Fun K "__contains__" "System.__contains__" sContains f fd) (T : ClsF K C.S sysF) (GI : DO P w K mg base 1 "is_integer" ["x"] spIsInteger fI fdI) : FnOk P w K mg base CX0 2 f fd ["self", "x"] (spContains C) := by
  refine F.ok scContains (fun vs H Q E h => ?_) (fun cdv A outer s H vs Q E hr h => ?_)
  · obtain ⟨_, _, _, _, rfl, _⟩ := h
    rfl
  · obtain ⟨p, S, ad, dx, rfl, A0, k⟩ := h
    have hu := hu_of hr
    refine ⟨_, pss_one (ps_ret (pe_and (pe_call GI.g hr (by rfl) GI.m GI.k GI.b .nil pass0 (pa_cons (pv 1) pa_nil)) (pe_one (pe_cmp (pc_din hu (pv 1) (pe_fld (pv 0) rfl)) rfl)))), ?_⟩
    walk_at "wn"
    refine ⟨p, rfl, ?_⟩
    walk_at "wn"
    refine ⟨_, rfl, _, rfl, ad .box, C.S, dx .box, _, _, rfl, A0.at_ .box trivial, T.cl, T.no _ (by decide), rfl, ?_⟩
    refine ⟨ad .tabD, _, rfl, DGet.k (k := Sum.inl p) (A0.at_ .tabD trivial), ?_⟩
    rw [ent_val]
    by_cases hp : p ∈ S.procs
    · rw [if_pos hp]
      rw [decide_eq_true hp] at k
      exact k
    · rw [if_neg hp]
      rw [decide_eq_false hp] at k
      exact k
inductive PspTableOf (C : Cs) (vs : List V) (H : Hp) (Q : VK) : Prop
  | mk (p : Int) (S : Sys) (ad dx : Cell → Addr) (h_0 : vs = .ref (ad .box) :: [.int p]) (h_1 : At C H S ad dx) (h_2 : p ∈ S.procs) (h_3 : Q (.ref (ad (.tab p))) H) : PspTableOf C vs H Q
def spTableOf (C : Cs) : Sp := fun vs H Q _ => PspTableOf C vs H Q
theorem scTableOf : FnScope ["self", "process"] ["self", "process"] (defScope sTableOf) := ⟨rfl, rfl, rfl, by decide +kernel, rfl, by decide +kernel, by decide +kernel⟩
theorem okTableOf {f fC : Addr} {fd fdC : FuncData} (F : Fun K "table_of" "System.table_of" sTableOf f fd) (T : ClsF K C.S sysF) (GC : MO P w K mg base 2 C.S "__contains__" ["self", "x"] (spContains C) fC fdC) : FnOk P w K mg base CX0 3 f fd ["self", "process"] (spTableOf C) := by
  refine F.ok scTableOf (fun vs H Q E h => ?_) (fun cdv A outer s H vs Q E hr h => ?_)
  · obtain ⟨_, _, _, _, rfl, _⟩ := h
    rfl
  · obtain ⟨p, S, ad, dx, rfl, A0, hp, k⟩ := h
    have hu := hu_of hr
    refine ⟨_, pss_cons (ps_if (pt_cmpR (op_ownNotIn GC.g hr GC.m.at_ GC.m.fn GC.b pass0) (pv 1) (pv 0) (by rfl)) (pss_one ps_never) pss_nil)
      (pss_one (ps_ret (pe_dget hu (pe_fld (pv 0) rfl) (pv 1) (fun _ _ => rfl)))), ?_⟩
    walk_at "wn"
    refine ⟨ad .box, dx .box, _, rfl, A0.at_ .box trivial, p, S, ad, dx, rfl, A0, _, rfl, ?_⟩
    rw [decide_eq_true hp]
    walk_at "wn"
    refine ⟨_, rfl, ad .box, C.S, dx .box, _, _, rfl, A0.at_ .box trivial, T.cl, T.no _ (by decide), rfl, ?_⟩
    have hv : valV (entKV S.procs fun p => ad (.tab p)) (Sum.inl p) = some (.ref (ad (.tab p))) := by rw [ent_val, if_pos hp]
    exact ⟨_, rfl, ad .tabD, _, rfl, hv ▸ DGet.k (k := Sum.inl p) (A0.at_ .tabD trivial), k⟩
inductive PspIsTabNum (C : Cs) (vs : List V) (H : Hp) (Q : VK) : Prop
  | mk (n : Int) (S : Sys) (ad dx : Cell → Addr) (h_0 : vs = .ref (ad .box) :: [.int n]) (h_1 : At C H S ad dx) (h_2 : Q (.bl (decide (0 ≤ n) && decide (n ≤ S.N - 1))) H) : PspIsTabNum C vs H Q
def spIsTabNum (C : Cs) : Sp := fun vs H Q _ => PspIsTabNum C vs H Q
theorem scIsTabNum : FnScope ["self", "number"] ["self", "number"] (defScope sIsTabNum) := ⟨rfl, rfl, rfl, by decide +kernel, rfl, by decide +kernel, by decide +kernel⟩
theorem okIsTabNum {f fB : Addr} {fd fdB : FuncData} (F : Fun K "is_table_number" "System.is_table_number" sIsTabNum f fd) (T : ClsF K C.S sysF) (GB : DO P w K mg base 2 "is_between" ["x", "least", "most"] spIsBetween fB fdB) : FnOk P w K mg base CX0 3 f fd ["self", "number"] (spIsTabNum C) := by
  refine F.ok scIsTabNum (fun vs H Q E h => ?_) (fun cdv A outer s H vs Q E hr h => ?_)
  · obtain ⟨_, _, _, _, rfl, _⟩ := h
    rfl
  · obtain ⟨n, S, ad, dx, rfl, A0, k⟩ := h
    refine ⟨_, pss_one (ps_ret (pe_call GB.g hr (by rfl) GB.m GB.k GB.b .nil pass0 (pa_cons (pv 1) (pa_cons pe_int (pa_cons (pe_op op_sub (pe_fld (pv 0) rfl) pe_int) pa_nil))))), ?_⟩
    walk_at "wn"
    refine ⟨_, rfl, ad .box, C.S, dx .box, _, _, rfl, A0.at_ .box trivial, T.cl, T.no _ (by decide), rfl, ?_⟩
    walk_at "wn"
    exact ⟨n, 0, S.N - 1, rfl, k⟩
/-- a number that means a thing -/
structure Means (S : Sys) (p n t : Int) : Prop where
  pr : p ∈ S.procs
  lo : 0 ≤ n
  hi : n ≤ S.N - 1
  at_ : (S.tab p)[n.toNat]? = some (some t)
inductive PspThingAt (C : Cs) (vs : List V) (H : Hp) (Q : VK) : Prop
  | mk (p n t : Int) (S : Sys) (ad dx : Cell → Addr) (h_0 : vs = .ref (ad .box) :: [.int p, .int n]) (h_1 : At C H S ad dx) (h_2 : Means S p n t) (h_3 : Q (.int t) H) : PspThingAt C vs H Q
def spThingAt (C : Cs) : Sp := fun vs H Q _ => PspThingAt C vs H Q
theorem scThingAt : FnScope ["self", "process", "number", "table"] ["self", "process", "number"] (defScope sThingAt) := ⟨rfl, rfl, rfl, by decide +kernel, rfl, by decide +kernel, by decide +kernel⟩
theorem okThingAt {f fT fN : Addr} {fd fdT fdN : FuncData} (F : Fun K "thing_at" "System.thing_at" sThingAt f fd) (T : ClsF K C.S sysF) (GT : MO P w K mg base 3 C.S "table_of" ["self", "process"] (spTableOf C) fT fdT) (GN : MO P w K mg base 3 C.S "is_table_number" ["self", "number"] (spIsTabNum C) fN fdN) :
    FnOk P w K mg base CX0 4 f fd ["self", "process", "number"] (spThingAt C) := by
  refine F.ok scThingAt (fun vs H Q E h => ?_) (fun cdv A outer s H vs Q E hr h => ?_)
  · obtain ⟨_, _, _, _, _, _, rfl, _⟩ := h
    rfl
  · obtain ⟨p, n, t, S, ad, dx, rfl, A0, M, k⟩ := h
    refine ⟨_, pss_cons (ps_set (i := 3) scThingAt.nd rfl (Or.inl rfl) (pe_meth (pv 0) T.cl GT.m GT.g hr GT.b .nil pass0 (pa_cons (pv 1) pa_nil)))
      (pss_cons (ps_if (PW.pt (pw_or (pt_not (pt_val (pe_meth (pv 0) T.cl GN.m GN.g hr GN.b .nil pass0 (pa_cons (pv 2) pa_nil)))) (pw_or1 (pt_cmpR oIsN (pe_ix ix_list (pv 3) (pv 2) (fun _ _ => rfl)) pe_non (nomark _))))) (pss_one ps_never) pss_nil)
      (pss_one (ps_ret (pe_ix ix_list (pv 3) (pv 2) (fun _ _ => rfl))))), ?_⟩
    have hb := A0.at_ .box trivial
    have ht := A0.at_ (.tab p) M.pr
    obtain ⟨m, hm⟩ := Int.eq_ofNat_of_zero_le M.lo
    have hat : atI ((S.tab p).map optV) n = some (V.int t) := by
      have e := M.at_
      rw [hm] at e ⊢
      refine atI_nat ?_
      rw [List.getElem?_map, show (S.tab p)[m]? = some (some t) from e]
      rfl
    walk_at "wn"
    refine ⟨_, rfl, ad .box, dx .box, _, rfl, hb, rfl, ?_⟩
    walk_at "wn"
    refine ⟨p, S, ad, dx, rfl, A0, M.pr, ?_⟩
    walk_at "wn"
    refine ⟨_, rfl, ad .box, dx .box, _, rfl, hb, rfl, ?_⟩
    walk_at "wn"
    refine ⟨n, S, ad, dx, rfl, A0, ?_⟩
    dsimp only
    rw [decide_eq_true M.lo, decide_eq_true M.hi]
    walk_at "wn"
    refine ⟨_, rfl, ?_⟩
    walk_at "wn"
    refine ⟨ad (.tab p), _, n, _, rfl, rfl, SqL.of ht, hat, ?_⟩
    walk_at "wn"
    have e : decide (V.int t = V.non) = false := decide_eq_false fun z => nomatch z
    rw [e]
    walk_at "wn"
    exact ⟨ad (.tab p), _, n, _, rfl, rfl, SqL.of ht, hat, k⟩
inductive PspSourceAt (C : Cs) (vs : List V) (H : Hp) (Q : VK) : Prop
  | mk (p n t : Int) (S : Sys) (ad dx : Cell → Addr) (h_0 : vs = .ref (ad .box) :: [.int p, .int n]) (h_1 : At C H S ad dx) (h_2 : Means S p n t) (h_3 : t ∈ S.srcs) (h_4 : Q (.int t) H) : PspSourceAt C vs H Q
def spSourceAt (C : Cs) : Sp := fun vs H Q _ => PspSourceAt C vs H Q
theorem scSourceAt : FnScope ["self", "process", "number", "thing"] ["self", "process", "number"] (defScope sSourceAt) := ⟨rfl, rfl, rfl, by decide +kernel, rfl, by decide +kernel, by decide +kernel⟩
theorem okSourceAt {f fT : Addr} {fd fdT : FuncData} (F : Fun K "source_at" "System.source_at" sSourceAt f fd) (T : ClsF K C.S sysF) (GT : MO P w K mg base 4 C.S "thing_at" ["self", "process", "number"] (spThingAt C) fT fdT) :
    FnOk P w K mg base CX0 5 f fd ["self", "process", "number"] (spSourceAt C) := by
  refine F.ok scSourceAt (fun vs H Q E h => ?_) (fun cdv A outer s H vs Q E hr h => ?_)
  · obtain ⟨_, _, _, _, _, _, rfl, _⟩ := h
    rfl
  · obtain ⟨p, n, t, S, ad, dx, rfl, A0, M, ht, k⟩ := h
    have hu := hu_of hr
    refine ⟨_, pss_cons (ps_set (i := 3) scSourceAt.nd rfl (Or.inl rfl) (pe_meth (pv 0) T.cl GT.m GT.g hr GT.b .nil pass0 (pa_cons (pv 1) (pa_cons (pv 2) pa_nil))))
      (pss_cons (ps_if (pt_cmp (pc_dnotin hu (pv 3) (pe_fld (pv 0) rfl)) rfl) (pss_one ps_never) pss_nil)
      (pss_one (ps_ret (pv 3)))), ?_⟩
    have hb := A0.at_ .box trivial
    walk_at "wn"
    refine ⟨_, rfl, ad .box, dx .box, _, rfl, hb, rfl, ?_⟩
    walk_at "wn"
    refine ⟨p, n, t, S, ad, dx, rfl, A0, M, ?_⟩
    walk_at "wn"
    refine ⟨_, rfl, _, rfl, ad .box, C.S, dx .box, _, _, rfl, hb, T.cl, T.no _ (by decide), rfl, ?_⟩
    refine ⟨ad .srcD, _, rfl, DGet.k (k := Sum.inl t) (A0.at_ .srcD trivial), ?_⟩
    rw [ent_val, if_pos ht]
    refine ⟨_, rfl, ?_⟩
    show if false = true then _ else _
    walk_at "wn"
    exact k
inductive PspSetAt (C : Cs) (vs : List V) (H : Hp) (Q : VK) : Prop
  | mk (p n t : Int) (S : Sys) (ad dx : Cell → Addr) (h_0 : vs = .ref (ad .box) :: [.int p, .int n]) (h_1 : At C H S ad dx) (h_2 : Means S p n t) (h_3 : t ∈ S.sets) (h_4 : Q (.ref (ad (.ws t))) H) : PspSetAt C vs H Q
def spSetAt (C : Cs) : Sp := fun vs H Q _ => PspSetAt C vs H Q
theorem scSetAt : FnScope ["self", "process", "set_number", "thing"] ["self", "process", "set_number"] (defScope sSetAt) := ⟨rfl, rfl, rfl, by decide +kernel, rfl, by decide +kernel, by decide +kernel⟩
theorem okSetAt {f fT : Addr} {fd fdT : FuncData} (F : Fun K "set_at" "System.set_at" sSetAt f fd) (T : ClsF K C.S sysF) (GT : MO P w K mg base 4 C.S "thing_at" ["self", "process", "number"] (spThingAt C) fT fdT) :
    FnOk P w K mg base CX0 5 f fd ["self", "process", "set_number"] (spSetAt C) := by
  refine F.ok scSetAt (fun vs H Q E h => ?_) (fun cdv A outer s H vs Q E hr h => ?_)
  · obtain ⟨_, _, _, _, _, _, rfl, _⟩ := h
    rfl
  · obtain ⟨p, n, t, S, ad, dx, rfl, A0, M, ht, k⟩ := h
    have hu := hu_of hr
    refine ⟨_, pss_cons (ps_set (i := 3) scSetAt.nd rfl (Or.inl rfl) (pe_meth (pv 0) T.cl GT.m GT.g hr GT.b .nil pass0 (pa_cons (pv 1) (pa_cons (pv 2) pa_nil))))
      (pss_cons (ps_if (pt_cmp (pc_dnotin hu (pv 3) (pe_fld (pv 0) rfl)) rfl) (pss_one ps_never) pss_nil)
      (pss_one (ps_ret (pe_dget hu (pe_fld (pv 0) rfl) (pv 3) (fun _ _ => rfl))))), ?_⟩
    have hb := A0.at_ .box trivial
    walk_at "wn"
    refine ⟨_, rfl, ad .box, dx .box, _, rfl, hb, rfl, ?_⟩
    walk_at "wn"
    refine ⟨p, n, t, S, ad, dx, rfl, A0, M, ?_⟩
    walk_at "wn"
    have hv : valV (entKV S.sets fun s => ad (.ws s)) (Sum.inl t) = some (.ref (ad (.ws t))) := by rw [ent_val, if_pos ht]
    refine ⟨_, rfl, _, rfl, ad .box, C.S, dx .box, _, _, rfl, hb, T.cl, T.no _ (by decide), rfl, ?_⟩
    refine ⟨ad .setD, _, rfl, DGet.k (k := Sum.inl t) (A0.at_ .setD trivial), ?_⟩
    rw [ent_val, if_pos ht]
    refine ⟨_, rfl, ?_⟩
    show if false = true then _ else _
    walk_at "wn"
    refine ⟨_, rfl, ad .box, C.S, dx .box, _, _, rfl, hb, T.cl, T.no _ (by decide), rfl, ?_⟩
    exact ⟨_, rfl, ad .setD, _, rfl, hv ▸ DGet.k (k := Sum.inl t) (A0.at_ .setD trivial), k⟩
/-! free_number -/
def firstFree (t : List (Option Int)) (n : Nat) : Prop := t[n]? = some none ∧ ∀ i, i < n → ∃ x, t[i]? = some (some x)
inductive PspFreeNum (C : Cs) (vs : List V) (H : Hp) (Q : VK) : Prop
  | mk (p : Int) (n : Nat) (S : Sys) (ad dx : Cell → Addr) (h_0 : vs = .ref (ad .box) :: [.int p]) (h_1 : At C H S ad dx) (h_2 : p ∈ S.procs) (h_3 : firstFree (S.tab p) n) (h_4 : (S.tab p).length ≤ 1000) (h_5 : ∀ H', Same H H' → Q (.int (n : Int)) H') : PspFreeNum C vs H Q
def spFreeNum (C : Cs) : Sp := fun vs H Q _ => PspFreeNum C vs H Q
theorem scFreeNum : FnScope ["self", "process", "number", "thing"] ["self", "process"] (defScope sFreeNum) := ⟨rfl, rfl, rfl, by decide +kernel, rfl, by decide +kernel, by decide +kernel⟩
structure SysTxt (mg : Str → Option Value) : Prop where
  enum : mg "enumerate" = none
  list : mg "list" = none
  min : mg "min" = none
theorem okFreeNum {f fT : Addr} {fd fdT : FuncData} (F : Fun K "free_number" "System.free_number" sFreeNum f fd) (X : SysTxt mg) (T : ClsF K C.S sysF) (GT : MO P w K mg base 3 C.S "table_of" ["self", "process"] (spTableOf C) fT fdT) :
    FnOk P w K mg base CX0 4 f fd ["self", "process"] (spFreeNum C) := by
  refine F.ok scFreeNum (fun vs H Q E h => ?_) (fun cdv A outer s H vs Q E hr h => ?_)
  · obtain ⟨_, _, _, _, _, rfl, _⟩ := h
    rfl
  · obtain ⟨p, n, S, ad, dx, rfl, A0, hp, hf, hl, k⟩ := h
    refine ⟨_, pss_cons (ps_for PassesOwn.never rfl (pi_enum (by rfl) X.enum (pa_cons (pe_meth (pv 0) T.cl GT.m GT.g hr GT.b .nil pass0 (pa_cons (pv 1) pa_nil)) pa_nil)) (pg_tup rfl (pgs_cons (pg_name (i := 2) scFreeNum.nd rfl (Or.inl rfl)) (pgs_cons (pg_name (i := 3) scFreeNum.nd rfl (Or.inl rfl)) pgs_nil)))
        (pss_one (ps_if (pt_cmpR oIsN (pv 3) pe_non (nomark _)) (pss_one (ps_ret (pv 2))) pss_nil)))
      (pss_one ps_never), ?_⟩
    have hb := A0.at_ .box trivial
    have ht := A0.at_ (.tab p) hp
    refine ⟨_, rfl, ad .box, dx .box, _, rfl, hb, rfl, ?_⟩
    walk_at "wn"
    refine ⟨p, S, ad, dx, rfl, A0, hp, ?_⟩
    refine ⟨ad (.tab p), _, rfl, SqL.of ht, ?_⟩
    have hn : n < (S.tab p).length := (List.getElem?_eq_some_iff.mp hf.1).1
    refine for_it (walk_enum (xs := (S.tab p).map optV)) (fun i σ' H1 => ∃ u v : Option V, σ' = [some (.ref (ad .box)), some (.int p), u, v] ∧ Same H H1 ∧ i ≤ n) ⟨_, _, rfl, Same.refl _, Nat.zero_le _⟩ (fun i σ' H1 _ z => by obtain ⟨_, _, _, sm, _⟩ := z; exact Same.seq sm (SqL.of ht)) ?_ ?_
    · rintro i x σ' H1 H2 hi ⟨u, v, rfl, sm, hin⟩ ⟨T1, x1, y1, rfl, nT, rfl, ex, ey⟩
      have smT := sm.trans (Same.new' (o := .tup [x1, y1]) nT)
      obtain rfl := Option.some.inj ex
      have ey : ((S.tab p).map optV)[i]? = some y1 := ey
      rw [List.getElem?_map] at ey
      refine ⟨T1, _, rfl, SqT.of upd_same, rfl, _, _, rfl, ?_⟩
      walk_at "wn"
      refine ⟨_, _, rfl, ?_⟩
      walk_at "wn"
      refine ⟨rfl, ?_⟩
      walk_at "wn"
      rcases Nat.lt_or_ge i n with z | z
      · obtain ⟨t, et⟩ := hf.2 i z
        rw [et] at ey
        cases ey
        have e : decide (optV (some t) = V.non) = false := decide_eq_false fun z => nomatch z
        rw [e]
        walk_at "wn"
        exact ⟨_, _, rfl, smT, z⟩
      · obtain rfl : i = n := by omega
        rw [hf.1] at ey
        cases ey
        have e : decide (optV none = V.non) = true := decide_eq_true rfl
        rw [e]
        walk_at "wn"
        exact k _ smT
    · rintro σ' H1 ⟨u, v, rfl, sm, hin⟩
      rw [List.length_map] at hin
      exact absurd hin (by omega)
end

section
variable {C : Cs} {H H' H2 : Hp} {S S' S2 : Sys} {ad ad' ad2 dx dx' : Cell → Addr}
/-- some cells are written, made or stand elsewhere; the others stay -/
theorem At.re3 (ch : List Cell) (A : At C H S ad dx) (hl : ∀ c, live S' c → c ∈ ch ∨ live S c) (h1 : ∀ c ∈ ch, live S' c → H' (ad' c) = some (co C S' ad' dx' c)) (h2 : ∀ c, c ∉ ch → live S c → ad' c = ad c ∧ co C S' ad' dx' c = co C S ad dx c)
    (fresh : ∀ c ∈ ch, live S' c → (ad' c = ad c ∧ live S c) ∨ H (ad' c) = none) (dist : ∀ c ∈ ch, ∀ c' ∈ ch, live S' c → live S' c' → H (ad' c) = none → ad' c = ad' c' → c = c')
    (k : ∀ b o, (∀ c ∈ ch, live S c → b ≠ ad c) → H b = some o → H' b = some o) (box : ad' .box = ad .box) : At C H' S' ad' dx' ∧ Step H S ad H' S' ad' := by
  have out : ∀ c, c ∉ ch → live S' c → live S c := fun c hc l => (hl c l).resolve_left hc
  have keep : ∀ c, c ∉ ch → live S c → H' (ad c) = H (ad c) := fun c hc l => by
    rw [A.at_ c l]
    exact k _ _ (fun c' hc' l' z => hc (by rw [A.inj c c' l l' z]; exact hc')) (A.at_ c l)
  refine ⟨⟨fun c l => ?_, fun c c' l l' z => ?_⟩, ⟨fun b o n e => k b o (fun c hc lc z => n ⟨c, lc, z.symm⟩) e, fun b ⟨c, l, e⟩ => ?_, box⟩⟩
  · by_cases hc : c ∈ ch
    · exact h1 c hc l
    · have ls := out c hc l
      obtain ⟨e1, e2⟩ := h2 c hc ls
      rw [e1, e2, keep c hc ls]
      exact A.at_ c ls
  · have some_ : ∀ c, c ∉ ch → live S' c → H (ad' c) ≠ none := fun c hc l z => by
      have ls := out c hc l
      rw [(h2 c hc ls).1, A.at_ c ls] at z
      cases z
    by_cases hc : c ∈ ch
    · by_cases hc' : c' ∈ ch
      · rcases fresh c hc l with f | f
        · rcases fresh c' hc' l' with f' | f'
          · exact A.inj c c' f.2 f'.2 (by rw [← f.1, ← f'.1, z])
          · rw [← z, f.1, A.at_ c f.2] at f'
            cases f'
        · exact dist c hc c' hc' l l' f z
      · rcases fresh c hc l with f | f
        · have ls := out c' hc' l'
          exact A.inj c c' f.2 ls (by rw [← f.1, z, (h2 c' hc' ls).1])
        · rw [z] at f
          exact absurd f (some_ c' hc' l')
    · have ls := out c hc l
      by_cases hc' : c' ∈ ch
      · rcases fresh c' hc' l' with f | f
        · exact A.inj c c' ls f.2 (by rw [← f.1, ← z, (h2 c hc ls).1])
        · rw [← z] at f
          exact absurd f (some_ c hc l)
      · have ls' := out c' hc' l'
        exact A.inj c c' ls ls' (by rw [← (h2 c hc ls).1, z, (h2 c' hc' ls').1])
  · by_cases hc : c ∈ ch
    · rcases fresh c hc l with f | f
      · exact .inl ⟨c, f.2, by rw [← f.1]; exact e⟩
      · rw [e] at f
        exact .inr f
    · have ls := out c hc l
      exact .inl ⟨c, ls, by rw [← (h2 c hc ls).1]; exact e⟩
/-- where the addresses stay -/
theorem At.re2 (ch : List Cell) (A : At C H S ad dx) (hl : ∀ c, live S' c → live S c) (lv : ∀ c ∈ ch, live S c) (h1 : ∀ c ∈ ch, H' (ad c) = some (co C S' ad dx c)) (h2 : ∀ c, c ∉ ch → live S c → co C S' ad dx c = co C S ad dx c)
    (k : ∀ b o, (∀ c ∈ ch, b ≠ ad c) → H b = some o → H' b = some o) : At C H' S' ad dx ∧ Step H S ad H' S' ad :=
  At.re3 ch A (fun c l => .inr (hl c l)) (fun c hc _ => h1 c hc) (fun c hc l => ⟨rfl, h2 c hc l⟩) (fun c hc l => .inl ⟨rfl, hl c l⟩) (fun c hc c' hc' l l' _ z => A.inj c c' (hl c l) (hl c' l') z)
    (fun b o n e => k b o (fun c hc => n c hc (lv c hc)) e) rfl
theorem At.not_own (A : At C H S ad dx) {l : Addr} (n : H l = none) : ¬ own S ad l := fun ⟨c, h, e⟩ => by
  rw [← e, A.at_ c h] at n
  cases n
end
theorem nodup_idx {α : Type} : ∀ {l : List α} {i j : Nat} {a : α}, l.Nodup → l[i]? = some a → l[j]? = some a → i = j
  | [], i, _, _, _, h, _ => by simp at h
  | _ :: _, 0, 0, _, _, _, _ => rfl
  | x :: l, 0, j + 1, a, nd, h, h' => by
    obtain rfl : x = a := by simpa using h
    exact absurd (List.mem_of_getElem? (show l[j]? = some x from h')) (List.nodup_cons.mp nd).1
  | x :: l, i + 1, 0, a, nd, h, h' => by
    obtain rfl : x = a := by simpa using h'
    exact absurd (List.mem_of_getElem? (show l[i]? = some x from h)) (List.nodup_cons.mp nd).1
  | x :: l, i + 1, j + 1, a, nd, h, h' => by rw [nodup_idx (List.nodup_cons.mp nd).2 (show l[i]? = some a from h) (show l[j]? = some a from h')]
def newThing (S : Sys) (p : Int) (n : Nat) : Sys := { S with next := S.next + 1, tab := fun q => if q = p then (S.tab p).set n (some S.next) else S.tab q }
section
variable {P : Program} {w : World} {K : PySem.W.Frag} {mg : Str → Option Value} {base : Heap} {C : Cs}
inductive PspNewThing (C : Cs) (vs : List V) (H : Hp) (Q : VK) : Prop
  | mk (p : Int) (n : Nat) (S : Sys) (ad dx : Cell → Addr) (h_0 : vs = .ref (ad .box) :: [.int p]) (h_1 : At C H S ad dx) (h_2 : p ∈ S.procs) (h_3 : firstFree (S.tab p) n) (h_4 : (S.tab p).length ≤ 1000) (h_5 : ∀ H' T, H T = none → H' T = some (.tup [.int (n : Int), .int S.next]) → At C H' (newThing S p n) ad dx → Step H S ad H' (newThing S p n) ad → Q (.ref T) H') : PspNewThing C vs H Q
def spNewThing (C : Cs) : Sp := fun vs H Q _ => PspNewThing C vs H Q
theorem scNewThing : FnScope ["self", "process", "number", "thing"] ["self", "process"] (defScope sNewThing) := ⟨rfl, rfl, rfl, by decide +kernel, rfl, by decide +kernel, by decide +kernel⟩
theorem okNewThing {f fF : Addr} {fd fdF : FuncData} (F : Fun K "new_thing" "System.new_thing" sNewThing f fd) (T : ClsF K C.S sysF) (GF : MO P w K mg base 4 C.S "free_number" ["self", "process"] (spFreeNum C) fF fdF) :
    FnOk P w K mg base CX0 5 f fd ["self", "process"] (spNewThing C) := by
  refine F.ok scNewThing (fun vs H Q E h => ?_) (fun cdv A outer s H vs Q E hr h => ?_)
  · obtain ⟨_, _, _, _, _, rfl, _⟩ := h
    rfl
  · obtain ⟨p, n, S, ad, dx, rfl, A0, hp, hf, hl, k⟩ := h
    have hu := hu_of hr
    refine ⟨_, pss_cons (ps_set (i := 2) scNewThing.nd rfl (Or.inl rfl) (pe_meth (pv 0) T.cl GF.m GF.g hr GF.b .nil pass0 (pa_cons (pv 1) pa_nil)))
      (pss_cons (ps_set (i := 3) scNewThing.nd rfl (Or.inl rfl) (pe_fld (pv 0) rfl))
      (pss_cons (ps_fldaug (pv 0) pe_int in_add)
      (pss_cons (ps_asg (pv 3) (pg_sub (pe_dget hu (pe_fld (pv 0) rfl) (pv 1) (fun _ _ => rfl)) (pv 2) set_list))
      (pss_one (ps_ret (pe_tup (pa_cons (pv 2) (pa_cons (pv 3) pa_nil)))))))), ?_⟩
    walk_at "wn"
    refine ⟨_, rfl, ad .box, dx .box, _, rfl, A0.at_ .box trivial, rfl, ?_⟩
    walk_at "wn"
    refine ⟨p, n, S, ad, dx, rfl, A0, hp, hf, hl, fun H1 s1 => ?_⟩
    have A1 := A0.same s1
    have hb := A1.at_ .box trivial
    have ht := A1.at_ (.tab p) hp
    have nbt : ad .box ≠ ad (.tab p) := A1.ne (c := .box) (c' := .tab p) trivial hp (by intro z; cases z)
    have nbd : ad .tabD ≠ ad .box := A1.ne (c := .tabD) (c' := .box) trivial trivial (by intro z; cases z)
    walk_at "wn"
    refine ⟨_, rfl, ad .box, C.S, dx .box, _, _, rfl, hb, T.cl, T.no _ (by decide), rfl, ?_⟩
    walk_at "wn"
    refine ⟨_, rfl, ad .box, C.S, dx .box, _, _, rfl, hb, T.cl, T.no _ (by decide), rfl, ?_⟩
    refine ⟨_, _, rfl, rfl, ?_⟩
    refine ⟨_, _, hb, by show 6 < 1000; decide, ?_⟩
    walk_at "wn"
    have hv : valV (entKV S.procs fun p => ad (.tab p)) (Sum.inl p) = some (.ref (ad (.tab p))) := by rw [ent_val, if_pos hp]
    refine ⟨_, rfl, ad .box, C.S, dx .box, _, _, rfl, upd_same, T.cl, T.no _ (by decide), rfl, ?_⟩
    refine ⟨_, rfl, ad .tabD, _, rfl, hv ▸ DGet.k (k := Sum.inl p) (by rw [upd_ne nbd]; exact A1.at_ .tabD trivial), ?_⟩
    have hn : n < (S.tab p).length := (List.getElem?_eq_some_iff.mp hf.1).1
    refine ⟨_, rfl, ad (.tab p), _, _, n, rfl, rfl, by rw [upd_ne (Ne.symm nbt)]; exact ht, by rw [List.length_map]; exact ixN_nat hn, ?_⟩
    walk_at "wn"
    refine ⟨by show 2 ≤ sizeLine; decide, fun T1 hT => ?_⟩
    have nTt : T1 ≠ ad (.tab p) := fun z => by rw [z, upd_same] at hT; cases hT
    rw [upd_ne nTt] at hT
    have nTb : T1 ≠ ad .box := fun z => by rw [z, upd_same] at hT; cases hT
    rw [upd_ne nTb] at hT
    refine (fun z : At C _ _ _ _ ∧ Step _ _ _ _ _ _ => k _ T1 (s1.free hT) upd_same z.1 ((Step.same s1).trans z.2)) ?_
    refine At.re2 [.box, .tab p] A1 (fun c l => by cases c <;> exact l) (fun c hc => ?_) (fun c hc => ?_) (fun c hc l => ?_) (fun b o n e => ?_)
    · simp only [List.mem_cons, List.not_mem_nil, or_false] at hc
      rcases hc with rfl | rfl
      · exact trivial
      · exact hp
    · simp only [List.mem_cons, List.not_mem_nil, or_false] at hc
      rcases hc with rfl | rfl
      · rw [upd_ne (Ne.symm nTb), upd_ne nbt, upd_same]
        rfl
      · rw [upd_ne (Ne.symm nTt), upd_same]
        show _ = some (HO.lst ((if p = p then (S.tab p).set n (some S.next) else S.tab p).map optV))
        rw [if_pos rfl, List.map_set]
        rfl
    · cases c with
      | box => exact absurd List.mem_cons_self hc
      | tab q =>
        have nq : q ≠ p := fun z => hc (by rw [z]; simp)
        show HO.lst ((if q = p then (S.tab p).set n (some S.next) else S.tab q).map optV) = _
        rw [if_neg nq]
        rfl
      | _ => rfl
    · have n1 := n .box (by simp)
      have n2 := n (.tab p) (by simp)
      rw [upd_ne (ne_of_none e hT), upd_ne n2, upd_ne n1]
      exact e
/-! unread_of_unfinished, is_ready -/
inductive PspUnfinished (C : Cs) (vs : List V) (H : Hp) (Q : VK) : Prop
  | mk (t n : Int) (S : Sys) (ad dx : Cell → Addr) (h_0 : vs = .ref (ad .box) :: [.int t, .int n]) (h_1 : At C H S ad dx) (h_2 : t ∈ S.srcs) (h_3 : (S.unit t).2 = false) (h_4 : Q (.int (S.unit t).1) H) : PspUnfinished C vs H Q
def spUnfinished (C : Cs) : Sp := fun vs H Q _ => PspUnfinished C vs H Q
theorem scUnfinished : FnScope ["self", "source", "number", "unread", "finished"] ["self", "source", "number"] (defScope sUnfinished) := ⟨rfl, rfl, rfl, by decide +kernel, rfl, by decide +kernel, by decide +kernel⟩
theorem okUnfinished {f : Addr} {fd : FuncData} (F : Fun K "unread_of_unfinished" "System.unread_of_unfinished" sUnfinished f fd) (T : ClsF K C.S sysF) : FnOk P w K mg base CX0 1 f fd ["self", "source", "number"] (spUnfinished C) := by
  refine F.ok scUnfinished (fun vs H Q E h => ?_) (fun cdv A outer s H vs Q E hr h => ?_)
  · obtain ⟨_, _, _, _, _, rfl, _⟩ := h
    rfl
  · obtain ⟨t, n, S, ad, dx, rfl, A0, ht, hf, k⟩ := h
    have hu := hu_of hr
    refine ⟨_, pss_cons (ps_asg (pe_dget hu (pe_fld (pv 0) rfl) (pv 1) (fun _ _ => rfl)) (pg_tup rfl (pgs_cons (pg_name (i := 3) scUnfinished.nd rfl (Or.inl rfl)) (pgs_cons (pg_name (i := 4) scUnfinished.nd rfl (Or.inl rfl)) pgs_nil))))
      (pss_cons (ps_if (pt_val (pv 4)) (pss_one ps_never) pss_nil) (pss_one (ps_ret (pv 3)))), ?_⟩
    have hv : valV (entKV S.srcs fun t => ad (.srcT t)) (Sum.inl t) = some (.ref (ad (.srcT t))) := by rw [ent_val, if_pos ht]
    walk_at "wn"
    refine ⟨_, rfl, ad .box, C.S, dx .box, _, _, rfl, A0.at_ .box trivial, T.cl, T.no _ (by decide), rfl, ?_⟩
    refine ⟨_, rfl, ad .srcD, _, rfl, hv ▸ DGet.k (k := Sum.inl t) (A0.at_ .srcD trivial), ?_⟩
    refine ⟨ad (.srcT t), _, rfl, SqT.of (A0.at_ (.srcT t) ht), rfl, _, _, rfl, ?_⟩
    walk_at "wn"
    refine ⟨_, _, rfl, ?_⟩
    walk_at "wn"
    refine ⟨rfl, ?_⟩
    walk_at "wn"
    rw [hf]
    walk_at "wn"
    exact k
def ready (S : Sys) (t : Int) : Bool := decide (0 < (S.unit t).1) || (S.unit t).2
inductive PspIsReady (C : Cs) (vs : List V) (H : Hp) (Q : VK) : Prop
  | mk (t : Int) (S : Sys) (ad dx : Cell → Addr) (h_0 : vs = .ref (ad .box) :: [.int t]) (h_1 : At C H S ad dx) (h_2 : t ∈ S.srcs) (h_3 : Q (.bl (ready S t)) H) : PspIsReady C vs H Q
def spIsReady (C : Cs) : Sp := fun vs H Q _ => PspIsReady C vs H Q
theorem scIsReady : FnScope ["self", "source", "unread", "finished"] ["self", "source"] (defScope sIsReady) := ⟨rfl, rfl, rfl, by decide +kernel, rfl, by decide +kernel, by decide +kernel⟩
theorem okIsReady {f : Addr} {fd : FuncData} (F : Fun K "is_ready" "System.is_ready" sIsReady f fd) (T : ClsF K C.S sysF) : FnOk P w K mg base CX0 1 f fd ["self", "source"] (spIsReady C) := by
  refine F.ok scIsReady (fun vs H Q E h => ?_) (fun cdv A outer s H vs Q E hr h => ?_)
  · obtain ⟨_, _, _, _, rfl, _⟩ := h
    rfl
  · obtain ⟨t, S, ad, dx, rfl, A0, ht, k⟩ := h
    have hu := hu_of hr
    refine ⟨_, pss_cons (ps_asg (pe_dget hu (pe_fld (pv 0) rfl) (pv 1) (fun _ _ => rfl)) (pg_tup rfl (pgs_cons (pg_name (i := 2) scIsReady.nd rfl (Or.inl rfl)) (pgs_cons (pg_name (i := 3) scIsReady.nd rfl (Or.inl rfl)) pgs_nil))))
      (pss_one (ps_ret (pe_or (pe_cmpR op_gt (pv 2) pe_int (nomark _)) (pe_one (pv 3))))), ?_⟩
    have hv : valV (entKV S.srcs fun t => ad (.srcT t)) (Sum.inl t) = some (.ref (ad (.srcT t))) := by rw [ent_val, if_pos ht]
    walk_at "wn"
    refine ⟨_, rfl, ad .box, C.S, dx .box, _, _, rfl, A0.at_ .box trivial, T.cl, T.no _ (by decide), rfl, ?_⟩
    refine ⟨_, rfl, ad .srcD, _, rfl, hv ▸ DGet.k (k := Sum.inl t) (A0.at_ .srcD trivial), ?_⟩
    refine ⟨ad (.srcT t), _, rfl, SqT.of (A0.at_ (.srcT t) ht), rfl, _, _, rfl, ?_⟩
    walk_at "wn"
    refine ⟨_, _, rfl, ?_⟩
    walk_at "wn"
    refine ⟨rfl, ?_⟩
    walk_at "wn"
    unfold ready at k
    refine ite2 (fun hd => ?_) (fun hd => ?_)
    · rw [show decide (0 < (S.unit t).1) = true from hd, Bool.true_or] at k
      exact k
    · rw [show decide (0 < (S.unit t).1) = false from Bool.eq_false_iff.mpr hd, Bool.false_or] at k
      exact ⟨_, rfl, k⟩
/-! notify -/
def notified (S : Sys) (t : Int) : Sys := { S with que := fun s => if s ∈ S.sets then noticeQ (S.reg s) t (S.ents s) (S.que s) else S.que s }
structure Small (S : Sys) : Prop where
  que : ∀ s ∈ S.sets, (S.que s).length ≤ 900
  ents : ∀ s ∈ S.sets, (S.ents s).length ≤ 900
  srcs : S.srcs.length ≤ 900
  sets : S.sets.length ≤ 900
  nd : S.sets.Nodup
inductive PspNotify (C : Cs) (vs : List V) (H : Hp) (Q : VK) : Prop
  | mk (t : Int) (S : Sys) (ad dx : Cell → Addr) (h_0 : vs = .ref (ad .box) :: [.int t]) (h_1 : At C H S ad dx) (h_2 : Small S) (h_3 : ∀ H', At C H' (notified S t) ad dx → Step H S ad H' (notified S t) ad → Q .non H') : PspNotify C vs H Q
def spNotify (C : Cs) : Sp := fun vs H Q _ => PspNotify C vs H Q
theorem scNotify : FnScope ["self", "source", "waiting"] ["self", "source"] (defScope sNotify) := ⟨rfl, rfl, rfl, by decide +kernel, rfl, by decide +kernel, by decide +kernel⟩
theorem okNotify {f fN : Addr} {fd fdN : FuncData} (F : Fun K "notify" "System.notify" sNotify f fd) (T : ClsF K C.S sysF) (TW : Cls K C.W) (GN : MO P w K mg base 2 C.W "notice" ["self", "source"] (spNotice C.W C.R) fN fdN) : FnOk P w K mg base CX0 3 f fd ["self", "source"] (spNotify C) := by
  refine F.ok scNotify (fun vs H Q E h => ?_) (fun cdv A outer s H vs Q E hr h => ?_)
  · obtain ⟨_, _, _, _, rfl, _⟩ := h
    rfl
  · obtain ⟨t, S, ad, dx, rfl, A0, sm0, k⟩ := h
    refine ⟨_, pss_one (ps_lock (ps_for PassesOwn.never rfl (pi_values (pe_fld (pv 0) rfl)) (pg_name (i := 2) scNotify.nd rfl (Or.inl rfl)) (pss_one (ps_expr (pe_meth (pv 2) TW GN.m GN.g hr GN.b .nil pass0 (pa_cons (pv 1) pa_nil)))))), ?_⟩
    have hb := A0.at_ .box trivial
    have hD := A0.at_ .setD trivial
    have nbD : ad .box ≠ ad .setD := A0.ne (c := .box) (c' := .setD) trivial trivial (by intro z; cases z)
    refine ⟨ad .setD, _, hD, trivial, fun od => ?_⟩
    refine ⟨_, rfl, ad .box, C.S, dx .box, _, _, rfl, by rw [upd_ne nbD]; exact hb, T.cl, T.no _ (by decide), rfl, ?_⟩
    refine ⟨ad .setD, od, _, rfl, upd_same, ?_⟩
    have hqs : ∀ s ∈ S.sets, ad (.que s) ≠ ad .setD := fun s hs => A0.ne (c := .que s) (c' := .setD) hs trivial (by intro z; cases z)
    have eo : co C S ad dx .setD = .dK (entKV S.sets fun s => ad (.ws s)) := rfl
    rw [eo]
    have old : ∀ c, live S c → c ≠ .setD → upd H (ad .setD) (.frz od (.dK (entKV S.sets fun s => ad (.ws s)))) (ad c) = some (co C S ad dx c) := fun c hc n => by rw [upd_ne (A0.ne hc (c' := .setD) trivial n)]; exact A0.at_ c hc
    refine for_it walk_values (fun i σ' H1 => ∃ u : Option V, σ' = [some (.ref (ad .box)), some (.int t), u] ∧ (∀ b o, (∀ s ∈ S.sets, b ≠ ad (.que s)) → upd H (ad .setD) (.frz od (.dK (entKV S.sets fun s => ad (.ws s)))) b = some o → H1 b = some o) ∧ ∀ (j : Nat) (s : Int), S.sets[j]? = some s → H1 (ad (.que s)) = some (.lst ((if j < i then noticeQ (S.reg s) t (S.ents s) (S.que s) else S.que s).map V.int))) ⟨_, rfl, fun _ _ _ z => z, fun j s hj => ?_⟩ (fun i σ' H1 _ z => by obtain ⟨_, _, kp, _⟩ := z; exact kp _ _ (fun s hs => Ne.symm (hqs s hs)) upd_same) ?_ ?_
    · rw [if_neg (Nat.not_lt_zero _)]
      exact old (.que s) (List.mem_of_getElem? hj) (by intro z; cases z)
    · rintro i x σ' H1 H2 hi ⟨u, rfl, kp, hq⟩ ⟨rfl, kx, ex⟩
      have hi' : i < S.sets.length := by unfold entKV at hi; rwa [List.length_map] at hi
      have es : S.sets[i]? = some S.sets[i] := List.getElem?_eq_getElem hi'
      have hs : S.sets[i] ∈ S.sets := List.getElem_mem hi'
      unfold entKV at ex
      rw [List.getElem?_map, es] at ex
      cases ex
      generalize S.sets[i] = s at es hs
      have at1 : ∀ c, live S c → c ≠ .setD → (∀ s' , c ≠ .que s') → H2 (ad c) = some (co C S ad dx c) := fun c hc n1 n2 => kp _ _ (fun s' hs' => A0.ne hc (c' := .que s') hs' (n2 s')) (old c hc n1)
      have hw := at1 (.ws s) hs (by intro z; cases z) (fun s' z => by cases z)
      have he := at1 (.ent s) hs (by intro z; cases z) (fun s' z => by cases z)
      have hq1 := hq i s es
      rw [if_neg (Nat.lt_irrefl i)] at hq1
      walk_at "wn"
      refine ⟨_, rfl, ad (.ws s), dx (.ws s), _, rfl, hw, rfl, ?_⟩
      walk_at "wn"
      refine ⟨ad (.ws s), dx (.ws s), ad (.ent s), ad (.que s), t, S.que s, S.ents s, fun l => ad (.reg s l), S.reg s, rfl, hw, hq1, he, fun l hl => ⟨dx (.reg s l), at1 (.reg s l) ⟨hs, hl⟩ (by intro z; cases z) (fun s' z => by cases z)⟩, Nat.le_trans (sm0.que s hs) (by decide), Nat.le_trans (sm0.ents s hs) (by decide), fun H' k1 k2 => ?_⟩
      refine ⟨_, rfl, fun b o n e => k2 b o (n s hs) (kp b o n e), fun j s' hj => ?_⟩
      by_cases e : s' = s
      · subst e
        have hji : j = i := by
          exact nodup_idx sm0.nd hj es
        rw [if_pos (by omega)]
        exact k1
      · have hs' := List.mem_of_getElem? hj
        rw [k2 _ _ (A0.ne (c := .que s') (c' := .que s) hs' hs (fun z => e (by cases z; rfl))) (hq j s' hj)]
        have hji : j ≠ i := fun z => e (by rw [z, es] at hj; cases hj; rfl)
        by_cases hlt : j < i
        · rw [if_pos hlt, if_pos (by omega)]
        · rw [if_neg hlt, if_neg (by omega)]
    · rintro σ' H1 ⟨u, rfl, kp, hq⟩
      refine ⟨kp _ _ (fun s hs => Ne.symm (hqs s hs)) upd_same, ?_⟩
      refine (fun z : At C _ _ _ _ ∧ Step _ _ _ _ _ _ => k _ z.1 z.2) ?_
      refine At.re2 (S.sets.map Cell.que) A0 (fun c l => by cases c <;> exact l) (fun c hc => ?_) (fun c hc => ?_) (fun c hc l => ?_) (fun b o n e => ?_)
      · obtain ⟨s, hs, rfl⟩ := List.mem_map.mp hc
        exact hs
      · obtain ⟨s, hs, rfl⟩ := List.mem_map.mp hc
        obtain ⟨j, hj, ej⟩ := List.getElem_of_mem hs
        have ej2 : S.sets[j]? = some s := by rw [List.getElem?_eq_getElem hj, ej]
        have q := hq j s ej2
        rw [if_pos (by unfold entKV; rw [List.length_map]; exact hj)] at q
        rw [upd_ne (hqs s hs), q]
        show _ = some (HO.lst ((if s ∈ S.sets then noticeQ (S.reg s) t (S.ents s) (S.que s) else S.que s).map V.int))
        rw [if_pos hs]
      · cases c with
        | que s =>
          have ns : s ∉ S.sets := fun z => hc (List.mem_map.mpr ⟨s, z, rfl⟩)
          exact absurd l ns
        | _ => rfl
      · by_cases hb2 : b = ad .setD
        · rw [hb2, upd_same, ← eo, ← hD, ← hb2, e]
        · rw [upd_ne hb2]
          exact kp b o (fun s hs => n (.que s) (List.mem_map.mpr ⟨s, hs, rfl⟩)) (by rw [upd_ne hb2]; exact e)
end

def setA (ad : Cell → Addr) (c0 : Cell) (T : Addr) : Cell → Addr := fun c => if c = c0 then T else ad c
theorem setA_same {ad : Cell → Addr} {c0 : Cell} {T : Addr} : setA ad c0 T c0 = T := if_pos rfl
theorem setA_ne {ad : Cell → Addr} {c0 c : Cell} {T : Addr} (h : c ≠ c0) : setA ad c0 T c = ad c := if_neg h
theorem srcT_fun (ad : Cell → Addr) (t : Int) (T : Addr) : (fun j => if j = t then T else ad (.srcT j)) = fun j => setA ad (.srcT t) T (.srcT j) := by
  funext j
  by_cases h : j = t
  · rw [if_pos h, h, setA_same]
  · rw [if_neg h, setA_ne fun z => h (by cases z; rfl)]
def withUnit (S : Sys) (t u : Int) (f : Bool) : Sys := { S with unit := fun j => if j = t then (u, f) else S.unit j }
section
variable {C : Cs} {H : Hp} {S : Sys} {ad dx : Cell → Addr}
/-- sources[t] = (u, f) -/
theorem At.unit (A : At C H S ad dx) {t u : Int} {f : Bool} {T : Addr} (ht : t ∈ S.srcs) (hT : H T = none) :
    At C (upd (upd H T (.tup [.int u, .bl f])) (ad .srcD) (.dK (putK (entKV S.srcs fun j => ad (.srcT j)) (Sum.inl t) (.ref T)))) (withUnit S t u f) (setA ad (.srcT t) T) dx ∧
    Step H S ad (upd (upd H T (.tup [.int u, .bl f])) (ad .srcD) (.dK (putK (entKV S.srcs fun j => ad (.srcT j)) (Sum.inl t) (.ref T)))) (withUnit S t u f) (setA ad (.srcT t) T) := by
  have hD := A.at_ .srcD trivial
  have nTD : T ≠ ad .srcD := fun z => by rw [z, hD] at hT; cases hT
  refine At.re3 [.srcD, .srcT t] A (fun c l => .inr (by cases c <;> exact l)) (fun c hc l => ?_) (fun c hc l => ?_) (fun c hc l => ?_) (fun c hc c' hc' l l' z e => ?_) (fun b o n e => ?_) (setA_ne (by intro z; cases z))
  · simp only [List.mem_cons, List.not_mem_nil, or_false] at hc
    rcases hc with rfl | rfl
    · rw [setA_ne (by intro z; cases z), upd_same, ent_put, if_pos ht, srcT_fun]
      rfl
    · rw [setA_same, upd_ne nTD, upd_same]
      show _ = some (HO.tup [.int (if t = t then (u, f) else S.unit t).1, .bl (if t = t then (u, f) else S.unit t).2])
      rw [if_pos rfl]
  · have n1 : c ≠ .srcD := fun z => hc (by rw [z]; simp)
    have n2 : c ≠ .srcT t := fun z => hc (by rw [z]; simp)
    refine ⟨setA_ne n2, ?_⟩
    cases c with
    | srcD => exact absurd rfl n1
    | srcT j =>
      have nj : j ≠ t := fun z => n2 (by rw [z])
      show HO.tup [.int (if j = t then (u, f) else S.unit j).1, .bl (if j = t then (u, f) else S.unit j).2] = _
      rw [if_neg nj]
      rfl
    | _ => rfl
  · simp only [List.mem_cons, List.not_mem_nil, or_false] at hc
    rcases hc with rfl | rfl
    · exact .inl ⟨setA_ne (by intro z; cases z), trivial⟩
    · exact .inr (by rw [setA_same]; exact hT)
  · simp only [List.mem_cons, List.not_mem_nil, or_false] at hc hc'
    rcases hc with rfl | rfl
    · rw [setA_ne (by intro z; cases z), hD] at z
      cases z
    · rcases hc' with rfl | rfl
      · rw [setA_same, setA_ne (by intro z; cases z)] at e
        exact absurd e nTD
      · rfl
  · rw [upd_ne (n .srcD (by simp) trivial), upd_ne (ne_of_none e hT)]
    exact e
end
section
variable {P : Program} {w : World} {K : PySem.W.Frag} {mg : Str → Option Value} {base : Heap} {C : Cs}
def arrived (S : Sys) (t m : Int) : Sys := notified (withUnit S t ((S.unit t).1 + m) false) t
inductive PspArrive (C : Cs) (vs : List V) (H : Hp) (Q : VK) : Prop
  | mk (p n t m : Int) (S : Sys) (ad dx : Cell → Addr) (h_0 : vs = .ref (ad .box) :: [.int p, .int n, .int m]) (h_1 : At C H S ad dx) (h_2 : Means S p n t) (h_3 : t ∈ S.srcs) (h_4 : (S.unit t).2 = false) (h_5 : 1 ≤ m) (h_6 : m ≤ 1000000) (h_7 : Small S) (h_8 : ∀ H' ad', At C H' (arrived S t m) ad' dx → Step H S ad H' (arrived S t m) ad' → Q .non H') : PspArrive C vs H Q
def spArrive (C : Cs) : Sp := fun vs H Q _ => PspArrive C vs H Q
theorem scArrive : FnScope ["self", "process", "number", "many", "source", "unread"] ["self", "process", "number", "many"] (defScope sArrive) := ⟨rfl, rfl, rfl, by decide +kernel, rfl, by decide +kernel, by decide +kernel⟩
theorem okArrive {dvs : List V} {kws : List (Str × V)} {f fS fU fN fC : Addr} {fd fdS fdU fdN fdC : FuncData} (F : FunD K "arrive" "System.arrive" (defArgs sArrive) (defBody sArrive) (defScope sArrive) dvs kws f fd) (T : ClsF K C.S sysF)
    (GS : MO P w K mg base 5 C.S "source_at" ["self", "process", "number"] (spSourceAt C) fS fdS) (GU : MO P w K mg base 1 C.S "unread_of_unfinished" ["self", "source", "number"] (spUnfinished C) fU fdU) (GN : MO P w K mg base 3 C.S "notify" ["self", "source"] (spNotify C) fN fdN)
    (GC : DO P w K mg base 3 "is_count" ["x"] spIsCount fC fdC) : FnOk P w K mg base CX0 6 f fd ["self", "process", "number", "many"] (spArrive C) := by
  refine F.ok scArrive (fun vs H Q E h => ?_) (fun cdv A outer s H vs Q E hr h => ?_)
  · obtain ⟨_, _, _, _, _, _, _, rfl, _⟩ := h
    rfl
  · obtain ⟨p, n, t, m, S, ad, dx, rfl, A0, M, ht, hf, m0, m1, sm0, k⟩ := h
    have hu := hu_of hr
    have hr1 : Room 1 _ := hr.mono (by decide)
    have hr3 : Room 3 _ := hr.mono (by decide)
    refine ⟨_, pss_cons (ps_set (i := 4) scArrive.nd rfl (Or.inl rfl) (pe_meth (pv 0) T.cl GS.m GS.g hr GS.b .nil pass0 (pa_cons (pv 1) (pa_cons (pv 2) pa_nil))))
      (pss_cons (ps_if (pt_not (pt_val (pe_call GC.g hr3 (by rfl) GC.m GC.k GC.b .nil pass0 (pa_cons (pv 3) pa_nil)))) (pss_one ps_never) pss_nil)
      (pss_cons (ps_set (i := 5) scArrive.nd rfl (Or.inl rfl) (pe_meth (pv 0) T.cl GU.m GU.g hr1 GU.b .nil pass0 (pa_cons (pv 4) (pa_cons (pv 2) pa_nil))))
      (pss_cons (ps_dput hu (pe_fld (pv 0) rfl) (pv 4) (pe_tup (pa_cons (pe_op op_add (pv 5) (pv 3)) (pa_cons pe_bl pa_nil))) rfl)
      (pss_one (ps_expr (pe_meth (pv 0) T.cl GN.m GN.g hr3 GN.b .nil pass0 (pa_cons (pv 4) pa_nil))))))), ?_⟩
    have hb := A0.at_ .box trivial
    walk_at "wn"
    refine ⟨_, rfl, ad .box, dx .box, _, rfl, hb, rfl, ?_⟩
    walk_at "wn"
    refine ⟨p, n, t, S, ad, dx, rfl, A0, M, ht, ?_⟩
    walk_at "wn"
    refine ⟨m, rfl, ?_⟩
    rw [decide_eq_true m0, decide_eq_true m1]
    refine ⟨_, rfl, ?_⟩
    walk_at "wn"
    refine ⟨_, rfl, ad .box, dx .box, _, rfl, hb, rfl, ?_⟩
    walk_at "wn"
    refine ⟨t, n, S, ad, dx, rfl, A0, ht, hf, ?_⟩
    walk_at "wn"
    refine ⟨_, rfl, _, rfl, _, _, rfl, rfl, by show 2 ≤ sizeLine; decide, fun T1 hT => ?_⟩
    have nbT : ad .box ≠ T1 := ne_of_none hb hT
    have nDT : ad .srcD ≠ T1 := ne_of_none (A0.at_ .srcD trivial) hT
    refine ⟨_, rfl, ad .box, C.S, dx .box, _, _, rfl, by rw [upd_ne nbT]; exact hb, T.cl, T.no _ (by decide), rfl, ?_⟩
    refine ⟨_, rfl, ad .srcD, _, rfl, DPut.k (k := Sum.inl t) (by rw [upd_ne nDT]; exact A0.at_ .srcD trivial) (by unfold entKV; rw [List.length_map, sizeLine_eq]; have := sm0.srcs; omega), ?_⟩
    obtain ⟨A1, st1⟩ := A0.unit (u := (S.unit t).1 + m) (f := false) ht hT
    walk_at "wn"
    refine ⟨_, rfl, setA ad (.srcT t) T1 .box, dx .box, _, by rw [setA_ne (by intro z; cases z)], A1.at_ .box trivial, rfl, ?_⟩
    walk_at "wn"
    refine ⟨t, _, _, dx, by rw [setA_ne (by intro z; cases z)]; rfl, A1, ⟨sm0.que, sm0.ents, sm0.srcs, sm0.sets, sm0.nd⟩, fun H' A2 st2 => k H' _ A2 (st1.trans st2)⟩
/-! row_of -/
inductive PspRowOf (C : Cs) (vs : List V) (H : Hp) (Q : VK) : Prop
  | mk (p n t : Int) (S : Sys) (ad dx : Cell → Addr) (h_0 : vs = .ref (ad .box) :: [.int p, .int n]) (h_1 : At C H S ad dx) (h_2 : Means S p n t) (h_3 : t ∈ S.sets) (h_4 : ∀ r, H r = none → Q (.ref r) (upd H r (.lst ((S.que t).map V.int)))) : PspRowOf C vs H Q
def spRowOf (C : Cs) : Sp := fun vs H Q _ => PspRowOf C vs H Q
theorem scRowOf : FnScope ["self", "process", "set_number"] ["self", "process", "set_number"] (defScope sRowOf) := ⟨rfl, rfl, rfl, by decide +kernel, rfl, by decide +kernel, by decide +kernel⟩
theorem okRowOf {f fS : Addr} {fd fdS : FuncData} (F : Fun K "row_of" "System.row_of" sRowOf f fd) (X : SysTxt mg) (T : ClsF K C.S sysF) (TW : ClsF K C.W wsF) (GS : MO P w K mg base 5 C.S "set_at" ["self", "process", "set_number"] (spSetAt C) fS fdS) :
    FnOk P w K mg base CX0 6 f fd ["self", "process", "set_number"] (spRowOf C) := by
  refine F.ok scRowOf (fun vs H Q E h => ?_) (fun cdv A outer s H vs Q E hr h => ?_)
  · obtain ⟨_, _, _, _, _, _, rfl, _⟩ := h
    rfl
  · obtain ⟨p, n, t, S, ad, dx, rfl, A0, M, ht, k⟩ := h
    refine ⟨_, pss_one (ps_ret (pe_callTy call_list_of (by rfl) X.list PyProof.Rows.boot_list (pa_cons (pe_fld (pe_meth (pv 0) T.cl GS.m GS.g hr GS.b .nil pass0 (pa_cons (pv 1) (pa_cons (pv 2) pa_nil))) rfl) pa_nil))), ?_⟩
    have hb := A0.at_ .box trivial
    walk_at "wn"
    refine ⟨_, rfl, ad .box, dx .box, _, rfl, hb, rfl, ?_⟩
    walk_at "wn"
    refine ⟨p, n, t, S, ad, dx, rfl, A0, M, ht, ?_⟩
    refine ⟨ad (.ws t), C.W, dx (.ws t), _, _, rfl, A0.at_ (.ws t) ht, TW.cl, TW.no _ (by decide), rfl, ?_⟩
    exact ⟨ad (.que t), _, rfl, .inl (SqL.of (A0.at_ (.que t) ht)), fun r hr0 => k r hr0⟩
end

theorem reg_fun (ad : Cell → Addr) (s l : Int) (T : Addr) : (fun j => if j = l then T else ad (.reg s j)) = fun j => setA ad (.reg s l) T (.reg s j) := by
  funext j
  by_cases h : j = l
  · rw [if_pos h, h, setA_same]
  · rw [if_neg h, setA_ne fun z => h (by cases z; rfl)]
def added (S : Sys) (s l : Int) (r : Reg) : Sys := { S with
  ents := fun j => if j = s then S.ents s ++ [l] else S.ents j
  reg := fun j i => if j = s ∧ i = l then r else S.reg j i
  que := fun j => if j = s then (if ready S r.src = true then qAdd l (S.que s) else S.que s) else S.que j }
section
variable {P : Program} {w : World} {K : PySem.W.Frag} {mg : Str → Option Value} {base : Heap} {C : Cs}
inductive PspAdd (C : Cs) (vs : List V) (H : Hp) (Q : VK) : Prop
  | mk (p sn n l s t : Int) (wd : Str) (S : Sys) (ad dx : Cell → Addr) (h_0 : vs = .ref (ad .box) :: [.int p, .int sn, .int n, .int l, .str wd]) (h_1 : At C H S ad dx) (h_2 : Means S p sn s) (h_3 : s ∈ S.sets) (h_4 : Means S p n t) (h_5 : t ∈ S.srcs) (h_6 : 0 ≤ l) (h_7 : l ≤ 999999) (h_8 : wd ∈ wordsL) (h_9 : (S.ents s).find? (keyOf (S.reg s) n t) = none) (h_10 : l ∉ S.ents s) (h_11 : Small S) (h_12 : ∀ H' ad' dx', At C H' (added S s l ⟨n, t, wd, true⟩) ad' dx' → Step H S ad H' (added S s l ⟨n, t, wd, true⟩) ad' → Q .non H') : PspAdd C vs H Q
def spAdd (C : Cs) : Sp := fun vs H Q _ => PspAdd C vs H Q
theorem scAdd : FnScope ["self", "process", "set_number", "number", "label", "word", "waiting", "source"] ["self", "process", "set_number", "number", "label", "word"] (defScope sAdd) := ⟨rfl, rfl, rfl, by decide +kernel, rfl, by decide +kernel, by decide +kernel⟩
theorem okAdd {dvs : List V} {kws : List (Str × V)} {f fW fS fL fD fO fR fI fP : Addr} {fd fdW fdS fdL fdD fdO fdR fdI fdP : FuncData} (F : FunD K "add" "System.add" (defArgs sAdd) (defBody sAdd) (defScope sAdd) dvs kws f fd) (T : ClsF K C.S sysF) (TW : ClsF K C.W wsF)
    (GW : MO P w K mg base 5 C.S "set_at" ["self", "process", "set_number"] (spSetAt C) fW fdW) (GS : MO P w K mg base 5 C.S "source_at" ["self", "process", "number"] (spSourceAt C) fS fdS)
    (GL : DO P w K mg base 3 "is_label" ["x"] spIsLabel fL fdL) (GD : DO P w K mg base 1 "is_word" ["x"] spIsWord fD fdD) (GO : MO P w K mg base 1 C.W "label_of" ["self", "number", "source"] (spLabelOf C.W C.R) fO fdO)
    (gR : mg "Registration" = some (.ref C.R)) (MR : Mk K C.R fR) (GR : FnOk P w K mg base CX0 1 fR fdR ["self", "number", "source", "word", "armed"] (spRegInit C.R)) (bR : Binds K fdR ["self", "number", "source", "word", "armed"] [])
    (GI : MO P w K mg base 1 C.S "is_ready" ["self", "source"] (spIsReady C) fI fdI) (GP : MO P w K mg base 2 C.W "put" ["self", "label", "kept", "ready"] (spPut C.W) fP fdP) :
    FnOk P w K mg base CX0 6 f fd ["self", "process", "set_number", "number", "label", "word"] (spAdd C) := by
  refine F.ok scAdd (fun vs H Q E h => ?_) (fun cdv A outer s H vs Q E hr h => ?_)
  · obtain ⟨_, _, _, _, _, _, _, _, _, _, rfl, _⟩ := h
    rfl
  · obtain ⟨p, sn, n, l, s, t, wd, S, ad, dx, rfl, A0, Ms, hs, Mt, ht, l0, l1, hwd, hfind, hl, sm0, k⟩ := h
    have hu := hu_of hr
    have hr1 : Room 1 _ := hr.mono (by decide)
    have hr2 : Room 2 _ := hr.mono (by decide)
    have hr3 : Room 3 _ := hr.mono (by decide)
    refine ⟨_, pss_cons (ps_set (i := 6) scAdd.nd rfl (Or.inl rfl) (pe_meth (pv 0) T.cl GW.m GW.g hr GW.b .nil pass0 (pa_cons (pv 1) (pa_cons (pv 2) pa_nil))))
      (pss_cons (ps_set (i := 7) scAdd.nd rfl (Or.inl rfl) (pe_meth (pv 0) T.cl GS.m GS.g hr GS.b .nil pass0 (pa_cons (pv 1) (pa_cons (pv 3) pa_nil))))
      (pss_cons (ps_if (pt_not (pt_val (pe_call GL.g hr3 (by rfl) GL.m GL.k GL.b .nil pass0 (pa_cons (pv 4) pa_nil)))) (pss_one ps_never) pss_nil)
      (pss_cons (ps_if (pt_not (pt_val (pe_call GD.g hr1 (by rfl) GD.m GD.k GD.b .nil pass0 (pa_cons (pv 5) pa_nil)))) (pss_one ps_never) pss_nil)
      (pss_cons (ps_if (pt_cmpR oNotN (pe_meth (pv 6) TW.cl GO.m GO.g hr1 GO.b .nil pass0 (pa_cons (pv 3) (pa_cons (pv 7) pa_nil))) pe_non (nomark _)) (pss_one ps_never) pss_nil)
      (pss_cons (ps_if (pt_cmp (pc_din hu (pv 4) (pe_fld (pv 6) rfl)) rfl) (pss_one ps_never) pss_nil)
      (pss_one (ps_expr (pe_meth (pv 6) TW.cl GP.m GP.g hr2 GP.b .nil pass0 (pa_cons (pv 4) (pa_cons (pe_make MR GR hr2 (by rfl) gR bR .nil pass0 (pa_cons (pv 3) (pa_cons (pv 7) (pa_cons (pv 5) (pa_cons pe_bl pa_nil))))) (pa_cons (pe_meth (pv 0) T.cl GI.m GI.g hr1 GI.b .nil pass0 (pa_cons (pv 7) pa_nil)) pa_nil))))))))))), ?_⟩
    have hb := A0.at_ .box trivial
    walk_at "wn"
    refine ⟨_, rfl, ad .box, dx .box, _, rfl, hb, rfl, ?_⟩
    walk_at "wn"
    refine ⟨p, sn, s, S, ad, dx, rfl, A0, Ms, hs, ?_⟩
    walk_at "wn"
    refine ⟨_, rfl, ad .box, dx .box, _, rfl, hb, rfl, ?_⟩
    walk_at "wn"
    refine ⟨p, n, t, S, ad, dx, rfl, A0, Mt, ht, ?_⟩
    walk_at "wn"
    refine ⟨l, rfl, ?_⟩
    rw [decide_eq_true l0, decide_eq_true l1]
    refine ⟨_, rfl, ?_⟩
    walk_at "wn"
    refine ⟨_, rfl, wd, rfl, hwd, ?_⟩
    refine ⟨_, rfl, ?_⟩
    walk_at "wn"
    have hw := A0.at_ (.ws s) hs
    refine ⟨_, rfl, ad (.ws s), dx (.ws s), _, rfl, hw, rfl, ?_⟩
    walk_at "wn"
    refine ⟨ad (.ws s), dx (.ws s), ad (.ent s), ad (.que s), n, t, S.ents s, fun j => ad (.reg s j), S.reg s, rfl, hw, A0.at_ (.ent s) hs, fun j hj => ⟨dx (.reg s j), A0.at_ (.reg s j) ⟨hs, hj⟩⟩, fun H1 s1 => ?_⟩
    rw [hfind]
    have A1 := A0.same s1
    have hw1 := A1.at_ (.ws s) hs
    have he1 := A1.at_ (.ent s) hs
    have hq1 := A1.at_ (.que s) hs
    walk_at "wn"
    refine ⟨_, rfl, _, rfl, ad (.ws s), C.W, dx (.ws s), _, _, rfl, hw1, TW.cl, TW.no _ (by decide), rfl, ?_⟩
    refine ⟨ad (.ent s), _, rfl, DGet.k (k := Sum.inl l) he1, ?_⟩
    rw [ent_val, if_neg hl]
    refine ⟨_, rfl, ?_⟩
    show if false = true then _ else _
    walk_at "wn"
    refine ⟨_, rfl, ad (.ws s), dx (.ws s), _, rfl, hw1, rfl, ?_⟩
    walk_at "wn"
    refine ⟨_, rfl, _, rfl, _, rfl, fun x dx2 hx hdx ndx => ?_⟩
    refine ⟨x, dx2, n, t, wd, true, rfl, upd_same, fun H2 k1 k2 => ⟨rfl, ?_⟩⟩
    have s2 : Same H1 H2 := fun b o e => by
      rw [k1 b (ne_of_none e hx), upd_ne (ne_of_none e hx), upd_ne (ne_of_none e hdx)]
      exact e
    have A2 := A1.same s2
    refine ⟨_, rfl, ad .box, dx .box, _, rfl, A2.at_ .box trivial, rfl, ?_⟩
    walk_at "wn"
    refine ⟨t, S, ad, dx, rfl, A2, ht, ?_⟩
    have he2 := A2.at_ (.ent s) hs
    have hq2 := A2.at_ (.que s) hs
    have z1 := sm0.que s hs
    have z2 := sm0.ents s hs
    refine ⟨ad (.ws s), dx (.ws s), ad (.ent s), ad (.que s), x, l, ready S t, S.que s, _, rfl, A2.at_ (.ws s) hs, hq2, he2, by omega, by unfold entKV; rw [List.length_map]; omega, fun H3 j1 j2 j3 => ?_⟩
    rw [ent_put, if_neg hl, reg_fun] at j1
    have nxe : x ≠ ad (.ent s) := fun z => by rw [z, he1] at hx; cases hx
    have nxq : x ≠ ad (.que s) := fun z => by rw [z, hq1] at hx; cases hx
    have fresh : H x = none := s1.free hx
    refine (fun z : At C _ _ _ _ ∧ Step H S ad _ _ _ => k H3 (setA ad (.reg s l) x) (setA dx (.reg s l) dx2) z.1 z.2) ?_
    refine At.re3 [.ent s, .que s, .reg s l] A0 (fun c lc => ?_) (fun c hc lc => ?_) (fun c hc lc => ?_) (fun c hc lc => ?_) (fun c hc c' hc' lc lc' z e => ?_) (fun b o nb e => ?_) (setA_ne (by intro z; cases z))
    · cases c with
      | reg s' l' =>
        obtain ⟨h1, h2⟩ := lc
        by_cases e : s' = s
        · subst e
          have h2 : l' ∈ (if s' = s' then S.ents s' ++ [l] else S.ents s') := h2
          rw [if_pos rfl] at h2
          rcases List.mem_append.mp h2 with y | y
          · exact .inr ⟨h1, y⟩
          · rw [List.mem_singleton.mp y]
            exact .inl (by simp)
        · have h2 : l' ∈ (if s' = s then S.ents s ++ [l] else S.ents s') := h2
          rw [if_neg e] at h2
          exact .inr ⟨h1, h2⟩
      | _ => exact .inr lc
    · simp only [List.mem_cons, List.not_mem_nil, or_false] at hc
      rcases hc with rfl | rfl | rfl
      · rw [setA_ne (by intro z; cases z), j1]
        show _ = some (HO.dK (entKV (if s = s then S.ents s ++ [l] else S.ents s) _))
        rw [if_pos rfl]
      · rw [setA_ne (by intro z; cases z), j2]
        show _ = some (HO.lst ((if s = s then _ else S.que s).map V.int))
        rw [if_pos rfl]
      · rw [setA_same, j3 x nxe nxq, k2]
        show _ = some (regO C.R (setA dx (.reg s l) dx2 (.reg s l)) (if s = s ∧ l = l then (⟨n, t, wd, true⟩ : Reg) else S.reg s l).num (if s = s ∧ l = l then (⟨n, t, wd, true⟩ : Reg) else S.reg s l).src (if s = s ∧ l = l then (⟨n, t, wd, true⟩ : Reg) else S.reg s l).word (if s = s ∧ l = l then (⟨n, t, wd, true⟩ : Reg) else S.reg s l).armed)
        rw [if_pos ⟨rfl, rfl⟩, setA_same]
    · have n1 : c ≠ .ent s := fun z => hc (by rw [z]; simp)
      have n2 : c ≠ .que s := fun z => hc (by rw [z]; simp)
      have n3 : c ≠ .reg s l := fun z => hc (by rw [z]; simp)
      refine ⟨setA_ne n3, ?_⟩
      cases c with
      | ent s' =>
        have ns : s' ≠ s := fun z => n1 (by rw [z])
        show HO.dK (entKV (if s' = s then S.ents s ++ [l] else S.ents s') fun j => setA ad (.reg s l) x (.reg s' j)) = _
        rw [if_neg ns]
        have ef : (fun j => setA ad (.reg s l) x (.reg s' j)) = fun j => ad (.reg s' j) := funext fun j => setA_ne fun z => ns (by cases z; rfl)
        rw [ef]
        rfl
      | que s' =>
        have ns : s' ≠ s := fun z => n2 (by rw [z])
        show HO.lst ((if s' = s then _ else S.que s').map V.int) = _
        rw [if_neg ns]
        rfl
      | reg s' l' =>
        have nr : ¬ (s' = s ∧ l' = l) := fun z => n3 (by rw [z.1, z.2])
        show regO C.R (setA dx (.reg s l) dx2 (.reg s' l')) (if s' = s ∧ l' = l then (⟨n, t, wd, true⟩ : Reg) else S.reg s' l').num (if s' = s ∧ l' = l then (⟨n, t, wd, true⟩ : Reg) else S.reg s' l').src (if s' = s ∧ l' = l then (⟨n, t, wd, true⟩ : Reg) else S.reg s' l').word (if s' = s ∧ l' = l then (⟨n, t, wd, true⟩ : Reg) else S.reg s' l').armed = _
        rw [if_neg nr, setA_ne n3]
        rfl
      | _ => rfl
    · simp only [List.mem_cons, List.not_mem_nil, or_false] at hc
      rcases hc with rfl | rfl | rfl
      · exact .inl ⟨setA_ne (by intro z; cases z), hs⟩
      · exact .inl ⟨setA_ne (by intro z; cases z), hs⟩
      · exact .inr (by rw [setA_same]; exact fresh)
    · have of : ∀ c, c ∈ ([.ent s, .que s, .reg s l] : List Cell) → H (setA ad (.reg s l) x c) = none → c = .reg s l := fun c hc z => by
        simp only [List.mem_cons, List.not_mem_nil, or_false] at hc
        rcases hc with rfl | rfl | rfl
        · rw [setA_ne (by intro z; cases z), A0.at_ (.ent s) hs] at z
          cases z
        · rw [setA_ne (by intro z; cases z), A0.at_ (.que s) hs] at z
          cases z
        · rfl
      rw [of c hc z, of c' hc' (by rw [← e]; exact z)]
    · rw [j3 b (nb (.ent s) (by simp) hs) (nb (.que s) (by simp) hs)]
      exact s2 _ _ (s1 _ _ e)
end

def took (S : Sys) (s most : Int) : TSt := takeAll S.unit most (S.que s) ⟨[], S.que s, S.reg s⟩
def waited (S : Sys) (s most : Int) : Sys := { S with
  que := fun j => if j = s then (took S s most).que else S.que j
  reg := fun j => if j = s then (took S s most).reg else S.reg j }
section
variable {P : Program} {w : World} {K : PySem.W.Frag} {mg : Str → Option Value} {base : Heap} {C : Cs}
inductive PspWait (C : Cs) (vs : List V) (H : Hp) (Q : VK) : Prop
  | mk (p sn s most : Int) (S : Sys) (ad dx : Cell → Addr) (h_0 : vs = .ref (ad .box) :: [.int p, .int sn, .int most]) (h_1 : At C H S ad dx) (h_2 : Means S p sn s) (h_3 : s ∈ S.sets) (h_4 : 1 ≤ most) (h_5 : most ≤ 1000000) (h_6 : (∀ l ∈ S.que s, l ∈ S.ents s)) (h_7 : (∀ l ∈ S.ents s, (S.reg s l).src ∈ S.srcs)) (h_8 : C.W ≠ C.R) (h_9 : Small S) (h_10 : ∀ H' ad' dx' r rs, H r = none → H' r = some (.lst rs) → ¬ own (waited S s most) ad' r → Paired (RepAt H') rs (took S s most).reps → At C H' (waited S s most) ad' dx' → Step H S ad H' (waited S s most) ad' → Q (.ref r) H') : PspWait C vs H Q
def spWait (C : Cs) : Sp := fun vs H Q _ => PspWait C vs H Q
theorem scWait : FnScope ["self", "process", "set_number", "most", "waiting"] ["self", "process", "set_number", "most"] (defScope sWait) := ⟨rfl, rfl, rfl, by decide +kernel, rfl, by decide +kernel, by decide +kernel⟩
def setW (ad : Cell → Addr) (s : Int) (q : Addr) (r : Int → Addr) : Cell → Addr
  | .que j => if j = s then q else ad (.que j)
  | .reg j l => if j = s then r l else ad (.reg j l)
  | c => ad c
theorem okWait {dvs : List V} {kws : List (Str × V)} {f fW fC fR : Addr} {fd fdW fdC fdR : FuncData} (F : FunD K "wait" "System.wait" (defArgs sWait) (defBody sWait) (defScope sWait) dvs kws f fd) (T : ClsF K C.S sysF) (TW : ClsF K C.W wsF)
    (GW : MO P w K mg base 5 C.S "set_at" ["self", "process", "set_number"] (spSetAt C) fW fdW) (GC : DO P w K mg base 3 "is_count" ["x"] spIsCount fC fdC) (GR : MO P w K mg base 4 C.W "take_reports" ["self", "most", "sources"] (spReports C.W C.R) fR fdR) :
    FnOk P w K mg base CX0 6 f fd ["self", "process", "set_number", "most"] (spWait C) := by
  refine F.ok scWait (fun vs H Q E h => ?_) (fun cdv A outer s H vs Q E hr h => ?_)
  · obtain ⟨_, _, _, _, _, _, _, rfl, _⟩ := h
    rfl
  · obtain ⟨p, sn, s, most, S, ad, dx, rfl, A0, Ms, hs, m0, m1, hqe, hes, nWR, sm0, k⟩ := h
    have hr3 : Room 3 _ := hr.mono (by decide)
    have hr4 : Room 4 _ := hr.mono (by decide)
    refine ⟨_, pss_cons (ps_set (i := 4) scWait.nd rfl (Or.inl rfl) (pe_meth (pv 0) T.cl GW.m GW.g hr GW.b .nil pass0 (pa_cons (pv 1) (pa_cons (pv 2) pa_nil))))
      (pss_cons (ps_if (pt_not (pt_val (pe_call GC.g hr3 (by rfl) GC.m GC.k GC.b .nil pass0 (pa_cons (pv 3) pa_nil)))) (pss_one ps_never) pss_nil)
      (pss_one (ps_ret (pe_meth (pv 4) TW.cl GR.m GR.g hr4 GR.b .nil pass0 (pa_cons (pv 3) (pa_cons (pe_fld (pv 0) rfl) pa_nil)))))), ?_⟩
    have hb := A0.at_ .box trivial
    have hw := A0.at_ (.ws s) hs
    have he := A0.at_ (.ent s) hs
    have hq := A0.at_ (.que s) hs
    walk_at "wn"
    refine ⟨_, rfl, ad .box, dx .box, _, rfl, hb, rfl, ?_⟩
    walk_at "wn"
    refine ⟨p, sn, s, S, ad, dx, rfl, A0, Ms, hs, ?_⟩
    walk_at "wn"
    refine ⟨most, rfl, ?_⟩
    rw [decide_eq_true m0, decide_eq_true m1]
    refine ⟨_, rfl, ?_⟩
    walk_at "wn"
    refine ⟨_, rfl, ad (.ws s), dx (.ws s), _, rfl, hw, rfl, ?_⟩
    refine ⟨_, rfl, _, rfl, ad .box, C.S, dx .box, _, _, rfl, hb, T.cl, T.no _ (by decide), rfl, ?_⟩
    have z1 := sm0.que s hs
    have z2 := sm0.ents s hs
    refine ⟨ad (.ws s), dx (.ws s), ad (.ent s), ad (.que s), ad .srcD, most, S.que s, S.ents s, S.srcs, (fun l => ad (.reg s l)), (fun t => ad (.srcT t)), S.reg s, S.unit, rfl, hw, hq, he, fun l hl => ⟨dx (.reg s l), A0.at_ (.reg s l) ⟨hs, hl⟩⟩, A0.at_ .srcD trivial,
      A0.ne (c := .srcD) (c' := .ent s) trivial hs (by intro z; cases z), fun t ht => A0.at_ (.srcT t) ht, hqe, hes, nWR, fun l hl l' hl' z => by cases A0.inj (.reg s l) (.reg s l') ⟨hs, hl⟩ ⟨hs, hl'⟩ z; rfl, by omega, by omega, fun H' r rs q' adE k1 k2 k3 k4 k5 k6 k7 k8 k9 k10 k11 k12 => ?_⟩
    have k5' : ∀ l ∈ S.ents s, ∃ d : Addr, H' (adE l) = some (regO C.R d ((took S s most).reg l).num ((took S s most).reg l).src ((took S s most).reg l).word ((took S s most).reg l).armed) := k5
    obtain ⟨dE, hdE⟩ : ∃ dE : Int → Addr, ∀ l ∈ S.ents s, H' (adE l) = some (regO C.R (dE l) ((took S s most).reg l).num ((took S s most).reg l).src ((took S s most).reg l).word ((took S s most).reg l).armed) := by
      refine ⟨fun l => if h : l ∈ S.ents s then Classical.choose (k5' l h) else 0, fun l hl => ?_⟩
      dsimp only
      rw [dif_pos hl]
      exact Classical.choose_spec (k5' l hl)
    let dx' : Cell → Addr := fun c => match c with
      | .reg j l => if j = s then dE l else dx (.reg j l)
      | c => dx c
    have sE : ∀ l, setW ad s q' adE (.reg s l) = adE l := fun l => if_pos rfl
    have sQ : setW ad s q' adE (.que s) = q' := if_pos rfl
    have dEe : ∀ l, dx' (.reg s l) = dE l := fun l => if_pos rfl
    have key : At C H' (waited S s most) (setW ad s q' adE) dx' ∧ Step H S ad H' (waited S s most) (setW ad s q' adE) := by
      refine At.re3 ([.ws s, .que s, .ent s] ++ (S.ents s).map (Cell.reg s)) A0 (fun c lc => .inr ?_) (fun c hc lc => ?_) (fun c hc lc => ?_) (fun c hc lc => ?_) (fun c hc c' hc' lc lc' z e => ?_) (fun b o nb e => ?_) rfl
      · cases c <;> exact lc
      · rcases List.mem_append.mp hc with hc | hc
        · simp only [List.mem_cons, List.not_mem_nil, or_false] at hc
          rcases hc with rfl | rfl | rfl
          · show H' (ad (.ws s)) = some (wsO C.W (dx (.ws s)) (ad (.ent s)) (setW ad s q' adE (.que s)))
            rw [sQ]
            exact k1
          · rw [sQ, k2]
            show _ = some (HO.lst ((if s = s then (took S s most).que else S.que s).map V.int))
            rw [if_pos rfl]
            rfl
          · show H' (ad (.ent s)) = some (HO.dK (entKV (S.ents s) fun l => setW ad s q' adE (.reg s l)))
            rw [k4]
            have ef : (fun l => setW ad s q' adE (.reg s l)) = adE := funext sE
            rw [ef]
        · obtain ⟨l, hl, rfl⟩ := List.mem_map.mp hc
          rw [sE, hdE l hl]
          show _ = some (regO C.R (dx' (.reg s l)) ((if s = s then (took S s most).reg else S.reg s) l).num ((if s = s then (took S s most).reg else S.reg s) l).src ((if s = s then (took S s most).reg else S.reg s) l).word ((if s = s then (took S s most).reg else S.reg s) l).armed)
          rw [if_pos rfl, dEe]
      · have n1 : c ≠ .ws s := fun z => hc (by rw [z]; simp)
        have n2 : c ≠ .que s := fun z => hc (by rw [z]; simp)
        have n3 : c ≠ .ent s := fun z => hc (by rw [z]; simp)
        cases c with
        | ws j =>
          have nj : j ≠ s := fun z => n1 (by rw [z])
          refine ⟨rfl, ?_⟩
          show wsO C.W (dx (.ws j)) (ad (.ent j)) (if j = s then q' else ad (.que j)) = _
          rw [if_neg nj]
          rfl
        | que j =>
          have nj : j ≠ s := fun z => n2 (by rw [z])
          refine ⟨if_neg nj, ?_⟩
          show HO.lst ((if j = s then (took S s most).que else S.que j).map V.int) = _
          rw [if_neg nj]
          rfl
        | ent j =>
          have nj : j ≠ s := fun z => n3 (by rw [z])
          refine ⟨rfl, ?_⟩
          have ef : (fun l => setW ad s q' adE (.reg j l)) = fun l => ad (.reg j l) := funext fun l => if_neg nj
          show HO.dK (entKV (S.ents j) fun l => setW ad s q' adE (.reg j l)) = _
          rw [ef]
          rfl
        | reg j l =>
          have nj : j ≠ s := fun z => hc (List.mem_append.mpr (.inr (List.mem_map.mpr ⟨l, by rw [← z]; exact lc.2, by rw [z]⟩)))
          refine ⟨if_neg nj, ?_⟩
          show regO C.R (if j = s then dE l else dx (.reg j l)) ((if j = s then (took S s most).reg else S.reg j) l).num ((if j = s then (took S s most).reg else S.reg j) l).src ((if j = s then (took S s most).reg else S.reg j) l).word ((if j = s then (took S s most).reg else S.reg j) l).armed = _
          rw [if_neg nj, if_neg nj]
          rfl
        | _ => exact ⟨rfl, rfl⟩
      · rcases List.mem_append.mp hc with hc | hc
        · simp only [List.mem_cons, List.not_mem_nil, or_false] at hc
          rcases hc with rfl | rfl | rfl
          · exact .inl ⟨rfl, hs⟩
          · rw [sQ]
            rcases k3 with z | z
            · exact .inl ⟨z, hs⟩
            · exact .inr z
          · exact .inl ⟨rfl, hs⟩
        · obtain ⟨l, hl, rfl⟩ := List.mem_map.mp hc
          rw [sE]
          rcases k6 l with z | z
          · exact .inl ⟨z, ⟨hs, hl⟩⟩
          · exact .inr z
      · have kind : ∀ c ∈ ([.ws s, .que s, .ent s] ++ (S.ents s).map (Cell.reg s) : List Cell), H (setW ad s q' adE c) = none → c = .que s ∨ ∃ l ∈ S.ents s, c = .reg s l := fun c hc z => by
          rcases List.mem_append.mp hc with hc | hc
          · simp only [List.mem_cons, List.not_mem_nil, or_false] at hc
            rcases hc with rfl | rfl | rfl
            · rw [show setW ad s q' adE (.ws s) = ad (.ws s) from rfl, hw] at z
              cases z
            · exact .inl rfl
            · rw [show setW ad s q' adE (.ent s) = ad (.ent s) from rfl, he] at z
              cases z
          · obtain ⟨l, hl, rfl⟩ := List.mem_map.mp hc
            exact .inr ⟨l, hl, rfl⟩
        have z' : H (setW ad s q' adE c') = none := by rw [← e]; exact z
        rcases kind c hc z with rfl | ⟨l, hl, rfl⟩
        · rcases kind c' hc' z' with rfl | ⟨l', hl', rfl⟩
          · rfl
          · rw [sQ, sE] at e
            have x := hdE l' hl'
            rw [← e, k2] at x
            cases x
        · rcases kind c' hc' z' with rfl | ⟨l', hl', rfl⟩
          · rw [sQ, sE] at e
            have x := hdE l hl
            rw [e, k2] at x
            cases x
          · rw [sE, sE] at e
            rw [k7 l hl l' hl' e]
      · exact k12 b o (nb (.ws s) (by simp) hs) (nb (.ent s) (by simp) hs) (nb (.que s) (by simp) hs) e
    refine k H' _ dx' r rs k8 k10 (fun ⟨c, lc, ec⟩ => ?_) k11 key.1 key.2
    have x := key.1.at_ c lc
    rw [ec, k10] at x
    cases c with
    | tab j =>
      have y : H (ad (.tab j)) = _ := A0.at_ (.tab j) lc
      rw [show ad (.tab j) = r from ec, k8] at y
      cases y
    | que j =>
      by_cases nj : j = s
      · subst nj
        rw [sQ] at ec
        exact k9 ec.symm
      · have ec2 : (if j = s then q' else ad (.que j)) = r := ec
        rw [if_neg nj] at ec2
        have y : H (ad (.que j)) = _ := A0.at_ (.que j) lc
        rw [ec2, k8] at y
        cases y
    | _ => cases x
end

def newSource (S : Sys) (p : Int) (n : Nat) : Sys := { newThing S p n with
  srcs := S.srcs ++ [S.next]
  unit := fun j => if j = S.next then (0, false) else S.unit j }
def newSet (S : Sys) (p : Int) (n : Nat) : Sys := { newThing S p n with
  sets := S.sets ++ [S.next]
  ents := fun j => if j = S.next then [] else S.ents j
  que := fun j => if j = S.next then [] else S.que j }
section
variable {P : Program} {w : World} {K : PySem.W.Frag} {mg : Str → Option Value} {base : Heap} {C : Cs}
inductive PspNewSource (C : Cs) (vs : List V) (H : Hp) (Q : VK) : Prop
  | mk (p : Int) (n : Nat) (S : Sys) (ad dx : Cell → Addr) (h_0 : vs = .ref (ad .box) :: [.int p]) (h_1 : At C H S ad dx) (h_2 : p ∈ S.procs) (h_3 : firstFree (S.tab p) n) (h_4 : (S.tab p).length ≤ 1000) (h_5 : S.srcs.length ≤ 1000) (h_6 : S.next ∉ S.srcs) (h_7 : ∀ H' ad', At C H' (newSource S p n) ad' dx → Step H S ad H' (newSource S p n) ad' → Q (.int (n : Int)) H') : PspNewSource C vs H Q
def spNewSource (C : Cs) : Sp := fun vs H Q _ => PspNewSource C vs H Q
theorem scNewSource : FnScope ["self", "process", "number", "thing"] ["self", "process"] (defScope sNewSource) := ⟨rfl, rfl, rfl, by decide +kernel, rfl, by decide +kernel, by decide +kernel⟩
theorem okNewSource {f fN : Addr} {fd fdN : FuncData} (F : Fun K "new_source" "System.new_source" sNewSource f fd) (T : ClsF K C.S sysF) (GN : MO P w K mg base 5 C.S "new_thing" ["self", "process"] (spNewThing C) fN fdN) :
    FnOk P w K mg base CX0 6 f fd ["self", "process"] (spNewSource C) := by
  refine F.ok scNewSource (fun vs H Q E h => ?_) (fun cdv A outer s H vs Q E hr h => ?_)
  · obtain ⟨_, _, _, _, _, rfl, _⟩ := h
    rfl
  · obtain ⟨p, n, S, ad, dx, rfl, A0, hp, hf, hl, hz, hnx, k⟩ := h
    have hu := hu_of hr
    refine ⟨_, pss_cons (ps_asg (pe_meth (pv 0) T.cl GN.m GN.g hr GN.b .nil pass0 (pa_cons (pv 1) pa_nil)) (pg_tup rfl (pgs_cons (pg_name (i := 2) scNewSource.nd rfl (Or.inl rfl)) (pgs_cons (pg_name (i := 3) scNewSource.nd rfl (Or.inl rfl)) pgs_nil))))
      (pss_cons (ps_dput hu (pe_fld (pv 0) rfl) (pv 3) (pe_tup (pa_cons pe_int (pa_cons pe_bl pa_nil))) rfl) (pss_one (ps_ret (pv 2)))), ?_⟩
    walk_at "wn"
    refine ⟨_, rfl, ad .box, dx .box, _, rfl, A0.at_ .box trivial, rfl, ?_⟩
    walk_at "wn"
    refine ⟨p, n, S, ad, dx, rfl, A0, hp, hf, hl, fun H1 T1 hT1 hT A1 st1 => ?_⟩
    refine ⟨T1, _, rfl, SqT.of hT, rfl, _, _, rfl, ?_⟩
    walk_at "wn"
    refine ⟨_, _, rfl, ?_⟩
    walk_at "wn"
    refine ⟨rfl, ?_⟩
    walk_at "wn"
    refine ⟨by show 2 ≤ sizeLine; decide, fun T2 hT2 => ?_⟩
    have hb := A1.at_ .box trivial
    have hD : H1 (ad .srcD) = some (.dK (entKV S.srcs fun t => ad (.srcT t))) := A1.at_ .srcD trivial
    have nTD : T2 ≠ ad .srcD := fun z => by rw [z, hD] at hT2; cases hT2
    have nTb : ad .box ≠ T2 := ne_of_none hb hT2
    refine ⟨_, rfl, ad .box, C.S, dx .box, _, _, rfl, by rw [upd_ne nTb]; exact hb, T.cl, T.no _ (by decide), rfl, ?_⟩
    refine ⟨_, rfl, ad .srcD, _, rfl, DPut.k (k := Sum.inl S.next) (by rw [upd_ne (Ne.symm nTD)]; exact hD) (by unfold entKV; rw [List.length_map, sizeLine_eq]; omega), ?_⟩
    walk_at "wn"
    refine (fun z : At C _ _ _ _ ∧ Step H1 (newThing S p n) ad _ _ _ => k _ (setA ad (.srcT S.next) T2) z.1 (st1.trans z.2)) ?_
    refine At.re3 [.srcD, .srcT S.next] A1 (fun c lc => ?_) (fun c hc lc => ?_) (fun c hc lc => ?_) (fun c hc lc => ?_) (fun c hc c' hc' lc lc' z e => ?_) (fun b o nb e => ?_) (setA_ne (by intro z; cases z))
    · cases c with
      | srcT t =>
        rcases List.mem_append.mp (show t ∈ S.srcs ++ [S.next] from lc) with y | y
        · exact .inr y
        · rw [List.mem_singleton.mp y]
          exact .inl (by simp)
      | _ => exact .inr lc
    · simp only [List.mem_cons, List.not_mem_nil, or_false] at hc
      rcases hc with rfl | rfl
      · rw [setA_ne (by intro z; cases z), upd_same, ent_put, if_neg hnx, srcT_fun]
        rfl
      · rw [setA_same, upd_ne nTD, upd_same]
        show _ = some (HO.tup [.int (if S.next = S.next then ((0 : Int), false) else S.unit S.next).1, .bl (if S.next = S.next then ((0 : Int), false) else S.unit S.next).2])
        rw [if_pos rfl]
    · have n1 : c ≠ .srcD := fun z => hc (by rw [z]; simp)
      have n2 : c ≠ .srcT S.next := fun z => hc (by rw [z]; simp)
      refine ⟨setA_ne n2, ?_⟩
      cases c with
      | srcD => exact absurd rfl n1
      | srcT j =>
        have nj : j ≠ S.next := fun z => n2 (by rw [z])
        show HO.tup [.int (if j = S.next then ((0 : Int), false) else S.unit j).1, .bl (if j = S.next then ((0 : Int), false) else S.unit j).2] = _
        rw [if_neg nj]
        rfl
      | _ => rfl
    · simp only [List.mem_cons, List.not_mem_nil, or_false] at hc
      rcases hc with rfl | rfl
      · exact .inl ⟨setA_ne (by intro z; cases z), trivial⟩
      · exact .inr (by rw [setA_same]; exact hT2)
    · simp only [List.mem_cons, List.not_mem_nil, or_false] at hc hc'
      rcases hc with rfl | rfl
      · rw [setA_ne (by intro z; cases z), hD] at z
        cases z
      · rcases hc' with rfl | rfl
        · rw [setA_same, setA_ne (by intro z; cases z)] at e
          exact absurd e nTD
        · rfl
    · rw [upd_ne (nb .srcD (by simp) trivial), upd_ne (ne_of_none e hT2)]
      exact e
inductive PspNewSet (C : Cs) (vs : List V) (H : Hp) (Q : VK) : Prop
  | mk (p : Int) (n : Nat) (S : Sys) (ad dx : Cell → Addr) (h_0 : vs = .ref (ad .box) :: [.int p]) (h_1 : At C H S ad dx) (h_2 : p ∈ S.procs) (h_3 : firstFree (S.tab p) n) (h_4 : (S.tab p).length ≤ 1000) (h_5 : S.sets.length ≤ 1000) (h_6 : S.next ∉ S.sets) (h_7 : ∀ H' ad' dx', At C H' (newSet S p n) ad' dx' → Step H S ad H' (newSet S p n) ad' → Q (.int (n : Int)) H') : PspNewSet C vs H Q
def spNewSet (C : Cs) : Sp := fun vs H Q _ => PspNewSet C vs H Q
theorem scNewSet : FnScope ["self", "process", "number", "thing"] ["self", "process"] (defScope sNewSet) := ⟨rfl, rfl, rfl, by decide +kernel, rfl, by decide +kernel, by decide +kernel⟩
theorem okNewSet {f fN fI : Addr} {fd fdN fdI : FuncData} (F : Fun K "new_set" "System.new_set" sNewSet f fd) (T : ClsF K C.S sysF) (GN : MO P w K mg base 5 C.S "new_thing" ["self", "process"] (spNewThing C) fN fdN)
    (gW : mg "WaitingSet" = some (.ref C.W)) (MW : Mk K C.W fI) (GI : FnOk P w K mg base CX0 1 fI fdI ["self"] (spWsInit C.W)) (bI : Binds K fdI ["self"] []) :
    FnOk P w K mg base CX0 6 f fd ["self", "process"] (spNewSet C) := by
  refine F.ok scNewSet (fun vs H Q E h => ?_) (fun cdv A outer s H vs Q E hr h => ?_)
  · obtain ⟨_, _, _, _, _, rfl, _⟩ := h
    rfl
  · obtain ⟨p, n, S, ad, dx, rfl, A0, hp, hf, hl, hz, hnx, k⟩ := h
    have hu := hu_of hr
    have hr2 : Room 2 _ := hr.mono (by decide)
    refine ⟨_, pss_cons (ps_asg (pe_meth (pv 0) T.cl GN.m GN.g hr GN.b .nil pass0 (pa_cons (pv 1) pa_nil)) (pg_tup rfl (pgs_cons (pg_name (i := 2) scNewSet.nd rfl (Or.inl rfl)) (pgs_cons (pg_name (i := 3) scNewSet.nd rfl (Or.inl rfl)) pgs_nil))))
      (pss_cons (ps_dput hu (pe_fld (pv 0) rfl) (pv 3) (pe_make0 MW GI hr2 (by rfl) gW bI .nil pass0) rfl) (pss_one (ps_ret (pv 2)))), ?_⟩
    walk_at "wn"
    refine ⟨_, rfl, ad .box, dx .box, _, rfl, A0.at_ .box trivial, rfl, ?_⟩
    walk_at "wn"
    refine ⟨p, n, S, ad, dx, rfl, A0, hp, hf, hl, fun H1 T1 hT1 hT A1 st1 => ?_⟩
    refine ⟨T1, _, rfl, SqT.of hT, rfl, _, _, rfl, ?_⟩
    walk_at "wn"
    refine ⟨_, _, rfl, ?_⟩
    walk_at "wn"
    refine ⟨rfl, ?_⟩
    refine (fun x dx2 hx hdx ndx => ?_ : ∀ x dx2, _ → _ → _ → _)
    refine ⟨x, dx2, rfl, upd_same, fun H2 e q he hq h2e h2q h2x h2 => ⟨rfl, ?_⟩⟩
    have nex : e ≠ x := fun z => by rw [z, upd_same] at he; cases he
    have nqx : q ≠ x := fun z => by rw [z, upd_same] at hq; cases hq
    rw [upd_ne nex] at he
    rw [upd_ne nqx] at hq
    have ned : e ≠ dx2 := fun z => by rw [z, upd_same] at he; cases he
    have nqd : q ≠ dx2 := fun z => by rw [z, upd_same] at hq; cases hq
    rw [upd_ne ned] at he
    rw [upd_ne nqd] at hq
    have neq : e ≠ q := fun z => by rw [z, h2q] at h2e; cases h2e
    have s2 : Same H1 H2 := fun b o y => by
      rw [h2 b (ne_of_none y hx) (ne_of_none y he) (ne_of_none y hq), upd_ne (ne_of_none y hx), upd_ne (ne_of_none y hdx)]
      exact y
    have A2 := A1.same s2
    have hb := A2.at_ .box trivial
    have hD : H2 (ad .setD) = some (.dK (entKV S.sets fun t => ad (.ws t))) := A2.at_ .setD trivial
    have hD1 : H1 (ad .setD) = some (.dK (entKV S.sets fun t => ad (.ws t))) := A1.at_ .setD trivial
    have nxD : x ≠ ad .setD := fun z => by rw [z, hD1] at hx; cases hx
    have neD : e ≠ ad .setD := fun z => by rw [z, hD1] at he; cases he
    have nqD : q ≠ ad .setD := fun z => by rw [z, hD1] at hq; cases hq
    refine ⟨_, rfl, ad .box, C.S, dx .box, _, _, rfl, hb, T.cl, T.no _ (by decide), rfl, ?_⟩
    refine ⟨_, rfl, ad .setD, _, rfl, DPut.k (k := Sum.inl S.next) hD (by unfold entKV; rw [List.length_map, sizeLine_eq]; omega), ?_⟩
    walk_at "wn"
    have wf : (fun j => if j = S.next then x else ad (.ws j)) = fun j => setA (setA (setA ad (.ws S.next) x) (.ent S.next) e) (.que S.next) q (.ws j) := by
      funext j
      rw [setA_ne (by intro z; cases z), setA_ne (by intro z; cases z)]
      by_cases h : j = S.next
      · rw [if_pos h, h, setA_same]
      · rw [if_neg h, setA_ne fun z => h (by cases z; rfl)]
    have aw : setA (setA (setA ad (.ws S.next) x) (.ent S.next) e) (.que S.next) q (.ws S.next) = x := by rw [setA_ne (by intro z; cases z), setA_ne (by intro z; cases z), setA_same]
    have ae : setA (setA (setA ad (.ws S.next) x) (.ent S.next) e) (.que S.next) q (.ent S.next) = e := by rw [setA_ne (by intro z; cases z), setA_same]
    have aq : setA (setA (setA ad (.ws S.next) x) (.ent S.next) e) (.que S.next) q (.que S.next) = q := setA_same
    have ao : ∀ c, c ≠ .ws S.next → c ≠ .ent S.next → c ≠ .que S.next → setA (setA (setA ad (.ws S.next) x) (.ent S.next) e) (.que S.next) q c = ad c := fun c h1 h2 h3 => by rw [setA_ne h3, setA_ne h2, setA_ne h1]
    refine (fun z : At C _ _ _ _ ∧ Step H1 (newThing S p n) ad _ _ _ => k _ (setA (setA (setA ad (.ws S.next) x) (.ent S.next) e) (.que S.next) q) (setA dx (.ws S.next) dx2) z.1 (st1.trans z.2)) ?_
    refine At.re3 [.setD, .ws S.next, .ent S.next, .que S.next] A1 (fun c lc => ?_) (fun c hc lc => ?_) (fun c hc lc => ?_) (fun c hc lc => ?_) (fun c hc c' hc' lc lc' z ee => ?_) (fun b o nb ee => ?_) (ao _ (by intro z; cases z) (by intro z; cases z) (by intro z; cases z))
    · have split : ∀ t, t ∈ S.sets ++ [S.next] → t ∈ S.sets ∨ t = S.next := fun t h => by
        rcases List.mem_append.mp h with y | y
        · exact .inl y
        · exact .inr (List.mem_singleton.mp y)
      cases c with
      | ws t =>
        rcases split t lc with y | rfl
        · exact .inr y
        · exact .inl (by simp)
      | ent t =>
        rcases split t lc with y | rfl
        · exact .inr y
        · exact .inl (by simp)
      | que t =>
        rcases split t lc with y | rfl
        · exact .inr y
        · exact .inl (by simp)
      | reg t l =>
        obtain ⟨h1, h2⟩ := lc
        have h2 : l ∈ (if t = S.next then [] else S.ents t) := h2
        by_cases nt : t = S.next
        · rw [if_pos nt] at h2
          cases h2
        · rw [if_neg nt] at h2
          rcases split t h1 with y | y
          · exact .inr ⟨y, h2⟩
          · exact absurd y nt
      | _ => exact .inr lc
    · simp only [List.mem_cons, List.not_mem_nil, or_false] at hc
      rcases hc with rfl | rfl | rfl | rfl
      · rw [ao _ (by intro z; cases z) (by intro z; cases z) (by intro z; cases z), upd_same, ent_put, if_neg hnx, wf]
        rfl
      · rw [aw, upd_ne nxD, h2x]
        show _ = some (wsO C.W (setA dx (.ws S.next) dx2 (.ws S.next)) _ _)
        rw [setA_same, ae, aq]
      · rw [ae, upd_ne neD, h2e]
        show _ = some (HO.dK (entKV (if S.next = S.next then [] else S.ents S.next) _))
        rw [if_pos rfl]
        rfl
      · rw [aq, upd_ne nqD, h2q]
        show _ = some (HO.lst ((if S.next = S.next then [] else S.que S.next).map V.int))
        rw [if_pos rfl]
        rfl
    · have n1 : c ≠ .setD := fun z => hc (by rw [z]; simp)
      have n2 : c ≠ .ws S.next := fun z => hc (by rw [z]; simp)
      have n3 : c ≠ .ent S.next := fun z => hc (by rw [z]; simp)
      have n4 : c ≠ .que S.next := fun z => hc (by rw [z]; simp)
      refine ⟨ao c n2 n3 n4, ?_⟩
      cases c with
      | setD => exact absurd rfl n1
      | ws t =>
        have nt : t ≠ S.next := fun z => n2 (by rw [z])
        show wsO C.W (setA dx (.ws S.next) dx2 (.ws t)) _ _ = _
        rw [setA_ne n2, ao (.ent t) (by intro z; cases z) (fun z => nt (by cases z; rfl)) (by intro z; cases z), ao (.que t) (by intro z; cases z) (by intro z; cases z) (fun z => nt (by cases z; rfl))]
        rfl
      | ent t =>
        have nt : t ≠ S.next := fun z => n3 (by rw [z])
        show HO.dK (entKV (if t = S.next then [] else S.ents t) _) = _
        rw [if_neg nt]
        rfl
      | que t =>
        have nt : t ≠ S.next := fun z => n4 (by rw [z])
        show HO.lst ((if t = S.next then [] else S.que t).map V.int) = _
        rw [if_neg nt]
        rfl
      | _ => rfl
    · simp only [List.mem_cons, List.not_mem_nil, or_false] at hc
      rcases hc with rfl | rfl | rfl | rfl
      · exact .inl ⟨ao _ (by intro z; cases z) (by intro z; cases z) (by intro z; cases z), trivial⟩
      · exact .inr (by rw [aw]; exact hx)
      · exact .inr (by rw [ae]; exact he)
      · exact .inr (by rw [aq]; exact hq)
    · simp only [List.mem_cons, List.not_mem_nil, or_false] at hc hc'
      have oD : setA (setA (setA ad (.ws S.next) x) (.ent S.next) e) (.que S.next) q .setD = ad .setD := ao _ (by intro z; cases z) (by intro z; cases z) (by intro z; cases z)
      rcases hc with rfl | rfl | rfl | rfl
      · rw [oD, hD1] at z
        cases z
      · rcases hc' with rfl | rfl | rfl | rfl
        · rw [aw, oD] at ee
          exact absurd ee nxD
        · rfl
        · rw [aw, ae] at ee
          exact absurd ee.symm nex
        · rw [aw, aq] at ee
          exact absurd ee.symm nqx
      · rcases hc' with rfl | rfl | rfl | rfl
        · rw [ae, oD] at ee
          exact absurd ee neD
        · rw [aw, ae] at ee
          exact absurd ee nex
        · rfl
        · rw [ae, aq] at ee
          exact absurd ee neq
      · rcases hc' with rfl | rfl | rfl | rfl
        · rw [aq, oD] at ee
          exact absurd ee nqD
        · rw [aw, aq] at ee
          exact absurd ee nqx
        · rw [ae, aq] at ee
          exact absurd ee.symm neq
        · rfl
    · rw [upd_ne (nb .setD (by simp) trivial)]
      exact s2 _ _ ee
end

def newSys (P N : Int) : Sys where
  P := P
  N := N
  next := 0
  procs := [0]
  tab := fun _ => List.replicate N.toNat none
  srcs := []
  unit := fun _ => (0, false)
  sets := []
  ents := fun _ => []
  reg := fun _ _ => ⟨0, 0, "level", true⟩
  que := fun _ => []
section
variable {P : Program} {w : World} {K : PySem.W.Frag} {mg : Str → Option Value} {base : Heap} {C : Cs}
structure LimTxt (K : PySem.W.Frag) (mg : Str → Option Value) (CS : Addr) : Prop where
  lp : ∃ t, mg "LEAST_PROCESSES" = some (.int 2 t)
  ln : ∃ t, mg "LEAST_NUMBERS" = some (.int 3 t)
  mp : ∃ u, Con K CS "MOST_PROCESSES" (.int 6) u
  mn : ∃ u, Con K CS "MOST_NUMBERS" (.int 8) u
inductive PspSysInit (C : Cs) (vs : List V) (H : Hp) (Q : VK) : Prop
  | mk (x dx0 : Addr) (p n : Int) (h_0 : vs = [.ref x, .int p, .int n]) (h_1 : H x = some (.ins C.S dx0 [])) (h_2 : 2 ≤ p) (h_3 : p ≤ 6) (h_4 : 3 ≤ n) (h_5 : n ≤ 8) (h_6 : ∀ H' ad dx, ad .box = x → At C H' (newSys p n) ad dx → (∀ b o, b ≠ x → H b = some o → H' b = some o) → (∀ b, own (newSys p n) ad b → b = x ∨ H b = none) → Q .non H') : PspSysInit C vs H Q
def spSysInit (C : Cs) : Sp := fun vs H Q _ => PspSysInit C vs H Q
theorem scSysInit : FnScope ["self", "processes", "numbers"] ["self", "processes", "numbers"] (defScope sSysInit) := ⟨rfl, rfl, rfl, by decide +kernel, rfl, by decide +kernel, by decide +kernel⟩
def initA (x td sd ud tl : Addr) : Cell → Addr
  | .box => x
  | .tabD => td
  | .srcD => sd
  | .setD => ud
  | _ => tl
theorem okSysInit {dvs : List V} {kws : List (Str × V)} {f fB : Addr} {fd fdB : FuncData} (F : FunD K "__init__" "System.__init__" (defArgs sSysInit) (defBody sSysInit) (defScope sSysInit) dvs kws f fd) (T : ClsF K C.S sysF) (L : LimTxt K mg C.S)
    (GB : DO P w K mg base 2 "is_between" ["x", "least", "most"] spIsBetween fB fdB) : FnOk P w K mg base CX0 3 f fd ["self", "processes", "numbers"] (spSysInit C) := by
  refine F.ok scSysInit (fun vs H Q E h => ?_) (fun cdv A outer s H vs Q E hr h => ?_)
  · obtain ⟨_, _, _, _, rfl, _⟩ := h
    rfl
  · obtain ⟨x, dx0, p, n, rfl, hx, p0, p1, n0, n1, k⟩ := h
    obtain ⟨tp, lp⟩ := L.lp
    obtain ⟨tn, ln⟩ := L.ln
    obtain ⟨up, mp⟩ := L.mp
    obtain ⟨un, mn⟩ := L.mn
    refine ⟨_, pss_cons (ps_if (pt_not (pt_val (pe_call GB.g hr (by rfl) GB.m GB.k GB.b .nil pass0 (pa_cons (pv 1) (pa_cons (pe_glob (v := .int 2) (by rfl) lp ⟨_, rfl⟩) (pa_cons (pe_con (pv 0) rfl) pa_nil)))))) (pss_one ps_never) pss_nil)
      (pss_cons (ps_if (pt_not (pt_val (pe_call GB.g hr (by rfl) GB.m GB.k GB.b .nil pass0 (pa_cons (pv 2) (pa_cons (pe_glob (v := .int 3) (by rfl) ln ⟨_, rfl⟩) (pa_cons (pe_con (pv 0) rfl) pa_nil)))))) (pss_one ps_never) pss_nil)
      (pss_cons (ps_fld (pv 0) (pv 1) rfl) (pss_cons (ps_fld (pv 0) (pv 2) rfl)
      (pss_cons (ps_fld (pv 0) (pe_disp (pps_cons pe_int (pe_op op_rep (pe_lst (pa_cons pe_non pa_nil)) (pv 2)) pps_nil) (by rfl) (by rfl) (fun z => by cases z) (by decide)) rfl)
      (pss_cons (ps_fld (pv 0) pe_dnewK rfl) (pss_cons (ps_fld (pv 0) pe_dnewK rfl) (pss_one (ps_fld (pv 0) pe_int rfl)))))))), ?_⟩
    walk_at "wn"
    refine ⟨_, rfl, x, C.S, dx0, _, _, _, rfl, hx, T.cl, mp, rfl, ?_⟩
    refine ⟨p, 2, 6, rfl, ?_⟩
    rw [decide_eq_true p0, decide_eq_true p1]
    refine ⟨_, rfl, ?_⟩
    walk_at "wn"
    refine ⟨_, rfl, _, rfl, x, C.S, dx0, _, _, _, rfl, hx, T.cl, mn, rfl, ?_⟩
    refine ⟨n, 3, 8, rfl, ?_⟩
    rw [decide_eq_true n0, decide_eq_true n1]
    refine ⟨_, rfl, ?_⟩
    refine ⟨_, rfl, _, rfl, x, C.S, dx0, _, rfl, hx, T.cl, T.no _ (by decide), by show 0 < 1000; decide, ?_⟩
    refine ⟨_, rfl, _, rfl, x, C.S, dx0, _, rfl, upd_same, T.cl, T.no _ (by decide), by show 1 < 1000; decide, ?_⟩
    have g1 : ∀ b o, b ≠ x → H b = some o → upd (upd H x (.ins C.S dx0 (putF "process_limit" (V.int p) []))) x (.ins C.S dx0 (putF "number_limit" (V.int n) (putF "process_limit" (V.int p) []))) b = some o := fun b o nb e => by rw [upd_ne nb, upd_ne nb]; exact e
    have x1 : upd (upd H x (.ins C.S dx0 (putF "process_limit" (V.int p) []))) x (.ins C.S dx0 (putF "number_limit" (V.int n) (putF "process_limit" (V.int p) []))) x = some (.ins C.S dx0 [("process_limit", .int p), ("number_limit", .int n)]) := upd_same
    generalize upd (upd H x (.ins C.S dx0 (putF "process_limit" (V.int p) []))) x (.ins C.S dx0 (putF "number_limit" (V.int n) (putF "process_limit" (V.int p) []))) = H1 at g1 x1
    have fr : ∀ {H' : Hp} {l : Addr}, (∀ b o, b ≠ x → H b = some o → H' b = some o) → H' l = none → l ≠ x → H l = none := fun {H'} {l} g e nl => by
      cases z : H l with
      | none => rfl
      | some o => rw [g l o nl z] at e; cases e
    intro td htd
    have ntx : td ≠ x := fun z => by rw [z, x1] at htd; cases htd
    have s2 := Same.new' (o := .dK []) htd
    refine ⟨by show 1 ≤ sizeLine; decide, fun l0 hl0 => ?_⟩
    have s3 := Same.new' (o := .lst [V.non]) hl0
    have l0' : upd (upd H1 td (.dK [])) l0 (.lst [V.non]) l0 = some (.lst [V.non]) := upd_same
    refine ⟨_, rfl, l0, n, _, rfl, rfl, l0', by omega, by omega, ?_, fun tl htl => ?_⟩
    · show 1 * n.toNat ≤ sizeLine
      rw [sizeLine_eq]
      omega
    have s4 := Same.new' (o := .lst (List.replicate n.toNat [V.non]).flatten) htl
    have td4 : upd (upd (upd H1 td (.dK [])) l0 (.lst [V.non])) tl (.lst (List.replicate n.toNat [V.non]).flatten) td = some (.dK []) := s4 _ _ (s3 _ _ upd_same)
    have x4 := s4 _ _ (s3 _ _ (s2 _ _ x1))
    have tl4 : upd (upd (upd H1 td (.dK [])) l0 (.lst [V.non])) tl (.lst (List.replicate n.toNat [V.non]).flatten) tl = some (.lst (List.replicate n.toNat [V.non]).flatten) := upd_same
    have g4 : ∀ b o, b ≠ x → H b = some o → upd (upd (upd H1 td (.dK [])) l0 (.lst [V.non])) tl (.lst (List.replicate n.toNat [V.non]).flatten) b = some o := fun b o nb e => s4 _ _ (s3 _ _ (s2 _ _ (g1 b o nb e)))
    have hd0 : H td = none := fr g1 htd ntx
    have ntlx : tl ≠ x := fun z => by rw [z] at htl; rw [s3 _ _ (s2 _ _ x1)] at htl; cases htl
    have htl0 : H tl = none := fr (H' := upd (upd H1 td (.dK [])) l0 (.lst [V.non])) (fun b o nb e => s3 _ _ (s2 _ _ (g1 b o nb e))) htl ntlx
    generalize upd (upd (upd H1 td (.dK [])) l0 (.lst [V.non])) tl (.lst (List.replicate n.toNat [V.non]).flatten) = H4 at td4 x4 tl4 g4
    have ntd : tl ≠ td := ne_of tl4 td4 (by intro z; cases z)
    refine ⟨td4, [(Sum.inl 0, .ref tl)], rfl, by show 1 ≤ 15; decide, ?_⟩
    have g5 : ∀ b o, b ≠ x → H b = some o → upd H4 td (.dK (mergeK [] [((Sum.inl 0 : Key), V.ref tl)])) b = some o := fun b o nb e => by rw [upd_ne (ne_of_none e hd0)]; exact g4 b o nb e
    have x5 : upd H4 td (.dK (mergeK [] [((Sum.inl 0 : Key), V.ref tl)])) x = _ := (upd_ne (Ne.symm ntx)).trans x4
    have tl5 : upd H4 td (.dK (mergeK [] [((Sum.inl 0 : Key), V.ref tl)])) tl = _ := (upd_ne ntd).trans tl4
    have td5 : upd H4 td (.dK (mergeK [] [((Sum.inl 0 : Key), V.ref tl)])) td = some (.dK [((Sum.inl 0 : Key), V.ref tl)]) := upd_same
    generalize upd H4 td (.dK (mergeK [] [((Sum.inl 0 : Key), V.ref tl)])) = H5 at g5 x5 tl5 td5
    refine ⟨_, rfl, x, C.S, dx0, _, rfl, x5, T.cl, T.no _ (by decide), by show 2 < 1000; decide, ?_⟩
    have g6 : ∀ b o, b ≠ x → H5 b = some o → upd H5 x (.ins C.S dx0 (putF "tables" (V.ref td) [("process_limit", .int p), ("number_limit", .int n)])) b = some o := fun b o nb e => by rw [upd_ne nb]; exact e
    have x6 : upd H5 x (.ins C.S dx0 (putF "tables" (V.ref td) [("process_limit", .int p), ("number_limit", .int n)])) x = some (.ins C.S dx0 [("process_limit", .int p), ("number_limit", .int n), ("tables", .ref td)]) := upd_same
    generalize upd H5 x (.ins C.S dx0 (putF "tables" (V.ref td) [("process_limit", .int p), ("number_limit", .int n)])) = H6 at g6 x6
    intro sd hsd
    have nsx : sd ≠ x := fun z => by rw [z, x6] at hsd; cases hsd
    have nst : sd ≠ td := fun z => by rw [z, g6 _ _ ntx td5] at hsd; cases hsd
    have hsd0 : H sd = none := fr (fun b o nb e => g6 b o nb (g5 b o nb e)) hsd nsx
    have s7 := Same.new' (o := .dK []) hsd
    refine ⟨_, rfl, x, C.S, dx0, _, rfl, s7 _ _ x6, T.cl, T.no _ (by decide), by show 3 < 1000; decide, ?_⟩
    have g8 : ∀ b o, b ≠ x → H6 b = some o → upd (upd H6 sd (.dK [])) x (.ins C.S dx0 (putF "sources" (V.ref sd) [("process_limit", .int p), ("number_limit", .int n), ("tables", .ref td)])) b = some o := fun b o nb e => by rw [upd_ne nb]; exact s7 _ _ e
    have sd8 : upd (upd H6 sd (.dK [])) x (.ins C.S dx0 (putF "sources" (V.ref sd) [("process_limit", .int p), ("number_limit", .int n), ("tables", .ref td)])) sd = some (.dK []) := by rw [upd_ne nsx]; exact upd_same
    have x8 : upd (upd H6 sd (.dK [])) x (.ins C.S dx0 (putF "sources" (V.ref sd) [("process_limit", .int p), ("number_limit", .int n), ("tables", .ref td)])) x = some (.ins C.S dx0 [("process_limit", .int p), ("number_limit", .int n), ("tables", .ref td), ("sources", .ref sd)]) := upd_same
    generalize upd (upd H6 sd (.dK [])) x (.ins C.S dx0 (putF "sources" (V.ref sd) [("process_limit", .int p), ("number_limit", .int n), ("tables", .ref td)])) = H8 at g8 sd8 x8
    intro ud hud
    have nux : ud ≠ x := fun z => by rw [z, x8] at hud; cases hud
    have nut : ud ≠ td := fun z => by rw [z, g8 _ _ ntx (g6 _ _ ntx td5)] at hud; cases hud
    have nus : ud ≠ sd := fun z => by rw [z, sd8] at hud; cases hud
    have hud0 : H ud = none := fr (fun b o nb e => g8 b o nb (g6 b o nb (g5 b o nb e))) hud nux
    have s9 := Same.new' (o := .dK []) hud
    refine ⟨_, rfl, x, C.S, dx0, _, rfl, s9 _ _ x8, T.cl, T.no _ (by decide), by show 4 < 1000; decide, ?_⟩
    refine ⟨_, rfl, x, C.S, dx0, _, rfl, upd_same, T.cl, T.no _ (by decide), by show 5 < 1000; decide, ?_⟩
    have fin : ∀ b o, b ≠ x → upd H8 ud (.dK []) b = some o → upd (upd (upd H8 ud (.dK [])) x (.ins C.S dx0 (putF "sets" (V.ref ud) [("process_limit", .int p), ("number_limit", .int n), ("tables", .ref td), ("sources", .ref sd)]))) x (.ins C.S dx0 (putF "next_thing" (V.int 0) (putF "sets" (V.ref ud) [("process_limit", .int p), ("number_limit", .int n), ("tables", .ref td), ("sources", .ref sd)]))) b = some o := fun b o nb e => by rw [upd_ne nb, upd_ne nb]; exact e
    have xf : upd (upd (upd H8 ud (.dK [])) x (.ins C.S dx0 (putF "sets" (V.ref ud) [("process_limit", .int p), ("number_limit", .int n), ("tables", .ref td), ("sources", .ref sd)]))) x (.ins C.S dx0 (putF "next_thing" (V.int 0) (putF "sets" (V.ref ud) [("process_limit", .int p), ("number_limit", .int n), ("tables", .ref td), ("sources", .ref sd)]))) x = some (sysO C.S dx0 (newSys p n) td sd ud) := upd_same
    generalize upd (upd (upd H8 ud (.dK [])) x (.ins C.S dx0 (putF "sets" (V.ref ud) [("process_limit", .int p), ("number_limit", .int n), ("tables", .ref td), ("sources", .ref sd)]))) x (.ins C.S dx0 (putF "next_thing" (V.int 0) (putF "sets" (V.ref ud) [("process_limit", .int p), ("number_limit", .int n), ("tables", .ref td), ("sources", .ref sd)]))) = HF at fin xf
    have tdF : HF td = some (.dK [((Sum.inl 0 : Key), V.ref tl)]) := fin _ _ ntx (s9 _ _ (g8 _ _ ntx (g6 _ _ ntx td5)))
    have sdF : HF sd = some (.dK []) := fin _ _ nsx (s9 _ _ sd8)
    have udF : HF ud = some (.dK []) := fin _ _ nux upd_same
    have tlF : HF tl = some (.lst (List.replicate n.toNat [V.non]).flatten) := fin _ _ ntlx (s9 _ _ (g8 _ _ ntlx (g6 _ _ ntlx tl5)))
    have et : (List.replicate n.toNat [V.non]).flatten = (List.replicate n.toNat (none : Option Int)).map optV := by
      rw [List.map_replicate]
      have : ∀ m : Nat, (List.replicate m [V.non]).flatten = List.replicate m V.non := by
        intro m
        induction m with
        | zero => rfl
        | succ m ih => rw [List.replicate_succ, List.flatten_cons, ih]; rfl
      exact this _
    rw [et] at tlF
    have lt0 : ∀ t, live (newSys p n) (.tab t) → t = 0 := fun t h => List.mem_singleton.mp h
    have no : ∀ t : Int, t ∉ ([] : List Int) := fun t h => nomatch h
    refine k HF (initA x td sd ud tl) (fun _ => dx0) rfl ⟨fun c hc => ?_, fun c c' hc hc' z => ?_⟩ (fun b o nb e => fin b o nb (s9 _ _ (g8 b o nb (g6 b o nb (g5 b o nb e))))) (fun b hb => ?_)
    · cases c with
      | box => exact xf
      | tabD => exact tdF
      | srcD => exact sdF
      | setD => exact udF
      | tab t => exact tlF
      | srcT t => exact absurd hc (no t)
      | ws t => exact absurd hc (no t)
      | ent t => exact absurd hc (no t)
      | que t => exact absurd hc (no t)
      | reg t l => exact absurd hc.1 (no t)
    · have n_xt : x ≠ td := Ne.symm ntx
      have n_ts : tl ≠ sd := ne_of tlF sdF (by intro z; cases z)
      have n_tu : tl ≠ ud := ne_of tlF udF (by intro z; cases z)
      have dead : ∀ {c : Cell}, live (newSys p n) c → c = .box ∨ c = .tabD ∨ c = .srcD ∨ c = .setD ∨ c = .tab 0 := fun {c} hc => by
        cases c with
        | box => exact .inl rfl
        | tabD => exact .inr (.inl rfl)
        | srcD => exact .inr (.inr (.inl rfl))
        | setD => exact .inr (.inr (.inr (.inl rfl)))
        | tab t => exact .inr (.inr (.inr (.inr (by rw [lt0 t hc]))))
        | srcT t => exact absurd hc (no t)
        | ws t => exact absurd hc (no t)
        | ent t => exact absurd hc (no t)
        | que t => exact absurd hc (no t)
        | reg t l => exact absurd hc.1 (no t)
      rcases dead hc with rfl | rfl | rfl | rfl | rfl <;> rcases dead hc' with rfl | rfl | rfl | rfl | rfl <;> first | rfl | (exfalso; revert z; first | exact fun z => n_xt z | exact fun z => n_xt z.symm | exact fun z => nsx z | exact fun z => nsx z.symm | exact fun z => nux z | exact fun z => nux z.symm | exact fun z => ntlx z | exact fun z => ntlx z.symm | exact fun z => nst z | exact fun z => nst z.symm | exact fun z => nut z | exact fun z => nut z.symm | exact fun z => nus z | exact fun z => nus z.symm | exact fun z => ntd z | exact fun z => ntd z.symm | exact fun z => n_ts z | exact fun z => n_ts z.symm | exact fun z => n_tu z | exact fun z => n_tu z.symm)
    · obtain ⟨c, hc, rfl⟩ := hb
      cases c with
      | box => exact .inl rfl
      | tabD => exact .inr hd0
      | srcD => exact .inr hsd0
      | setD => exact .inr hud0
      | tab t => exact .inr htl0
      | srcT t => exact absurd hc (no t)
      | ws t => exact absurd hc (no t)
      | ent t => exact absurd hc (no t)
      | que t => exact absurd hc (no t)
      | reg t l => exact absurd hc.1 (no t)
end

abbrev sDrop : Stmt := meth 27 5
abbrev sChange : Stmt := meth 31 14
abbrev sRemove : Stmt := meth 31 15
/-! o.m(e, .., k = v, ..) -/
def tMethK (C : Addr) (m : Str) (n j : Nat) (sp : Sp) (gV : List V → List V → List V) (E : XK) (ta : TE) (t tk : TA) : TE := fun σ H Q => ta σ H fun x H1 => ∃ a dx fs, x = .ref a ∧ H1 a = some (.ins C dx fs) ∧ fs.lookup m = none ∧ t σ H1 fun vs H2 => tk σ H2 fun zs H3 => vs.length = n ∧ zs.length = j ∧ sp (gV (x :: vs) zs) H3 Q E
section
variable {X : Cx} {CX : CXT} {k n : Nat} {f C : Addr} {fd : FuncData} {ps ks : List Str} {sp : Sp} {E : XK} {m : Str} {apos pos : Pos} {o e : Expr} {es : List Expr} {kws : List Keyword} {ta : TE} {t tk : TA} {g : List Value → List Value → List Value} {gV : List V → List V → List V}
theorem pe_methK {pl : Sem Bool} (he : PE X o ta) (c : Cls X.K C) (hm : Meth X.K C m f) (F : FnOk X.prog X.w X.K X.mg X.base CX k f fd ps sp) (hr : Room k X.A) (hb : KBn X.K fd ps (n + 1) ks g gV) (hx : Passes CX X E) (ha : PA X (e :: es) t) (hkw : PK X kws tk)
    (hall : (backToKw pos (keywordEach kws X.env)).all (·.1.isSome) = true := by rfl) (hks : (backToKw pos (keywordEach kws X.env)).filterMap (·.1) = ks := by rfl)
    (hst : starEach (e :: es) X.env = (false, eval e X.env) :: starEach es X.env := by rfl) (hpl : ((backTo pos (starEach (e :: es) X.env)).any (·.1) || (backToKw pos (keywordEach kws X.env)).any (·.1.isNone)) = false := by rfl)
    (ht : eval (.Call (.Attribute o m apos) (e :: es) kws pos) X.env = (do
      let ov ← eval o X.env
      standAt apos.atName
      let (f, first) ← holding [ov] (getMethod ov m pl)
      callWith pos f first (backTo pos (starEach (e :: es) X.env)) (backToKw pos (keywordEach kws X.env))) := by rfl) :
    PE X (.Call (.Attribute o m apos) (e :: es) kws pos) (tMethK C m n ks.length sp gV E ta t tk) := by
  refine ⟨fun pins s σ H Q I h => ?_⟩
  refine PySem.W.methodCall_KW (pl := pl) (thn (he.run pins s σ H _ I h) fun u s1 ⟨x, H1, I1, rx, a, dx, fs, ex, ea, l, q⟩ => ?_) ht
  subst ex
  obtain rfl : u = Value.ref a := rx
  refine getmeth_ok I1 ea c hm l ?_
  refine PySem.W.callWith_KW (first := [.ref a]) (h₀ := X.base) I.ok.mod.kin hm.kp hall (thn (ha.run pos pins s1 σ H1 _ I1 q) fun us s2 ⟨vs, H2, I2, r, q2⟩ => ?_) hpl hst
  refine thn (hkw.run pos pins s2 σ H2 _ I2 q2) fun ws s3 ⟨zs, H3, I3, rz, l1, l2, q3⟩ => ⟨I3.kIn, ?_⟩
  rw [hks]
  exact run_fnN (us := .ref a :: us) (vs := .ref a :: vs) F hr hb hx I3 (.cons rfl r) rz (by rw [List.length_cons, l1]) l2 q3
end
/-! WaitingSet.drop -/
theorem ent_drop (ls : List Int) (ad : Int → Addr) (l : Int) : dropK (entKV ls ad) (Sum.inl l) = entKV (ls.filter fun x => decide (x ≠ l)) ad := by
  unfold dropK entKV
  induction ls with
  | nil => rfl
  | cons x ls ih =>
    rw [List.map_cons, List.filter_cons, List.filter_cons, ih]
    by_cases h : x = l
    · have e1 : decide ((Sum.inl x : Key) ≠ Sum.inl l) = false := decide_eq_false fun z => z (by rw [h])
      have e2 : decide (x ≠ l) = false := decide_eq_false fun z => z h
      rw [e2]
      show (if decide ((Sum.inl x : Key) ≠ Sum.inl l) = true then _ else _) = _
      rw [e1]
      rfl
    · have e1 : decide ((Sum.inl x : Key) ≠ Sum.inl l) = true := decide_eq_true fun z => h (Sum.inl.inj z)
      have e2 : decide (x ≠ l) = true := decide_eq_true h
      rw [e2]
      show (if decide ((Sum.inl x : Key) ≠ Sum.inl l) = true then _ else _) = _
      rw [e1]
      rfl
section
variable {P : Program} {w : World} {K : PySem.W.Frag} {mg : Str → Option Value} {base : Heap} {CR CW : Addr}
def without (l : Int) (ls : List Int) : List Int := ls.filter fun x => decide (x ≠ l)
inductive PspDrop (CW : Addr) (vs : List V) (H : Hp) (Q : VK) : Prop
  | mk (a dx e q : Addr) (l : Int) (qs ls : List Int) (ad : Int → Addr) (h_0 : vs = [.ref a, .int l]) (h_1 : H a = some (wsO CW dx e q)) (h_2 : H q = some (.lst (qs.map V.int))) (h_3 : H e = some (.dK (entKV ls ad))) (h_4 : l ∈ ls) (h_5 : qs.length ≤ 10000) (h_6 : ∀ H' q', H q' = none → H' a = some (wsO CW dx e q') → H' q' = some (.lst ((without l qs).map V.int)) → H' e = some (.dK (entKV (without l ls) ad)) → (∀ b o, b ≠ a → b ≠ e → H b = some o → H' b = some o) → Q .non H') : PspDrop CW vs H Q
def spDrop (CW : Addr) : Sp := fun vs H Q _ => PspDrop CW vs H Q
theorem scDrop : FnScope ["self", "label", "pending"] ["self", "label"] (defScope sDrop) := ⟨rfl, rfl, rfl, by decide +kernel, rfl, by decide +kernel, by decide +kernel⟩
theorem okDrop {f : Addr} {fd : FuncData} (F : Fun K "drop" "WaitingSet.drop" sDrop f fd) (T : ClsF K CW wsF) : FnOk P w K mg base CX0 1 f fd ["self", "label"] (spDrop CW) := by
  refine F.ok scDrop (fun vs H Q E h => ?_) (fun cdv A outer s H vs Q E hr h => ?_)
  · obtain ⟨_, _, _, _, _, _, _, _, rfl, _⟩ := h
    rfl
  · obtain ⟨a, dx, e, q, l, qs, ls, ad, rfl, ha, hq, he, hl, hz, k⟩ := h
    have hu := hu_of hr
    refine ⟨_, pss_cons (ps_ddel (pe_fld (pv 0) rfl) (pv 1))
      (pss_one (ps_fld (pv 0) (pe_lc (own := [("pending", 2)]) (g := gName 2) (tt := tTest (tOp rNe (tVar 2) (tVar 1))) (te := tVar 2) rfl scDrop.nd (pi_list (pe_fld (pv 0) rfl)) (blkOk_by (N := ["self", "label", "pending"]) (sc := defScope sDrop) (by decide +kernel)) (fun _ _ _ _ _ => pg_name (i := 2) scDrop.nd rfl (Or.inl rfl)) (fun _ _ _ _ _ => pts_one (pt_cmpR op_ne (pv 2) (pv 1) (nomark _))) (fun _ _ _ _ _ => pv 2)) rfl)), ?_⟩
    have nae : a ≠ e := ne_of ha he (by intro z; cases z)
    have nqe : q ≠ e := ne_of hq he (by intro z; cases z)
    refine ⟨_, rfl, a, CW, dx, _, _, rfl, ha, T.cl, T.no _ (by decide), rfl, ?_⟩
    refine ⟨_, rfl, e, _, Sum.inl l, rfl, he, rfl, by rw [ent_val, if_pos hl]; rfl, ?_⟩
    rw [ent_drop]
    have g1 : ∀ b o, b ≠ e → H b = some o → upd H e (.dK (entKV (ls.filter fun x => decide (x ≠ l)) ad)) b = some o := fun b o n z => by rw [upd_ne n]; exact z
    have e1 : upd H e (.dK (entKV (ls.filter fun x => decide (x ≠ l)) ad)) e = some (.dK (entKV (without l ls) ad)) := upd_same
    generalize upd H e (.dK (entKV (ls.filter fun x => decide (x ≠ l)) ad)) = H1 at g1 e1
    have a1 := g1 _ _ nae ha
    have q1 := g1 _ _ nqe hq
    refine ⟨_, rfl, a, CW, dx, _, _, rfl, a1, T.cl, T.no _ (by decide), rfl, ?_⟩
    refine ⟨q, rfl, ⟨_, SqL.of q1⟩, fun D hD => lc_list (K := K) (a := q) (xs := qs.map V.int) (fun i H' => Same H1 H' ∧ H' D = some (.lst ((without l (qs.take i)).map V.int))) ⟨Same.new' hD, by rw [upd_same]; rfl⟩ (fun i H' _ h => SqL.of (h.1 _ _ q1)) ?_ ?_⟩
    · rintro i v H' hv ⟨sm, hD'⟩
      rw [List.getElem?_map] at hv
      cases el : qs[i]? with
      | none => rw [el] at hv; cases hv
      | some x =>
      rw [el] at hv
      cases hv
      obtain ⟨hi, _⟩ := List.getElem?_eq_some_iff.mp el
      have et : without l (qs.take (i + 1)) = without l (qs.take i) ++ (if x ≠ l then [x] else []) := by
        unfold without
        rw [List.take_add_one, el, List.filter_append]
        by_cases h : x = l
        · rw [if_neg (fun z => z h)]
          simp [h]
        · rw [if_pos h]
          simp [h]
      refine ⟨rfl, ?_⟩
      show tTest _ _ _ _
      walk_at "wn"
      by_cases h : x = l
      · subst h
        rw [et, if_neg (show ¬ (x ≠ x) from fun z => z rfl), List.append_nil]
        walk_at "wn"
        exact ⟨sm, hD'⟩
      · rw [decide_eq_false fun z => h (V.int.inj z), et, if_pos h, List.map_append]
        walk_at "wn"
        refine ⟨_, hD', ?_, fun b o z => ?_, upd_same⟩
        · rw [List.length_map]
          have : (without l (qs.take i)).length ≤ (qs.take i).length := List.length_filter_le _ _
          rw [List.length_take] at this
          rw [sizeLine_eq]
          omega
        · rw [upd_ne (ne_of_none z hD)]
          exact sm _ _ z
    · rintro H' ⟨sm, hD'⟩
      have hD0 : H D = none := by
        cases z : H D with
        | none => rfl
        | some o =>
          by_cases n : D = e
          · rw [n, e1] at hD
            cases hD
          · rw [g1 _ _ n z] at hD
            cases hD
      have eq : without l (qs.take (qs.map V.int).length) = without l qs := by rw [List.length_map, List.take_length]
      rw [eq] at hD'
      refine ⟨_, rfl, a, CW, dx, _, rfl, sm _ _ a1, T.cl, T.no _ (by decide), by show 2 < 1000; decide, ?_⟩
      have naD : a ≠ D := ne_of_none a1 hD
      have neD : e ≠ D := ne_of_none e1 hD
      refine k _ D hD0 upd_same ((upd_ne (Ne.symm naD)).trans hD') ((upd_ne (Ne.symm nae)).trans (sm _ _ e1)) fun b o n1 n2 z => ?_
      rw [upd_ne n1]
      exact sm _ _ (g1 _ _ n2 z)
end
/-! System.change, System.remove -/
def changed (S : Sys) (s l : Int) (r : Reg) : Sys := { S with
  reg := fun j i => if j = s ∧ i = l then r else S.reg j i
  que := fun j => if j = s then (if ready S r.src = true then qAdd l (S.que s) else S.que s) else S.que j }
def dropped (S : Sys) (s l : Int) : Sys := { S with
  ents := fun j => if j = s then without l (S.ents s) else S.ents j
  que := fun j => if j = s then without l (S.que s) else S.que j }
section
variable {P : Program} {w : World} {K : PySem.W.Frag} {mg : Str → Option Value} {base : Heap} {C : Cs}
inductive PspChange (C : Cs) (vs : List V) (H : Hp) (Q : VK) : Prop
  | mk (p sn n l s t : Int) (wd : Str) (S : Sys) (ad dx : Cell → Addr) (h_0 : vs = .ref (ad .box) :: [.int p, .int sn, .int n, .str wd]) (h_1 : At C H S ad dx) (h_2 : Means S p sn s) (h_3 : s ∈ S.sets) (h_4 : Means S p n t) (h_5 : t ∈ S.srcs) (h_6 : wd ∈ wordsL) (h_7 : (S.ents s).find? (keyOf (S.reg s) n t) = some l) (h_8 : Small S) (h_9 : ∀ H' ad' dx', At C H' (changed S s l ⟨n, t, wd, true⟩) ad' dx' → Step H S ad H' (changed S s l ⟨n, t, wd, true⟩) ad' → Q .non H') : PspChange C vs H Q
def spChange (C : Cs) : Sp := fun vs H Q _ => PspChange C vs H Q
theorem scChange : FnScope ["self", "process", "set_number", "number", "word", "waiting", "source", "label"] ["self", "process", "set_number", "number", "word"] (defScope sChange) := ⟨rfl, rfl, rfl, by decide +kernel, rfl, by decide +kernel, by decide +kernel⟩
theorem okChange {f fW fS fD fO fR fI fP : Addr} {fd fdW fdS fdD fdO fdR fdI fdP : FuncData} (F : Fun K "change" "System.change" sChange f fd) (T : ClsF K C.S sysF) (TW : ClsF K C.W wsF)
    (GW : MO P w K mg base 5 C.S "set_at" ["self", "process", "set_number"] (spSetAt C) fW fdW) (GS : MO P w K mg base 5 C.S "source_at" ["self", "process", "number"] (spSourceAt C) fS fdS)
    (GD : DO P w K mg base 1 "is_word" ["x"] spIsWord fD fdD) (GO : MO P w K mg base 1 C.W "label_of" ["self", "number", "source"] (spLabelOf C.W C.R) fO fdO)
    (gR : mg "Registration" = some (.ref C.R)) (MR : Mk K C.R fR) (GR : FnOk P w K mg base CX0 1 fR fdR ["self", "number", "source", "word", "armed"] (spRegInit C.R)) (bR : Binds K fdR ["self", "number", "source", "word", "armed"] [])
    (GI : MO P w K mg base 1 C.S "is_ready" ["self", "source"] (spIsReady C) fI fdI) (GP : MO P w K mg base 2 C.W "put" ["self", "label", "kept", "ready"] (spPut C.W) fP fdP) :
    FnOk P w K mg base CX0 6 f fd ["self", "process", "set_number", "number", "word"] (spChange C) := by
  refine F.ok scChange (fun vs H Q E h => ?_) (fun cdv A outer s H vs Q E hr h => ?_)
  · obtain ⟨_, _, _, _, _, _, _, _, _, _, rfl, _⟩ := h
    rfl
  · obtain ⟨p, sn, n, l, s, t, wd, S, ad, dx, rfl, A0, Ms, hs, Mt, ht, hwd, hfind, sm0, k⟩ := h
    have hu := hu_of hr
    have hr1 : Room 1 _ := hr.mono (by decide)
    have hr2 : Room 2 _ := hr.mono (by decide)
    have hl : l ∈ S.ents s := List.mem_of_find?_eq_some hfind
    refine ⟨_, pss_cons (ps_set (i := 5) scChange.nd rfl (Or.inl rfl) (pe_meth (pv 0) T.cl GW.m GW.g hr GW.b .nil pass0 (pa_cons (pv 1) (pa_cons (pv 2) pa_nil))))
      (pss_cons (ps_set (i := 6) scChange.nd rfl (Or.inl rfl) (pe_meth (pv 0) T.cl GS.m GS.g hr GS.b .nil pass0 (pa_cons (pv 1) (pa_cons (pv 3) pa_nil))))
      (pss_cons (ps_if (pt_not (pt_val (pe_call GD.g hr1 (by rfl) GD.m GD.k GD.b .nil pass0 (pa_cons (pv 4) pa_nil)))) (pss_one ps_never) pss_nil)
      (pss_cons (ps_set (i := 7) scChange.nd rfl (Or.inl rfl) (pe_meth (pv 5) TW.cl GO.m GO.g hr1 GO.b .nil pass0 (pa_cons (pv 3) (pa_cons (pv 6) pa_nil))))
      (pss_cons (ps_if (pt_cmpR oIsN (pv 7) pe_non (nomark _)) (pss_one ps_never) pss_nil)
      (pss_one (ps_expr (pe_meth (pv 5) TW.cl GP.m GP.g hr2 GP.b .nil pass0 (pa_cons (pv 7) (pa_cons (pe_make MR GR hr2 (by rfl) gR bR .nil pass0 (pa_cons (pv 3) (pa_cons (pv 6) (pa_cons (pv 4) (pa_cons pe_bl pa_nil))))) (pa_cons (pe_meth (pv 0) T.cl GI.m GI.g hr1 GI.b .nil pass0 (pa_cons (pv 6) pa_nil)) pa_nil)))))))))), ?_⟩
    have hb := A0.at_ .box trivial
    walk_at "wn"
    refine ⟨_, rfl, ad .box, dx .box, _, rfl, hb, rfl, ?_⟩
    walk_at "wn"
    refine ⟨p, sn, s, S, ad, dx, rfl, A0, Ms, hs, ?_⟩
    walk_at "wn"
    refine ⟨_, rfl, ad .box, dx .box, _, rfl, hb, rfl, ?_⟩
    walk_at "wn"
    refine ⟨p, n, t, S, ad, dx, rfl, A0, Mt, ht, ?_⟩
    walk_at "wn"
    refine ⟨wd, rfl, hwd, ?_⟩
    refine ⟨_, rfl, ?_⟩
    walk_at "wn"
    have hw := A0.at_ (.ws s) hs
    refine ⟨_, rfl, ad (.ws s), dx (.ws s), _, rfl, hw, rfl, ?_⟩
    walk_at "wn"
    refine ⟨ad (.ws s), dx (.ws s), ad (.ent s), ad (.que s), n, t, S.ents s, fun j => ad (.reg s j), S.reg s, rfl, hw, A0.at_ (.ent s) hs, fun j hj => ⟨dx (.reg s j), A0.at_ (.reg s j) ⟨hs, hj⟩⟩, fun H1 s1 => ?_⟩
    rw [hfind]
    have A1 := A0.same s1
    have hw1 := A1.at_ (.ws s) hs
    have he1 := A1.at_ (.ent s) hs
    have hq1 := A1.at_ (.que s) hs
    walk_at "wn"
    rw [decide_eq_false (by intro z; cases z)]
    walk_at "wn"
    refine ⟨_, rfl, ad (.ws s), dx (.ws s), _, rfl, hw1, rfl, ?_⟩
    walk_at "wn"
    refine ⟨_, rfl, _, rfl, _, rfl, fun x dx2 hx hdx ndx => ?_⟩
    refine ⟨x, dx2, n, t, wd, true, rfl, upd_same, fun H2 k1 k2 => ⟨rfl, ?_⟩⟩
    have s2 : Same H1 H2 := fun b o e => by
      rw [k1 b (ne_of_none e hx), upd_ne (ne_of_none e hx), upd_ne (ne_of_none e hdx)]
      exact e
    have A2 := A1.same s2
    refine ⟨_, rfl, ad .box, dx .box, _, rfl, A2.at_ .box trivial, rfl, ?_⟩
    walk_at "wn"
    refine ⟨t, S, ad, dx, rfl, A2, ht, ?_⟩
    have he2 := A2.at_ (.ent s) hs
    have hq2 := A2.at_ (.que s) hs
    have z1 := sm0.que s hs
    have z2 := sm0.ents s hs
    refine ⟨ad (.ws s), dx (.ws s), ad (.ent s), ad (.que s), x, l, ready S t, S.que s, _, rfl, A2.at_ (.ws s) hs, hq2, he2, by omega, by unfold entKV; rw [List.length_map]; omega, fun H3 j1 j2 j3 => ?_⟩
    rw [ent_put, if_pos hl, reg_fun] at j1
    have nxe : x ≠ ad (.ent s) := fun z => by rw [z, he1] at hx; cases hx
    have nxq : x ≠ ad (.que s) := fun z => by rw [z, hq1] at hx; cases hx
    have fresh : H x = none := s1.free hx
    refine (fun z : At C _ _ _ _ ∧ Step H S ad _ _ _ => k H3 (setA ad (.reg s l) x) (setA dx (.reg s l) dx2) z.1 z.2) ?_
    refine At.re3 [.ent s, .que s, .reg s l] A0 (fun c lc => .inr ?_) (fun c hc lc => ?_) (fun c hc lc => ?_) (fun c hc lc => ?_) (fun c hc c' hc' lc lc' z e => ?_) (fun b o nb e => ?_) (setA_ne (by intro z; cases z))
    · cases c <;> exact lc
    · simp only [List.mem_cons, List.not_mem_nil, or_false] at hc
      rcases hc with rfl | rfl | rfl
      · rw [setA_ne (by intro z; cases z), j1]
        rfl
      · rw [setA_ne (by intro z; cases z), j2]
        show _ = some (HO.lst ((if s = s then _ else S.que s).map V.int))
        rw [if_pos rfl]
      · rw [setA_same, j3 x nxe nxq, k2]
        show _ = some (regO C.R (setA dx (.reg s l) dx2 (.reg s l)) (if s = s ∧ l = l then (⟨n, t, wd, true⟩ : Reg) else S.reg s l).num (if s = s ∧ l = l then (⟨n, t, wd, true⟩ : Reg) else S.reg s l).src (if s = s ∧ l = l then (⟨n, t, wd, true⟩ : Reg) else S.reg s l).word (if s = s ∧ l = l then (⟨n, t, wd, true⟩ : Reg) else S.reg s l).armed)
        rw [if_pos ⟨rfl, rfl⟩, setA_same]
    · have n1 : c ≠ .ent s := fun z => hc (by rw [z]; simp)
      have n2 : c ≠ .que s := fun z => hc (by rw [z]; simp)
      have n3 : c ≠ .reg s l := fun z => hc (by rw [z]; simp)
      refine ⟨setA_ne n3, ?_⟩
      cases c with
      | ent s' =>
        have ns : s' ≠ s := fun z => n1 (by rw [z])
        have ef : (fun j => setA ad (.reg s l) x (.reg s' j)) = fun j => ad (.reg s' j) := funext fun j => setA_ne fun z => ns (by cases z; rfl)
        show HO.dK (entKV (S.ents s') fun j => setA ad (.reg s l) x (.reg s' j)) = _
        rw [ef]
        rfl
      | que s' =>
        have ns : s' ≠ s := fun z => n2 (by rw [z])
        show HO.lst ((if s' = s then _ else S.que s').map V.int) = _
        rw [if_neg ns]
        rfl
      | reg s' l' =>
        have nr : ¬ (s' = s ∧ l' = l) := fun z => n3 (by rw [z.1, z.2])
        show regO C.R (setA dx (.reg s l) dx2 (.reg s' l')) (if s' = s ∧ l' = l then (⟨n, t, wd, true⟩ : Reg) else S.reg s' l').num (if s' = s ∧ l' = l then (⟨n, t, wd, true⟩ : Reg) else S.reg s' l').src (if s' = s ∧ l' = l then (⟨n, t, wd, true⟩ : Reg) else S.reg s' l').word (if s' = s ∧ l' = l then (⟨n, t, wd, true⟩ : Reg) else S.reg s' l').armed = _
        rw [if_neg nr, setA_ne n3]
        rfl
      | _ => rfl
    · simp only [List.mem_cons, List.not_mem_nil, or_false] at hc
      rcases hc with rfl | rfl | rfl
      · exact .inl ⟨setA_ne (by intro z; cases z), hs⟩
      · exact .inl ⟨setA_ne (by intro z; cases z), hs⟩
      · exact .inr (by rw [setA_same]; exact fresh)
    · have of : ∀ c, c ∈ ([.ent s, .que s, .reg s l] : List Cell) → H (setA ad (.reg s l) x c) = none → c = .reg s l := fun c hc z => by
        simp only [List.mem_cons, List.not_mem_nil, or_false] at hc
        rcases hc with rfl | rfl | rfl
        · rw [setA_ne (by intro z; cases z), A0.at_ (.ent s) hs] at z
          cases z
        · rw [setA_ne (by intro z; cases z), A0.at_ (.que s) hs] at z
          cases z
        · rfl
      rw [of c hc z, of c' hc' (by rw [← e]; exact z)]
    · rw [j3 b (nb (.ent s) (by simp) hs) (nb (.que s) (by simp) hs)]
      exact s2 _ _ (s1 _ _ e)
inductive PspRemove (C : Cs) (vs : List V) (H : Hp) (Q : VK) : Prop
  | mk (p sn n l s t : Int) (S : Sys) (ad dx : Cell → Addr) (h_0 : vs = .ref (ad .box) :: [.int p, .int sn, .int n]) (h_1 : At C H S ad dx) (h_2 : Means S p sn s) (h_3 : s ∈ S.sets) (h_4 : Means S p n t) (h_5 : t ∈ S.srcs) (h_6 : (S.ents s).find? (keyOf (S.reg s) n t) = some l) (h_7 : Small S) (h_8 : ∀ H' ad' dx', At C H' (dropped S s l) ad' dx' → Step H S ad H' (dropped S s l) ad' → Q .non H') : PspRemove C vs H Q
def spRemove (C : Cs) : Sp := fun vs H Q _ => PspRemove C vs H Q
theorem scRemove : FnScope ["self", "process", "set_number", "number", "waiting", "source", "label"] ["self", "process", "set_number", "number"] (defScope sRemove) := ⟨rfl, rfl, rfl, by decide +kernel, rfl, by decide +kernel, by decide +kernel⟩
theorem okRemove {f fW fS fO fP : Addr} {fd fdW fdS fdO fdP : FuncData} (F : Fun K "remove" "System.remove" sRemove f fd) (T : ClsF K C.S sysF) (TW : ClsF K C.W wsF)
    (GW : MO P w K mg base 5 C.S "set_at" ["self", "process", "set_number"] (spSetAt C) fW fdW) (GS : MO P w K mg base 5 C.S "source_at" ["self", "process", "number"] (spSourceAt C) fS fdS)
    (GO : MO P w K mg base 1 C.W "label_of" ["self", "number", "source"] (spLabelOf C.W C.R) fO fdO) (GP : MO P w K mg base 1 C.W "drop" ["self", "label"] (spDrop C.W) fP fdP) :
    FnOk P w K mg base CX0 6 f fd ["self", "process", "set_number", "number"] (spRemove C) := by
  refine F.ok scRemove (fun vs H Q E h => ?_) (fun cdv A outer s H vs Q E hr h => ?_)
  · obtain ⟨_, _, _, _, _, _, _, _, _, rfl, _⟩ := h
    rfl
  · obtain ⟨p, sn, n, l, s, t, S, ad, dx, rfl, A0, Ms, hs, Mt, ht, hfind, sm0, k⟩ := h
    have hr1 : Room 1 _ := hr.mono (by decide)
    have hl : l ∈ S.ents s := List.mem_of_find?_eq_some hfind
    refine ⟨_, pss_cons (ps_set (i := 4) scRemove.nd rfl (Or.inl rfl) (pe_meth (pv 0) T.cl GW.m GW.g hr GW.b .nil pass0 (pa_cons (pv 1) (pa_cons (pv 2) pa_nil))))
      (pss_cons (ps_set (i := 5) scRemove.nd rfl (Or.inl rfl) (pe_meth (pv 0) T.cl GS.m GS.g hr GS.b .nil pass0 (pa_cons (pv 1) (pa_cons (pv 3) pa_nil))))
      (pss_cons (ps_set (i := 6) scRemove.nd rfl (Or.inl rfl) (pe_meth (pv 4) TW.cl GO.m GO.g hr1 GO.b .nil pass0 (pa_cons (pv 3) (pa_cons (pv 5) pa_nil))))
      (pss_cons (ps_if (pt_cmpR oIsN (pv 6) pe_non (nomark _)) (pss_one ps_never) pss_nil)
      (pss_one (ps_expr (pe_meth (pv 4) TW.cl GP.m GP.g hr1 GP.b .nil pass0 (pa_cons (pv 6) pa_nil))))))), ?_⟩
    have hb := A0.at_ .box trivial
    walk_at "wn"
    refine ⟨_, rfl, ad .box, dx .box, _, rfl, hb, rfl, ?_⟩
    walk_at "wn"
    refine ⟨p, sn, s, S, ad, dx, rfl, A0, Ms, hs, ?_⟩
    walk_at "wn"
    refine ⟨_, rfl, ad .box, dx .box, _, rfl, hb, rfl, ?_⟩
    walk_at "wn"
    refine ⟨p, n, t, S, ad, dx, rfl, A0, Mt, ht, ?_⟩
    walk_at "wn"
    have hw := A0.at_ (.ws s) hs
    refine ⟨_, rfl, ad (.ws s), dx (.ws s), _, rfl, hw, rfl, ?_⟩
    walk_at "wn"
    refine ⟨ad (.ws s), dx (.ws s), ad (.ent s), ad (.que s), n, t, S.ents s, fun j => ad (.reg s j), S.reg s, rfl, hw, A0.at_ (.ent s) hs, fun j hj => ⟨dx (.reg s j), A0.at_ (.reg s j) ⟨hs, hj⟩⟩, fun H1 s1 => ?_⟩
    rw [hfind]
    have A1 := A0.same s1
    have hw1 := A1.at_ (.ws s) hs
    have he1 := A1.at_ (.ent s) hs
    have hq1 := A1.at_ (.que s) hs
    walk_at "wn"
    rw [decide_eq_false (by intro z; cases z)]
    walk_at "wn"
    refine ⟨_, rfl, ad (.ws s), dx (.ws s), _, rfl, hw1, rfl, ?_⟩
    walk_at "wn"
    have z1 := sm0.que s hs
    refine ⟨ad (.ws s), dx (.ws s), ad (.ent s), ad (.que s), l, S.que s, S.ents s, fun j => ad (.reg s j), rfl, hw1, hq1, he1, hl, by omega, fun H2 q' j0 j1 j2 j3 j4 => ?_⟩
    have fresh : H q' = none := s1.free j0
    refine (fun z : At C _ _ _ _ ∧ Step H S ad _ _ _ => k H2 (setA ad (.que s) q') dx z.1 z.2) ?_
    refine At.re3 [.ws s, .ent s, .que s] A0 (fun c lc => .inr ?_) (fun c hc lc => ?_) (fun c hc lc => ?_) (fun c hc lc => ?_) (fun c hc c' hc' lc lc' z e => ?_) (fun b o nb e => ?_) (setA_ne (by intro z; cases z))
    · cases c with
      | reg s' l' =>
        obtain ⟨h1, h2⟩ := lc
        have h2 : l' ∈ (if s' = s then without l (S.ents s) else S.ents s') := h2
        by_cases e : s' = s
        · subst e
          rw [if_pos rfl] at h2
          exact ⟨h1, (List.mem_filter.mp h2).1⟩
        · rw [if_neg e] at h2
          exact ⟨h1, h2⟩
      | _ => exact lc
    · simp only [List.mem_cons, List.not_mem_nil, or_false] at hc
      rcases hc with rfl | rfl | rfl
      · rw [setA_ne (by intro z; cases z), j1]
        show _ = some (wsO C.W (dx (.ws s)) (setA ad (.que s) q' (.ent s)) (setA ad (.que s) q' (.que s)))
        rw [setA_ne (by intro z; cases z), setA_same]
      · rw [setA_ne (by intro z; cases z), j3]
        show _ = some (HO.dK (entKV (if s = s then without l (S.ents s) else S.ents s) fun j => setA ad (.que s) q' (.reg s j)))
        rw [if_pos rfl]
        have ef : (fun j => setA ad (.que s) q' (.reg s j)) = fun j => ad (.reg s j) := funext fun j => setA_ne (by intro z; cases z)
        rw [ef]
      · rw [setA_same, j2]
        show _ = some (HO.lst ((if s = s then without l (S.que s) else S.que s).map V.int))
        rw [if_pos rfl]
    · have n1 : c ≠ .ws s := fun z => hc (by rw [z]; simp)
      have n2 : c ≠ .ent s := fun z => hc (by rw [z]; simp)
      have n3 : c ≠ .que s := fun z => hc (by rw [z]; simp)
      refine ⟨setA_ne n3, ?_⟩
      cases c with
      | ws s' =>
        have ns : s' ≠ s := fun z => n1 (by rw [z])
        show wsO C.W (dx (.ws s')) (setA ad (.que s) q' (.ent s')) (setA ad (.que s) q' (.que s')) = _
        rw [setA_ne (by intro z; cases z), setA_ne (fun z => ns (by cases z; rfl))]
        rfl
      | ent s' =>
        have ns : s' ≠ s := fun z => n2 (by rw [z])
        have ef : (fun j => setA ad (.que s) q' (.reg s' j)) = fun j => ad (.reg s' j) := funext fun j => setA_ne (by intro z; cases z)
        show HO.dK (entKV (if s' = s then without l (S.ents s) else S.ents s') fun j => setA ad (.que s) q' (.reg s' j)) = _
        rw [if_neg ns, ef]
        rfl
      | que s' =>
        have ns : s' ≠ s := fun z => n3 (by rw [z])
        show HO.lst ((if s' = s then _ else S.que s').map V.int) = _
        rw [if_neg ns]
        rfl
      | _ => rfl
    · simp only [List.mem_cons, List.not_mem_nil, or_false] at hc
      rcases hc with rfl | rfl | rfl
      · exact .inl ⟨setA_ne (by intro z; cases z), hs⟩
      · exact .inl ⟨setA_ne (by intro z; cases z), hs⟩
      · exact .inr (by rw [setA_same]; exact fresh)
    · have of : ∀ c, c ∈ ([.ws s, .ent s, .que s] : List Cell) → H (setA ad (.que s) q' c) = none → c = .que s := fun c hc z => by
        simp only [List.mem_cons, List.not_mem_nil, or_false] at hc
        rcases hc with rfl | rfl | rfl
        · rw [setA_ne (by intro z; cases z), hw] at z
          cases z
        · rw [setA_ne (by intro z; cases z), A0.at_ (.ent s) hs] at z
          cases z
        · rfl
      rw [of c hc z, of c' hc' (by rw [← e]; exact z)]
    · exact j4 b o (nb (.ws s) (by simp) hs) (nb (.ent s) (by simp) hs) (s1 _ _ e)
end

abbrev sCopy : Stmt := meth 31 6
def copied (S : Sys) (p : Int) (m : Nat) (t : Int) : Sys := { S with tab := fun q => if q = p then (S.tab p).set m (some t) else S.tab q }
section
variable {P : Program} {w : World} {K : PySem.W.Frag} {mg : Str → Option Value} {base : Heap} {C : Cs}
/-! a copy onto the lowest free number -/
inductive PspCopy (C : Cs) (vs : List V) (H : Hp) (Q : VK) : Prop
  | mk (p n t : Int) (m : Nat) (S : Sys) (ad dx : Cell → Addr) (h_0 : vs = .ref (ad .box) :: [.int p, .int n, .non]) (h_1 : At C H S ad dx) (h_2 : Means S p n t) (h_3 : firstFree (S.tab p) m) (h_4 : (S.tab p).length ≤ 1000) (h_5 : ∀ H', At C H' (copied S p m t) ad dx → Step H S ad H' (copied S p m t) ad → Q (.int (m : Int)) H') : PspCopy C vs H Q
def spCopy (C : Cs) : Sp := fun vs H Q _ => PspCopy C vs H Q
theorem scCopy : FnScope ["self", "process", "number", "to", "thing", "goal", "table"] ["self", "process", "number", "to"] (defScope sCopy) := ⟨rfl, rfl, rfl, by decide +kernel, rfl, by decide +kernel, by decide +kernel⟩
theorem okCopy {dvs : List V} {kws : List (Str × V)} {f fT fN fF : Addr} {fd fdT fdN fdF : FuncData} (F : FunD K "copy" "System.copy" (defArgs sCopy) (defBody sCopy) (defScope sCopy) dvs kws f fd) (T : ClsF K C.S sysF)
    (GT : MO P w K mg base 4 C.S "thing_at" ["self", "process", "number"] (spThingAt C) fT fdT) (GN : MO P w K mg base 3 C.S "is_table_number" ["self", "number"] (spIsTabNum C) fN fdN) (GF : MO P w K mg base 4 C.S "free_number" ["self", "process"] (spFreeNum C) fF fdF) :
    FnOk P w K mg base CX0 5 f fd ["self", "process", "number", "to"] (spCopy C) := by
  refine F.ok scCopy (fun vs H Q E h => ?_) (fun cdv A outer s H vs Q E hr h => ?_)
  · obtain ⟨_, _, _, _, _, _, _, rfl, _⟩ := h
    rfl
  · obtain ⟨p, n, t, m, S, ad, dx, rfl, A0, M, hf, hl, k⟩ := h
    have hu := hu_of hr
    have hr3 : Room 3 _ := hr.mono (by decide)
    refine ⟨_, pss_cons (ps_set (i := 4) scCopy.nd rfl (Or.inl rfl) (pe_meth (pv 0) T.cl GT.m GT.g hr GT.b .nil pass0 (pa_cons (pv 1) (pa_cons (pv 2) pa_nil))))
      (pss_cons (ps_if (PW.pt (pw_and (pt_cmpR oNotN (pv 3) pe_non (nomark _)) (pw_and1 (pt_not (pt_val (pe_meth (pv 0) T.cl GN.m GN.g hr3 GN.b .nil pass0 (pa_cons (pv 3) pa_nil))))))) (pss_one ps_never) pss_nil)
      (pss_cons (ps_set (i := 5) scCopy.nd rfl (Or.inl rfl) (pe_ifExp (pt_cmpR oIsN (pv 3) pe_non (nomark _)) (pe_meth (pv 0) T.cl GF.m GF.g hr GF.b .nil pass0 (pa_cons (pv 1) pa_nil)) (pv 3)))
      (pss_cons (ps_set (i := 6) scCopy.nd rfl (Or.inl rfl) (pe_dget hu (pe_fld (pv 0) rfl) (pv 1) (fun _ _ => rfl)))
      (pss_cons (ps_if (pt_cmpR op_ne (pe_ix ix_list (pv 6) (pv 5) (fun _ _ => rfl)) (pv 4) (nomark _))
        (pss_cons (ps_if (pt_cmpR oNotN (pe_ix ix_list (pv 6) (pv 5) (fun _ _ => rfl)) pe_non (nomark _)) (pss_one ps_never) pss_nil)
        (pss_one (ps_asg (pv 4) (pg_sub (pv 6) (pv 5) set_list)))) pss_nil)
      (pss_one (ps_ret (pv 5))))))), ?_⟩
    have hb := A0.at_ .box trivial
    walk_at "wn"
    refine ⟨_, rfl, ad .box, dx .box, _, rfl, hb, rfl, ?_⟩
    walk_at "wn"
    refine ⟨p, n, t, S, ad, dx, rfl, A0, M, ?_⟩
    walk_at "wn"
    refine ⟨_, rfl, ad .box, dx .box, _, rfl, hb, rfl, ?_⟩
    walk_at "wn"
    refine ⟨p, m, S, ad, dx, rfl, A0, M.pr, hf, hl, fun H1 s1 => ?_⟩
    have A1 := A0.same s1
    have hb1 := A1.at_ .box trivial
    have ht := A1.at_ (.tab p) M.pr
    walk_at "wn"
    have hv : valV (entKV S.procs fun p => ad (.tab p)) (Sum.inl p) = some (.ref (ad (.tab p))) := by rw [ent_val, if_pos M.pr]
    refine ⟨_, rfl, ad .box, C.S, dx .box, _, _, rfl, hb1, T.cl, T.no _ (by decide), rfl, ?_⟩
    refine ⟨_, rfl, ad .tabD, _, rfl, hv ▸ DGet.k (k := Sum.inl p) (A1.at_ .tabD trivial), ?_⟩
    have hm : m < (S.tab p).length := (List.getElem?_eq_some_iff.mp hf.1).1
    have hat : atI ((S.tab p).map optV) (m : Int) = some V.non := atI_nat (by rw [List.getElem?_map, hf.1]; rfl)
    walk_at "wn"
    refine ⟨ad (.tab p), _, (m : Int), _, rfl, rfl, SqL.of ht, hat, ?_⟩
    walk_at "wn"
    rw [decide_eq_false (by intro z; cases z)]
    walk_at "wn"
    refine ⟨ad (.tab p), _, (m : Int), _, rfl, rfl, SqL.of ht, hat, ?_⟩
    walk_at "wn"
    refine ⟨ad (.tab p), _, (m : Int), m, rfl, rfl, ht, by rw [List.length_map]; exact ixN_nat hm, ?_⟩
    walk_at "wn"
    refine (fun z : At C _ _ _ _ ∧ Step _ _ _ _ _ _ => k _ z.1 ((Step.same s1).trans z.2)) ?_
    refine At.re2 [.tab p] A1 (fun c l => by cases c <;> exact l) (fun c hc => ?_) (fun c hc => ?_) (fun c hc l => ?_) (fun b o n e => ?_)
    · rw [List.mem_singleton.mp hc]
      exact M.pr
    · rw [List.mem_singleton.mp hc, upd_same]
      show _ = some (HO.lst ((if p = p then (S.tab p).set m (some t) else S.tab p).map optV))
      rw [if_pos rfl, List.map_set]
      rfl
    · cases c with
      | tab q =>
        have nq : q ≠ p := fun z => hc (by rw [z]; simp)
        show HO.lst ((if q = p then (S.tab p).set m (some t) else S.tab q).map optV) = _
        rw [if_neg nq]
        rfl
      | _ => rfl
    · rw [upd_ne (n (.tab p) (by simp))]
      exact e
end

abbrev sArrived : Stmt := top 36
abbrev sWaited : Stmt := top 37
abbrev sAnew : Stmt := top 38
abbrev sHome : Stmt := top 39
abbrev sLaw : Stmt := top 40
/-! data of ints and of reports -/
theorem dp_ints {K : PySem.W.Frag} {H : Hp} : ∀ l : List Int, DpAll K H (l.map V.int) (l.map PyData.int)
  | [] => .nil
  | _ :: l => .cons (.int _) (dp_ints l)
theorem ints_lay : ∀ l : List Int, PyData.canLayAll0 (l.map PyData.int) = true ∧ PyData.depthAll (l.map PyData.int) = 0
  | [] => ⟨rfl, rfl⟩
  | c :: l => by
    obtain ⟨a, b⟩ := ints_lay l
    refine ⟨?_, ?_⟩
    · simp only [List.map_cons, PyData.canLayAll0, a, Bool.and_true, PyData.canLay0]
    · simp only [List.map_cons, PyData.depthAll, b, PyData.depth]
      rfl
theorem ints_shaped (l : List Int) : SeqAt.shaped (.list (l.map PyData.int)) = true := by
  obtain ⟨a, b⟩ := ints_lay l
  unfold SeqAt.shaped
  rw [Bool.and_eq_true]
  refine ⟨by simp only [PyData.canLay0]; exact a, decide_eq_true ?_⟩
  simp only [PyData.depth, b]
  decide
theorem ints_nil (l : List Int) : PyData.eqv (.list (l.map PyData.int)) (.list []) = l.isEmpty := by
  cases l with
  | nil => rfl
  | cons a b => rfl
def repD (r : Int × Int × Bool) : PyData := .tuple [.int r.1, .int r.2.1, .bool r.2.2]
theorem reps_lay : ∀ l : List (Int × Int × Bool), PyData.canLayAll0 (l.map repD) = true ∧ PyData.depthAll (l.map repD) ≤ 1
  | [] => ⟨rfl, Nat.zero_le _⟩
  | c :: l => by
    obtain ⟨a, b⟩ := reps_lay l
    refine ⟨?_, ?_⟩
    · simp only [List.map_cons, PyData.canLayAll0, a, Bool.and_true, repD, PyData.canLay0]
    · simp only [List.map_cons, PyData.depthAll, repD, PyData.depth]
      omega
theorem reps_shaped (l : List (Int × Int × Bool)) : SeqAt.shaped (.list (l.map repD)) = true := by
  obtain ⟨a, b⟩ := reps_lay l
  unfold SeqAt.shaped
  rw [Bool.and_eq_true]
  refine ⟨by simp only [PyData.canLay0]; exact a, decide_eq_true ?_⟩
  simp only [PyData.depth]
  omega
theorem dp_reps {K : PySem.W.Frag} {H : Hp} {vs : List V} {l : List (Int × Int × Bool)} (p : Paired (RepAt H) vs l) : DpAll K H vs (l.map repD) := by
  induction p with
  | nil => exact .nil
  | cons r _ ih =>
    obtain ⟨t, rfl, e⟩ := r
    exact .cons (.tup (SqT.of e) (.cons (.int _) (.cons (.int _) (.cons (.bl _) .nil)))) ih
section
variable {K : PySem.W.Frag} {H : Hp} {a b : Addr} {Q : VK}
theorem q_neNil {l : List Int} (h1 : H a = some (.lst (l.map V.int))) (h2 : H b = some (.lst [])) (k : Q (.bl (!l.isEmpty)) H) : rNeD K (.ref a) (.ref b) H Q := by
  refine ⟨_, _, .lst (SqL.of h1) (dp_ints l), .lst (SqL.of h2) .nil, ints_shaped l, rfl, ?_⟩
  rw [ints_nil]
  exact k
end
section
variable {K : PySem.W.Frag} {H : Hp} {a b : Addr} {Q : VK}
theorem q_neReps {vs ws : List V} {l : List (Int × Int × Bool)} (h1 : H a = some (.lst vs)) (p1 : Paired (RepAt H) vs l) (h2 : H b = some (.lst ws)) (p2 : Paired (RepAt H) ws l) (k : Q (.bl false) H) : rNeD K (.ref a) (.ref b) H Q := by
  refine ⟨_, _, .lst (SqL.of h1) (dp_reps p1), .lst (SqL.of h2) (dp_reps p2), reps_shaped l, reps_shaped l, ?_⟩
  rw [PySem.SeqAt.eqv_refl _ (SeqAt.canLay_of_shaped (reps_shaped l))]
  exact k
end
structure LawTx (mg : Str → Option Value) : Prop where
  range : mg "range" = none
  max : mg "max" = none
  min : mg "min" = none
  len : mg "len" = none
  list : mg "list" = none
  sorted : mg "sorted" = none
def usF (us : List Int) : Int → Int := fun l => us.getD l.toNat 0
theorem nodup_le : ∀ (n : Nat) {l : List Int}, l.Nodup → (∀ x ∈ l, 0 ≤ x ∧ x.toNat < n) → l.length ≤ n
  | 0, l, _, h => by
    cases l with
    | nil => exact Nat.le_refl _
    | cons x l => exact absurd (h x List.mem_cons_self).2 (Nat.not_lt_zero _)
  | n + 1, l, nd, h => by
    by_cases hn : (n : Int) ∈ l
    · have e1 := List.length_erase_of_mem hn
      have ih := nodup_le n (nd.erase (n : Int)) fun x hx => by
        have hm := (List.Nodup.mem_erase_iff nd).mp hx
        have h1 := h x hm.2
        refine ⟨h1.1, ?_⟩
        have : x ≠ (n : Int) := hm.1
        omega
      omega
    · have ih := nodup_le n nd fun x hx => by
        have h1 := h x hx
        refine ⟨h1.1, ?_⟩
        have : x ≠ (n : Int) := fun z => hn (z ▸ hx)
        omega
      omega
section
variable {C : Cs} {Hb H H1 H' : Hp} {S S1 : Sys} {ad ad1 dx dx1 : Cell → Addr} {p box ul rr r b : Addr}
theorem Step.not (st : Step H S ad H1 S1 ad1) {o : HO} (h : H b = some o) (n : ¬ own S ad b) : ¬ own S1 ad1 b := fun z => (st.new b z).elim n fun y => by
  rw [h] at y
  cases y
end
theorem Dr.same {p : Addr} {H H' : Hp} (b : BagAt H p) (e : Same H H') : Dr p H H' := ⟨fun a o _ h => e a o h, by
  obtain ⟨x, y, h, r⟩ := b
  exact ⟨x, y, e _ _ h, r⟩⟩
theorem reps_keep' {H H' : Hp} {vs : List V} {rs : List (Int × Int × Bool)} (p : Paired (RepAt H) vs rs) (k : ∀ b x y z, H b = some (.tup [x, y, z]) → H' b = some (.tup [x, y, z])) : Paired (RepAt H') vs rs := by
  induction p with
  | nil => exact .nil
  | cons r _ ih =>
    obtain ⟨t, e1, e2⟩ := r
    exact .cons ⟨t, e1, k _ _ _ _ e2⟩ ih
theorem BagAt.ne' {H : Hp} {p l : Addr} (b : BagAt H p) (h : H l = none) : l ≠ p := fun z => by
  obtain ⟨x, y, e, _⟩ := b
  rw [← z, h] at e
  cases e
theorem BagAt.some {H : Hp} {p : Addr} (b : BagAt H p) : ∃ o, H p = some o := by
  obtain ⟨x, y, e, _⟩ := b
  exact ⟨_, e⟩
/-- a method whose last arguments have defaults -/
structure MD (P : Program) (w : World) (K : PySem.W.Frag) (mg : Str → Option Value) (base : Heap) (k : Nat) (C : Addr) (m : Str) (ps : List Str) (sp : Sp) (f : Addr) (fd : FuncData) (ds : List Value) (dvs : List V) : Prop where
  g : FnOk P w K mg base CX0 k f fd ps sp
  m : Meth K C m f
  b : Binds K fd ps ds
  d : Vals dvs ds
theorem Dr.draw {p : Addr} {H H' : Hp} (e : ∀ b, b ≠ p → H' b = H b) (b : BagAt H' p) : Dr p H H' := ⟨fun a o n h => (e a n).trans h, b⟩
theorem Same.dr {p : Addr} {H H1 H2 : Hp} (n : H p = none) (s : Same H H1) (d : Dr p H1 H2) : Same H H2 := fun a o e => d.1 a o (fun z => by rw [z, n] at e; cases e) (s a o e)
theorem erase_mid {α : Type} (l : α) (B : List α) : ∀ A : List α, (A ++ l :: B).eraseIdx A.length = A ++ B
  | [] => rfl
  | a :: A => by
    show a :: (A ++ l :: B).eraseIdx A.length = _
    rw [erase_mid l B A]
    rfl
theorem split_at : ∀ {n : Nat} {xs : List Int}, n < xs.length → ∃ A l B, xs = A ++ l :: B ∧ A.length = n
  | 0, x :: xs, _ => ⟨[], x, xs, rfl, rfl⟩
  | n + 1, x :: xs, h => by
    obtain ⟨A, l, B, e, hA⟩ := split_at (n := n) (xs := xs) (Nat.lt_of_succ_lt_succ h)
    exact ⟨x :: A, l, B, by rw [e]; rfl, by rw [← hA]; rfl⟩
/-- a method called with keywords -/
structure MW (P : Program) (w : World) (K : PySem.W.Frag) (mg : Str → Option Value) (base : Heap) (k : Nat) (C : Addr) (m : Str) (ps : List Str) (sp : Sp) (f : Addr) (fd : FuncData) (n : Nat) (ks : List Str) (gg : List Value → List Value → List Value) (gV : List V → List V → List V) : Prop where
  g : FnOk P w K mg base CX0 k f fd ps sp
  m : Meth K C m f
  b : KBn K fd ps n ks gg gV
theorem mem_qAdd {k x : Int} {l : List Int} : x ∈ qAdd k l ↔ x ∈ l ∨ x = k := by
  unfold qAdd
  by_cases h : k ∈ l
  · rw [if_pos h]
    exact ⟨.inl, fun z => z.elim id fun e => by rw [e]; exact h⟩
  · rw [if_neg h, List.mem_append, List.mem_singleton]
theorem nodup_qAdd {k : Int} {l : List Int} (h : l.Nodup) : (qAdd k l).Nodup := by
  unfold qAdd
  by_cases z : k ∈ l
  · rw [if_pos z]
    exact h
  · rw [if_neg z, List.nodup_append]
    exact ⟨h, by simp, fun a ha b hb => by rw [List.mem_singleton.mp hb]; exact fun e => z (e ▸ ha)⟩
/-! the system, the bag and other cells while the law goes on -/
structure WQ (C : Cs) (Hb H : Hp) (p box : Addr) (ks : List (Addr × HO)) (Φ : Sys → Prop) : Prop where
  ex : ∃ S ad dx, ad .box = box ∧ At C H S ad dx ∧ Φ S ∧ (∀ b, own S ad b → Hb b = none) ∧ ¬ own S ad p ∧ ∀ q ∈ ks, ¬ own S ad q.1
  same : Same Hb H
  bag : BagAt H p
  bp : Hb p = none
  kat : ∀ q ∈ ks, H q.1 = some q.2
  kne : ∀ q ∈ ks, q.1 ≠ p ∧ Hb q.1 = none
section
variable {C : Cs} {Hb H H1 : Hp} {p box l : Addr} {ks ks1 : List (Addr × HO)} {o o1 : HO} {Φ Φ1 : Sys → Prop}
theorem WQ.call (W : WQ C Hb H p box ks Φ) {S S1 : Sys} {ad ad1 dx1 : Cell → Addr} (hbox : ad .box = box) (own0 : ∀ b, own S ad b → Hb b = none) (np : ¬ own S ad p) (nk : ∀ q ∈ ks, ¬ own S ad q.1)
    (A1 : At C H1 S1 ad1 dx1) (st : Step H S ad H1 S1 ad1) (F1 : Φ1 S1) : WQ C Hb H1 p box ks Φ1 := by
  obtain ⟨op, hp⟩ := W.bag.some
  refine ⟨⟨S1, ad1, dx1, st.box.trans hbox, A1, F1, fun b ob => ?_, st.not hp np, fun q hq => st.not (W.kat q hq) (nk q hq)⟩, fun b o e => ?_, ?_, W.bp, fun q hq => st.keep _ _ (nk q hq) (W.kat q hq), W.kne⟩
  · rcases st.new b ob with z | z
    · exact own0 b z
    · exact W.same.free z
  · exact st.keep _ _ (fun z => by rw [own0 b z] at e; cases e) (W.same _ _ e)
  · obtain ⟨x, y, e, r⟩ := W.bag
    exact ⟨x, y, st.keep _ _ np e, r⟩
theorem WQ.put (W : WQ C Hb H p box ((l, o) :: ks) Φ) (k : ∀ b, b ≠ l → H1 b = H b) (h : H1 l = some o1) (n : ∀ q ∈ ks, q.1 ≠ l) : WQ C Hb H1 p box ((l, o1) :: ks) Φ := by
  obtain ⟨S, ad, dx, e1, A, F, o1', o2, o4⟩ := W.ex
  have hl := W.kne _ (List.mem_cons_self (a := (l, o)) (l := ks))
  have nl := o4 _ (List.mem_cons_self (a := (l, o)) (l := ks))
  refine ⟨⟨S, ad, dx, e1, ⟨fun c hc => (k _ fun z => nl ⟨c, hc, z⟩).trans (A.at_ c hc), A.inj⟩, F, o1', o2, fun q hq => ?_⟩, fun b o e => (k b fun z => by rw [z, hl.2] at e; cases e).trans (W.same _ _ e), ?_, W.bp, fun q hq => ?_, fun q hq => ?_⟩
  · rcases List.mem_cons.mp hq with rfl | hq
    · exact nl
    · exact o4 q (List.mem_cons_of_mem _ hq)
  · obtain ⟨x, y, e, r⟩ := W.bag
    exact ⟨x, y, (k _ (Ne.symm hl.1)).trans e, r⟩
  · rcases List.mem_cons.mp hq with rfl | hq
    · exact h
    · exact (k _ (n q hq)).trans (W.kat q (List.mem_cons_of_mem _ hq))
  · rcases List.mem_cons.mp hq with rfl | hq
    · exact hl
    · exact W.kne q (List.mem_cons_of_mem _ hq)
theorem WQ.keep (W : WQ C Hb H p box ks Φ) (k : ∀ b o, b ≠ p → H b = some o → H1 b = some o) (bg : BagAt H1 p) : WQ C Hb H1 p box ks Φ := by
  obtain ⟨S, ad, dx, e1, A, F, o1, o2, o4⟩ := W.ex
  exact ⟨⟨S, ad, dx, e1, ⟨fun c hc => k _ _ (fun z => o2 ⟨c, hc, z⟩) (A.at_ c hc), A.inj⟩, F, o1, o2, o4⟩, fun b o e => k b o (fun z => by rw [z, W.bp] at e; cases e) (W.same _ _ e), bg, W.bp, fun q hq => k _ _ (W.kne q hq).1 (W.kat q hq), W.kne⟩
theorem WQ.draw (W : WQ C Hb H p box ks Φ) (e : ∀ b, b ≠ p → H1 b = H b) (bg : BagAt H1 p) : WQ C Hb H1 p box ks Φ := W.keep (fun b o n h => by rw [e b n]; exact h) bg
theorem WQ.same' (W : WQ C Hb H p box ks Φ) (s : Same H H1) : WQ C Hb H1 p box ks Φ := W.keep (fun b o _ h => s _ _ h) (Dr.same W.bag s).2
theorem WQ.dr (W : WQ C Hb H p box ks Φ) (d : Dr p H H1) : WQ C Hb H1 p box ks Φ := W.keep d.1 d.2
theorem WQ.hold (W : WQ C Hb H p box ks Φ) (h : H l = none) (d : Dr p H H1) (e : H1 l = some o) : WQ C Hb H1 p box ((l, o) :: ks) Φ := by
  have W1 := W.dr d
  obtain ⟨S, ad, dx, e1, A, F, o1, o2, o4⟩ := W.ex
  have A1 : At C H1 S ad dx := ⟨fun c hc => d.1 _ _ (fun z => o2 ⟨c, hc, z⟩) (A.at_ c hc), A.inj⟩
  refine ⟨⟨S, ad, dx, e1, A1, F, o1, o2, fun q hq => ?_⟩, W1.same, W1.bag, W.bp, fun q hq => ?_, fun q hq => ?_⟩
  · rcases List.mem_cons.mp hq with rfl | hq
    · exact A.not_own h
    · exact o4 q hq
  · rcases List.mem_cons.mp hq with rfl | hq
    · exact e
    · exact W1.kat q hq
  · rcases List.mem_cons.mp hq with rfl | hq
    · exact ⟨BagAt.ne' W.bag h, W.same.free h⟩
    · exact W.kne q hq
theorem WQ.new (W : WQ C Hb H p box ks Φ) (h : H l = none) : WQ C Hb (upd H l o) p box ((l, o) :: ks) Φ := W.hold h (Dr.same W.bag (Same.new' h)) upd_same
theorem WQ.sub (W : WQ C Hb H p box ks Φ) (h : ∀ q ∈ ks1, q ∈ ks) : WQ C Hb H p box ks1 Φ := by
  obtain ⟨S, ad, dx, e1, A, F, o1, o2, o4⟩ := W.ex
  exact ⟨⟨S, ad, dx, e1, A, F, o1, o2, fun q hq => o4 q (h q hq)⟩, W.same, W.bag, W.bp, fun q hq => W.kat q (h q hq), fun q hq => W.kne q (h q hq)⟩
theorem WQ.to (W : WQ C Hb H p box ks Φ) (f : ∀ S, Φ S → Φ1 S) : WQ C Hb H p box ks Φ1 := by
  obtain ⟨S, ad, dx, e1, A, F, o⟩ := W.ex
  exact ⟨⟨S, ad, dx, e1, A, f S F, o⟩, W.same, W.bag, W.bp, W.kat, W.kne⟩
theorem WQ.pure {φ : Prop} (W : WQ C Hb H p box ks Φ) (f : ∀ S, Φ S → φ) : φ := by
  obtain ⟨S, ad, dx, e1, A, F, o⟩ := W.ex
  exact f S F
theorem WQ.boxAt (W : WQ C Hb H p box ks Φ) : ∃ (dx : Addr) (S : Sys) (td sd ud : Addr), H box = some (sysO C.S dx S td sd ud) := by
  obtain ⟨S, ad, dx, e1, A, F, o⟩ := W.ex
  exact ⟨_, S, _, _, _, by rw [← e1]; exact A.at_ .box trivial⟩
end
section
variable {C : Cs} {Hb H1 H2 : Hp} {p x dx0 : Addr} {ad dx : Cell → Addr}
theorem WQ.start (s1 : Same Hb H1) (b1 : BagAt H1 p) (n0 : Hb p = none) (nx : H1 x = none) (nd : H1 dx0 = none) (A : At C H2 (newSys 4 8) ad dx) (hb : ad .box = x)
    (k : ∀ b o, b ≠ x → upd (upd H1 dx0 (.own x)) x (.ins C.S dx0 []) b = some o → H2 b = some o) (on : ∀ b, own (newSys 4 8) ad b → b = x ∨ upd (upd H1 dx0 (.own x)) x (.ins C.S dx0 []) b = none) :
    WQ C Hb H2 p x [] (fun S => S = newSys 4 8) ∧ Same H1 H2 := by
  have s12 : Same H1 H2 := fun b o e => k b o (ne_of_none e nx) (by rw [upd_ne (ne_of_none e nx), upd_ne (ne_of_none e nd)]; exact e)
  obtain ⟨op, hp⟩ := b1.some
  refine ⟨⟨⟨newSys 4 8, ad, dx, hb, A, rfl, fun b ob => ?_, fun z => ?_, (fun q hq => nomatch hq)⟩, s1.trans s12, (Dr.same b1 s12).2, n0, (fun q hq => nomatch hq), (fun q hq => nomatch hq)⟩, s12⟩
  · rcases on b ob with rfl | e
    · exact s1.free nx
    · have n1 : b ≠ x := fun z => by rw [z, upd_same] at e; cases e
      rw [upd_ne n1] at e
      have n2 : b ≠ dx0 := fun z => by rw [z, upd_same] at e; cases e
      rw [upd_ne n2] at e
      exact s1.free e
  · rcases on p z with e | e
    · rw [e, nx] at hp
      cases hp
    · rw [upd_ne (ne_of_none hp nx), upd_ne (ne_of_none hp nd), hp] at e
      cases e
end
theorem means_eq {S S' : Sys} {p n t : Int} (h : Means S p n t) (e1 : S'.procs = S.procs) (e2 : S'.N = S.N) (e3 : S'.tab = S.tab) : Means S' p n t := ⟨by rw [e1]; exact h.pr, h.lo, by rw [e2]; exact h.hi, by rw [e3]; exact h.at_⟩
theorem nodup_add {l : List Int} {k : Int} (h : l.Nodup) (n : k ∉ l) : (l ++ [k]).Nodup := by
  rw [List.nodup_append]
  exact ⟨h, by simp, fun a ha b hb => by rw [List.mem_singleton.mp hb]; exact fun e => n (e ▸ ha)⟩
theorem mem_add {l : List Int} {k x : Int} : x ∈ l ++ [k] ↔ x ∈ l ∨ x = k := by rw [List.mem_append, List.mem_singleton]
abbrev intsTo (n : Nat) : List Int := (List.range n).map fun j : Nat => (j : Int)
theorem filter_take {f : Int → Bool} {q : List Int} {i : Nat} {x : Int} (el : q[i]? = some x) : (q.take (i + 1)).filter f = (q.take i).filter f ++ if f x = true then [x] else [] := by
  rw [List.take_add_one, el, List.filter_append]
  show _ ++ List.filter f [x] = _
  rw [List.filter_cons]
  rfl
/-! the law's picture: sets 0 and 1; the source 2 at 2 to many + 1, the source 3 at many + 2 -/
structure LR where
  lab : Int
  kind : Int
  term : Str
  armed : Bool
abbrev labs (rs : List LR) : List Int := rs.map LR.lab
def sd (s : Int) : Prop := s = 0 ∨ s = 1
def upF {α : Type} (f : Int → α) (s : Int) (v : α) : Int → α := fun j => if j = s then v else f j
theorem upF_same {α : Type} {f : Int → α} {s : Int} {v : α} : upF f s v s = v := if_pos rfl
theorem upF_ne {α : Type} {f : Int → α} {s j : Int} {v : α} (h : j ≠ s) : upF f s v j = f j := if_neg h
structure Good (many : Nat) (rs : List LR) (row : List Int) : Prop where
  ok : ∀ r ∈ rs, 2 ≤ r.lab ∧ r.lab ≤ many + 2 ∧ r.kind = (if r.lab = many + 2 then 1 else 0) ∧ r.term ∈ wordsL
  nd : (labs rs).Nodup
  rn : row.Nodup
  ri : ∀ l ∈ row, l ∈ labs rs
structure Pic (S : Sys) (many : Nat) (rg : Int → List LR) (rw : Int → List Int) (u : Int → Int) : Prop where
  few : 2 ≤ many ∧ many ≤ 5
  sets : S.sets = [0, 1]
  srcs : S.srcs = [2, 3]
  m0 : Means S 0 0 0
  m1 : Means S 0 1 1
  mn : ∀ n : Int, 2 ≤ n → n ≤ many + 1 → Means S 0 n 2
  mo : Means S 0 (many + 2) 3
  unit : ∀ k, sd k → S.unit (2 + k) = (u k, false)
  upos : ∀ k, sd k → 0 ≤ u k
  ents : ∀ s, sd s → S.ents s = labs (rg s)
  que : ∀ s, sd s → S.que s = rw s
  reg : ∀ s, sd s → ∀ r ∈ rg s, S.reg s r.lab = ⟨r.lab, 2 + r.kind, r.term, r.armed⟩
  good : ∀ s, sd s → Good many (rg s) (rw s)
theorem sd0 : sd 0 := .inl rfl
theorem sd1 : sd 1 := .inr rfl
section
variable {S : Sys} {many : Nat} {rg : Int → List LR} {rw : Int → List Int} {u : Int → Int} {s : Int} {rs : List LR} {row : List Int}
theorem Good.kd (G : Good many rs row) {r : LR} (h : r ∈ rs) : sd r.kind := by
  rw [(G.ok r h).2.2.1]
  split
  · exact sd1
  · exact sd0
theorem Good.len (G : Good many rs row) (h5 : many ≤ 5) : rs.length ≤ 8 := by
  have := nodup_le 8 G.nd fun x hx => by
    obtain ⟨r, hr, rfl⟩ := List.mem_map.mp hx
    have := G.ok r hr
    exact ⟨by omega, by omega⟩
  rw [List.length_map] at this
  exact this
theorem Good.rlen (G : Good many rs row) (h5 : many ≤ 5) : row.length ≤ 8 := nodup_le 8 G.rn fun x hx => by
  obtain ⟨r, hr, rfl⟩ := List.mem_map.mp (G.ri x hx)
  have := G.ok r hr
  exact ⟨by omega, by omega⟩
theorem Pic.means (F : Pic S many rg rw u) (hs : sd s) {r : LR} (h : r ∈ rg s) : Means S 0 r.lab (2 + r.kind) := by
  obtain ⟨a, b, c, _⟩ := (F.good s hs).ok r h
  rw [c]
  by_cases e : r.lab = many + 2
  · rw [if_pos e, e]
    exact F.mo
  · rw [if_neg e]
    exact F.mn r.lab a (by omega)
theorem Pic.meansS (F : Pic S many rg rw u) (hs : sd s) : Means S 0 s s := by
  rcases hs with rfl | rfl
  · exact F.m0
  · exact F.m1
theorem Pic.inS (F : Pic S many rg rw u) (hs : sd s) : s ∈ S.sets := by
  rw [F.sets]
  rcases hs with rfl | rfl <;> decide
theorem Pic.inK (F : Pic S many rg rw u) {k : Int} (hk : sd k) : 2 + k ∈ S.srcs := by
  rw [F.srcs]
  rcases hk with rfl | rfl <;> decide
theorem Pic.small (F : Pic S many rg rw u) : Small S := by
  refine ⟨fun s hs => ?_, fun s hs => ?_, by rw [F.srcs]; decide, by rw [F.sets]; decide, by rw [F.sets]; decide⟩
  · have hs : sd s := by
      rw [F.sets] at hs
      simpa [sd] using hs
    rw [F.que s hs]
    have := (F.good s hs).rlen F.few.2
    omega
  · have hs : sd s := by
      rw [F.sets] at hs
      simpa [sd] using hs
    rw [F.ents s hs, List.length_map]
    have := (F.good s hs).len F.few.2
    omega
theorem lab_inj (h : (labs rs).Nodup) {r r' : LR} (h1 : r ∈ rs) (h2 : r' ∈ rs) (e : r.lab = r'.lab) : r = r' := by
  induction rs with
  | nil => cases h1
  | cons x rs ih =>
    obtain ⟨n1, n2⟩ := List.nodup_cons.mp h
    rcases List.mem_cons.mp h1 with z1 | z1
    · rcases List.mem_cons.mp h2 with z2 | z2
      · rw [z1, z2]
      · exact absurd (show x.lab ∈ rs.map LR.lab from List.mem_map.mpr ⟨r', z2, by rw [← e, z1]⟩) n1
    · rcases List.mem_cons.mp h2 with z2 | z2
      · exact absurd (show x.lab ∈ rs.map LR.lab from List.mem_map.mpr ⟨r, z1, by rw [e, z2]⟩) n1
      · exact ih n2 z1 z2
theorem Pic.find (F : Pic S many rg rw u) (hs : sd s) {r : LR} (h : r ∈ rg s) : (S.ents s).find? (keyOf (S.reg s) r.lab (2 + r.kind)) = some r.lab := by
  rw [F.ents s hs]
  have key : ∀ l ∈ labs (rg s), keyOf (S.reg s) r.lab (2 + r.kind) l = decide (l = r.lab) := fun l hl => by
    obtain ⟨r', hr', rfl⟩ := List.mem_map.mp hl
    unfold keyOf
    rw [F.reg s hs r' hr']
    by_cases e : r'.lab = r.lab
    · rw [lab_inj (F.good s hs).nd hr' h e]
      simp
    · simp [e]
  cases hf : (labs (rg s)).find? (keyOf (S.reg s) r.lab (2 + r.kind)) with
  | none =>
    have := List.find?_eq_none.mp hf r.lab (List.mem_map.mpr ⟨r, h, rfl⟩)
    rw [key _ (List.mem_map.mpr ⟨r, h, rfl⟩)] at this
    exact absurd (decide_eq_true rfl) this
  | some l =>
    have hl := List.mem_of_find?_eq_some hf
    have := List.find?_some hf
    rw [key l hl] at this
    rw [of_decide_eq_true this]
theorem Pic.nofind (F : Pic S many rg rw u) (hs : sd s) {l t : Int} (h : l ∉ labs (rg s)) : (S.ents s).find? (keyOf (S.reg s) l t) = none := by
  rw [F.ents s hs, List.find?_eq_none]
  intro x hx z
  obtain ⟨r', hr', rfl⟩ := List.mem_map.mp hx
  unfold keyOf at z
  rw [F.reg s hs r' hr'] at z
  have : r'.lab = l := by
    by_cases e : r'.lab = l
    · exact e
    · simp [e] at z
  exact h (this ▸ hx)
theorem Pic.ready (F : Pic S many rg rw u) {k : Int} (hk : sd k) : Wn.ready S (2 + k) = decide (0 < u k) := by
  unfold Wn.ready
  rw [F.unit k hk]
  exact Bool.or_false _
/-! arrivals -/
def arrRow (k : Int) (rs : List LR) (row : List Int) : List Int := rs.foldl (fun acc r => if r.kind = k ∧ r.armed = true then qAdd r.lab acc else acc) row
theorem notice_row {reg : Int → Reg} {k : Int} : ∀ {rs : List LR} {row : List Int}, (∀ r ∈ rs, reg r.lab = ⟨r.lab, 2 + r.kind, r.term, r.armed⟩) → noticeQ reg (2 + k) (labs rs) row = arrRow k rs row
  | [], row, _ => rfl
  | r :: rs, row, h => by
    show noticeQ reg (2 + k) (labs rs) (if (reg r.lab).src = 2 + k ∧ (reg r.lab).armed = true then qAdd r.lab row else row) = arrRow k rs (if r.kind = k ∧ r.armed = true then qAdd r.lab row else row)
    rw [notice_row fun x hx => h x (List.mem_cons_of_mem _ hx), h r List.mem_cons_self]
    congr 1
    show (if 2 + r.kind = 2 + k ∧ r.armed = true then _ else _) = _
    by_cases e : r.kind = k
    · rw [e]
      simp
    · rw [if_neg fun z => e (by have := z.1; omega), if_neg fun z => e z.1]
theorem arr_good {k : Int} (G : Good many rs row) : Good many rs (arrRow k rs row) := by
  have : ∀ {l : List LR} {q : List Int}, (∀ r ∈ l, r ∈ rs) → Good many rs q → Good many rs (arrRow k l q) := by
    intro l
    induction l with
    | nil => intro q _ h; exact h
    | cons r l ih =>
      intro q hl h
      show Good many rs (arrRow k l (if r.kind = k ∧ r.armed = true then qAdd r.lab q else q))
      refine ih (fun x hx => hl x (List.mem_cons_of_mem _ hx)) ?_
      split
      · refine ⟨h.ok, h.nd, nodup_qAdd h.rn, fun x hx => ?_⟩
        rcases mem_qAdd.mp hx with y | y
        · exact h.ri x y
        · rw [y]
          exact List.mem_map.mpr ⟨r, hl r List.mem_cons_self, rfl⟩
      · exact h
  exact this (fun r h => h) G
theorem Pic.arrive (F : Pic S many rg rw u) {k : Int} (hk : sd k) : Pic (arrived S (2 + k) 1) many rg (fun s => arrRow k (rg s) (rw s)) (upF u k (u k + 1)) := by
  refine ⟨F.few, F.sets, F.srcs, means_eq F.m0 rfl rfl rfl, means_eq F.m1 rfl rfl rfl, fun n a b => means_eq (F.mn n a b) rfl rfl rfl, means_eq F.mo rfl rfl rfl, fun j hj => ?_, fun j hj => ?_, F.ents, fun s hs => ?_, F.reg, fun s hs => arr_good (F.good s hs)⟩
  · show (if 2 + j = 2 + k then ((S.unit (2 + k)).1 + 1, false) else S.unit (2 + j)) = _
    by_cases e : j = k
    · rw [e, if_pos rfl, upF_same, F.unit k hk]
    · rw [if_neg (by omega), upF_ne e]
      exact F.unit j hj
  · by_cases e : j = k
    · rw [e, upF_same]
      have := F.upos k hk
      omega
    · rw [upF_ne e]
      exact F.upos j hj
  · show (if s ∈ S.sets then noticeQ (S.reg s) (2 + k) (S.ents s) (S.que s) else S.que s) = _
    rw [if_pos (F.inS hs), F.ents s hs, F.que s hs]
    exact notice_row (F.reg s hs)
/-! a new registration -/
theorem Good.snoc (G : Good many rs row) {r : LR} (h : 2 ≤ r.lab ∧ r.lab ≤ many + 2 ∧ r.kind = (if r.lab = many + 2 then 1 else 0) ∧ r.term ∈ wordsL) (n : r.lab ∉ labs rs) {b : Bool} : Good many (rs ++ [r]) (if b = true then row ++ [r.lab] else row) := by
  have e : labs (rs ++ [r]) = labs rs ++ [r.lab] := List.map_append
  have nr : r.lab ∉ row := fun z => n (G.ri _ z)
  refine ⟨fun x hx => ?_, by rw [e]; exact nodup_add G.nd n, ?_, fun l hl => ?_⟩
  · rcases List.mem_append.mp hx with y | y
    · exact G.ok x y
    · rw [List.mem_singleton.mp y]
      exact h
  · split
    · exact nodup_add G.rn nr
    · exact G.rn
  · rw [e]
    split at hl
    · rcases mem_add.mp hl with y | y
      · exact mem_add.mpr (.inl (G.ri l y))
      · exact mem_add.mpr (.inr y)
    · exact mem_add.mpr (.inl (G.ri l hl))
theorem Pic.add (F : Pic S many rg rw u) (hs : sd s) {r : LR} (ha : r.armed = true) (h : 2 ≤ r.lab ∧ r.lab ≤ many + 2 ∧ r.kind = (if r.lab = many + 2 then 1 else 0) ∧ r.term ∈ wordsL) (n : r.lab ∉ labs (rg s)) :
    Pic (added S s r.lab ⟨r.lab, 2 + r.kind, r.term, true⟩) many (upF rg s (rg s ++ [r])) (upF rw s (if decide (0 < u r.kind) = true then rw s ++ [r.lab] else rw s)) u := by
  have hk : sd r.kind := by
    rw [h.2.2.1]
    split
    · exact sd1
    · exact sd0
  have nr : r.lab ∉ rw s := fun z => n ((F.good s hs).ri _ z)
  refine ⟨F.few, F.sets, F.srcs, means_eq F.m0 rfl rfl rfl, means_eq F.m1 rfl rfl rfl, fun n a b => means_eq (F.mn n a b) rfl rfl rfl, means_eq F.mo rfl rfl rfl, F.unit, F.upos, fun j hj => ?_, fun j hj => ?_, fun j hj x hx => ?_, fun j hj => ?_⟩
  · show (if j = s then S.ents s ++ [r.lab] else S.ents j) = _
    by_cases e : j = s
    · rw [e, if_pos rfl, upF_same, F.ents s hs]
      show (rg s).map LR.lab ++ [r.lab] = (rg s ++ [r]).map LR.lab
      rw [List.map_append]
      rfl
    · rw [if_neg e, upF_ne e]
      exact F.ents j hj
  · show (if j = s then (if Wn.ready S (2 + r.kind) = true then qAdd r.lab (S.que s) else S.que s) else S.que j) = _
    by_cases e : j = s
    · rw [e, if_pos rfl, upF_same, F.ready hk, F.que s hs]
      have : qAdd r.lab (rw s) = rw s ++ [r.lab] := if_neg nr
      rw [this]
    · rw [if_neg e, upF_ne e]
      exact F.que j hj
  · show (if j = s ∧ x.lab = r.lab then (⟨r.lab, 2 + r.kind, r.term, true⟩ : Reg) else S.reg j x.lab) = _
    by_cases e : j = s
    · subst e
      rw [upF_same] at hx
      rcases List.mem_append.mp hx with y | y
      · rw [if_neg fun z : j = j ∧ x.lab = r.lab => n (z.2 ▸ List.mem_map.mpr ⟨x, y, rfl⟩)]
        exact F.reg j hj x y
      · rw [List.mem_singleton.mp y, if_pos ⟨rfl, rfl⟩, ha]
    · rw [if_neg fun z => e z.1]
      rw [upF_ne e] at hx
      exact F.reg j hj x hx
  · by_cases e : j = s
    · rw [e, upF_same, upF_same]
      exact (F.good s hs).snoc h n
    · rw [upF_ne e, upF_ne e]
      exact F.good j hj
/-! a change -/
theorem set_labs {i : Nat} {r r' : LR} (h : rs[i]? = some r) (e : r'.lab = r.lab) : labs (rs.set i r') = labs rs := by
  obtain ⟨hi, ei⟩ := List.getElem?_eq_some_iff.mp h
  unfold labs
  rw [List.map_set, e, ← ei]
  exact List.ext_getElem (by simp) fun n h1 h2 => by
    rw [List.getElem_set]
    split
    · rename_i z
      subst z
      simp
    · rfl
theorem mem_set_lab (nd : (labs rs).Nodup) {i : Nat} {r r' x : LR} (h : rs[i]? = some r) (e : r'.lab = r.lab) (hx : x ∈ rs.set i r') : (x.lab = r.lab ∧ x = r') ∨ (x.lab ≠ r.lab ∧ x ∈ rs) := by
  obtain ⟨hi, ei⟩ := List.getElem?_eq_some_iff.mp h
  obtain ⟨j, hj, ej⟩ := List.getElem_of_mem hx
  rw [List.getElem_set] at ej
  split at ej
  · exact .inl ⟨by rw [← ej, e], ej.symm⟩
  · rename_i n
    rw [List.length_set] at hj
    refine .inr ⟨fun z => n ?_, by rw [← ej]; exact List.getElem_mem hj⟩
    have h1 : (labs rs)[i]? = some r.lab := by
      show (rs.map LR.lab)[i]? = _
      rw [List.getElem?_map, h]
      rfl
    have h2 : (labs rs)[j]? = some r.lab := by
      show (rs.map LR.lab)[j]? = _
      rw [List.getElem?_map, List.getElem?_eq_getElem hj, ej]
      show some x.lab = _
      rw [z]
    exact nodup_idx nd h1 h2
theorem Pic.change (F : Pic S many rg rw u) (hs : sd s) {i : Nat} {r : LR} (hi : (rg s)[i]? = some r) {w : Str} (hw : w ∈ wordsL) (hu : 0 < u r.kind) :
    Pic (changed S s r.lab ⟨r.lab, 2 + r.kind, w, true⟩) many (upF rg s ((rg s).set i ⟨r.lab, r.kind, w, true⟩)) (upF rw s (qAdd r.lab (rw s))) u := by
  have hr : r ∈ rg s := List.mem_of_getElem? hi
  have G := F.good s hs
  have el : labs ((rg s).set i ⟨r.lab, r.kind, w, true⟩) = labs (rg s) := set_labs hi rfl
  refine ⟨F.few, F.sets, F.srcs, means_eq F.m0 rfl rfl rfl, means_eq F.m1 rfl rfl rfl, fun n a b => means_eq (F.mn n a b) rfl rfl rfl, means_eq F.mo rfl rfl rfl, F.unit, F.upos, fun j hj => ?_, fun j hj => ?_, fun j hj x hx => ?_, fun j hj => ?_⟩
  · show S.ents j = _
    by_cases e : j = s
    · rw [e, upF_same, el, F.ents s hs]
    · rw [upF_ne e]
      exact F.ents j hj
  · show (if j = s then (if Wn.ready S (2 + r.kind) = true then qAdd r.lab (S.que s) else S.que s) else S.que j) = _
    by_cases e : j = s
    · rw [e, if_pos rfl, upF_same, F.ready (G.kd hr), F.que s hs, if_pos (decide_eq_true hu)]
    · rw [if_neg e, upF_ne e]
      exact F.que j hj
  · show (if j = s ∧ x.lab = r.lab then (⟨r.lab, 2 + r.kind, w, true⟩ : Reg) else S.reg j x.lab) = _
    by_cases e : j = s
    · subst e
      rw [upF_same] at hx
      rcases mem_set_lab (r' := ⟨r.lab, r.kind, w, true⟩) G.nd hi rfl hx with ⟨h1, h2⟩ | ⟨h1, h2⟩
      · rw [h2, if_pos ⟨rfl, rfl⟩]
      · rw [if_neg fun z => h1 z.2]
        exact F.reg j hj x h2
    · rw [if_neg fun z => e z.1]
      rw [upF_ne e] at hx
      exact F.reg j hj x hx
  · by_cases e : j = s
    · rw [e, upF_same, upF_same]
      refine ⟨fun x hx => ?_, by rw [el]; exact G.nd, nodup_qAdd G.rn, fun l hl => ?_⟩
      · rcases mem_set_lab (r' := ⟨r.lab, r.kind, w, true⟩) G.nd hi rfl hx with ⟨h1, h2⟩ | ⟨h1, h2⟩
        · rw [h2]
          obtain ⟨a, b, c, _⟩ := G.ok r hr
          exact ⟨a, b, c, hw⟩
        · exact G.ok x h2
      · rw [el]
        rcases mem_qAdd.mp hl with y | y
        · exact G.ri l y
        · rw [y]
          exact List.mem_map.mpr ⟨r, hr, rfl⟩
    · rw [upF_ne e, upF_ne e]
      exact F.good j hj
/-! a removal -/
theorem erase_labs : ∀ {rs : List LR} {i : Nat} {r : LR}, (labs rs).Nodup → rs[i]? = some r → labs (rs.eraseIdx i) = without r.lab (labs rs)
  | [], i, r, _, h => by simp at h
  | x :: rs, 0, r, nd, h => by
    cases h
    obtain ⟨n1, _⟩ := List.nodup_cons.mp nd
    show labs rs = without x.lab (x.lab :: labs rs)
    have e0 : decide (x.lab ≠ x.lab) = false := by simp
    unfold without
    rw [List.filter_cons, e0]
    show labs rs = List.filter (fun y => decide (y ≠ x.lab)) (labs rs)
    refine (List.filter_eq_self.mpr fun y hy => ?_).symm
    have ny : y ≠ x.lab := fun z => n1 (z ▸ hy)
    exact decide_eq_true ny
  | x :: rs, i + 1, r, nd, h => by
    obtain ⟨n1, n2⟩ := List.nodup_cons.mp nd
    have h : rs[i]? = some r := h
    have hx : x.lab ≠ r.lab := fun z => n1 (z ▸ List.mem_map.mpr ⟨r, List.mem_of_getElem? h, rfl⟩)
    show x.lab :: labs (rs.eraseIdx i) = without r.lab (x.lab :: labs rs)
    have e0 : decide (x.lab ≠ r.lab) = true := decide_eq_true hx
    rw [erase_labs n2 h]
    unfold without
    rw [List.filter_cons, e0]
    rfl
theorem mem_without {k x : Int} {l : List Int} : x ∈ without k l ↔ x ∈ l ∧ x ≠ k := by
  unfold without
  rw [List.mem_filter]
  exact ⟨fun ⟨a, b⟩ => ⟨a, of_decide_eq_true b⟩, fun ⟨a, b⟩ => ⟨a, decide_eq_true b⟩⟩
theorem Pic.remove (F : Pic S many rg rw u) (hs : sd s) {i : Nat} {r : LR} (hi : (rg s)[i]? = some r) : Pic (dropped S s r.lab) many (upF rg s ((rg s).eraseIdx i)) (upF rw s (without r.lab (rw s))) u := by
  have G := F.good s hs
  have el := erase_labs G.nd hi
  have sub : ∀ x ∈ (rg s).eraseIdx i, x ∈ rg s := fun x hx => (List.eraseIdx_sublist _ _).subset hx
  refine ⟨F.few, F.sets, F.srcs, means_eq F.m0 rfl rfl rfl, means_eq F.m1 rfl rfl rfl, fun n a b => means_eq (F.mn n a b) rfl rfl rfl, means_eq F.mo rfl rfl rfl, F.unit, F.upos, fun j hj => ?_, fun j hj => ?_, fun j hj x hx => ?_, fun j hj => ?_⟩
  · show (if j = s then without r.lab (S.ents s) else S.ents j) = _
    by_cases e : j = s
    · rw [e, if_pos rfl, upF_same, el, F.ents s hs]
    · rw [if_neg e, upF_ne e]
      exact F.ents j hj
  · show (if j = s then without r.lab (S.que s) else S.que j) = _
    by_cases e : j = s
    · rw [e, if_pos rfl, upF_same, F.que s hs]
    · rw [if_neg e, upF_ne e]
      exact F.que j hj
  · show S.reg j x.lab = _
    by_cases e : j = s
    · subst e
      rw [upF_same] at hx
      exact F.reg j hj x (sub x hx)
    · rw [upF_ne e] at hx
      exact F.reg j hj x hx
  · by_cases e : j = s
    · rw [e, upF_same, upF_same]
      refine ⟨fun x hx => G.ok x (sub x hx), by rw [el]; exact G.nd.filter _, G.rn.filter _, fun l hl => ?_⟩
      rw [el]
      obtain ⟨a, b⟩ := mem_without.mp hl
      exact mem_without.mpr ⟨G.ri l a, b⟩
    · rw [upF_ne e, upF_ne e]
      exact F.good j hj
/-! a wait that reports all -/
def lev (reg : Int → Reg) (l : Int) : Bool := decide ((reg l).word = "level")
def spent (left : List Int) (reg : Int → Reg) : Int → Reg := fun j => if j ∈ left ∧ (reg j).word = "once" then { reg j with armed := false } else reg j
theorem take_full (unit : Int → Int × Bool) (us : Int → Int) (most : Int) : ∀ (left kept : List Int) (reps : List (Int × Int × Bool)) (reg : Int → Reg), (reps.length : Int) + left.length ≤ most → left.Nodup → (∀ l ∈ left, unit (reg l).src = (us l, false) ∧ 0 < us l) →
    takeAll unit most left ⟨reps, left ++ kept, reg⟩ = ⟨reps ++ left.map (fun l => (l, us l, false)), kept ++ left.filter (lev reg), spent left reg⟩
  | [], kept, reps, reg, _, _, _ => by
    have : spent [] reg = reg := funext fun j => if_neg fun z => List.not_mem_nil z.1
    simp [takeAll, this]
  | l :: left, kept, reps, reg, hm, nd, h => by
    obtain ⟨n1, n2⟩ := List.nodup_cons.mp nd
    obtain ⟨h1, h2⟩ := h l List.mem_cons_self
    rw [List.length_cons] at hm
    have es : takeStep unit ⟨reps, l :: left ++ kept, reg⟩ l = ⟨reps ++ [(l, us l, false)], left ++ (kept ++ (if lev reg l = true then [l] else [])), settled reg l⟩ := by
      unfold takeStep
      dsimp only
      rw [h1, if_pos (by rw [decide_eq_true h2]; rfl)]
      have : (if (reg l).word = "level" then (l :: left ++ kept).drop 1 ++ [l] else (l :: left ++ kept).drop 1) = left ++ (kept ++ (if lev reg l = true then [l] else [])) := by
        unfold lev
        by_cases z : (reg l).word = "level"
        · rw [if_pos z, if_pos (decide_eq_true z)]
          simp
        · rw [if_neg z, if_neg (fun y => z (of_decide_eq_true y))]
          simp
      rw [this]
    have old : ∀ j, j ≠ l → settled reg l j = reg j := fun j hj => settled_ne hj
    unfold takeAll
    rw [if_neg (by show ¬ (reps.length : Int) = most; omega), es, take_full unit us most left _ _ _ (by rw [List.length_append]; show ((reps.length + 1 : Nat) : Int) + _ ≤ _; omega) n2 fun j hj => by
      rw [settled_src]
      exact h j (List.mem_cons_of_mem _ hj)]
    have e1 : left.filter (lev (settled reg l)) = left.filter (lev reg) := List.filter_congr fun j hj => by
      unfold lev
      rw [old j fun z => n1 (z ▸ hj)]
    have e2 : spent left (settled reg l) = spent (l :: left) reg := funext fun j => by
      unfold spent
      by_cases hj : j = l
      · subst hj
        rw [if_neg fun z => n1 z.1]
        unfold settled
        by_cases z : (reg j).word = "once"
        · rw [if_pos ⟨rfl, z⟩, if_pos ⟨List.mem_cons_self, z⟩]
        · rw [if_neg fun y => z y.2, if_neg fun y => z y.2]
      · rw [old j hj]
        by_cases z : j ∈ left ∧ (reg j).word = "once"
        · rw [if_pos z, if_pos ⟨List.mem_cons_of_mem _ z.1, z.2⟩]
        · rw [if_neg z, if_neg fun y => z ⟨(List.mem_cons.mp y.1).resolve_left hj, y.2⟩]
    rw [e1, e2, List.filter_cons]
    by_cases z : lev reg l = true
    · rw [if_pos z, if_pos z]
      simp
    · rw [if_neg z, if_neg z]
      simp
def spentR (row : List Int) (r : LR) : LR := if r.lab ∈ row ∧ r.term = "once" then { r with armed := false } else r
theorem spentR_lab (row : List Int) (r : LR) : (spentR row r).lab = r.lab ∧ (spentR row r).kind = r.kind ∧ (spentR row r).term = r.term := by
  unfold spentR
  split <;> exact ⟨rfl, rfl, rfl⟩
/-- the word of a label -/
def wdR (rs : List LR) (l : Int) : Str := match rs.find? (fun r => decide (r.lab = l)) with
  | some r => r.term
  | none => ""
def kdR (rs : List LR) (l : Int) : Int := match rs.find? (fun r => decide (r.lab = l)) with
  | some r => r.kind
  | none => 0
theorem find_lab (nd : (labs rs).Nodup) {r : LR} (h : r ∈ rs) : rs.find? (fun x => decide (x.lab = r.lab)) = some r := by
  cases hf : rs.find? (fun x => decide (x.lab = r.lab)) with
  | none => exact absurd (decide_eq_true rfl) (List.find?_eq_none.mp hf r h)
  | some x =>
    have hx := List.find?_some (p := fun x => decide (LR.lab x = r.lab)) hf
    rw [lab_inj nd (List.mem_of_find?_eq_some hf) h (of_decide_eq_true hx)]
theorem wd_of (nd : (labs rs).Nodup) {r : LR} (h : r ∈ rs) : wdR rs r.lab = r.term ∧ kdR rs r.lab = r.kind := by
  unfold wdR kdR
  rw [find_lab nd h]
  exact ⟨rfl, rfl⟩
abbrev repW (rs : List LR) (u : Int → Int) : Int → Int × Int × Bool := fun l => (l, u (kdR rs l), false)
abbrev levR (rs : List LR) (l : Int) : Bool := decide (wdR rs l = "level")
theorem Pic.took (F : Pic S many rg rw u) (hs : sd s) (ha : ∀ r ∈ rg s, 0 < u r.kind) : Wn.took S s 50 = ⟨(rw s).map (repW (rg s) u), (rw s).filter (levR (rg s)), spent (rw s) (S.reg s)⟩ := by
  have G := F.good s hs
  have facts : ∀ l ∈ rw s, ∃ r ∈ rg s, r.lab = l := fun l hl => by
    obtain ⟨r, hr, e⟩ := List.mem_map.mp (G.ri l hl)
    exact ⟨r, hr, e⟩
  have := take_full S.unit (fun l => u (kdR (rg s) l)) 50 (rw s) [] [] (S.reg s) (by have := G.rlen F.few.2; show ((0 : Nat) : Int) + _ ≤ _; omega) G.rn fun l hl => by
    obtain ⟨r, hr, rfl⟩ := facts l hl
    rw [F.reg s hs r hr, (wd_of G.nd hr).2]
    exact ⟨F.unit _ (G.kd hr), ha r hr⟩
  unfold Wn.took
  rw [F.que s hs]
  rw [List.append_nil, List.nil_append, List.nil_append] at this
  rw [this]
  congr 1
  refine List.filter_congr fun l hl => ?_
  obtain ⟨r, hr, rfl⟩ := facts l hl
  unfold lev levR
  rw [F.reg s hs r hr, (wd_of G.nd hr).1]
theorem Pic.wait (F : Pic S many rg rw u) (hs : sd s) (ha : ∀ r ∈ rg s, 0 < u r.kind) : Pic (waited S s 50) many (upF rg s ((rg s).map (spentR (rw s)))) (upF rw s ((rw s).filter (levR (rg s)))) u := by
  have G := F.good s hs
  have et := F.took hs ha
  have el : labs ((rg s).map (spentR (rw s))) = labs (rg s) := by
    unfold labs
    rw [List.map_map]
    exact List.map_congr_left fun r _ => (spentR_lab (rw s) r).1
  refine ⟨F.few, F.sets, F.srcs, means_eq F.m0 rfl rfl rfl, means_eq F.m1 rfl rfl rfl, fun n a b => means_eq (F.mn n a b) rfl rfl rfl, means_eq F.mo rfl rfl rfl, F.unit, F.upos, fun j hj => ?_, fun j hj => ?_, fun j hj x hx => ?_, fun j hj => ?_⟩
  · show S.ents j = _
    by_cases e : j = s
    · rw [e, upF_same, el, F.ents s hs]
    · rw [upF_ne e]
      exact F.ents j hj
  · show (if j = s then (Wn.took S s 50).que else S.que j) = _
    by_cases e : j = s
    · rw [e, if_pos rfl, upF_same, et]
    · rw [if_neg e, upF_ne e]
      exact F.que j hj
  · show (if j = s then (Wn.took S s 50).reg else S.reg j) x.lab = _
    by_cases e : j = s
    · subst e
      rw [upF_same] at hx
      obtain ⟨r, hr, rfl⟩ := List.mem_map.mp hx
      rw [if_pos rfl, et]
      show spent (rw j) (S.reg j) (spentR (rw j) r).lab = _
      unfold spent spentR
      by_cases z : r.lab ∈ rw j ∧ r.term = "once"
      · rw [if_pos z]
        show (if r.lab ∈ rw j ∧ (S.reg j r.lab).word = "once" then { S.reg j r.lab with armed := false } else S.reg j r.lab) = _
        rw [F.reg j hj r hr, if_pos z]
      · rw [if_neg z]
        show (if r.lab ∈ rw j ∧ (S.reg j r.lab).word = "once" then { S.reg j r.lab with armed := false } else S.reg j r.lab) = _
        rw [F.reg j hj r hr, if_neg z]
    · rw [if_neg e]
      rw [upF_ne e] at hx
      exact F.reg j hj x hx
  · by_cases e : j = s
    · rw [e, upF_same, upF_same]
      refine ⟨fun x hx => ?_, by rw [el]; exact G.nd, G.rn.filter _, fun l hl => ?_⟩
      · obtain ⟨r, hr, rfl⟩ := List.mem_map.mp hx
        obtain ⟨e1, e2, e3⟩ := spentR_lab (rw s) r
        rw [e1, e2, e3]
        exact G.ok r hr
      · rw [el]
        exact G.ri l (List.mem_filter.mp hl).1
    · rw [upF_ne e, upF_ne e]
      exact F.good j hj
end

/-! the law's lists -/
structure AD where
  rg : Addr
  rw : Addr
  ul : Addr
  g : Int → Addr
  w : Int → Addr
  ts : Int → List Addr
abbrev tup4 (r : LR) : HO := .tup [.int r.lab, .int r.kind, .str r.term, .bl r.armed]
structure Dist (A : AD) : Prop where
  ww : A.w 0 ≠ A.w 1
  gg : A.g 0 ≠ A.g 1
  gw : ∀ s s', sd s → sd s' → A.g s ≠ A.w s'
  g1 : ∀ s, sd s → A.g s ≠ A.rg ∧ A.g s ≠ A.rw ∧ A.g s ≠ A.ul
  w1 : ∀ s, sd s → A.w s ≠ A.rg ∧ A.w s ≠ A.rw ∧ A.w s ≠ A.ul
  r1 : A.rg ≠ A.rw ∧ A.rg ≠ A.ul ∧ A.rw ≠ A.ul
structure LH (H : Hp) (A : AD) (rg : Int → List LR) (rw : Int → List Int) (u : Int → Int) : Prop where
  hrg : H A.rg = some (.lst [.ref (A.g 0), .ref (A.g 1)])
  hrw : H A.rw = some (.lst [.ref (A.w 0), .ref (A.w 1)])
  hul : H A.ul = some (.lst [.int (u 0), .int (u 1)])
  hg : ∀ s, sd s → H (A.g s) = some (.lst ((A.ts s).map V.ref))
  hw : ∀ s, sd s → H (A.w s) = some (.lst ((rw s).map V.int))
  ht : ∀ s, sd s → Paired (fun t r => H t = some (tup4 r)) (A.ts s) (rg s)
  d : Dist A
theorem at2 {α : Type} {f : α → V} {x : Int → α} {s : Int} (hs : sd s) : atI [f (x 0), f (x 1)] s = some (f (x s)) := by
  rcases hs with rfl | rfl <;> rfl
theorem ix2 {α : Type} {a b : α} {s : Int} (hs : sd s) : ixN [a, b].length s = some s.toNat := by
  rcases hs with rfl | rfl <;> rfl
theorem pair_get {α β : Type} {r : α → β → Prop} {xs : List α} {ys : List β} (p : Paired r xs ys) : ∀ {i : Nat} {x : α}, xs[i]? = some x → ∃ y, ys[i]? = some y ∧ r x y := by
  induction p with
  | nil => intro i x h; simp at h
  | cons h _ ih =>
    intro i x hx
    cases i with
    | zero => cases hx; exact ⟨_, rfl, h⟩
    | succ i => exact ih (i := i) hx
theorem pair_keep {H H' : Hp} {ts : List Addr} {rs : List LR} (p : Paired (fun t r => H t = some (tup4 r)) ts rs) (k : ∀ b xs, H b = some (.tup xs) → H' b = some (.tup xs)) : Paired (fun t r => H' t = some (tup4 r)) ts rs := by
  induction p with
  | nil => exact .nil
  | cons h _ ih => exact .cons (k _ _ h) ih
section
variable {H H1 : Hp} {A : AD} {rg : Int → List LR} {rw : Int → List Int} {u : Int → Int} {s : Int} {row : List Int}
theorem Dist.w_ne (d : Dist A) {s s' : Int} (hs : sd s) (hs' : sd s') (n : s' ≠ s) : A.w s' ≠ A.w s := by
  rcases hs with rfl | rfl <;> rcases hs' with rfl | rfl
  · exact absurd rfl n
  · exact Ne.symm d.ww
  · exact d.ww
  · exact absurd rfl n
theorem Dist.g_ne (d : Dist A) {s s' : Int} (hs : sd s) (hs' : sd s') (n : s' ≠ s) : A.g s' ≠ A.g s := by
  rcases hs with rfl | rfl <;> rcases hs' with rfl | rfl
  · exact absurd rfl n
  · exact Ne.symm d.gg
  · exact d.gg
  · exact absurd rfl n
theorem LH.keep (L : LH H A rg rw u) (k : ∀ b o, H b = some o → H1 b = some o) : LH H1 A rg rw u :=
  ⟨k _ _ L.hrg, k _ _ L.hrw, k _ _ L.hul, fun s hs => k _ _ (L.hg s hs), fun s hs => k _ _ (L.hw s hs), fun s hs => pair_keep (L.ht s hs) fun b xs e => k b _ e, L.d⟩
theorem LH.setRow (L : LH H A rg rw u) (hs : sd s) (k : ∀ b, b ≠ A.w s → H1 b = H b) (h : H1 (A.w s) = some (.lst (row.map V.int))) : LH H1 A rg (upF rw s row) u := by
  obtain ⟨w1, w2, w3⟩ := L.d.w1 s hs
  refine ⟨(k _ (Ne.symm w1)).trans L.hrg, (k _ (Ne.symm w2)).trans L.hrw, (k _ (Ne.symm w3)).trans L.hul, fun j hj => (k _ (L.d.gw j s hj hs)).trans (L.hg j hj), fun j hj => ?_, fun j hj => pair_keep (L.ht j hj) fun b xs e => (k b ?_).trans e, L.d⟩
  · by_cases e : j = s
    · rw [e, upF_same, h]
    · rw [upF_ne e]
      exact (k _ (L.d.w_ne hs hj e)).trans (L.hw j hj)
  · exact ne_of e (L.hw s hs) (by intro z; cases z)
theorem LH.rows (L : LH H A rg rw u) {rw' : Int → List Int} (h : ∀ s, sd s → rw' s = rw s) : LH H A rg rw' u :=
  ⟨L.hrg, L.hrw, L.hul, L.hg, fun s hs => by rw [h s hs]; exact L.hw s hs, L.ht, L.d⟩
end
/-! units arrive -/
section
variable {P : Program} {w : World} {K : PySem.W.Frag} {mg : Str → Option Value} {base : Heap} {C : Cs}
inductive PspArrived  (vs : List V) (H : Hp) (Q : VK) : Prop
  | mk (A : AD) (rg : Int → List LR) (rw : Int → List Int) (u : Int → Int) (k : Int) (h_0 : vs = [.ref A.rg, .int k, .ref A.rw]) (h_1 : LH H A rg rw u) (h_2 : (∀ s, sd s → (rg s).length ≤ 8 ∧ (rw s).length ≤ 8)) (h_3 : ∀ H', LH H' A rg (fun s => arrRow k (rg s) (rw s)) u → (∀ b o, b ≠ A.w 0 → b ≠ A.w 1 → H b = some o → H' b = some o) → Q .non H') : PspArrived  vs H Q
def spArrived  : Sp := fun vs H Q _ => PspArrived  vs H Q
theorem scArrived : FnScope ["_law_regs", "_law_source", "_law_rows", "_law_side", "_law_label", "_law_kind", "_law_term", "_law_armed"] ["_law_regs", "_law_source", "_law_rows"] (defScope sArrived) := ⟨rfl, rfl, rfl, by decide +kernel, rfl, by decide +kernel, by decide +kernel⟩
theorem arr_take {k : Int} {rs : List LR} {row : List Int} {i : Nat} {r : LR} (h : rs[i]? = some r) : arrRow k (rs.take (i + 1)) row = (if r.kind = k ∧ r.armed = true then qAdd r.lab (arrRow k (rs.take i) row) else arrRow k (rs.take i) row) := by
  unfold arrRow
  rw [List.take_add_one, h, List.foldl_append]
  rfl
theorem arr_len (k : Int) : ∀ (rs : List LR) (row : List Int), (arrRow k rs row).length ≤ row.length + rs.length
  | [], _ => Nat.le_refl _
  | r :: rs, row => by
    show (arrRow k rs (if r.kind = k ∧ r.armed = true then qAdd r.lab row else row)).length ≤ _
    refine Nat.le_trans (arr_len k rs _) ?_
    rw [List.length_cons]
    have : (if r.kind = k ∧ r.armed = true then qAdd r.lab row else row).length ≤ row.length + 1 := by
      unfold qAdd
      split
      · split
        · omega
        · rw [List.length_append]; exact Nat.le_refl _
      · omega
    omega
theorem okArrived {f : Addr} {fd : FuncData} (F : Fun K "_law_arrived" "_law_arrived" sArrived f fd) (X : LawTx mg) : FnOk P w K mg base CX0 1 f fd ["_law_regs", "_law_source", "_law_rows"] spArrived := by
  refine F.ok scArrived (fun vs H Q E h => ?_) (fun cdv A outer s H vs Q E hr h => ?_)
  · obtain ⟨_, _, _, _, _, rfl, _⟩ := h
    rfl
  · obtain ⟨B, rg, rw', u, k, rfl, L0, hz, q⟩ := h
    refine ⟨_, pss_one (ps_for PassesOwn.never rfl (pi_range1 (by rfl) X.range (pa_cons pe_int pa_nil)) (pg_name (i := 3) scArrived.nd rfl (Or.inl rfl))
      (pss_one (ps_for PassesOwn.never rfl (pi_list (pe_ix ix_list (pv 0) (pv 3) (fun _ _ => rfl))) (pg_tup rfl (pgs_cons (pg_name (i := 4) scArrived.nd rfl (Or.inl rfl)) (pgs_cons (pg_name (i := 5) scArrived.nd rfl (Or.inl rfl)) (pgs_cons (pg_name (i := 6) scArrived.nd rfl (Or.inl rfl)) (pgs_cons (pg_name (i := 7) scArrived.nd rfl (Or.inl rfl)) pgs_nil)))))
        (pss_one (ps_if (PW.pt (pw_and (pt_cmpR op_eq (pv 5) (pv 1) (nomark _)) (pw_and (pt_val (pv 7)) (pw_and1 (pt_cmpR op_notIn_seq (pv 4) (pe_ix ix_list (pv 2) (pv 3) (fun _ _ => rfl)) (by rfl))))))
          (pss_one (ps_expr (pe_bm PySem.F.plainAttrs_list PySem.F.slot_list_append PySem.F.type_list_append mt_append (pe_ix ix_list (pv 2) (pv 3) (fun _ _ => rfl)) (pa_cons (pv 4) pa_nil)))) pss_nil))))), ?_⟩
    show iRng1 _ _ _ _
    show tCons _ _ _ _ _
    walk_at "wn"
    refine ⟨2, rfl, by decide, by decide, ?_⟩
    refine for_range (lo := 0) (fun i σ' H' => ∃ v3 v4 v5 v6 v7 : Option V, σ' = [some (.ref B.rg), some (.int k), some (.ref B.rw), v3, v4, v5, v6, v7] ∧ LH H' B rg (fun s => if s < (i : Int) then arrRow k (rg s) (rw' s) else rw' s) u ∧ (∀ b o, b ≠ B.w 0 → b ≠ B.w 1 → H b = some o → H' b = some o)) ⟨_, _, _, _, _, rfl, L0.rows fun s hs => if_neg (by rcases hs with rfl | rfl <;> decide), fun b o _ _ e => e⟩ ?_ (fun σ' H' ⟨v3, v4, v5, v6, v7, e, L, kp⟩ => ?_)
    · rintro i σ' H1 hi ⟨v3, v4, v5, v6, v7, rfl, L1, kp⟩
      rw [Int.zero_add]
      have hs : sd (i : Int) := by
        have : i = 0 ∨ i = 1 := by omega
        rcases this with rfl | rfl
        · exact sd0
        · exact sd1
      have hg1 := L1.hg _ hs
      walk_at "wn"
      show iList _ _ _ _ _
      refine ⟨_, rfl, _, rfl, B.rg, _, (i : Int), _, rfl, rfl, SqL.of L1.hrg, at2 (f := V.ref) hs, ?_⟩
      refine ⟨B.g i, rfl, ⟨_, SqL.of hg1⟩, for_list (K := K) (a := B.g i) (xs := (B.ts i).map V.ref) (fun j σ' H' => ∃ v4 v5 v6 v7 : Option V, σ' = [some (.ref B.rg), some (.int k), some (.ref B.rw), some (.int (i : Int)), v4, v5, v6, v7] ∧ LH H' B rg (upF (fun s => if s < (i : Int) then arrRow k (rg s) (rw' s) else rw' s) i (arrRow k ((rg i).take j) (rw' i))) u ∧ (∀ b o, b ≠ B.w 0 → b ≠ B.w 1 → H b = some o → H' b = some o)) ⟨_, _, _, _, rfl, L1.rows fun s hs' => ?_, kp⟩ (fun j σ' H' _ z => by obtain ⟨_, _, _, _, _, L, _⟩ := z; exact SqL.of (L.hg _ hs)) ?_ ?_⟩
      · by_cases e : s = (i : Int)
        · rw [e, upF_same, if_neg (Int.lt_irrefl _)]
          rfl
        · rw [upF_ne e]
      · rintro j v σ' H2 hv ⟨v4, v5, v6, v7, rfl, L2, kp2⟩
        rw [List.getElem?_map] at hv
        cases el : (B.ts i)[j]? with
        | none => rw [el] at hv; cases hv
        | some t =>
        rw [el] at hv
        cases hv
        obtain ⟨r, er, ht⟩ := pair_get (L2.ht _ hs) el
        have hw2 := L2.hw _ hs
        rw [upF_same] at hw2
        have lr : (arrRow k ((rg i).take j) (rw' i)).length ≤ 16 := by
          refine Nat.le_trans (arr_len k _ _) ?_
          have := hz _ hs
          rw [List.length_take]
          omega
        refine ⟨t, _, rfl, SqT.of ht, rfl, _, _, rfl, ?_⟩
        walk_at "wn"
        refine ⟨_, _, rfl, ?_⟩
        walk_at "wn"
        refine ⟨_, _, rfl, ?_⟩
        walk_at "wn"
        refine ⟨_, _, rfl, ?_⟩
        walk_at "wn"
        refine ⟨rfl, ?_⟩
        rw [arr_take er]
        walk_at "wn"
        by_cases hk : r.kind = k
        · rw [show decide (V.int r.kind = V.int k) = true from decide_eq_true (by rw [hk])]
          walk_at "wn"
          by_cases ha : r.armed = true
          · rw [if_pos (show r.kind = k ∧ r.armed = true from ⟨hk, ha⟩)]
            rw [ha]
            walk_at "wn"
            refine ⟨B.rw, _, (i : Int), _, rfl, rfl, SqL.of L2.hrw, at2 (f := V.ref) hs, ?_⟩
            refine ⟨B.w i, _, rfl, .inl (SqL.of hw2), rfl, flat_ints _, ?_⟩
            refine ⟨_, rfl, ?_⟩
            show if (!inV (.int r.lab) _) = true then _ else _
            rw [inV_int]
            by_cases hin : r.lab ∈ arrRow k ((rg i).take j) (rw' i)
            · rw [decide_eq_true hin]
              walk_at "wn"
              have e : qAdd r.lab (arrRow k ((rg i).take j) (rw' i)) = arrRow k ((rg i).take j) (rw' i) := if_pos hin
              rw [e]
              exact ⟨_, _, _, _, rfl, L2, kp2⟩
            · rw [decide_eq_false hin]
              walk_at "wn"
              have e : qAdd r.lab (arrRow k ((rg i).take j) (rw' i)) = arrRow k ((rg i).take j) (rw' i) ++ [r.lab] := if_neg hin
              rw [e]
              refine ⟨B.rw, _, (i : Int), _, rfl, rfl, SqL.of L2.hrw, at2 (f := V.ref) hs, ?_⟩
              refine ⟨.inl ⟨rfl, _, SqL.of hw2⟩, ?_⟩
              walk_at "wn"
              refine ⟨B.w i, _, _, rfl, rfl, hw2, by rw [List.length_map, sizeLine_eq]; omega, ?_⟩
              have L3 := L2.setRow (row := arrRow k ((rg i).take j) (rw' i) ++ [r.lab]) (H1 := upd H2 (B.w i) (.lst ((arrRow k ((rg i).take j) (rw' i)).map V.int ++ [V.int r.lab]))) hs (fun b n => upd_ne n) (by rw [upd_same, List.map_append]; rfl)
              refine ⟨_, _, _, _, rfl, L3.rows fun s hs' => ?_, fun b o n0 n1 e => ?_⟩
              · by_cases e : s = (i : Int)
                · rw [e, upF_same, upF_same]
                · rw [upF_ne e, upF_ne e, upF_ne e]
              · rw [upd_ne (by rcases hs with z | z <;> rw [z] <;> assumption)]
                exact kp2 b o n0 n1 e
          · rw [if_neg (show ¬ (r.kind = k ∧ r.armed = true) from fun z => ha z.2)]
            rw [Bool.eq_false_iff.mpr ha]
            walk_at "wn"
            exact ⟨_, _, _, _, rfl, L2, kp2⟩
        · rw [if_neg (show ¬ (r.kind = k ∧ r.armed = true) from fun z => hk z.1), show decide (V.int r.kind = V.int k) = false from decide_eq_false fun z => hk (V.int.inj z)]
          walk_at "wn"
          exact ⟨_, _, _, _, rfl, L2, kp2⟩
      · rintro σ' H2 ⟨v4, v5, v6, v7, rfl, L2, kp2⟩
        refine ⟨_, _, _, _, _, rfl, L2.rows fun s hs' => ?_, kp2⟩
        have len : ((B.ts i).map V.ref).length = (rg i).length := by rw [List.length_map]; exact (L2.ht _ hs).length
        rw [len, List.take_length]
        by_cases e : s = (i : Int)
        · rw [e, upF_same, if_pos (by omega)]
        · rw [upF_ne e]
          by_cases z : s < (i : Int)
          · rw [if_pos z, if_pos (by omega)]
          · rw [if_neg z, if_neg (by omega)]
    · subst e
      walk_at "wn"
      exact q H' (L.rows fun s hs => (if_pos (by rcases hs with rfl | rfl <;> decide)).symm) kp
end

def setTs (A : AD) (s : Int) (ts : List Addr) : AD := { A with ts := upF A.ts s ts }
def newRow (A : AD) (s : Int) (w : Addr) : AD := { A with w := upF A.w s w }
theorem pair_set {α β : Type} {r : α → β → Prop} {xs : List α} {ys : List β} (p : Paired r xs ys) {x : α} {y : β} (h : r x y) : ∀ j : Nat, Paired r (xs.set j x) (ys.set j y) := by
  induction p with
  | nil => intro j; exact .nil
  | cons h0 _ ih =>
    intro j
    cases j with
    | zero => exact .cons h (by assumption)
    | succ j => exact .cons h0 (ih j)
theorem pair_snoc {α β : Type} {r : α → β → Prop} {xs : List α} {ys : List β} {x : α} {y : β} (p : Paired r xs ys) (q : r x y) : Paired r (xs ++ [x]) (ys ++ [y]) := by
  induction p with
  | nil => exact .cons q .nil
  | cons h _ ih => exact .cons h ih
theorem pair_mono {α β : Type} {r r' : α → β → Prop} {xs : List α} {ys : List β} (p : Paired r xs ys) (f : ∀ x y, r x y → r' x y) : Paired r' xs ys := by
  induction p with
  | nil => exact .nil
  | cons h _ ih => exact .cons (f _ _ h) ih
theorem merge_val {v : LR → V} {l : Int} : ∀ {rs : List LR} {kvs : List (Key × V)}, (labs rs).Nodup → valV (mergeK kvs (rs.map fun r => ((Sum.inl r.lab : Key), v r))) (Sum.inl l) = match rs.find? (fun r => decide (r.lab = l)) with | some r => some (v r) | none => valV kvs (Sum.inl l)
  | [], kvs, _ => rfl
  | x :: rs, kvs, nd => by
    obtain ⟨n1, n2⟩ := List.nodup_cons.mp nd
    show valV (mergeK (putK kvs (Sum.inl x.lab) (v x)) (rs.map fun r => ((Sum.inl r.lab : Key), v r))) (Sum.inl l) = _
    rw [merge_val n2, List.find?_cons]
    by_cases e : x.lab = l
    · rw [decide_eq_true e]
      have : rs.find? (fun r => decide (r.lab = l)) = none := List.find?_eq_none.mpr fun r hr z => n1 (by
        rw [e, ← of_decide_eq_true z]
        exact List.mem_map.mpr ⟨r, hr, rfl⟩)
      rw [this]
      show valV (putK kvs (Sum.inl x.lab) (v x)) (Sum.inl l) = some (v x)
      rw [valV_put, if_pos (by rw [e])]
    · rw [decide_eq_false e]
      cases hf : rs.find? (fun r => decide (r.lab = l)) with
      | some r => rfl
      | none =>
        show valV (putK kvs (Sum.inl x.lab) (v x)) (Sum.inl l) = _
        rw [valV_put, if_neg fun z => e (Sum.inl.inj z).symm]
section
variable {H H1 : Hp} {A : AD} {rg : Int → List LR} {rw : Int → List Int} {u : Int → Int} {s : Int} {row : List Int} {ts' : List Addr} {rs' : List LR} {w' : Addr}
theorem Dist.setTs (d : Dist A) : Dist (setTs A s ts') := ⟨d.ww, d.gg, d.gw, d.g1, d.w1, d.r1⟩
theorem LH.setReg (L : LH H A rg rw u) (hs : sd s) (k : ∀ b o, b ≠ A.g s → H b = some o → H1 b = some o) (h : H1 (A.g s) = some (.lst (ts'.map V.ref))) (ht : Paired (fun t r => H1 t = some (tup4 r)) ts' rs') : LH H1 (setTs A s ts') (upF rg s rs') rw u := by
  obtain ⟨w1, w2, w3⟩ := L.d.g1 s hs
  refine ⟨k _ _ (Ne.symm w1) L.hrg, k _ _ (Ne.symm w2) L.hrw, k _ _ (Ne.symm w3) L.hul, fun j hj => ?_, fun j hj => k _ _ (Ne.symm (L.d.gw s j hs hj)) (L.hw j hj), fun j hj => ?_, L.d.setTs⟩
  · by_cases e : j = s
    · rw [e]
      show H1 (A.g s) = some (.lst ((upF A.ts s ts' s).map V.ref))
      rw [upF_same]
      exact h
    · show H1 (A.g j) = some (.lst ((upF A.ts s ts' j).map V.ref))
      rw [upF_ne e]
      exact k _ _ (L.d.g_ne hs hj e) (L.hg j hj)
  · by_cases e : j = s
    · rw [e]
      show Paired _ (upF A.ts s ts' s) (upF rg s rs' s)
      rw [upF_same, upF_same]
      exact ht
    · show Paired _ (upF A.ts s ts' j) (upF rg s rs' j)
      rw [upF_ne e, upF_ne e]
      exact pair_keep (L.ht j hj) fun b xs z => k _ _ (ne_of z (L.hg s hs) (by intro q; cases q)) z
theorem LH.setRw (L : LH H A rg rw u) (hs : sd s) (k : ∀ b o, b ≠ A.rw → H b = some o → H1 b = some o) (h : H1 A.rw = some (.lst (([V.ref (A.w 0), V.ref (A.w 1)] : List V).set s.toNat (.ref w')))) (hw : H1 w' = some (.lst (row.map V.int))) (fr : H w' = none) : LH H1 (newRow A s w') rg (upF rw s row) u := by
  have nw : ∀ {b o}, H b = some o → b ≠ w' := fun e => ne_of_none e fr
  have e0 : ∀ j, sd j → H (A.w j) = some (.lst ((rw j).map V.int)) := L.hw
  refine ⟨k _ _ L.d.r1.1 L.hrg, ?_, k _ _ (Ne.symm L.d.r1.2.2) L.hul, fun j hj => k _ _ (L.d.g1 j hj).2.1 (L.hg j hj), fun j hj => ?_, fun j hj => pair_keep (L.ht j hj) fun b xs z => k _ _ (ne_of z L.hrw (by intro q; cases q)) z, ?_⟩
  · show H1 A.rw = some (.lst [.ref (upF A.w s w' 0), .ref (upF A.w s w' 1)])
    rw [h]
    rcases hs with rfl | rfl <;> rfl
  · show H1 (upF A.w s w' j) = some (.lst ((upF rw s row j).map V.int))
    by_cases e : j = s
    · rw [e, upF_same, upF_same]
      exact hw
    · rw [upF_ne e, upF_ne e]
      exact k _ _ (L.d.w1 j hj).2.1 (L.hw j hj)
  · refine ⟨?_, L.d.gg, fun j j' hj hj' => ?_, L.d.g1, fun j hj => ?_, L.d.r1⟩
    · show upF A.w s w' 0 ≠ upF A.w s w' 1
      rcases hs with rfl | rfl
      · exact Ne.symm (nw (e0 1 sd1))
      · exact nw (e0 0 sd0)
    · show A.g j ≠ upF A.w s w' j'
      by_cases e : j' = s
      · rw [e, upF_same]
        exact nw (L.hg j hj)
      · rw [upF_ne e]
        exact L.d.gw j j' hj hj'
    · show upF A.w s w' j ≠ A.rg ∧ upF A.w s w' j ≠ A.rw ∧ upF A.w s w' j ≠ A.ul
      by_cases e : j = s
      · rw [e, upF_same]
        exact ⟨Ne.symm (nw L.hrg), Ne.symm (nw L.hrw), Ne.symm (nw L.hul)⟩
      · rw [upF_ne e]
        exact L.d.w1 j hj
end
theorem walk_enumM {K : PySem.W.Frag} {a : Addr} {n : Nat} : Walk (Ite K a) n (fun H => ∃ xs, SqL K H a xs ∧ xs.length = n) (fun i H v H' => ∃ T x, v = .ref T ∧ H T = none ∧ H' = upd H T (.tup [.int (i : Nat), x]) ∧ ∀ xs, SqL K H a xs → xs[i]? = some x) := by
  refine ⟨fun i _ hi ⟨xs, q, l⟩ => ⟨xs, xs[i], q, by simp [l, hi]⟩, fun _ ⟨xs, q, l⟩ => ⟨xs, q, Nat.le_of_eq l⟩, fun i H v H' _ _ y => y⟩
/-! a wait, as the law reckons it -/
section
variable {P : Program} {w : World} {K : PySem.W.Frag} {mg : Str → Option Value} {base : Heap} {C : Cs}
def spJ (row : List Int) (rs : List LR) (j : Nat) : List LR := (rs.take j).map (spentR row) ++ rs.drop j
theorem spJ_at {row : List Int} {rs : List LR} {j : Nat} (h : j < rs.length) : (spJ row rs j)[j]? = some rs[j] := by
  unfold spJ
  rw [List.getElem?_append_right (by rw [List.length_map, List.length_take]; omega), List.length_map, List.length_take, Nat.min_eq_left (Nat.le_of_lt h), Nat.sub_self, List.drop_eq_getElem_cons h]
  rfl
theorem spJ_succ {row : List Int} {rs : List LR} {j : Nat} (h : j < rs.length) : spJ row rs (j + 1) = (spJ row rs j).set j (spentR row rs[j]) := by
  unfold spJ
  rw [List.drop_eq_getElem_cons h, List.set_append_right _ _ (by rw [List.length_map, List.length_take]; omega), List.length_map, List.length_take, Nat.min_eq_left (Nat.le_of_lt h), Nat.sub_self, List.take_add_one, List.getElem?_eq_getElem h, List.map_append, List.append_assoc]
  rfl
theorem spJ_len {row : List Int} {rs : List LR} {j : Nat} : (spJ row rs j).length = rs.length := by
  unfold spJ
  rw [List.length_append, List.length_map, List.length_take, List.length_drop]
  omega
inductive PspWaited  (vs : List V) (H : Hp) (Q : VK) : Prop
  | mk (A : AD) (rg : Int → List LR) (rw : Int → List Int) (u : Int → Int) (s : Int) (h_0 : vs = [.ref A.rg, .ref A.rw, .int s]) (h_1 : sd s) (h_2 : LH H A rg rw u) (h_3 : (labs (rg s)).Nodup) (h_4 : (∀ l ∈ rw s, l ∈ labs (rg s))) (h_5 : (rg s).length ≤ 8) (h_6 : (rw s).length ≤ 8) (h_7 : ∀ H' ts' w', LH H' (newRow (setTs A s ts') s w') (upF rg s ((rg s).map (spentR (rw s)))) (upF rw s ((rw s).filter (levR (rg s)))) u → H' (A.w s) = some (.lst ((rw s).map V.int)) → (∀ b o, b ≠ A.g s → b ≠ A.rw → H b = some o → H' b = some o) → H w' = none → (∀ t ∈ ts', t ∈ A.ts s ∨ H t = none) → Q (.ref (A.w s)) H') : PspWaited  vs H Q
def spWaited  : Sp := fun vs H Q _ => PspWaited  vs H Q
abbrev nWaited : List Str := ["_law_regs", "_law_rows", "_law_side", "_law_told", "_law_k", "_law_reg", "_law_label", "_law_kind", "_law_term", "_law_armed", "_law_here", "_law_words"]
inductive WJ (B : AD) (rg : Int → List LR) (rw' : Int → List Int) (u : Int → Int) (s : Int) (H1 : Hp) (j : Nat) (σ' : L2.St) (H2 : Hp) : Prop
  | mk (v4 v5 v6 v7 v8 v9 v10 : Option V) (ts' : List Addr) (h_0 : σ' = [some (.ref B.rg), some (.ref B.rw), some (.int s), some (.ref (B.w s)), v4, v5, v6, v7, v8, v9, v10, none]) (h_1 : LH H2 (setTs B s ts') (upF rg s (spJ (rw' s) (rg s) j)) rw' u) (h_2 : ∀ b o, b ≠ B.g s → H1 b = some o → H2 b = some o) (h_3 : ∀ t ∈ ts', t ∈ B.ts s ∨ H1 t = none) : WJ B rg rw' u s H1 j σ' H2
inductive WF (B : AD) (rg : Int → List LR) (rw' : Int → List Int) (u : Int → Int) (s : Int) (H1 : Hp) (σ' : L2.St) (H2 : Hp) : Prop
  | mk (v4 v5 v6 v7 v8 v9 v10 : Option V) (ts' : List Addr) (h_0 : σ' = [some (.ref B.rg), some (.ref B.rw), some (.int s), some (.ref (B.w s)), v4, v5, v6, v7, v8, v9, v10, none]) (h_1 : LH H2 (setTs B s ts') (upF rg s ((rg s).map (spentR (rw' s)))) rw' u) (h_2 : ∀ b o, b ≠ B.g s → H1 b = some o → H2 b = some o) (h_3 : ∀ t ∈ ts', t ∈ B.ts s ∨ H1 t = none) : WF B rg rw' u s H1 σ' H2
theorem scWaited : FnScope nWaited ["_law_regs", "_law_rows", "_law_side"] (defScope sWaited) := ⟨rfl, rfl, rfl, by decide +kernel, rfl, by decide +kernel, by decide +kernel⟩
theorem okWaited {f : Addr} {fd : FuncData} (F : Fun K "_law_waited" "_law_waited" sWaited f fd) (X : LawTx mg) (hen : mg "enumerate" = none) (hdi : mg "dict" = none) : FnOk P w K mg base CX0 1 f fd ["_law_regs", "_law_rows", "_law_side"] spWaited := by
  refine F.ok scWaited (fun vs H Q E h => ?_) (fun cdv A outer s H vs Q E hr h => ?_)
  · obtain ⟨_, _, _, _, _, rfl, _⟩ := h
    rfl
  · obtain ⟨B, rg, rw', u, s, rfl, hs, L0, hnd, hin, hz1, hz2, q⟩ := h
    have hu := hu_of hr
    refine ⟨_, pss_cut (ps_set (i := 3) scWaited.nd rfl (Or.inl rfl) (pe_ix ix_list (pv 1) (pv 2) (fun _ _ => rfl)))
      (pss_cut (ps_for PassesOwn.never rfl (pi_enum (by rfl) hen (pa_cons (pe_ix ix_list (pv 0) (pv 2) (fun _ _ => rfl)) pa_nil)) (pg_tup rfl (pgs_cons (pg_name (i := 4) scWaited.nd rfl (Or.inl rfl)) (pgs_cons (pg_name (i := 5) scWaited.nd rfl (Or.inl rfl)) pgs_nil)))
        (pss_cons (ps_asg (pv 5) (pg_tup rfl (pgs_cons (pg_name (i := 6) scWaited.nd rfl (Or.inl rfl)) (pgs_cons (pg_name (i := 7) scWaited.nd rfl (Or.inl rfl)) (pgs_cons (pg_name (i := 8) scWaited.nd rfl (Or.inl rfl)) (pgs_cons (pg_name (i := 9) scWaited.nd rfl (Or.inl rfl)) pgs_nil))))))
        (pss_one (ps_if (PW.pt (pw_and (pt_cmpR op_in_seq (pv 6) (pv 3) (by rfl)) (pw_and1 (pt_cmpR op_eq (pv 8) pe_str (nomark _)))))
          (pss_cons (ps_set (i := 10) scWaited.nd rfl (Or.inl rfl) (pe_ix ix_list (pv 0) (pv 2) (fun _ _ => rfl)))
          (pss_one (ps_asg (pe_tup (pa_cons (pv 6) (pa_cons (pv 7) (pa_cons (pv 8) (pa_cons pe_bl pa_nil))))) (pg_sub (pv 10) (pv 4) set_list)))) pss_nil))))
      (pss_cut (ps_set (i := 11) scWaited.nd rfl (Or.inr rfl) (pe_callTy (call_dictP (by rfl)) (by rfl) hdi (by decide +kernel) (pa_cons (pe_lc (own := [("_law_reg", 5)]) (g := gName 5) (tt := tYes) (te := tTup (tCons (tOp (rIxT K) (tVar 5) (tC (.int 0))) (tCons (tOp (rIxT K) (tVar 5) (tC (.int 2))) tNil))) rfl scWaited.nd (pi_list (pe_ix ix_list (pv 0) (pv 2) (fun _ _ => rfl))) (blkOk_by (N := nWaited) (sc := defScope sWaited) (by decide +kernel)) (fun _ _ _ _ _ => pg_name (i := 5) scWaited.nd rfl (Or.inl rfl)) (fun _ _ _ _ _ => pts_nil) (fun _ _ _ _ _ => pe_tup (pa_cons (pe_ix ix_tup (pv 5) pe_int (fun _ _ => rfl)) (pa_cons (pe_ix ix_tup (pv 5) pe_int (fun _ _ => rfl)) pa_nil)))) pa_nil)))
      (pss_cut (ps_asg (pe_lc (own := [("_law_label", 6)]) (g := gName 6) (tt := tTest (tOp rEq (tDGet (tVar 11) (tVar 6)) (tC (.str "level")))) (te := tVar 6) rfl scWaited.nd (pi_list (pv 3)) (blkOk_by (N := nWaited) (sc := defScope sWaited) (by decide +kernel)) (fun _ _ _ _ _ => pg_name (i := 6) scWaited.nd rfl (Or.inl rfl)) (fun _ _ _ _ _ => pts_one (pt_cmpR op_eq (pe_dget hu (pv 11) (pv 6) (fun _ _ => rfl)) pe_str (nomark _))) (fun _ _ _ _ _ => pv 6)) (pg_sub (pv 1) (pv 2) set_list))
      (pss_one (ps_ret (pv 3)))))), ?_⟩
    have hw0 := L0.hw s hs
    -- told
    refine ⟨fun σ' H1 => σ' = [some (.ref B.rg), some (.ref B.rw), some (.int s), some (.ref (B.w s)), none, none, none, none, none, none, none, none] ∧ H1 = H, ?_, ?_⟩
    · walk_at "wn"
      refine ⟨B.rw, _, s, _, rfl, rfl, SqL.of L0.hrw, at2 (f := V.ref) hs, ?_⟩
      exact ⟨rfl, rfl⟩
    rintro σ' H1 ⟨rfl, rfl⟩
    -- the once ones
    refine ⟨fun σ' H2 => WF B rg rw' u s H1 σ' H2, ?_, ?_⟩
    · show tOp _ _ _ _ _ _
      walk_at "wn"
      refine ⟨B.rg, _, s, _, rfl, rfl, SqL.of L0.hrg, at2 (f := V.ref) hs, ?_⟩
      have lts : (B.ts s).length = (rg s).length := (L0.ht s hs).length
      refine ⟨B.g s, _, rfl, SqL.of (L0.hg s hs), ?_⟩
      refine for_it (walk_enumM (n := (rg s).length)) (fun j σ' H2 => WJ B rg rw' u s H1 j σ' H2) ⟨_, _, _, _, _, _, _, B.ts s, rfl, ?_, fun b o _ e => e, fun t h => .inl h⟩ (fun j σ' H2 _ ⟨_, _, _, _, _, _, _, ts', _, L, _, _⟩ => ?_) ?_ ?_
      · exact L0.setReg hs (fun b o _ e => e) (L0.hg s hs) (L0.ht s hs)
      · have h1 := L.hg s hs
        have h2 := (L.ht s hs).length
        rw [upF_same, spJ_len] at h2
        exact ⟨_, SqL.of h1, by rw [List.length_map]; exact h2⟩
      · rintro j x σ' H2 H3 hj ⟨v4, v5, v6, v7, v8, v9, v10, ts', rfl, L2, kp, fr⟩ ⟨T, y, rfl, nT, rfl, hy⟩
        have hg2 := L2.hg s hs
        have ht2 := L2.ht s hs
        rw [upF_same] at ht2
        have hy := hy _ (SqL.of hg2)
        rw [List.getElem?_map] at hy
        cases et : (upF B.ts s ts' s)[j]? with
        | none => rw [show (setTs B s ts').ts s = upF B.ts s ts' s from rfl, et] at hy; cases hy
        | some t =>
        rw [show (setTs B s ts').ts s = upF B.ts s ts' s from rfl, et] at hy
        cases hy
        rw [upF_same] at et
        have eT : (setTs B s ts').ts s = ts' := upF_same
        rw [eT] at ht2 hg2
        obtain ⟨r, er, ht⟩ := pair_get ht2 et
        rw [spJ_at hj] at er
        cases er
        have sT := Same.new' (o := .tup [V.int (j : Nat), V.ref t]) nT
        have L3 := L2.keep (H1 := upd H2 T (.tup [V.int (j : Nat), V.ref t])) fun b o e => sT b o e
        have kp3 : ∀ b o, b ≠ B.g s → H1 b = some o → upd H2 T (.tup [V.int (j : Nat), V.ref t]) b = some o := fun b o n e => sT _ _ (kp b o n e)
        have ht3 := sT _ _ ht
        have hw3 := L3.hw s hs
        have hg3 := sT _ _ hg2
        have hrg3 := L3.hrg
        refine ⟨T, _, rfl, SqT.of upd_same, rfl, _, _, rfl, ?_⟩
        walk_at "wn"
        refine ⟨_, _, rfl, ?_⟩
        walk_at "wn"
        refine ⟨rfl, ?_⟩
        generalize upd H2 T (.tup [V.int (j : Nat), V.ref t]) = H3 at L3 kp3 ht3 hw3 hg3 hrg3
        walk_at "wn"
        refine ⟨t, _, rfl, SqT.of ht3, rfl, _, _, rfl, ?_⟩
        walk_at "wn"
        refine ⟨_, _, rfl, ?_⟩
        walk_at "wn"
        refine ⟨_, _, rfl, ?_⟩
        walk_at "wn"
        refine ⟨_, _, rfl, ?_⟩
        walk_at "wn"
        refine ⟨rfl, ?_⟩
        have same : spentR (rw' s) (rg s)[j] = (rg s)[j] → spJ (rw' s) (rg s) (j + 1) = spJ (rw' s) (rg s) j := fun e => by
          rw [spJ_succ hj, e]
          exact List.ext_getElem? fun m => by
            rw [List.getElem?_set]
            split
            · rename_i z
              subst z
              rw [spJ_at hj, if_pos (by rw [spJ_len]; exact hj)]
            · rfl
        walk_at "wn"
        refine ⟨B.w s, _, rfl, .inl (SqL.of hw3), rfl, flat_ints _, ?_⟩
        refine ⟨_, rfl, ?_⟩
        show if inV (.int (rg s)[j].lab) _ = true then _ else _
        rw [inV_int]
        by_cases h1 : (rg s)[j].lab ∈ rw' s
        · rw [decide_eq_true h1]
          walk_at "wn"
          by_cases h2 : (rg s)[j].term = "once"
          · rw [decide_eq_true (by rw [h2])]
            walk_at "wn"
            refine ⟨B.rg, _, s, _, rfl, rfl, SqL.of hrg3, at2 (f := V.ref) hs, ?_⟩
            walk_at "wn"
            refine ⟨by show 4 ≤ sizeLine; decide, fun t' ht' => ?_⟩
            have sN := Same.new' (o := .tup [V.int (rg s)[j].lab, V.int (rg s)[j].kind, V.str (rg s)[j].term, V.bl false]) ht'
            have L4 := L3.keep fun b o e => sN b o e
            have hg4 := sN _ _ hg3
            have ltn : ts'.length = (rg s).length := by rw [ht2.length, spJ_len]
            walk_at "wn"
            refine ⟨B.g s, _, (j : Int), j, rfl, rfl, hg4, by rw [List.length_map, ltn]; exact ixN_nat hj, ?_⟩
            walk_at "wn"
            have e5 : (ts'.map V.ref).set j (V.ref t') = (ts'.set j t').map V.ref := by rw [List.map_set]
            rw [e5]
            have esp : spentR (rw' s) (rg s)[j] = { (rg s)[j] with armed := false } := if_pos ⟨h1, h2⟩
            have ht4 := L4.ht s hs
            rw [eT, upF_same] at ht4
            have kk : ∀ b o, b ≠ B.g s → upd H3 t' (.tup [V.int (rg s)[j].lab, V.int (rg s)[j].kind, V.str (rg s)[j].term, V.bl false]) b = some o → upd (upd H3 t' (.tup [V.int (rg s)[j].lab, V.int (rg s)[j].kind, V.str (rg s)[j].term, V.bl false])) (B.g s) (.lst ((ts'.set j t').map V.ref)) b = some o := fun b o n e => by rw [upd_ne n]; exact e
            have L5 := L4.setReg (ts' := ts'.set j t') (rs' := (spJ (rw' s) (rg s) j).set j (spentR (rw' s) (rg s)[j])) hs kk upd_same (pair_set (pair_keep ht4 fun b xs e => kk b _ (ne_of e hg4 (by intro q; cases q)) e) (by
              rw [esp]
              exact kk _ _ (ne_of upd_same hg4 (by intro q; cases q)) upd_same) j)
            refine ⟨_, _, _, _, _, _, _, ts'.set j t', rfl, ?_, fun b o n e => kk b o n (sN _ _ (kp3 b o n e)), fun x hx => ?_⟩
            · rw [spJ_succ hj]
              have eA : setTs (setTs B s ts') s (ts'.set j t') = setTs B s (ts'.set j t') := by
                unfold setTs
                congr 1
                funext m
                show upF (upF B.ts s ts') s (ts'.set j t') m = upF B.ts s (ts'.set j t') m
                by_cases z : m = s
                · rw [z, upF_same, upF_same]
                · rw [upF_ne z, upF_ne z, upF_ne z]
              have eR : upF (upF rg s (spJ (rw' s) (rg s) j)) s ((spJ (rw' s) (rg s) j).set j (spentR (rw' s) (rg s)[j])) = upF rg s ((spJ (rw' s) (rg s) j).set j (spentR (rw' s) (rg s)[j])) := by
                funext m
                by_cases z : m = s
                · rw [z, upF_same, upF_same]
                · rw [upF_ne z, upF_ne z, upF_ne z]
              rw [eA, eR] at L5
              exact L5
            · rcases List.mem_or_eq_of_mem_set hx with z | z
              · exact fr x z
              · rw [z]
                refine .inr ?_
                cases e1 : H1 t' with
                | none => rfl
                | some o =>
                  have hg3' : H3 (B.g s) = some (.lst (ts'.map V.ref)) := hg3
                  have := kp3 t' o (fun z2 => by rw [z2, hg3'] at ht'; cases ht') e1
                  rw [ht'] at this
                  cases this
          · rw [decide_eq_false fun z => h2 (V.str.inj z)]
            walk_at "wn"
            refine ⟨_, _, _, _, _, _, _, ts', rfl, ?_, kp3, fr⟩
            rw [same (if_neg fun z => h2 z.2)]
            exact L3
        · rw [decide_eq_false h1]
          walk_at "wn"
          refine ⟨_, _, _, _, _, _, _, ts', rfl, ?_, kp3, fr⟩
          rw [same (if_neg fun z => h1 z.1)]
          exact L3
      · rintro σ' H2 ⟨v4, v5, v6, v7, v8, v9, v10, ts', rfl, L2, kp, fr⟩
        refine ⟨_, _, _, _, _, _, _, ts', rfl, ?_, kp, fr⟩
        have e : spJ (rw' s) (rg s) (rg s).length = (rg s).map (spentR (rw' s)) := by
          unfold spJ
          rw [List.take_length, List.drop_length, List.append_nil]
        rw [e] at L2
        exact L2
    rintro σ' H2 ⟨v4, v5, v6, v7, v8, v9, v10, ts', rfl, L2, kp, fr⟩
    have eT : (setTs B s ts').ts s = ts' := upF_same
    have hg2 := L2.hg s hs
    have ht2 := L2.ht s hs
    rw [upF_same, eT] at ht2
    rw [eT] at hg2
    have ltn : ts'.length = (rg s).length := by rw [ht2.length, List.length_map]
    -- the words
    refine ⟨fun σ' H3 => ∃ d : Addr, σ' = [some (.ref B.rg), some (.ref B.rw), some (.int s), some (.ref (B.w s)), v4, v5, v6, v7, v8, v9, v10, some (.ref d)] ∧ Same H2 H3 ∧ H3 d = some (.dK (mergeK [] (((rg s).map (spentR (rw' s))).map fun r => ((Sum.inl r.lab : Key), V.str r.term)))), ?_, ?_⟩
    · walk_at "wn"
      show tLc _ _ _ _ _ _ _ _
      refine ⟨_, rfl, _, rfl, B.rg, _, s, _, rfl, rfl, SqL.of L2.hrg, at2 (f := V.ref) hs, ?_⟩
      refine ⟨B.g s, rfl, ⟨_, SqL.of hg2⟩, fun D hD => lc_list (K := K) (a := B.g s) (xs := ts'.map V.ref) (fun j H' => Same H2 H' ∧ ∃ ps : List Addr, H' D = some (.lst (ps.map V.ref)) ∧ Paired (fun p kv => SqT K H' p [kV kv.1, kv.2]) ps ((((rg s).map (spentR (rw' s))).take j).map fun r => ((Sum.inl r.lab : Key), V.str r.term))) ⟨Same.new' hD, [], upd_same, .nil⟩ (fun j H' _ h => SqL.of (h.1 _ _ hg2)) ?_ ?_⟩
      · rintro j v H' hv ⟨sm, ps, hD', pD⟩
        rw [List.getElem?_map] at hv
        cases et : ts'[j]? with
        | none => rw [et] at hv; cases hv
        | some t =>
        rw [et] at hv
        cases hv
        obtain ⟨r, er, ht⟩ := pair_get ht2 et
        have ht' := sm _ _ ht
        have lp := pD.length
        rw [List.length_map, List.length_take, List.length_map] at lp
        refine ⟨rfl, ?_⟩
        walk_at "wn"
        refine ⟨t, _, 0, _, rfl, rfl, SqT.of ht', atI_nat (j := 0) rfl, ?_⟩
        walk_at "wn"
        refine ⟨t, _, 2, _, rfl, rfl, SqT.of ht', atI_nat (j := 2) rfl, ?_⟩
        walk_at "wn"
        refine ⟨by show 2 ≤ sizeLine; decide, fun p hp => ?_⟩
        have sp := Same.new' (o := .tup [V.int r.lab, V.str r.term]) hp
        have nDp : D ≠ p := ne_of_none hD' hp
        refine ⟨_, sp _ _ hD', by rw [List.length_map, sizeLine_eq]; omega, fun b o z => ?_, ps ++ [p], by rw [upd_same, List.map_append]; rfl, ?_⟩
        · rw [upd_ne (ne_of_none z hD)]
          exact sp _ _ (sm _ _ z)
        · rw [List.take_add_one, er, List.map_append]
          have up : ∀ {b : Addr} {xs : List V}, SqT K H' b xs → SqT K (upd (upd H' p (.tup [V.int r.lab, V.str r.term])) D (.lst (ps.map V.ref ++ [V.ref p]))) b xs := fun {b xs} h => by
            rcases h with (h | ⟨o, h⟩) | h
            · exact .inl (.inl ((upd_ne (ne_of h hD' (by intro q; cases q))).trans (sp _ _ h)))
            · exact .inl (.inr ⟨o, (upd_ne (ne_of h hD' (by intro q; cases q))).trans (sp _ _ h)⟩)
            · exact .inr h
          exact pair_snoc (pair_mono pD fun b kv h => up h) (SqT.of ((upd_ne (Ne.symm nDp)).trans upd_same))
      · rintro H' ⟨sm, ps, hD', pD⟩
        have e : ((rg s).map (spentR (rw' s))).take (ts'.map V.ref).length = (rg s).map (spentR (rw' s)) := by
          rw [List.length_map, ltn]
          exact List.take_of_length_le (by rw [List.length_map]; exact Nat.le_refl _)
        rw [e] at pD
        walk_at "wn"
        refine ⟨D, ps, _, rfl, SqL.of hD', pD, fun d hd => ?_⟩
        walk_at "wn"
        exact ⟨d, rfl, sm.trans (Same.new' hd), upd_same⟩
    rintro σ' H3 ⟨d, rfl, s3, hd3⟩
    have L3 := L2.keep (H1 := H3) fun b o e => s3 b o e
    have hw3 := L3.hw s hs
    have hnd2 : (labs ((rg s).map (spentR (rw' s)))).Nodup := by
      have e : labs ((rg s).map (spentR (rw' s))) = labs (rg s) := by
        unfold labs
        rw [List.map_map]
        exact List.map_congr_left fun r _ => (spentR_lab (rw' s) r).1
      rw [e]
      exact hnd
    have val : ∀ l ∈ rw' s, valV (mergeK [] (((rg s).map (spentR (rw' s))).map fun r => ((Sum.inl r.lab : Key), V.str r.term))) (Sum.inl l) = some (V.str (wdR (rg s) l)) := fun l hl => by
      obtain ⟨r, hr', rfl⟩ := List.mem_map.mp (hin l hl)
      have e1 := spentR_lab (rw' s) r
      have hm : spentR (rw' s) r ∈ (rg s).map (spentR (rw' s)) := List.mem_map.mpr ⟨r, hr', rfl⟩
      have hf := find_lab hnd2 hm
      rw [e1.1] at hf
      rw [merge_val (v := fun r => V.str r.term) hnd2, hf, (wd_of hnd hr').1]
      show some (V.str (spentR (rw' s) r).term) = _
      rw [e1.2.2]
    -- the new row
    refine ⟨fun σ' H4 => ∃ w1 : Addr, σ' = [some (.ref B.rg), some (.ref B.rw), some (.int s), some (.ref (B.w s)), v4, v5, v6, v7, v8, v9, v10, some (.ref d)] ∧ H1 w1 = none ∧ LH H4 (newRow (setTs B s ts') s w1) (upF rg s ((rg s).map (spentR (rw' s)))) (upF rw' s ((rw' s).filter (levR (rg s)))) u ∧ H4 (B.w s) = some (.lst ((rw' s).map V.int)) ∧ (∀ b o, b ≠ B.g s → b ≠ B.rw → H1 b = some o → H4 b = some o), ?_, ?_⟩
    · walk_at "wn"
      show tLc _ _ _ _ _ _ _ _
      refine ⟨_, rfl, B.w s, rfl, ⟨_, SqL.of hw3⟩, fun D hD => lc_list (K := K) (a := B.w s) (xs := (rw' s).map V.int) (fun j H' => Same H3 H' ∧ H' D = some (.lst ((((rw' s).take j).filter (levR (rg s))).map V.int))) ⟨Same.new' hD, by rw [upd_same]; rfl⟩ (fun j H' _ h => SqL.of (h.1 _ _ hw3)) ?_ ?_⟩
      · rintro j v H' hv ⟨sm, hD'⟩
        rw [List.getElem?_map] at hv
        cases el : (rw' s)[j]? with
        | none => rw [el] at hv; cases hv
        | some x =>
        rw [el] at hv
        cases hv
        refine ⟨rfl, ?_⟩
        show tTest _ _ _ _
        walk_at "wn"
        refine ⟨_, rfl, _, rfl, d, _, rfl, (val x (List.mem_of_getElem? el)) ▸ DGet.k (k := Sum.inl x) (sm _ _ hd3), ?_⟩
        walk_at "wn"
        have ed : decide (V.str (wdR (rg s) x) = V.str "level") = levR (rg s) x := by
          by_cases z : wdR (rg s) x = "level"
          · rw [decide_eq_true (by rw [z])]
            exact (decide_eq_true z).symm
          · rw [decide_eq_false fun y => z (V.str.inj y)]
            exact (decide_eq_false z).symm
        rw [ed, filter_take el, List.map_append]
        refine ite2 (fun hc => ?_) (fun hc => ?_)
        · rw [if_pos hc]
          walk_at "wn"
          refine ⟨_, hD', ?_, fun b o z => ?_, upd_same⟩
          · rw [List.length_map]
            have : (((rw' s).take j).filter (levR (rg s))).length ≤ ((rw' s).take j).length := List.length_filter_le _ _
            rw [List.length_take] at this
            rw [sizeLine_eq]
            omega
          · rw [upd_ne (ne_of_none z hD)]
            exact sm _ _ z
        · rw [if_neg hc]
          show _ ∧ H' D = some (.lst (_ ++ []))
          rw [List.append_nil]
          exact ⟨sm, hD'⟩
      · rintro H' ⟨sm, hD'⟩
        rw [List.length_map, List.take_length] at hD'
        have L4 := L3.keep (H1 := H') fun b o e => sm b o e
        walk_at "wn"
        refine ⟨B.rw, _, s, s.toNat, rfl, rfl, L4.hrw, ix2 hs, ?_⟩
        walk_at "wn"
        have nD : D ≠ B.rw := fun z => by
          have := L3.hrw
          rw [show (setTs B s ts').rw = B.rw from rfl, ← z, hD] at this
          cases this
        have k4 : ∀ b o, b ≠ B.rw → H' b = some o → upd H' B.rw (.lst (([V.ref (B.w 0), V.ref (B.w 1)] : List V).set s.toNat (.ref D))) b = some o := fun b o n e => by rw [upd_ne n]; exact e
        have L5 := LH.setRw (H := H3) (H1 := upd H' B.rw (.lst (([V.ref (B.w 0), V.ref (B.w 1)] : List V).set s.toNat (.ref D)))) (w' := D) (row := (rw' s).filter (levR (rg s))) L3 hs (fun b o n e => k4 b o n (sm _ _ e)) upd_same (k4 _ _ nD hD') hD
        refine ⟨D, rfl, ?_, L5, k4 _ _ (L0.d.w1 s hs).2.1 (sm _ _ hw3), fun b o n1 n2 e => k4 b o n2 (sm _ _ (s3 _ _ (kp b o n1 e)))⟩
        cases e1 : H1 D with
        | none => rfl
        | some o =>
          by_cases z : D = B.g s
          · have h : H3 (B.g s) = some (.lst (ts'.map V.ref)) := s3 _ _ hg2
            rw [z, h] at hD
            cases hD
          · rw [s3 _ _ (kp D o z e1)] at hD
            cases hD
    rintro σ' H4 ⟨w1, rfl, fw, L4, hw4, kp4⟩
    walk_at "wn"
    exact q H4 ts' w1 L4 hw4 kp4 fw fr
end

theorem WQ.mut {C : Cs} {Hb H H1 : Hp} {p box : Addr} {ks ks1 : List (Addr × HO)} {Φ : Sys → Prop} (W : WQ C Hb H p box ks Φ) (ch : Addr → Prop) (hch : ∀ l, ch l → ∃ o, (l, o) ∈ ks) (k : ∀ b o, ¬ ch b → b ≠ p → H b = some o → H1 b = some o) (bg : BagAt H1 p)
    (hk : ∀ q ∈ ks1, H1 q.1 = some q.2 ∧ (ch q.1 ∨ H q.1 = none)) : WQ C Hb H1 p box ks1 Φ := by
  obtain ⟨S, ad, dx, e1, A, F, o1, o2, o4⟩ := W.ex
  refine ⟨⟨S, ad, dx, e1, ⟨fun c hc => k _ _ (fun z => ?_) (fun z => o2 ⟨c, hc, z⟩) (A.at_ c hc), A.inj⟩, F, o1, o2, fun q hq z => ?_⟩, fun b o e => k b o (fun z => ?_) (fun z => by rw [z, W.bp] at e; cases e) (W.same _ _ e), bg, W.bp, fun q hq => (hk q hq).1, fun q hq => ?_⟩
  · obtain ⟨o, ho⟩ := hch _ z
    exact o4 _ ho ⟨c, hc, rfl⟩
  · rcases (hk q hq).2 with y | y
    · obtain ⟨o, ho⟩ := hch _ y
      exact o4 _ ho z
    · exact A.not_own y z
  · obtain ⟨o', ho⟩ := hch _ z
    rw [(W.kne _ ho).2] at e
    cases e
  · rcases (hk q hq).2 with y | y
    · obtain ⟨o, ho⟩ := hch _ y
      exact W.kne (q.1, o) ho
    · exact ⟨BagAt.ne' W.bag y, W.same.free y⟩
def tc : List Addr → List LR → List (Addr × HO)
  | t :: ts, r :: rs => (t, tup4 r) :: tc ts rs
  | _, _ => []
def kS (A : AD) (rg : Int → List LR) (rw : Int → List Int) (s : Int) : List (Addr × HO) := (A.g s, .lst ((A.ts s).map V.ref)) :: (A.w s, .lst ((rw s).map V.int)) :: tc (A.ts s) (rg s)
def KS (A : AD) (rg : Int → List LR) (rw : Int → List Int) (u : Int → Int) : List (Addr × HO) := (A.rg, .lst [.ref (A.g 0), .ref (A.g 1)]) :: (A.rw, .lst [.ref (A.w 0), .ref (A.w 1)]) :: (A.ul, .lst [.int (u 0), .int (u 1)]) :: (kS A rg rw 0 ++ kS A rg rw 1)
def inA (A : AD) (b : Addr) : Prop := b = A.rg ∨ b = A.rw ∨ b = A.ul ∨ ∃ s, sd s ∧ (b = A.g s ∨ b = A.w s ∨ b ∈ A.ts s)
theorem tc_at {H : Hp} {ts : List Addr} {rs : List LR} (p : Paired (fun t r => H t = some (tup4 r)) ts rs) : ∀ q ∈ tc ts rs, H q.1 = some q.2 ∧ q.1 ∈ ts := by
  induction p with
  | nil => intro q h; cases h
  | cons h _ ih =>
    intro q hq
    rcases List.mem_cons.mp hq with rfl | hq
    · exact ⟨h, List.mem_cons_self⟩
    · exact ⟨(ih q hq).1, List.mem_cons_of_mem _ (ih q hq).2⟩
theorem tc_of {H H1 : Hp} {ts : List Addr} {rs : List LR} (p : Paired (fun t r => H t = some (tup4 r)) ts rs) (h : ∀ q ∈ tc ts rs, H1 q.1 = some q.2) : Paired (fun t r => H1 t = some (tup4 r)) ts rs := by
  induction p with
  | nil => exact .nil
  | cons _ _ ih => exact .cons (h _ List.mem_cons_self) (ih fun q hq => h q (List.mem_cons_of_mem _ hq))
theorem tc_in {H : Hp} {ts : List Addr} {rs : List LR} (p : Paired (fun t r => H t = some (tup4 r)) ts rs) : ∀ t ∈ ts, ∃ o, (t, o) ∈ tc ts rs := by
  induction p with
  | nil => intro q h; cases h
  | cons h _ ih =>
    intro t ht
    rcases List.mem_cons.mp ht with rfl | ht
    · exact ⟨_, List.mem_cons_self⟩
    · obtain ⟨o, ho⟩ := ih t ht
      exact ⟨o, List.mem_cons_of_mem _ ho⟩
section
variable {H H1 : Hp} {A : AD} {rg : Int → List LR} {rw : Int → List Int} {u : Int → Int}
theorem KS_mem {q : Addr × HO} : q ∈ KS A rg rw u ↔ q = (A.rg, .lst [.ref (A.g 0), .ref (A.g 1)]) ∨ q = (A.rw, .lst [.ref (A.w 0), .ref (A.w 1)]) ∨ q = (A.ul, .lst [.int (u 0), .int (u 1)]) ∨ ∃ s, sd s ∧ (q = (A.g s, .lst ((A.ts s).map V.ref)) ∨ q = (A.w s, .lst ((rw s).map V.int)) ∨ q ∈ tc (A.ts s) (rg s)) := by
  unfold KS kS
  simp only [List.mem_cons, List.mem_append]
  constructor
  · rintro (h | h | h | h | h)
    · exact .inl h
    · exact .inr (.inl h)
    · exact .inr (.inr (.inl h))
    · exact .inr (.inr (.inr ⟨0, sd0, h⟩))
    · exact .inr (.inr (.inr ⟨1, sd1, h⟩))
  · rintro (h | h | h | ⟨s, rfl | rfl, h⟩)
    · exact .inl h
    · exact .inr (.inl h)
    · exact .inr (.inr (.inl h))
    · exact .inr (.inr (.inr (.inl h)))
    · exact .inr (.inr (.inr (.inr h)))
theorem LH.ks (L : LH H A rg rw u) : ∀ q ∈ KS A rg rw u, H q.1 = some q.2 ∧ inA A q.1 := fun q hq => by
  rcases KS_mem.mp hq with rfl | rfl | rfl | ⟨s, hs, rfl | rfl | h⟩
  · exact ⟨L.hrg, .inl rfl⟩
  · exact ⟨L.hrw, .inr (.inl rfl)⟩
  · exact ⟨L.hul, .inr (.inr (.inl rfl))⟩
  · exact ⟨L.hg s hs, .inr (.inr (.inr ⟨s, hs, .inl rfl⟩))⟩
  · exact ⟨L.hw s hs, .inr (.inr (.inr ⟨s, hs, .inr (.inl rfl)⟩))⟩
  · obtain ⟨a, b⟩ := tc_at (L.ht s hs) q h
    exact ⟨a, .inr (.inr (.inr ⟨s, hs, .inr (.inr b)⟩))⟩
theorem LH.inKS (L : LH H A rg rw u) {b : Addr} (h : inA A b) : ∃ o, (b, o) ∈ KS A rg rw u := by
  rcases h with rfl | rfl | rfl | ⟨s, hs, rfl | rfl | h⟩
  · exact ⟨_, KS_mem.mpr (.inl rfl)⟩
  · exact ⟨_, KS_mem.mpr (.inr (.inl rfl))⟩
  · exact ⟨_, KS_mem.mpr (.inr (.inr (.inl rfl)))⟩
  · exact ⟨_, KS_mem.mpr (.inr (.inr (.inr ⟨s, hs, .inl rfl⟩)))⟩
  · exact ⟨_, KS_mem.mpr (.inr (.inr (.inr ⟨s, hs, .inr (.inl rfl)⟩)))⟩
  · obtain ⟨o, ho⟩ := tc_in (L.ht s hs) b h
    exact ⟨o, KS_mem.mpr (.inr (.inr (.inr ⟨s, hs, .inr (.inr ho)⟩)))⟩
theorem LH.of_ks (L : LH H A rg rw u) (h : ∀ q ∈ KS A rg rw u, H1 q.1 = some q.2) : LH H1 A rg rw u :=
  ⟨h _ (KS_mem.mpr (.inl rfl)), h _ (KS_mem.mpr (.inr (.inl rfl))), h _ (KS_mem.mpr (.inr (.inr (.inl rfl)))), fun s hs => h _ (KS_mem.mpr (.inr (.inr (.inr ⟨s, hs, .inl rfl⟩)))), fun s hs => h _ (KS_mem.mpr (.inr (.inr (.inr ⟨s, hs, .inr (.inl rfl)⟩)))), fun s hs => tc_of (L.ht s hs) fun q hq => h q (KS_mem.mpr (.inr (.inr (.inr ⟨s, hs, .inr (.inr hq)⟩)))), L.d⟩
end
/-! the system and the law's lists -/
structure WL (C : Cs) (Hb H : Hp) (p box : Addr) (A : AD) (rg : Int → List LR) (rw : Int → List Int) (u : Int → Int) (Φ : Sys → Prop) : Prop where
  W : WQ C Hb H p box (KS A rg rw u) Φ
  L : LH H A rg rw u
section
variable {C : Cs} {Hb H H1 : Hp} {p box : Addr} {A A1 : AD} {rg rg1 : Int → List LR} {rw rw1 : Int → List Int} {u u1 : Int → Int} {Φ Φ1 : Sys → Prop} {many : Nat} {s : Int} {r : LR} {wd : Str} {Q : VK} {E : XK} {i : Nat}
theorem WL.of (W : WL C Hb H p box A rg rw u Φ) (W1 : WQ C Hb H1 p box (KS A rg rw u) Φ1) : WL C Hb H1 p box A rg rw u Φ1 := ⟨W1, W.L.of_ks W1.kat⟩
theorem WL.draw (W : WL C Hb H p box A rg rw u Φ) (e : ∀ b, b ≠ p → H1 b = H b) (bg : BagAt H1 p) : WL C Hb H1 p box A rg rw u Φ := W.of (W.W.draw e bg)
theorem WL.same' (W : WL C Hb H p box A rg rw u Φ) (e : Same H H1) : WL C Hb H1 p box A rg rw u Φ := W.of (W.W.same' e)
theorem WL.to (W : WL C Hb H p box A rg rw u Φ) (f : ∀ S, Φ S → Φ1 S) : WL C Hb H p box A rg rw u Φ1 := ⟨W.W.to f, W.L⟩
theorem WL.mut (W : WL C Hb H p box A rg rw u Φ) (L1 : LH H1 A1 rg1 rw1 u1) (k : ∀ b o, ¬ inA A b → H b = some o → H1 b = some o) (hin : ∀ b, inA A1 b → inA A b ∨ H b = none) : WL C Hb H1 p box A1 rg1 rw1 u1 Φ := by
  have np : ¬ inA A p := fun z => by
    obtain ⟨o, ho⟩ := W.L.inKS z
    exact (W.W.kne _ ho).1 rfl
  refine ⟨W.W.mut (inA A) (fun l h => W.L.inKS h) (fun b o n _ e => k b o n e) ?_ fun q hq => ?_, L1⟩
  · obtain ⟨x, y, e, z⟩ := W.W.bag
    exact ⟨x, y, k _ _ np e, z⟩
  · obtain ⟨a, b⟩ := L1.ks q hq
    exact ⟨a, hin _ b⟩
theorem WL.arrive {n k : Int} (W : WL C Hb H p box A rg rw u fun S => Pic S many rg1 rw1 u1) (hk : sd k) (hn : (k = 0 ∧ 2 ≤ n ∧ n ≤ many + 1) ∨ (k = 1 ∧ n = many + 2))
    (q : ∀ H1, WL C Hb H1 p box A rg rw u (fun S => Pic S many rg1 (fun s => arrRow k (rg1 s) (rw1 s)) (upF u1 k (u1 k + 1))) → Q .non H1) : spArrive C [.ref box, .int 0, .int n, .int 1] H Q E := by
  obtain ⟨S, ad, dx, hb, A0, F, o1, o2, o4⟩ := W.W.ex
  have hm : Means S 0 n (2 + k) := by
    rcases hn with ⟨rfl, a, b⟩ | ⟨rfl, rfl⟩
    · exact F.mn n a b
    · exact F.mo
  exact ⟨0, n, 2 + k, 1, S, ad, dx, by rw [hb], A0, hm, F.inK hk, by rw [F.unit k hk], by decide, by decide, F.small, fun H3 ad3 A3 st3 => q _ (W.of (W.W.call (ad := ad) hb o1 o2 o4 A3 st3 (F.arrive hk)))⟩
theorem WL.change (W : WL C Hb H p box A rg rw u fun S => Pic S many rg1 rw1 u1) (hs : sd s) (hi : (rg1 s)[i]? = some r) (hw : wd ∈ wordsL) (hu : 0 < u1 r.kind)
    (q : ∀ H1, WL C Hb H1 p box A rg rw u (fun S => Pic S many (upF rg1 s ((rg1 s).set i ⟨r.lab, r.kind, wd, true⟩)) (upF rw1 s (qAdd r.lab (rw1 s))) u1) → Q .non H1) : spChange C [.ref box, .int 0, .int s, .int r.lab, .str wd] H Q E := by
  obtain ⟨S, ad, dx, hb, A0, F, o1, o2, o4⟩ := W.W.ex
  have hr := List.mem_of_getElem? hi
  exact ⟨0, s, r.lab, r.lab, s, 2 + r.kind, wd, S, ad, dx, by rw [hb], A0, F.meansS hs, F.inS hs, F.means hs hr, F.inK ((F.good s hs).kd hr), hw, F.find hs hr, F.small, fun H3 ad3 dx3 A3 st3 => q _ (W.of (W.W.call (ad := ad) hb o1 o2 o4 A3 st3 (F.change hs hi hw hu)))⟩
theorem WL.remove (W : WL C Hb H p box A rg rw u fun S => Pic S many rg1 rw1 u1) (hs : sd s) (hi : (rg1 s)[i]? = some r)
    (q : ∀ H1, WL C Hb H1 p box A rg rw u (fun S => Pic S many (upF rg1 s ((rg1 s).eraseIdx i)) (upF rw1 s (without r.lab (rw1 s))) u1) → Q .non H1) : spRemove C [.ref box, .int 0, .int s, .int r.lab] H Q E := by
  obtain ⟨S, ad, dx, hb, A0, F, o1, o2, o4⟩ := W.W.ex
  have hr := List.mem_of_getElem? hi
  exact ⟨0, s, r.lab, r.lab, s, 2 + r.kind, S, ad, dx, by rw [hb], A0, F.meansS hs, F.inS hs, F.means hs hr, F.inK ((F.good s hs).kd hr), F.find hs hr, F.small, fun H3 ad3 dx3 A3 st3 => q _ (W.of (W.W.call (ad := ad) hb o1 o2 o4 A3 st3 (F.remove hs hi)))⟩
theorem WL.add (W : WL C Hb H p box A rg rw u fun S => Pic S many rg1 rw1 u1) (hs : sd s) (ha : r.armed = true) (h : 2 ≤ r.lab ∧ r.lab ≤ many + 2 ∧ r.kind = (if r.lab = many + 2 then 1 else 0) ∧ r.term ∈ wordsL) (n : r.lab ∉ labs (rg1 s))
    (q : ∀ H1, WL C Hb H1 p box A rg rw u (fun S => Pic S many (upF rg1 s (rg1 s ++ [r])) (upF rw1 s (if decide (0 < u1 r.kind) = true then rw1 s ++ [r.lab] else rw1 s)) u1) → Q .non H1) : spAdd C [.ref box, .int 0, .int s, .int r.lab, .int r.lab, .str r.term] H Q E := by
  obtain ⟨S, ad, dx, hb, A0, F, o1, o2, o4⟩ := W.W.ex
  have hk : sd r.kind := by
    rw [h.2.2.1]
    split
    · exact sd1
    · exact sd0
  have hm : Means S 0 r.lab (2 + r.kind) := by
    rw [h.2.2.1]
    by_cases e : r.lab = many + 2
    · rw [if_pos e, e]
      exact F.mo
    · rw [if_neg e]
      exact F.mn r.lab h.1 (by omega)
  have h5 := F.few.2
  exact ⟨0, s, r.lab, r.lab, s, 2 + r.kind, r.term, S, ad, dx, by rw [hb], A0, F.meansS hs, F.inS hs, hm, F.inK hk, by omega, by omega, h.2.2.2, F.nofind hs n, by rw [F.ents s hs]; exact n, F.small, fun H3 ad3 dx3 A3 st3 => q _ (W.of (W.W.call (ad := ad) hb o1 o2 o4 A3 st3 (F.add hs ha h n)))⟩
theorem WL.rowOf (W : WL C Hb H p box A rg rw u fun S => Pic S many rg1 rw1 u1) (hs : sd s) (q : ∀ a, H a = none → Q (.ref a) (upd H a (.lst ((rw1 s).map V.int)))) : spRowOf C [.ref box, .int 0, .int s] H Q E := by
  obtain ⟨S, ad, dx, hb, A0, F, o1, o2, o4⟩ := W.W.ex
  refine ⟨0, s, s, S, ad, dx, by rw [hb], A0, F.meansS hs, F.inS hs, ?_⟩
  rw [F.que s hs]
  exact q
end

theorem without_take {l x : Int} {qs : List Int} {i : Nat} (el : qs[i]? = some x) : without l (qs.take (i + 1)) = without l (qs.take i) ++ (if x ≠ l then [x] else []) := by
  unfold without
  rw [List.take_add_one, el, List.filter_append]
  by_cases h : x = l
  · rw [if_neg (fun z => z h)]
    simp [h]
  · rw [if_pos h]
    simp [h]
theorem pair_erase {α β : Type} {r : α → β → Prop} {xs : List α} {ys : List β} (p : Paired r xs ys) : ∀ j : Nat, Paired r (xs.eraseIdx j) (ys.eraseIdx j) := by
  induction p with
  | nil => intro j; exact .nil
  | cons h0 h1 ih =>
    intro j
    cases j with
    | zero => exact h1
    | succ j => exact .cons h0 (ih j)
theorem map_erase {α β : Type} (f : α → β) : ∀ (l : List α) (i : Nat), (l.map f).eraseIdx i = (l.eraseIdx i).map f
  | [], _ => rfl
  | _ :: _, 0 => rfl
  | x :: l, i + 1 => by
    show f x :: (l.map f).eraseIdx i = _
    rw [map_erase f l i]
    rfl
theorem upF_twice {α : Type} {f : Int → α} {s : Int} {v w : α} : upF (upF f s v) s w = upF f s w := by
  funext m
  by_cases z : m = s
  · rw [z, upF_same, upF_same]
  · rw [upF_ne z, upF_ne z, upF_ne z]
theorem setTs_twice {A : AD} {s : Int} {t t' : List Addr} : setTs (setTs A s t) s t' = setTs A s t' := by
  unfold setTs
  congr 1
  exact upF_twice
theorem in_setTs {A : AD} {s : Int} {ts : List Addr} {H : Hp} (h : ∀ t ∈ ts, t ∈ A.ts s ∨ H t = none) (hs : sd s) {b : Addr} (hb : inA (setTs A s ts) b) : inA A b ∨ H b = none := by
  rcases hb with h1 | h1 | h1 | ⟨j, hj, h1 | h1 | h1⟩
  · exact .inl (.inl h1)
  · exact .inl (.inr (.inl h1))
  · exact .inl (.inr (.inr (.inl h1)))
  · exact .inl (.inr (.inr (.inr ⟨j, hj, .inl h1⟩)))
  · exact .inl (.inr (.inr (.inr ⟨j, hj, .inr (.inl h1)⟩)))
  · by_cases e : j = s
    · have h1 : b ∈ upF A.ts s ts j := h1
      rw [e, upF_same] at h1
      rcases h b h1 with y | y
      · exact .inl (.inr (.inr (.inr ⟨s, hs, .inr (.inr y)⟩)))
      · exact .inr y
    · have h1 : b ∈ upF A.ts s ts j := h1
      rw [upF_ne e] at h1
      exact .inl (.inr (.inr (.inr ⟨j, hj, .inr (.inr h1)⟩)))
theorem in_newRow {A : AD} {s : Int} {w : Addr} {H : Hp} (h : H w = none) {b : Addr} (hb : inA (newRow A s w) b) : inA A b ∨ H b = none := by
  rcases hb with h1 | h1 | h1 | ⟨j, hj, h1 | h1 | h1⟩
  · exact .inl (.inl h1)
  · exact .inl (.inr (.inl h1))
  · exact .inl (.inr (.inr (.inl h1)))
  · exact .inl (.inr (.inr (.inr ⟨j, hj, .inl h1⟩)))
  · have h1 : b = upF A.w s w j := h1
    by_cases e : j = s
    · rw [e, upF_same] at h1
      rw [h1]
      exact .inr h
    · rw [upF_ne e] at h1
      exact .inl (.inr (.inr (.inr ⟨j, hj, .inr (.inl h1)⟩)))
  · exact .inl (.inr (.inr (.inr ⟨j, hj, .inr (.inr h1)⟩)))
theorem in_g {A : AD} {s : Int} (hs : sd s) : inA A (A.g s) := .inr (.inr (.inr ⟨s, hs, .inl rfl⟩))
theorem in_w {A : AD} {s : Int} (hs : sd s) : inA A (A.w s) := .inr (.inr (.inr ⟨s, hs, .inr (.inl rfl)⟩))
section
variable {P : Program} {w : World} {K : PySem.W.Frag} {mg : Str → Option Value} {base : Heap} {C : Cs}
inductive PspAnew (C : Cs) (vs : List V) (H : Hp) (Q : VK) : Prop
  | mk (Hb : Hp) (p box : Addr) (A : AD) (rg : Int → List LR) (rw : Int → List Int) (u : Int → Int) (many : Nat) (s : Int) (h_0 : vs = [.ref p, .ref box, .ref A.rg, .ref A.rw, .int s]) (h_1 : sd s) (h_2 : WL C Hb H p box A rg rw u (fun S => Pic S many rg rw u)) (h_3 : 0 < (rg s).length) (h_4 : (∀ k, sd k → 0 < u k)) (h_5 : ∀ H' A' rg' rw', A'.rg = A.rg → A'.rw = A.rw → A'.ul = A.ul → (∀ j, sd j → (rg' j).length = (rg j).length) → WL C Hb H' p box A' rg' rw' u (fun S => Pic S many rg' rw' u) → Q .non H') : PspAnew C vs H Q
def spAnew (C : Cs) : Sp := fun vs H Q _ => PspAnew C vs H Q
abbrev nAnew : List Str := ["_law_bag_here", "_law_box", "_law_regs", "_law_rows", "_law_side", "_law_k", "_law_term", "_law_here", "_law_label", "_law_kind", "_law_elder", "_law_armed", "_law_one"]
theorem scAnew : FnScope nAnew ["_law_bag_here", "_law_box", "_law_regs", "_law_rows", "_law_side"] (defScope sAnew) := ⟨rfl, rfl, rfl, by decide +kernel, rfl, by decide +kernel, by decide +kernel⟩
theorem okAnew {f fT fO fC fM fD : Addr} {fd fdT fdO fdC fdM fdD : FuncData} {gC gA : List Value → List Value → List Value} (F : Fun K "_law_anew" "_law_anew" sAnew f fd) (X : LawTx mg) (T : ClsF K C.S sysF)
    (GT : DO P w K mg base 1 "_law_take" ["_law_bag_here", "_law_many"] spTake fT fdT) (GO : DO P w K mg base 2 "_law_of" ["_law_bag_here", "_law_some"] (spOf K) fO fdO)
    (GC : MW P w K mg base 6 C.S "change" ["self", "process", "set_number", "number", "word"] (spChange C) fC fdC 4 ["word"] gC (fun vs zs => vs ++ zs)) (GA : MW P w K mg base 6 C.S "add" ["self", "process", "set_number", "number", "label", "word"] (spAdd C) fD fdD 5 ["word"] gA (fun vs zs => vs ++ zs))
    (GM : MO P w K mg base 6 C.S "remove" ["self", "process", "set_number", "number"] (spRemove C) fM fdM) :
    FnOk P w K mg base CX0 7 f fd ["_law_bag_here", "_law_box", "_law_regs", "_law_rows", "_law_side"] (spAnew C) := by
  refine F.ok scAnew (fun vs H Q E h => ?_) (fun cdv A outer s H vs Q E hr h => ?_)
  · obtain ⟨_, _, _, _, _, _, _, _, _, rfl, _⟩ := h
    rfl
  · obtain ⟨Hb, p, box, B, rg, rw', u, many, s, rfl, hs, W0, hz, hpos, q⟩ := h
    have hu := hr.units
    have r1 : Room 1 _ := hr.mono (by decide)
    have r2 : Room 2 _ := hr.mono (by decide)
    refine ⟨_, pss_cut (ps_par (i := 5) (j := 6) (by rfl) scAnew.nd rfl rfl (by decide) rfl rfl (pa_cons (pe_call GT.g r1 (by rfl) GT.m GT.k GT.b .nil pass0 (pa_cons (pv 0) (pa_cons (pe_callB cLenQ (by rfl) X.len PySem.boot_len (pa_cons (pe_ix ix_list (pv 2) (pv 4) (fun _ _ => rfl)) pa_nil)) pa_nil))) (pa_cons (pe_call GO.g r2 (by rfl) GO.m GO.k GO.b .nil pass0 (pa_cons (pv 0) (pa_cons (pe_lst (pa_cons pe_str (pa_cons pe_str (pa_cons pe_str pa_nil)))) pa_nil))) pa_nil)) (by rfl))
      (pss_cut (ps_set (i := 7) scAnew.nd rfl (Or.inl rfl) (pe_ix ix_list (pv 2) (pv 4) (fun _ _ => rfl)))
      (pss_cut (ps_asg (pe_ix ix_list (pv 7) (pv 5) (fun _ _ => rfl)) (pg_tup rfl (pgs_cons (pg_name (i := 8) scAnew.nd rfl (Or.inr rfl)) (pgs_cons (pg_name (i := 9) scAnew.nd rfl (Or.inl rfl)) (pgs_cons (pg_name (i := 10) scAnew.nd rfl (Or.inl rfl)) (pgs_cons (pg_name (i := 11) scAnew.nd rfl (Or.inl rfl)) pgs_nil))))))
      (pss_one (ps_if (pt_cmpR op_eq (pe_call GT.g r1 (by rfl) GT.m GT.k GT.b .nil pass0 (pa_cons (pv 0) (pa_cons pe_int pa_nil))) pe_int (nomark _))
        (pss_cut (ps_expr (pe_methK (pv 1) T.cl GC.m GC.g hr GC.b pass0 (pa_cons pe_int (pa_cons (pv 4) (pa_cons (pv 8) pa_nil))) (pk_cons (pv 6) pk_nil)))
        (pss_cut (ps_asg (pe_tup (pa_cons (pv 8) (pa_cons (pv 9) (pa_cons (pv 6) (pa_cons pe_bl pa_nil))))) (pg_sub (pv 7) (pv 5) set_list))
        (pss_one (ps_if (pt_cmpR op_notIn_seq (pv 8) (pe_ix ix_list (pv 3) (pv 4) (fun _ _ => rfl)) (by rfl)) (pss_one (ps_expr (pe_bm PySem.F.plainAttrs_list PySem.F.slot_list_append PySem.F.type_list_append mt_append (pe_ix ix_list (pv 3) (pv 4) (fun _ _ => rfl)) (pa_cons (pv 8) pa_nil)))) pss_nil))))
        (pss_cut (ps_expr (pe_meth (pv 1) T.cl GM.m GM.g hr GM.b .nil pass0 (pa_cons pe_int (pa_cons (pv 4) (pa_cons (pv 8) pa_nil)))))
        (pss_cut (ps_expr (pe_methK (pv 1) T.cl GA.m GA.g hr GA.b pass0 (pa_cons pe_int (pa_cons (pv 4) (pa_cons (pv 8) (pa_cons (pv 8) pa_nil)))) (pk_cons (pv 6) pk_nil)))
        (pss_cut (ps_expr (pe_bm PySem.F.plainAttrs_list PySem.F.slot_list_pop PySem.F.type_list_pop mt_popAt (pv 7) (pa_cons (pv 5) pa_nil)))
        (pss_cut (ps_expr (pe_bm PySem.F.plainAttrs_list PySem.F.slot_list_append PySem.F.type_list_append mt_append (pv 7) (pa_cons (pe_tup (pa_cons (pv 8) (pa_cons (pv 9) (pa_cons (pv 6) (pa_cons pe_bl pa_nil))))) pa_nil)))
        (pss_one (ps_asg (pe_op op_cat (pe_lc (own := [("_law_one", 12)]) (g := gName 12) (tt := tTest (tOp rNe (tVar 12) (tVar 8))) (te := tVar 12) rfl scAnew.nd (pi_list (pe_ix ix_list (pv 3) (pv 4) (fun _ _ => rfl))) (blkOk_by (N := nAnew) (sc := defScope sAnew) (by decide +kernel)) (fun _ _ _ _ _ => pg_name (i := 12) scAnew.nd rfl (Or.inl rfl)) (fun _ _ _ _ _ => pts_one (pt_cmpR op_ne (pv 12) (pv 8) (nomark _))) (fun _ _ _ _ _ => pv 12)) (pe_lst (pa_cons (pv 8) pa_nil))) (pg_sub (pv 3) (pv 4) set_list))))))))))), ?_⟩
    have h5 : many ≤ 5 := W0.W.pure fun S F => F.few.2
    have G0 : Good many (rg s) (rw' s) := W0.W.pure fun S F => F.good s hs
    have lz := G0.len h5
    have lts : (B.ts s).length = (rg s).length := (W0.L.ht s hs).length
    -- the draws
    refine ⟨fun σ' H1 => ∃ (i : Nat) (r : LR) (wd : Str), (rg s)[i]? = some r ∧ wd ∈ wordsL ∧ σ' = [some (.ref p), some (.ref box), some (.ref B.rg), some (.ref B.rw), some (.int s), some (.int (i : Int)), some (.str wd), none, none, none, none, none, none] ∧ WL C Hb H1 p box B rg rw' u (fun S => Pic S many rg rw' u), ?_, ?_⟩
    · show tCons _ _ _ _ _
      walk_at "wn"
      refine ⟨B.rg, _, s, _, rfl, rfl, SqL.of W0.L.hrg, at2 (f := V.ref) hs, ?_⟩
      refine ⟨B.g s, _, rfl, .inl (SqL.of (W0.L.hg s hs)), ?_⟩
      walk_at "wn"
      refine ⟨p, _, rfl, W0.W.bag, by rw [List.length_map]; omega, by rw [List.length_map]; omega, fun kk H1 k0 k1 e1 b1 => ?_⟩
      rw [List.length_map, lts] at k1
      have W1 := W0.draw e1 b1
      walk_at "wn"
      refine ⟨by show 3 ≤ sizeLine; decide, fun l1 h1 => ?_⟩
      have W2 := W1.same' (Same.new' (o := .lst [V.str "level", V.str "edge", V.str "once"]) h1)
      walk_at "wn"
      refine ⟨p, l1, [V.str "level", V.str "edge", V.str "once"], rfl, W2.W.bag, SqL.of upd_same, BagAt.ne' W1.W.bag h1, by show 0 < 3; decide, by show 3 ≤ 1000; decide, fun jj v H2 hv e2 b2 => ?_⟩
      obtain ⟨wd, rfl, hw⟩ : ∃ wd, v = V.str wd ∧ wd ∈ wordsL := by
        have hm := List.mem_of_getElem? hv
        simp only [List.mem_cons, List.not_mem_nil, or_false] at hm
        rcases hm with rfl | rfl | rfl
        · exact ⟨_, rfl, by decide⟩
        · exact ⟨_, rfl, by decide⟩
        · exact ⟨_, rfl, by decide⟩
      have hi : kk.toNat < (rg s).length := by omega
      have ek : ((kk.toNat : Nat) : Int) = kk := by omega
      exact ⟨_, _, rfl, kk.toNat, (rg s)[kk.toNat], wd, List.getElem?_eq_getElem hi, hw, by rw [ek]; rfl, W2.draw e2 b2⟩
    rintro σ' H1 ⟨i, r, wd, hi, hw, rfl, W1⟩
    obtain ⟨hil, eil⟩ := List.getElem?_eq_some_iff.mp hi
    have hrm : r ∈ rg s := List.mem_of_getElem? hi
    refine ⟨fun σ' H2 => σ' = [some (.ref p), some (.ref box), some (.ref B.rg), some (.ref B.rw), some (.int s), some (.int (i : Int)), some (.str wd), some (.ref (B.g s)), none, none, none, none, none] ∧ WL C Hb H2 p box B rg rw' u (fun S => Pic S many rg rw' u), ?_, ?_⟩
    · walk_at "wn"
      refine ⟨B.rg, _, s, _, rfl, rfl, SqL.of W1.L.hrg, at2 (f := V.ref) hs, ?_⟩
      exact ⟨rfl, W1⟩
    rintro σ' H2 ⟨rfl, W2⟩
    refine ⟨fun σ' H3 => σ' = [some (.ref p), some (.ref box), some (.ref B.rg), some (.ref B.rw), some (.int s), some (.int (i : Int)), some (.str wd), some (.ref (B.g s)), some (.int r.lab), some (.int r.kind), some (.str r.term), some (.bl r.armed), none] ∧ WL C Hb H3 p box B rg rw' u (fun S => Pic S many rg rw' u), ?_, ?_⟩
    · obtain ⟨t, et⟩ : ∃ t, (B.ts s)[i]? = some t := ⟨(B.ts s)[i], List.getElem?_eq_getElem (by rw [lts]; exact hil)⟩
      obtain ⟨r', er, ht⟩ := pair_get (W2.L.ht s hs) et
      rw [hi] at er
      cases er
      walk_at "wn"
      refine ⟨B.g s, _, (i : Int), _, rfl, rfl, SqL.of (W2.L.hg s hs), atI_nat (j := i) (by rw [List.getElem?_map, et]; rfl), ?_⟩
      refine ⟨t, _, rfl, SqT.of ht, rfl, _, _, rfl, ?_⟩
      walk_at "wn"
      refine ⟨_, _, rfl, ?_⟩
      walk_at "wn"
      refine ⟨_, _, rfl, ?_⟩
      walk_at "wn"
      refine ⟨_, _, rfl, ?_⟩
      walk_at "wn"
      refine ⟨rfl, ?_⟩
      exact ⟨rfl, W2⟩
    rintro σ' H3 ⟨rfl, W3⟩
    have hk := G0.kd hrm
    have hup := hpos _ hk
    obtain ⟨ok1, ok2, ok3, ok4⟩ := G0.ok r hrm
    walk_at "wn"
    refine ⟨p, 2, rfl, W3.W.bag, by decide, by decide, fun way H4 w0 w1 e4 b4 => ?_⟩
    have W4 := W3.draw e4 b4
    walk_at "wn"
    refine ite2 (fun hc => ?_) (fun hc => ?_)
    · -- changed
      refine ⟨fun σ' H5 => σ' = [some (.ref p), some (.ref box), some (.ref B.rg), some (.ref B.rw), some (.int s), some (.int (i : Int)), some (.str wd), some (.ref (B.g s)), some (.int r.lab), some (.int r.kind), some (.str r.term), some (.bl r.armed), none] ∧ WL C Hb H5 p box B rg rw' u (fun S => Pic S many (upF rg s ((rg s).set i ⟨r.lab, r.kind, wd, true⟩)) (upF rw' s (qAdd r.lab (rw' s))) u), ?_, ?_⟩
      · obtain ⟨bx, bS, td, sd', ud, hb⟩ := W4.W.boxAt
        walk_at "wn"
        refine ⟨_, rfl, box, bx, _, rfl, hb, rfl, ?_⟩
        walk_at "wn"
        refine ⟨rfl, rfl, ?_⟩
        refine W4.change hs hi hw hup fun H5 W5 => ?_
        walk_at "wn"
        exact ⟨rfl, W5⟩
      rintro σ' H5 ⟨rfl, W5⟩
      refine ⟨fun σ' H6 => ∃ ts', σ' = [some (.ref p), some (.ref box), some (.ref B.rg), some (.ref B.rw), some (.int s), some (.int (i : Int)), some (.str wd), some (.ref (B.g s)), some (.int r.lab), some (.int r.kind), some (.str r.term), some (.bl r.armed), none] ∧ WL C Hb H6 p box (setTs B s ts') (upF rg s ((rg s).set i ⟨r.lab, r.kind, wd, true⟩)) rw' u (fun S => Pic S many (upF rg s ((rg s).set i ⟨r.lab, r.kind, wd, true⟩)) (upF rw' s (qAdd r.lab (rw' s))) u), ?_, ?_⟩
      · have hg5 := W5.L.hg s hs
        walk_at "wn"
        refine ⟨by show 4 ≤ sizeLine; decide, fun t' ht' => ?_⟩
        have sN := Same.new' (o := .tup [V.int r.lab, V.int r.kind, V.str wd, V.bl true]) ht'
        have hgN := sN _ _ hg5
        walk_at "wn"
        refine ⟨B.g s, _, (i : Int), i, rfl, rfl, hgN, by rw [List.length_map, lts]; exact ixN_nat hil, ?_⟩
        walk_at "wn"
        have e5 : ((B.ts s).map V.ref).set i (V.ref t') = ((B.ts s).set i t').map V.ref := by rw [List.map_set]
        rw [e5]
        have kk : ∀ b o, b ≠ B.g s → H5 b = some o → upd (upd H5 t' (.tup [V.int r.lab, V.int r.kind, V.str wd, V.bl true])) (B.g s) (.lst (((B.ts s).set i t').map V.ref)) b = some o := fun b o n e => by rw [upd_ne n]; exact sN _ _ e
        have L6 := W5.L.setReg (ts' := (B.ts s).set i t') (rs' := (rg s).set i ⟨r.lab, r.kind, wd, true⟩) hs kk upd_same (pair_set (pair_keep (W5.L.ht s hs) fun b xs e => kk b _ (ne_of e hg5 (by intro q; cases q)) e) ((upd_ne (ne_of upd_same hgN (by intro q; cases q))).trans upd_same) i)
        refine ⟨(B.ts s).set i t', rfl, W5.mut L6 (fun b o n e => kk b o (fun z => n (z ▸ in_g hs)) e) fun b hb => in_setTs (fun t ht => ?_) hs hb⟩
        rcases List.mem_or_eq_of_mem_set ht with z | z
        · exact .inl z
        · exact .inr (by rw [z]; exact ht')
      rintro σ' H6 ⟨ts', rfl, W6⟩
      have hw6 := W6.L.hw s hs
      walk_at "wn"
      refine ⟨B.rw, _, s, _, rfl, rfl, SqL.of W6.L.hrw, at2 (f := V.ref) hs, ?_⟩
      refine ⟨B.w s, _, rfl, .inl (SqL.of hw6), rfl, flat_ints _, ?_⟩
      refine ⟨_, rfl, ?_⟩
      show if (!inV (.int r.lab) _) = true then _ else _
      rw [inV_int]
      have lens : ∀ j, sd j → (upF rg s ((rg s).set i ⟨r.lab, r.kind, wd, true⟩) j).length = (rg j).length := fun j _ => by
        by_cases e : j = s
        · rw [e, upF_same, List.length_set]
        · rw [upF_ne e]
      by_cases hin : r.lab ∈ rw' s
      · rw [decide_eq_true hin]
        walk_at "wn"
        have e : qAdd r.lab (rw' s) = rw' s := if_pos hin
        rw [e] at W6
        have e2 : upF rw' s (rw' s) = rw' := by
          funext m
          by_cases z : m = s
          · rw [z, upF_same]
          · rw [upF_ne z]
        rw [e2] at W6
        exact q _ (setTs B s ts') _ _ rfl rfl rfl lens W6
      · rw [decide_eq_false hin]
        walk_at "wn"
        refine ⟨B.rw, _, s, _, rfl, rfl, SqL.of W6.L.hrw, at2 (f := V.ref) hs, ?_⟩
        refine ⟨.inl ⟨rfl, _, SqL.of hw6⟩, ?_⟩
        walk_at "wn"
        have lr := G0.rlen h5
        refine ⟨B.w s, _, _, rfl, rfl, hw6, by rw [List.length_map, sizeLine_eq]; omega, ?_⟩
        have e : qAdd r.lab (rw' s) = rw' s ++ [r.lab] := if_neg hin
        rw [e] at W6
        have L7 := W6.L.setRow (row := rw' s ++ [r.lab]) (H1 := upd H6 (B.w s) (.lst ((rw' s).map V.int ++ [V.int r.lab]))) hs (fun b n => upd_ne n) (by
          show upd H6 (B.w s) _ (B.w s) = _
          rw [upd_same, List.map_append]
          rfl)
        exact q _ (setTs B s ts') _ _ rfl rfl rfl lens (W6.mut L7 (fun b o n e => by rw [upd_ne fun z => n (by rw [z]; exact in_w (A := setTs B s ts') hs)]; exact e) fun b hb => .inl hb)
    · -- removed and added anew
      refine ⟨fun σ' H5 => σ' = [some (.ref p), some (.ref box), some (.ref B.rg), some (.ref B.rw), some (.int s), some (.int (i : Int)), some (.str wd), some (.ref (B.g s)), some (.int r.lab), some (.int r.kind), some (.str r.term), some (.bl r.armed), none] ∧ WL C Hb H5 p box B rg rw' u (fun S => Pic S many (upF rg s ((rg s).eraseIdx i)) (upF rw' s (without r.lab (rw' s))) u), ?_, ?_⟩
      · obtain ⟨bx, bS, td, sd', ud, hb⟩ := W4.W.boxAt
        walk_at "wn"
        refine ⟨_, rfl, box, bx, _, rfl, hb, rfl, ?_⟩
        walk_at "wn"
        refine W4.remove hs hi fun H5 W5 => ?_
        walk_at "wn"
        exact ⟨rfl, W5⟩
      rintro σ' H5 ⟨rfl, W5⟩
      refine ⟨fun σ' H6 => σ' = [some (.ref p), some (.ref box), some (.ref B.rg), some (.ref B.rw), some (.int s), some (.int (i : Int)), some (.str wd), some (.ref (B.g s)), some (.int r.lab), some (.int r.kind), some (.str r.term), some (.bl r.armed), none] ∧ WL C Hb H6 p box B rg rw' u (fun S => Pic S many (upF rg s ((rg s).eraseIdx i ++ [⟨r.lab, r.kind, wd, true⟩])) (upF rw' s (without r.lab (rw' s) ++ [r.lab])) u), ?_, ?_⟩
      · obtain ⟨bx, bS, td, sd', ud, hb⟩ := W5.W.boxAt
        walk_at "wn"
        refine ⟨_, rfl, box, bx, _, rfl, hb, rfl, ?_⟩
        walk_at "wn"
        refine ⟨rfl, rfl, ?_⟩
        refine W5.add (r := ⟨r.lab, r.kind, wd, true⟩) hs rfl ⟨ok1, ok2, ok3, hw⟩ ?_ fun H6 W6 => ?_
        · rw [upF_same, erase_labs G0.nd hi]
          exact fun z => (mem_without.mp z).2 rfl
        · walk_at "wn"
          refine ⟨rfl, W6.to fun S h => ?_⟩
          rw [upF_same, upF_same, upF_twice, upF_twice, if_pos (decide_eq_true hup)] at h
          exact h
      rintro σ' H6 ⟨rfl, W6⟩
      refine ⟨fun σ' H7 => σ' = [some (.ref p), some (.ref box), some (.ref B.rg), some (.ref B.rw), some (.int s), some (.int (i : Int)), some (.str wd), some (.ref (B.g s)), some (.int r.lab), some (.int r.kind), some (.str r.term), some (.bl r.armed), none] ∧ WL C Hb H7 p box (setTs B s ((B.ts s).eraseIdx i)) (upF rg s ((rg s).eraseIdx i)) rw' u (fun S => Pic S many (upF rg s ((rg s).eraseIdx i ++ [⟨r.lab, r.kind, wd, true⟩])) (upF rw' s (without r.lab (rw' s) ++ [r.lab])) u), ?_, ?_⟩
      · have hg6 := W6.L.hg s hs
        obtain ⟨t, et⟩ : ∃ t, (B.ts s)[i]? = some t := ⟨(B.ts s)[i], List.getElem?_eq_getElem (by rw [lts]; exact hil)⟩
        walk_at "wn"
        refine ⟨B.g s, _, (i : Int), i, V.ref t, rfl, rfl, hg6, by omega, by omega, by
          have := seqIndex_of (k := (i : Int)) (n := ((B.ts s).map V.ref).length) (by omega) (by rw [List.length_map, lts]; omega)
          rw [Int.toNat_natCast] at this
          exact this, by rw [List.getElem?_map, et]; rfl, ?_⟩
        have e5 : ((B.ts s).map V.ref).eraseIdx i = ((B.ts s).eraseIdx i).map V.ref := map_erase _ _ _
        rw [e5]
        have kk : ∀ b o, b ≠ B.g s → H6 b = some o → upd H6 (B.g s) (.lst (((B.ts s).eraseIdx i).map V.ref)) b = some o := fun b o n e => by rw [upd_ne n]; exact e
        have L7 := W6.L.setReg (ts' := (B.ts s).eraseIdx i) (rs' := (rg s).eraseIdx i) hs kk upd_same (pair_erase (pair_keep (W6.L.ht s hs) fun b xs e => kk b _ (ne_of e hg6 (by intro q; cases q)) e) i)
        walk_at "wn"
        exact ⟨rfl, W6.mut L7 (fun b o n e => kk b o (fun z => n (z ▸ in_g hs)) e) fun b hb => in_setTs (fun t ht => .inl ((List.eraseIdx_sublist _ _).subset ht)) hs hb⟩
      rintro σ' H7 ⟨rfl, W7⟩
      have lte : ((B.ts s).eraseIdx i).length = ((rg s).eraseIdx i).length := by
        have := (W7.L.ht s hs).length
        rw [upF_same] at this
        rw [← this]
        show _ = (upF B.ts s ((B.ts s).eraseIdx i) s).length
        rw [upF_same]
      have eT : (setTs B s ((B.ts s).eraseIdx i)).ts s = (B.ts s).eraseIdx i := upF_same
      refine ⟨fun σ' H8 => ∃ ts', σ' = [some (.ref p), some (.ref box), some (.ref B.rg), some (.ref B.rw), some (.int s), some (.int (i : Int)), some (.str wd), some (.ref (B.g s)), some (.int r.lab), some (.int r.kind), some (.str r.term), some (.bl r.armed), none] ∧ WL C Hb H8 p box (setTs B s ts') (upF rg s ((rg s).eraseIdx i ++ [⟨r.lab, r.kind, wd, true⟩])) rw' u (fun S => Pic S many (upF rg s ((rg s).eraseIdx i ++ [⟨r.lab, r.kind, wd, true⟩])) (upF rw' s (without r.lab (rw' s) ++ [r.lab])) u), ?_, ?_⟩
      · have hg7 := W7.L.hg s hs
        have ht7 := W7.L.ht s hs
        rw [eT] at hg7 ht7
        rw [upF_same] at ht7
        have hg7 : H7 (B.g s) = some (.lst (((B.ts s).eraseIdx i).map V.ref)) := hg7
        walk_at "wn"
        refine ⟨by show 4 ≤ sizeLine; decide, fun t' ht' => ?_⟩
        have sN := Same.new' (o := .tup [V.int r.lab, V.int r.kind, V.str wd, V.bl true]) ht'
        have hgN := sN _ _ hg7
        walk_at "wn"
        refine ⟨B.g s, _, _, rfl, rfl, hgN, ?_, ?_⟩
        · rw [List.length_map, lte, sizeLine_eq]
          have : ((rg s).eraseIdx i).length ≤ (rg s).length := (List.eraseIdx_sublist _ _).length_le
          omega
        have e5 : ((B.ts s).eraseIdx i).map V.ref ++ [V.ref t'] = ((B.ts s).eraseIdx i ++ [t']).map V.ref := by rw [List.map_append]; rfl
        rw [e5]
        have kk : ∀ b o, b ≠ B.g s → H7 b = some o → upd (upd H7 t' (.tup [V.int r.lab, V.int r.kind, V.str wd, V.bl true])) (B.g s) (.lst (((B.ts s).eraseIdx i ++ [t']).map V.ref)) b = some o := fun b o n e => by rw [upd_ne n]; exact sN _ _ e
        have L8 := W7.L.setReg (ts' := (B.ts s).eraseIdx i ++ [t']) (rs' := (rg s).eraseIdx i ++ [⟨r.lab, r.kind, wd, true⟩]) hs kk upd_same (pair_snoc (pair_keep ht7 fun b xs e => kk b _ (ne_of e hg7 (by intro q; cases q)) e) ((upd_ne (ne_of upd_same hgN (by intro q; cases q))).trans upd_same))
        have W8 := W7.mut L8 (fun b o n e => kk b o (fun z => n (z ▸ in_g (A := setTs B s ((B.ts s).eraseIdx i)) hs)) e) fun b hb => in_setTs (fun t ht => ?_) hs hb
        · rw [setTs_twice, upF_twice] at W8
          walk_at "wn"
          exact ⟨_, rfl, W8⟩
        · rw [eT]
          rcases List.mem_append.mp ht with z | z
          · exact .inl z
          · exact .inr (by rw [List.mem_singleton.mp z]; exact ht')
      rintro σ' H8 ⟨ts', rfl, W8⟩
      have hw8 := W8.L.hw s hs
      have lr := G0.rlen h5
      walk_at "wn"
      show tLc _ _ _ _ _ _ _ _
      refine ⟨_, rfl, _, rfl, B.rw, _, s, _, rfl, rfl, SqL.of W8.L.hrw, at2 (f := V.ref) hs, ?_⟩
      refine ⟨B.w s, rfl, ⟨_, SqL.of hw8⟩, fun D hD => lc_list (K := K) (a := B.w s) (xs := (rw' s).map V.int) (fun j H' => Same H8 H' ∧ H' D = some (.lst ((without r.lab ((rw' s).take j)).map V.int))) ⟨Same.new' hD, by rw [upd_same]; rfl⟩ (fun j H' _ h => SqL.of (h.1 _ _ hw8)) ?_ ?_⟩
      · rintro j v H' hv ⟨sm, hD'⟩
        rw [List.getElem?_map] at hv
        cases el : (rw' s)[j]? with
        | none => rw [el] at hv; cases hv
        | some y =>
        rw [el] at hv
        cases hv
        refine ⟨rfl, ?_⟩
        show tTest _ _ _ _
        walk_at "wn"
        by_cases h : y = r.lab
        · rw [show decide (V.int y = V.int r.lab) = true from decide_eq_true (by rw [h]), without_take el, if_neg (show ¬ (y ≠ r.lab) from fun z => z h), List.append_nil]
          walk_at "wn"
          exact ⟨sm, hD'⟩
        · rw [show decide (V.int y = V.int r.lab) = false from decide_eq_false fun z => h (V.int.inj z), without_take el, if_pos (show y ≠ r.lab from h), List.map_append]
          walk_at "wn"
          refine ⟨_, hD', ?_, fun b o z => ?_, upd_same⟩
          · rw [List.length_map]
            have : (without r.lab ((rw' s).take j)).length ≤ ((rw' s).take j).length := List.length_filter_le _ _
            rw [List.length_take] at this
            rw [sizeLine_eq]
            omega
          · rw [upd_ne (ne_of_none z hD)]
            exact sm _ _ z
      · rintro H' ⟨sm, hD'⟩
        rw [List.length_map, List.take_length] at hD'
        have lw : (without r.lab (rw' s)).length ≤ (rw' s).length := List.length_filter_le _ _
        refine ⟨_, rfl, by show 1 ≤ sizeLine; decide, fun l1 h1 => ?_⟩
        have sx := Same.new' (o := .lst [V.int r.lab]) h1
        refine ⟨D, l1, _, _, rfl, rfl, sx _ _ hD', upd_same, by rw [List.length_map, sizeLine_eq]; show _ + 1 ≤ _; omega, fun r2 hr2 => ?_⟩
        have sy := Same.new' (o := .lst ((without r.lab (rw' s)).map V.int ++ [V.int r.lab])) hr2
        have all := sm.trans (sx.trans sy)
        have W9 := W8.same' all
        have h9 : upd (upd H' l1 (.lst [V.int r.lab])) r2 (.lst ((without r.lab (rw' s)).map V.int ++ [V.int r.lab])) r2 = some (.lst ((without r.lab (rw' s) ++ [r.lab]).map V.int)) := by
          rw [upd_same, List.map_append]
          rfl
        have f8 : H8 r2 = none := (sm.trans sx).free hr2
        generalize upd (upd H' l1 (.lst [V.int r.lab])) r2 (.lst ((without r.lab (rw' s)).map V.int ++ [V.int r.lab])) = H9 at all W9 h9
        walk_at "wn"
        refine ⟨B.rw, _, s, s.toNat, rfl, rfl, W9.L.hrw, ix2 hs, ?_⟩
        walk_at "wn"
        have nD : r2 ≠ B.rw := fun z => by
          have : H8 B.rw = _ := W8.L.hrw
          rw [← z, f8] at this
          cases this
        have k9 : ∀ b o, b ≠ B.rw → H9 b = some o → upd H9 B.rw (.lst (([V.ref (B.w 0), V.ref (B.w 1)] : List V).set s.toNat (.ref r2))) b = some o := fun b o n e => by rw [upd_ne n]; exact e
        have L9 := LH.setRw (H := H8) (H1 := upd H9 B.rw (.lst (([V.ref (B.w 0), V.ref (B.w 1)] : List V).set s.toNat (.ref r2)))) (w' := r2) (row := without r.lab (rw' s) ++ [r.lab]) W8.L hs (fun b o n e => k9 b o n (all _ _ e)) upd_same (k9 _ _ nD h9) f8
        refine q _ (newRow (setTs B s ts') s r2) _ _ rfl rfl rfl (fun j _ => ?_) (W8.mut L9 (fun b o n e => k9 b o (fun z => n (by rw [z]; exact .inr (.inl rfl))) (all _ _ e)) fun b hb => in_newRow f8 hb)
        by_cases e : j = s
        · rw [e, upF_same, List.length_append, List.length_eraseIdx_of_lt hil]
          show (rg s).length - 1 + 1 = _
          omega
        · rw [upF_ne e]
end

/-! the system while it is made -/
def HA : Sys := newSet (newSys 4 8) 0 0
def HB : Sys := newSet HA 0 1
def HC : Sys := newSource HB 0 2
structure Cp (S : Sys) (j : Nat) : Prop where
  procs : S.procs = [0]
  N : S.N = 8
  next : S.next = 3
  tab : S.tab 0 = [some 0, some 1] ++ (List.replicate (j + 1) (some (2 : Int)) ++ List.replicate (5 - j) none)
  srcs : S.srcs = [2]
  sets : S.sets = [0, 1]
  unit : S.unit 2 = (0, false)
  ents : ∀ s, sd s → S.ents s = []
  que : ∀ s, sd s → S.que s = []
theorem cp0 : Cp HC 0 := ⟨rfl, rfl, rfl, rfl, rfl, rfl, rfl, fun s hs => by rcases hs with rfl | rfl <;> rfl, fun s hs => by rcases hs with rfl | rfl <;> rfl⟩

section
variable {S : Sys} {j : Nat}
theorem Cp.at_ (F : Cp S j) (n : Nat) : (S.tab 0)[n]? = if n = 0 then some (some 0) else if n = 1 then some (some 1) else if n ≤ j + 2 then some (some 2) else if n ≤ j + 2 + (5 - j) then some none else none := by
  rw [F.tab]
  match n with
  | 0 => rfl
  | 1 => rfl
  | n + 2 =>
    show (List.replicate (j + 1) (some (2 : Int)) ++ List.replicate (5 - j) none)[n]? = _
    rw [if_neg (by omega), if_neg (by omega), List.getElem?_append, List.getElem?_replicate, List.getElem?_replicate, List.length_replicate]
    by_cases h : n < j + 1
    · rw [if_pos h, if_pos h, if_pos (by omega)]
    · rw [if_neg h, if_neg (show ¬ (n + 2 ≤ j + 2) by omega)]
      by_cases h2 : n - (j + 1) < 5 - j
      · rw [if_pos h2, if_pos (by omega)]
      · rw [if_neg h2, if_neg (by omega)]
theorem Cp.free (F : Cp S j) (hj : j ≤ 4) : firstFree (S.tab 0) (j + 3) := by
  refine ⟨?_, fun m hm => ?_⟩
  · rw [F.at_, if_neg (by omega), if_neg (by omega), if_neg (by omega), if_pos (by omega)]
  · rw [F.at_]
    by_cases h0 : m = 0
    · exact ⟨0, if_pos h0⟩
    · by_cases h1 : m = 1
      · exact ⟨1, by rw [if_neg h0, if_pos h1]⟩
      · exact ⟨2, by rw [if_neg h0, if_neg h1, if_pos (by omega)]⟩
theorem Cp.m2 (F : Cp S j) : Means S 0 2 2 := ⟨by rw [F.procs]; exact List.mem_cons_self, by decide, by rw [F.N]; decide, by
  show (S.tab 0)[2]? = _
  rw [F.at_, if_neg (by decide), if_neg (by decide), if_pos (by omega)]⟩
theorem Cp.len (F : Cp S j) (hj : j ≤ 5) : (S.tab 0).length ≤ 1000 := by
  rw [F.tab, List.length_append, List.length_append, List.length_replicate, List.length_replicate]
  show 2 + _ ≤ _
  omega
theorem Cp.copy (F : Cp S j) (hj : j ≤ 4) : Cp (copied S 0 (j + 3) 2) (j + 1) := by
  refine ⟨F.procs, F.N, F.next, ?_, F.srcs, F.sets, F.unit, F.ents, F.que⟩
  show (if (0 : Int) = 0 then (S.tab 0).set (j + 3) (some 2) else S.tab 0) = _
  obtain ⟨m, hm⟩ : ∃ m, 5 - j = m + 1 := ⟨4 - j, by omega⟩
  have e : 5 - (j + 1) = m := by omega
  rw [if_pos rfl, F.tab, hm, e, List.replicate_succ (n := m)]
  show ([some 0, some 1] ++ (List.replicate (j + 1) (some (2 : Int)) ++ none :: List.replicate m none)).set (j + 3) (some 2) = _
  rw [List.set_append_right _ _ (by show 2 ≤ _; omega)]
  show [some 0, some 1] ++ (List.replicate (j + 1) (some (2 : Int)) ++ none :: List.replicate m none).set (j + 1) (some 2) = _
  rw [List.set_append_right _ _ (by rw [List.length_replicate]; exact Nat.le_refl _), List.length_replicate, Nat.sub_self, List.replicate_succ' (n := j + 1), List.append_assoc]
  rfl
theorem Cp.pic {many : Nat} (F : Cp S (many - 1)) (h2 : 2 ≤ many) (h5 : many ≤ 5) : Pic (newSource S 0 (many + 2)) many (fun _ => []) (fun _ => []) (fun _ => 0) := by
  have tb : (newSource S 0 (many + 2)).tab 0 = (S.tab 0).set (many + 2) (some 3) := by
    show (if (0 : Int) = 0 then (S.tab 0).set (many + 2) (some S.next) else S.tab 0) = _
    rw [if_pos rfl, F.next]
  have len : many + 2 < (S.tab 0).length := by
    rw [F.tab, List.length_append, List.length_append, List.length_replicate, List.length_replicate]
    show _ < 2 + _
    omega
  have old : ∀ n : Nat, n ≠ many + 2 → ((newSource S 0 (many + 2)).tab 0)[n]? = (S.tab 0)[n]? := fun n hn => by
    rw [tb, List.getElem?_set, if_neg (Ne.symm hn)]
  have pr : (0 : Int) ∈ (newSource S 0 (many + 2)).procs := by
    show (0 : Int) ∈ S.procs
    rw [F.procs]
    exact List.mem_cons_self
  have eN : (newSource S 0 (many + 2)).N = 8 := F.N
  refine ⟨⟨h2, h5⟩, F.sets, ?_, ⟨pr, by decide, by rw [eN]; decide, ?_⟩, ⟨pr, by decide, by rw [eN]; decide, ?_⟩, fun n a b => ⟨pr, by omega, by rw [eN]; omega, ?_⟩, ⟨pr, by omega, by rw [eN]; omega, ?_⟩, fun k hk => ?_, fun k _ => Int.le_refl _, F.ents, F.que, (fun s _ r hr => nomatch hr), fun s _ => ⟨(fun r hr => nomatch hr), List.nodup_nil, List.nodup_nil, (fun l hl => nomatch hl)⟩⟩
  · show S.srcs ++ [S.next] = _
    rw [F.srcs, F.next]
    rfl
  · show ((newSource S 0 (many + 2)).tab 0)[0]? = _
    rw [old 0 (by omega), F.at_, if_pos rfl]
  · show ((newSource S 0 (many + 2)).tab 0)[1]? = _
    rw [old 1 (by omega), F.at_, if_neg (by decide), if_pos rfl]
  · rw [old n.toNat (by omega), F.at_, if_neg (by omega), if_neg (by omega), if_pos (by omega)]
  · have e : ((many : Int) + 2).toNat = many + 2 := by omega
    rw [e, tb, List.getElem?_set, if_pos rfl, if_pos len]
  · show (if 2 + k = S.next then ((0 : Int), false) else S.unit (2 + k)) = _
    rw [F.next]
    rcases hk with rfl | rfl
    · rw [if_neg (by decide)]
      exact F.unit
    · rw [if_pos (by decide)]
end
section
variable {C : Cs} {Hb H H1 : Hp} {p box : Addr} {ks : List (Addr × HO)} {Q : VK} {E : XK} {j many : Nat}
theorem WQ.setA (W : WQ C Hb H p box ks fun S => S = newSys 4 8) (q : ∀ (n : Nat) H1, WQ C Hb H1 p box ks (fun S => S = HA) → Q (.int n) H1) : spNewSet C [.ref box, .int 0] H Q E := by
  obtain ⟨S, ad, dx, hb, A, rfl, o1, o2, o4⟩ := W.ex
  exact ⟨0, 0, newSys 4 8, ad, dx, by rw [hb], A, List.mem_cons_self, ⟨rfl, fun j hj => absurd hj (Nat.not_lt_zero _)⟩, by decide, by decide, by decide, fun H4 ad4 dx4 A4 st4 => q _ _ (W.call (ad := ad) hb o1 o2 o4 A4 st4 rfl)⟩
theorem WQ.setB (W : WQ C Hb H p box ks fun S => S = HA) (q : ∀ (n : Nat) H1, WQ C Hb H1 p box ks (fun S => S = HB) → Q (.int n) H1) : spNewSet C [.ref box, .int 0] H Q E := by
  obtain ⟨S, ad, dx, hb, A, rfl, o1, o2, o4⟩ := W.ex
  exact ⟨0, 1, HA, ad, dx, by rw [hb], A, List.mem_cons_self, ⟨rfl, fun j hj => by
    obtain rfl : j = 0 := by omega
    exact ⟨0, rfl⟩⟩, by decide, by decide, by decide, fun H4 ad4 dx4 A4 st4 => q _ _ (W.call (ad := ad) hb o1 o2 o4 A4 st4 rfl)⟩
theorem WQ.srcC (W : WQ C Hb H p box ks fun S => S = HB) (q : ∀ (n : Nat) H1, WQ C Hb H1 p box ks (fun S => Cp S 0) → Q (.int n) H1) : spNewSource C [.ref box, .int 0] H Q E := by
  obtain ⟨S, ad, dx, hb, A, rfl, o1, o2, o4⟩ := W.ex
  exact ⟨0, 2, HB, ad, dx, by rw [hb], A, List.mem_cons_self, ⟨rfl, fun j hj => by
    have : j = 0 ∨ j = 1 := by omega
    rcases this with rfl | rfl
    · exact ⟨0, rfl⟩
    · exact ⟨1, rfl⟩⟩, by decide, by decide, by decide, fun H4 ad4 A4 st4 => q _ _ (W.call (ad := ad) hb o1 o2 o4 A4 st4 cp0)⟩
theorem WQ.copyC (W : WQ C Hb H p box ks fun S => Cp S j) (hj : j ≤ 4) (q : ∀ (n : Nat) H1, WQ C Hb H1 p box ks (fun S => Cp S (j + 1)) → Q (.int n) H1) : spCopy C [.ref box, .int 0, .int 2, .non] H Q E := by
  obtain ⟨S, ad, dx, hb, A, F, o1, o2, o4⟩ := W.ex
  exact ⟨0, 2, 2, j + 3, S, ad, dx, by rw [hb], A, F.m2, F.free hj, F.len (by omega), fun H4 A4 st4 => q _ _ (W.call (ad := ad) hb o1 o2 o4 A4 st4 (F.copy hj))⟩
theorem WQ.srcD (W : WQ C Hb H p box ks fun S => Cp S (many - 1)) (h2 : 2 ≤ many) (h5 : many ≤ 5) (q : ∀ H1, WQ C Hb H1 p box ks (fun S => Pic S many (fun _ => []) (fun _ => []) (fun _ => 0)) → Q (.int ((many + 2 : Nat) : Int)) H1) : spNewSource C [.ref box, .int 0] H Q E := by
  obtain ⟨S, ad, dx, hb, A, F, o1, o2, o4⟩ := W.ex
  have e : many - 1 + 3 = many + 2 := by omega
  have fr := F.free (by omega)
  rw [e] at fr
  exact ⟨0, many + 2, S, ad, dx, by rw [hb], A, by rw [F.procs]; exact List.mem_cons_self, fr, F.len (by omega), by rw [F.srcs]; decide, by rw [F.next, F.srcs]; decide, fun H4 ad4 A4 st4 => q _ (W.call (ad := ad) hb o1 o2 o4 A4 st4 (F.pic h2 h5))⟩
theorem WQ.addP {rg : Int → List LR} {rw : Int → List Int} {u : Int → Int} {s : Int} {r : LR} (W : WQ C Hb H p box ks fun S => Pic S many rg rw u) (hs : sd s) (ha : r.armed = true) (h : 2 ≤ r.lab ∧ r.lab ≤ many + 2 ∧ r.kind = (if r.lab = many + 2 then 1 else 0) ∧ r.term ∈ wordsL) (n : r.lab ∉ labs (rg s))
    (q : ∀ H1, WQ C Hb H1 p box ks (fun S => Pic S many (upF rg s (rg s ++ [r])) (upF rw s (if decide (0 < u r.kind) = true then rw s ++ [r.lab] else rw s)) u) → Q .non H1) : spAdd C [.ref box, .int 0, .int s, .int r.lab, .int r.lab, .str r.term] H Q E := by
  obtain ⟨S, ad, dx, hb, A0, F, o1, o2, o4⟩ := W.ex
  have hk : sd r.kind := by
    rw [h.2.2.1]
    split
    · exact sd1
    · exact sd0
  have hm : Means S 0 r.lab (2 + r.kind) := by
    rw [h.2.2.1]
    by_cases e : r.lab = many + 2
    · rw [if_pos e, e]
      exact F.mo
    · rw [if_neg e]
      exact F.mn r.lab h.1 (by omega)
  have h5 := F.few.2
  exact ⟨0, s, r.lab, r.lab, s, 2 + r.kind, r.term, S, ad, dx, by rw [hb], A0, F.meansS hs, F.inS hs, hm, F.inK hk, by omega, by omega, h.2.2.2, F.nofind hs n, by rw [F.ents s hs]; exact n, F.small, fun H3 ad3 dx3 A3 st3 => q _ (W.call (ad := ad) hb o1 o2 o4 A3 st3 (F.add hs ha h n))⟩
end

/-! the registrations' lists alone -/
def kH (A : AD) (rg : Int → List LR) (s : Int) : List (Addr × HO) := (A.g s, .lst ((A.ts s).map V.ref)) :: tc (A.ts s) (rg s)
def KH (A : AD) (rg : Int → List LR) : List (Addr × HO) := (A.rg, .lst [.ref (A.g 0), .ref (A.g 1)]) :: (kH A rg 0 ++ kH A rg 1)
def inH (A : AD) (b : Addr) : Prop := b = A.rg ∨ ∃ s, sd s ∧ (b = A.g s ∨ b ∈ A.ts s)
structure RH (H : Hp) (A : AD) (rg : Int → List LR) : Prop where
  hrg : H A.rg = some (.lst [.ref (A.g 0), .ref (A.g 1)])
  hg : ∀ s, sd s → H (A.g s) = some (.lst ((A.ts s).map V.ref))
  ht : ∀ s, sd s → Paired (fun t r => H t = some (tup4 r)) (A.ts s) (rg s)
  gg : A.g 0 ≠ A.g 1
  g1 : ∀ s, sd s → A.g s ≠ A.rg
section
variable {H H1 : Hp} {A : AD} {rg : Int → List LR} {s : Int} {ts' : List Addr} {rs' : List LR}
theorem KH_mem {q : Addr × HO} : q ∈ KH A rg ↔ q = (A.rg, .lst [.ref (A.g 0), .ref (A.g 1)]) ∨ ∃ s, sd s ∧ (q = (A.g s, .lst ((A.ts s).map V.ref)) ∨ q ∈ tc (A.ts s) (rg s)) := by
  unfold KH kH
  simp only [List.mem_cons, List.mem_append]
  constructor
  · rintro (h | h | h)
    · exact .inl h
    · exact .inr ⟨0, sd0, h⟩
    · exact .inr ⟨1, sd1, h⟩
  · rintro (h | ⟨s, rfl | rfl, h⟩)
    · exact .inl h
    · exact .inr (.inl h)
    · exact .inr (.inr h)
theorem RH.ks (L : RH H A rg) : ∀ q ∈ KH A rg, H q.1 = some q.2 ∧ inH A q.1 := fun q hq => by
  rcases KH_mem.mp hq with rfl | ⟨s, hs, rfl | h⟩
  · exact ⟨L.hrg, .inl rfl⟩
  · exact ⟨L.hg s hs, .inr ⟨s, hs, .inl rfl⟩⟩
  · obtain ⟨a, b⟩ := tc_at (L.ht s hs) q h
    exact ⟨a, .inr ⟨s, hs, .inr b⟩⟩
theorem RH.inKH (L : RH H A rg) {b : Addr} (h : inH A b) : ∃ o, (b, o) ∈ KH A rg := by
  rcases h with rfl | ⟨s, hs, rfl | h⟩
  · exact ⟨_, KH_mem.mpr (.inl rfl)⟩
  · exact ⟨_, KH_mem.mpr (.inr ⟨s, hs, .inl rfl⟩)⟩
  · obtain ⟨o, ho⟩ := tc_in (L.ht s hs) b h
    exact ⟨o, KH_mem.mpr (.inr ⟨s, hs, .inr ho⟩)⟩
theorem RH.of_ks (L : RH H A rg) (h : ∀ q ∈ KH A rg, H1 q.1 = some q.2) : RH H1 A rg :=
  ⟨h _ (KH_mem.mpr (.inl rfl)), fun s hs => h _ (KH_mem.mpr (.inr ⟨s, hs, .inl rfl⟩)), fun s hs => tc_of (L.ht s hs) fun q hq => h q (KH_mem.mpr (.inr ⟨s, hs, .inr hq⟩)), L.gg, L.g1⟩
theorem RH.setReg (L : RH H A rg) (hs : sd s) (k : ∀ b o, b ≠ A.g s → H b = some o → H1 b = some o) (h : H1 (A.g s) = some (.lst (ts'.map V.ref))) (ht : Paired (fun t r => H1 t = some (tup4 r)) ts' rs') : RH H1 (setTs A s ts') (upF rg s rs') := by
  have gne : ∀ j, sd j → j ≠ s → A.g j ≠ A.g s := fun j hj n => by
    rcases hs with rfl | rfl <;> rcases hj with rfl | rfl
    · exact absurd rfl n
    · exact Ne.symm L.gg
    · exact L.gg
    · exact absurd rfl n
  refine ⟨k _ _ (Ne.symm (L.g1 s hs)) L.hrg, fun j hj => ?_, fun j hj => ?_, L.gg, L.g1⟩
  · by_cases e : j = s
    · rw [e]
      show H1 (A.g s) = some (.lst ((upF A.ts s ts' s).map V.ref))
      rw [upF_same]
      exact h
    · show H1 (A.g j) = some (.lst ((upF A.ts s ts' j).map V.ref))
      rw [upF_ne e]
      exact k _ _ (gne j hj e) (L.hg j hj)
  · by_cases e : j = s
    · rw [e]
      show Paired _ (upF A.ts s ts' s) (upF rg s rs' s)
      rw [upF_same, upF_same]
      exact ht
    · show Paired _ (upF A.ts s ts' j) (upF rg s rs' j)
      rw [upF_ne e, upF_ne e]
      exact pair_keep (L.ht j hj) fun b xs z => k _ _ (ne_of z (L.hg s hs) (by intro q; cases q)) z
end
theorem zero_rw {s : Int} {r : List Int} (h : r = []) : upF (fun _ : Int => ([] : List Int)) s r = fun _ => [] := by
  funext m
  by_cases z : m = s
  · rw [z, upF_same, h]
  · rw [upF_ne z]
section
variable {P : Program} {w : World} {K : PySem.W.Frag} {mg : Str → Option Value} {base : Heap} {C : Cs}
abbrev P0 (many : Nat) (rg : Int → List LR) : Sys → Prop := fun S => Pic S many rg (fun _ => []) (fun _ => 0)
inductive J8i (C : Cs) (Hb : Hp) (p x : Addr) (B : AD) (v4 : Option V) (many : Nat) (i : Nat) (σ' : L2.St) (H8 : Hp) : Prop
  | mk (v6 v7 v8 v9 : Option V) (A : AD) (rg : Int → List LR) (h_0 : A.rg = B.rg) (h_1 : σ' = [some (.ref p), some (.int (many : Int)), some (.ref x), some (.ref B.rg), v4, some (.int ((many : Int) + 2)), v6, v7, v8, v9]) (h_2 : WQ C Hb H8 p x (KH A rg) (P0 many rg)) (h_3 : RH H8 A rg) (h_4 : ∀ s, sd s → if s < (i : Int) then (rg s).length = many + 1 else rg s = []) : J8i C Hb p x B v4 many i σ' H8
inductive J8 (C : Cs) (Hb : Hp) (p x : Addr) (B : AD) (v4 : Option V) (many : Nat) (σ' : L2.St) (H8 : Hp) : Prop
  | mk (v6 v7 v8 v9 : Option V) (A : AD) (rg : Int → List LR) (h_0 : A.rg = B.rg) (h_1 : σ' = [some (.ref p), some (.int (many : Int)), some (.ref x), some (.ref B.rg), v4, some (.int ((many : Int) + 2)), v6, v7, v8, v9]) (h_2 : WQ C Hb H8 p x (KH A rg) (P0 many rg)) (h_3 : RH H8 A rg) (h_4 : ∀ s, sd s → (rg s).length = many + 1) : J8 C Hb p x B v4 many σ' H8
inductive JW (C : Cs) (Hb : Hp) (p x : Addr) (B A0 : AD) (v4 : Option V) (i many : Nat) (lf : Addr) (rg0 : Int → List LR) (m : Nat) (σ' : L2.St) (Ha : Hp) : Prop
  | mk (v8 v9 : Option V) (left : List Int) (A : AD) (rg : Int → List LR) (h_0 : m = left.length) (h_1 : σ' = [some (.ref p), some (.int (many : Int)), some (.ref x), some (.ref B.rg), v4, some (.int ((many : Int) + 2)), some (.int (i : Int)), some (.ref lf), v8, v9]) (h_2 : A.rg = B.rg) (h_3 : A.g = A0.g) (h_4 : left.Nodup) (h_5 : ∀ y ∈ left, (2 ≤ y ∧ y ≤ many + 2) ∧ y ∉ labs (rg i)) (h_6 : (rg i).length + left.length = many + 1) (h_7 : ∀ s, sd s → s ≠ i → rg s = rg0 s) (h_8 : WQ C Hb Ha p x ((lf, .lst (left.map V.int)) :: KH A rg) (P0 many rg)) (h_9 : RH Ha A rg) : JW C Hb p x B A0 v4 i many lf rg0 m σ' Ha
inductive PspHome (C : Cs) (vs : List V) (H : Hp) (Q : VK) : Prop
  | mk (Hb : Hp) (p : Addr) (many : Nat) (h_0 : vs = [.ref p, .int (many : Int)]) (h_1 : Same Hb H) (h_2 : BagAt H p) (h_3 : Hb p = none) (h_4 : 2 ≤ many) (h_5 : many ≤ 5) (h_6 : ∀ H' T box A rg, WQ C Hb H' p box (KH A rg) (P0 many rg) → RH H' A rg → (∀ s, sd s → (rg s).length = many + 1) → H' T = some (.tup [.ref box, .int ((many : Int) + 2), .ref A.rg]) → Q (.ref T) H') : PspHome C vs H Q
def spHome (C : Cs) : Sp := fun vs H Q _ => PspHome C vs H Q
abbrev nHome : List Str := ["_law_bag_here", "_law_many", "_law_box", "_law_regs", "_law_turn", "_law_other", "_law_side", "_law_left", "_law_n", "_law_term"]
theorem scHome : FnScope nHome ["_law_bag_here", "_law_many"] (defScope sHome) := ⟨rfl, rfl, rfl, by decide +kernel, rfl, by decide +kernel, by decide +kernel⟩
theorem okHome {f fT fO fI fE fN fC fD : Addr} {fd fdT fdO fdI fdE fdN fdC fdD : FuncData} {dC : List Value} {gI gA : List Value → List Value → List Value} (F : Fun K "_law_home" "_law_home" sHome f fd) (X : LawTx mg) (hint : mg "int" = none) (T : ClsF K C.S sysF)
    (GT : DO P w K mg base 1 "_law_take" ["_law_bag_here", "_law_many"] spTake fT fdT) (GO : DO P w K mg base 2 "_law_of" ["_law_bag_here", "_law_some"] (spOf K) fO fdO)
    (gS : mg "System" = some (.ref C.S)) (MS : Mk K C.S fI) (GI : FnOk P w K mg base CX0 3 fI fdI ["self", "processes", "numbers"] (spSysInit C)) (bI : KBn K fdI ["self", "processes", "numbers"] 1 ["numbers"] gI (fun vs zs => vs ++ [V.int 4] ++ zs))
    (GE : MO P w K mg base 6 C.S "new_set" ["self", "process"] (spNewSet C) fE fdE) (GN : MO P w K mg base 6 C.S "new_source" ["self", "process"] (spNewSource C) fN fdN)
    (GC : MD P w K mg base 5 C.S "copy" ["self", "process", "number", "to"] (spCopy C) fC fdC dC [.non])
    (GA : MW P w K mg base 6 C.S "add" ["self", "process", "set_number", "number", "label", "word"] (spAdd C) fD fdD 5 ["word"] gA (fun vs zs => vs ++ zs)) :
    FnOk P w K mg base CX0 7 f fd ["_law_bag_here", "_law_many"] (spHome C) := by
  refine F.ok scHome (fun vs H Q E h => ?_) (fun cdv A outer s H vs Q E hr h => ?_)
  · obtain ⟨_, _, _, rfl, _⟩ := h
    rfl
  · obtain ⟨Hb, p, many, rfl, s1, b1, n0, m2, m5, q⟩ := h
    have hu := hr.units
    have r1 : Room 1 _ := hr.mono (by decide)
    have r2 : Room 2 _ := hr.mono (by decide)
    have r4 : Room 4 _ := hr.mono (by decide)
    have r5 : Room 5 _ := hr.mono (by decide)
    refine ⟨_, pss_cut (ps_par (i := 2) (j := 3) (by rfl) scHome.nd rfl rfl (by decide) rfl rfl (pa_cons (pe_makeK0 MS GI r4 (by rfl) gS bI pass0 (pk_cons pe_int pk_nil)) (pa_cons (pe_lst (pa_cons (pe_lst pa_nil) (pa_cons (pe_lst pa_nil) pa_nil))) pa_nil)) (by rfl))
      (pss_cut (ps_expr (pe_meth (pv 2) T.cl GE.m GE.g hr GE.b .nil pass0 (pa_cons pe_int pa_nil)))
      (pss_cut (ps_expr (pe_meth (pv 2) T.cl GE.m GE.g hr GE.b .nil pass0 (pa_cons pe_int pa_nil)))
      (pss_cut (ps_expr (pe_meth (pv 2) T.cl GN.m GN.g hr GN.b .nil pass0 (pa_cons pe_int pa_nil)))
      (pss_cut (ps_for PassesOwn.never rfl (pi_range1 (by rfl) X.range (pa_cons (pe_op op_sub (pv 1) pe_int) pa_nil)) (pg_name (i := 4) scHome.nd rfl (Or.inl rfl)) (pss_one (ps_expr (pe_meth (pv 2) T.cl GC.m GC.g r5 GC.b GC.d pass0 (pa_cons pe_int (pa_cons pe_int pa_nil))))))
      (pss_cut (ps_set (i := 5) scHome.nd rfl (Or.inl rfl) (pe_meth (pv 2) T.cl GN.m GN.g hr GN.b .nil pass0 (pa_cons pe_int pa_nil)))
      (pss_cut (ps_for PassesOwn.never rfl (pi_range1 (by rfl) X.range (pa_cons pe_int pa_nil)) (pg_name (i := 6) scHome.nd rfl (Or.inl rfl)) (pss_cut (ps_set (i := 7) scHome.nd rfl (Or.inl rfl) (pe_listRg (by rfl) (by rfl) X.list (prg_2 (by rfl) X.range pe_int (pe_op op_add (pv 5) pe_int))))
      (pss_one (ps_while PassesOwn.never (pt_cmpR (op_neD hu) (pv 7) (pe_lst pa_nil) (nomark _)) (pss_cut (ps_par (i := 8) (j := 9) (by rfl) scHome.nd rfl rfl (by decide) rfl rfl (pa_cons (pe_bm PySem.F.plainAttrs_list PySem.F.slot_list_pop PySem.F.type_list_pop mt_popAt (pv 7) (pa_cons (pe_call GT.g r1 (by rfl) GT.m GT.k GT.b .nil pass0 (pa_cons (pv 0) (pa_cons (pe_callB cLenQ (by rfl) X.len PySem.boot_len (pa_cons (pv 7) pa_nil)) pa_nil))) pa_nil)) (pa_cons (pe_call GO.g r2 (by rfl) GO.m GO.k GO.b .nil pass0 (pa_cons (pv 0) (pa_cons (pe_lst (pa_cons pe_str (pa_cons pe_str (pa_cons pe_str pa_nil)))) pa_nil))) pa_nil)) (by rfl))
      (pss_cut (ps_expr (pe_methK (pv 2) T.cl GA.m GA.g hr GA.b pass0 (pa_cons pe_int (pa_cons (pv 6) (pa_cons (pv 8) (pa_cons (pv 8) pa_nil)))) (pk_cons (pv 9) pk_nil)))
      (pss_one (ps_expr (pe_bm PySem.F.plainAttrs_list PySem.F.slot_list_append PySem.F.type_list_append mt_append (pe_ix ix_list (pv 3) (pv 6) (fun _ _ => rfl)) (pa_cons (pe_tup (pa_cons (pv 8) (pa_cons (pe_callTy cInt1 (by rfl) hint PyProof.Rows.boot_int (pa_cons (pe_cmpR op_eq (pv 8) (pv 5) (nomark _)) pa_nil)) (pa_cons (pv 9) (pa_cons pe_bl pa_nil))))) pa_nil))))))))))
      (pss_one (ps_ret (pe_tup (pa_cons (pv 2) (pa_cons (pv 5) (pa_cons (pv 3) pa_nil)))))))))))), ?_⟩
    -- the system and the lists
    refine ⟨fun σ' H2 => ∃ (x : Addr) (B : AD), σ' = [some (.ref p), some (.int (many : Int)), some (.ref x), some (.ref B.rg), none, none, none, none, none, none] ∧ WQ C Hb H2 p x (KH B (fun _ => [])) (fun S => S = newSys 4 8) ∧ RH H2 B (fun _ => []), ?_, ?_⟩
    · refine ⟨rfl, rfl, fun x dx0 hx hdx nxd => ?_⟩
      have n1 : upd (upd H dx0 (.own x)) x (.ins C.S dx0 []) x = some (.ins C.S dx0 []) := upd_same
      refine ⟨x, dx0, 4, 8, rfl, n1, by decide, by decide, by decide, by decide, fun H2 ad dx hb A2 k2 o2 => ⟨rfl, ?_⟩⟩
      obtain ⟨W2, s2⟩ := WQ.start s1 b1 n0 hx hdx A2 hb k2 o2
      refine ⟨Nat.zero_le _, fun g0 hg0 => ⟨Nat.zero_le _, fun g1 hg1 => ⟨by show 2 ≤ sizeLine; decide, fun rgA hrg => ?_⟩⟩⟩
      have W3 := W2.new (o := .lst []) hg0
      have W4 := W3.new (o := .lst []) hg1
      have W5 := W4.new (o := .lst [V.ref g0, V.ref g1]) hrg
      have n01 : g0 ≠ g1 := ne_of_none upd_same hg1
      have a5 := W5.kat
      refine ⟨_, _, rfl, x, ⟨rgA, 0, 0, fun s => if s = 0 then g0 else g1, fun _ => 0, fun _ => []⟩, rfl, W5.sub fun q hq => ?_, ⟨a5 _ List.mem_cons_self, fun s hs => ?_, fun s hs => .nil, n01, fun s hs => ?_⟩⟩
      · rcases KH_mem.mp hq with rfl | ⟨s, rfl | rfl, rfl | h⟩
        · exact List.mem_cons_self
        · exact List.mem_cons_of_mem _ (List.mem_cons_of_mem _ List.mem_cons_self)
        · cases h
        · exact List.mem_cons_of_mem _ List.mem_cons_self
        · cases h
      · rcases hs with rfl | rfl
        · exact a5 (g0, .lst []) (List.mem_cons_of_mem _ (List.mem_cons_of_mem _ List.mem_cons_self))
        · exact a5 (g1, .lst []) (List.mem_cons_of_mem _ List.mem_cons_self)
      · rcases hs with rfl | rfl
        · exact ne_of_none (W4.kat (g0, .lst []) (List.mem_cons_of_mem _ List.mem_cons_self)) hrg
        · exact ne_of_none (W4.kat (g1, .lst []) List.mem_cons_self) hrg
    rintro σ' H2 ⟨x, B, rfl, W2, R2⟩
    refine ⟨fun σ' H3 => σ' = [some (.ref p), some (.int (many : Int)), some (.ref x), some (.ref B.rg), none, none, none, none, none, none] ∧ WQ C Hb H3 p x (KH B (fun _ => [])) (fun S => S = HA), ?_, ?_⟩
    · obtain ⟨bx, bS, td, sd', ud, hb⟩ := W2.boxAt
      walk_at "wn"
      refine ⟨_, rfl, x, bx, _, rfl, hb, rfl, ?_⟩
      walk_at "wn"
      refine W2.setA fun n H3 W3 => ?_
      walk_at "wn"
      exact ⟨rfl, W3⟩
    rintro σ' H3 ⟨rfl, W3⟩
    refine ⟨fun σ' H4 => σ' = [some (.ref p), some (.int (many : Int)), some (.ref x), some (.ref B.rg), none, none, none, none, none, none] ∧ WQ C Hb H4 p x (KH B (fun _ => [])) (fun S => S = HB), ?_, ?_⟩
    · obtain ⟨bx, bS, td, sd', ud, hb⟩ := W3.boxAt
      walk_at "wn"
      refine ⟨_, rfl, x, bx, _, rfl, hb, rfl, ?_⟩
      walk_at "wn"
      refine W3.setB fun n H4 W4 => ?_
      walk_at "wn"
      exact ⟨rfl, W4⟩
    rintro σ' H4 ⟨rfl, W4⟩
    refine ⟨fun σ' H5 => σ' = [some (.ref p), some (.int (many : Int)), some (.ref x), some (.ref B.rg), none, none, none, none, none, none] ∧ WQ C Hb H5 p x (KH B (fun _ => [])) (fun S => Cp S 0), ?_, ?_⟩
    · obtain ⟨bx, bS, td, sd', ud, hb⟩ := W4.boxAt
      walk_at "wn"
      refine ⟨_, rfl, x, bx, _, rfl, hb, rfl, ?_⟩
      walk_at "wn"
      refine W4.srcC fun n H5 W5 => ?_
      walk_at "wn"
      exact ⟨rfl, W5⟩
    rintro σ' H5 ⟨rfl, W5⟩
    -- the copies
    refine ⟨fun σ' H6 => ∃ v4, σ' = [some (.ref p), some (.int (many : Int)), some (.ref x), some (.ref B.rg), v4, none, none, none, none, none] ∧ WQ C Hb H6 p x (KH B (fun _ => [])) (fun S => Cp S (many - 1)), ?_, ?_⟩
    · show iRng1 _ _ _ _
      show tCons _ _ _ _ _
      walk_at "wn"
      refine ⟨_, rfl, by omega, by omega, ?_⟩
      have em : ((many : Int) - 1).toNat = many - 1 := by omega
      rw [em]
      refine for_range (lo := 0) (fun j σ' H6 => ∃ v4, σ' = [some (.ref p), some (.int (many : Int)), some (.ref x), some (.ref B.rg), v4, none, none, none, none, none] ∧ WQ C Hb H6 p x (KH B (fun _ => [])) (fun S => Cp S j)) ⟨_, rfl, W5⟩ ?_ (fun _ _ h => h)
      rintro j σ' H6 hj ⟨v4, rfl, W6⟩
      obtain ⟨bx, bS, td, sd', ud, hb⟩ := W6.boxAt
      walk_at "wn"
      refine ⟨_, rfl, x, bx, _, rfl, hb, rfl, ?_⟩
      walk_at "wn"
      refine W6.copyC (by omega) fun n H7 W7 => ?_
      walk_at "wn"
      exact ⟨_, rfl, W7⟩
    rintro σ' H6 ⟨v4, rfl, W6⟩
    refine ⟨fun σ' H7 => σ' = [some (.ref p), some (.int (many : Int)), some (.ref x), some (.ref B.rg), v4, some (.int ((many : Int) + 2)), none, none, none, none] ∧ WQ C Hb H7 p x (KH B (fun _ => [])) (P0 many (fun _ => [])), ?_, ?_⟩
    · obtain ⟨bx, bS, td, sd', ud, hb⟩ := W6.boxAt
      walk_at "wn"
      refine ⟨_, rfl, x, bx, _, rfl, hb, rfl, ?_⟩
      walk_at "wn"
      refine W6.srcD m2 m5 fun H7 W7 => ?_
      walk_at "wn"
      exact ⟨rfl, W7⟩
    rintro σ' H7 ⟨rfl, W7⟩
    have R7 := R2.of_ks W7.kat
    clear W2 W3 W4 W5 W6 H2 H3 H4 H5 H6 R2
    -- both sides
    refine ⟨fun σ' H8 => J8 C Hb p x B v4 many σ' H8, ?_, ?_⟩
    · show iRng1 _ _ _ _
      show tCons _ _ _ _ _
      walk_at "wn"
      refine ⟨2, rfl, by decide, by decide, ?_⟩
      refine for_range (lo := 0) (fun i σ' H8 => J8i C Hb p x B v4 many i σ' H8) ⟨none, none, none, none, B, fun _ => [], rfl, rfl, W7, R7, fun s hs => by rw [if_neg (by rcases hs with rfl | rfl <;> decide)]⟩ ?_ (fun σ' H8 ⟨v6, v7, v8, v9, A, rg, e1, e2, W8, R8, h8⟩ => ⟨v6, v7, v8, v9, A, rg, e1, e2, W8, R8, fun s hs => by have := h8 s hs; rw [if_pos (by rcases hs with rfl | rfl <;> decide)] at this; exact this⟩)
      rintro i σ' H8 hi ⟨v6, v7, v8, v9, A0, rg0, eA, rfl, W8, R8, h8⟩
      rw [Int.zero_add]
      have hs : sd (i : Int) := by
        have : i = 0 ∨ i = 1 := by omega
        rcases this with rfl | rfl
        · exact sd0
        · exact sd1
      have hrg0 : rg0 (i : Int) = [] := by
        have := h8 _ hs
        rw [if_neg (Int.lt_irrefl _)] at this
        exact this
      -- the labels that are left
      refine ⟨fun σ' H9 => ∃ (lf : Addr) (left : List Int), σ' = [some (.ref p), some (.int (many : Int)), some (.ref x), some (.ref B.rg), v4, some (.int ((many : Int) + 2)), some (.int (i : Int)), some (.ref lf), v8, v9] ∧ lf ≠ A0.rg ∧ (∀ s, sd s → lf ≠ A0.g s) ∧ left.Nodup ∧ (∀ y ∈ left, 2 ≤ y ∧ y ≤ many + 2) ∧ left.length = many + 1 ∧ WQ C Hb H9 p x ((lf, .lst (left.map V.int)) :: KH A0 rg0) (P0 many rg0), ?_, ?_⟩
      · walk_at "wn"
        show tRg2 _ _ _ _ _
        refine ⟨_, rfl, _, _, rfl, rfl, _, _, rfl, rfl, RgOk.of_le (by omega) (by omega) (by omega) (by omega), fun lf hlf => ?_⟩
        have er : rgV 2 ((many : Int) + 2 + 1) = ((List.range (many + 1)).map fun j : Nat => (2 : Int) + (j : Int)).map V.int := by
          unfold rgV
          have e : ((many : Int) + 2 + 1 - 2).toNat = many + 1 := by omega
          rw [e, List.map_map]
          rfl
        rw [er]
        walk_at "wn"
        refine ⟨lf, (List.range (many + 1)).map fun j : Nat => (2 : Int) + (j : Int), rfl, Ne.symm (ne_of_none R8.hrg hlf), fun s hs => Ne.symm (ne_of_none (R8.hg s hs) hlf), List.pairwise_map.mpr (List.nodup_range.imp fun h z => h (by omega)), fun y hy => ?_, by rw [List.length_map, List.length_range], W8.new hlf⟩
        obtain ⟨j, hj, rfl⟩ := List.mem_map.mp hy
        have := List.mem_range.mp hj
        exact ⟨by omega, by omega⟩
      rintro σ' H9 ⟨lf, left0, rfl, nl1, nl2, lnd, lin, llen, W9⟩
      refine ⟨fun m σ' Ha => JW C Hb p x B A0 v4 i many lf rg0 m σ' Ha, ⟨_, v8, v9, left0, A0, rg0, rfl, rfl, eA, rfl, lnd, fun y hy => ⟨lin y hy, by rw [hrg0]; exact List.not_mem_nil⟩, by rw [hrg0, llen]; exact Nat.zero_add _, fun s _ _ => rfl, W9, R8.of_ks fun q hq => W9.kat q (List.mem_cons_of_mem _ hq)⟩, ?_⟩
      rintro m σ' Ha ⟨w8, w9, left, A, rg, rfl, rfl, eAr, eAg, nd, hin, hlen, hoth, Wa, Ra⟩
      have hla := Wa.kat _ List.mem_cons_self
      have nlg : ∀ s, sd s → lf ≠ A.g s := fun s hs => by rw [eAg]; exact nl2 s hs
      have nlr : lf ≠ A.rg := by rw [eAr, ← eA]; exact nl1
      walk_at "wn"
      refine ⟨Nat.zero_le _, fun z hz => ?_⟩
      have sz := Same.new' (o := .lst []) hz
      refine q_neNil (sz _ _ hla) upd_same ?_
      have Wc := Wa.same' sz
      have Rc := Ra.of_ks fun q hq => Wc.kat q (List.mem_cons_of_mem _ hq)
      generalize upd Ha z (.lst []) = Hc at Wc Rc
      cases left with
      | nil =>
        show ∃ b, V.bl false = V.bl b ∧ _
        walk_at "wn"
        refine ⟨_, _, _, _, A, rg, eAr, rfl, Wc.sub fun q hq => List.mem_cons_of_mem _ hq, Rc, fun s hs' => ?_⟩
        by_cases e : s = (i : Int)
        · rw [if_pos (by omega), e]
          simpa using hlen
        · rw [hoth s hs' e]
          have := h8 s hs'
          by_cases z : s < (i : Int)
          · rw [if_pos z] at this
            rw [if_pos (by omega)]
            exact this
          · rw [if_neg z] at this
            rw [if_neg (by omega)]
            exact this
      | cons l1 left1 =>
        show ∃ b, V.bl true = V.bl b ∧ _
        walk_at "wn"
        refine ⟨fun σ'' H'' => ∃ m', m' < (l1 :: left1).length ∧ JW C Hb p x B A0 v4 i many lf rg0 m' σ'' H'', fun _ _ z => z, ?_⟩
        have l0 : 0 < (l1 :: left1).length := Nat.succ_pos _
        generalize (l1 :: left1) = left at Wc nd hin hlen l0
        have hlc := Wc.kat _ List.mem_cons_self
        -- drawn
        refine ⟨fun σ'' Hd => ∃ (A1 B1 : List Int) (n : Int) (wd : Str), left = A1 ++ n :: B1 ∧ wd ∈ wordsL ∧ σ'' = [some (.ref p), some (.int (many : Int)), some (.ref x), some (.ref B.rg), v4, some (.int ((many : Int) + 2)), some (.int (i : Int)), some (.ref lf), some (.int n), some (.str wd)] ∧ WQ C Hb Hd p x ((lf, .lst ((A1 ++ B1).map V.int)) :: KH A rg) (P0 many rg), ?_, ?_⟩
        · show tCons _ _ _ _ _
          walk_at "wn"
          refine ⟨p, _, rfl, Wc.bag, by rw [List.length_map]; omega, by rw [List.length_map]; omega, fun kk Hd k0 k1 ed bd => ?_⟩
          rw [List.length_map] at k1
          have Wd := Wc.draw ed bd
          have hld := Wd.kat _ List.mem_cons_self
          obtain ⟨A1, n, B1, eAB, hA⟩ := split_at (n := kk.toNat) (xs := left) (by omega)
          subst eAB
          refine ⟨lf, _, kk, kk.toNat, V.int n, rfl, rfl, hld, by omega, by omega, seqIndex_of k0 (by rw [List.length_map]; omega), by rw [List.map_append, List.getElem?_append_right (by rw [List.length_map]; omega), List.length_map, hA, Nat.sub_self]; rfl, ?_⟩
          have er : ((A1 ++ n :: B1).map V.int).eraseIdx kk.toNat = (A1 ++ B1).map V.int := by
            rw [List.map_append, List.map_append, ← hA, ← List.length_map (f := V.int)]
            exact erase_mid _ _ _
          rw [er]
          have We := Wd.put (H1 := upd Hd lf (.lst ((A1 ++ B1).map V.int))) (o1 := .lst ((A1 ++ B1).map V.int)) (fun b n => upd_ne n) upd_same (fun q hq z => by
            rcases KH_mem.mp hq with rfl | ⟨s, hs', rfl | h⟩
            · exact nlr z.symm
            · exact nlg s hs' z.symm
            · have := Wd.kat q (List.mem_cons_of_mem _ hq)
              obtain ⟨a1, _⟩ := tc_at (Rc.ht s hs') q h
              have hlc' : Hc lf = _ := Wc.kat _ List.mem_cons_self
              rw [z, hlc'] at a1
              have tup : ∀ (ts : List Addr) (rs : List LR), ∀ q ∈ tc ts rs, ∃ r, q.2 = tup4 r := by
                intro ts
                induction ts with
                | nil => intro rs q hq; cases hq
                | cons t ts ih =>
                  intro rs q hq
                  cases rs with
                  | nil => cases hq
                  | cons r rs =>
                    rcases List.mem_cons.mp hq with rfl | hq
                    · exact ⟨r, rfl⟩
                    · exact ih rs q hq
              obtain ⟨r, er⟩ := tup _ _ q h
              rw [er] at a1
              cases a1)
          generalize upd Hd lf (.lst ((A1 ++ B1).map V.int)) = He at We
          walk_at "wn"
          refine ⟨by show 3 ≤ sizeLine; decide, fun c1 hc1 => ?_⟩
          have Wf := We.same' (Same.new' (o := .lst [V.str "level", V.str "edge", V.str "once"]) hc1)
          walk_at "wn"
          refine ⟨p, c1, [V.str "level", V.str "edge", V.str "once"], rfl, Wf.bag, SqL.of upd_same, BagAt.ne' We.bag hc1, by show 0 < 3; decide, by show 3 ≤ 1000; decide, fun jj v Hg hv eg bg => ?_⟩
          obtain ⟨wd, rfl, hw⟩ : ∃ wd, v = V.str wd ∧ wd ∈ wordsL := by
            have hm := List.mem_of_getElem? hv
            simp only [List.mem_cons, List.not_mem_nil, or_false] at hm
            rcases hm with rfl | rfl | rfl
            · exact ⟨_, rfl, by decide⟩
            · exact ⟨_, rfl, by decide⟩
            · exact ⟨_, rfl, by decide⟩
          exact ⟨_, _, rfl, A1, B1, n, wd, rfl, hw, rfl, Wf.draw eg bg⟩
        rintro σ'' Hd ⟨A1, B1, n, wd, rfl, hw, rfl, Wd⟩
        have hn := hin n (by simp)
        have Rd := Rc.of_ks fun q hq => Wd.kat q (List.mem_cons_of_mem _ hq)
        -- registered
        refine ⟨fun σ'' He => σ'' = [some (.ref p), some (.int (many : Int)), some (.ref x), some (.ref B.rg), v4, some (.int ((many : Int) + 2)), some (.int (i : Int)), some (.ref lf), some (.int n), some (.str wd)] ∧ WQ C Hb He p x ((lf, .lst ((A1 ++ B1).map V.int)) :: KH A rg) (P0 many (upF rg i (rg i ++ [⟨n, if n = many + 2 then 1 else 0, wd, true⟩]))), ?_, ?_⟩
        · obtain ⟨bx, bS, td, sd', ud, hb⟩ := Wd.boxAt
          walk_at "wn"
          refine ⟨_, rfl, x, bx, _, rfl, hb, rfl, ?_⟩
          walk_at "wn"
          refine ⟨rfl, rfl, ?_⟩
          refine Wd.addP (r := ⟨n, if n = many + 2 then 1 else 0, wd, true⟩) hs rfl ⟨hn.1.1, hn.1.2, rfl, hw⟩ hn.2 fun He We => ?_
          walk_at "wn"
          refine ⟨rfl, We.to fun S h => ?_⟩
          have e : upF (fun _ : Int => ([] : List Int)) i (if decide ((0 : Int) < 0) = true then [] ++ [n] else []) = fun _ => [] := zero_rw rfl
          have h' : Pic S many (upF rg i (rg i ++ [⟨n, if n = many + 2 then 1 else 0, wd, true⟩])) (upF (fun _ : Int => ([] : List Int)) i (if decide ((0 : Int) < 0) = true then [] ++ [n] else [])) (fun _ => 0) := h
          rw [e] at h'
          exact h'
        rintro σ'' He ⟨rfl, We⟩
        have Re := Rd.of_ks fun q hq => We.kat q (List.mem_cons_of_mem _ hq)
        have hle := We.kat _ List.mem_cons_self
        have hge := Re.hg _ hs
        have hte := Re.ht _ hs
        have lte := hte.length
        have hrge : He B.rg = some (.lst [.ref (A.g 0), .ref (A.g 1)]) := by rw [← eAr]; exact Re.hrg
        walk_at "wn"
        refine ⟨B.rg, _, (i : Int), _, rfl, rfl, SqL.of hrge, at2 (f := V.ref) hs, ?_⟩
        refine ⟨.inl ⟨rfl, _, SqL.of hge⟩, ?_⟩
        walk_at "wn"
        refine .inr ⟨_, rfl, ?_⟩
        have ek : (if decide (V.int n = V.int ((many : Int) + 2)) = true then (1 : Int) else 0) = if n = many + 2 then 1 else 0 := by
          by_cases e : n = (many : Int) + 2
          · rw [if_pos e, if_pos (decide_eq_true (by rw [e]))]
          · rw [if_neg e, if_neg (fun z => e (V.int.inj (of_decide_eq_true z)))]
        rw [ek]
        walk_at "wn"
        refine ⟨by show 4 ≤ sizeLine; decide, fun t' ht' => ?_⟩
        have sN := Same.new' (o := .tup [V.int n, V.int (if n = (many : Int) + 2 then 1 else 0), V.str wd, V.bl true]) ht'
        have hgN := sN _ _ hge
        refine ⟨A.g i, _, _, rfl, rfl, hgN, by rw [List.length_map, lte, sizeLine_eq]; omega, ?_⟩
        have e5 : (A.ts i).map V.ref ++ [V.ref t'] = (A.ts i ++ [t']).map V.ref := by rw [List.map_append]; rfl
        rw [e5]
        have kk : ∀ b o, b ≠ A.g i → He b = some o → upd (upd He t' (.tup [V.int n, V.int (if n = (many : Int) + 2 then 1 else 0), V.str wd, V.bl true])) (A.g i) (.lst ((A.ts i ++ [t']).map V.ref)) b = some o := fun b o n e => by rw [upd_ne n]; exact sN _ _ e
        have Rf := Re.setReg (ts' := A.ts i ++ [t']) (rs' := rg i ++ [⟨n, if n = many + 2 then 1 else 0, wd, true⟩]) hs kk upd_same (pair_snoc (pair_keep hte fun b xs e => kk b _ (ne_of e hge (by intro q; cases q)) e) ((upd_ne (ne_of upd_same hgN (by intro q; cases q))).trans upd_same))
        refine ⟨(A1 ++ B1).length, by simp, _, _, A1 ++ B1, setTs A i (A.ts i ++ [t']), _, rfl, rfl, eAr, eAg, ?_, fun y hy => ?_, ?_, fun s hs' ne => ?_, We.mut (fun b => inH A b ∨ b = lf) (fun b hb => ?_) (fun b o nb _ e => kk b o (fun z => nb (.inl (.inr ⟨i, hs, .inl z⟩))) e) ?_ fun q hq => ?_, Rf⟩
        · exact nd.sublist ((List.Sublist.refl A1).append (List.sublist_cons_self n B1))
        · have hy' : y ∈ A1 ++ n :: B1 := by
            rcases List.mem_append.mp hy with z | z
            · exact List.mem_append.mpr (.inl z)
            · exact List.mem_append.mpr (.inr (List.mem_cons_of_mem _ z))
          have yn : y ≠ n := fun z => by
            subst z
            rw [List.nodup_append] at nd
            rcases List.mem_append.mp hy with z | z
            · exact nd.2.2 y z y List.mem_cons_self rfl
            · exact (List.nodup_cons.mp nd.2.1).1 z
          refine ⟨(hin y hy').1, ?_⟩
          rw [upF_same]
          show y ∉ (rg i ++ [(⟨n, if n = many + 2 then 1 else 0, wd, true⟩ : LR)]).map LR.lab
          rw [List.map_append, List.mem_append]
          rintro (z | z)
          · exact (hin y hy').2 z
          · exact yn (List.mem_singleton.mp z)
        · rw [upF_same]
          simp only [List.length_append, List.length_cons, List.length_nil] at hlen ⊢
          omega
        · rw [upF_ne ne]
          exact hoth s hs' ne
        · rcases hb with hb | rfl
          · obtain ⟨o, ho⟩ := Re.inKH hb
            exact ⟨o, List.mem_cons_of_mem _ ho⟩
          · exact ⟨_, List.mem_cons_self⟩
        · obtain ⟨y1, y2, e, z⟩ := We.bag
          refine ⟨y1, y2, kk _ _ (fun w => ?_) e, z⟩
          obtain ⟨o, ho⟩ := Re.inKH (.inr ⟨i, hs, .inl rfl⟩ : inH A (A.g i))
          exact (We.kne _ (List.mem_cons_of_mem _ ho)).1 w.symm
        · rcases List.mem_cons.mp hq with rfl | hq
          · exact ⟨kk _ _ (nlg _ hs) hle, .inl (.inr rfl)⟩
          · obtain ⟨a1, b1⟩ := Rf.ks q hq
            refine ⟨a1, ?_⟩
            rcases b1 with z | ⟨j, hj, z | z⟩
            · exact .inl (.inl (.inl z))
            · exact .inl (.inl (.inr ⟨j, hj, .inl z⟩))
            · have z : q.1 ∈ upF A.ts i (A.ts i ++ [t']) j := z
              by_cases e : j = (i : Int)
              · rw [e, upF_same] at z
                rcases List.mem_append.mp z with y | y
                · exact .inl (.inl (.inr ⟨i, hs, .inr y⟩))
                · rw [List.mem_singleton.mp y]
                  exact .inr ht'
              · rw [upF_ne e] at z
                exact .inl (.inl (.inr ⟨j, hj, .inr z⟩))
    rintro σ' H8 ⟨v6, v7, v8, v9, A, rg, eA, rfl, W8, R8, h8⟩
    walk_at "wn"
    refine ⟨by show 3 ≤ sizeLine; decide, fun t ht => ?_⟩
    have st := Same.new' (o := .tup [V.ref x, V.int ((many : Int) + 2), V.ref B.rg]) ht
    have W9 := W8.same' st
    exact q _ t x A rg W9 (R8.of_ks W9.kat) h8 (by rw [upd_same, eA])
end

theorem two_shaped (a b : List Int) : SeqAt.shaped (.list [.list (a.map PyData.int), .list (b.map PyData.int)]) = true := by
  obtain ⟨a1, a2⟩ := ints_lay a
  obtain ⟨b1, b2⟩ := ints_lay b
  unfold SeqAt.shaped
  rw [Bool.and_eq_true]
  refine ⟨by simp only [PyData.canLay0, PyData.canLayAll0, a1, b1, Bool.and_true], decide_eq_true ?_⟩
  simp only [PyData.depth, PyData.depthAll, a2, b2]
  decide
inductive InvT (C : Cs) (Hb : Hp) (p x : Addr) (B : AD) (many tt : Nat) (H : Hp) : Prop
  | mk (A : AD) (rg : Int → List LR) (rw : Int → List Int) (u : Int → Int) (h1 : A.rg = B.rg) (h2 : A.rw = B.rw) (h3 : A.ul = B.ul) (h4 : WL C Hb H p x A rg rw u (fun S => Pic S many rg rw u)) (h5 : ∀ s, sd s → (rg s).length = many + 1) (h6 : 1 ≤ tt → 0 < u 0) (h7 : 2 ≤ tt → 0 < u 1) : InvT C Hb p x B many tt H
inductive Iv0 (K : PySem.W.Frag) (a : Addr) (ns : List Int) (i : Nat) (σ' : L2.St) (H' : Hp) : Prop
  | mk (u1 u2 u3 u4 u5 u6 u7 u8 u9 u10 u11 u12 u13 u14 u15 u16 : Option V) (h_0 : σ' = [some (.ref a), u1, u2, u3, u4, u5, u6, u7, u8, u9, u10, u11, u12, u13, u14, u15, u16]) (h_1 : SqL K H' a (ns.map V.int)) : Iv0 K a ns i σ' H'
inductive Iv5 (C : Cs) (Hb : Hp) (a p x : Addr) (B : AD) (i many : Nat) (tt : Nat) (σ' : L2.St) (H5 : Hp) : Prop
  | mk (u9 u10 u11 u12 u13 u14 u15 u16 : Option V) (h_0 : σ' = [some (.ref a), some (.int (0 + (i : Int))), some (.ref p), some (.int (many : Int)), some (.ref x), some (.int ((many : Int) + 2)), some (.ref B.rg), some (.ref B.ul), some (.ref B.rw), u9, u10, u11, u12, u13, u14, u15, u16]) (h_1 : InvT C Hb p x B many (tt) H5) : Iv5 C Hb a p x B i many tt σ' H5
inductive Iv7 (C : Cs) (Hb : Hp) (a p x : Addr) (B : AD) (i many tt : Nat) (way s : Int) (σ' : L2.St) (H7 : Hp) : Prop
  | mk (u12 u13 u14 u15 u16 : Option V) (h_0 : σ' = [some (.ref a), some (.int (0 + (i : Int))), some (.ref p), some (.int (many : Int)), some (.ref x), some (.int ((many : Int) + 2)), some (.ref B.rg), some (.ref B.ul), some (.ref B.rw), some (.int (0 + (tt : Int))), some (.int way), some (.int s), u12, u13, u14, u15, u16]) (h_1 : InvT C Hb p x B many (tt + 1) H7) : Iv7 C Hb a p x B i many tt way s σ' H7
theorem ite3 {c A B : Prop} [Decidable c] (hA : A) (hB : ¬ c → A → B) : if c then A else B := by
  by_cases h : c
  · rw [if_pos h]
    exact hA
  · rw [if_neg h]
    exact hB h hA
theorem q_neRows {K : PySem.W.Frag} {H : Hp} {a b a0 a1 b0 b1 : Addr} {Q : VK} {l m : List Int} (h1 : H a = some (.lst [.ref a0, .ref a1])) (h2 : H b = some (.lst [.ref b0, .ref b1])) (e0 : H a0 = some (.lst (l.map V.int))) (e1 : H a1 = some (.lst (m.map V.int))) (f0 : H b0 = some (.lst (l.map V.int))) (f1 : H b1 = some (.lst (m.map V.int))) (k : Q (.bl false) H) : rNeD K (.ref a) (.ref b) H Q := by
  refine ⟨_, _, .lst (SqL.of h1) (.cons (.lst (SqL.of e0) (dp_ints l)) (.cons (.lst (SqL.of e1) (dp_ints m)) .nil)), .lst (SqL.of h2) (.cons (.lst (SqL.of f0) (dp_ints l)) (.cons (.lst (SqL.of f1) (dp_ints m)) .nil)), two_shaped l m, two_shaped l m, ?_⟩
  rw [PySem.SeqAt.eqv_refl _ (SeqAt.canLay_of_shaped (two_shaped l m))]
  exact k
theorem LH.setUl {H H1 : Hp} {A : AD} {rg : Int → List LR} {rw : Int → List Int} {u : Int → Int} {s : Int} {v : Int} (L : LH H A rg rw u) (hs : sd s) (k : ∀ b, b ≠ A.ul → H1 b = H b) (h : H1 A.ul = some (.lst (([V.int (u 0), V.int (u 1)] : List V).set s.toNat (.int v)))) : LH H1 A rg rw (upF u s v) := by
  refine ⟨(k _ L.d.r1.2.1).trans L.hrg, (k _ L.d.r1.2.2).trans L.hrw, ?_, fun j hj => (k _ (L.d.g1 j hj).2.2).trans (L.hg j hj), fun j hj => (k _ (L.d.w1 j hj).2.2).trans (L.hw j hj), fun j hj => pair_keep (L.ht j hj) fun b xs e => (k b (ne_of e L.hul (by intro z; cases z))).trans e, L.d⟩
  rw [h]
  rcases hs with rfl | rfl <;> rfl
theorem WQ.waitP {C : Cs} {Hb H : Hp} {p box : Addr} {ks : List (Addr × HO)} {many : Nat} {rg1 : Int → List LR} {rw1 : Int → List Int} {u1 : Int → Int} {s : Int} {Q : VK} {E : XK} (W : WQ C Hb H p box ks fun S => Pic S many rg1 rw1 u1) (nWR : C.W ≠ C.R) (hs : sd s) (ha : ∀ r ∈ rg1 s, 0 < u1 r.kind)
    (q : ∀ H1 a vs, WQ C Hb H1 p box ks (fun S => Pic S many (upF rg1 s ((rg1 s).map (spentR (rw1 s)))) (upF rw1 s ((rw1 s).filter (levR (rg1 s)))) u1) → (∀ b x y z, H b = some (.tup [x, y, z]) → H1 b = some (.tup [x, y, z])) → H1 a = some (.lst vs) → Paired (RepAt H1) vs ((rw1 s).map (repW (rg1 s) u1)) → Q (.ref a) H1) : spWait C [.ref box, .int 0, .int s, .int 50] H Q E := by
  obtain ⟨S, ad, dx, hb, A0, F, o1, o2, o4⟩ := W.ex
  refine ⟨0, s, s, 50, S, ad, dx, by rw [hb], A0, F.meansS hs, F.inS hs, by decide, by decide, fun l hl => ?_, fun l hl => ?_, nWR, F.small, fun H3 ad3 dx3 a vs h1 h2 h3 h4 A3 st3 => ?_⟩
  · rw [F.que s hs] at hl
    rw [F.ents s hs]
    exact (F.good s hs).ri l hl
  · rw [F.ents s hs] at hl
    obtain ⟨r, hr, rfl⟩ := List.mem_map.mp hl
    rw [F.reg s hs r hr]
    exact F.inK ((F.good s hs).kd hr)
  · rw [F.took hs ha] at h4
    refine q _ a vs (W.call (ad := ad) hb o1 o2 o4 A3 st3 (F.wait hs ha)) (fun b x y z e => st3.keep b _ (fun ⟨c, hc, ec⟩ => ?_) e) h2 h4
    have := A0.at_ c hc
    rw [ec, e] at this
    cases c <;> cases this
abbrev nLaw : List Str := ["_law_script", "_law_at", "_law_bag_here", "_law_many", "_law_box", "_law_other", "_law_regs", "_law_units", "_law_rows", "_law_turn", "_law_way", "_law_side", "_law_source", "_law_kinds", "_law_reg", "_law_due", "_law_label"]
section
variable {P : Program} {w : World} {K : PySem.W.Frag} {mg : Str → Option Value} {base : Heap} {C : Cs}
inductive PspLaw (K : PySem.W.Frag) (vs : List V) (H : Hp) (Q : VK) : Prop
  | mk (a : Addr) (ns : List Int) (h_0 : vs = [.ref a]) (h_1 : SqL K H a (ns.map V.int)) (h_2 : ns.length ≤ 63) (h_3 : ∀ H', Q (.bl true) H') : PspLaw K vs H Q
def spLaw (K : PySem.W.Frag) : Sp := fun vs H Q _ => PspLaw K vs H Q
theorem scLaw : FnScope nLaw ["_law_script"] (defScope sLaw) := ⟨rfl, rfl, rfl, by decide +kernel, rfl, by decide +kernel, by decide +kernel⟩
theorem okLaw {f fB fT fH fR fD fN fA fW fO : Addr} {fd fdB fdT fdH fdR fdD fdN fdA fdW fdO : FuncData} {dA : List Value} (F : Fun K "law" "law" sLaw f fd) (X : LawTx mg) (hint : mg "int" = none) (hdi : mg "dict" = none) (T : ClsF K C.S sysF) (nWR : C.W ≠ C.R)
    (GB : DO P w K mg base 1 "_law_bag" ["_law_script", "_law_at"] (spBag K) fB fdB) (GT : DO P w K mg base 1 "_law_take" ["_law_bag_here", "_law_many"] spTake fT fdT)
    (GH : DO P w K mg base 7 "_law_home" ["_law_bag_here", "_law_many"] (spHome C) fH fdH) (GR : DO P w K mg base 1 "_law_arrived" ["_law_regs", "_law_source", "_law_rows"] spArrived fR fdR)
    (GWd : DO P w K mg base 1 "_law_waited" ["_law_regs", "_law_rows", "_law_side"] spWaited fD fdD) (GN : DO P w K mg base 7 "_law_anew" ["_law_bag_here", "_law_box", "_law_regs", "_law_rows", "_law_side"] (spAnew C) fN fdN)
    (GA : MD P w K mg base 6 C.S "arrive" ["self", "process", "number", "many"] (spArrive C) fA fdA dA [.int 1]) (GW : MO P w K mg base 6 C.S "wait" ["self", "process", "set_number", "most"] (spWait C) fW fdW) (GO : MO P w K mg base 6 C.S "row_of" ["self", "process", "set_number"] (spRowOf C) fO fdO) :
    FnOk P w K mg base CX0 8 f fd ["_law_script"] (spLaw K) := by
  refine F.ok scLaw (fun vs H Q E h => ?_) (fun cdv A outer s H vs Q E hr h => ?_)
  · obtain ⟨x, _, rfl, _⟩ := h
    rfl
  · obtain ⟨a, ns, rfl, hS, hl, k⟩ := h
    have r1 : Room 1 _ := hr.mono (by decide)
    have r6 : Room 6 _ := hr.mono (by decide)
    have hu := hr.units
    have hu1 := hu_of hr
    refine ⟨_, pss_cut (ps_for PassesOwn.never rfl (pi_range1 (by rfl) X.range (pa_cons (pe_callB (cMax2 rfl) (by rfl) X.max (by decide +kernel) (pa_cons pe_int (pa_cons (pe_callB (cMin2 rfl) (by rfl) X.min (by decide +kernel) (pa_cons pe_int (pa_cons (pe_callB cLenQ (by rfl) X.len PySem.boot_len (pa_cons (pv 0) pa_nil)) pa_nil))) pa_nil))) pa_nil)) (pg_name (i := 1) scLaw.nd rfl (Or.inl rfl))
      (pss_cut (ps_set (i := 2) scLaw.nd rfl (Or.inl rfl) (pe_call GB.g r1 (by rfl) GB.m GB.k GB.b .nil pass0 (pa_cons (pv 0) (pa_cons (pv 1) pa_nil))))
        (pss_cut (ps_set (i := 3) scLaw.nd rfl (Or.inl rfl) (pe_op op_add pe_int (pe_call GT.g r1 (by rfl) GT.m GT.k GT.b .nil pass0 (pa_cons (pv 2) (pa_cons pe_int pa_nil)))))
        (pss_cut (ps_asg (pe_call GH.g hr (by rfl) GH.m GH.k GH.b .nil pass0 (pa_cons (pv 2) (pa_cons (pv 3) pa_nil))) (pg_tup rfl (pgs_cons (pg_name (i := 4) scLaw.nd rfl (Or.inl rfl)) (pgs_cons (pg_name (i := 5) scLaw.nd rfl (Or.inl rfl)) (pgs_cons (pg_name (i := 6) scLaw.nd rfl (Or.inl rfl)) pgs_nil)))))
        (pss_cut (ps_asg (pe_tup (pa_cons (pe_lst (pa_cons pe_int (pa_cons pe_int pa_nil))) (pa_cons (pe_lst (pa_cons (pe_lst pa_nil) (pa_cons (pe_lst pa_nil) pa_nil))) pa_nil))) (pg_tup rfl (pgs_cons (pg_name (i := 7) scLaw.nd rfl (Or.inr rfl)) (pgs_cons (pg_name (i := 8) scLaw.nd rfl (Or.inl rfl)) pgs_nil))))
        (pss_one (ps_for PassesOwn.never rfl (pi_range1 (by rfl) X.range (pa_cons pe_int pa_nil)) (pg_name (i := 9) scLaw.nd rfl (Or.inl rfl))
        (pss_cut (ps_par (i := 10) (j := 11) (by rfl) scLaw.nd rfl rfl (by decide) rfl rfl (pa_cons (pe_call GT.g r1 (by rfl) GT.m GT.k GT.b .nil pass0 (pa_cons (pv 2) (pa_cons pe_int pa_nil))) (pa_cons (pe_call GT.g r1 (by rfl) GT.m GT.k GT.b .nil pass0 (pa_cons (pv 2) (pa_cons pe_int pa_nil))) pa_nil)) (by rfl))
        (pss_cut (ps_if (PW.pt (pw_or (pt_cmpR op_eq (pv 10) pe_int (nomark _)) (pw_or1 (pt_cmpR op_lt (pv 9) pe_int (nomark _)))))
        (pss_cut (ps_set (i := 12) scLaw.nd rfl (Or.inl rfl) (pe_ix ix_list (pe_lst (pa_cons (pe_call GT.g r1 (by rfl) GT.m GT.k GT.b .nil pass0 (pa_cons (pv 2) (pa_cons pe_int pa_nil))) (pa_cons (pv 9) pa_nil))) (pe_callTy cInt1 (by rfl) hint PyProof.Rows.boot_int (pa_cons (pe_cmpR op_lt (pv 9) pe_int (nomark _)) pa_nil)) (fun _ _ => rfl)))
        (pss_cut (ps_expr (pe_meth (pv 4) T.cl GA.m GA.g r6 GA.b GA.d pass0 (pa_cons pe_int (pa_cons (pe_ix ix_list (pe_lst (pa_cons (pe_op op_add pe_int (pe_call GT.g r1 (by rfl) GT.m GT.k GT.b .nil pass0 (pa_cons (pv 2) (pa_cons (pv 3) pa_nil)))) (pa_cons (pv 5) pa_nil))) (pv 12) (fun _ _ => rfl)) pa_nil))))
        (pss_cut (ps_asg (pe_op op_add (pe_ix ix_list (pv 7) (pv 12) (fun _ _ => rfl)) pe_int) (pg_sub (pv 7) (pv 12) set_list))
        (pss_one (ps_expr (pe_call GR.g r1 (by rfl) GR.m GR.k GR.b .nil pass0 (pa_cons (pv 6) (pa_cons (pv 12) (pa_cons (pv 8) pa_nil)))))))))
        (pss_one (ps_if (pt_cmpR op_eq (pv 10) pe_int (nomark _)) (pss_cut (ps_set (i := 13) scLaw.nd rfl (Or.inr rfl) (pe_callTy (call_dictP (by rfl)) (by rfl) hdi (by decide +kernel) (pa_cons (pe_lc (own := [("_law_reg", 14)]) (g := gName 14) (tt := tYes) (te := tTup (tCons (tOp (rIxT K) (tVar 14) (tC (.int 0))) (tCons (tOp (rIxT K) (tVar 14) (tC (.int 1))) tNil))) rfl scLaw.nd (pi_list (pe_ix ix_list (pv 6) (pv 11) (fun _ _ => rfl))) (blkOk_by (N := nLaw) (sc := defScope sLaw) (by decide +kernel)) (fun _ _ _ _ _ => pg_name (i := 14) scLaw.nd rfl (Or.inl rfl)) (fun _ _ _ _ _ => pts_nil) (fun _ _ _ _ _ => pe_tup (pa_cons (pe_ix ix_tup (pv 14) pe_int (fun _ _ => rfl)) (pa_cons (pe_ix ix_tup (pv 14) pe_int (fun _ _ => rfl)) pa_nil)))) pa_nil)))
        (pss_cut (ps_setLc (i := 15) (own := [("_law_label", 16)]) (g := gName 16) (tt := tYes) (te := tTup (tCons (tVar 16) (tCons (tOp (rIxL K) (tVar 7) (tDGet (tVar 13) (tVar 16))) (tCons (tC (.bl false)) tNil)))) rfl scLaw.nd rfl rfl (sw_true rfl rfl rfl (by decide +kernel)) (pi_list (pe_call GWd.g r1 (by rfl) GWd.m GWd.k GWd.b .nil pass0 (pa_cons (pv 6) (pa_cons (pv 8) (pa_cons (pv 11) pa_nil))))) (blkOk_by (N := nLaw) (sc := defScope sLaw) (by decide +kernel)) (fun _ _ _ _ _ => pg_name (i := 16) scLaw.nd rfl (Or.inl rfl)) (fun _ _ _ _ _ => pts_nil) (fun _ _ _ _ _ => pe_tup (pa_cons (pv 16) (pa_cons (pe_ix ix_list (pv 7) (pe_dget hu1 (pv 13) (pv 16) (fun _ _ => rfl)) (fun _ _ => rfl)) (pa_cons pe_bl pa_nil)))))
        (pss_one (ps_if (pt_cmpR (op_neD hu) (pe_meth (pv 4) T.cl GW.m GW.g r6 GW.b .nil pass0 (pa_cons pe_int (pa_cons (pv 11) (pa_cons pe_int pa_nil)))) (pv 15) (nomark _)) (pss_one (ps_ret pe_bl)) pss_nil)))) (pss_one (ps_expr (pe_call GN.g hr (by rfl) GN.m GN.k GN.b .nil pass0 (pa_cons (pv 2) (pa_cons (pv 4) (pa_cons (pv 6) (pa_cons (pv 8) (pa_cons (pv 11) pa_nil)))))))))))
        (pss_one (ps_if (pt_cmpR (op_neD hu) (pe_lst (pa_cons (pe_meth (pv 4) T.cl GO.m GO.g r6 GO.b .nil pass0 (pa_cons pe_int (pa_cons pe_int pa_nil))) (pa_cons (pe_meth (pv 4) T.cl GO.m GO.g r6 GO.b .nil pass0 (pa_cons pe_int (pa_cons pe_int pa_nil))) pa_nil))) (pv 8) (nomark _)) (pss_one (ps_ret pe_bl)) pss_nil)))))))))))
      (pss_one (ps_ret pe_bl)), ?_⟩
    refine ⟨fun _ _ => True, ?_, fun σ' H' _ => ?_⟩
    · show iRng1 _ _ _ _
      show tCons _ _ _ _ _
      walk_at "wn"
      refine ⟨a, _, rfl, .inl hS, ?_⟩
      walk_at "wn"
      refine ⟨_, rfl, ?_, ?_, ?_⟩
      · split <;> split <;> omega
      · split <;> split <;> omega
      refine for_range (lo := 0) (fun i σ' H' => Iv0 K a ns i σ' H') ⟨_, _, _, _, _, _, _, _, _, _, _, _, _, _, _, _, rfl, hS⟩ ?_ (fun _ _ _ => trivial)
      rintro i σ' Hb hi ⟨u1, u2, u3, u4, u5, u6, u7, u8, u9, u10, u11, u12, u13, u14, u15, u16, rfl, hSb⟩
      refine ⟨fun σ' H1 => ∃ p : Addr, σ' = [some (.ref a), some (.int (0 + (i : Int))), some (.ref p), u3, u4, u5, u6, u7, u8, u9, u10, u11, u12, u13, u14, u15, u16] ∧ Hb p = none ∧ Same Hb H1 ∧ BagAt H1 p, ?_, ?_⟩
      · walk_at "wn"
        refine ⟨a, ns, i, by simp, hSb, hl, by revert hi; split <;> split <;> omega, fun H1 p n0 s1 b1 => ?_⟩
        walk_at "wn"
        exact ⟨p, rfl, n0, s1, b1⟩
      rintro σ' H1 ⟨p, rfl, n0, s1, b1⟩
      refine ⟨fun σ' H2 => ∃ many : Nat, 2 ≤ many ∧ many ≤ 5 ∧ σ' = [some (.ref a), some (.int (0 + (i : Int))), some (.ref p), some (.int (many : Int)), u4, u5, u6, u7, u8, u9, u10, u11, u12, u13, u14, u15, u16] ∧ Same Hb H2 ∧ BagAt H2 p, ?_, ?_⟩
      · walk_at "wn"
        refine ⟨p, 4, rfl, b1, by decide, by decide, fun kk H2 k0 k1 e2 b2 => ?_⟩
        walk_at "wn"
        refine ⟨(2 + kk).toNat, by omega, by omega, ?_, Same.dr n0 s1 (Dr.draw e2 b2), b2⟩
        have : (((2 + kk).toNat : Nat) : Int) = 2 + kk := by omega
        rw [this]
        rfl
      rintro σ' H2 ⟨many, m2, m5, rfl, s2, b2⟩
      -- home
      refine ⟨fun σ' H3 => ∃ (x : Addr) (A0 : AD) (rg : Int → List LR), σ' = [some (.ref a), some (.int (0 + (i : Int))), some (.ref p), some (.int (many : Int)), some (.ref x), some (.int ((many : Int) + 2)), some (.ref A0.rg), u7, u8, u9, u10, u11, u12, u13, u14, u15, u16] ∧ WQ C Hb H3 p x (KH A0 rg) (P0 many rg) ∧ RH H3 A0 rg ∧ ∀ s, sd s → (rg s).length = many + 1, ?_, ?_⟩
      · walk_at "wn"
        refine ⟨Hb, p, many, rfl, s2, b2, n0, m2, m5, fun H3 T1 x A0 rg W3 R3 h3 hT => ?_⟩
        refine ⟨T1, _, rfl, SqT.of hT, rfl, _, _, rfl, ?_⟩
        walk_at "wn"
        refine ⟨_, _, rfl, ?_⟩
        walk_at "wn"
        refine ⟨_, _, rfl, ?_⟩
        walk_at "wn"
        refine ⟨rfl, ?_⟩
        exact ⟨x, A0, rg, rfl, W3, R3, h3⟩
      rintro σ' H3 ⟨x, A0, rg0, rfl, W3, R3, h3⟩
      -- units and rows
      refine ⟨fun σ' H4 => ∃ B : AD, σ' = [some (.ref a), some (.int (0 + (i : Int))), some (.ref p), some (.int (many : Int)), some (.ref x), some (.int ((many : Int) + 2)), some (.ref B.rg), some (.ref B.ul), some (.ref B.rw), u9, u10, u11, u12, u13, u14, u15, u16] ∧ InvT C Hb p x B many (0) H4, ?_, ?_⟩
      · refine ⟨by show 2 ≤ sizeLine; decide, fun ul hul => ?_⟩
        refine ⟨Nat.zero_le _, fun w0 hw0 => ⟨Nat.zero_le _, fun w1 hw1 => ⟨by show 2 ≤ sizeLine; decide, fun rw0 hrw => ?_⟩⟩⟩
        refine ⟨by show 2 ≤ sizeLine; decide, fun T1 hT1 => ?_⟩
        have V1 := W3.new (o := .lst [V.int 0, V.int 0]) hul
        have V2 := V1.new (o := .lst []) hw0
        have V3 := V2.new (o := .lst []) hw1
        have V4 := V3.new (o := .lst [V.ref w0, V.ref w1]) hrw
        have V5 := V4.same' (Same.new' (o := .tup [V.ref ul, V.ref rw0]) hT1)
        have a5 := V5.kat
        have hT1' : upd (upd (upd (upd (upd H3 ul (.lst [V.int 0, V.int 0])) w0 (.lst [])) w1 (.lst [])) rw0 (.lst [V.ref w0, V.ref w1])) T1 (.tup [V.ref ul, V.ref rw0]) T1 = some (.tup [V.ref ul, V.ref rw0]) := upd_same
        let B : AD := { A0 with rw := rw0, ul := ul, w := fun s => if s = 0 then w0 else w1 }
        have old : ∀ q ∈ KH A0 rg0, q ∈ (rw0, HO.lst [V.ref w0, V.ref w1]) :: (w1, HO.lst []) :: (w0, HO.lst []) :: (ul, HO.lst [V.int 0, V.int 0]) :: KH A0 rg0 := fun q h => List.mem_cons_of_mem _ (List.mem_cons_of_mem _ (List.mem_cons_of_mem _ (List.mem_cons_of_mem _ h)))
        have k1 := V1.kat
        have k2 := V2.kat
        have k3 := V3.kat
        have n_w0ul : ul ≠ w0 := ne_of_none (k1 (ul, _) List.mem_cons_self) hw0
        have n_w1ul : ul ≠ w1 := ne_of_none (k2 (ul, _) (List.mem_cons_of_mem _ List.mem_cons_self)) hw1
        have n_rul : ul ≠ rw0 := ne_of_none (k3 (ul, _) (List.mem_cons_of_mem _ (List.mem_cons_of_mem _ List.mem_cons_self))) hrw
        have n_w01 : w0 ≠ w1 := ne_of_none (k2 (w0, _) List.mem_cons_self) hw1
        have n_w0r : w0 ≠ rw0 := ne_of_none (k3 (w0, _) (List.mem_cons_of_mem _ List.mem_cons_self)) hrw
        have n_w1r : w1 ≠ rw0 := ne_of_none (k3 (w1, _) List.mem_cons_self) hrw
        have n_rgul : A0.rg ≠ ul := ne_of_none R3.hrg hul
        have n_rgw0 : A0.rg ≠ w0 := ne_of_none (k1 (A0.rg, _) (List.mem_cons_of_mem _ (KH_mem.mpr (.inl rfl)))) hw0
        have n_rgw1 : A0.rg ≠ w1 := ne_of_none (k2 (A0.rg, _) (List.mem_cons_of_mem _ (List.mem_cons_of_mem _ (KH_mem.mpr (.inl rfl))))) hw1
        have n_rgr : A0.rg ≠ rw0 := ne_of_none (k3 (A0.rg, _) (List.mem_cons_of_mem _ (List.mem_cons_of_mem _ (List.mem_cons_of_mem _ (KH_mem.mpr (.inl rfl)))))) hrw
        have gk : ∀ s, sd s → (A0.g s, HO.lst ((A0.ts s).map V.ref)) ∈ KH A0 rg0 := fun s hs => KH_mem.mpr (.inr ⟨s, hs, .inl rfl⟩)
        have n_gul : ∀ s, sd s → A0.g s ≠ ul := fun s hs => ne_of_none (R3.hg s hs) hul
        have n_gw0 : ∀ s, sd s → A0.g s ≠ w0 := fun s hs => ne_of_none (k1 _ (List.mem_cons_of_mem _ (gk s hs))) hw0
        have n_gw1 : ∀ s, sd s → A0.g s ≠ w1 := fun s hs => ne_of_none (k2 _ (List.mem_cons_of_mem _ (List.mem_cons_of_mem _ (gk s hs)))) hw1
        have n_gr : ∀ s, sd s → A0.g s ≠ rw0 := fun s hs => ne_of_none (k3 _ (List.mem_cons_of_mem _ (List.mem_cons_of_mem _ (List.mem_cons_of_mem _ (gk s hs))))) hrw
        have R5 := R3.of_ks fun q h => a5 q (old q h)
        have dgw : ∀ s s', sd s → sd s' → B.g s ≠ B.w s' := fun s s' hs hs' => by
          rcases hs' with rfl | rfl
          · exact n_gw0 s hs
          · exact n_gw1 s hs
        have dw1 : ∀ s, sd s → B.w s ≠ B.rg ∧ B.w s ≠ B.rw ∧ B.w s ≠ B.ul := fun s hs => by
          rcases hs with rfl | rfl
          · exact ⟨Ne.symm n_rgw0, n_w0r, Ne.symm n_w0ul⟩
          · exact ⟨Ne.symm n_rgw1, n_w1r, Ne.symm n_w1ul⟩
        have D : Dist B := ⟨n_w01, R3.gg, dgw, fun s hs => ⟨R3.g1 s hs, n_gr s hs, n_gul s hs⟩, dw1, ⟨n_rgr, n_rgul, Ne.symm n_rul⟩⟩
        generalize upd (upd (upd (upd (upd H3 ul (.lst [V.int 0, V.int 0])) w0 (.lst [])) w1 (.lst [])) rw0 (.lst [V.ref w0, V.ref w1])) T1 (.tup [V.ref ul, V.ref rw0]) = H5 at *
        have hwB : ∀ s, sd s → H5 (B.w s) = some (.lst (([] : List Int).map V.int)) := fun s hs => by
          rcases hs with rfl | rfl
          · exact a5 (w0, .lst []) (List.mem_cons_of_mem _ (List.mem_cons_of_mem _ List.mem_cons_self))
          · exact a5 (w1, .lst []) (List.mem_cons_of_mem _ List.mem_cons_self)
        have L5 : LH H5 B rg0 (fun _ => []) (fun _ => 0) := ⟨R5.hrg, a5 (rw0, _) List.mem_cons_self, a5 (ul, _) (List.mem_cons_of_mem _ (List.mem_cons_of_mem _ (List.mem_cons_of_mem _ List.mem_cons_self))), R5.hg, hwB, R5.ht, D⟩
        have sub5 : ∀ q ∈ KS B rg0 (fun _ => []) (fun _ => 0), q ∈ (rw0, HO.lst [V.ref w0, V.ref w1]) :: (w1, HO.lst []) :: (w0, HO.lst []) :: (ul, HO.lst [V.int 0, V.int 0]) :: KH A0 rg0 := fun q hq => by
          rcases KS_mem.mp hq with rfl | rfl | rfl | ⟨s, hs, rfl | rfl | h⟩
          · exact old _ (KH_mem.mpr (.inl rfl))
          · exact List.mem_cons_self
          · exact List.mem_cons_of_mem _ (List.mem_cons_of_mem _ (List.mem_cons_of_mem _ List.mem_cons_self))
          · exact old _ (gk s hs)
          · rcases hs with rfl | rfl
            · exact List.mem_cons_of_mem _ (List.mem_cons_of_mem _ List.mem_cons_self)
            · exact List.mem_cons_of_mem _ List.mem_cons_self
          · exact old _ (KH_mem.mpr (.inr ⟨s, hs, .inr h⟩))
        have W5 : WL C Hb H5 p x B rg0 (fun _ => []) (fun _ => 0) (P0 many rg0) := ⟨V5.sub sub5, L5⟩
        refine ⟨T1, _, rfl, SqT.of hT1', rfl, _, _, rfl, ?_⟩
        walk_at "wn"
        refine ⟨_, _, rfl, ?_⟩
        walk_at "wn"
        refine ⟨rfl, ?_⟩
        exact ⟨B, rfl, B, rg0, fun _ => [], fun _ => 0, rfl, rfl, rfl, W5, h3, fun z => absurd z (by decide), fun z => absurd z (by decide)⟩
      rintro σ' H4 ⟨B, rfl, I4⟩
      clear W3 R3 h3 b1 b2 s1 s2
      show iRng1 _ _ _ _
      show tCons _ _ _ _ _
      walk_at "wn"
      refine ⟨22, rfl, by decide, by decide, ?_⟩
      refine for_range (lo := 0) (fun tt σ' H5 => Iv5 C Hb a p x B i many tt σ' H5) ⟨_, _, _, _, _, _, _, _, rfl, I4⟩ ?_ (fun σ' H5 h => ?_)
      rotate_left
      · obtain ⟨u9, u10, u11, u12, u13, u14, u15, u16, rfl, A1, rg, rw, u, _, _, _, W5, _⟩ := h
        walk_at "wn"
        exact ⟨_, _, _, _, _, _, _, _, _, _, _, _, _, _, _, _, rfl, Same.seq W5.W.same hSb⟩
      clear I4 H4 H3 H2 H1 u9 u10 u11 u12 u13 u14 u15 u16
      rintro tt σ' H5 ht ⟨u9, u10, u11, u12, u13, u14, u15, u16, rfl, A1, rg, rw, u, eA1, eA2, eA3, W5, hlen, hu0, hu1'⟩
      have hup : ∀ {s : Int}, 2 ≤ tt → sd s → 0 < u s := fun {s} h hs => by
        rcases hs with rfl | rfl
        · exact hu0 (by omega)
        · exact hu1' h
      -- way and side
      refine ⟨fun σ' H6 => ∃ way s : Int, sd s ∧ σ' = [some (.ref a), some (.int (0 + (i : Int))), some (.ref p), some (.int (many : Int)), some (.ref x), some (.int ((many : Int) + 2)), some (.ref B.rg), some (.ref B.ul), some (.ref B.rw), some (.int (0 + (tt : Int))), some (.int way), some (.int s), u12, u13, u14, u15, u16] ∧ WL C Hb H6 p x A1 rg rw u (fun S => Pic S many rg rw u), ?_, ?_⟩
      · refine ⟨_, rfl, p, 3, rfl, W5.W.bag, by decide, by decide, fun k1 H6 _ _ e6 b6 => ?_⟩
        have W6 := W5.draw e6 b6
        refine ⟨_, rfl, p, 2, rfl, W6.W.bag, by decide, by decide, fun k2 H7 k20 k21 e7 b7 => ?_⟩
        refine ⟨_, _, rfl, k1, k2, ?_, rfl, W6.draw e7 b7⟩
        have : k2 = 0 ∨ k2 = 1 := by omega
        exact this
      rintro σ' H6 ⟨way, s, hs, rfl, W6⟩
      -- what is done
      refine ⟨fun σ' H7 => Iv7 C Hb a p x B i many tt way s σ' H7, ?_, ?_⟩
      · have hrl : ∀ s, sd s → (rw s).length ≤ 8 := fun s hs => W6.W.pure fun S F => (F.good s hs).rlen F.few.2
        have hgd : ∀ s, sd s → Good many (rg s) (rw s) := fun s hs => W6.W.pure fun S F => F.good s hs
        have hup0 : ∀ k, sd k → 0 ≤ u k := fun k hk => W6.W.pure fun S F => F.upos k hk
        walk_at "wn"
        refine ite3 ?arr1 (fun hc hA => ?rest0)
        case rest0 =>
          walk_at "wn"
          refine ite2 (fun hc2 => ?arr2) (fun hc2 => ?rest)
          case rest =>
            have h2 : 2 ≤ tt := by
              have : ¬ (0 + (tt : Int)) < 2 := fun z => hc2 (decide_eq_true z)
              omega
            walk_at "wn"
            refine ite2 (fun hw => ?_) (fun hw => ?_)
            · -- the kinds
              have Gs := hgd s hs
              have lts : (A1.ts s).length = (rg s).length := (W6.L.ht s hs).length
              refine ⟨fun σ' H7 => ∃ d : Addr, σ' = [some (.ref a), some (.int (0 + (i : Int))), some (.ref p), some (.int (many : Int)), some (.ref x), some (.int ((many : Int) + 2)), some (.ref B.rg), some (.ref B.ul), some (.ref B.rw), some (.int (0 + (tt : Int))), some (.int way), some (.int s), u12, some (.ref d), u14, u15, u16] ∧ Same H6 H7 ∧ H7 d = some (.dK (mergeK [] ((rg s).map fun r => ((Sum.inl r.lab : Key), V.int r.kind)))), ?_, ?_⟩
              · have hg6 := W6.L.hg s hs
                have ht6 := W6.L.ht s hs
                have hrg6 := W6.L.hrg
                rw [eA1] at hrg6
                walk_at "wn"
                show tLc _ _ _ _ _ _ _ _
                refine ⟨_, rfl, _, rfl, B.rg, _, s, _, rfl, rfl, SqL.of hrg6, at2 (f := V.ref) (x := A1.g) hs, ?_⟩
                refine ⟨A1.g s, rfl, ⟨_, SqL.of hg6⟩, fun D hD => lc_list (K := K) (a := A1.g s) (xs := (A1.ts s).map V.ref) (fun j H' => Same H6 H' ∧ ∃ ps : List Addr, H' D = some (.lst (ps.map V.ref)) ∧ Paired (fun p kv => SqT K H' p [kV kv.1, kv.2]) ps (((rg s).take j).map fun r => ((Sum.inl r.lab : Key), V.int r.kind))) ⟨Same.new' hD, [], upd_same, .nil⟩ (fun j H' _ h => SqL.of (h.1 _ _ hg6)) ?_ ?_⟩
                · rintro j v H' hv ⟨sm, ps, hD', pD⟩
                  rw [List.getElem?_map] at hv
                  cases et : (A1.ts s)[j]? with
                  | none => rw [et] at hv; cases hv
                  | some t =>
                  rw [et] at hv
                  cases hv
                  obtain ⟨r, er, ht⟩ := pair_get ht6 et
                  have ht' := sm _ _ ht
                  have lp := pD.length
                  rw [List.length_map, List.length_take] at lp
                  have l8 := Gs.len m5
                  refine ⟨rfl, ?_⟩
                  walk_at "wn"
                  refine ⟨t, _, 0, _, rfl, rfl, SqT.of ht', atI_nat (j := 0) rfl, ?_⟩
                  walk_at "wn"
                  refine ⟨t, _, 1, _, rfl, rfl, SqT.of ht', atI_nat (j := 1) rfl, ?_⟩
                  walk_at "wn"
                  refine ⟨by show 2 ≤ sizeLine; decide, fun p2 hp => ?_⟩
                  have sp := Same.new' (o := .tup [V.int r.lab, V.int r.kind]) hp
                  have nDp : D ≠ p2 := ne_of_none hD' hp
                  refine ⟨_, sp _ _ hD', by rw [List.length_map, sizeLine_eq]; omega, fun b o z => ?_, ps ++ [p2], by rw [upd_same, List.map_append]; rfl, ?_⟩
                  · rw [upd_ne (ne_of_none z hD)]
                    exact sp _ _ (sm _ _ z)
                  · rw [List.take_add_one, er, List.map_append]
                    have up : ∀ {b : Addr} {xs : List V}, SqT K H' b xs → SqT K (upd (upd H' p2 (.tup [V.int r.lab, V.int r.kind])) D (.lst (ps.map V.ref ++ [V.ref p2]))) b xs := fun {b xs} h => by
                      rcases h with (h | ⟨o, h⟩) | h
                      · exact .inl (.inl ((upd_ne (ne_of h hD' (by intro q; cases q))).trans (sp _ _ h)))
                      · exact .inl (.inr ⟨o, (upd_ne (ne_of h hD' (by intro q; cases q))).trans (sp _ _ h)⟩)
                      · exact .inr h
                    exact pair_snoc (pair_mono pD fun b kv h => up h) (SqT.of ((upd_ne (Ne.symm nDp)).trans upd_same))
                · rintro H' ⟨sm, ps, hD', pD⟩
                  have e : (rg s).take ((A1.ts s).map V.ref).length = rg s := by
                    rw [List.length_map, lts]
                    exact List.take_length
                  rw [e] at pD
                  walk_at "wn"
                  refine ⟨D, ps, _, rfl, SqL.of hD', pD, fun d hd => ?_⟩
                  walk_at "wn"
                  exact ⟨d, rfl, sm.trans (Same.new' hd), upd_same⟩
              rintro σ' H7 ⟨d, rfl, s7, hd7⟩
              have W7 := W6.same' s7
              have val : ∀ l ∈ rw s, valV (mergeK [] ((rg s).map fun r => ((Sum.inl r.lab : Key), V.int r.kind))) (Sum.inl l) = some (V.int (kdR (rg s) l)) := fun l hl => by
                obtain ⟨r, hr', rfl⟩ := List.mem_map.mp (Gs.ri l hl)
                rw [merge_val (v := fun r => V.int r.kind) Gs.nd, find_lab Gs.nd hr', (wd_of Gs.nd hr').2]
              have kd : ∀ l ∈ rw s, sd (kdR (rg s) l) := fun l hl => by
                obtain ⟨r, hr', rfl⟩ := List.mem_map.mp (Gs.ri l hl)
                rw [(wd_of Gs.nd hr').2]
                exact Gs.kd hr'
              -- what is due
              refine ⟨fun σ' H8 => ∃ (D : Addr) (vs : List V) (ts' : List Addr) (w' : Addr), σ' = [some (.ref a), some (.int (0 + (i : Int))), some (.ref p), some (.int (many : Int)), some (.ref x), some (.int ((many : Int) + 2)), some (.ref B.rg), some (.ref B.ul), some (.ref B.rw), some (.int (0 + (tt : Int))), some (.int way), some (.int s), u12, some (.ref d), u14, some (.ref D), u16] ∧ WQ C Hb H8 p x ((D, .lst vs) :: KS (newRow (setTs A1 s ts') s w') (upF rg s ((rg s).map (spentR (rw s)))) (upF rw s ((rw s).filter (levR (rg s)))) u) (fun S => Pic S many rg rw u) ∧ LH H8 (newRow (setTs A1 s ts') s w') (upF rg s ((rg s).map (spentR (rw s)))) (upF rw s ((rw s).filter (levR (rg s)))) u ∧ Paired (RepAt H8) vs ((rw s).map (repW (rg s) u)), ?_, ?_⟩
              · walk_at "wn"
                show iList _ _ _ _ _
                refine ⟨_, rfl, _, rfl, _, rfl, A1, rg, rw, u, s, (by rw [eA1, eA2]; rfl), hs, W7.L, Gs.nd, Gs.ri, Gs.len m5, Gs.rlen m5, fun H8 ts' w' L8 hw8 kp8 fw fts => ?_⟩
                have W8 := W7.mut L8 (fun b o n e => kp8 b o (fun z => n (by rw [z]; exact in_g hs)) (fun z => n (.inr (.inl z))) e) fun b hb => by
                  rcases in_newRow (H := H7) fw hb with h | h
                  · exact in_setTs fts hs h
                  · exact .inr h
                have hd8 : H8 d = some (.dK (mergeK [] ((rg s).map fun r => ((Sum.inl r.lab : Key), V.int r.kind)))) := kp8 _ _ (ne_of hd7 (W7.L.hg s hs) (by intro z; cases z)) (ne_of hd7 W7.L.hrw (by intro z; cases z)) hd7
                have hul8 := W8.L.hul
                have eul : (newRow (setTs A1 s ts') s w').ul = B.ul := eA3
                rw [eul] at hul8
                refine ⟨A1.w s, rfl, ⟨_, SqL.of hw8⟩, fun D hD => lc_list (K := K) (a := A1.w s) (xs := (rw s).map V.int) (fun j H' => Same H8 H' ∧ ∃ vs, H' D = some (.lst vs) ∧ Paired (RepAt H') vs (((rw s).take j).map (repW (rg s) u))) ⟨Same.new' hD, [], upd_same, .nil⟩ (fun j H' _ h => SqL.of (h.1 _ _ hw8)) ?_ ?_⟩
                · rintro j v H' hv ⟨sm, vs, hD', pD⟩
                  rw [List.getElem?_map] at hv
                  cases el : (rw s)[j]? with
                  | none => rw [el] at hv; cases hv
                  | some y =>
                  rw [el] at hv
                  cases hv
                  have hy := List.mem_of_getElem? el
                  have lv := pD.length
                  rw [List.length_map, List.length_take] at lv
                  have l8 := Gs.rlen m5
                  refine ⟨rfl, ?_⟩
                  walk_at "wn"
                  refine ⟨_, rfl, _, rfl, d, _, rfl, (val y hy) ▸ DGet.k (k := Sum.inl y) (sm _ _ hd8), ?_⟩
                  refine ⟨B.ul, _, kdR (rg s) y, _, rfl, rfl, SqL.of (sm _ _ hul8), at2 (f := V.int) (x := u) (kd y hy), ?_⟩
                  walk_at "wn"
                  refine ⟨by show 3 ≤ sizeLine; decide, fun t ht => ?_⟩
                  have st := Same.new' (o := .tup [V.int y, V.int (u (kdR (rg s) y)), V.bl false]) ht
                  have nDt : D ≠ t := ne_of_none hD' ht
                  refine ⟨_, st _ _ hD', by rw [sizeLine_eq]; omega, fun b o z => ?_, _, upd_same, ?_⟩
                  · rw [upd_ne (ne_of_none z hD)]
                    exact st _ _ (sm _ _ z)
                  · rw [List.take_add_one, el, List.map_append]
                    refine reps_snoc (reps_keep pD fun b o z => ?_) ⟨t, rfl, (upd_ne (Ne.symm nDt)).trans upd_same⟩
                    rw [upd_ne (ne_of z hD' (by intro q; cases q))]
                    exact st _ _ z
                · rintro H' ⟨sm, vs, hD', pD⟩
                  rw [List.length_map, List.take_length] at pD
                  have W9 := W8.W.hold hD (Dr.same W8.W.bag sm) hD'
                  walk_at "wn"
                  exact ⟨D, vs, ts', w', rfl, W9, W8.L.keep fun b o e => sm _ _ e, pD⟩
              rintro σ' H8 ⟨D, vs, ts', w', rfl, W8, L8, pD⟩
              obtain ⟨bx, bS, td, sd', ud, hb⟩ := W8.boxAt
              walk_at "wn"
              refine ⟨_, rfl, x, bx, _, rfl, hb, rfl, ?_⟩
              walk_at "wn"
              refine W8.waitP nWR hs (fun r hr => hup h2 (Gs.kd hr)) fun H9 r9 vs9 W9 t3 h9 p9 => ?_
              have hD9 := W9.kat _ List.mem_cons_self
              walk_at "wn"
              refine q_neReps h9 p9 hD9 (reps_keep' pD t3) ?_
              walk_at "wn"
              have W9' := W9.sub (ks1 := KS (newRow (setTs A1 s ts') s w') (upF rg s ((rg s).map (spentR (rw s)))) (upF rw s ((rw s).filter (levR (rg s)))) u) fun q hq => List.mem_cons_of_mem _ hq
              refine ⟨_, _, _, _, _, rfl, newRow (setTs A1 s ts') s w', _, _, u, eA1, eA2, eA3, ⟨W9', L8.of_ks W9'.kat⟩, fun j hj => ?_, fun _ => hup h2 sd0, fun _ => hup h2 sd1⟩
              by_cases e : j = s
              · rw [e, upF_same, List.length_map]
                exact hlen s hs
              · rw [upF_ne e]
                exact hlen j hj
            · walk_at "wn"
              refine ⟨Hb, p, x, A1, rg, rw, u, many, s, (by rw [eA1, eA2]; rfl), hs, W6, by rw [hlen s hs]; omega, fun k hk => hup h2 hk, fun H7 A7 rg7 rw7 e1 e2 e3 l7 W7 => ?_⟩
              walk_at "wn"
              exact ⟨_, _, _, _, _, rfl, A7, rg7, rw7, u, e1.trans eA1, e2.trans eA2, e3.trans eA3, W7, fun j hj => (l7 j hj).trans (hlen j hj), fun _ => hup h2 sd0, fun _ => hup h2 sd1⟩
          case arr2 =>
            exact hA
        case arr1 =>
          -- the source
          refine ⟨fun σ' H7 => ∃ k1 : Int, sd k1 ∧ (tt < 2 → k1 = tt) ∧ σ' = [some (.ref a), some (.int (0 + (i : Int))), some (.ref p), some (.int (many : Int)), some (.ref x), some (.int ((many : Int) + 2)), some (.ref B.rg), some (.ref B.ul), some (.ref B.rw), some (.int (0 + (tt : Int))), some (.int way), some (.int s), some (.int k1), u13, u14, u15, u16] ∧ WL C Hb H7 p x A1 rg rw u (fun S => Pic S many rg rw u), ?_, ?_⟩
          · walk_at "wn"
            refine ⟨p, 2, rfl, W6.W.bag, by decide, by decide, fun kk H7 k0 k1 e7 b7 => ?_⟩
            have W7 := W6.draw e7 b7
            walk_at "wn"
            refine ⟨by show 2 ≤ sizeLine; decide, fun l1 h1 => ?_⟩
            have W8 := W7.same' (Same.new' (o := .lst [V.int kk, V.int (0 + (tt : Int))]) h1)
            walk_at "wn"
            refine .inr ⟨_, rfl, ?_⟩
            by_cases htt : tt < 2
            · rw [if_pos (show decide ((0 + (tt : Int)) < 2) = true from decide_eq_true (by omega))]
              refine ⟨l1, _, 1, V.int (0 + (tt : Int)), rfl, rfl, SqL.of upd_same, rfl, ?_⟩
              walk_at "wn"
              have hk : sd (0 + (tt : Int)) := by
                have : tt = 0 ∨ tt = 1 := by omega
                rcases this with rfl | rfl
                · exact sd0
                · exact sd1
              exact ⟨_, hk, fun _ => Int.zero_add _, rfl, W8⟩
            · rw [if_neg (show ¬ decide ((0 + (tt : Int)) < 2) = true from fun z => htt (by have := of_decide_eq_true z; omega))]
              refine ⟨l1, _, 0, V.int kk, rfl, rfl, SqL.of upd_same, rfl, ?_⟩
              walk_at "wn"
              have hk : sd kk := by
                have : kk = 0 ∨ kk = 1 := by omega
                exact this
              exact ⟨_, hk, fun z => absurd z htt, rfl, W8⟩
          rintro σ' H7 ⟨k1, hk1, hkt, rfl, W7⟩
          -- the arrival
          refine ⟨fun σ' H8 => σ' = [some (.ref a), some (.int (0 + (i : Int))), some (.ref p), some (.int (many : Int)), some (.ref x), some (.int ((many : Int) + 2)), some (.ref B.rg), some (.ref B.ul), some (.ref B.rw), some (.int (0 + (tt : Int))), some (.int way), some (.int s), some (.int k1), u13, u14, u15, u16] ∧ WL C Hb H8 p x A1 rg rw u (fun S => Pic S many rg (fun s => arrRow k1 (rg s) (rw s)) (upF u k1 (u k1 + 1))), ?_, ?_⟩
          · obtain ⟨bx, bS, td, sd', ud, hb⟩ := W7.W.boxAt
            walk_at "wn"
            refine ⟨_, rfl, x, bx, _, rfl, hb, rfl, ?_⟩
            walk_at "wn"
            refine ⟨p, (many : Int), rfl, W7.W.bag, by omega, by omega, fun kk H8 k0 kl e8 b8 => ?_⟩
            have W8 := W7.draw e8 b8
            walk_at "wn"
            refine ⟨by show 2 ≤ sizeLine; decide, fun l2 h2' => ?_⟩
            have W9 := W8.same' (Same.new' (o := .lst [V.int (2 + kk), V.int ((many : Int) + 2)]) h2')
            walk_at "wn"
            refine ⟨l2, _, k1, _, rfl, rfl, SqL.of upd_same, at2 (f := V.int) (x := fun s : Int => if s = 0 then 2 + kk else (many : Int) + 2) hk1, ?_⟩
            walk_at "wn"
            refine W9.arrive hk1 ?_ fun Ha Wa => ?_
            · rcases hk1 with rfl | rfl
              · refine .inl ⟨rfl, ?_, ?_⟩
                · show 2 ≤ 2 + kk
                  omega
                · show 2 + kk ≤ _
                  omega
              · exact .inr ⟨rfl, rfl⟩
            · walk_at "wn"
              exact ⟨rfl, Wa⟩
          rintro σ' H8 ⟨rfl, W8⟩
          -- the units
          refine ⟨fun σ' H9 => σ' = [some (.ref a), some (.int (0 + (i : Int))), some (.ref p), some (.int (many : Int)), some (.ref x), some (.int ((many : Int) + 2)), some (.ref B.rg), some (.ref B.ul), some (.ref B.rw), some (.int (0 + (tt : Int))), some (.int way), some (.int s), some (.int k1), u13, u14, u15, u16] ∧ WL C Hb H9 p x A1 rg rw (upF u k1 (u k1 + 1)) (fun S => Pic S many rg (fun s => arrRow k1 (rg s) (rw s)) (upF u k1 (u k1 + 1))), ?_, ?_⟩
          · have hul := W8.L.hul
            rw [eA3] at hul
            walk_at "wn"
            refine ⟨B.ul, _, k1, _, rfl, rfl, SqL.of hul, at2 (f := V.int) (x := u) hk1, ?_⟩
            walk_at "wn"
            refine ⟨B.ul, _, k1, k1.toNat, rfl, rfl, hul, ix2 hk1, ?_⟩
            walk_at "wn"
            have kk : ∀ b, b ≠ A1.ul → upd H8 B.ul (.lst (([V.int (u 0), V.int (u 1)] : List V).set k1.toNat (V.int (u k1 + 1)))) b = H8 b := fun b n => upd_ne (by rw [← eA3]; exact n)
            have L9 := W8.L.setUl (v := u k1 + 1) hk1 kk (by rw [eA3]; exact upd_same)
            exact ⟨rfl, W8.mut L9 (fun b o n e => by rw [kk b fun z => n (.inr (.inr (.inl z)))]; exact e) fun b hb => .inl hb⟩
          rintro σ' H9 ⟨rfl, W9⟩
          walk_at "wn"
          refine ⟨A1, rg, rw, upF u k1 (u k1 + 1), k1, (by rw [eA1, eA2]; rfl), W9.L, fun s hs => ⟨by rw [hlen s hs]; omega, hrl s hs⟩, fun Ha La kp => ?_⟩
          have Wa := W9.mut La (fun b o n e => kp b o (fun z => n (by rw [z]; exact in_w sd0)) (fun z => n (by rw [z]; exact in_w sd1)) e) fun b hb => .inl hb
          have hpos : ∀ k, sd k → (0 < u k ∨ k = k1) → 0 < upF u k1 (u k1 + 1) k := fun k hk h => by
            by_cases e : k = k1
            · rw [e, upF_same]
              have := hup0 k1 hk1
              omega
            · rw [upF_ne e]
              exact h.resolve_right e
          walk_at "wn"
          refine ⟨_, _, _, _, _, rfl, A1, rg, _, _, eA1, eA2, eA3, Wa, hlen, fun _ => hpos 0 sd0 ?_, fun h1 => hpos 1 sd1 ?_⟩
          · by_cases h : 1 ≤ tt
            · exact .inl (hu0 h)
            · right
              have := hkt (by omega)
              omega
          · by_cases h : 2 ≤ tt
            · exact .inl (hu1' h)
            · right
              have := hkt (by omega)
              omega
      -- the rows
      rintro σ' H7 ⟨u12, u13, u14, u15, u16, rfl, A7, rg7, rw7, u7', e1, e2, e3, W7, l7, p0, p1⟩
      obtain ⟨bx, bS, td, sd', ud, hb⟩ := W7.W.boxAt
      walk_at "wn"
      refine ⟨_, rfl, x, bx, _, rfl, hb, rfl, ?_⟩
      walk_at "wn"
      refine W7.rowOf sd0 fun r0 hr0 => ?_
      have W8 := W7.same' (Same.new' (o := .lst ((rw7 0).map V.int)) hr0)
      have h80 : upd H7 r0 (.lst ((rw7 0).map V.int)) r0 = some (.lst ((rw7 0).map V.int)) := upd_same
      generalize upd H7 r0 (.lst ((rw7 0).map V.int)) = H8 at W8 h80
      obtain ⟨bx, bS, td, sd', ud, hb⟩ := W8.W.boxAt
      walk_at "wn"
      refine ⟨_, rfl, x, bx, _, rfl, hb, rfl, ?_⟩
      walk_at "wn"
      refine W8.rowOf sd1 fun r1' hr1 => ?_
      have s9 := Same.new' (o := .lst ((rw7 1).map V.int)) hr1
      have W9 := W8.same' s9
      have h90 := s9 _ _ h80
      have h91 : upd H8 r1' (.lst ((rw7 1).map V.int)) r1' = some (.lst ((rw7 1).map V.int)) := upd_same
      generalize upd H8 r1' (.lst ((rw7 1).map V.int)) = H9 at W9 h90 h91
      walk_at "wn"
      refine ⟨by show 2 ≤ sizeLine; decide, fun c hc => ?_⟩
      have sa := Same.new' (o := .lst [V.ref r0, V.ref r1']) hc
      have Wa := W9.same' sa
      have hrwa := Wa.L.hrw
      rw [e2] at hrwa
      walk_at "wn"
      refine q_neRows upd_same hrwa (sa _ _ h90) (sa _ _ h91) (Wa.L.hw 0 sd0) (Wa.L.hw 1 sd1) ?_
      walk_at "wn"
      exact ⟨_, _, _, _, _, _, _, _, rfl, A7, rg7, rw7, u7', e1, e2, e3, Wa, l7, p0, p1⟩
    · walk_at "wn"
      exact k _
end

theorem Ln0 {α : Type} : ∀ {us : List α}, us.length = 0 → us = []
  | [], _ => rfl
theorem Ln1 {α : Type} : ∀ {us : List α}, us.length = 1 → ∃ a0, us = [a0]
  | [a0], _ => ⟨_, rfl⟩
theorem Ln2 {α : Type} : ∀ {us : List α}, us.length = 2 → ∃ a0 a1, us = [a0, a1]
  | [a0, a1], _ => ⟨_, _, rfl⟩
theorem Ln3 {α : Type} : ∀ {us : List α}, us.length = 3 → ∃ a0 a1 a2, us = [a0, a1, a2]
  | [a0, a1, a2], _ => ⟨_, _, _, rfl⟩
theorem Ln4 {α : Type} : ∀ {us : List α}, us.length = 4 → ∃ a0 a1 a2 a3, us = [a0, a1, a2, a3]
  | [a0, a1, a2, a3], _ => ⟨_, _, _, _, rfl⟩
theorem Ln5 {α : Type} : ∀ {us : List α}, us.length = 5 → ∃ a0 a1 a2 a3 a4, us = [a0, a1, a2, a3, a4]
  | [a0, a1, a2, a3, a4], _ => ⟨_, _, _, _, _, rfl⟩
theorem all_mk {P : Program} {w : World} {K : PySem.W.Frag} {h : Heap} {mg : Str → Option Value} {fa : Addr} (X : K.In h) (G : h.Ns mainGlobals mg) (hfa : mg "law" = some (.ref fa))
    {CS CW CR : Addr}
    {f_int : Addr} {oc_int dc_int pm_int cd_int ct_int : Value} {od_int an_int : Option Addr} {sl_int : Array (Option Value)}
    {kV_int : Value}
    {f_bet : Addr} {oc_bet dc_bet pm_bet cd_bet ct_bet : Value} {od_bet an_bet : Option Addr} {sl_bet : Array (Option Value)}
    {kV_bet : Value}
    {f_cnt : Addr} {oc_cnt dc_cnt pm_cnt cd_cnt ct_cnt : Value} {od_cnt an_cnt : Option Addr} {sl_cnt : Array (Option Value)}
    {kV_cnt : Value}
    {f_lab : Addr} {oc_lab dc_lab pm_lab cd_lab ct_lab : Value} {od_lab an_lab : Option Addr} {sl_lab : Array (Option Value)}
    {kV_lab : Value}
    {f_wrd : Addr} {oc_wrd dc_wrd pm_wrd cd_wrd ct_wrd : Value} {od_wrd an_wrd : Option Addr} {sl_wrd : Array (Option Value)}
    {kV_wrd : Value}
    {f_bag : Addr} {oc_bag dc_bag pm_bag cd_bag ct_bag : Value} {od_bag an_bag : Option Addr} {sl_bag : Array (Option Value)}
    {kV_bag : Value}
    {f_take : Addr} {oc_take dc_take pm_take cd_take ct_take : Value} {od_take an_take : Option Addr} {sl_take : Array (Option Value)}
    {kV_take : Value}
    {f_of : Addr} {oc_of dc_of pm_of cd_of ct_of : Value} {od_of an_of : Option Addr} {sl_of : Array (Option Value)}
    {kV_of : Value}
    {f_avd : Addr} {oc_avd dc_avd pm_avd cd_avd ct_avd : Value} {od_avd an_avd : Option Addr} {sl_avd : Array (Option Value)}
    {kV_avd : Value}
    {f_wtd : Addr} {oc_wtd dc_wtd pm_wtd cd_wtd ct_wtd : Value} {od_wtd an_wtd : Option Addr} {sl_wtd : Array (Option Value)}
    {kV_wtd : Value}
    {f_anw : Addr} {oc_anw dc_anw pm_anw cd_anw ct_anw : Value} {od_anw an_anw : Option Addr} {sl_anw : Array (Option Value)}
    {kV_anw : Value}
    {f_hom : Addr} {oc_hom dc_hom pm_hom cd_hom ct_hom : Value} {od_hom an_hom : Option Addr} {sl_hom : Array (Option Value)}
    {kV_hom : Value}
    {f_law : Addr} {oc_law dc_law pm_law cd_law ct_law : Value} {od_law an_law : Option Addr} {sl_law : Array (Option Value)}
    {kV_law : Value}
    {f_ri : Addr} {oc_ri dc_ri pm_ri cd_ri ct_ri : Value} {od_ri an_ri : Option Addr} {sl_ri : Array (Option Value)}
    {kV_ri : Value}
    {f_wi : Addr} {oc_wi dc_wi pm_wi cd_wi ct_wi : Value} {od_wi an_wi : Option Addr} {sl_wi : Array (Option Value)}
    {kV_wi : Value}
    {f_app : Addr} {oc_app dc_app pm_app cd_app ct_app : Value} {od_app an_app : Option Addr} {sl_app : Array (Option Value)}
    {kV_app : Value}
    {f_put : Addr} {oc_put dc_put pm_put cd_put ct_put : Value} {od_put an_put : Option Addr} {sl_put : Array (Option Value)}
    {kV_put : Value}
    {f_stl : Addr} {oc_stl dc_stl pm_stl cd_stl ct_stl : Value} {od_stl an_stl : Option Addr} {sl_stl : Array (Option Value)}
    {kV_stl : Value}
    {f_lof : Addr} {oc_lof dc_lof pm_lof cd_lof ct_lof : Value} {od_lof an_lof : Option Addr} {sl_lof : Array (Option Value)}
    {kV_lof : Value}
    {f_drp : Addr} {oc_drp dc_drp pm_drp cd_drp ct_drp : Value} {od_drp an_drp : Option Addr} {sl_drp : Array (Option Value)}
    {kV_drp : Value}
    {f_chg : Addr} {oc_chg dc_chg pm_chg cd_chg ct_chg : Value} {od_chg an_chg : Option Addr} {sl_chg : Array (Option Value)}
    {kV_chg : Value}
    {f_cpy : Addr} {oc_cpy dc_cpy pm_cpy cd_cpy ct_cpy : Value} {od_cpy an_cpy : Option Addr} {sl_cpy : Array (Option Value)}
    {T_cpy : Addr} {dd_cpy : Option Addr} {nd_cpy : Nat} {sd_cpy : Array (Option Value)}
    {kV_cpy : Value}
    {f_rem : Addr} {oc_rem dc_rem pm_rem cd_rem ct_rem : Value} {od_rem an_rem : Option Addr} {sl_rem : Array (Option Value)}
    {kV_rem : Value}
    {f_ntc : Addr} {oc_ntc dc_ntc pm_ntc cd_ntc ct_ntc : Value} {od_ntc an_ntc : Option Addr} {sl_ntc : Array (Option Value)}
    {kV_ntc : Value}
    {f_rep : Addr} {oc_rep dc_rep pm_rep cd_rep ct_rep : Value} {od_rep an_rep : Option Addr} {sl_rep : Array (Option Value)}
    {kV_rep : Value}
    {f_si : Addr} {oc_si dc_si pm_si cd_si ct_si : Value} {od_si an_si : Option Addr} {sl_si : Array (Option Value)}
    {D_si : Addr}
    {tw_si0 : Tok}
    {tw_si1 : Tok}
    {f_con : Addr} {oc_con dc_con pm_con cd_con ct_con : Value} {od_con an_con : Option Addr} {sl_con : Array (Option Value)}
    {kV_con : Value}
    {f_tof : Addr} {oc_tof dc_tof pm_tof cd_tof ct_tof : Value} {od_tof an_tof : Option Addr} {sl_tof : Array (Option Value)}
    {kV_tof : Value}
    {f_itn : Addr} {oc_itn dc_itn pm_itn cd_itn ct_itn : Value} {od_itn an_itn : Option Addr} {sl_itn : Array (Option Value)}
    {kV_itn : Value}
    {f_tha : Addr} {oc_tha dc_tha pm_tha cd_tha ct_tha : Value} {od_tha an_tha : Option Addr} {sl_tha : Array (Option Value)}
    {kV_tha : Value}
    {f_sra : Addr} {oc_sra dc_sra pm_sra cd_sra ct_sra : Value} {od_sra an_sra : Option Addr} {sl_sra : Array (Option Value)}
    {kV_sra : Value}
    {f_sta : Addr} {oc_sta dc_sta pm_sta cd_sta ct_sta : Value} {od_sta an_sta : Option Addr} {sl_sta : Array (Option Value)}
    {kV_sta : Value}
    {f_frn : Addr} {oc_frn dc_frn pm_frn cd_frn ct_frn : Value} {od_frn an_frn : Option Addr} {sl_frn : Array (Option Value)}
    {kV_frn : Value}
    {f_nth : Addr} {oc_nth dc_nth pm_nth cd_nth ct_nth : Value} {od_nth an_nth : Option Addr} {sl_nth : Array (Option Value)}
    {kV_nth : Value}
    {f_unf : Addr} {oc_unf dc_unf pm_unf cd_unf ct_unf : Value} {od_unf an_unf : Option Addr} {sl_unf : Array (Option Value)}
    {kV_unf : Value}
    {f_rdy : Addr} {oc_rdy dc_rdy pm_rdy cd_rdy ct_rdy : Value} {od_rdy an_rdy : Option Addr} {sl_rdy : Array (Option Value)}
    {kV_rdy : Value}
    {f_nfy : Addr} {oc_nfy dc_nfy pm_nfy cd_nfy ct_nfy : Value} {od_nfy an_nfy : Option Addr} {sl_nfy : Array (Option Value)}
    {kV_nfy : Value}
    {f_nso : Addr} {oc_nso dc_nso pm_nso cd_nso ct_nso : Value} {od_nso an_nso : Option Addr} {sl_nso : Array (Option Value)}
    {kV_nso : Value}
    {f_nse : Addr} {oc_nse dc_nse pm_nse cd_nse ct_nse : Value} {od_nse an_nse : Option Addr} {sl_nse : Array (Option Value)}
    {kV_nse : Value}
    {f_arr : Addr} {oc_arr dc_arr pm_arr cd_arr ct_arr : Value} {od_arr an_arr : Option Addr} {sl_arr : Array (Option Value)}
    {T_arr : Addr} {dd_arr : Option Addr} {nd_arr : Nat} {sd_arr : Array (Option Value)}
    {tv_arr0 : Tok}
    {kV_arr : Value}
    {f_row : Addr} {oc_row dc_row pm_row cd_row ct_row : Value} {od_row an_row : Option Addr} {sl_row : Array (Option Value)}
    {kV_row : Value}
    {f_add : Addr} {oc_add dc_add pm_add cd_add ct_add : Value} {od_add an_add : Option Addr} {sl_add : Array (Option Value)}
    {D_add : Addr}
    {tw_add0 : Tok}
    {f_wai : Addr} {oc_wai dc_wai pm_wai cd_wai ct_wai : Value} {od_wai an_wai : Option Addr} {sl_wai : Array (Option Value)}
    {T_wai : Addr} {dd_wai : Option Addr} {nd_wai : Nat} {sd_wai : Array (Option Value)}
    {tv_wai0 : Tok}
    {kV_wai : Value}
    {wW : Addr} {dW : Option Addr} {nW : Nat} {sW : Array (Option Value)} {tW0 tW1 tW2 tMC tML tLP tLN tMP tMN : Tok}
    (gCS : PySem.W.nsIn K mainGlobals "System" = some (some (.ref CS)))
    (pgS : PySem.W.plainGet K CS Str.empty = true)
    (hdS : PySem.W.hasDictIn K CS = true)
    (poS : PySem.W.plainOver K CS = true)
    (saS : PySem.W.findIn K (.ref CS) "__setattr__" = some (some (.builtin "object.__setattr__")))
    (mkS : PySem.W.makesIn K CS = true)
    (kcS : PySem.W.keepIn K (.ref CS) = true)
    (noS0 : PySem.W.findIn K (.ref CS) "process_limit" = some none)
    (noS1 : PySem.W.findIn K (.ref CS) "number_limit" = some none)
    (noS2 : PySem.W.findIn K (.ref CS) "tables" = some none)
    (noS3 : PySem.W.findIn K (.ref CS) "sources" = some none)
    (noS4 : PySem.W.findIn K (.ref CS) "sets" = some none)
    (noS5 : PySem.W.findIn K (.ref CS) "next_thing" = some none)
    (gCW : PySem.W.nsIn K mainGlobals "WaitingSet" = some (some (.ref CW)))
    (pgW : PySem.W.plainGet K CW Str.empty = true)
    (hdW : PySem.W.hasDictIn K CW = true)
    (poW : PySem.W.plainOver K CW = true)
    (saW : PySem.W.findIn K (.ref CW) "__setattr__" = some (some (.builtin "object.__setattr__")))
    (mkW : PySem.W.makesIn K CW = true)
    (kcW : PySem.W.keepIn K (.ref CW) = true)
    (noW0 : PySem.W.findIn K (.ref CW) "entries" = some none)
    (noW1 : PySem.W.findIn K (.ref CW) "queue" = some none)
    (gCR : PySem.W.nsIn K mainGlobals "Registration" = some (some (.ref CR)))
    (pgR : PySem.W.plainGet K CR Str.empty = true)
    (hdR : PySem.W.hasDictIn K CR = true)
    (poR : PySem.W.plainOver K CR = true)
    (saR : PySem.W.findIn K (.ref CR) "__setattr__" = some (some (.builtin "object.__setattr__")))
    (mkR : PySem.W.makesIn K CR = true)
    (kcR : PySem.W.keepIn K (.ref CR) = true)
    (noR0 : PySem.W.findIn K (.ref CR) "number" = some none)
    (noR1 : PySem.W.findIn K (.ref CR) "source" = some none)
    (noR2 : PySem.W.findIn K (.ref CR) "word" = some none)
    (noR3 : PySem.W.findIn K (.ref CR) "armed" = some none)
    (nWR : CW ≠ CR)
    (aint : PySem.W.nsIn K mainGlobals "is_integer" = some (some (.ref f_int)))
    (lint : K.lookup f_int = some ⟨oc_int, od_int, .func (PySem.W.fnOf "is_integer" "is_integer" (defArgs sIsInteger) (defBody sIsInteger) (defScope sIsInteger) .none kV_int dc_int pm_int an_int cd_int ct_int), sl_int⟩)
    (cint : PySem.W.codeIn K cd_int "is_integer" = true)
    (kint : PySem.W.keepIn K (.ref f_int) = true)
    (abet : PySem.W.nsIn K mainGlobals "is_between" = some (some (.ref f_bet)))
    (lbet : K.lookup f_bet = some ⟨oc_bet, od_bet, .func (PySem.W.fnOf "is_between" "is_between" (defArgs sIsBetween) (defBody sIsBetween) (defScope sIsBetween) .none kV_bet dc_bet pm_bet an_bet cd_bet ct_bet), sl_bet⟩)
    (cbet : PySem.W.codeIn K cd_bet "is_between" = true)
    (kbet : PySem.W.keepIn K (.ref f_bet) = true)
    (acnt : PySem.W.nsIn K mainGlobals "is_count" = some (some (.ref f_cnt)))
    (lcnt : K.lookup f_cnt = some ⟨oc_cnt, od_cnt, .func (PySem.W.fnOf "is_count" "is_count" (defArgs sIsCount) (defBody sIsCount) (defScope sIsCount) .none kV_cnt dc_cnt pm_cnt an_cnt cd_cnt ct_cnt), sl_cnt⟩)
    (ccnt : PySem.W.codeIn K cd_cnt "is_count" = true)
    (kcnt : PySem.W.keepIn K (.ref f_cnt) = true)
    (alab : PySem.W.nsIn K mainGlobals "is_label" = some (some (.ref f_lab)))
    (llab : K.lookup f_lab = some ⟨oc_lab, od_lab, .func (PySem.W.fnOf "is_label" "is_label" (defArgs sIsLabel) (defBody sIsLabel) (defScope sIsLabel) .none kV_lab dc_lab pm_lab an_lab cd_lab ct_lab), sl_lab⟩)
    (clab : PySem.W.codeIn K cd_lab "is_label" = true)
    (klab : PySem.W.keepIn K (.ref f_lab) = true)
    (awrd : PySem.W.nsIn K mainGlobals "is_word" = some (some (.ref f_wrd)))
    (lwrd : K.lookup f_wrd = some ⟨oc_wrd, od_wrd, .func (PySem.W.fnOf "is_word" "is_word" (defArgs sIsWord) (defBody sIsWord) (defScope sIsWord) .none kV_wrd dc_wrd pm_wrd an_wrd cd_wrd ct_wrd), sl_wrd⟩)
    (cwrd : PySem.W.codeIn K cd_wrd "is_word" = true)
    (kwrd : PySem.W.keepIn K (.ref f_wrd) = true)
    (abag : PySem.W.nsIn K mainGlobals "_law_bag" = some (some (.ref f_bag)))
    (lbag : K.lookup f_bag = some ⟨oc_bag, od_bag, .func (PySem.W.fnOf "_law_bag" "_law_bag" (defArgs sBag) (defBody sBag) (defScope sBag) .none kV_bag dc_bag pm_bag an_bag cd_bag ct_bag), sl_bag⟩)
    (cbag : PySem.W.codeIn K cd_bag "_law_bag" = true)
    (kbag : PySem.W.keepIn K (.ref f_bag) = true)
    (atake : PySem.W.nsIn K mainGlobals "_law_take" = some (some (.ref f_take)))
    (ltake : K.lookup f_take = some ⟨oc_take, od_take, .func (PySem.W.fnOf "_law_take" "_law_take" (defArgs sTake) (defBody sTake) (defScope sTake) .none kV_take dc_take pm_take an_take cd_take ct_take), sl_take⟩)
    (ctake : PySem.W.codeIn K cd_take "_law_take" = true)
    (ktake : PySem.W.keepIn K (.ref f_take) = true)
    (aof : PySem.W.nsIn K mainGlobals "_law_of" = some (some (.ref f_of)))
    (lof : K.lookup f_of = some ⟨oc_of, od_of, .func (PySem.W.fnOf "_law_of" "_law_of" (defArgs sOf) (defBody sOf) (defScope sOf) .none kV_of dc_of pm_of an_of cd_of ct_of), sl_of⟩)
    (cof : PySem.W.codeIn K cd_of "_law_of" = true)
    (kof : PySem.W.keepIn K (.ref f_of) = true)
    (aavd : PySem.W.nsIn K mainGlobals "_law_arrived" = some (some (.ref f_avd)))
    (lavd : K.lookup f_avd = some ⟨oc_avd, od_avd, .func (PySem.W.fnOf "_law_arrived" "_law_arrived" (defArgs sArrived) (defBody sArrived) (defScope sArrived) .none kV_avd dc_avd pm_avd an_avd cd_avd ct_avd), sl_avd⟩)
    (cavd : PySem.W.codeIn K cd_avd "_law_arrived" = true)
    (kavd : PySem.W.keepIn K (.ref f_avd) = true)
    (awtd : PySem.W.nsIn K mainGlobals "_law_waited" = some (some (.ref f_wtd)))
    (lwtd : K.lookup f_wtd = some ⟨oc_wtd, od_wtd, .func (PySem.W.fnOf "_law_waited" "_law_waited" (defArgs sWaited) (defBody sWaited) (defScope sWaited) .none kV_wtd dc_wtd pm_wtd an_wtd cd_wtd ct_wtd), sl_wtd⟩)
    (cwtd : PySem.W.codeIn K cd_wtd "_law_waited" = true)
    (kwtd : PySem.W.keepIn K (.ref f_wtd) = true)
    (aanw : PySem.W.nsIn K mainGlobals "_law_anew" = some (some (.ref f_anw)))
    (lanw : K.lookup f_anw = some ⟨oc_anw, od_anw, .func (PySem.W.fnOf "_law_anew" "_law_anew" (defArgs sAnew) (defBody sAnew) (defScope sAnew) .none kV_anw dc_anw pm_anw an_anw cd_anw ct_anw), sl_anw⟩)
    (canw : PySem.W.codeIn K cd_anw "_law_anew" = true)
    (kanw : PySem.W.keepIn K (.ref f_anw) = true)
    (ahom : PySem.W.nsIn K mainGlobals "_law_home" = some (some (.ref f_hom)))
    (lhom : K.lookup f_hom = some ⟨oc_hom, od_hom, .func (PySem.W.fnOf "_law_home" "_law_home" (defArgs sHome) (defBody sHome) (defScope sHome) .none kV_hom dc_hom pm_hom an_hom cd_hom ct_hom), sl_hom⟩)
    (chom : PySem.W.codeIn K cd_hom "_law_home" = true)
    (khom : PySem.W.keepIn K (.ref f_hom) = true)
    (alaw : PySem.W.nsIn K mainGlobals "law" = some (some (.ref f_law)))
    (llaw : K.lookup f_law = some ⟨oc_law, od_law, .func (PySem.W.fnOf "law" "law" (defArgs sLaw) (defBody sLaw) (defScope sLaw) .none kV_law dc_law pm_law an_law cd_law ct_law), sl_law⟩)
    (claw : PySem.W.codeIn K cd_law "law" = true)
    (klaw : PySem.W.keepIn K (.ref f_law) = true)
    (ari : PySem.W.findIn K (.ref CR) "__init__" = some (some (.ref f_ri)))
    (iri : PySem.W.isFn K (.ref f_ri) = true)
    (lri : K.lookup f_ri = some ⟨oc_ri, od_ri, .func (PySem.W.fnOf "__init__" "Registration.__init__" (defArgs sRegInit) (defBody sRegInit) (defScope sRegInit) .none kV_ri dc_ri pm_ri an_ri cd_ri ct_ri), sl_ri⟩)
    (cri : PySem.W.codeIn K cd_ri "Registration.__init__" = true)
    (kri : PySem.W.keepIn K (.ref f_ri) = true)
    (awi : PySem.W.findIn K (.ref CW) "__init__" = some (some (.ref f_wi)))
    (iwi : PySem.W.isFn K (.ref f_wi) = true)
    (lwi : K.lookup f_wi = some ⟨oc_wi, od_wi, .func (PySem.W.fnOf "__init__" "WaitingSet.__init__" (defArgs sWsInit) (defBody sWsInit) (defScope sWsInit) .none kV_wi dc_wi pm_wi an_wi cd_wi ct_wi), sl_wi⟩)
    (cwi : PySem.W.codeIn K cd_wi "WaitingSet.__init__" = true)
    (kwi : PySem.W.keepIn K (.ref f_wi) = true)
    (aapp : PySem.W.findIn K (.ref CW) "append_pending" = some (some (.ref f_app)))
    (iapp : PySem.W.isFn K (.ref f_app) = true)
    (lapp : K.lookup f_app = some ⟨oc_app, od_app, .func (PySem.W.fnOf "append_pending" "WaitingSet.append_pending" (defArgs sAppend) (defBody sAppend) (defScope sAppend) .none kV_app dc_app pm_app an_app cd_app ct_app), sl_app⟩)
    (capp : PySem.W.codeIn K cd_app "WaitingSet.append_pending" = true)
    (kapp : PySem.W.keepIn K (.ref f_app) = true)
    (aput : PySem.W.findIn K (.ref CW) "put" = some (some (.ref f_put)))
    (iput : PySem.W.isFn K (.ref f_put) = true)
    (lput : K.lookup f_put = some ⟨oc_put, od_put, .func (PySem.W.fnOf "put" "WaitingSet.put" (defArgs sPut) (defBody sPut) (defScope sPut) .none kV_put dc_put pm_put an_put cd_put ct_put), sl_put⟩)
    (cput : PySem.W.codeIn K cd_put "WaitingSet.put" = true)
    (kput : PySem.W.keepIn K (.ref f_put) = true)
    (astl : PySem.W.findIn K (.ref CW) "settle" = some (some (.ref f_stl)))
    (istl : PySem.W.isFn K (.ref f_stl) = true)
    (lstl : K.lookup f_stl = some ⟨oc_stl, od_stl, .func (PySem.W.fnOf "settle" "WaitingSet.settle" (defArgs sSettle) (defBody sSettle) (defScope sSettle) .none kV_stl dc_stl pm_stl an_stl cd_stl ct_stl), sl_stl⟩)
    (cstl : PySem.W.codeIn K cd_stl "WaitingSet.settle" = true)
    (kstl : PySem.W.keepIn K (.ref f_stl) = true)
    (alof : PySem.W.findIn K (.ref CW) "label_of" = some (some (.ref f_lof)))
    (ilof : PySem.W.isFn K (.ref f_lof) = true)
    (llof : K.lookup f_lof = some ⟨oc_lof, od_lof, .func (PySem.W.fnOf "label_of" "WaitingSet.label_of" (defArgs sLabelOf) (defBody sLabelOf) (defScope sLabelOf) .none kV_lof dc_lof pm_lof an_lof cd_lof ct_lof), sl_lof⟩)
    (clof : PySem.W.codeIn K cd_lof "WaitingSet.label_of" = true)
    (klof : PySem.W.keepIn K (.ref f_lof) = true)
    (adrp : PySem.W.findIn K (.ref CW) "drop" = some (some (.ref f_drp)))
    (idrp : PySem.W.isFn K (.ref f_drp) = true)
    (ldrp : K.lookup f_drp = some ⟨oc_drp, od_drp, .func (PySem.W.fnOf "drop" "WaitingSet.drop" (defArgs sDrop) (defBody sDrop) (defScope sDrop) .none kV_drp dc_drp pm_drp an_drp cd_drp ct_drp), sl_drp⟩)
    (cdrp : PySem.W.codeIn K cd_drp "WaitingSet.drop" = true)
    (kdrp : PySem.W.keepIn K (.ref f_drp) = true)
    (achg : PySem.W.findIn K (.ref CS) "change" = some (some (.ref f_chg)))
    (ichg : PySem.W.isFn K (.ref f_chg) = true)
    (lchg : K.lookup f_chg = some ⟨oc_chg, od_chg, .func (PySem.W.fnOf "change" "System.change" (defArgs sChange) (defBody sChange) (defScope sChange) .none kV_chg dc_chg pm_chg an_chg cd_chg ct_chg), sl_chg⟩)
    (cchg : PySem.W.codeIn K cd_chg "System.change" = true)
    (kchg : PySem.W.keepIn K (.ref f_chg) = true)
    (acpy : PySem.W.findIn K (.ref CS) "copy" = some (some (.ref f_cpy)))
    (icpy : PySem.W.isFn K (.ref f_cpy) = true)
    (lcpy : K.lookup f_cpy = some ⟨oc_cpy, od_cpy, .func (PySem.W.fnOf "copy" "System.copy" (defArgs sCopy) (defBody sCopy) (defScope sCopy) (.ref T_cpy) kV_cpy dc_cpy pm_cpy an_cpy cd_cpy ct_cpy), sl_cpy⟩)
    (ccpy : PySem.W.codeIn K cd_cpy "System.copy" = true)
    (kcpy : PySem.W.keepIn K (.ref f_cpy) = true)
    (Lcpy : K.lookup T_cpy = some ⟨.type "tuple", dd_cpy, .seq #[.none] nd_cpy, sd_cpy⟩)
    (arem : PySem.W.findIn K (.ref CS) "remove" = some (some (.ref f_rem)))
    (irem : PySem.W.isFn K (.ref f_rem) = true)
    (lrem : K.lookup f_rem = some ⟨oc_rem, od_rem, .func (PySem.W.fnOf "remove" "System.remove" (defArgs sRemove) (defBody sRemove) (defScope sRemove) .none kV_rem dc_rem pm_rem an_rem cd_rem ct_rem), sl_rem⟩)
    (crem : PySem.W.codeIn K cd_rem "System.remove" = true)
    (krem : PySem.W.keepIn K (.ref f_rem) = true)
    (antc : PySem.W.findIn K (.ref CW) "notice" = some (some (.ref f_ntc)))
    (intc : PySem.W.isFn K (.ref f_ntc) = true)
    (lntc : K.lookup f_ntc = some ⟨oc_ntc, od_ntc, .func (PySem.W.fnOf "notice" "WaitingSet.notice" (defArgs sNotice) (defBody sNotice) (defScope sNotice) .none kV_ntc dc_ntc pm_ntc an_ntc cd_ntc ct_ntc), sl_ntc⟩)
    (cntc : PySem.W.codeIn K cd_ntc "WaitingSet.notice" = true)
    (kntc : PySem.W.keepIn K (.ref f_ntc) = true)
    (arep : PySem.W.findIn K (.ref CW) "take_reports" = some (some (.ref f_rep)))
    (irep : PySem.W.isFn K (.ref f_rep) = true)
    (lrep : K.lookup f_rep = some ⟨oc_rep, od_rep, .func (PySem.W.fnOf "take_reports" "WaitingSet.take_reports" (defArgs sReports) (defBody sReports) (defScope sReports) .none kV_rep dc_rep pm_rep an_rep cd_rep ct_rep), sl_rep⟩)
    (crep : PySem.W.codeIn K cd_rep "WaitingSet.take_reports" = true)
    (krep : PySem.W.keepIn K (.ref f_rep) = true)
    (asi : PySem.W.findIn K (.ref CS) "__init__" = some (some (.ref f_si)))
    (isi : PySem.W.isFn K (.ref f_si) = true)
    (lsi : K.lookup f_si = some ⟨oc_si, od_si, .func (PySem.W.fnOf "__init__" "System.__init__" (defArgs sSysInit) (defBody sSysInit) (defScope sSysInit) .none (.ref D_si) dc_si pm_si an_si cd_si ct_si), sl_si⟩)
    (csi : PySem.W.codeIn K cd_si "System.__init__" = true)
    (ksi : PySem.W.keepIn K (.ref f_si) = true)
    (wsi0 : PySem.W.nsIn K D_si "processes" = some (some (.int 4 tw_si0)))
    (wsi1 : PySem.W.nsIn K D_si "numbers" = some (some (.int 8 tw_si1)))
    (acon : PySem.W.findIn K (.ref CS) "__contains__" = some (some (.ref f_con)))
    (icon : PySem.W.isFn K (.ref f_con) = true)
    (lcon : K.lookup f_con = some ⟨oc_con, od_con, .func (PySem.W.fnOf "__contains__" "System.__contains__" (defArgs sContains) (defBody sContains) (defScope sContains) .none kV_con dc_con pm_con an_con cd_con ct_con), sl_con⟩)
    (ccon : PySem.W.codeIn K cd_con "System.__contains__" = true)
    (kcon : PySem.W.keepIn K (.ref f_con) = true)
    (atof : PySem.W.findIn K (.ref CS) "table_of" = some (some (.ref f_tof)))
    (itof : PySem.W.isFn K (.ref f_tof) = true)
    (ltof : K.lookup f_tof = some ⟨oc_tof, od_tof, .func (PySem.W.fnOf "table_of" "System.table_of" (defArgs sTableOf) (defBody sTableOf) (defScope sTableOf) .none kV_tof dc_tof pm_tof an_tof cd_tof ct_tof), sl_tof⟩)
    (ctof : PySem.W.codeIn K cd_tof "System.table_of" = true)
    (ktof : PySem.W.keepIn K (.ref f_tof) = true)
    (aitn : PySem.W.findIn K (.ref CS) "is_table_number" = some (some (.ref f_itn)))
    (iitn : PySem.W.isFn K (.ref f_itn) = true)
    (litn : K.lookup f_itn = some ⟨oc_itn, od_itn, .func (PySem.W.fnOf "is_table_number" "System.is_table_number" (defArgs sIsTabNum) (defBody sIsTabNum) (defScope sIsTabNum) .none kV_itn dc_itn pm_itn an_itn cd_itn ct_itn), sl_itn⟩)
    (citn : PySem.W.codeIn K cd_itn "System.is_table_number" = true)
    (kitn : PySem.W.keepIn K (.ref f_itn) = true)
    (atha : PySem.W.findIn K (.ref CS) "thing_at" = some (some (.ref f_tha)))
    (itha : PySem.W.isFn K (.ref f_tha) = true)
    (ltha : K.lookup f_tha = some ⟨oc_tha, od_tha, .func (PySem.W.fnOf "thing_at" "System.thing_at" (defArgs sThingAt) (defBody sThingAt) (defScope sThingAt) .none kV_tha dc_tha pm_tha an_tha cd_tha ct_tha), sl_tha⟩)
    (ctha : PySem.W.codeIn K cd_tha "System.thing_at" = true)
    (ktha : PySem.W.keepIn K (.ref f_tha) = true)
    (asra : PySem.W.findIn K (.ref CS) "source_at" = some (some (.ref f_sra)))
    (isra : PySem.W.isFn K (.ref f_sra) = true)
    (lsra : K.lookup f_sra = some ⟨oc_sra, od_sra, .func (PySem.W.fnOf "source_at" "System.source_at" (defArgs sSourceAt) (defBody sSourceAt) (defScope sSourceAt) .none kV_sra dc_sra pm_sra an_sra cd_sra ct_sra), sl_sra⟩)
    (csra : PySem.W.codeIn K cd_sra "System.source_at" = true)
    (ksra : PySem.W.keepIn K (.ref f_sra) = true)
    (asta : PySem.W.findIn K (.ref CS) "set_at" = some (some (.ref f_sta)))
    (ista : PySem.W.isFn K (.ref f_sta) = true)
    (lsta : K.lookup f_sta = some ⟨oc_sta, od_sta, .func (PySem.W.fnOf "set_at" "System.set_at" (defArgs sSetAt) (defBody sSetAt) (defScope sSetAt) .none kV_sta dc_sta pm_sta an_sta cd_sta ct_sta), sl_sta⟩)
    (csta : PySem.W.codeIn K cd_sta "System.set_at" = true)
    (ksta : PySem.W.keepIn K (.ref f_sta) = true)
    (afrn : PySem.W.findIn K (.ref CS) "free_number" = some (some (.ref f_frn)))
    (ifrn : PySem.W.isFn K (.ref f_frn) = true)
    (lfrn : K.lookup f_frn = some ⟨oc_frn, od_frn, .func (PySem.W.fnOf "free_number" "System.free_number" (defArgs sFreeNum) (defBody sFreeNum) (defScope sFreeNum) .none kV_frn dc_frn pm_frn an_frn cd_frn ct_frn), sl_frn⟩)
    (cfrn : PySem.W.codeIn K cd_frn "System.free_number" = true)
    (kfrn : PySem.W.keepIn K (.ref f_frn) = true)
    (anth : PySem.W.findIn K (.ref CS) "new_thing" = some (some (.ref f_nth)))
    (inth : PySem.W.isFn K (.ref f_nth) = true)
    (lnth : K.lookup f_nth = some ⟨oc_nth, od_nth, .func (PySem.W.fnOf "new_thing" "System.new_thing" (defArgs sNewThing) (defBody sNewThing) (defScope sNewThing) .none kV_nth dc_nth pm_nth an_nth cd_nth ct_nth), sl_nth⟩)
    (cnth : PySem.W.codeIn K cd_nth "System.new_thing" = true)
    (knth : PySem.W.keepIn K (.ref f_nth) = true)
    (aunf : PySem.W.findIn K (.ref CS) "unread_of_unfinished" = some (some (.ref f_unf)))
    (iunf : PySem.W.isFn K (.ref f_unf) = true)
    (lunf : K.lookup f_unf = some ⟨oc_unf, od_unf, .func (PySem.W.fnOf "unread_of_unfinished" "System.unread_of_unfinished" (defArgs sUnfinished) (defBody sUnfinished) (defScope sUnfinished) .none kV_unf dc_unf pm_unf an_unf cd_unf ct_unf), sl_unf⟩)
    (cunf : PySem.W.codeIn K cd_unf "System.unread_of_unfinished" = true)
    (kunf : PySem.W.keepIn K (.ref f_unf) = true)
    (ardy : PySem.W.findIn K (.ref CS) "is_ready" = some (some (.ref f_rdy)))
    (irdy : PySem.W.isFn K (.ref f_rdy) = true)
    (lrdy : K.lookup f_rdy = some ⟨oc_rdy, od_rdy, .func (PySem.W.fnOf "is_ready" "System.is_ready" (defArgs sIsReady) (defBody sIsReady) (defScope sIsReady) .none kV_rdy dc_rdy pm_rdy an_rdy cd_rdy ct_rdy), sl_rdy⟩)
    (crdy : PySem.W.codeIn K cd_rdy "System.is_ready" = true)
    (krdy : PySem.W.keepIn K (.ref f_rdy) = true)
    (anfy : PySem.W.findIn K (.ref CS) "notify" = some (some (.ref f_nfy)))
    (infy : PySem.W.isFn K (.ref f_nfy) = true)
    (lnfy : K.lookup f_nfy = some ⟨oc_nfy, od_nfy, .func (PySem.W.fnOf "notify" "System.notify" (defArgs sNotify) (defBody sNotify) (defScope sNotify) .none kV_nfy dc_nfy pm_nfy an_nfy cd_nfy ct_nfy), sl_nfy⟩)
    (cnfy : PySem.W.codeIn K cd_nfy "System.notify" = true)
    (knfy : PySem.W.keepIn K (.ref f_nfy) = true)
    (anso : PySem.W.findIn K (.ref CS) "new_source" = some (some (.ref f_nso)))
    (inso : PySem.W.isFn K (.ref f_nso) = true)
    (lnso : K.lookup f_nso = some ⟨oc_nso, od_nso, .func (PySem.W.fnOf "new_source" "System.new_source" (defArgs sNewSource) (defBody sNewSource) (defScope sNewSource) .none kV_nso dc_nso pm_nso an_nso cd_nso ct_nso), sl_nso⟩)
    (cnso : PySem.W.codeIn K cd_nso "System.new_source" = true)
    (knso : PySem.W.keepIn K (.ref f_nso) = true)
    (anse : PySem.W.findIn K (.ref CS) "new_set" = some (some (.ref f_nse)))
    (inse : PySem.W.isFn K (.ref f_nse) = true)
    (lnse : K.lookup f_nse = some ⟨oc_nse, od_nse, .func (PySem.W.fnOf "new_set" "System.new_set" (defArgs sNewSet) (defBody sNewSet) (defScope sNewSet) .none kV_nse dc_nse pm_nse an_nse cd_nse ct_nse), sl_nse⟩)
    (cnse : PySem.W.codeIn K cd_nse "System.new_set" = true)
    (knse : PySem.W.keepIn K (.ref f_nse) = true)
    (aarr : PySem.W.findIn K (.ref CS) "arrive" = some (some (.ref f_arr)))
    (iarr : PySem.W.isFn K (.ref f_arr) = true)
    (larr : K.lookup f_arr = some ⟨oc_arr, od_arr, .func (PySem.W.fnOf "arrive" "System.arrive" (defArgs sArrive) (defBody sArrive) (defScope sArrive) (.ref T_arr) kV_arr dc_arr pm_arr an_arr cd_arr ct_arr), sl_arr⟩)
    (carr : PySem.W.codeIn K cd_arr "System.arrive" = true)
    (karr : PySem.W.keepIn K (.ref f_arr) = true)
    (Larr : K.lookup T_arr = some ⟨.type "tuple", dd_arr, .seq #[.int 1 tv_arr0] nd_arr, sd_arr⟩)
    (arow : PySem.W.findIn K (.ref CS) "row_of" = some (some (.ref f_row)))
    (irow : PySem.W.isFn K (.ref f_row) = true)
    (lrow : K.lookup f_row = some ⟨oc_row, od_row, .func (PySem.W.fnOf "row_of" "System.row_of" (defArgs sRowOf) (defBody sRowOf) (defScope sRowOf) .none kV_row dc_row pm_row an_row cd_row ct_row), sl_row⟩)
    (crow : PySem.W.codeIn K cd_row "System.row_of" = true)
    (krow : PySem.W.keepIn K (.ref f_row) = true)
    (aadd : PySem.W.findIn K (.ref CS) "add" = some (some (.ref f_add)))
    (iadd : PySem.W.isFn K (.ref f_add) = true)
    (ladd : K.lookup f_add = some ⟨oc_add, od_add, .func (PySem.W.fnOf "add" "System.add" (defArgs sAdd) (defBody sAdd) (defScope sAdd) .none (.ref D_add) dc_add pm_add an_add cd_add ct_add), sl_add⟩)
    (cadd : PySem.W.codeIn K cd_add "System.add" = true)
    (kadd : PySem.W.keepIn K (.ref f_add) = true)
    (wadd0 : PySem.W.nsIn K D_add "word" = some (some (.str "level" tw_add0)))
    (awai : PySem.W.findIn K (.ref CS) "wait" = some (some (.ref f_wai)))
    (iwai : PySem.W.isFn K (.ref f_wai) = true)
    (lwai : K.lookup f_wai = some ⟨oc_wai, od_wai, .func (PySem.W.fnOf "wait" "System.wait" (defArgs sWait) (defBody sWait) (defScope sWait) (.ref T_wai) kV_wai dc_wai pm_wai an_wai cd_wai ct_wai), sl_wai⟩)
    (cwai : PySem.W.codeIn K cd_wai "System.wait" = true)
    (kwai : PySem.W.keepIn K (.ref f_wai) = true)
    (Lwai : K.lookup T_wai = some ⟨.type "tuple", dd_wai, .seq #[.int 1 tv_wai0] nd_wai, sd_wai⟩)
    (z_len : PySem.W.nsIn K mainGlobals "len" = some none)
    (z_enumerate : PySem.W.nsIn K mainGlobals "enumerate" = some none)
    (z_int : PySem.W.nsIn K mainGlobals "int" = some none)
    (z_abs : PySem.W.nsIn K mainGlobals "abs" = some none)
    (z_isinstance : PySem.W.nsIn K mainGlobals "isinstance" = some none)
    (z_bool : PySem.W.nsIn K mainGlobals "bool" = some none)
    (z_list : PySem.W.nsIn K mainGlobals "list" = some none)
    (z_min : PySem.W.nsIn K mainGlobals "min" = some none)
    (z_max : PySem.W.nsIn K mainGlobals "max" = some none)
    (z_range : PySem.W.nsIn K mainGlobals "range" = some none)
    (z_sorted : PySem.W.nsIn K mainGlobals "sorted" = some none)
    (z_dict : PySem.W.nsIn K mainGlobals "dict" = some none)
    (wA : PySem.W.nsIn K mainGlobals "WORDS" = some (some (.ref wW)))
    (LW : K.lookup wW = some ⟨.type "tuple", dW, .seq #[.str "level" tW0, .str "edge" tW1, .str "once" tW2] nW, sW⟩)
    (gMC : PySem.W.nsIn K mainGlobals "MOST_COUNT" = some (some (.int 1000000 tMC)))
    (gML : PySem.W.nsIn K mainGlobals "MOST_LABEL" = some (some (.int 999999 tML)))
    (gLP : PySem.W.nsIn K mainGlobals "LEAST_PROCESSES" = some (some (.int 2 tLP)))
    (gLN : PySem.W.nsIn K mainGlobals "LEAST_NUMBERS" = some (some (.int 3 tLN)))
    (gMP : PySem.W.findIn K (.ref CS) "MOST_PROCESSES" = some (some (.int 6 tMP)))
    (gMN : PySem.W.findIn K (.ref CS) "MOST_NUMBERS" = some (some (.int 8 tMN)))
    (sMP : PySem.W.specialIn K (.int 6 tMP) "__get__" = some none)
    (sMN : PySem.W.specialIn K (.int 8 tMN) "__get__" = some none) :
    ∃ fd : FuncData, (∀ (s : Shared) (u : Value), BindsTo s fd ⟨[u], []⟩ [("_law_script", u)]) ∧ ∀ base : Heap, K.In base → base.Ns mainGlobals mg → FnOk P w K mg base CX0 8 fa fd ["_law_script"] (spLaw K) := by
  have e := hfa.symm.trans (PySem.W.mg_of X G alaw)
  cases e
  have Fint := fun_mk (st := sIsInteger) lint cint kint
  have bint := Fint.binds (ps := ["x"]) fun _ _ _ _ _ _ us hl => by
    obtain ⟨_, rfl⟩ := Ln1 hl
    rfl
  have mint := PySem.W.mg_of X G aint
  have Fbet := fun_mk (st := sIsBetween) lbet cbet kbet
  have bbet := Fbet.binds (ps := ["x", "least", "most"]) fun _ _ _ _ _ _ us hl => by
    obtain ⟨_, _, _, rfl⟩ := Ln3 hl
    rfl
  have mbet := PySem.W.mg_of X G abet
  have Fcnt := fun_mk (st := sIsCount) lcnt ccnt kcnt
  have bcnt := Fcnt.binds (ps := ["x"]) fun _ _ _ _ _ _ us hl => by
    obtain ⟨_, rfl⟩ := Ln1 hl
    rfl
  have mcnt := PySem.W.mg_of X G acnt
  have Flab := fun_mk (st := sIsLabel) llab clab klab
  have blab := Flab.binds (ps := ["x"]) fun _ _ _ _ _ _ us hl => by
    obtain ⟨_, rfl⟩ := Ln1 hl
    rfl
  have mlab := PySem.W.mg_of X G alab
  have Fwrd := fun_mk (st := sIsWord) lwrd cwrd kwrd
  have bwrd := Fwrd.binds (ps := ["x"]) fun _ _ _ _ _ _ us hl => by
    obtain ⟨_, rfl⟩ := Ln1 hl
    rfl
  have mwrd := PySem.W.mg_of X G awrd
  have Fbag := fun_mk (st := sBag) lbag cbag kbag
  have bbag := Fbag.binds (ps := ["_law_script", "_law_at"]) fun _ _ _ _ _ _ us hl => by
    obtain ⟨_, _, rfl⟩ := Ln2 hl
    rfl
  have mbag := PySem.W.mg_of X G abag
  have Ftake := fun_mk (st := sTake) ltake ctake ktake
  have btake := Ftake.binds (ps := ["_law_bag_here", "_law_many"]) fun _ _ _ _ _ _ us hl => by
    obtain ⟨_, _, rfl⟩ := Ln2 hl
    rfl
  have mtake := PySem.W.mg_of X G atake
  have Fof := fun_mk (st := sOf) lof cof kof
  have bof := Fof.binds (ps := ["_law_bag_here", "_law_some"]) fun _ _ _ _ _ _ us hl => by
    obtain ⟨_, _, rfl⟩ := Ln2 hl
    rfl
  have mof := PySem.W.mg_of X G aof
  have Favd := fun_mk (st := sArrived) lavd cavd kavd
  have bavd := Favd.binds (ps := ["_law_regs", "_law_source", "_law_rows"]) fun _ _ _ _ _ _ us hl => by
    obtain ⟨_, _, _, rfl⟩ := Ln3 hl
    rfl
  have mavd := PySem.W.mg_of X G aavd
  have Fwtd := fun_mk (st := sWaited) lwtd cwtd kwtd
  have bwtd := Fwtd.binds (ps := ["_law_regs", "_law_rows", "_law_side"]) fun _ _ _ _ _ _ us hl => by
    obtain ⟨_, _, _, rfl⟩ := Ln3 hl
    rfl
  have mwtd := PySem.W.mg_of X G awtd
  have Fanw := fun_mk (st := sAnew) lanw canw kanw
  have banw := Fanw.binds (ps := ["_law_bag_here", "_law_box", "_law_regs", "_law_rows", "_law_side"]) fun _ _ _ _ _ _ us hl => by
    obtain ⟨_, _, _, _, _, rfl⟩ := Ln5 hl
    rfl
  have manw := PySem.W.mg_of X G aanw
  have Fhom := fun_mk (st := sHome) lhom chom khom
  have bhom := Fhom.binds (ps := ["_law_bag_here", "_law_many"]) fun _ _ _ _ _ _ us hl => by
    obtain ⟨_, _, rfl⟩ := Ln2 hl
    rfl
  have mhom := PySem.W.mg_of X G ahom
  have Flaw := fun_mk (st := sLaw) llaw claw klaw
  have blaw := Flaw.binds (ps := ["_law_script"]) fun _ _ _ _ _ _ us hl => by
    obtain ⟨_, rfl⟩ := Ln1 hl
    rfl
  have mlaw := PySem.W.mg_of X G alaw
  have Fri := fun_mk (st := sRegInit) lri cri kri
  have bri := Fri.binds (ps := ["self", "number", "source", "word", "armed"]) fun _ _ _ _ _ _ us hl => by
    obtain ⟨_, _, _, _, _, rfl⟩ := Ln5 hl
    rfl
  have Fwi := fun_mk (st := sWsInit) lwi cwi kwi
  have bwi := Fwi.binds (ps := ["self"]) fun _ _ _ _ _ _ us hl => by
    obtain ⟨_, rfl⟩ := Ln1 hl
    rfl
  have Fapp := fun_mk (st := sAppend) lapp capp kapp
  have bapp := Fapp.binds (ps := ["self", "label"]) fun _ _ _ _ _ _ us hl => by
    obtain ⟨_, _, rfl⟩ := Ln2 hl
    rfl
  have Fput := fun_mk (st := sPut) lput cput kput
  have bput := Fput.binds (ps := ["self", "label", "kept", "ready"]) fun _ _ _ _ _ _ us hl => by
    obtain ⟨_, _, _, _, rfl⟩ := Ln4 hl
    rfl
  have Fstl := fun_mk (st := sSettle) lstl cstl kstl
  have bstl := Fstl.binds (ps := ["self", "label"]) fun _ _ _ _ _ _ us hl => by
    obtain ⟨_, _, rfl⟩ := Ln2 hl
    rfl
  have Flof := fun_mk (st := sLabelOf) llof clof klof
  have blof := Flof.binds (ps := ["self", "number", "source"]) fun _ _ _ _ _ _ us hl => by
    obtain ⟨_, _, _, rfl⟩ := Ln3 hl
    rfl
  have Fdrp := fun_mk (st := sDrop) ldrp cdrp kdrp
  have bdrp := Fdrp.binds (ps := ["self", "label"]) fun _ _ _ _ _ _ us hl => by
    obtain ⟨_, _, rfl⟩ := Ln2 hl
    rfl
  have Fchg := fun_mk (st := sChange) lchg cchg kchg
  have bwchg : KBn K (PySem.W.fnOf "change" "System.change" (defArgs sChange) (defBody sChange) (defScope sChange) .none kV_chg dc_chg pm_chg an_chg cd_chg ct_chg) ["self", "process", "set_number", "number", "word"] 4 ["word"] (fun us ws => us ++ ws) (fun vs zs => vs ++ zs) := ⟨fun s us ws _ hu hw => by
    obtain ⟨_, _, _, _, rfl⟩ := Ln4 hu
    obtain ⟨_, rfl⟩ := Ln1 hw
    exact .of_eq rfl, fun a b => a.append b⟩
  have Fcpy : FunD K "copy" "System.copy" (defArgs sCopy) (defBody sCopy) (defScope sCopy) ([V.non] : List V) ([] : List (Str × V)) f_cpy (PySem.W.fnOf "copy" "System.copy" (defArgs sCopy) (defBody sCopy) (defScope sCopy) (.ref T_cpy) kV_cpy dc_cpy pm_cpy an_cpy cd_cpy ct_cpy) := ⟨⟨_, _, (.ref T_cpy), kV_cpy, _, _, _, _, _, _, rfl, lcpy, ccpy, .inr ⟨(by intro z; cases z), T_cpy, _, [.none], nd_cpy, rfl, Lcpy, rfl, (.cons rfl .nil)⟩, .inl rfl⟩, kcpy⟩
  obtain ⟨dscpy, vcpy, bcpy⟩ := Fcpy.binds1 (ps := ["self", "process", "number", "to"]) 3 0 (by intro z; cases z) rfl fun _ _ _ _ _ _ _ us its hu hi => by
    obtain ⟨_, _, _, rfl⟩ := Ln3 hu
    obtain ⟨_, rfl⟩ := Ln1 hi
    exact ⟨_, rfl, rfl⟩
  have Bcpy : Binds K (PySem.W.fnOf "copy" "System.copy" (defArgs sCopy) (defBody sCopy) (defScope sCopy) (.ref T_cpy) kV_cpy dc_cpy pm_cpy an_cpy cd_cpy ct_cpy) (["self", "process", "number", "to"] : List Str) [] := by
    obtain ⟨ds, v, b⟩ := Fcpy.binds1 (ps := ["self", "process", "number", "to"]) 4 1 (by intro z; cases z) rfl fun _ _ _ _ _ _ _ us its hu hi => by
      obtain ⟨_, _, _, _, rfl⟩ := Ln4 hu
      obtain ⟨_, rfl⟩ := Ln1 hi
      exact ⟨_, rfl, rfl⟩
    cases v
    exact b
  have Frem := fun_mk (st := sRemove) lrem crem krem
  have brem := Frem.binds (ps := ["self", "process", "set_number", "number"]) fun _ _ _ _ _ _ us hl => by
    obtain ⟨_, _, _, _, rfl⟩ := Ln4 hl
    rfl
  have Fntc := fun_mk (st := sNotice) lntc cntc kntc
  have bntc := Fntc.binds (ps := ["self", "source"]) fun _ _ _ _ _ _ us hl => by
    obtain ⟨_, _, rfl⟩ := Ln2 hl
    rfl
  have Frep := fun_mk (st := sReports) lrep crep krep
  have brep := Frep.binds (ps := ["self", "most", "sources"]) fun _ _ _ _ _ _ us hl => by
    obtain ⟨_, _, _, rfl⟩ := Ln3 hl
    rfl
  have Fsi : FunD K "__init__" "System.__init__" (defArgs sSysInit) (defBody sSysInit) (defScope sSysInit) ([] : List V) ([("processes", V.int 4), ("numbers", V.int 8)] : List (Str × V)) f_si (PySem.W.fnOf "__init__" "System.__init__" (defArgs sSysInit) (defBody sSysInit) (defScope sSysInit) .none (.ref D_si) dc_si pm_si an_si cd_si ct_si) := ⟨⟨_, _, .none, (.ref D_si), _, _, _, _, _, _, rfl, lsi, csi, .inl ⟨rfl, rfl⟩, .inr ⟨D_si, rfl, fun q hq => by
    simp only [List.mem_cons, List.not_mem_nil, or_false] at hq
    rcases hq with rfl | rfl
    · exact ⟨_, wsi0, _, rfl⟩
    · exact ⟨_, wsi1, _, rfl⟩⟩⟩, ksi⟩
  obtain ⟨mvsi, bsi⟩ := Fsi.kbinds0 (ps := ["self", "processes", "numbers"]) 1 ["numbers"] [("processes", V.int 4)] (fun us mv ws => us ++ mv ++ ws) (by intro z; cases z) (fun q hq => by rw [List.mem_singleton.mp hq]; exact List.mem_cons_self) (fun a b c => (a.append b).append c) fun _ _ _ _ _ _ us mv ws hu hm hw => by
    obtain ⟨_, rfl⟩ := Ln1 hu
    obtain ⟨_, rfl⟩ := Ln1 hm
    obtain ⟨_, rfl⟩ := Ln1 hw
    exact ⟨_, _, _, _, _, _, rfl, rfl, rfl⟩
  have Fcon := fun_mk (st := sContains) lcon ccon kcon
  have bcon := Fcon.binds (ps := ["self", "x"]) fun _ _ _ _ _ _ us hl => by
    obtain ⟨_, _, rfl⟩ := Ln2 hl
    rfl
  have Ftof := fun_mk (st := sTableOf) ltof ctof ktof
  have btof := Ftof.binds (ps := ["self", "process"]) fun _ _ _ _ _ _ us hl => by
    obtain ⟨_, _, rfl⟩ := Ln2 hl
    rfl
  have Fitn := fun_mk (st := sIsTabNum) litn citn kitn
  have bitn := Fitn.binds (ps := ["self", "number"]) fun _ _ _ _ _ _ us hl => by
    obtain ⟨_, _, rfl⟩ := Ln2 hl
    rfl
  have Ftha := fun_mk (st := sThingAt) ltha ctha ktha
  have btha := Ftha.binds (ps := ["self", "process", "number"]) fun _ _ _ _ _ _ us hl => by
    obtain ⟨_, _, _, rfl⟩ := Ln3 hl
    rfl
  have Fsra := fun_mk (st := sSourceAt) lsra csra ksra
  have bsra := Fsra.binds (ps := ["self", "process", "number"]) fun _ _ _ _ _ _ us hl => by
    obtain ⟨_, _, _, rfl⟩ := Ln3 hl
    rfl
  have Fsta := fun_mk (st := sSetAt) lsta csta ksta
  have bsta := Fsta.binds (ps := ["self", "process", "set_number"]) fun _ _ _ _ _ _ us hl => by
    obtain ⟨_, _, _, rfl⟩ := Ln3 hl
    rfl
  have Ffrn := fun_mk (st := sFreeNum) lfrn cfrn kfrn
  have bfrn := Ffrn.binds (ps := ["self", "process"]) fun _ _ _ _ _ _ us hl => by
    obtain ⟨_, _, rfl⟩ := Ln2 hl
    rfl
  have Fnth := fun_mk (st := sNewThing) lnth cnth knth
  have bnth := Fnth.binds (ps := ["self", "process"]) fun _ _ _ _ _ _ us hl => by
    obtain ⟨_, _, rfl⟩ := Ln2 hl
    rfl
  have Funf := fun_mk (st := sUnfinished) lunf cunf kunf
  have bunf := Funf.binds (ps := ["self", "source", "number"]) fun _ _ _ _ _ _ us hl => by
    obtain ⟨_, _, _, rfl⟩ := Ln3 hl
    rfl
  have Frdy := fun_mk (st := sIsReady) lrdy crdy krdy
  have brdy := Frdy.binds (ps := ["self", "source"]) fun _ _ _ _ _ _ us hl => by
    obtain ⟨_, _, rfl⟩ := Ln2 hl
    rfl
  have Fnfy := fun_mk (st := sNotify) lnfy cnfy knfy
  have bnfy := Fnfy.binds (ps := ["self", "source"]) fun _ _ _ _ _ _ us hl => by
    obtain ⟨_, _, rfl⟩ := Ln2 hl
    rfl
  have Fnso := fun_mk (st := sNewSource) lnso cnso knso
  have bnso := Fnso.binds (ps := ["self", "process"]) fun _ _ _ _ _ _ us hl => by
    obtain ⟨_, _, rfl⟩ := Ln2 hl
    rfl
  have Fnse := fun_mk (st := sNewSet) lnse cnse knse
  have bnse := Fnse.binds (ps := ["self", "process"]) fun _ _ _ _ _ _ us hl => by
    obtain ⟨_, _, rfl⟩ := Ln2 hl
    rfl
  have Farr : FunD K "arrive" "System.arrive" (defArgs sArrive) (defBody sArrive) (defScope sArrive) ([V.int 1] : List V) ([] : List (Str × V)) f_arr (PySem.W.fnOf "arrive" "System.arrive" (defArgs sArrive) (defBody sArrive) (defScope sArrive) (.ref T_arr) kV_arr dc_arr pm_arr an_arr cd_arr ct_arr) := ⟨⟨_, _, (.ref T_arr), kV_arr, _, _, _, _, _, _, rfl, larr, carr, .inr ⟨(by intro z; cases z), T_arr, _, [.int 1 tv_arr0], nd_arr, rfl, Larr, rfl, (.cons ⟨_, rfl⟩ .nil)⟩, .inl rfl⟩, karr⟩
  obtain ⟨dsarr, varr, barr⟩ := Farr.binds1 (ps := ["self", "process", "number", "many"]) 3 0 (by intro z; cases z) rfl fun _ _ _ _ _ _ _ us its hu hi => by
    obtain ⟨_, _, _, rfl⟩ := Ln3 hu
    obtain ⟨_, rfl⟩ := Ln1 hi
    exact ⟨_, rfl, rfl⟩
  have Barr : Binds K (PySem.W.fnOf "arrive" "System.arrive" (defArgs sArrive) (defBody sArrive) (defScope sArrive) (.ref T_arr) kV_arr dc_arr pm_arr an_arr cd_arr ct_arr) (["self", "process", "number", "many"] : List Str) [] := by
    obtain ⟨ds, v, b⟩ := Farr.binds1 (ps := ["self", "process", "number", "many"]) 4 1 (by intro z; cases z) rfl fun _ _ _ _ _ _ _ us its hu hi => by
      obtain ⟨_, _, _, _, rfl⟩ := Ln4 hu
      obtain ⟨_, rfl⟩ := Ln1 hi
      exact ⟨_, rfl, rfl⟩
    cases v
    exact b
  have Frow := fun_mk (st := sRowOf) lrow crow krow
  have brow := Frow.binds (ps := ["self", "process", "set_number"]) fun _ _ _ _ _ _ us hl => by
    obtain ⟨_, _, _, rfl⟩ := Ln3 hl
    rfl
  have Fadd : FunD K "add" "System.add" (defArgs sAdd) (defBody sAdd) (defScope sAdd) ([] : List V) ([("word", V.str "level")] : List (Str × V)) f_add (PySem.W.fnOf "add" "System.add" (defArgs sAdd) (defBody sAdd) (defScope sAdd) .none (.ref D_add) dc_add pm_add an_add cd_add ct_add) := ⟨⟨_, _, .none, (.ref D_add), _, _, _, _, _, _, rfl, ladd, cadd, .inl ⟨rfl, rfl⟩, .inr ⟨D_add, rfl, fun q hq => by
    simp only [List.mem_cons, List.not_mem_nil, or_false] at hq
    rcases hq with rfl
    · exact ⟨_, wadd0, _, rfl⟩⟩⟩, kadd⟩
  obtain ⟨mvw, bwadd⟩ := Fadd.kbinds0 (ps := ["self", "process", "set_number", "number", "label", "word"]) 5 ["word"] [] (fun us mv ws => us ++ ws) (by intro z; cases z) (fun q hq => absurd hq List.not_mem_nil) (fun a b c => a.append c) fun _ _ _ _ _ _ us mv ws hu hm hw => by
    obtain ⟨_, _, _, _, _, rfl⟩ := Ln5 hu
    obtain rfl := Ln0 hm
    obtain ⟨_, rfl⟩ := Ln1 hw
    rfl
  have Fwai : FunD K "wait" "System.wait" (defArgs sWait) (defBody sWait) (defScope sWait) ([V.int 1] : List V) ([] : List (Str × V)) f_wai (PySem.W.fnOf "wait" "System.wait" (defArgs sWait) (defBody sWait) (defScope sWait) (.ref T_wai) kV_wai dc_wai pm_wai an_wai cd_wai ct_wai) := ⟨⟨_, _, (.ref T_wai), kV_wai, _, _, _, _, _, _, rfl, lwai, cwai, .inr ⟨(by intro z; cases z), T_wai, _, [.int 1 tv_wai0], nd_wai, rfl, Lwai, rfl, (.cons ⟨_, rfl⟩ .nil)⟩, .inl rfl⟩, kwai⟩
  obtain ⟨dswai, vwai, bwai⟩ := Fwai.binds1 (ps := ["self", "process", "set_number", "most"]) 3 0 (by intro z; cases z) rfl fun _ _ _ _ _ _ _ us its hu hi => by
    obtain ⟨_, _, _, rfl⟩ := Ln3 hu
    obtain ⟨_, rfl⟩ := Ln1 hi
    exact ⟨_, rfl, rfl⟩
  have Bwai : Binds K (PySem.W.fnOf "wait" "System.wait" (defArgs sWait) (defBody sWait) (defScope sWait) (.ref T_wai) kV_wai dc_wai pm_wai an_wai cd_wai ct_wai) (["self", "process", "set_number", "most"] : List Str) [] := by
    obtain ⟨ds, v, b⟩ := Fwai.binds1 (ps := ["self", "process", "set_number", "most"]) 4 1 (by intro z; cases z) rfl fun _ _ _ _ _ _ _ us its hu hi => by
      obtain ⟨_, _, _, _, rfl⟩ := Ln4 hu
      obtain ⟨_, rfl⟩ := Ln1 hi
      exact ⟨_, rfl, rfl⟩
    cases v
    exact b
  have tup : ∀ {q : Addr} {dd : Option Addr} {its : Array Value} {n : Nat} {sl : Array (Option Value)} {xs : List Str}, K.lookup q = some ⟨.type "tuple", dd, .seq its n, sl⟩ → its.size ≤ sizeLine → Vals (xs.map V.str) its.toList → ∀ H, SqT K H q (xs.map V.str) := fun e hz hv H => .inr ⟨_, _, _, e, rfl, rfl, hz, hv⟩
  have DT : DrawTxt mg := ⟨(PySem.W.mg_none_of X G z_len), (PySem.W.mg_none_of X G z_enumerate), (PySem.W.mg_none_of X G z_int), (PySem.W.mg_none_of X G z_abs)⟩
  have CT : ChkTxt K mg := ⟨(PySem.W.mg_none_of X G z_isinstance), (PySem.W.mg_none_of X G z_int), (PySem.W.mg_none_of X G z_bool), ⟨tMC, PySem.W.mg_of X G gMC⟩, ⟨tML, PySem.W.mg_of X G gML⟩, ⟨wW, PySem.W.mg_of X G wA, tup (xs := wordsL) LW (by show 3 ≤ sizeLine; decide) (.cons ⟨_, rfl⟩ (.cons ⟨_, rfl⟩ (.cons ⟨_, rfl⟩ .nil)))⟩⟩
  have WT : WsTxt mg := ⟨(PySem.W.mg_none_of X G z_list), (PySem.W.mg_none_of X G z_len)⟩
  have YT : SysTxt mg := ⟨(PySem.W.mg_none_of X G z_enumerate), (PySem.W.mg_none_of X G z_list), (PySem.W.mg_none_of X G z_min)⟩
  have LX : LawTx mg := ⟨(PySem.W.mg_none_of X G z_range), (PySem.W.mg_none_of X G z_max), (PySem.W.mg_none_of X G z_min), (PySem.W.mg_none_of X G z_len), (PySem.W.mg_none_of X G z_list), (PySem.W.mg_none_of X G z_sorted)⟩
  have TS : ClsF K CS sysF := ⟨⟨pgS, hdS, poS, saS⟩, fun f hf => by
    simp only [sysF, List.mem_cons, List.not_mem_nil, or_false] at hf
    rcases hf with rfl | rfl | rfl | rfl | rfl | rfl
    · exact noS0
    · exact noS1
    · exact noS2
    · exact noS3
    · exact noS4
    · exact noS5⟩
  have TW : ClsF K CW wsF := ⟨⟨pgW, hdW, poW, saW⟩, fun f hf => by
    simp only [wsF, List.mem_cons, List.not_mem_nil, or_false] at hf
    rcases hf with rfl | rfl
    · exact noW0
    · exact noW1⟩
  have TR : ClsF K CR regF := ⟨⟨pgR, hdR, poR, saR⟩, fun f hf => by
    simp only [regF, List.mem_cons, List.not_mem_nil, or_false] at hf
    rcases hf with rfl | rfl | rfl | rfl
    · exact noR0
    · exact noR1
    · exact noR2
    · exact noR3⟩
  have LT : LimTxt K mg CS := ⟨⟨tLP, PySem.W.mg_of X G gLP⟩, ⟨tLN, PySem.W.mg_of X G gLN⟩, ⟨_, gMP, ⟨_, rfl⟩, sMP, by decide⟩, ⟨_, gMN, ⟨_, rfl⟩, sMN, by decide⟩⟩
  have KS : Mk K CS f_si := ⟨mkS, asi, isi, kcS⟩
  have gmS := PySem.W.mg_of X G gCS
  have KW : Mk K CW f_wi := ⟨mkW, awi, iwi, kcW⟩
  have gmW := PySem.W.mg_of X G gCW
  have KR : Mk K CR f_ri := ⟨mkR, ari, iri, kcR⟩
  have gmR := PySem.W.mg_of X G gCR
  refine ⟨PySem.W.fnOf "law" "law" (defArgs sLaw) (defBody sLaw) (defScope sLaw) .none kV_law dc_law pm_law an_law cd_law ct_law, fun s u => .of_eq rfl, fun base _ _ => ?_⟩
  have Gint := okIsInteger (P := P) (w := w) (K := K) (mg := mg) (base := base) Fint CT
  have Gbet := okIsBetween (P := P) (w := w) (K := K) (mg := mg) (base := base) Fbet Gint kint mint bint
  have Gcnt := okIsCount (P := P) (w := w) (K := K) (mg := mg) (base := base) Fcnt CT Gbet kbet mbet bbet
  have Glab := okIsLabel (P := P) (w := w) (K := K) (mg := mg) (base := base) Flab CT Gbet kbet mbet bbet
  have Gwrd := okIsWord (P := P) (w := w) (K := K) (mg := mg) (base := base) Fwrd CT
  have Gbag := okBag (P := P) (w := w) (K := K) (mg := mg) (base := base) Fbag DT
  have Gtake := okTake (P := P) (w := w) (K := K) (mg := mg) (base := base) Ftake DT
  have Gof := okOf (P := P) (w := w) (K := K) (mg := mg) (base := base) Fof DT Ftake mtake btake
  have Gavd := okArrived (P := P) (w := w) (K := K) (mg := mg) (base := base) Favd LX
  have Gwtd := okWaited (P := P) (w := w) (K := K) (mg := mg) (base := base) Fwtd LX (PySem.W.mg_none_of X G z_enumerate) (PySem.W.mg_none_of X G z_dict)
  have Gri := okRegInit (P := P) (w := w) (K := K) (mg := mg) (base := base) Fri TR
  have Gwi := okWsInit (P := P) (w := w) (K := K) (mg := mg) (base := base) Fwi TW
  have Gapp := okAppend (P := P) (w := w) (K := K) (mg := mg) (base := base) Fapp TW
  have Gput := okPut (P := P) (w := w) (K := K) (mg := mg) (base := base) Fput TW Gapp ⟨aapp, iapp, kapp⟩ bapp
  have Gstl := okSettle (P := P) (w := w) (K := K) (mg := mg) (base := base) Fstl TW TR gmR KR Gri bri
  have Glof := okLabelOf (P := P) (w := w) (K := K) (mg := mg) (base := base) Flof TW TR
  have Gdrp := okDrop (P := P) (w := w) (K := K) (mg := mg) (base := base) Fdrp TW
  have Gntc := okNotice (P := P) (w := w) (K := K) (mg := mg) (base := base) Fntc TW TR Gapp ⟨aapp, iapp, kapp⟩ bapp
  have Grep := okReports (P := P) (w := w) (K := K) (mg := mg) (base := base) Frep WT TW TR Gstl ⟨astl, istl, kstl⟩ bstl
  have Gsi := okSysInit (P := P) (w := w) (K := K) (mg := mg) (base := base) (C := ⟨CS, CW, CR⟩) Fsi TS LT ⟨Gbet, kbet, mbet, bbet⟩
  have Gcon := okContains (P := P) (w := w) (K := K) (mg := mg) (base := base) (C := ⟨CS, CW, CR⟩) Fcon TS ⟨Gint, kint, mint, bint⟩
  have Gtof := okTableOf (P := P) (w := w) (K := K) (mg := mg) (base := base) (C := ⟨CS, CW, CR⟩) Ftof TS ⟨Gcon, ⟨acon, icon, kcon⟩, bcon⟩
  have Gitn := okIsTabNum (P := P) (w := w) (K := K) (mg := mg) (base := base) (C := ⟨CS, CW, CR⟩) Fitn TS ⟨Gbet, kbet, mbet, bbet⟩
  have Gtha := okThingAt (P := P) (w := w) (K := K) (mg := mg) (base := base) (C := ⟨CS, CW, CR⟩) Ftha TS ⟨Gtof, ⟨atof, itof, ktof⟩, btof⟩ ⟨Gitn, ⟨aitn, iitn, kitn⟩, bitn⟩
  have Gsra := okSourceAt (P := P) (w := w) (K := K) (mg := mg) (base := base) (C := ⟨CS, CW, CR⟩) Fsra TS ⟨Gtha, ⟨atha, itha, ktha⟩, btha⟩
  have Gsta := okSetAt (P := P) (w := w) (K := K) (mg := mg) (base := base) (C := ⟨CS, CW, CR⟩) Fsta TS ⟨Gtha, ⟨atha, itha, ktha⟩, btha⟩
  have Gfrn := okFreeNum (P := P) (w := w) (K := K) (mg := mg) (base := base) (C := ⟨CS, CW, CR⟩) Ffrn YT TS ⟨Gtof, ⟨atof, itof, ktof⟩, btof⟩
  have Gnth := okNewThing (P := P) (w := w) (K := K) (mg := mg) (base := base) (C := ⟨CS, CW, CR⟩) Fnth TS ⟨Gfrn, ⟨afrn, ifrn, kfrn⟩, bfrn⟩
  have Gunf := okUnfinished (P := P) (w := w) (K := K) (mg := mg) (base := base) (C := ⟨CS, CW, CR⟩) Funf TS
  have Grdy := okIsReady (P := P) (w := w) (K := K) (mg := mg) (base := base) (C := ⟨CS, CW, CR⟩) Frdy TS
  have Gnfy := okNotify (P := P) (w := w) (K := K) (mg := mg) (base := base) (C := ⟨CS, CW, CR⟩) Fnfy TS TW.cl ⟨Gntc, ⟨antc, intc, kntc⟩, bntc⟩
  have Garr := okArrive (P := P) (w := w) (K := K) (mg := mg) (base := base) (C := ⟨CS, CW, CR⟩) Farr TS ⟨Gsra, ⟨asra, isra, ksra⟩, bsra⟩ ⟨Gunf, ⟨aunf, iunf, kunf⟩, bunf⟩ ⟨Gnfy, ⟨anfy, infy, knfy⟩, bnfy⟩ ⟨Gcnt, kcnt, mcnt, bcnt⟩
  have Grow := okRowOf (P := P) (w := w) (K := K) (mg := mg) (base := base) (C := ⟨CS, CW, CR⟩) Frow YT TS TW ⟨Gsta, ⟨asta, ista, ksta⟩, bsta⟩
  have Gadd := okAdd (P := P) (w := w) (K := K) (mg := mg) (base := base) (C := ⟨CS, CW, CR⟩) Fadd TS TW ⟨Gsta, ⟨asta, ista, ksta⟩, bsta⟩ ⟨Gsra, ⟨asra, isra, ksra⟩, bsra⟩ ⟨Glab, klab, mlab, blab⟩ ⟨Gwrd, kwrd, mwrd, bwrd⟩ ⟨Glof, ⟨alof, ilof, klof⟩, blof⟩ gmR KR Gri bri ⟨Grdy, ⟨ardy, irdy, krdy⟩, brdy⟩ ⟨Gput, ⟨aput, iput, kput⟩, bput⟩
  have Gwai := okWait (P := P) (w := w) (K := K) (mg := mg) (base := base) (C := ⟨CS, CW, CR⟩) Fwai TS TW ⟨Gsta, ⟨asta, ista, ksta⟩, bsta⟩ ⟨Gcnt, kcnt, mcnt, bcnt⟩ ⟨Grep, ⟨arep, irep, krep⟩, brep⟩
  have Gnso := okNewSource (P := P) (w := w) (K := K) (mg := mg) (base := base) (C := ⟨CS, CW, CR⟩) Fnso TS ⟨Gnth, ⟨anth, inth, knth⟩, bnth⟩
  have Gnse := okNewSet (P := P) (w := w) (K := K) (mg := mg) (base := base) (C := ⟨CS, CW, CR⟩) Fnse TS ⟨Gnth, ⟨anth, inth, knth⟩, bnth⟩ gmW KW Gwi bwi
  have Gchg := okChange (P := P) (w := w) (K := K) (mg := mg) (base := base) (C := ⟨CS, CW, CR⟩) Fchg TS TW ⟨Gsta, ⟨asta, ista, ksta⟩, bsta⟩ ⟨Gsra, ⟨asra, isra, ksra⟩, bsra⟩ ⟨Gwrd, kwrd, mwrd, bwrd⟩ ⟨Glof, ⟨alof, ilof, klof⟩, blof⟩ gmR KR Gri bri ⟨Grdy, ⟨ardy, irdy, krdy⟩, brdy⟩ ⟨Gput, ⟨aput, iput, kput⟩, bput⟩
  have Grem := okRemove (P := P) (w := w) (K := K) (mg := mg) (base := base) (C := ⟨CS, CW, CR⟩) Frem TS TW ⟨Gsta, ⟨asta, ista, ksta⟩, bsta⟩ ⟨Gsra, ⟨asra, isra, ksra⟩, bsra⟩ ⟨Glof, ⟨alof, ilof, klof⟩, blof⟩ ⟨Gdrp, ⟨adrp, idrp, kdrp⟩, bdrp⟩
  have Gcpy := okCopy (P := P) (w := w) (K := K) (mg := mg) (base := base) (C := ⟨CS, CW, CR⟩) Fcpy TS ⟨Gtha, ⟨atha, itha, ktha⟩, btha⟩ ⟨Gitn, ⟨aitn, iitn, kitn⟩, bitn⟩ ⟨Gfrn, ⟨afrn, ifrn, kfrn⟩, bfrn⟩
  have Ganw := okAnew (P := P) (w := w) (K := K) (mg := mg) (base := base) (C := ⟨CS, CW, CR⟩) Fanw LX TS ⟨Gtake, ktake, mtake, btake⟩ ⟨Gof, kof, mof, bof⟩ ⟨Gchg, ⟨achg, ichg, kchg⟩, bwchg⟩ ⟨Gadd, ⟨aadd, iadd, kadd⟩, bwadd⟩ ⟨Grem, ⟨arem, irem, krem⟩, brem⟩
  have Ghom := okHome (P := P) (w := w) (K := K) (mg := mg) (base := base) (C := ⟨CS, CW, CR⟩) Fhom LX (PySem.W.mg_none_of X G z_int) TS ⟨Gtake, ktake, mtake, btake⟩ ⟨Gof, kof, mof, bof⟩ gmS KS Gsi bsi ⟨Gnse, ⟨anse, inse, knse⟩, bnse⟩ ⟨Gnso, ⟨anso, inso, knso⟩, bnso⟩ ⟨Gcpy, ⟨acpy, icpy, kcpy⟩, bcpy, vcpy⟩ ⟨Gadd, ⟨aadd, iadd, kadd⟩, bwadd⟩
  exact okLaw (C := ⟨CS, CW, CR⟩) Flaw LX (PySem.W.mg_none_of X G z_int) (PySem.W.mg_none_of X G z_dict) TS nWR ⟨Gbag, kbag, mbag, bbag⟩ ⟨Gtake, ktake, mtake, btake⟩ ⟨Ghom, khom, mhom, bhom⟩ ⟨Gavd, kavd, mavd, bavd⟩ ⟨Gwtd, kwtd, mwtd, bwtd⟩ ⟨Ganw, kanw, manw, banw⟩ ⟨Garr, ⟨aarr, iarr, karr⟩, barr, varr⟩ ⟨Gwai, ⟨awai, iwai, kwai⟩, Bwai⟩ ⟨Grow, ⟨arow, irow, krow⟩, brow⟩
theorem walk14 {l : PySem.W.OpenLaw} {q : Program} {loose : List Str} {XP : (Str → Option Value) → Heap → Prop} {YP : World → Heap → Prop} {d : DefRec} {K : Params → PySem.W.Frag} (hn : l.most = some 63) (hdf : d.params.defaults = [])
    (hY : ∀ (w : World) (h : Heap), YP w h → (K w.params).In h)
    (F : ∀ (w : World) (mg : Str → Option Value) (fa : Addr) (h : Heap), (K w.params).In h → h.Ns mainGlobals mg → mg d.name = some (.ref fa) →
      ∃ fd : FuncData, (∀ (s : Shared) (u : Value), BindsTo s fd ⟨[u], []⟩ [("_law_script", u)]) ∧ ∀ base : Heap, (K w.params).In base → base.Ns mainGlobals mg → FnOk l.prog w (K w.params) mg base CX0 8 fa fd ["_law_script"] (spLaw (K w.params))) :
    PySem.W.WalkO q loose XP YP l.row.toRowW d [] (fun f vs => PySem.call f vs) :=
  L2.walk_of (n := 63) (k := 8) (x := "_law_script") (CX := fun _ => CX0) (sp := fun w => spLaw (K w.params)) hn (by decide) hdf ⟨rfl, by decide, by decide⟩ hY F (fun _ _ a ns hl _ hS => ⟨a, ns, rfl, hS, hl, fun _ => rfl⟩) fun _ _ _ _ _ z => z

end Wn
open PySem PySem.W PyProof.Rows in
set_option maxRecDepth 100000 in
set_option maxHeartbeats 0 in
theorem PySem.Challenge.cw_waitnumbers_k14_one_source_at_several_nu_holds : PySem.Challenge.rw_waitnumbers_k14_one_source_at_several_nu.Holds := by
  w_on; o_law; k_head; (case hw => w_witness2)
  k_fill
  refine Wn.walk14 (l := PySem.Challenge.rw_waitnumbers_k14_one_source_at_several_nu) rfl rfl (fun w h Y => PySem.W.kIn_of Y) ?F
  case F =>
    intro w mg fa h KX G hmg
    refine' Wn.all_mk (w := w) KX G hmg ?gCS ?pgS ?hdS ?poS ?saS ?mkS ?kcS ?noS0 ?noS1 ?noS2 ?noS3 ?noS4 ?noS5 ?gCW ?pgW ?hdW ?poW ?saW ?mkW ?kcW ?noW0 ?noW1 ?gCR ?pgR ?hdR ?poR ?saR ?mkR ?kcR ?noR0 ?noR1 ?noR2 ?noR3 ?nWR ?aint ?lint ?cint ?kint ?abet ?lbet ?cbet ?kbet ?acnt ?lcnt ?ccnt ?kcnt ?alab ?llab ?clab ?klab ?awrd ?lwrd ?cwrd ?kwrd ?abag ?lbag ?cbag ?kbag ?atake ?ltake ?ctake ?ktake ?aof ?lof ?cof ?kof ?aavd ?lavd ?cavd ?kavd ?awtd ?lwtd ?cwtd ?kwtd ?aanw ?lanw ?canw ?kanw ?ahom ?lhom ?chom ?khom ?alaw ?llaw ?claw ?klaw ?ari ?iri ?lri ?cri ?kri ?awi ?iwi ?lwi ?cwi ?kwi ?aapp ?iapp ?lapp ?capp ?kapp ?aput ?iput ?lput ?cput ?kput ?astl ?istl ?lstl ?cstl ?kstl ?alof ?ilof ?llof ?clof ?klof ?adrp ?idrp ?ldrp ?cdrp ?kdrp ?achg ?ichg ?lchg ?cchg ?kchg ?acpy ?icpy ?lcpy ?ccpy ?kcpy ?Lcpy ?arem ?irem ?lrem ?crem ?krem ?antc ?intc ?lntc ?cntc ?kntc ?arep ?irep ?lrep ?crep ?krep ?asi ?isi ?lsi ?csi ?ksi ?wsi0 ?wsi1 ?acon ?icon ?lcon ?ccon ?kcon ?atof ?itof ?ltof ?ctof ?ktof ?aitn ?iitn ?litn ?citn ?kitn ?atha ?itha ?ltha ?ctha ?ktha ?asra ?isra ?lsra ?csra ?ksra ?asta ?ista ?lsta ?csta ?ksta ?afrn ?ifrn ?lfrn ?cfrn ?kfrn ?anth ?inth ?lnth ?cnth ?knth ?aunf ?iunf ?lunf ?cunf ?kunf ?ardy ?irdy ?lrdy ?crdy ?krdy ?anfy ?infy ?lnfy ?cnfy ?knfy ?anso ?inso ?lnso ?cnso ?knso ?anse ?inse ?lnse ?cnse ?knse ?aarr ?iarr ?larr ?carr ?karr ?Larr ?arow ?irow ?lrow ?crow ?krow ?aadd ?iadd ?ladd ?cadd ?kadd ?wadd0 ?awai ?iwai ?lwai ?cwai ?kwai ?Lwai ?z_len ?z_enumerate ?z_int ?z_abs ?z_isinstance ?z_bool ?z_list ?z_min ?z_max ?z_range ?z_sorted ?z_dict ?wA ?LW ?gMC ?gML ?gLP ?gLN ?gMP ?gMN ?sMP ?sMN
    (case gCS => k_is)
    (case pgS => k_is)
    (case hdS => k_is)
    (case poS => k_is)
    (case saS => k_is)
    (case mkS => k_is)
    (case kcS => k_is)
    (case noS0 => k_is)
    (case noS1 => k_is)
    (case noS2 => k_is)
    (case noS3 => k_is)
    (case noS4 => k_is)
    (case noS5 => k_is)
    (case gCW => k_is)
    (case pgW => k_is)
    (case hdW => k_is)
    (case poW => k_is)
    (case saW => k_is)
    (case mkW => k_is)
    (case kcW => k_is)
    (case noW0 => k_is)
    (case noW1 => k_is)
    (case gCR => k_is)
    (case pgR => k_is)
    (case hdR => k_is)
    (case poR => k_is)
    (case saR => k_is)
    (case mkR => k_is)
    (case kcR => k_is)
    (case noR0 => k_is)
    (case noR1 => k_is)
    (case noR2 => k_is)
    (case noR3 => k_is)
    (case nWR => decide)
    (case aint => k_is)
    (case lint => k_is)
    (case cint => k_is)
    (case kint => k_is)
    (case abet => k_is)
    (case lbet => k_is)
    (case cbet => k_is)
    (case kbet => k_is)
    (case acnt => k_is)
    (case lcnt => k_is)
    (case ccnt => k_is)
    (case kcnt => k_is)
    (case alab => k_is)
    (case llab => k_is)
    (case clab => k_is)
    (case klab => k_is)
    (case awrd => k_is)
    (case lwrd => k_is)
    (case cwrd => k_is)
    (case kwrd => k_is)
    (case abag => k_is)
    (case lbag => k_is)
    (case cbag => k_is)
    (case kbag => k_is)
    (case atake => k_is)
    (case ltake => k_is)
    (case ctake => k_is)
    (case ktake => k_is)
    (case aof => k_is)
    (case lof => k_is)
    (case cof => k_is)
    (case kof => k_is)
    (case aavd => k_is)
    (case lavd => k_is)
    (case cavd => k_is)
    (case kavd => k_is)
    (case awtd => k_is)
    (case lwtd => k_is)
    (case cwtd => k_is)
    (case kwtd => k_is)
    (case aanw => k_is)
    (case lanw => k_is)
    (case canw => k_is)
    (case kanw => k_is)
    (case ahom => k_is)
    (case lhom => k_is)
    (case chom => k_is)
    (case khom => k_is)
    (case alaw => k_is)
    (case llaw => k_is)
    (case claw => k_is)
    (case klaw => k_is)
    (case ari => k_is)
    (case iri => k_is)
    (case lri => k_is)
    (case cri => k_is)
    (case kri => k_is)
    (case awi => k_is)
    (case iwi => k_is)
    (case lwi => k_is)
    (case cwi => k_is)
    (case kwi => k_is)
    (case aapp => k_is)
    (case iapp => k_is)
    (case lapp => k_is)
    (case capp => k_is)
    (case kapp => k_is)
    (case aput => k_is)
    (case iput => k_is)
    (case lput => k_is)
    (case cput => k_is)
    (case kput => k_is)
    (case astl => k_is)
    (case istl => k_is)
    (case lstl => k_is)
    (case cstl => k_is)
    (case kstl => k_is)
    (case alof => k_is)
    (case ilof => k_is)
    (case llof => k_is)
    (case clof => k_is)
    (case klof => k_is)
    (case adrp => k_is)
    (case idrp => k_is)
    (case ldrp => k_is)
    (case cdrp => k_is)
    (case kdrp => k_is)
    (case achg => k_is)
    (case ichg => k_is)
    (case lchg => k_is)
    (case cchg => k_is)
    (case kchg => k_is)
    (case acpy => k_is)
    (case icpy => k_is)
    (case lcpy => k_is)
    (case ccpy => k_is)
    (case kcpy => k_is)
    (case Lcpy => k_is)
    (case arem => k_is)
    (case irem => k_is)
    (case lrem => k_is)
    (case crem => k_is)
    (case krem => k_is)
    (case antc => k_is)
    (case intc => k_is)
    (case lntc => k_is)
    (case cntc => k_is)
    (case kntc => k_is)
    (case arep => k_is)
    (case irep => k_is)
    (case lrep => k_is)
    (case crep => k_is)
    (case krep => k_is)
    (case asi => k_is)
    (case isi => k_is)
    (case lsi => k_is)
    (case csi => k_is)
    (case ksi => k_is)
    (case wsi0 => k_is)
    (case wsi1 => k_is)
    (case acon => k_is)
    (case icon => k_is)
    (case lcon => k_is)
    (case ccon => k_is)
    (case kcon => k_is)
    (case atof => k_is)
    (case itof => k_is)
    (case ltof => k_is)
    (case ctof => k_is)
    (case ktof => k_is)
    (case aitn => k_is)
    (case iitn => k_is)
    (case litn => k_is)
    (case citn => k_is)
    (case kitn => k_is)
    (case atha => k_is)
    (case itha => k_is)
    (case ltha => k_is)
    (case ctha => k_is)
    (case ktha => k_is)
    (case asra => k_is)
    (case isra => k_is)
    (case lsra => k_is)
    (case csra => k_is)
    (case ksra => k_is)
    (case asta => k_is)
    (case ista => k_is)
    (case lsta => k_is)
    (case csta => k_is)
    (case ksta => k_is)
    (case afrn => k_is)
    (case ifrn => k_is)
    (case lfrn => k_is)
    (case cfrn => k_is)
    (case kfrn => k_is)
    (case anth => k_is)
    (case inth => k_is)
    (case lnth => k_is)
    (case cnth => k_is)
    (case knth => k_is)
    (case aunf => k_is)
    (case iunf => k_is)
    (case lunf => k_is)
    (case cunf => k_is)
    (case kunf => k_is)
    (case ardy => k_is)
    (case irdy => k_is)
    (case lrdy => k_is)
    (case crdy => k_is)
    (case krdy => k_is)
    (case anfy => k_is)
    (case infy => k_is)
    (case lnfy => k_is)
    (case cnfy => k_is)
    (case knfy => k_is)
    (case anso => k_is)
    (case inso => k_is)
    (case lnso => k_is)
    (case cnso => k_is)
    (case knso => k_is)
    (case anse => k_is)
    (case inse => k_is)
    (case lnse => k_is)
    (case cnse => k_is)
    (case knse => k_is)
    (case aarr => k_is)
    (case iarr => k_is)
    (case larr => k_is)
    (case carr => k_is)
    (case karr => k_is)
    (case Larr => k_is)
    (case arow => k_is)
    (case irow => k_is)
    (case lrow => k_is)
    (case crow => k_is)
    (case krow => k_is)
    (case aadd => k_is)
    (case iadd => k_is)
    (case ladd => k_is)
    (case cadd => k_is)
    (case kadd => k_is)
    (case wadd0 => k_is)
    (case awai => k_is)
    (case iwai => k_is)
    (case lwai => k_is)
    (case cwai => k_is)
    (case kwai => k_is)
    (case Lwai => k_is)
    (case z_len => k_is)
    (case z_enumerate => k_is)
    (case z_int => k_is)
    (case z_abs => k_is)
    (case z_isinstance => k_is)
    (case z_bool => k_is)
    (case z_list => k_is)
    (case z_min => k_is)
    (case z_max => k_is)
    (case z_range => k_is)
    (case z_sorted => k_is)
    (case z_dict => k_is)
    (case wA => k_is)
    (case LW => k_is)
    (case gMC => k_is)
    (case gML => k_is)
    (case gLP => k_is)
    (case gLN => k_is)
    (case gMP => k_is)
    (case gMN => k_is)
    (case sMP => first | k_is | rfl)
    (case sMN => first | k_is | rfl)

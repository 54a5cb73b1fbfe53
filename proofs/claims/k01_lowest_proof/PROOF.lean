import PyProof.Rows.All
import Wide.All
import OpenK.AllK
import Wide.FinOn
import HandS.ForMost
import HandS.Wide
import HandS.Evl
import HandS.Walk
import HandS.NoneIn
import HandS.IsInst
import HandS.More
import HandS.Defaults
import HandS.MakeKwOnly
import HandS.Conv
import HandS.Style
import HandS.OwnEq
import HandS.ExcInit
import HandS.ExcField
import HandS.ExcOwn
import KE.KExcInit
import KE.KExcIs
import HandS.FStr
import HandS.WordsExc
import HandS.ExcIs
import HandS.FStrTup
import HandS.RaiseMore
import HandS.Lambda
import HandS.EndTab
import HandS.TryMany
import HandS.Flow
import HandS.Sort
import PyProof.ReprLen
import PyProof.FitsInt
import HandS.Dict
import PySem.Challenge.RW_waitnumbers_k01_lowest_free_numbers
set_option Elab.async false
set_option linter.all false
set_option maxRecDepth 100000
set_option maxHeartbeats 4000000
namespace Wn
open PySem PySem.Spec PyProof.Rows L2 Evl
def top (i : Nat) : Stmt := PySem.Challenge.pw_waitnumbers_k01_lowest_free_numbers.main.body.getD i (.Pass ⟨0, 0, 0, 0⟩)
abbrev sBag : Stmt := top 21
abbrev sTake : Stmt := top 22
abbrev sOf : Stmt := top 23
/-! readings with names -/
def rInt1 : List V → Hp → VK → Prop := fun xs H Q => (∃ i, xs = [.int i] ∧ Q (.int i) H) ∨ ∃ k, xs = [.bl k] ∧ Q (.int (if k = true then 1 else 0)) H
def rAbs : List V → Hp → VK → Prop := fun xs H Q => ∃ i, xs = [.int i] ∧ Q (.int (if i < 0 then -i else i)) H
theorem cInt1 {X : Cx} : CallR X (.type "int") rInt1 := call_int1
theorem cAbs {X : Cx} : CallR X (.builtin "abs") rAbs := call_abs
def rIsN : R2 := fun x y H Q => y = .non ∧ Q (.bl (decide (x = .non))) H
def rNotN : R2 := fun x y H Q => y = .non ∧ Q (.bl (!decide (x = .non))) H
def rAddS : R2 := fun x y H Q => ∃ i j, x = .str i ∧ y = .str j ∧ i.length + j.length ≤ sizeLine ∧ Q (.str (i ++ j)) H
def rLenQ (K : PySem.W.Frag) : List V → Hp → VK → Prop := fun xs H Q => ∃ p ys, xs = [.ref p] ∧ (SqL K H p ys ∨ SqT K H p ys) ∧ Q (.int ys.length) H
def rLenS : List V → Hp → VK → Prop := fun xs H Q => ∃ z, xs = [.str z] ∧ z.length ≤ sizeLine ∧ Q (.int z.length) H
def rMax2 : List V → Hp → VK → Prop := fun xs H Q => ∃ i j, xs = [.int i, .int j] ∧ Q (.int (if j > i then j else i)) H
def rMin2 : List V → Hp → VK → Prop := fun xs H Q => ∃ i j, xs = [.int i, .int j] ∧ Q (.int (if j < i then j else i)) H
theorem oIsN {X : Cx} : OpR X (compareOp .Is) rIsN := op_isN
theorem oNotN {X : Cx} : OpR X (compareOp .IsNot) rNotN := op_notN
theorem oAddS {X : Cx} : OpR X (binaryOp .Add) rAddS := op_add_str
theorem cLenQ {X : Cx} : CallR X (.builtin "len") (rLenQ X.K) := call_len_seq
theorem cLenS {X : Cx} : CallR X (.builtin "len") rLenS := call_len_str
theorem cMax2 {X : Cx} (hc : X.calm = true) : CallR X (.builtin "max") rMax2 := call_max2 hc
theorem cMin2 {X : Cx} (hc : X.calm = true) : CallR X (.builtin "min") rMin2 := call_min2 hc
/-! one step of a reading -/
section
variable {σ : L2.St} {H : Hp} {Q : VK} {ta tb te : TE} {tl : TA} {t u : TS} {D : Ends} {c : TT} {r : R2} {v : V} {i : Nat}
theorem g_var (h : σ[i]? = some (some v)) (q : Q v H) : tVar i σ H Q := ⟨v, h, q⟩
theorem g_c (q : Q v H) : tC v σ H Q := q
theorem g_op (q : ta σ H fun x H1 => tb σ H1 fun y H2 => r x y H2 Q) : tOp r ta tb σ H Q := q
theorem g_un {r : V → Hp → VK → Prop} (q : ta σ H fun x H1 => r x H1 Q) : tUn r ta σ H Q := q
theorem g_rI0 {g : Int → Int → V} {a b : Int} (q : Q (g a b) H) : rI0 g (.int a) (.int b) H Q := ⟨a, b, rfl, rfl, q⟩
theorem g_rI {C : Int → Int → Prop} {g : Int → Int → V} {a b : Int} (hc : C a b) (q : Q (g a b) H) : rI C g (.int a) (.int b) H Q := ⟨a, b, rfl, rfl, hc, q⟩
theorem g_mul {a b : Int} (h : (-(2 ^ 64) < a ∧ a < 2 ^ 64) ∨ (-(2 ^ 64) < b ∧ b < 2 ^ 64)) (q : Q (.int (a * b)) H) : rI CMul (fun i j => .int (i * j)) (.int a) (.int b) H Q := ⟨a, b, rfl, rfl, h, q⟩
theorem g_mod {a b : Int} (h : 0 < b) (q : Q (.int (a % b)) H) : rI (fun _ j => 0 < j) (fun i j => .int (i % j)) (.int a) (.int b) H Q := ⟨a, b, rfl, rfl, h, q⟩
theorem g_rEq {x y : V} (h : scal x y = true) (q : Q (.bl (decide (x = y))) H) : rEq x y H Q := ⟨h, q⟩
theorem g_rNe {x y : V} (h : scal x y = true) (q : Q (.bl (!decide (x = y))) H) : rNe x y H Q := ⟨h, q⟩
theorem g_asg {g : TG} (q : te σ H fun x H1 => g x σ H1 D.nx) : tAsg te g D σ H := q
theorem g_name {k : L2.St → Hp → Prop} (q : k (σ.set i (some v)) H) : gName i v σ H k := q
theorem g_seq (q : t { D with nx := u D } σ H) : tSeq t u D σ H := q
theorem g_ret (q : te σ H D.rt) : tRet te D σ H := q
theorem g_retN (q : D.rt .non H) : tRetN D σ H := q
theorem g_next (q : D.nx σ H) : tNext D σ H := q
theorem g_drop (q : te σ H fun _ H1 => D.nx σ H1) : tDrop te D σ H := q
theorem g_nil {k : List V → Hp → Prop} (q : k [] H) : tNil σ H k := q
theorem g_cons {k : List V → Hp → Prop} (q : ta σ H fun x H1 => tl σ H1 fun xs H2 => k (x :: xs) H2) : tCons ta tl σ H k := q
theorem g_cb {r : List V → Hp → VK → Prop} (q : tl σ H fun vs H1 => r vs H1 Q) : tCB r tl σ H Q := q
theorem g_test {k : Bool → Hp → Prop} (q : te σ H fun x H1 => ∃ b, x = .bl b ∧ k b H1) : tTest te σ H k := q
theorem g_tB {k : Bool → Hp → Prop} (q : te σ H fun x H1 => ∃ b, x = .bl b ∧ k b H1) : tB te σ H k := q
theorem g_bl {b : Bool} {k : Bool → Prop} (q : k b) : ∃ z, V.bl b = .bl z ∧ k z := ⟨b, rfl, q⟩
theorem g_if (q : c σ H fun b H1 => if b = true then ta σ H1 Q else tb σ H1 Q) : tIf c ta tb σ H Q := q
theorem g_ifs (q : c σ H fun b H1 => if b = true then t D σ H1 else u D σ H1) : tIfS c t u D σ H := q
theorem g_not {k : Bool → Hp → Prop} (q : c σ H fun b H1 => k (!b) H1) : tNot c σ H k := q
theorem g_part {k : Option Int → Hp → Prop} (q : te σ H fun x H1 => ∃ z, x = .int z ∧ k (some z) H1) : tPart te σ H k := q
theorem g_pint {z : Int} {k : Int → Prop} (q : k z) : ∃ y, V.int z = .int y ∧ k y := ⟨z, rfl, q⟩
theorem g_lst (q : tl σ H fun xs H1 => xs.length ≤ sizeLine ∧ ∀ p, H1 p = none → Q (.ref p) (upd H1 p (.lst xs))) : tLst tl σ H Q := q
theorem g_tup (q : tl σ H fun xs H1 => xs.length ≤ sizeLine ∧ ∀ p, H1 p = none → Q (.ref p) (upd H1 p (.tup xs))) : tTup tl σ H Q := q
theorem g_ixL {K : PySem.W.Frag} {p : Addr} {xs : List V} {z : Int} (h : H p = some (.lst xs)) (a : atI xs z = some v) (q : Q v H) : rIxL K (.ref p) (.int z) H Q := ⟨p, xs, z, v, rfl, rfl, SqL.of h, a, q⟩
theorem cdivw_of {a b : Int} (h0 : 0 < b) (h1 : b < 4611686018427387904) : CDivW a b := wide_div (b := 62) h0 (by omega) (by decide) (by decide)
theorem g_div {a b : Int} (h0 : 0 < b) (h1 : b < 4611686018427387904) (q : Q (.int (a / b)) H) : rI CDivW (fun i j => .int (i / j)) (.int a) (.int b) H Q := ⟨a, b, rfl, rfl, cdivw_of h0 h1, q⟩
theorem g_sub {to ti : TE} {ts : TSet} {k : L2.St → Hp → Prop} (q : to σ H fun o H1 => ti σ H1 fun i H2 => ts o i v H2 fun H3 => k σ H3) : gSub to ti ts v σ H k := q
theorem g_setL {p : Addr} {xs : List V} {z : Int} {j : Nat} {k : Hp → Prop} (h : H p = some (.lst xs)) (a : ixN xs.length z = some j) (q : k (upd H p (.lst (xs.set j v)))) : rSetL (.ref p) (.int z) v H k := ⟨p, xs, z, j, rfl, rfl, h, a, q⟩
theorem g_nopart {k : Option Int → Hp → Prop} (q : k none H) : tNoPart σ H k := q
theorem g_call {sp : Sp} {dvs : List V} {E : XK} (q : tl σ H fun vs H1 => sp (vs ++ dvs) H1 Q E) : tCall sp dvs E tl σ H Q := q
theorem g_rint (z : Int) (q : Q (.int z) H) : rInt1 [.int z] H Q := .inl ⟨z, rfl, q⟩
theorem g_rabs {z : Int} (q : Q (.int (if z < 0 then -z else z)) H) : rAbs [.int z] H Q := ⟨z, rfl, q⟩
theorem g_sl {r : V → Option Int → Option Int → Hp → VK → Prop} {a b : TO} (q : te σ H fun x H1 => a σ H1 fun l H2 => b σ H2 fun h H3 => r x l h H3 Q) : tSl r te a b σ H Q := q
theorem g_rIsN {x : V} (q : Q (.bl (decide (x = .non))) H) : rIsN x .non H Q := ⟨rfl, q⟩
theorem g_rNotN {x : V} (q : Q (.bl (!decide (x = .non))) H) : rNotN x .non H Q := ⟨rfl, q⟩
theorem g_lenL {K : PySem.W.Frag} {p : Addr} {xs : List V} (h : H p = some (.lst xs)) (q : Q (.int xs.length) H) : rLenQ K [.ref p] H Q := ⟨p, xs, rfl, .inl (SqL.of h), q⟩
theorem g_max2 {a b : Int} (q : Q (.int (if b > a then b else a)) H) : rMax2 [.int a, .int b] H Q := ⟨a, b, rfl, q⟩
theorem g_min2 {a b : Int} (q : Q (.int (if b < a then b else a)) H) : rMin2 [.int a, .int b] H Q := ⟨a, b, rfl, q⟩
theorem g_and {t u : TT} {k : Bool → Hp → Prop} (q : t σ H fun b H1 => if b = true then u σ H1 k else k false H1) : tAnd t u σ H k := q
theorem g_or {t u : TT} {k : Bool → Hp → Prop} (q : t σ H fun b H1 => if b = true then k true H1 else u σ H1 k) : tOr t u σ H k := q
theorem g_orV (q : ta σ H fun x H1 => ∃ b, x = .bl b ∧ if b = true then Q (.bl true) H1 else tb σ H1 Q) : tOrV ta tb σ H Q := q
theorem g_andV (q : ta σ H fun x H1 => ∃ b, x = .bl b ∧ if b = true then tb σ H1 Q else Q (.bl false) H1) : tAndV ta tb σ H Q := q
theorem g_notV (q : ta σ H fun x H1 => ∃ b, x = .bl b ∧ Q (.bl (!b)) H1) : tNotV ta σ H Q := q
theorem g_m0 {r : V → List V → Hp → VK → Prop} (q : ta σ H fun x H1 => (∃ a, x = .str a) ∧ r x [] H1 Q) : tM0 r ta σ H Q := q
theorem g_m1 {r : V → List V → Hp → VK → Prop} (q : ta σ H fun x H1 => (∃ a, x = .str a) ∧ tb σ H1 fun y H2 => r x [y] H2 Q) : tM1 r ta tb σ H Q := q
theorem g_isS {z : Str} {c : Prop} (q : c) : (∃ a, V.str z = .str a) ∧ c := ⟨⟨z, rfl⟩, q⟩
theorem g_bT {A B : Prop} (q : A) : if true = true then A else B := iteT q
theorem g_bF {A B : Prop} (q : B) : if false = true then A else B := iteF q
theorem g_bNT {A B : Prop} (q : B) : if (!true) = true then A else B := iteF q
theorem g_bNF {A B : Prop} (q : A) : if (!false) = true then A else B := iteT q
theorem g_bm {K : PySem.W.Frag} {T : String} {r : V → List V → Hp → VK → Prop} (q : ta σ H fun x H1 => tyV K T x H1 ∧ tl σ H1 fun xs H2 => r x xs H2 Q) : tBM K T r ta tl σ H Q := q
theorem g_bm0 {K : PySem.W.Frag} {T : String} {r : V → List V → Hp → VK → Prop} (q : ta σ H fun x H1 => tyV K T x H1 ∧ r x [] H1 Q) : tBM0 K T r ta σ H Q := q
theorem g_tyL {K : PySem.W.Frag} {p : Addr} {xs : List V} {c : Prop} (h : H p = some (.lst xs)) (q : c) : tyV K "list" (.ref p) H ∧ c := ⟨.inl ⟨rfl, _, SqL.of h⟩, q⟩
theorem g_lit {L : List V} {n : Nat} (h : L.length ≤ n) (z : n ≤ 100) : L.length ≤ 100 := Nat.le_trans h z
theorem g_yes {k : Bool → Hp → Prop} (q : k true H) : tYes σ H k := q
theorem g_nes {x : V} {A B : Prop} (q : B) : if (!decide (x = x)) = true then A else B := by
  rw [decide_eq_true rfl]
  exact iteF q
theorem g_es {x : V} {A B : Prop} (q : A) : if decide (x = x) = true then A else B := by
  rw [decide_eq_true rfl]
  exact iteT q
theorem g_callK {sp : Sp} {gV : List V → List V → List V} {E : XK} {tk : TA} (q : tl σ H fun vs H1 => tk σ H1 fun zs H2 => sp (gV vs zs) H2 Q E) : tCallK sp gV E tl tk σ H Q := q
theorem g_isN {x : V} (q : ta σ H fun x H1 => Q (.bl (decide (x = .non))) H1) : tIsN ta σ H Q := q
end
local macro_rules | `(tactic| walk_at "wn1") => `(tactic| first | ((with_reducible show (if (!decide _) = true then _ else _)); refine' g_nes ?_) | ((with_reducible show (if (decide _) = true then _ else _)); refine' g_es ?_) | with_reducible first
  | (refine' g_var ?h ?q; (case h => with_unfolding_all rfl))
  | refine' g_c ?_ | refine' g_op ?_ | refine' g_rI0 ?_ | refine' g_asg ?_ | refine' g_name ?_ | refine' g_seq ?_ | refine' g_ret ?_ | refine' g_retN ?_ | refine' g_next ?_ | refine' g_drop ?_
  | refine' g_nil ?_ | refine' g_cons ?_ | refine' g_cb ?_ | refine' g_test ?_ | refine' g_bl ?_ | refine' g_if ?_ | refine' g_ifs ?_ | refine' g_not ?_ | refine' g_part ?_ | refine' g_pint ?_ | refine' g_nopart ?_ | refine' g_call ?_
  | (refine' g_mul ?h ?q; (case h => with_unfolding_all first | exact Or.inl ⟨by decide, by decide⟩ | exact Or.inr ⟨by decide, by decide⟩ | exact Or.inl ⟨by omega, by omega⟩ | exact Or.inr ⟨by omega, by omega⟩))
  | (refine' g_mod ?h ?q; (case h => with_unfolding_all first | decide | omega))
  | refine' g_rIsN ?_ | refine' g_rNotN ?_ | refine' g_max2 ?_ | refine' g_min2 ?_ | refine' g_and ?_ | refine' g_or ?_ | refine' g_orV ?_ | refine' g_andV ?_ | refine' g_notV ?_ | refine' g_m1 ?_ | refine' g_yes ?_ | refine' g_bm ?_ | refine' g_bm0 ?_
  | (refine' g_tyL ?h ?q; (case h => first | assumption | exact upd_same))
  | refine' g_m0 ?_ | refine' g_tB ?_ | refine' g_isS ?_ | refine' g_bT ?_ | refine' g_bF ?_ | refine' g_bNT ?_ | refine' g_callK ?_ | refine' g_bNF ?_
  | (refine' g_lenL ?h ?q; (case h => first | assumption | exact upd_same))
  | refine' g_un ?_ | refine' g_rint _ ?_ | refine' g_rabs ?_ | refine' g_sl ?_ 
  | (refine' g_ixL ?h ?a ?q; (case h => first | assumption | exact upd_same); (case a => with_unfolding_all rfl))
  | (refine' g_div ?h0 ?h1 ?q; (case h0 => with_unfolding_all first | decide | omega); (case h1 => with_unfolding_all first | decide | omega))
  | refine' g_sub ?_
  | (refine' g_setL ?h ?a ?q; (case h => first | assumption | exact upd_same); (case a => with_unfolding_all rfl))
  | refine' g_lst ?_ | refine' g_tup ?_
  | (refine' g_rEq ?h ?q; (case h => with_unfolding_all rfl)) | (refine' g_rNe ?h ?q; (case h => with_unfolding_all rfl)))
local macro_rules | `(tactic| walk_at "wn") => `(tactic| repeat walk_at "wn1")

/-! the bag of draws: two numbers that are not negative, the second one below 2 ^ 31 -/
def BagAt (H : Hp) (p : Addr) : Prop := ∃ a b : Int, H p = some (.lst [.int a, .int b]) ∧ 0 ≤ a ∧ 0 ≤ b ∧ b < 2147483648
def Dr (p : Addr) (H H' : Hp) : Prop := (∀ a o, a ≠ p → H a = some o → H' a = some o) ∧ BagAt H' p
theorem Dr.refl {p : Addr} {H : Hp} (b : BagAt H p) : Dr p H H := ⟨fun _ _ _ h => h, b⟩
theorem Dr.trans {p : Addr} {H H1 H2 : Hp} (a : Dr p H H1) (b : Dr p H1 H2) : Dr p H H2 := ⟨fun x o n h => b.1 x o n (a.1 x o n h), b.2⟩
theorem Dr.ex {p : Addr} {H H1 : Hp} (b : BagAt H p) (e : Ex H H1) : Dr p H H1 := ⟨fun x o _ h => e x o h, by
  obtain ⟨u, v, h, r⟩ := b
  exact ⟨u, v, e _ _ h, r⟩⟩
theorem seq_at {K : PySem.W.Frag} {H H' : Hp} {l : Addr} {xs : List V} (e : H' l = H l) (h : SqL K H l xs) : SqL K H' l xs := by
  rcases h with (h | ⟨o, h⟩) | h
  · exact .inl (.inl (e.trans h))
  · exact .inl (.inr ⟨o, e.trans h⟩)
  · exact .inr h
theorem seqT_at {K : PySem.W.Frag} {H H' : Hp} {l : Addr} {xs : List V} (e : H' l = H l) (h : SqT K H l xs) : SqT K H' l xs := by
  rcases h with (h | ⟨o, h⟩) | h
  · exact .inl (.inl (e.trans h))
  · exact .inl (.inr ⟨o, e.trans h⟩)
  · exact .inr h
structure DrawTxt (mg : Str → Option Value) : Prop where
  len : mg "len" = none
  enum : mg "enumerate" = none
  int : mg "int" = none
  abs : mg "abs" = none
def spBag (K : PySem.W.Frag) : Sp := fun vs H Q _ => ∃ (a : Addr) (ns : List Int) (i : Nat), vs = [.ref a, .int i] ∧ SqL K H a (ns.map V.int) ∧ ns.length ≤ 63 ∧ i ≤ 100 ∧
  ∀ (H' : Hp) (p : Addr), H p = none → Same H H' → BagAt H' p → Q (.ref p) H'
def spTake : Sp := fun vs H Q _ => ∃ (p : Addr) (m : Int), vs = [.ref p, .int m] ∧ BagAt H p ∧ 0 < m ∧ m < 4611686018427387904 ∧
  ∀ (k : Int) (H' : Hp), 0 ≤ k → k < m → (∀ b, b ≠ p → H' b = H b) → BagAt H' p → Q (.int k) H'
def spOf (K : PySem.W.Frag) : Sp := fun vs H Q _ => ∃ (p l : Addr) (xs : List V), vs = [.ref p, .ref l] ∧ BagAt H p ∧ SqL K H l xs ∧ l ≠ p ∧ 0 < xs.length ∧ xs.length ≤ 1000 ∧
  ∀ (k : Nat) (v : V) (H' : Hp), xs[k]? = some v → (∀ b, b ≠ p → H' b = H b) → BagAt H' p → Q v H'
section
variable {P : Program} {w : World} {K : PySem.W.Frag} {mg : Str → Option Value} {base : Heap}
theorem scBag : FnScope ["_law_script", "_law_at", "_law_cell", "_law_blend", "_law_k", "_law_each"] ["_law_script", "_law_at"] (defScope sBag) := ⟨rfl, rfl, rfl, by decide +kernel, rfl, by decide +kernel, by decide +kernel⟩
theorem okBag {f : Addr} {fd : FuncData} (F : Fun K "_law_bag" "_law_bag" sBag f fd) (T : DrawTxt mg) : FnOk P w K mg base CX0 1 f fd ["_law_script", "_law_at"] (spBag K) := by
  refine F.ok scBag (fun vs H Q E h => ?_) (fun cdv A outer s H vs Q E hr h => ?_)
  · obtain ⟨a, ns, i, rfl, _⟩ := h
    rfl
  · obtain ⟨a, ns, i, rfl, hS, hl, hi, k⟩ := h
    refine ⟨_, pss_cut (ps_set (i := 2) scBag.nd rfl (Or.inl rfl) (pe_ifExp (pt_cmpR op_lt (pv 1) (pe_callB cLenQ (by rfl) T.len PySem.boot_len (pa_cons (pv 0) pa_nil)) (nomark _)) (pe_ix ix_list (pv 0) (pv 1) (fun _ _ => rfl)) pe_int))
      (pss_cons (ps_set (i := 3) scBag.nd rfl (Or.inl rfl) (pe_op op_add (pe_op op_mul pe_int (pv 1)) pe_int))
      (pss_cut (ps_for PassesOwn.never rfl (pi_enum (by rfl) T.enum (pa_cons (pe_slice sl_list (pv 0) po_none (po_some pe_int)) pa_nil)) (pg_tup rfl (pgs_cons (pg_name (i := 4) scBag.nd rfl (Or.inl rfl)) (pgs_cons (pg_name (i := 5) scBag.nd rfl (Or.inl rfl)) pgs_nil)))
        (pss_one (ps_set (i := 3) scBag.nd rfl (Or.inl rfl) (pe_op op_mod (pe_callTy cInt1 (by rfl) T.int PyProof.Rows.boot_int (pa_cons (pe_op op_add (pe_op op_add (pe_op op_add (pe_op op_mul (pv 3) pe_int) (pe_op op_mod (pe_callTy cInt1 (by rfl) T.int PyProof.Rows.boot_int (pa_cons (pv 5) pa_nil)) pe_int)) (pe_op op_mul pe_int (pv 4))) pe_int) pa_nil)) pe_int))))
      (pss_one (ps_ret (pe_lst (pa_cons (pe_ifExp (pt_cmpR op_ge (pe_callB cAbs (by rfl) T.abs (by decide +kernel) (pa_cons (pv 2) pa_nil)) (pe_op op_pow pe_int pe_int) (nomark _)) (pe_callB cAbs (by rfl) T.abs (by decide +kernel) (pa_cons (pv 2) pa_nil)) pe_int) (pa_cons (pv 3) pa_nil))))))), ?_⟩
    refine ⟨fun σ' H' => ∃ c : Int, σ' = [some (.ref a), some (.int i), some (.int c), none, none, none] ∧ H' = H, ?_, ?_⟩
    · walk_at "wn"
      refine ⟨a, _, rfl, .inl hS, ?_⟩
      walk_at "wn"
      refine ite2 (fun hc => ?_) (fun hc => ?_)
      · have hlt : i < (ns.map V.int).length := by have := of_decide_eq_true hc; omega
        rw [List.length_map] at hlt
        walk_at "wn"
        refine ⟨a, _, _, _, rfl, rfl, hS, atI_nat (v := V.int (ns[i])) (by rw [List.getElem?_map, List.getElem?_eq_getElem hlt]; rfl), ?_⟩
        exact ⟨_, rfl, rfl⟩
      · exact ⟨0, rfl, rfl⟩
    · rintro σ' H' ⟨c, rfl, rfl⟩
      walk_at "wn"
      refine ⟨fun σ' H2 => ∃ (b : Int) (u v : Option V), 0 ≤ b ∧ b < 2147483648 ∧ σ' = [some (.ref a), some (.int i), some (.int c), some (.int b), u, v] ∧ Same H' H2, ?_, ?_⟩
      · show tSl _ _ _ _ _ _ _
        walk_at "wn"
        refine ⟨a, _, rfl, hS, fun p hp => ?_⟩
        walk_at "wn"
        refine ⟨p, _, rfl, SqL.of upd_same, ?_⟩
        refine for_it (walk_enum (xs := cutV (ns.map V.int) none (some 40))) (fun j σ' H3 => ∃ (b : Int) (u v : Option V), 0 ≤ b ∧ b < 2147483648 ∧ σ' = [some (.ref a), some (.int i), some (.int c), some (.int b), u, v] ∧ Same (upd H' p (.lst (cutV (ns.map V.int) none (some 40)))) H3) ?_ ?_ ?_ ?_
        · exact ⟨_, none, none, by omega, by omega, rfl, Same.refl _⟩
        · rintro j σ' H3 hj ⟨b, u, v, b0, b1, rfl, sm⟩
          exact sm.seq (SqL.of upd_same)
        · rintro j x σ' H3 H4 hj ⟨b, u, v, b0, b1, rfl, sm⟩ ⟨T1, x1, y1, rfl, nT, rfl, hx, hy⟩
          obtain rfl := Option.some.inj hx
          obtain ⟨z, rfl⟩ : ∃ z, y1 = V.int z := by
            have q : y1 ∈ ns.map V.int := List.mem_of_mem_drop (List.mem_of_mem_take (List.mem_of_getElem? hy))
            obtain ⟨z, _, e⟩ := List.mem_map.mp q
            exact ⟨z, e.symm⟩
          refine ⟨T1, _, rfl, SqT.of upd_same, rfl, _, _, rfl, ?_⟩
          walk_at "wn"
          refine ⟨_, _, rfl, ?_⟩
          walk_at "wn"
          refine ⟨rfl, ?_⟩
          walk_at "wn"
          refine ⟨_, _, _, by omega, by omega, rfl, fun x o hx => ?_⟩
          rw [upd_ne (ne_of_none (sm _ _ hx) nT)]
          exact sm _ _ hx
        · rintro σ' H3 ⟨b, u, v, b0, b1, rfl, sm⟩
          exact ⟨b, u, v, b0, b1, rfl, fun x o hx => sm _ _ (by rw [upd_ne (ne_of_none hx hp)]; exact hx)⟩
      · rintro σ' H2 ⟨b, u, v, b0, b1, rfl, sm⟩
        walk_at "wn"
        refine g_rI ⟨by decide, by decide, by decide⟩ ?_
        walk_at "wn"
        have fin : ∀ z : Int, 0 ≤ z → ([V.int z, V.int b].length ≤ sizeLine ∧ ∀ p, H2 p = none → Q (V.ref p) (upd H2 p (HO.lst [V.int z, V.int b]))) := fun z hz => ⟨by show 2 ≤ sizeLine; decide, fun p hp => k _ p (sm.free hp) (fun x o hx => by
          rw [upd_ne (ne_of_none (sm _ _ hx) hp)]
          exact sm _ _ hx) ⟨z, b, upd_same, hz, b0, b1⟩⟩
        refine ite2 (fun hc => ?_) (fun hc => ?_)
        · walk_at "wn"
          exact fin _ (by split <;> omega)
        · walk_at "wn"
          exact fin 0 (by decide)
theorem scTake : FnScope ["_law_bag_here", "_law_many", "_law_digit"] ["_law_bag_here", "_law_many"] (defScope sTake) := ⟨rfl, rfl, rfl, by decide +kernel, rfl, by decide +kernel, by decide +kernel⟩
theorem okTake {f : Addr} {fd : FuncData} (F : Fun K "_law_take" "_law_take" sTake f fd) (T : DrawTxt mg) : FnOk P w K mg base CX0 1 f fd ["_law_bag_here", "_law_many"] spTake := by
  refine F.ok scTake (fun vs H Q E h => ?_) (fun cdv A outer s H vs Q E hr h => ?_)
  · obtain ⟨a, m, rfl, _⟩ := h
    rfl
  · obtain ⟨p, m, rfl, ⟨a, b, hp, a0, b0, b1⟩, m0, m1, k⟩ := h
    refine ⟨_, pss_cons (ps_if (pt_cmpR op_gt (pe_ix ix_list (pv 0) pe_int (fun _ _ => rfl)) pe_int (nomark _))
        (pss_cons (ps_set (i := 2) scTake.nd rfl (Or.inl rfl) (pe_op op_mod (pe_callTy cInt1 (by rfl) T.int PyProof.Rows.boot_int (pa_cons (pe_ix ix_list (pv 0) pe_int (fun _ _ => rfl)) pa_nil)) (pv 1)))
        (pss_cons (ps_asg (pe_op op_fdivW (pe_ix ix_list (pv 0) pe_int (fun _ _ => rfl)) (pv 1)) (pg_sub (pv 0) pe_int set_list))
        (pss_one (ps_ret (pv 2))))) pss_nil)
      (pss_cons (ps_asg (pe_op op_mod (pe_callTy cInt1 (by rfl) T.int PyProof.Rows.boot_int (pa_cons (pe_op op_add (pe_op op_mul (pe_ix ix_list (pv 0) pe_int (fun _ _ => rfl)) pe_int) pe_int) pa_nil)) pe_int) (pg_sub (pv 0) pe_int set_list))
      (pss_one (ps_ret (pe_op op_mod (pe_op op_fdivW (pe_op op_mod (pe_callTy cInt1 (by rfl) T.int PyProof.Rows.boot_int (pa_cons (pe_op op_mul (pe_op op_fdivW (pe_ix ix_list (pv 0) pe_int (fun _ _ => rfl)) pe_int) pe_int) pa_nil)) pe_int) pe_int) (pv 1))))), ?_⟩
    walk_at "wn"
    refine ite2 (fun hc => ?_) (fun hc => ?_)
    · walk_at "wn"
      refine k _ _ (Int.emod_nonneg _ (by omega)) (Int.emod_lt_of_pos _ m0) (fun x hx => upd_ne hx) ⟨_, _, upd_same, Int.ediv_nonneg a0 (by omega), b0, b1⟩
    · walk_at "wn"
      refine k _ _ (Int.emod_nonneg _ (by omega)) (Int.emod_lt_of_pos _ m0) (fun x hx => upd_ne hx) ⟨_, _, upd_same, a0, by omega, by omega⟩
theorem scOf : FnScope ["_law_bag_here", "_law_some"] ["_law_bag_here", "_law_some"] (defScope sOf) := ⟨rfl, rfl, rfl, by decide +kernel, rfl, by decide +kernel, by decide +kernel⟩
theorem okOf {f fT : Addr} {fd fdT : FuncData} (F : Fun K "_law_of" "_law_of" sOf f fd) (T : DrawTxt mg) (FT : Fun K "_law_take" "_law_take" sTake fT fdT) (gT : mg "_law_take" = some (.ref fT)) (bT : Binds K fdT ["_law_bag_here", "_law_many"] []) : FnOk P w K mg base CX0 2 f fd ["_law_bag_here", "_law_some"] (spOf K) := by
  have GT : FnOk P w K mg base CX0 1 fT fdT ["_law_bag_here", "_law_many"] spTake := okTake FT T
  refine F.ok scOf (fun vs H Q E h => ?_) (fun cdv A outer s H vs Q E hr h => ?_)
  · obtain ⟨a, l, xs, rfl, _⟩ := h
    rfl
  · obtain ⟨p, l, xs, rfl, hb, hx, hl, l0, l1, k⟩ := h
    refine ⟨_, pss_one (ps_ret (pe_ix ix_seq (pv 1) (pe_call GT hr (by rfl) gT FT.kp bT .nil pass0 (pa_cons (pv 0) (pa_cons (pe_callB cLenQ (by rfl) T.len PySem.boot_len (pa_cons (pv 1) pa_nil)) pa_nil))) (fun _ _ => rfl))), ?_⟩
    walk_at "wn"
    refine ⟨l, xs, rfl, .inl hx, ?_⟩
    walk_at "wn"
    refine ⟨p, _, rfl, hb, by omega, by omega, fun i H1 i0 i1 he hb1 => ?_⟩
    obtain ⟨j, rfl⟩ := Int.eq_ofNat_of_zero_le i0
    have hj : j < xs.length := by omega
    exact .inl ⟨l, xs, _, xs[j], rfl, rfl, seq_at (he l hl) hx, atI_nat (List.getElem?_eq_getElem hj), k j _ H1 (List.getElem?_eq_getElem hj) he hb1⟩
end

def clsBody : Stmt → List Stmt
  | .ClassDef _ _ _ b _ _ _ _ _ _ _ => b
  | _ => []
def meth (i j : Nat) : Stmt := (clsBody (top i)).getD j (.Pass ⟨0, 0, 0, 0⟩)
abbrev sIsInteger : Stmt := top 11
abbrev sIsBetween : Stmt := top 12
/-! own __contains__ -/
def rOwnNotIn (C : Addr) (sp : Sp) : R2 := fun x y H Q => ∃ a dx fs, y = .ref a ∧ H a = some (.ins C dx fs) ∧ sp [.ref a, x] H (fun v H' => ∃ b, v = .bl b ∧ Q (.bl (!b)) H') fun _ _ _ => False
theorem op_ownNotIn {X : Cx} {CX : CXT} {k : Nat} {C f : Addr} {fd : FuncData} {ps : List Str} {sp : Sp} (F : FnOk X.prog X.w X.K X.mg X.base CX k f fd ps sp) (hr : Room k X.A)
    (hs : PySem.W.findIn X.K (.ref C) "__contains__" = some (some (.ref f))) (hf : PySem.W.isFn X.K (.ref f) = true) (hb : Binds X.K fd ps []) (hx : Passes CX X fun _ _ _ => False) : OpR X (compareOp .NotIn) (rOwnNotIn C sp) := by
  intro pins s σ H x y v u Q I rx ry d
  obtain ⟨a, dx, fs, rfl, ha, hsp⟩ := d
  cases ry
  obtain ⟨mA, J, _⟩ := ins_get I.hok ha
  obtain ⟨od, J, _⟩ := J.look
  obtain ⟨m, hF⟩ := I.fr
  refine PySem.W.notIn_K hF I.ok.mod.kin J hs hf ?_
  have hl := F.len _ _ _ _ hsp
  have r2 : Vals [V.ref a, x] [Value.ref a, v] := .cons rfl (.cons rx .nil)
  refine wpAny_call (codeAny_mono (F.run X.A X.stack s H ⟨[.ref a, v], []⟩ [.ref a, v] [.ref a, x] _ _ hr I.env0 (by
    have := hb s [.ref a, v] I.kIn (by simpa using hl)
    simpa using this) r2 hsp) fun r s' hq => ?_)
  cases r with
  | error e => exact hx pins σ H s e s' I hq
  | ok fl =>
    cases fl with
    | ret w =>
      obtain ⟨z, H', I', rz, b, ez, q⟩ := I.after hq
      subst ez
      cases rz
      exact wpAny_truthy_bool ⟨.bl (!b), H', I', rfl, q⟩
    | next => exact False.elim hq
    | brk => exact False.elim hq
    | cont => exact False.elim hq
section
variable {P : Program} {w : World} {K : PySem.W.Frag} {mg : Str → Option Value} {base : Heap}
structure ChkTxt (K : PySem.W.Frag) (mg : Str → Option Value) : Prop where
  isin : mg "isinstance" = none
  int : mg "int" = none
  bool : mg "bool" = none
def spIsInteger : Sp := fun vs H Q _ => ∃ i : Int, vs = [.int i] ∧ Q (.bl true) H
theorem scIsInteger : FnScope ["x"] ["x"] (defScope sIsInteger) := ⟨rfl, rfl, rfl, by decide +kernel, rfl, by decide +kernel, by decide +kernel⟩
theorem okIsInteger {f : Addr} {fd : FuncData} (F : Fun K "is_integer" "is_integer" sIsInteger f fd) (T : ChkTxt K mg) : FnOk P w K mg base CX0 1 f fd ["x"] spIsInteger := by
  refine F.ok scIsInteger (fun vs H Q E h => ?_) (fun cdv A outer s H vs Q E hr h => ?_)
  · obtain ⟨x, rfl, _⟩ := h
    rfl
  · obtain ⟨i, rfl, k⟩ := h
    refine ⟨_, pss_one (ps_ret (pe_and (pe_callB call_isi (by rfl) T.isin PyProof.Rows.boot_isinstance (pa_cons (pv 0) (pa_cons (pe_bltn (v := .ty "int") (by rfl) T.int PyProof.Rows.boot_int rfl) pa_nil))) (pe_one (pe_not (pe_callB call_isi (by rfl) T.isin PyProof.Rows.boot_isinstance (pa_cons (pv 0) (pa_cons (pe_bltn (v := .ty "bool") (by rfl) T.bool (by decide +kernel) rfl) pa_nil))))))), ?_⟩
    refine ⟨_, rfl, _, _, _, _, true, rfl, .ty "int", .base (.int i), kit_ty (by decide +kernel), ?_⟩
    refine ⟨_, rfl, _, rfl, _, _, _, _, false, rfl, .ty "bool", .base (.int i), kit_ty (by decide +kernel), ?_⟩
    exact ⟨_, rfl, k⟩
def spIsBetween : Sp := fun vs H Q _ => ∃ i a b : Int, vs = [.int i, .int a, .int b] ∧ Q (.bl (decide (a ≤ i) && decide (i ≤ b))) H
theorem scIsBetween : FnScope ["x", "least", "most"] ["x", "least", "most"] (defScope sIsBetween) := ⟨rfl, rfl, rfl, by decide +kernel, rfl, by decide +kernel, by decide +kernel⟩
theorem okIsBetween {f fI : Addr} {fd fdI : FuncData} (F : Fun K "is_between" "is_between" sIsBetween f fd) (GI : FnOk P w K mg base CX0 1 fI fdI ["x"] spIsInteger) (kI : PySem.W.keepIn K (.ref fI) = true) (gI : mg "is_integer" = some (.ref fI)) (bI : Binds K fdI ["x"] []) :
    FnOk P w K mg base CX0 2 f fd ["x", "least", "most"] spIsBetween := by
  refine F.ok scIsBetween (fun vs H Q E h => ?_) (fun cdv A outer s H vs Q E hr h => ?_)
  · obtain ⟨x, y, z, rfl, _⟩ := h
    rfl
  · obtain ⟨i, a, b, rfl, k⟩ := h
    refine ⟨_, pss_one (ps_ret (pe_and (pe_call GI hr (by rfl) gI kI bI .nil pass0 (pa_cons (pv 0) pa_nil)) (pe_one (pe_chain op_le op_le (pv 1) (pv 0) (pv 2))))), ?_⟩
    walk_at "wn"
    refine ⟨i, rfl, ?_⟩
    walk_at "wn"
    refine ⟨_, rfl, _, rfl, a, i, rfl, rfl, _, rfl, ?_⟩
    refine ite2 (fun hc => ?_) (fun hc => ?_)
    · rw [hc, Bool.true_and] at k
      exact ⟨_, rfl, i, b, rfl, rfl, k⟩
    · rw [Bool.eq_false_iff.mpr hc, Bool.false_and] at k
      exact k
end

/-! the classes of the program -/
structure ClsF (K : PySem.W.Frag) (C : Addr) (fs : List Str) : Prop where
  cl : Cls K C
  no : ∀ f ∈ fs, NoAttr K C f
abbrev sWsInit : Stmt := meth 15 0
abbrev wsF : List Str := ["entries", "queue"]
def wsO (C dx e q : Addr) : HO := .ins C dx [("entries", .ref e), ("queue", .ref q)]
abbrev sysF : List Str := ["process_limit", "number_limit", "tables", "sources", "sets", "next_thing"]
theorem Same.new' {H : Hp} {l : Addr} {o : HO} (hl : H l = none) : Same H (upd H l o) := fun b u e => by rw [upd_ne (ne_of_none e hl)]; exact e
def entKV (ls : List Int) (ad : Int → Addr) : List (Key × V) := ls.map fun l => (Sum.inl l, .ref (ad l))
theorem ent_val (ls : List Int) (ad : Int → Addr) (l : Int) : valV (entKV ls ad) (Sum.inl l) = if l ∈ ls then some (.ref (ad l)) else none := by
  induction ls with
  | nil => rfl
  | cons x ls ih =>
    unfold entKV at ih ⊢
    rw [List.map_cons]
    by_cases h : x = l
    · subst h
      rw [valV_pos rfl, if_pos List.mem_cons_self]
    · rw [valV_neg (fun z => h (Sum.inl.inj z)), ih]
      by_cases h2 : l ∈ ls
      · rw [if_pos h2, if_pos (List.mem_cons_of_mem _ h2)]
      · rw [if_neg h2, if_neg fun z => (List.mem_cons.mp z).elim (fun e => h e.symm) h2]
theorem ent_put (ls : List Int) (ad : Int → Addr) (l : Int) (b : Addr) : putK (entKV ls ad) (Sum.inl l) (.ref b) = entKV (if l ∈ ls then ls else ls ++ [l]) (fun j => if j = l then b else ad j) := by
  unfold putK
  rw [valV_any, ent_val]
  by_cases h : l ∈ ls
  · rw [if_pos h, if_pos h]
    show List.map _ (entKV ls ad) = _
    unfold entKV
    rw [List.map_map]
    refine List.map_congr_left fun x _ => ?_
    by_cases e : x = l
    · show (if (Sum.inl x : Key) = Sum.inl l then _ else _) = _
      rw [if_pos (by rw [e])]
      show (_, V.ref b) = (_, V.ref (if x = l then b else ad x))
      rw [if_pos e]
    · show (if (Sum.inl x : Key) = Sum.inl l then _ else _) = _
      rw [if_neg (fun z => e (Sum.inl.inj z))]
      show _ = (_, V.ref (if x = l then b else ad x))
      rw [if_neg e]
  · rw [if_neg h, if_neg h]
    show entKV ls ad ++ _ = _
    unfold entKV
    rw [List.map_append]
    have e1 : ls.map (fun j => ((Sum.inl j : Key), V.ref (if j = l then b else ad j))) = ls.map fun j => (Sum.inl j, V.ref (ad j)) := List.map_congr_left fun x hx => by rw [if_neg fun z : x = l => h (by rw [← z]; exact hx)]
    rw [e1]
    congr 1
    show [(_, V.ref b)] = [(_, V.ref (if l = l then b else ad l))]
    rw [if_pos rfl]
section
variable {P : Program} {w : World} {K : PySem.W.Frag} {mg : Str → Option Value} {base : Heap} {CW : Addr}
def spWsInit (CW : Addr) : Sp := fun vs H Q _ => ∃ (a dx : Addr), vs = [.ref a] ∧ H a = some (.ins CW dx []) ∧
  ∀ H' e q, H e = none → H q = none → H' e = some (.dK []) → H' q = some (.lst []) → H' a = some (wsO CW dx e q) → (∀ b, b ≠ a → b ≠ e → b ≠ q → H' b = H b) → Q .non H'
theorem scWsInit : FnScope ["self"] ["self"] (defScope sWsInit) := ⟨rfl, rfl, rfl, by decide +kernel, rfl, by decide +kernel, by decide +kernel⟩
theorem okWsInit {f : Addr} {fd : FuncData} (F : Fun K "__init__" "WaitingSet.__init__" sWsInit f fd) (T : ClsF K CW wsF) : FnOk P w K mg base CX0 1 f fd ["self"] (spWsInit CW) := by
  refine F.ok scWsInit (fun vs H Q E h => ?_) (fun cdv A outer s H vs Q E hr h => ?_)
  · obtain ⟨_, _, rfl, _⟩ := h
    rfl
  · obtain ⟨a, dx, rfl, ha, k⟩ := h
    refine ⟨_, pss_cons (ps_fld (pv 0) pe_dnewK rfl) (pss_one (ps_fld (pv 0) (pe_lst pa_nil) rfl)), ?_⟩
    intro e he
    have nae : a ≠ e := ne_of_none ha he
    refine ⟨_, rfl, a, CW, dx, _, rfl, by rw [upd_ne nae]; exact ha, T.cl, T.no _ (by decide), by decide, ?_⟩
    refine ⟨Nat.zero_le _, fun q hq => ?_⟩
    have nqa : q ≠ a := fun z => by rw [z, upd_same] at hq; cases hq
    rw [upd_ne nqa] at hq
    have nqe : q ≠ e := fun z => by rw [z, upd_same] at hq; cases hq
    rw [upd_ne nqe] at hq
    refine ⟨_, rfl, a, CW, dx, _, rfl, by rw [upd_ne (Ne.symm nqa)]; exact upd_same, T.cl, T.no _ (by decide), by show 1 < 1000; decide, ?_⟩
    refine k _ e q he hq ?_ ?_ upd_same (fun b h1 h2 h3 => ?_)
    · rw [upd_ne (Ne.symm nae), upd_ne (Ne.symm nqe), upd_ne (Ne.symm nae), upd_same]
    · rw [upd_ne nqa, upd_same]
    · rw [upd_ne h1, upd_ne h3, upd_ne h1, upd_ne h2]
end

abbrev sSysInit : Stmt := meth 19 2
abbrev sNewSource : Stmt := meth 19 4
abbrev sContains : Stmt := meth 19 30
abbrev sTableOf : Stmt := meth 19 32
abbrev sIsTabNum : Stmt := meth 19 33
abbrev sThingAt : Stmt := meth 19 34
abbrev sFreeNum : Stmt := meth 19 37
abbrev sNewThing : Stmt := meth 19 39
/-! a system, its cells and what stands in them -/
inductive Cell
  | box | tabD | srcD | setD
  | tab (p : Int) | srcT (t : Int) | ws (s : Int) | ent (s : Int) | que (s : Int)
  deriving DecidableEq
structure Sys where
  P : Int
  N : Int
  next : Int
  procs : List Int
  tab : Int → List (Option Int)
  srcs : List Int
  unit : Int → Int × Bool
  sets : List Int
def live (S : Sys) : Cell → Prop
  | .box | .tabD | .srcD | .setD => True
  | .tab p => p ∈ S.procs
  | .srcT t => t ∈ S.srcs
  | .ws s | .ent s | .que s => s ∈ S.sets
def optV : Option Int → V
  | none => .non
  | some t => .int t
def sysO (CS dx : Addr) (S : Sys) (t s u : Addr) : HO := .ins CS dx [("process_limit", .int S.P), ("number_limit", .int S.N), ("tables", .ref t), ("sources", .ref s), ("sets", .ref u), ("next_thing", .int S.next)]
structure Cs where
  S : Addr
  W : Addr
def co (C : Cs) (S : Sys) (ad dx : Cell → Addr) : Cell → HO
  | .box => sysO C.S (dx .box) S (ad .tabD) (ad .srcD) (ad .setD)
  | .tabD => .dK (entKV S.procs fun p => ad (.tab p))
  | .srcD => .dK (entKV S.srcs fun t => ad (.srcT t))
  | .setD => .dK (entKV S.sets fun s => ad (.ws s))
  | .tab p => .lst ((S.tab p).map optV)
  | .srcT t => .tup [.int (S.unit t).1, .bl (S.unit t).2]
  | .ws s => wsO C.W (dx (.ws s)) (ad (.ent s)) (ad (.que s))
  | .ent _ => .dK []
  | .que _ => .lst []
structure At (C : Cs) (H : Hp) (S : Sys) (ad dx : Cell → Addr) : Prop where
  at_ : ∀ c, live S c → H (ad c) = some (co C S ad dx c)
  inj : ∀ c c', live S c → live S c' → ad c = ad c' → c = c'
def own (S : Sys) (ad : Cell → Addr) (b : Addr) : Prop := ∃ c, live S c ∧ ad c = b
/-- what lies outside stays; what comes in is new -/
structure Step (H : Hp) (S : Sys) (ad : Cell → Addr) (H' : Hp) (S' : Sys) (ad' : Cell → Addr) : Prop where
  keep : ∀ b o, ¬ own S ad b → H b = some o → H' b = some o
  new : ∀ b, own S' ad' b → own S ad b ∨ H b = none
  box : ad' .box = ad .box
section
variable {C : Cs} {H H' H2 : Hp} {S S' S2 : Sys} {ad ad' ad2 dx dx' : Cell → Addr}
theorem Step.refl : Step H S ad H S ad := ⟨fun _ _ _ z => z, fun _ z => .inl z, rfl⟩
theorem Step.trans (a : Step H S ad H' S' ad') (b : Step H' S' ad' H2 S2 ad2) : Step H S ad H2 S2 ad2 := by
  refine ⟨fun x o n e => b.keep x o (fun z => ?_) (a.keep x o n e), fun x z => ?_, b.box.trans a.box⟩
  · rcases a.new x z with y | y
    · exact n y
    · rw [y] at e
      cases e
  · rcases b.new x z with y | y
    · exact a.new x y
    · cases e : H x with
      | none => exact .inr rfl
      | some o =>
        by_cases w : own S ad x
        · exact .inl w
        · rw [a.keep x o w e] at y
          cases y
theorem Step.same (s : Same H H') : Step H S ad H' S ad := ⟨fun b o _ e => s _ _ e, fun _ z => .inl z, rfl⟩
theorem At.same (A : At C H S ad dx) (s : Same H H') : At C H' S ad dx := ⟨fun c hc => s _ _ (A.at_ c hc), A.inj⟩
theorem At.ne (A : At C H S ad dx) {c c' : Cell} (h : live S c) (h' : live S c') (n : c ≠ c') : ad c ≠ ad c' := fun z => n (A.inj c c' h h' z)
theorem At.new (A : At C H S ad dx) {c : Cell} {l : Addr} (h : live S c) (n : H l = none) : ad c ≠ l := ne_of_none (A.at_ c h) n
/-- where the cells' addresses stay -/
theorem At.re (A : At C H S ad dx) (hl : ∀ c, live S' c ↔ live S c) (h : ∀ c, live S c → (H' (ad c) = some (co C S' ad dx c)) ∨ (co C S' ad dx c = co C S ad dx c ∧ H' (ad c) = H (ad c))) : At C H' S' ad dx := by
  refine ⟨fun c hc => ?_, fun c c' h1 h2 => A.inj c c' ((hl c).mp h1) ((hl c').mp h2)⟩
  have hc := (hl c).mp hc
  rcases h c hc with e | ⟨e1, e2⟩
  · exact e
  · rw [e1, e2]
    exact A.at_ c hc
theorem Step.re (hl : ∀ c, live S' c ↔ live S c) (h : ∀ b o, ¬ own S ad b → H b = some o → H' b = some o) : Step H S ad H' S' ad := ⟨h, fun b ⟨c, h1, h2⟩ => .inl ⟨c, (hl c).mp h1, h2⟩, rfl⟩
end
section
variable {P : Program} {w : World} {K : PySem.W.Frag} {mg : Str → Option Value} {base : Heap} {C : Cs}
structure MO (P : Program) (w : World) (K : PySem.W.Frag) (mg : Str → Option Value) (base : Heap) (k : Nat) (C : Addr) (m : Str) (ps : List Str) (sp : Sp) (f : Addr) (fd : FuncData) : Prop where
  g : FnOk P w K mg base CX0 k f fd ps sp
  m : Meth K C m f
  b : Binds K fd ps []
structure DO (P : Program) (w : World) (K : PySem.W.Frag) (mg : Str → Option Value) (base : Heap) (k : Nat) (x : Str) (ps : List Str) (sp : Sp) (f : Addr) (fd : FuncData) : Prop where
  g : FnOk P w K mg base CX0 k f fd ps sp
  k : PySem.W.keepIn K (.ref f) = true
  m : mg x = some (.ref f)
  b : Binds K fd ps []
/-- a call on a system -/
def OnSys (C : Cs) (vs : List V) (H : Hp) (rest : List V) (k : Sys → (Cell → Addr) → (Cell → Addr) → Prop) : Prop := ∃ (S : Sys) (ad dx : Cell → Addr), vs = .ref (ad .box) :: rest ∧ At C H S ad dx ∧ k S ad dx
def spContains (C : Cs) : Sp := fun vs H Q _ => ∃ p : Int, OnSys C vs H [.int p] fun S _ _ => Q (.bl (decide (p ∈ S.procs))) H
theorem scContains : FnScope ["self", "x"] ["self", "x"] (defScope sContains) := ⟨rfl, rfl, rfl, by decide +kernel, rfl, by decide +kernel, by decide +kernel⟩
theorem okContains {f fI : Addr} {fd fdI : FuncData} (F : Fun K "__contains__" "System.__contains__" sContains f fd) (T : ClsF K C.S sysF) (GI : DO P w K mg base 1 "is_integer" ["x"] spIsInteger fI fdI) : FnOk P w K mg base CX0 2 f fd ["self", "x"] (spContains C) := by
  refine F.ok scContains (fun vs H Q E h => ?_) (fun cdv A outer s H vs Q E hr h => ?_)
  · obtain ⟨_, _, _, _, rfl, _⟩ := h
    rfl
  · obtain ⟨p, S, ad, dx, rfl, A0, k⟩ := h
    have hu := hu_of hr
    refine ⟨_, pss_one (ps_ret (pe_and (pe_call GI.g hr (by rfl) GI.m GI.k GI.b .nil pass0 (pa_cons (pv 1) pa_nil)) (pe_one (pe_cmp (pc_din hu (pv 1) (pe_fld (pv 0) rfl)) rfl)))), ?_⟩
    walk_at "wn"
    refine ⟨p, rfl, ?_⟩
    walk_at "wn"
    refine ⟨_, rfl, _, rfl, ad .box, C.S, dx .box, _, _, rfl, A0.at_ .box trivial, T.cl, T.no _ (by decide), rfl, ?_⟩
    refine ⟨ad .tabD, _, rfl, DGet.k (k := Sum.inl p) (A0.at_ .tabD trivial), ?_⟩
    rw [ent_val]
    by_cases hp : p ∈ S.procs
    · rw [if_pos hp]
      rw [decide_eq_true hp] at k
      exact k
    · rw [if_neg hp]
      rw [decide_eq_false hp] at k
      exact k
def spTableOf (C : Cs) : Sp := fun vs H Q _ => ∃ p : Int, OnSys C vs H [.int p] fun S ad _ => p ∈ S.procs ∧ Q (.ref (ad (.tab p))) H
theorem scTableOf : FnScope ["self", "process"] ["self", "process"] (defScope sTableOf) := ⟨rfl, rfl, rfl, by decide +kernel, rfl, by decide +kernel, by decide +kernel⟩
theorem okTableOf {f fC : Addr} {fd fdC : FuncData} (F : Fun K "table_of" "System.table_of" sTableOf f fd) (T : ClsF K C.S sysF) (GC : MO P w K mg base 2 C.S "__contains__" ["self", "x"] (spContains C) fC fdC) : FnOk P w K mg base CX0 3 f fd ["self", "process"] (spTableOf C) := by
  refine F.ok scTableOf (fun vs H Q E h => ?_) (fun cdv A outer s H vs Q E hr h => ?_)
  · obtain ⟨_, _, _, _, rfl, _⟩ := h
    rfl
  · obtain ⟨p, S, ad, dx, rfl, A0, hp, k⟩ := h
    have hu := hu_of hr
    refine ⟨_, pss_cons (ps_if (pt_cmpR (op_ownNotIn GC.g hr GC.m.at_ GC.m.fn GC.b pass0) (pv 1) (pv 0) (by rfl)) (pss_one ps_never) pss_nil)
      (pss_one (ps_ret (pe_dget hu (pe_fld (pv 0) rfl) (pv 1) (fun _ _ => rfl)))), ?_⟩
    walk_at "wn"
    refine ⟨ad .box, dx .box, _, rfl, A0.at_ .box trivial, p, S, ad, dx, rfl, A0, _, rfl, ?_⟩
    rw [decide_eq_true hp]
    walk_at "wn"
    refine ⟨_, rfl, ad .box, C.S, dx .box, _, _, rfl, A0.at_ .box trivial, T.cl, T.no _ (by decide), rfl, ?_⟩
    have hv : valV (entKV S.procs fun p => ad (.tab p)) (Sum.inl p) = some (.ref (ad (.tab p))) := by rw [ent_val, if_pos hp]
    exact ⟨_, rfl, ad .tabD, _, rfl, hv ▸ DGet.k (k := Sum.inl p) (A0.at_ .tabD trivial), k⟩
def spIsTabNum (C : Cs) : Sp := fun vs H Q _ => ∃ n : Int, OnSys C vs H [.int n] fun S _ _ => Q (.bl (decide (0 ≤ n) && decide (n ≤ S.N - 1))) H
theorem scIsTabNum : FnScope ["self", "number"] ["self", "number"] (defScope sIsTabNum) := ⟨rfl, rfl, rfl, by decide +kernel, rfl, by decide +kernel, by decide +kernel⟩
theorem okIsTabNum {f fB : Addr} {fd fdB : FuncData} (F : Fun K "is_table_number" "System.is_table_number" sIsTabNum f fd) (T : ClsF K C.S sysF) (GB : DO P w K mg base 2 "is_between" ["x", "least", "most"] spIsBetween fB fdB) : FnOk P w K mg base CX0 3 f fd ["self", "number"] (spIsTabNum C) := by
  refine F.ok scIsTabNum (fun vs H Q E h => ?_) (fun cdv A outer s H vs Q E hr h => ?_)
  · obtain ⟨_, _, _, _, rfl, _⟩ := h
    rfl
  · obtain ⟨n, S, ad, dx, rfl, A0, k⟩ := h
    refine ⟨_, pss_one (ps_ret (pe_call GB.g hr (by rfl) GB.m GB.k GB.b .nil pass0 (pa_cons (pv 1) (pa_cons pe_int (pa_cons (pe_op op_sub (pe_fld (pv 0) rfl) pe_int) pa_nil))))), ?_⟩
    walk_at "wn"
    refine ⟨_, rfl, ad .box, C.S, dx .box, _, _, rfl, A0.at_ .box trivial, T.cl, T.no _ (by decide), rfl, ?_⟩
    walk_at "wn"
    exact ⟨n, 0, S.N - 1, rfl, k⟩
/-- a number that means a thing -/
structure Means (S : Sys) (p n t : Int) : Prop where
  pr : p ∈ S.procs
  lo : 0 ≤ n
  hi : n ≤ S.N - 1
  at_ : (S.tab p)[n.toNat]? = some (some t)
/-! free_number -/
def firstFree (t : List (Option Int)) (n : Nat) : Prop := t[n]? = some none ∧ ∀ i, i < n → ∃ x, t[i]? = some (some x)
structure SysTxt (mg : Str → Option Value) : Prop where
  enum : mg "enumerate" = none
  list : mg "list" = none
  min : mg "min" = none
end

section
variable {C : Cs} {H H' H2 : Hp} {S S' S2 : Sys} {ad ad' ad2 dx dx' : Cell → Addr}
/-- some cells are written, made or stand elsewhere; the others stay -/
theorem At.re3 (ch : List Cell) (A : At C H S ad dx) (hl : ∀ c, live S' c → c ∈ ch ∨ live S c) (h1 : ∀ c ∈ ch, live S' c → H' (ad' c) = some (co C S' ad' dx' c)) (h2 : ∀ c, c ∉ ch → live S c → ad' c = ad c ∧ co C S' ad' dx' c = co C S ad dx c)
    (fresh : ∀ c ∈ ch, live S' c → (ad' c = ad c ∧ live S c) ∨ H (ad' c) = none) (dist : ∀ c ∈ ch, ∀ c' ∈ ch, live S' c → live S' c' → H (ad' c) = none → ad' c = ad' c' → c = c')
    (k : ∀ b o, (∀ c ∈ ch, live S c → b ≠ ad c) → H b = some o → H' b = some o) (box : ad' .box = ad .box) : At C H' S' ad' dx' ∧ Step H S ad H' S' ad' := by
  have out : ∀ c, c ∉ ch → live S' c → live S c := fun c hc l => (hl c l).resolve_left hc
  have keep : ∀ c, c ∉ ch → live S c → H' (ad c) = H (ad c) := fun c hc l => by
    rw [A.at_ c l]
    exact k _ _ (fun c' hc' l' z => hc (by rw [A.inj c c' l l' z]; exact hc')) (A.at_ c l)
  refine ⟨⟨fun c l => ?_, fun c c' l l' z => ?_⟩, ⟨fun b o n e => k b o (fun c hc lc z => n ⟨c, lc, z.symm⟩) e, fun b ⟨c, l, e⟩ => ?_, box⟩⟩
  · by_cases hc : c ∈ ch
    · exact h1 c hc l
    · have ls := out c hc l
      obtain ⟨e1, e2⟩ := h2 c hc ls
      rw [e1, e2, keep c hc ls]
      exact A.at_ c ls
  · have some_ : ∀ c, c ∉ ch → live S' c → H (ad' c) ≠ none := fun c hc l z => by
      have ls := out c hc l
      rw [(h2 c hc ls).1, A.at_ c ls] at z
      cases z
    by_cases hc : c ∈ ch
    · by_cases hc' : c' ∈ ch
      · rcases fresh c hc l with f | f
        · rcases fresh c' hc' l' with f' | f'
          · exact A.inj c c' f.2 f'.2 (by rw [← f.1, ← f'.1, z])
          · rw [← z, f.1, A.at_ c f.2] at f'
            cases f'
        · exact dist c hc c' hc' l l' f z
      · rcases fresh c hc l with f | f
        · have ls := out c' hc' l'
          exact A.inj c c' f.2 ls (by rw [← f.1, z, (h2 c' hc' ls).1])
        · rw [z] at f
          exact absurd f (some_ c' hc' l')
    · have ls := out c hc l
      by_cases hc' : c' ∈ ch
      · rcases fresh c' hc' l' with f | f
        · exact A.inj c c' ls f.2 (by rw [← f.1, ← z, (h2 c hc ls).1])
        · rw [← z] at f
          exact absurd f (some_ c hc l)
      · have ls' := out c' hc' l'
        exact A.inj c c' ls ls' (by rw [← (h2 c hc ls).1, z, (h2 c' hc' ls').1])
  · by_cases hc : c ∈ ch
    · rcases fresh c hc l with f | f
      · exact .inl ⟨c, f.2, by rw [← f.1]; exact e⟩
      · rw [e] at f
        exact .inr f
    · have ls := out c hc l
      exact .inl ⟨c, ls, by rw [← (h2 c hc ls).1]; exact e⟩
/-- where the addresses stay -/
theorem At.re2 (ch : List Cell) (A : At C H S ad dx) (hl : ∀ c, live S' c → live S c) (lv : ∀ c ∈ ch, live S c) (h1 : ∀ c ∈ ch, H' (ad c) = some (co C S' ad dx c)) (h2 : ∀ c, c ∉ ch → live S c → co C S' ad dx c = co C S ad dx c)
    (k : ∀ b o, (∀ c ∈ ch, b ≠ ad c) → H b = some o → H' b = some o) : At C H' S' ad dx ∧ Step H S ad H' S' ad :=
  At.re3 ch A (fun c l => .inr (hl c l)) (fun c hc _ => h1 c hc) (fun c hc l => ⟨rfl, h2 c hc l⟩) (fun c hc l => .inl ⟨rfl, hl c l⟩) (fun c hc c' hc' l l' _ z => A.inj c c' (hl c l) (hl c' l') z)
    (fun b o n e => k b o (fun c hc => n c hc (lv c hc)) e) rfl
theorem At.not_own (A : At C H S ad dx) {l : Addr} (n : H l = none) : ¬ own S ad l := fun ⟨c, h, e⟩ => by
  rw [← e, A.at_ c h] at n
  cases n
end
theorem nodup_idx {α : Type} : ∀ {l : List α} {i j : Nat} {a : α}, l.Nodup → l[i]? = some a → l[j]? = some a → i = j
  | [], i, _, _, _, h, _ => by simp at h
  | _ :: _, 0, 0, _, _, _, _ => rfl
  | x :: l, 0, j + 1, a, nd, h, h' => by
    obtain rfl : x = a := by simpa using h
    exact absurd (List.mem_of_getElem? (show l[j]? = some x from h')) (List.nodup_cons.mp nd).1
  | x :: l, i + 1, 0, a, nd, h, h' => by
    obtain rfl : x = a := by simpa using h'
    exact absurd (List.mem_of_getElem? (show l[i]? = some x from h)) (List.nodup_cons.mp nd).1
  | x :: l, i + 1, j + 1, a, nd, h, h' => by rw [nodup_idx (List.nodup_cons.mp nd).2 (show l[i]? = some a from h) (show l[j]? = some a from h')]
def newThing (S : Sys) (p : Int) (n : Nat) : Sys := { S with next := S.next + 1, tab := fun q => if q = p then (S.tab p).set n (some S.next) else S.tab q }

def setA (ad : Cell → Addr) (c0 : Cell) (T : Addr) : Cell → Addr := fun c => if c = c0 then T else ad c
theorem setA_same {ad : Cell → Addr} {c0 : Cell} {T : Addr} : setA ad c0 T c0 = T := if_pos rfl
theorem setA_ne {ad : Cell → Addr} {c0 c : Cell} {T : Addr} (h : c ≠ c0) : setA ad c0 T c = ad c := if_neg h
theorem srcT_fun (ad : Cell → Addr) (t : Int) (T : Addr) : (fun j => if j = t then T else ad (.srcT j)) = fun j => setA ad (.srcT t) T (.srcT j) := by
  funext j
  by_cases h : j = t
  · rw [if_pos h, h, setA_same]
  · rw [if_neg h, setA_ne fun z => h (by cases z; rfl)]

def newSys (P N : Int) : Sys where
  P := P
  N := N
  next := 0
  procs := [0]
  tab := fun _ => List.replicate N.toNat none
  srcs := []
  unit := fun _ => (0, false)
  sets := []
section
variable {P : Program} {w : World} {K : PySem.W.Frag} {mg : Str → Option Value} {base : Heap} {C : Cs}
structure LimTxt (K : PySem.W.Frag) (mg : Str → Option Value) (CS : Addr) : Prop where
  lp : ∃ t, mg "LEAST_PROCESSES" = some (.int 2 t)
  ln : ∃ t, mg "LEAST_NUMBERS" = some (.int 3 t)
  mp : ∃ u, Con K CS "MOST_PROCESSES" (.int 6) u
  mn : ∃ u, Con K CS "MOST_NUMBERS" (.int 8) u
def spSysInit (C : Cs) : Sp := fun vs H Q _ => ∃ (x dx0 : Addr) (p n : Int), vs = [.ref x, .int p, .int n] ∧ H x = some (.ins C.S dx0 []) ∧ 2 ≤ p ∧ p ≤ 6 ∧ 3 ≤ n ∧ n ≤ 8 ∧
  ∀ H' ad dx, ad .box = x → At C H' (newSys p n) ad dx → (∀ b o, b ≠ x → H b = some o → H' b = some o) → (∀ b, own (newSys p n) ad b → b = x ∨ H b = none) → Q .non H'
theorem scSysInit : FnScope ["self", "processes", "numbers"] ["self", "processes", "numbers"] (defScope sSysInit) := ⟨rfl, rfl, rfl, by decide +kernel, rfl, by decide +kernel, by decide +kernel⟩
def initA (x td sd ud tl : Addr) : Cell → Addr
  | .box => x
  | .tabD => td
  | .srcD => sd
  | .setD => ud
  | _ => tl
theorem okSysInit {dvs : List V} {kws : List (Str × V)} {f fB : Addr} {fd fdB : FuncData} (F : FunD K "__init__" "System.__init__" (defArgs sSysInit) (defBody sSysInit) (defScope sSysInit) dvs kws f fd) (T : ClsF K C.S sysF) (L : LimTxt K mg C.S)
    (GB : DO P w K mg base 2 "is_between" ["x", "least", "most"] spIsBetween fB fdB) : FnOk P w K mg base CX0 3 f fd ["self", "processes", "numbers"] (spSysInit C) := by
  refine F.ok scSysInit (fun vs H Q E h => ?_) (fun cdv A outer s H vs Q E hr h => ?_)
  · obtain ⟨_, _, _, _, rfl, _⟩ := h
    rfl
  · obtain ⟨x, dx0, p, n, rfl, hx, p0, p1, n0, n1, k⟩ := h
    obtain ⟨tp, lp⟩ := L.lp
    obtain ⟨tn, ln⟩ := L.ln
    obtain ⟨up, mp⟩ := L.mp
    obtain ⟨un, mn⟩ := L.mn
    refine ⟨_, pss_cons (ps_if (pt_not (pt_val (pe_call GB.g hr (by rfl) GB.m GB.k GB.b .nil pass0 (pa_cons (pv 1) (pa_cons (pe_glob (v := .int 2) (by rfl) lp ⟨_, rfl⟩) (pa_cons (pe_con (pv 0) rfl) pa_nil)))))) (pss_one ps_never) pss_nil)
      (pss_cons (ps_if (pt_not (pt_val (pe_call GB.g hr (by rfl) GB.m GB.k GB.b .nil pass0 (pa_cons (pv 2) (pa_cons (pe_glob (v := .int 3) (by rfl) ln ⟨_, rfl⟩) (pa_cons (pe_con (pv 0) rfl) pa_nil)))))) (pss_one ps_never) pss_nil)
      (pss_cons (ps_fld (pv 0) (pv 1) rfl) (pss_cons (ps_fld (pv 0) (pv 2) rfl)
      (pss_cons (ps_fld (pv 0) (pe_disp (pps_cons pe_int (pe_op op_rep (pe_lst (pa_cons pe_non pa_nil)) (pv 2)) pps_nil) (by rfl) (by rfl) (fun z => by cases z) (by decide)) rfl)
      (pss_cons (ps_fld (pv 0) pe_dnewK rfl) (pss_cons (ps_fld (pv 0) pe_dnewK rfl) (pss_one (ps_fld (pv 0) pe_int rfl)))))))), ?_⟩
    walk_at "wn"
    refine ⟨_, rfl, x, C.S, dx0, _, _, _, rfl, hx, T.cl, mp, rfl, ?_⟩
    refine ⟨p, 2, 6, rfl, ?_⟩
    rw [decide_eq_true p0, decide_eq_true p1]
    refine ⟨_, rfl, ?_⟩
    walk_at "wn"
    refine ⟨_, rfl, _, rfl, x, C.S, dx0, _, _, _, rfl, hx, T.cl, mn, rfl, ?_⟩
    refine ⟨n, 3, 8, rfl, ?_⟩
    rw [decide_eq_true n0, decide_eq_true n1]
    refine ⟨_, rfl, ?_⟩
    refine ⟨_, rfl, _, rfl, x, C.S, dx0, _, rfl, hx, T.cl, T.no _ (by decide), by show 0 < 1000; decide, ?_⟩
    refine ⟨_, rfl, _, rfl, x, C.S, dx0, _, rfl, upd_same, T.cl, T.no _ (by decide), by show 1 < 1000; decide, ?_⟩
    have g1 : ∀ b o, b ≠ x → H b = some o → upd (upd H x (.ins C.S dx0 (putF "process_limit" (V.int p) []))) x (.ins C.S dx0 (putF "number_limit" (V.int n) (putF "process_limit" (V.int p) []))) b = some o := fun b o nb e => by rw [upd_ne nb, upd_ne nb]; exact e
    have x1 : upd (upd H x (.ins C.S dx0 (putF "process_limit" (V.int p) []))) x (.ins C.S dx0 (putF "number_limit" (V.int n) (putF "process_limit" (V.int p) []))) x = some (.ins C.S dx0 [("process_limit", .int p), ("number_limit", .int n)]) := upd_same
    generalize upd (upd H x (.ins C.S dx0 (putF "process_limit" (V.int p) []))) x (.ins C.S dx0 (putF "number_limit" (V.int n) (putF "process_limit" (V.int p) []))) = H1 at g1 x1
    have fr : ∀ {H' : Hp} {l : Addr}, (∀ b o, b ≠ x → H b = some o → H' b = some o) → H' l = none → l ≠ x → H l = none := fun {H'} {l} g e nl => by
      cases z : H l with
      | none => rfl
      | some o => rw [g l o nl z] at e; cases e
    intro td htd
    have ntx : td ≠ x := fun z => by rw [z, x1] at htd; cases htd
    have s2 := Same.new' (o := .dK []) htd
    refine ⟨by show 1 ≤ sizeLine; decide, fun l0 hl0 => ?_⟩
    have s3 := Same.new' (o := .lst [V.non]) hl0
    have l0' : upd (upd H1 td (.dK [])) l0 (.lst [V.non]) l0 = some (.lst [V.non]) := upd_same
    refine ⟨_, rfl, l0, n, _, rfl, rfl, l0', by omega, by omega, ?_, fun tl htl => ?_⟩
    · show 1 * n.toNat ≤ sizeLine
      rw [sizeLine_eq]
      omega
    have s4 := Same.new' (o := .lst (List.replicate n.toNat [V.non]).flatten) htl
    have td4 : upd (upd (upd H1 td (.dK [])) l0 (.lst [V.non])) tl (.lst (List.replicate n.toNat [V.non]).flatten) td = some (.dK []) := s4 _ _ (s3 _ _ upd_same)
    have x4 := s4 _ _ (s3 _ _ (s2 _ _ x1))
    have tl4 : upd (upd (upd H1 td (.dK [])) l0 (.lst [V.non])) tl (.lst (List.replicate n.toNat [V.non]).flatten) tl = some (.lst (List.replicate n.toNat [V.non]).flatten) := upd_same
    have g4 : ∀ b o, b ≠ x → H b = some o → upd (upd (upd H1 td (.dK [])) l0 (.lst [V.non])) tl (.lst (List.replicate n.toNat [V.non]).flatten) b = some o := fun b o nb e => s4 _ _ (s3 _ _ (s2 _ _ (g1 b o nb e)))
    have hd0 : H td = none := fr g1 htd ntx
    have ntlx : tl ≠ x := fun z => by rw [z] at htl; rw [s3 _ _ (s2 _ _ x1)] at htl; cases htl
    have htl0 : H tl = none := fr (H' := upd (upd H1 td (.dK [])) l0 (.lst [V.non])) (fun b o nb e => s3 _ _ (s2 _ _ (g1 b o nb e))) htl ntlx
    generalize upd (upd (upd H1 td (.dK [])) l0 (.lst [V.non])) tl (.lst (List.replicate n.toNat [V.non]).flatten) = H4 at td4 x4 tl4 g4
    have ntd : tl ≠ td := ne_of tl4 td4 (by intro z; cases z)
    refine ⟨td4, [(Sum.inl 0, .ref tl)], rfl, by show 1 ≤ 15; decide, ?_⟩
    have g5 : ∀ b o, b ≠ x → H b = some o → upd H4 td (.dK (mergeK [] [((Sum.inl 0 : Key), V.ref tl)])) b = some o := fun b o nb e => by rw [upd_ne (ne_of_none e hd0)]; exact g4 b o nb e
    have x5 : upd H4 td (.dK (mergeK [] [((Sum.inl 0 : Key), V.ref tl)])) x = _ := (upd_ne (Ne.symm ntx)).trans x4
    have tl5 : upd H4 td (.dK (mergeK [] [((Sum.inl 0 : Key), V.ref tl)])) tl = _ := (upd_ne ntd).trans tl4
    have td5 : upd H4 td (.dK (mergeK [] [((Sum.inl 0 : Key), V.ref tl)])) td = some (.dK [((Sum.inl 0 : Key), V.ref tl)]) := upd_same
    generalize upd H4 td (.dK (mergeK [] [((Sum.inl 0 : Key), V.ref tl)])) = H5 at g5 x5 tl5 td5
    refine ⟨_, rfl, x, C.S, dx0, _, rfl, x5, T.cl, T.no _ (by decide), by show 2 < 1000; decide, ?_⟩
    have g6 : ∀ b o, b ≠ x → H5 b = some o → upd H5 x (.ins C.S dx0 (putF "tables" (V.ref td) [("process_limit", .int p), ("number_limit", .int n)])) b = some o := fun b o nb e => by rw [upd_ne nb]; exact e
    have x6 : upd H5 x (.ins C.S dx0 (putF "tables" (V.ref td) [("process_limit", .int p), ("number_limit", .int n)])) x = some (.ins C.S dx0 [("process_limit", .int p), ("number_limit", .int n), ("tables", .ref td)]) := upd_same
    generalize upd H5 x (.ins C.S dx0 (putF "tables" (V.ref td) [("process_limit", .int p), ("number_limit", .int n)])) = H6 at g6 x6
    intro sd hsd
    have nsx : sd ≠ x := fun z => by rw [z, x6] at hsd; cases hsd
    have nst : sd ≠ td := fun z => by rw [z, g6 _ _ ntx td5] at hsd; cases hsd
    have hsd0 : H sd = none := fr (fun b o nb e => g6 b o nb (g5 b o nb e)) hsd nsx
    have s7 := Same.new' (o := .dK []) hsd
    refine ⟨_, rfl, x, C.S, dx0, _, rfl, s7 _ _ x6, T.cl, T.no _ (by decide), by show 3 < 1000; decide, ?_⟩
    have g8 : ∀ b o, b ≠ x → H6 b = some o → upd (upd H6 sd (.dK [])) x (.ins C.S dx0 (putF "sources" (V.ref sd) [("process_limit", .int p), ("number_limit", .int n), ("tables", .ref td)])) b = some o := fun b o nb e => by rw [upd_ne nb]; exact s7 _ _ e
    have sd8 : upd (upd H6 sd (.dK [])) x (.ins C.S dx0 (putF "sources" (V.ref sd) [("process_limit", .int p), ("number_limit", .int n), ("tables", .ref td)])) sd = some (.dK []) := by rw [upd_ne nsx]; exact upd_same
    have x8 : upd (upd H6 sd (.dK [])) x (.ins C.S dx0 (putF "sources" (V.ref sd) [("process_limit", .int p), ("number_limit", .int n), ("tables", .ref td)])) x = some (.ins C.S dx0 [("process_limit", .int p), ("number_limit", .int n), ("tables", .ref td), ("sources", .ref sd)]) := upd_same
    generalize upd (upd H6 sd (.dK [])) x (.ins C.S dx0 (putF "sources" (V.ref sd) [("process_limit", .int p), ("number_limit", .int n), ("tables", .ref td)])) = H8 at g8 sd8 x8
    intro ud hud
    have nux : ud ≠ x := fun z => by rw [z, x8] at hud; cases hud
    have nut : ud ≠ td := fun z => by rw [z, g8 _ _ ntx (g6 _ _ ntx td5)] at hud; cases hud
    have nus : ud ≠ sd := fun z => by rw [z, sd8] at hud; cases hud
    have hud0 : H ud = none := fr (fun b o nb e => g8 b o nb (g6 b o nb (g5 b o nb e))) hud nux
    have s9 := Same.new' (o := .dK []) hud
    refine ⟨_, rfl, x, C.S, dx0, _, rfl, s9 _ _ x8, T.cl, T.no _ (by decide), by show 4 < 1000; decide, ?_⟩
    refine ⟨_, rfl, x, C.S, dx0, _, rfl, upd_same, T.cl, T.no _ (by decide), by show 5 < 1000; decide, ?_⟩
    have fin : ∀ b o, b ≠ x → upd H8 ud (.dK []) b = some o → upd (upd (upd H8 ud (.dK [])) x (.ins C.S dx0 (putF "sets" (V.ref ud) [("process_limit", .int p), ("number_limit", .int n), ("tables", .ref td), ("sources", .ref sd)]))) x (.ins C.S dx0 (putF "next_thing" (V.int 0) (putF "sets" (V.ref ud) [("process_limit", .int p), ("number_limit", .int n), ("tables", .ref td), ("sources", .ref sd)]))) b = some o := fun b o nb e => by rw [upd_ne nb, upd_ne nb]; exact e
    have xf : upd (upd (upd H8 ud (.dK [])) x (.ins C.S dx0 (putF "sets" (V.ref ud) [("process_limit", .int p), ("number_limit", .int n), ("tables", .ref td), ("sources", .ref sd)]))) x (.ins C.S dx0 (putF "next_thing" (V.int 0) (putF "sets" (V.ref ud) [("process_limit", .int p), ("number_limit", .int n), ("tables", .ref td), ("sources", .ref sd)]))) x = some (sysO C.S dx0 (newSys p n) td sd ud) := upd_same
    generalize upd (upd (upd H8 ud (.dK [])) x (.ins C.S dx0 (putF "sets" (V.ref ud) [("process_limit", .int p), ("number_limit", .int n), ("tables", .ref td), ("sources", .ref sd)]))) x (.ins C.S dx0 (putF "next_thing" (V.int 0) (putF "sets" (V.ref ud) [("process_limit", .int p), ("number_limit", .int n), ("tables", .ref td), ("sources", .ref sd)]))) = HF at fin xf
    have tdF : HF td = some (.dK [((Sum.inl 0 : Key), V.ref tl)]) := fin _ _ ntx (s9 _ _ (g8 _ _ ntx (g6 _ _ ntx td5)))
    have sdF : HF sd = some (.dK []) := fin _ _ nsx (s9 _ _ sd8)
    have udF : HF ud = some (.dK []) := fin _ _ nux upd_same
    have tlF : HF tl = some (.lst (List.replicate n.toNat [V.non]).flatten) := fin _ _ ntlx (s9 _ _ (g8 _ _ ntlx (g6 _ _ ntlx tl5)))
    have et : (List.replicate n.toNat [V.non]).flatten = (List.replicate n.toNat (none : Option Int)).map optV := by
      rw [List.map_replicate]
      have : ∀ m : Nat, (List.replicate m [V.non]).flatten = List.replicate m V.non := by
        intro m
        induction m with
        | zero => rfl
        | succ m ih => rw [List.replicate_succ, List.flatten_cons, ih]; rfl
      exact this _
    rw [et] at tlF
    have lt0 : ∀ t, live (newSys p n) (.tab t) → t = 0 := fun t h => List.mem_singleton.mp h
    have no : ∀ t : Int, t ∉ ([] : List Int) := fun t h => nomatch h
    refine k HF (initA x td sd ud tl) (fun _ => dx0) rfl ⟨fun c hc => ?_, fun c c' hc hc' z => ?_⟩ (fun b o nb e => fin b o nb (s9 _ _ (g8 b o nb (g6 b o nb (g5 b o nb e))))) (fun b hb => ?_)
    · cases c with
      | box => exact xf
      | tabD => exact tdF
      | srcD => exact sdF
      | setD => exact udF
      | tab t => exact tlF
      | srcT t => exact absurd hc (no t)
      | ws t => exact absurd hc (no t)
      | ent t => exact absurd hc (no t)
      | que t => exact absurd hc (no t)
    · have n_xt : x ≠ td := Ne.symm ntx
      have n_ts : tl ≠ sd := ne_of tlF sdF (by intro z; cases z)
      have n_tu : tl ≠ ud := ne_of tlF udF (by intro z; cases z)
      have dead : ∀ {c : Cell}, live (newSys p n) c → c = .box ∨ c = .tabD ∨ c = .srcD ∨ c = .setD ∨ c = .tab 0 := fun {c} hc => by
        cases c with
        | box => exact .inl rfl
        | tabD => exact .inr (.inl rfl)
        | srcD => exact .inr (.inr (.inl rfl))
        | setD => exact .inr (.inr (.inr (.inl rfl)))
        | tab t => exact .inr (.inr (.inr (.inr (by rw [lt0 t hc]))))
        | srcT t => exact absurd hc (no t)
        | ws t => exact absurd hc (no t)
        | ent t => exact absurd hc (no t)
        | que t => exact absurd hc (no t)
      rcases dead hc with rfl | rfl | rfl | rfl | rfl <;> rcases dead hc' with rfl | rfl | rfl | rfl | rfl <;> first | rfl | (exfalso; revert z; first | exact fun z => n_xt z | exact fun z => n_xt z.symm | exact fun z => nsx z | exact fun z => nsx z.symm | exact fun z => nux z | exact fun z => nux z.symm | exact fun z => ntlx z | exact fun z => ntlx z.symm | exact fun z => nst z | exact fun z => nst z.symm | exact fun z => nut z | exact fun z => nut z.symm | exact fun z => nus z | exact fun z => nus z.symm | exact fun z => ntd z | exact fun z => ntd z.symm | exact fun z => n_ts z | exact fun z => n_ts z.symm | exact fun z => n_tu z | exact fun z => n_tu z.symm)
    · obtain ⟨c, hc, rfl⟩ := hb
      cases c with
      | box => exact .inl rfl
      | tabD => exact .inr hd0
      | srcD => exact .inr hsd0
      | setD => exact .inr hud0
      | tab t => exact .inr htl0
      | srcT t => exact absurd hc (no t)
      | ws t => exact absurd hc (no t)
      | ent t => exact absurd hc (no t)
      | que t => exact absurd hc (no t)
end

/-! own errors over any built-in base -/
structure BX (x : Str) (B newId initId : String) (tl : List Value) : Prop where
  bf : ExcBaseFacts B newId initId (.type B :: tl)
  sf : StoreFacts B (.type B :: tl) "object.__setattr__" "object"
  ty : typeOf (.type B) = pure (.type "type")
  st : Manifest.isStub B = false
  bo : bootBuiltins x = some (.type B)
  nn : x ≠ "__name__"
  nd : (x == ("__debug__" : Str)) = false
  hi : PySem.W.handedIn (.builtin initId) = true
theorem bxRuntime : BX "RuntimeError" "RuntimeError" "RuntimeError.__new__" "RuntimeError.__init__" [.type "Exception", .type "BaseException", .type "object"] := ⟨F.excBase_RuntimeError, F.store_RuntimeError, by kernel_rfl, by decide +kernel, PyProof.Rows.Boot.«RuntimeError», by decide, by decide, by decide +kernel⟩
theorem bxLookup : BX "LookupError" "LookupError" "LookupError.__new__" "LookupError.__init__" [.type "Exception", .type "BaseException", .type "object"] := ⟨F.excBase_LookupError, F.store_LookupError, by kernel_rfl, by decide +kernel, PyProof.Rows.Boot.«LookupError», by decide, by decide, by decide +kernel⟩
theorem bxOverflow : BX "OverflowError" "OverflowError" "OverflowError.__new__" "OverflowError.__init__" [.type "ArithmeticError", .type "Exception", .type "BaseException", .type "object"] := ⟨F.excBase_OverflowError, F.store_OverflowError, by kernel_rfl, by decide +kernel, PyProof.Rows.Boot.«OverflowError», by decide, by decide, by decide +kernel⟩
theorem bxType : BX "TypeError" "TypeError" "TypeError.__new__" "TypeError.__init__" [.type "Exception", .type "BaseException", .type "object"] := ⟨F.excBase_TypeError, F.store_TypeError, by kernel_rfl, by decide +kernel, PyProof.Rows.Boot.«TypeError», by decide, by decide, by decide +kernel⟩
theorem bxValue : BX "ValueError" "ValueError" "ValueError.__new__" "ValueError.__init__" [.type "Exception", .type "BaseException", .type "object"] := ⟨F.excBase_ValueError, F.store_ValueError, by kernel_rfl, by decide +kernel, PyProof.Rows.Boot.«ValueError», by decide, by decide, by decide +kernel⟩
/-- a class of the program's straight over the base with this mro -/
structure OxB (K : PySem.W.Frag) (C : Addr) (newId : String) (bm : List Value) : Prop where
  cls : ∃ nm q N bs sn sub ab col dd k0 k1 k2 k3 k5, K.lookup C = some (excClassObj nm q C N bs bm true sn sub ab col dd k0 k1 k2 k3 k5 newId)
  sa : PySem.W.findIn K (.ref C) "__setattr__" = some (some (.builtin "object.__setattr__"))
  exC : PySem.W.subIn K (.ref C) (.type "BaseException") = some true
  tyC : PySem.W.typeIn K (.ref C) = some (.type "type")
  kC : PySem.W.keepIn K (.ref C) = true
namespace OxB
variable {K : PySem.W.Frag} {C : Addr} {newId B : String} {tl : List Value}
theorem data (T : OxB K C newId (.type B :: tl)) : ∃ cd : ClassData, PySem.W.clsIn K C = some cd ∧ cd.mro = .ref C :: .type B :: tl ∧ cd.hasDict = true := by
  obtain ⟨nm, q, N, bs, sn, sub, ab, col, dd, k0, k1, k2, k3, k5, hC⟩ := T.cls
  refine ⟨{ name := nm, bases := bs, mro := .ref C :: .type B :: tl, ns := N, qualname := q, hasDict := true, slotNames := sn, subclasses := sub, abstract := ab, collection := col, hasDel := false }, ?_, rfl, rfl⟩
  unfold PySem.W.clsIn
  rw [hC]
theorem over (T : OxB K C newId (.type B :: tl)) : PySem.W.excOver K C (.type B :: tl) = true := by
  obtain ⟨cd, h1, h2, _⟩ := T.data
  unfold PySem.W.excOver
  rw [h1]
  show (match cd.mro with | .ref C' :: bm => C' == C && PySem.W.excTail (.type B :: tl) bm | _ => false) = true
  rw [h2]
  have e : PySem.W.excTail (.type B :: tl) (.type B :: tl) = true := by
    unfold PySem.W.excTail
    exact beq_self_eq_true _
  show (C == C && PySem.W.excTail (.type B :: tl) (.type B :: tl)) = true
  rw [e, beq_self_eq_true]
  rfl
end OxB
section
open Builtin Builtin.ObjectAttr
/-- the first field of an error that has no dict yet -/
theorem oxb_first {prog : Program} {w : World} {A : Around} {R : Result → Shared → Prop} {hp : Heap} {g : Array GenState} {d : Drawn} {t : Nat} {os : OsState} {K : PySem.W.Frag} {C x : Addr} {newId B : String} {tl : List Value} {name : Str} {tk : Tok} {v : Value} {fv : Array Value}
    (T : OxB K C newId (.type B :: tl)) (SF : StoreFacts B (.type B :: tl) "object.__setattr__" "object") (X : K.In hp) (hx : hp.get? x = some { cls := .ref C, data := .fields fv }) (no : PySem.W.findIn K (.ref C) name = some none)
    (q : ∀ h' tk' dx, (∀ b o, b ≠ x → hp.get? b = some o → h'.get? b = some o) → hp.objs.size ≤ dx → dx ≠ x → h'.get? x = some { cls := .ref C, dict := some dx, data := .fields fv } → h'.Ns1 dx (fun y => if y = name then some v else none) → R (.ok (.ret .none)) ⟨h', g, d, tk', os⟩) :
    codeAny (model prog w) A (.call (.builtin "object.__setattr__") ⟨[.ref x, .str name tk, v], []⟩) R ⟨hp, g, d, t, os⟩ := by
  have J : PySem.W.InstAt (⟨hp, g, d, t, os⟩ : Shared).heap x { cls := .ref C, data := .fields fv } C none := ⟨hx, rfl, rfl, trivial⟩
  have tkr : PySem.W.takerIn K C name = some none := by
    unfold PySem.W.takerIn
    rw [no]
    rfl
  obtain ⟨cd, hcd, _, hhd⟩ := T.data
  have away : x ≠ hp.objs.size := Nat.ne_of_lt (Heap.lt_size hx)
  refine PySem.W.osa_openX (s := ⟨hp, g, d, t, os⟩) SF X J T.over tkr fun onT => ?_
  show wpAny _ _ (storeInOwnDict (.ref x) (.ref C) (.str name tk) name v onT) _ _ _
  have ask : PySem.W.Looks (model prog w) hp (classData C) cd := PySem.W.looks_clsIn X hcd
  obtain ⟨nm, bs, mro, ns, qn, hd, sn, sb, ab, col, del⟩ := cd
  obtain rfl : hd = true := hhd
  unfold storeInOwnDict ownDictForStores
  repeat (first | with_reducible refine PySem.HandSPX.store_in_new ?_ ?_ | (with_reducible refine wpAny_loadPart_at hx ?_) | (with_reducible refine ask.at ?_) | wp_step)
  · exact (fun laid => ⟨_, #[], _, laid, rfl, fun e he => absurd he (by simp), fun _ => rfl⟩) ((Heap.get?_update_ne _ _ _ _ away.symm).trans (Heap.get?_push_at rfl rfl))
  · intro h' tk' hn same
    have h1 : (hp.push { cls := .type "dict", data := .dict #[] }).get? x = some { cls := .ref C, data := .fields fv } := Heap.get?_push_of_some _ hx
    refine q h' tk' hp.objs.size (fun b o nb eb => ?_) (Nat.le_refl _) away.symm ((same.2 x away).trans (Heap.get?_update_self _ h1 rfl)) hn
    rw [same.2 b (Nat.ne_of_lt (Heap.lt_size eb)), Heap.get?_update_ne _ _ _ _ nb]
    exact Heap.get?_push_of_some _ eb
end
section
variable {X : Cx} {pins : List (Addr × Obj)} {σ : L2.St} {H : Hp} {s : Shared} {a C : Addr} {f : Str} {y : V} {u : Value} {newId initId B : String} {tl : List Value} {A : Around}
theorem oxb_store {Q : Unit → Shared → Prop} {E : Value → Shared → Prop} (T : OxB X.K C newId (.type B :: tl)) (SF : StoreFacts B (.type B :: tl) "object.__setattr__" "object") (I : Inv X pins σ H s) (e : H a = some (exo a C none)) (no : PySem.W.findIn X.K (.ref C) f = some none) (ry : RelV y u)
    (k : ∀ dx s', H dx = none → dx ≠ a → Inv X pins σ (upd (upd H dx (exd dx [(f, y)])) a (exo a C (some dx))) s' → Q () s') : wpAny (model X.prog X.w) A (setAttr (.ref a) f u) Q E s := by
  obtain ⟨t1, ho⟩ := exo_at I.hok e
  obtain ⟨hp, g, d, t, os⟩ := s
  refine PySem.W.set_plain I.kIn (od := none) (ox := { cls := .ref C, dict := none, data := .fields #[.ref t1, .none, .none, .none, .bool false, .none] }) ⟨ho, rfl, rfl, trivial⟩ T.sa (oxb_first T SF I.kIn ho no fun h' tk' dx kp dn dne hx hn => ?_)
  have free : H dx = none := I.hok.fresh dn
  have apart : ∀ {b : Addr} {o : Obj}, hp.get? b = some o → b ≠ dx := fun {b o} z => Nat.ne_of_lt (Nat.lt_of_lt_of_le (Heap.lt_size z) dn)
  have other : ∀ {b : Addr}, H b = none → b ≠ a := fun {b} n z => by rw [z, e] at n; cases n
  refine k dx _ free dne (I.un (t' := tk') ⟨fun b o z n _ _ => kp b o (other n) z, fun b o z n _ _ => ⟨o.slots, kp b o (other n) z⟩, fun b o z n _ => ?_, fun b o z _ => ?_, fun b xs z => ?_, fun b o v z => ?_, fun b ps z => ⟨#[], ?_⟩⟩ fun b o z => ?_)
  · rw [upd_ne (other n), upd_ne (apart z)]
    exact n
  · by_cases hb : b = a
    · exact ⟨_, by rw [hb]; exact hx⟩
    · exact ⟨o, kp b o hb z⟩
  · rw [upd_ne (at_ne e z exo_tup), upd_ne (ne_of_none z free)]
    exact z
  · rw [upd_ne (at_ne e z exo_frz), upd_ne (ne_of_none z free)]
    exact z
  · rw [upd_ne (at_ne e z exo_tbl), upd_ne (ne_of_none z free), z]
    simp
  · by_cases hb : b = a
    · subst hb
      rw [upd_same] at z
      cases z
      exact exo_ok hx
    rw [upd_ne hb] at z
    by_cases hd : b = dx
    · subst hd
      rw [upd_same] at z
      cases z
      exact exd_ok hn (relO_put (fs := []) ry fun g => True.intro)
    rw [upd_ne hd] at z
    refine (I.hok b o z).stay (fun c v hc y1 => kp c v ?_ y1) (fun c hc => ?_) (fun c xs hc => ?_)
    · rcases hc with hc | hc
      · exact hc ▸ hb
      · exact at_ne e hc exo_own
    · rw [upd_ne (at_ne e hc exo_own), upd_ne (ne_of_none hc free)]
      exact hc
    · rw [upd_ne (at_ne e hc exo_tup), upd_ne (ne_of_none hc free)]
      exact hc
theorem oxb_init {us : List Value} {Q : Value → Shared → Prop} {E : Value → Shared → Prop} (T : OxB X.K C newId (.type B :: tl)) (BF : ExcBaseFacts B newId initId (.type B :: tl)) (I : Inv X pins σ H s) (e : H a = some (exo a C none)) (hl : us.length ≤ sizeLine) (k : ∀ s', Inv X pins σ H s' → Q .none s') :
    wpAny (model X.prog X.w) A (call (.builtin initId) (.ref a :: us)) Q E s := by
  obtain ⟨nm, q, N, bs, sn, sub, ab, col, dd, k0, k1, k2, k3, k5, hC⟩ := T.cls
  obtain ⟨t1, ho⟩ := exo_at I.hok e
  obtain ⟨hp, g, d, t, os⟩ := s
  refine wpAny_call (PySem.HandSPX.init_base BF (fun _ => rfl) (I.kIn _ _ hC) ho hl fun h' t2 kp hx => k _ ?_)
  have J := I.write (t' := t) (x := a) (e := a) (o := exo a C none) (by rw [e]; exact True.intro) (.inl rfl) kp ⟨_, hx⟩ (exo_ok hx)
  have eu : upd H a (exo a C none) = H := funext fun b => by
    by_cases hb : b = a
    · rw [hb, upd_same, e]
    · exact upd_ne hb
  exact eu ▸ J
/-- B.__init__(self, ..) of a base B -/
def tBI (K : PySem.W.Frag) (newId B : String) (tl : List Value) (ta : TA) : TE := fun σ H Q => ta σ H fun vs H1 => ∃ (a C : Addr) (ws : List V), vs = .ref a :: ws ∧ ws.length ≤ 1000 ∧ OxB K C newId (.type B :: tl) ∧ H1 a = some (exo a C none) ∧ Q .non H1
/-- self.f = e, the only field -/
def tOsB (K : PySem.W.Frag) (newId B : String) (tl : List Value) (f : Str) (to te : TE) : TS := fun D σ H => te σ H fun y H1 => to σ H1 fun x H2 => ∃ a C : Addr, x = .ref a ∧ OxB K C newId (.type B :: tl) ∧ PySem.W.findIn K (.ref C) f = some none ∧ H2 a = some (exo a C none) ∧
  ∀ dx, H2 dx = none → dx ≠ a → D.nx σ (upd (upd H2 dx (exd dx [(f, y)])) a (exo a C (some dx)))
variable {o e : Expr} {es : List Expr} {to te : TE} {ta : TA} {x : Str} {p p' p1 p2 pos : Pos}
theorem pe_binit {pl : Sem Bool} (Z : BX x B newId initId tl) (hg : Gl X x) (hm : X.mg x = none) (fI : PySem.W.findCls X.K (.type B) (.type "type") "__init__" = some (.val (.builtin initId))) (ha : PA X (e :: es) ta)
    (hc : eval (.Call (.Attribute (.Name x p1) "__init__" p2) (e :: es) [] pos) X.env = (eval (.Name x p1) X.env >>= fun ov => standAt p2.atName >>= fun _ => holding [ov] (getMethod ov "__init__" pl) >>= fun r => callWith pos r.1 r.2 (backTo pos (starEach (e :: es) X.env)) (backToKw pos (keywordEach [] X.env))) := by rfl)
    (st : starEach (e :: es) X.env = (false, eval e X.env) :: starEach es X.env := by rfl) (pn : (backTo pos (starEach es X.env)).any (·.1) = false := by rfl) : PE X (.Call (.Attribute (.Name x p1) "__init__" p2) (e :: es) [] pos) (tBI X.K newId B tl ta) := by
  refine ⟨fun pins s σ H Q I h => PySem.W.methodCall_KW (ld_blt I hg hm Z.bo ?_ Z.nn Z.nd) hc⟩
  obtain ⟨m, fr⟩ := I.fr
  refine PySem.W.method_type fr I.ok.mod.kin Z.ty Z.st fI Z.hi ?_
  show wpAny _ _ (callWith pos (Value.builtin initId) [] (backTo pos (starEach (e :: es) X.env)) []) _ _ _
  refine PyProof.Rows.callWith_method1 (thn (ha.run pos pins _ σ H _ (I.tok _) h) ?_) st pn
  rintro us s1 ⟨vs, H1, I1, r1, a, C, ws, rfl, hl, T, ea, q⟩
  cases r1 with
  | @cons _ u0 _ ur ra rw' =>
    obtain rfl : u0 = Value.ref a := ra
    exact oxb_init T Z.bf I1 ea (by rw [← Paired.length rw', sizeLine_eq]; omega) fun s' J => ⟨.non, H1, J, rfl, q⟩
theorem ps_osb (Z : BX x B newId initId tl) (ho : PE X o to) (he : PE X e te) (sw : swapsWith e (some (.Attribute o f p')) pos.line X.env = pure false := by rfl) : PS X (.Assign [.Attribute o f p'] e pos) (tOsB X.K newId B tl f to te) := by
  refine ⟨fun pins s σ H D I h => plainObj_wpAny_Assign_Attribute (thn (he.run pins s σ H _ I h) ?_) sw⟩
  rintro v s1 ⟨y, H1, I1, r1, q1⟩
  refine thn (ho.run pins s1 σ H1 _ I1 q1) ?_
  rintro u s2 ⟨x, H2, I2, r2, a, C, rfl, T, no, ea, q⟩
  obtain rfl : u = Value.ref a := r2
  exact oxb_store T Z.sf I2 ea no r1 fun dx s' n ne J => ⟨σ, _, J, q dx n ne⟩
theorem pmk_oxb {CX : CXT} {n : Str} {fI : Addr} {k : Nat} {fd : FuncData} {ps : List Str} {sp : Sp} {ds : List Value} {dvs : List V} (Z : BX x B newId initId tl) (T : OxB X.K C newId (.type B :: tl)) (iC : PySem.W.findIn X.K (.ref C) "__init__" = some (some (.ref fI)))
    (tI : PySem.W.typeIn X.K (.ref fI) = some (.type "function")) (G : FnOk X.prog X.w X.K X.mg X.base CX k fI fd ps sp) (hr : Room (k + 1) X.A) (hb : Binds X.K fd ps ds) (hd : Vals dvs ds) (hx : Passes CX X (fun _ _ _ => False)) (hg : Gl X n) (hm : X.mg n = some (.ref C)) (ha : PA X (e :: es) ta)
    (db : (n == ("__debug__" : Str)) = false := by decide) (st : starEach (e :: es) X.env = (false, eval e X.env) :: starEach es X.env := by rfl) (pn : (backTo pos (starEach es X.env)).any (·.1) = false := by rfl) : PMk X (.Call (.Name n p) (e :: es) [] pos) (tMkO C sp dvs ta) := by
  intro pins s σ H Q I h
  obtain ⟨nm, q, N, bs, sn, sub, ab, col, dd, k0, k1, k2, k3, k5, hC⟩ := T.cls
  refine wpAny_Call_Name_kw (ld_glob I hg hm (PySem.W.callWith_K (h₀ := X.base) I.ok.mod.kin T.kC (thn (ha.run pos pins s σ H _ I h) ?_) st pn) db)
  rintro us ⟨hp, g, dr, tk, os⟩ ⟨vs, H1, I1, r1, hz, q1⟩
  refine ⟨I1.kIn, ?_⟩
  show wpAny _ _ (call (.ref C) us) _ _ _
  have above : hp.objs.size ≤ hp.objs.size + 1 := Nat.le_succ _
  have want := q1 (hp.objs.size + 1) (I1.hok.fresh above)
  have kp : ∀ b o, hp.get? b = some o → ((hp.push (PySem.W.kdv_tup us)).push (PySem.HandSPX.excO C hp.objs.size)).get? b = some o := fun b o z => Heap.get?_push_of_some _ (Heap.get?_push_of_some _ z)
  have here : ((hp.push (PySem.W.kdv_tup us)).push (PySem.HandSPX.excO C hp.objs.size)).get? (hp.objs.size + 1) = some (PySem.HandSPX.excO C hp.objs.size) := by heap_get
  have I2 : Inv X pins σ (upd H1 (hp.objs.size + 1) (exo (hp.objs.size + 1) C none)) ⟨(hp.push (PySem.W.kdv_tup us)).push (PySem.HandSPX.excO C hp.objs.size), g, dr, tk, os⟩ := I1.laid (t' := tk) kp above (exo_ok here)
  have rs : Vals (V.ref (hp.objs.size + 1) :: (vs ++ dvs)) (Value.ref (hp.objs.size + 1) :: (us ++ ds)) := .cons rfl (r1.append hd)
  have many : (Value.ref (hp.objs.size + 1) :: us ++ ds).length = ps.length := (G.len _ _ _ _ want ▸ rs.length).symm
  have short : us.length ≤ sizeLine := by rw [← Paired.length r1, sizeLine_eq]; omega
  refine wpAny_call (PySem.HandSPX.call_own Z.bf (fun _ => rfl) (I1.kIn _ _ hC) (PySem.W.looks_findIn I1.kIn iC) (fun self => PySem.W.bind_fn I1.kIn self tI) short
    (codeAny_mono (G.run _ X.stack _ _ ⟨Value.ref (hp.objs.size + 1) :: us, []⟩ (Value.ref (hp.objs.size + 1) :: (us ++ ds)) _ _ (fun _ _ _ => False) (hr.make C us []) (I2.env0.make C us []) (hb _ (Value.ref (hp.objs.size + 1) :: us) I2.kIn many) rs want) fun r s' hq => ?_))
  rcases r with er | (_ | _ | _ | u)
  all_goals first | exact False.elim hq | exact hx pins σ _ _ er s' I2 hq | skip
  all_goals
    obtain ⟨v, H2, os2, bare2, un2, hok2, rv, ev, d, fs, ea, ed, hd1, q2⟩ := hq
    subst ev
    obtain ⟨h2, g2, d2, t2, os'⟩ := s'
    exact ⟨rv, mk_end (raises_own T.exC T.tyC) I1 above kp un2 hok2 os2 bare2 ea ed hd1 q2⟩
end

abbrev sOpenInit : Stmt := meth 3 0
abbrev sFullInit : Stmt := meth 8 0
theorem passX {X : Cx} {E : XK} (tk : Takes X fun cls d _ H => E cls d H) : Passes (L2.CX X.prog X.w) X E := fun pins σ H s e s' I c => tk e s' (XE.of_call I (fun _ _ _ h => h) c)
abbrev exT : List Value := [.type "Exception", .type "BaseException", .type "object"]
/-! an error of the class at D whose only field, named f, is an int -/
structure ErrF (K : PySem.W.Frag) (mg : Str → Option Value) (nm : Str) (f : Str) (D fI : Addr) (fdI : FuncData) (newId : String) (bm : List Value) : Prop where
  gC : mg nm = some (.ref D)
  ox : OxB K D newId bm
  noN : PySem.W.findIn K (.ref D) f = some none
  iC : PySem.W.findIn K (.ref D) "__init__" = some (some (.ref fI))
  tI : PySem.W.typeIn K (.ref fI) = some (.type "function")
  bI : Binds K fdI ["self", f] []
  te : PySem.W.exmOne K (.ref D) (.ref D) = some true
  xf : XfC K D
section
variable {P : Program} {w : World} {K : PySem.W.Frag} {mg : Str → Option Value} {base : Heap} {C : Cs}
def spErrInit (D : Addr) (f : Str) : Sp := fun vs H Q _ => ∃ (a : Addr) (n : Int), vs = [.ref a, .int n] ∧ n.natAbs.log2 < 1920 ∧ (Str.ofString (toString n)).length ≤ 700 ∧ H a = some (exo a D none) ∧
  ∀ d, H d = none → d ≠ a → Q .non (upd (upd H d (exd d [(f, .int n)])) a (exo a D (some d)))
theorem scOpenInit : FnScope ["self", "number"] ["self", "number"] (defScope sOpenInit) := ⟨rfl, rfl, rfl, by decide +kernel, rfl, by decide +kernel, by decide +kernel⟩
theorem okOpenInit {D fI : Addr} {fdI : FuncData} (F : Fun K "__init__" "NotOpen.__init__" sOpenInit fI fdI) (gB : mg "LookupError" = none) (fB : PySem.W.findCls K (.type "LookupError") (.type "type") "__init__" = some (.val (.builtin "LookupError.__init__"))) (T : ErrF K mg "NotOpen" "number" D fI fdI "LookupError.__new__" (.type "LookupError" :: exT)) : FnOk P w K mg base CX0 1 fI fdI ["self", "number"] (spErrInit D "number") := by
  refine F.ok scOpenInit (fun vs H Q E h => ?_) (fun cdv A outer s H vs Q E hr h => ?_)
  · obtain ⟨a, n, rfl, _⟩ := h
    rfl
  · obtain ⟨a, n, rfl, h1, h2, ha, k⟩ := h
    refine ⟨_, pss_cons (ps_expr (pe_binit bxLookup (by rfl) gB fB (pa_cons (pv 0) (pa_cons (pe_joined (.cons pe_str (.cons (pe_fmtR (pv 1)) (.cons pe_str .nil)))) pa_nil))))
      (pss_one (ps_osb (f := "number") bxLookup (pv 0) (pv 1))), ?_⟩
    walk_at "wn"
    show tCons _ _ _ _ _
    walk_at "wn"
    show tJs _ _ _ _ _
    have e5 : (((" is not open" : String) : Str)).length = 12 := rfl
    have e6 : (((("number " : String) : Str))).length = 7 := rfl
    refine ⟨"number ", rfl, by decide, ?_⟩
    refine ⟨_, rfl, ?_⟩
    refine Or.inr ⟨n, rfl, h1, toString n, rfl, ?_, ?_⟩
    · rw [strLen_append, strLen_append, sizeLine_eq, e6]
      show 0 + 7 + _ ≤ _
      omega
    refine ⟨" is not open", rfl, ?_, ?_⟩
    · rw [strLen_append, strLen_append, strLen_append, sizeLine_eq, e5, e6]
      show 0 + 7 + _ + _ ≤ _
      omega
    refine ⟨a, D, [_], rfl, by show 1 ≤ 1000; decide, T.ox, ha, ?_⟩
    refine ⟨_, rfl, _, rfl, ?_⟩
    exact ⟨a, D, rfl, T.ox, T.noN, ha, fun dx h1 h2 => k dx h1 h2⟩
theorem scFullInit : FnScope ["self", "process"] ["self", "process"] (defScope sFullInit) := ⟨rfl, rfl, rfl, by decide +kernel, rfl, by decide +kernel, by decide +kernel⟩
theorem okFullInit {D fI : Addr} {fdI : FuncData} (F : Fun K "__init__" "Full.__init__" sFullInit fI fdI) (gB : mg "OverflowError" = none) (fB : PySem.W.findCls K (.type "OverflowError") (.type "type") "__init__" = some (.val (.builtin "OverflowError.__init__"))) (T : ErrF K mg "Full" "process" D fI fdI "OverflowError.__new__" (.type "OverflowError" :: .type "ArithmeticError" :: exT)) : FnOk P w K mg base CX0 1 fI fdI ["self", "process"] (spErrInit D "process") := by
  refine F.ok scFullInit (fun vs H Q E h => ?_) (fun cdv A outer s H vs Q E hr h => ?_)
  · obtain ⟨a, n, rfl, _⟩ := h
    rfl
  · obtain ⟨a, n, rfl, h1, h2, ha, k⟩ := h
    refine ⟨_, pss_cons (ps_expr (pe_binit bxOverflow (by rfl) gB fB (pa_cons (pv 0) (pa_cons (pe_joined (.cons pe_str (.cons (pe_fmtR (pv 1)) (.cons pe_str .nil)))) pa_nil))))
      (pss_one (ps_osb (f := "process") bxOverflow (pv 0) (pv 1))), ?_⟩
    walk_at "wn"
    show tCons _ _ _ _ _
    walk_at "wn"
    show tJs _ _ _ _ _
    have e5 : (((" has no free number" : String) : Str)).length = 19 := rfl
    have e6 : (((("process " : String) : Str))).length = 8 := rfl
    refine ⟨"process ", rfl, by decide, ?_⟩
    refine ⟨_, rfl, ?_⟩
    refine Or.inr ⟨n, rfl, h1, toString n, rfl, ?_, ?_⟩
    · rw [strLen_append, strLen_append, sizeLine_eq, e6]
      show 0 + 8 + _ ≤ _
      omega
    refine ⟨" has no free number", rfl, ?_, ?_⟩
    · rw [strLen_append, strLen_append, strLen_append, sizeLine_eq, e5, e6]
      show 0 + 8 + _ + _ ≤ _
      omega
    refine ⟨a, D, [_], rfl, by show 1 ≤ 1000; decide, T.ox, ha, ?_⟩
    refine ⟨_, rfl, _, rfl, ?_⟩
    exact ⟨a, D, rfl, T.ox, T.noN, ha, fun dx h1 h2 => k dx h1 h2⟩
/-- the way out with an error of the class at D whose field is n -/
def Out (D : Addr) (f : Str) (n : Int) (H : Hp) (E : XK) : Prop := ∀ d H', H d = none → Same H H' → H' d = some (.xd [(f, .int n)]) → E (.ref D) (some d) H'
theorem out_made {D : Addr} {f : Str} {n : Int} {H : Hp} {Q : XK} (h1 : n.natAbs.log2 < 1920) (h2 : (Str.ofString (toString n)).length ≤ 700) (k : Out D f n H Q) :
    ([V.int n].length ≤ 1000 ∧ ∀ a, H a = none → spErrInit D f (.ref a :: ([V.int n] ++ [])) (upd H a (exo a D none)) (fun v H2 => v = .non ∧ ∃ (d : Addr) (fs : List (Str × V)), H2 a = some (exo a D (some d)) ∧ H2 d = some (exd d fs) ∧ H d = none ∧ Q (.ref D) (some d) (upd (del H2 a) d (.xd fs))) fun _ _ _ => False) := by
  refine ⟨by show 1 ≤ 1000; decide, fun a ha => ⟨a, n, rfl, h1, h2, upd_same, fun d hd nd => ⟨rfl, d, [(f, .int n)], upd_same, ?_, ?_, ?_⟩⟩⟩
  · rw [upd_ne nd, upd_same]
  · rw [upd_ne nd] at hd
    exact hd
  · rw [upd_ne nd] at hd
    refine k d _ hd (fun b o e => ?_) upd_same
    have n1 : b ≠ d := fun z => by rw [z, hd] at e; cases e
    have n2 : b ≠ a := fun z => by rw [z, ha] at e; cases e
    rw [upd_ne n1]
    show (if b = a then none else _) = _
    rw [if_neg n2, upd_ne n2, upd_ne n1, upd_ne n2]
    exact e
theorem small_int {n : Int} (h0 : 0 ≤ n) (h1 : n ≤ 1000) : n.natAbs.log2 < 1920 ∧ (Str.ofString (toString n)).length ≤ 700 := by
  refine ⟨?_, ?_⟩
  · have : n.natAbs.log2 ≤ n.natAbs := Nat.log2_le_self _
    omega
  · have := toString_length_le (v := n) h0 (k := 4) (by decide) (by omega)
    omega
end

abbrev sNewSet : Stmt := meth 19 5
abbrev OpenE (K : PySem.W.Frag) (mg : Str → Option Value) (D fI : Addr) (fdI : FuncData) : Prop := ErrF K mg "NotOpen" "number" D fI fdI "LookupError.__new__" (.type "LookupError" :: exT)
abbrev FullE (K : PySem.W.Frag) (mg : Str → Option Value) (D fI : Addr) (fdI : FuncData) : Prop := ErrF K mg "Full" "process" D fI fdI "OverflowError.__new__" (.type "OverflowError" :: .type "ArithmeticError" :: exT)
theorem Out.same {D : Addr} {f : Str} {n : Int} {H H1 : Hp} {E : XK} (k : Out D f n H E) (s : Same H H1) : Out D f n H1 E := fun d H' hd s' e => k d H' (s.free hd) (s.trans s') e
/-- what a number means in a process -/
structure Opn (S : Sys) (p n : Int) (x : Option Int) : Prop where
  pr : p ∈ S.procs
  lo : 0 ≤ n
  at_ : n ≤ S.N - 1 → (S.tab p)[n.toNat]? = some x
  out : S.N - 1 < n → x = none
def Ful (t : List (Option Int)) : Prop := ∀ i, i < t.length → ∃ x, t[i]? = some (some x)
section
variable {P : Program} {w : World} {K : PySem.W.Frag} {mg : Str → Option Value} {base : Heap} {C : Cs}
/-- a method that may raise -/
structure ME (P : Program) (w : World) (K : PySem.W.Frag) (mg : Str → Option Value) (base : Heap) (k : Nat) (C : Addr) (m : Str) (ps : List Str) (sp : Sp) (f : Addr) (fd : FuncData) : Prop where
  g : FnOk P w K mg base (L2.CX P w) k f fd ps sp
  m : Meth K C m f
  b : Binds K fd ps []
/-! thing_at -/
def spThingAt (C : Cs) (D : Addr) : Sp := fun vs H Q E => ∃ (p n : Int) (x : Option Int), OnSys C vs H [.int p, .int n] fun S _ _ => Opn S p n x ∧ n ≤ 1000 ∧ (∀ t, x = some t → Q (.int t) H) ∧ (x = none → Out D "number" n H E)
theorem scThingAt : FnScope ["self", "process", "number", "table"] ["self", "process", "number"] (defScope sThingAt) := ⟨rfl, rfl, rfl, by decide +kernel, rfl, by decide +kernel, by decide +kernel⟩
theorem okThingAt {D f fT fN fI : Addr} {fd fdT fdN fdI : FuncData} (F : Fun K "thing_at" "System.thing_at" sThingAt f fd) (T : ClsF K C.S sysF) (TE : OpenE K mg D fI fdI) (GI : FnOk P w K mg base CX0 1 fI fdI ["self", "number"] (spErrInit D "number"))
    (GT : MO P w K mg base 3 C.S "table_of" ["self", "process"] (spTableOf C) fT fdT) (GN : MO P w K mg base 3 C.S "is_table_number" ["self", "number"] (spIsTabNum C) fN fdN) :
    FnOk P w K mg base (L2.CX P w) 4 f fd ["self", "process", "number"] (spThingAt C D) := by
  refine F.okX scThingAt (fun vs H Q E h => ?_) (fun cdv A outer s H vs Q E hr h => ?_)
  · obtain ⟨_, _, _, _, _, _, rfl, _⟩ := h
    rfl
  · obtain ⟨p, n, x, S, ad, dx, rfl, A0, M, hz, k1, k2⟩ := h
    have hr2 : Room 2 _ := hr.mono (by decide)
    refine ⟨_, pss_cons (ps_set (i := 3) scThingAt.nd rfl (Or.inl rfl) (pe_meth (pv 0) T.cl GT.m GT.g hr GT.b .nil pass0 (pa_cons (pv 1) pa_nil)))
      (pss_cons (ps_if (PW.pt (pw_or (pt_not (pt_val (pe_meth (pv 0) T.cl GN.m GN.g hr GN.b .nil pass0 (pa_cons (pv 2) pa_nil)))) (pw_or1 (pt_cmpR oIsN (pe_ix ix_list (pv 3) (pv 2) (fun _ _ => rfl)) pe_non (nomark _)))))
          (pss_one (ps_raise rfl (takes_of rfl rfl rfl rfl) (pmk_oxb bxLookup TE.ox TE.iC TE.tI GI hr2 TE.bI .nil pass0 (by rfl) TE.gC (pa_cons (pv 2) pa_nil)))) pss_nil)
      (pss_one (ps_ret (pe_ix ix_list (pv 3) (pv 2) (fun _ _ => rfl))))), ?_⟩
    have hb := A0.at_ .box trivial
    have ht := A0.at_ (.tab p) M.pr
    have sm := small_int M.lo hz
    walk_at "wn"
    refine ⟨_, rfl, ad .box, dx .box, _, rfl, hb, rfl, ?_⟩
    walk_at "wn"
    refine ⟨p, S, ad, dx, rfl, A0, M.pr, ?_⟩
    walk_at "wn"
    refine ⟨_, rfl, ad .box, dx .box, _, rfl, hb, rfl, ?_⟩
    walk_at "wn"
    refine ⟨n, S, ad, dx, rfl, A0, ?_⟩
    dsimp only
    rw [decide_eq_true M.lo]
    by_cases hn : n ≤ S.N - 1
    · obtain ⟨m, hm⟩ := Int.eq_ofNat_of_zero_le M.lo
      have hat : atI ((S.tab p).map optV) n = some (optV x) := by
        have e := M.at_ hn
        rw [hm] at e ⊢
        refine atI_nat ?_
        rw [List.getElem?_map, show (S.tab p)[m]? = some x from e]
        rfl
      rw [decide_eq_true hn]
      walk_at "wn"
      refine ⟨_, rfl, ?_⟩
      walk_at "wn"
      refine ⟨ad (.tab p), _, n, _, rfl, rfl, SqL.of ht, hat, ?_⟩
      walk_at "wn"
      cases x with
      | none =>
        have e : decide (optV none = V.non) = true := decide_eq_true rfl
        rw [e]
        walk_at "wn"
        show tCons _ _ _ _ _
        walk_at "wn"
        exact out_made sm.1 sm.2 (k2 rfl)
      | some t =>
        have e : decide (optV (some t) = V.non) = false := decide_eq_false fun z => nomatch z
        rw [e]
        walk_at "wn"
        exact ⟨ad (.tab p), _, n, _, rfl, rfl, SqL.of ht, hat, k1 t rfl⟩
    · rw [decide_eq_false hn]
      walk_at "wn"
      refine ⟨_, rfl, ?_⟩
      walk_at "wn"
      exact out_made sm.1 sm.2 (k2 (M.out (by omega)))
/-! free_number -/
def spFreeNum (C : Cs) (D : Addr) : Sp := fun vs H Q E => ∃ p : Int, OnSys C vs H [.int p] fun S _ _ => p ∈ S.procs ∧ 0 ≤ p ∧ p ≤ 1000 ∧ (S.tab p).length ≤ 1000 ∧ (∀ n, firstFree (S.tab p) n → ∀ H', Same H H' → Q (.int (n : Int)) H') ∧ (Ful (S.tab p) → Out D "process" p H E)
theorem scFreeNum : FnScope ["self", "process", "number", "thing"] ["self", "process"] (defScope sFreeNum) := ⟨rfl, rfl, rfl, by decide +kernel, rfl, by decide +kernel, by decide +kernel⟩
theorem okFreeNum {D f fT fI : Addr} {fd fdT fdI : FuncData} (F : Fun K "free_number" "System.free_number" sFreeNum f fd) (X : SysTxt mg) (T : ClsF K C.S sysF) (TE : FullE K mg D fI fdI) (GI : FnOk P w K mg base CX0 1 fI fdI ["self", "process"] (spErrInit D "process")) (GT : MO P w K mg base 3 C.S "table_of" ["self", "process"] (spTableOf C) fT fdT) :
    FnOk P w K mg base (L2.CX P w) 4 f fd ["self", "process"] (spFreeNum C D) := by
  refine F.okX scFreeNum (fun vs H Q E h => ?_) (fun cdv A outer s H vs Q E hr h => ?_)
  · obtain ⟨_, _, _, _, rfl, _⟩ := h
    rfl
  · obtain ⟨p, S, ad, dx, rfl, A0, hp, p0, p1, hl, k1, k2⟩ := h
    have hr2 : Room 2 _ := hr.mono (by decide)
    refine ⟨_, pss_cons (ps_for PassesOwn.leaving rfl (pi_enum (by rfl) X.enum (pa_cons (pe_meth (pv 0) T.cl GT.m GT.g hr GT.b .nil pass0 (pa_cons (pv 1) pa_nil)) pa_nil)) (pg_tup rfl (pgs_cons (pg_name (i := 2) scFreeNum.nd rfl (Or.inl rfl)) (pgs_cons (pg_name (i := 3) scFreeNum.nd rfl (Or.inl rfl)) pgs_nil)))
        (pss_one (ps_if (pt_cmpR oIsN (pv 3) pe_non (nomark _)) (pss_one (ps_ret (pv 2))) pss_nil)))
      (pss_one (ps_raise rfl (takes_of rfl rfl rfl rfl) (pmk_oxb bxOverflow TE.ox TE.iC TE.tI GI hr2 TE.bI .nil pass0 (by rfl) TE.gC (pa_cons (pv 1) pa_nil)))), ?_⟩
    have hb := A0.at_ .box trivial
    have ht := A0.at_ (.tab p) hp
    have sml := small_int p0 p1
    refine ⟨_, rfl, ad .box, dx .box, _, rfl, hb, rfl, ?_⟩
    walk_at "wn"
    refine ⟨p, S, ad, dx, rfl, A0, hp, ?_⟩
    refine ⟨ad (.tab p), _, rfl, SqL.of ht, ?_⟩
    refine for_it (walk_enum (xs := (S.tab p).map optV)) (fun i σ' H1 => ∃ u v : Option V, σ' = [some (.ref (ad .box)), some (.int p), u, v] ∧ Same H H1 ∧ ∀ j, j < i → ∃ x, (S.tab p)[j]? = some (some x)) ⟨_, _, rfl, Same.refl _, fun j h => absurd h (Nat.not_lt_zero _)⟩ (fun i σ' H1 _ ⟨_, _, _, sm, _⟩ => Same.seq sm (SqL.of ht)) ?_ ?_
    · rintro i x σ' H1 H2 hi ⟨u, v, rfl, sm, hlo⟩ ⟨T1, x1, y1, rfl, nT, rfl, ex, ey⟩
      have smT := sm.trans (Same.new' (o := .tup [x1, y1]) nT)
      obtain rfl := Option.some.inj ex
      have ey : ((S.tab p).map optV)[i]? = some y1 := ey
      rw [List.getElem?_map] at ey
      refine ⟨T1, _, rfl, SqT.of upd_same, rfl, _, _, rfl, ?_⟩
      walk_at "wn"
      refine ⟨_, _, rfl, ?_⟩
      walk_at "wn"
      refine ⟨rfl, ?_⟩
      walk_at "wn"
      cases et : (S.tab p)[i]? with
      | none => rw [et] at ey; cases ey
      | some x =>
      rw [et] at ey
      cases ey
      cases x with
      | some t =>
        have e : decide (optV (some t) = V.non) = false := decide_eq_false fun z => nomatch z
        rw [e]
        walk_at "wn"
        refine ⟨_, _, rfl, smT, fun j hj => ?_⟩
        rcases Nat.lt_or_ge j i with z | z
        · exact hlo j z
        · obtain rfl : j = i := by omega
          exact ⟨t, et⟩
      | none =>
        have e : decide (optV none = V.non) = true := decide_eq_true rfl
        rw [e]
        walk_at "wn"
        exact k1 i ⟨et, hlo⟩ _ smT
    · rintro σ' H1 ⟨u, v, rfl, sm, hlo⟩
      rw [List.length_map] at hlo
      show tMkO D (spErrInit D "process") [] (tCons (tVar 1) tNil) _ H1 fun cls d H' => E cls d H'
      show tCons _ _ _ _ _
      walk_at "wn"
      exact out_made sml.1 sml.2 ((k2 hlo).same sm)
/-! new_thing -/
def spNewThing (C : Cs) (D : Addr) : Sp := fun vs H Q E => ∃ p : Int, OnSys C vs H [.int p] fun S ad dx => p ∈ S.procs ∧ 0 ≤ p ∧ p ≤ 1000 ∧ (S.tab p).length ≤ 1000 ∧
  (∀ n, firstFree (S.tab p) n → ∀ H' T, H T = none → H' T = some (.tup [.int (n : Int), .int S.next]) → At C H' (newThing S p n) ad dx → Step H S ad H' (newThing S p n) ad → Q (.ref T) H') ∧ (Ful (S.tab p) → Out D "process" p H E)
theorem scNewThing : FnScope ["self", "process", "number", "thing"] ["self", "process"] (defScope sNewThing) := ⟨rfl, rfl, rfl, by decide +kernel, rfl, by decide +kernel, by decide +kernel⟩
theorem okNewThing {D f fF : Addr} {fd fdF : FuncData} (F : Fun K "new_thing" "System.new_thing" sNewThing f fd) (T : ClsF K C.S sysF) (GF : ME P w K mg base 4 C.S "free_number" ["self", "process"] (spFreeNum C D) fF fdF) :
    FnOk P w K mg base (L2.CX P w) 5 f fd ["self", "process"] (spNewThing C D) := by
  refine F.okX scNewThing (fun vs H Q E h => ?_) (fun cdv A outer s H vs Q E hr h => ?_)
  · obtain ⟨_, _, _, _, rfl, _⟩ := h
    rfl
  · obtain ⟨p, S, ad, dx, rfl, A0, hp, p0, p1, hl, k1, k2⟩ := h
    have hu := hu_of hr
    refine ⟨_, pss_cons (ps_set (i := 2) scNewThing.nd rfl (Or.inl rfl) (pe_meth (pv 0) T.cl GF.m GF.g hr GF.b .nil (passX (takes_of rfl rfl rfl rfl)) (pa_cons (pv 1) pa_nil)))
      (pss_cons (ps_set (i := 3) scNewThing.nd rfl (Or.inl rfl) (pe_fld (pv 0) rfl))
      (pss_cons (ps_fldaug (pv 0) pe_int in_add)
      (pss_cons (ps_asg (pv 3) (pg_sub (pe_dget hu (pe_fld (pv 0) rfl) (pv 1) (fun _ _ => rfl)) (pv 2) set_list))
      (pss_one (ps_ret (pe_tup (pa_cons (pv 2) (pa_cons (pv 3) pa_nil)))))))), ?_⟩
    walk_at "wn"
    refine ⟨_, rfl, ad .box, dx .box, _, rfl, A0.at_ .box trivial, rfl, ?_⟩
    walk_at "wn"
    refine ⟨p, S, ad, dx, rfl, A0, hp, p0, p1, hl, fun n hf H1 s1 => ?_, k2⟩
    have A1 := A0.same s1
    have hb := A1.at_ .box trivial
    have ht := A1.at_ (.tab p) hp
    have nbt : ad .box ≠ ad (.tab p) := A1.ne (c := .box) (c' := .tab p) trivial hp (by intro z; cases z)
    have nbd : ad .tabD ≠ ad .box := A1.ne (c := .tabD) (c' := .box) trivial trivial (by intro z; cases z)
    walk_at "wn"
    refine ⟨_, rfl, ad .box, C.S, dx .box, _, _, rfl, hb, T.cl, T.no _ (by decide), rfl, ?_⟩
    walk_at "wn"
    refine ⟨_, rfl, ad .box, C.S, dx .box, _, _, rfl, hb, T.cl, T.no _ (by decide), rfl, ?_⟩
    refine ⟨_, _, rfl, rfl, ?_⟩
    refine ⟨_, _, hb, by show 6 < 1000; decide, ?_⟩
    walk_at "wn"
    have hv : valV (entKV S.procs fun p => ad (.tab p)) (Sum.inl p) = some (.ref (ad (.tab p))) := by rw [ent_val, if_pos hp]
    refine ⟨_, rfl, ad .box, C.S, dx .box, _, _, rfl, upd_same, T.cl, T.no _ (by decide), rfl, ?_⟩
    refine ⟨_, rfl, ad .tabD, _, rfl, hv ▸ DGet.k (k := Sum.inl p) (by rw [upd_ne nbd]; exact A1.at_ .tabD trivial), ?_⟩
    have hn : n < (S.tab p).length := (List.getElem?_eq_some_iff.mp hf.1).1
    refine ⟨_, rfl, ad (.tab p), _, _, n, rfl, rfl, by rw [upd_ne (Ne.symm nbt)]; exact ht, by rw [List.length_map]; exact ixN_nat hn, ?_⟩
    walk_at "wn"
    refine ⟨by show 2 ≤ sizeLine; decide, fun T1 hT => ?_⟩
    have nTt : T1 ≠ ad (.tab p) := fun z => by rw [z, upd_same] at hT; cases hT
    rw [upd_ne nTt] at hT
    have nTb : T1 ≠ ad .box := fun z => by rw [z, upd_same] at hT; cases hT
    rw [upd_ne nTb] at hT
    refine (fun z : At C _ _ _ _ ∧ Step _ _ _ _ _ _ => k1 n hf _ T1 (s1.free hT) upd_same z.1 ((Step.same s1).trans z.2)) ?_
    refine At.re2 [.box, .tab p] A1 (fun c l => by cases c <;> exact l) (fun c hc => ?_) (fun c hc => ?_) (fun c hc l => ?_) (fun b o n e => ?_)
    · simp only [List.mem_cons, List.not_mem_nil, or_false] at hc
      rcases hc with rfl | rfl
      · exact trivial
      · exact hp
    · simp only [List.mem_cons, List.not_mem_nil, or_false] at hc
      rcases hc with rfl | rfl
      · rw [upd_ne (Ne.symm nTb), upd_ne nbt, upd_same]
        rfl
      · rw [upd_ne (Ne.symm nTt), upd_same]
        show _ = some (HO.lst ((if p = p then (S.tab p).set n (some S.next) else S.tab p).map optV))
        rw [if_pos rfl, List.map_set]
        rfl
    · cases c with
      | box => exact absurd List.mem_cons_self hc
      | tab q =>
        have nq : q ≠ p := fun z => hc (by rw [z]; simp)
        show HO.lst ((if q = p then (S.tab p).set n (some S.next) else S.tab q).map optV) = _
        rw [if_neg nq]
        rfl
      | _ => rfl
    · have n1 := n .box (by simp)
      have n2 := n (.tab p) (by simp)
      rw [upd_ne (ne_of_none e hT), upd_ne n2, upd_ne n1]
      exact e
def newSource (S : Sys) (p : Int) (n : Nat) : Sys := { newThing S p n with
  srcs := S.srcs ++ [S.next]
  unit := fun j => if j = S.next then (0, false) else S.unit j }
def newSet (S : Sys) (p : Int) (n : Nat) : Sys := { newThing S p n with
  sets := S.sets ++ [S.next] }
def spNewSource (C : Cs) (D : Addr) : Sp := fun vs H Q E => ∃ p : Int, OnSys C vs H [.int p] fun S ad dx => p ∈ S.procs ∧ 0 ≤ p ∧ p ≤ 1000 ∧ (S.tab p).length ≤ 1000 ∧ S.srcs.length ≤ 1000 ∧ S.next ∉ S.srcs ∧
  (∀ n, firstFree (S.tab p) n → ∀ H' ad', At C H' (newSource S p n) ad' dx → Step H S ad H' (newSource S p n) ad' → Q (.int (n : Int)) H') ∧ (Ful (S.tab p) → Out D "process" p H E)
theorem scNewSource : FnScope ["self", "process", "number", "thing"] ["self", "process"] (defScope sNewSource) := ⟨rfl, rfl, rfl, by decide +kernel, rfl, by decide +kernel, by decide +kernel⟩
theorem okNewSource {D f fN : Addr} {fd fdN : FuncData} (F : Fun K "new_source" "System.new_source" sNewSource f fd) (T : ClsF K C.S sysF) (GN : ME P w K mg base 5 C.S "new_thing" ["self", "process"] (spNewThing C D) fN fdN) :
    FnOk P w K mg base (L2.CX P w) 6 f fd ["self", "process"] (spNewSource C D) := by
  refine F.okX scNewSource (fun vs H Q E h => ?_) (fun cdv A outer s H vs Q E hr h => ?_)
  · obtain ⟨_, _, _, _, rfl, _⟩ := h
    rfl
  · obtain ⟨p, S, ad, dx, rfl, A0, hp, p0, p1, hl, hz, hnx, k1, k2⟩ := h
    have hu := hu_of hr
    refine ⟨_, pss_cons (ps_asg (pe_meth (pv 0) T.cl GN.m GN.g hr GN.b .nil (passX (takes_of rfl rfl rfl rfl)) (pa_cons (pv 1) pa_nil)) (pg_tup rfl (pgs_cons (pg_name (i := 2) scNewSource.nd rfl (Or.inl rfl)) (pgs_cons (pg_name (i := 3) scNewSource.nd rfl (Or.inl rfl)) pgs_nil))))
      (pss_cons (ps_dput hu (pe_fld (pv 0) rfl) (pv 3) (pe_tup (pa_cons pe_int (pa_cons pe_bl pa_nil))) rfl) (pss_one (ps_ret (pv 2)))), ?_⟩
    walk_at "wn"
    refine ⟨_, rfl, ad .box, dx .box, _, rfl, A0.at_ .box trivial, rfl, ?_⟩
    walk_at "wn"
    refine ⟨p, S, ad, dx, rfl, A0, hp, p0, p1, hl, fun n hf H1 T1 hT1 hT A1 st1 => ?_, k2⟩
    refine ⟨T1, _, rfl, SqT.of hT, rfl, _, _, rfl, ?_⟩
    walk_at "wn"
    refine ⟨_, _, rfl, ?_⟩
    walk_at "wn"
    refine ⟨rfl, ?_⟩
    walk_at "wn"
    refine ⟨by show 2 ≤ sizeLine; decide, fun T2 hT2 => ?_⟩
    have hb := A1.at_ .box trivial
    have hD : H1 (ad .srcD) = some (.dK (entKV S.srcs fun t => ad (.srcT t))) := A1.at_ .srcD trivial
    have nTD : T2 ≠ ad .srcD := fun z => by rw [z, hD] at hT2; cases hT2
    have nTb : ad .box ≠ T2 := ne_of_none hb hT2
    refine ⟨_, rfl, ad .box, C.S, dx .box, _, _, rfl, by rw [upd_ne nTb]; exact hb, T.cl, T.no _ (by decide), rfl, ?_⟩
    refine ⟨_, rfl, ad .srcD, _, rfl, DPut.k (k := Sum.inl S.next) (by rw [upd_ne (Ne.symm nTD)]; exact hD) (by unfold entKV; rw [List.length_map, sizeLine_eq]; omega), ?_⟩
    walk_at "wn"
    refine (fun z : At C _ _ _ _ ∧ Step H1 (newThing S p n) ad _ _ _ => k1 n hf _ (setA ad (.srcT S.next) T2) z.1 (st1.trans z.2)) ?_
    refine At.re3 [.srcD, .srcT S.next] A1 (fun c lc => ?_) (fun c hc lc => ?_) (fun c hc lc => ?_) (fun c hc lc => ?_) (fun c hc c' hc' lc lc' z e => ?_) (fun b o nb e => ?_) (setA_ne (by intro z; cases z))
    · cases c with
      | srcT t =>
        rcases List.mem_append.mp (show t ∈ S.srcs ++ [S.next] from lc) with y | y
        · exact .inr y
        · rw [List.mem_singleton.mp y]
          exact .inl (by simp)
      | _ => exact .inr lc
    · simp only [List.mem_cons, List.not_mem_nil, or_false] at hc
      rcases hc with rfl | rfl
      · rw [setA_ne (by intro z; cases z), upd_same, ent_put, if_neg hnx, srcT_fun]
        rfl
      · rw [setA_same, upd_ne nTD, upd_same]
        show _ = some (HO.tup [.int (if S.next = S.next then ((0 : Int), false) else S.unit S.next).1, .bl (if S.next = S.next then ((0 : Int), false) else S.unit S.next).2])
        rw [if_pos rfl]
    · have n1 : c ≠ .srcD := fun z => hc (by rw [z]; simp)
      have n2 : c ≠ .srcT S.next := fun z => hc (by rw [z]; simp)
      refine ⟨setA_ne n2, ?_⟩
      cases c with
      | srcD => exact absurd rfl n1
      | srcT j =>
        have nj : j ≠ S.next := fun z => n2 (by rw [z])
        show HO.tup [.int (if j = S.next then ((0 : Int), false) else S.unit j).1, .bl (if j = S.next then ((0 : Int), false) else S.unit j).2] = _
        rw [if_neg nj]
        rfl
      | _ => rfl
    · simp only [List.mem_cons, List.not_mem_nil, or_false] at hc
      rcases hc with rfl | rfl
      · exact .inl ⟨setA_ne (by intro z; cases z), trivial⟩
      · exact .inr (by rw [setA_same]; exact hT2)
    · simp only [List.mem_cons, List.not_mem_nil, or_false] at hc hc'
      rcases hc with rfl | rfl
      · rw [setA_ne (by intro z; cases z), hD] at z
        cases z
      · rcases hc' with rfl | rfl
        · rw [setA_same, setA_ne (by intro z; cases z)] at e
          exact absurd e nTD
        · rfl
    · rw [upd_ne (nb .srcD (by simp) trivial), upd_ne (ne_of_none e hT2)]
      exact e
def spNewSet (C : Cs) (D : Addr) : Sp := fun vs H Q E => ∃ p : Int, OnSys C vs H [.int p] fun S ad dx => p ∈ S.procs ∧ 0 ≤ p ∧ p ≤ 1000 ∧ (S.tab p).length ≤ 1000 ∧ S.sets.length ≤ 1000 ∧ S.next ∉ S.sets ∧
  (∀ n, firstFree (S.tab p) n → ∀ H' ad' dx', At C H' (newSet S p n) ad' dx' → Step H S ad H' (newSet S p n) ad' → Q (.int (n : Int)) H') ∧ (Ful (S.tab p) → Out D "process" p H E)
theorem scNewSet : FnScope ["self", "process", "number", "thing"] ["self", "process"] (defScope sNewSet) := ⟨rfl, rfl, rfl, by decide +kernel, rfl, by decide +kernel, by decide +kernel⟩
theorem okNewSet {D f fN fI : Addr} {fd fdN fdI : FuncData} (F : Fun K "new_set" "System.new_set" sNewSet f fd) (T : ClsF K C.S sysF) (GN : ME P w K mg base 5 C.S "new_thing" ["self", "process"] (spNewThing C D) fN fdN)
    (gW : mg "WaitingSet" = some (.ref C.W)) (MW : Mk K C.W fI) (GI : FnOk P w K mg base CX0 1 fI fdI ["self"] (spWsInit C.W)) (bI : Binds K fdI ["self"] []) :
    FnOk P w K mg base (L2.CX P w) 6 f fd ["self", "process"] (spNewSet C D) := by
  refine F.okX scNewSet (fun vs H Q E h => ?_) (fun cdv A outer s H vs Q E hr h => ?_)
  · obtain ⟨_, _, _, _, rfl, _⟩ := h
    rfl
  · obtain ⟨p, S, ad, dx, rfl, A0, hp, p0, p1, hl, hz, hnx, k1, k2⟩ := h
    have hu := hu_of hr
    have hr2 : Room 2 _ := hr.mono (by decide)
    refine ⟨_, pss_cons (ps_asg (pe_meth (pv 0) T.cl GN.m GN.g hr GN.b .nil (passX (takes_of rfl rfl rfl rfl)) (pa_cons (pv 1) pa_nil)) (pg_tup rfl (pgs_cons (pg_name (i := 2) scNewSet.nd rfl (Or.inl rfl)) (pgs_cons (pg_name (i := 3) scNewSet.nd rfl (Or.inl rfl)) pgs_nil))))
      (pss_cons (ps_dput hu (pe_fld (pv 0) rfl) (pv 3) (pe_make0 MW GI hr2 (by rfl) gW bI .nil pass0) rfl) (pss_one (ps_ret (pv 2)))), ?_⟩
    walk_at "wn"
    refine ⟨_, rfl, ad .box, dx .box, _, rfl, A0.at_ .box trivial, rfl, ?_⟩
    walk_at "wn"
    refine ⟨p, S, ad, dx, rfl, A0, hp, p0, p1, hl, fun n hf H1 T1 hT1 hT A1 st1 => ?_, k2⟩
    refine ⟨T1, _, rfl, SqT.of hT, rfl, _, _, rfl, ?_⟩
    walk_at "wn"
    refine ⟨_, _, rfl, ?_⟩
    walk_at "wn"
    refine ⟨rfl, ?_⟩
    refine (fun x dx2 hx hdx ndx => ?_ : ∀ x dx2, _ → _ → _ → _)
    refine ⟨x, dx2, rfl, upd_same, fun H2 e q he hq h2e h2q h2x h2 => ⟨rfl, ?_⟩⟩
    have nex : e ≠ x := fun z => by rw [z, upd_same] at he; cases he
    have nqx : q ≠ x := fun z => by rw [z, upd_same] at hq; cases hq
    rw [upd_ne nex] at he
    rw [upd_ne nqx] at hq
    have ned : e ≠ dx2 := fun z => by rw [z, upd_same] at he; cases he
    have nqd : q ≠ dx2 := fun z => by rw [z, upd_same] at hq; cases hq
    rw [upd_ne ned] at he
    rw [upd_ne nqd] at hq
    have neq : e ≠ q := fun z => by rw [z, h2q] at h2e; cases h2e
    have s2 : Same H1 H2 := fun b o y => by
      rw [h2 b (ne_of_none y hx) (ne_of_none y he) (ne_of_none y hq), upd_ne (ne_of_none y hx), upd_ne (ne_of_none y hdx)]
      exact y
    have A2 := A1.same s2
    have hb := A2.at_ .box trivial
    have hD : H2 (ad .setD) = some (.dK (entKV S.sets fun t => ad (.ws t))) := A2.at_ .setD trivial
    have hD1 : H1 (ad .setD) = some (.dK (entKV S.sets fun t => ad (.ws t))) := A1.at_ .setD trivial
    have nxD : x ≠ ad .setD := fun z => by rw [z, hD1] at hx; cases hx
    have neD : e ≠ ad .setD := fun z => by rw [z, hD1] at he; cases he
    have nqD : q ≠ ad .setD := fun z => by rw [z, hD1] at hq; cases hq
    refine ⟨_, rfl, ad .box, C.S, dx .box, _, _, rfl, hb, T.cl, T.no _ (by decide), rfl, ?_⟩
    refine ⟨_, rfl, ad .setD, _, rfl, DPut.k (k := Sum.inl S.next) hD (by unfold entKV; rw [List.length_map, sizeLine_eq]; omega), ?_⟩
    walk_at "wn"
    have wf : (fun j => if j = S.next then x else ad (.ws j)) = fun j => setA (setA (setA ad (.ws S.next) x) (.ent S.next) e) (.que S.next) q (.ws j) := by
      funext j
      rw [setA_ne (by intro z; cases z), setA_ne (by intro z; cases z)]
      by_cases h : j = S.next
      · rw [if_pos h, h, setA_same]
      · rw [if_neg h, setA_ne fun z => h (by cases z; rfl)]
    have aw : setA (setA (setA ad (.ws S.next) x) (.ent S.next) e) (.que S.next) q (.ws S.next) = x := by rw [setA_ne (by intro z; cases z), setA_ne (by intro z; cases z), setA_same]
    have ae : setA (setA (setA ad (.ws S.next) x) (.ent S.next) e) (.que S.next) q (.ent S.next) = e := by rw [setA_ne (by intro z; cases z), setA_same]
    have aq : setA (setA (setA ad (.ws S.next) x) (.ent S.next) e) (.que S.next) q (.que S.next) = q := setA_same
    have ao : ∀ c, c ≠ .ws S.next → c ≠ .ent S.next → c ≠ .que S.next → setA (setA (setA ad (.ws S.next) x) (.ent S.next) e) (.que S.next) q c = ad c := fun c h1 h2 h3 => by rw [setA_ne h3, setA_ne h2, setA_ne h1]
    refine (fun z : At C _ _ _ _ ∧ Step H1 (newThing S p n) ad _ _ _ => k1 n hf _ (setA (setA (setA ad (.ws S.next) x) (.ent S.next) e) (.que S.next) q) (setA dx (.ws S.next) dx2) z.1 (st1.trans z.2)) ?_
    refine At.re3 [.setD, .ws S.next, .ent S.next, .que S.next] A1 (fun c lc => ?_) (fun c hc lc => ?_) (fun c hc lc => ?_) (fun c hc lc => ?_) (fun c hc c' hc' lc lc' z ee => ?_) (fun b o nb ee => ?_) (ao _ (by intro z; cases z) (by intro z; cases z) (by intro z; cases z))
    · have split : ∀ t, t ∈ S.sets ++ [S.next] → t ∈ S.sets ∨ t = S.next := fun t h => by
        rcases List.mem_append.mp h with y | y
        · exact .inl y
        · exact .inr (List.mem_singleton.mp y)
      cases c with
      | ws t =>
        rcases split t lc with y | rfl
        · exact .inr y
        · exact .inl (by simp)
      | ent t =>
        rcases split t lc with y | rfl
        · exact .inr y
        · exact .inl (by simp)
      | que t =>
        rcases split t lc with y | rfl
        · exact .inr y
        · exact .inl (by simp)
      | _ => exact .inr lc
    · simp only [List.mem_cons, List.not_mem_nil, or_false] at hc
      rcases hc with rfl | rfl | rfl | rfl
      · rw [ao _ (by intro z; cases z) (by intro z; cases z) (by intro z; cases z), upd_same, ent_put, if_neg hnx, wf]
        rfl
      · rw [aw, upd_ne nxD, h2x]
        show _ = some (wsO C.W (setA dx (.ws S.next) dx2 (.ws S.next)) _ _)
        rw [setA_same, ae, aq]
      · rw [ae, upd_ne neD, h2e]
        rfl
      · rw [aq, upd_ne nqD, h2q]
        rfl
    · have n1 : c ≠ .setD := fun z => hc (by rw [z]; simp)
      have n2 : c ≠ .ws S.next := fun z => hc (by rw [z]; simp)
      have n3 : c ≠ .ent S.next := fun z => hc (by rw [z]; simp)
      have n4 : c ≠ .que S.next := fun z => hc (by rw [z]; simp)
      refine ⟨ao c n2 n3 n4, ?_⟩
      cases c with
      | setD => exact absurd rfl n1
      | ws t =>
        have nt : t ≠ S.next := fun z => n2 (by rw [z])
        show wsO C.W (setA dx (.ws S.next) dx2 (.ws t)) _ _ = _
        rw [setA_ne n2, ao (.ent t) (by intro z; cases z) (fun z => nt (by cases z; rfl)) (by intro z; cases z), ao (.que t) (by intro z; cases z) (by intro z; cases z) (fun z => nt (by cases z; rfl))]
        rfl
      | _ => rfl
    · simp only [List.mem_cons, List.not_mem_nil, or_false] at hc
      rcases hc with rfl | rfl | rfl | rfl
      · exact .inl ⟨ao _ (by intro z; cases z) (by intro z; cases z) (by intro z; cases z), trivial⟩
      · exact .inr (by rw [aw]; exact hx)
      · exact .inr (by rw [ae]; exact he)
      · exact .inr (by rw [aq]; exact hq)
    · simp only [List.mem_cons, List.not_mem_nil, or_false] at hc hc'
      have oD : setA (setA (setA ad (.ws S.next) x) (.ent S.next) e) (.que S.next) q .setD = ad .setD := ao _ (by intro z; cases z) (by intro z; cases z) (by intro z; cases z)
      rcases hc with rfl | rfl | rfl | rfl
      · rw [oD, hD1] at z
        cases z
      · rcases hc' with rfl | rfl | rfl | rfl
        · rw [aw, oD] at ee
          exact absurd ee nxD
        · rfl
        · rw [aw, ae] at ee
          exact absurd ee.symm nex
        · rw [aw, aq] at ee
          exact absurd ee.symm nqx
      · rcases hc' with rfl | rfl | rfl | rfl
        · rw [ae, oD] at ee
          exact absurd ee neD
        · rw [aw, ae] at ee
          exact absurd ee nex
        · rfl
        · rw [ae, aq] at ee
          exact absurd ee neq
      · rcases hc' with rfl | rfl | rfl | rfl
        · rw [aq, oD] at ee
          exact absurd ee nqD
        · rw [aw, aq] at ee
          exact absurd ee nqx
        · rw [ae, aq] at ee
          exact absurd ee.symm neq
        · rfl
    · rw [upd_ne (nb .setD (by simp) trivial)]
      exact s2 _ _ ee
end

abbrev sClose : Stmt := meth 19 7
abbrev sNumbers : Stmt := meth 19 17
abbrev sSame : Stmt := meth 19 18
abbrev sFree : Stmt := meth 19 40
abbrev sEndThing : Stmt := meth 19 41
abbrev sDropSource : Stmt := meth 15 6
/-! WaitingSet.drop -/
theorem ent_drop (ls : List Int) (ad : Int → Addr) (l : Int) : dropK (entKV ls ad) (Sum.inl l) = entKV (ls.filter fun x => decide (x ≠ l)) ad := by
  unfold dropK entKV
  induction ls with
  | nil => rfl
  | cons x ls ih =>
    rw [List.map_cons, List.filter_cons, List.filter_cons, ih]
    by_cases h : x = l
    · have e1 : decide ((Sum.inl x : Key) ≠ Sum.inl l) = false := decide_eq_false fun z => z (by rw [h])
      have e2 : decide (x ≠ l) = false := decide_eq_false fun z => z h
      rw [e2]
      show (if decide ((Sum.inl x : Key) ≠ Sum.inl l) = true then _ else _) = _
      rw [e1]
      rfl
    · have e1 : decide ((Sum.inl x : Key) ≠ Sum.inl l) = true := decide_eq_true fun z => h (Sum.inl.inj z)
      have e2 : decide (x ≠ l) = true := decide_eq_true h
      rw [e2]
      show (if decide ((Sum.inl x : Key) ≠ Sum.inl l) = true then _ else _) = _
      rw [e1]
      rfl
def without (l : Int) (ls : List Int) : List Int := ls.filter fun x => decide (x ≠ l)
theorem mem_without {l x : Int} {ls : List Int} : x ∈ without l ls ↔ x ∈ ls ∧ x ≠ l := by
  unfold without
  rw [List.mem_filter]
  simp
theorem inV_opt (t : Int) : ∀ l : List (Option Int), inV (.int t) (l.map optV) = decide (some t ∈ l)
  | [] => rfl
  | x :: l => by
    have ih := inV_opt t l
    unfold inV at ih ⊢
    rw [List.map_cons, List.any_cons, ih]
    have e : eqV (optV x) (V.int t) = decide (x = some t) := by
      cases x with
      | none => rfl
      | some y =>
        show decide (y = t) = _
        by_cases h : y = t
        · rw [decide_eq_true h, decide_eq_true (by rw [h])]
        · rw [decide_eq_false h, decide_eq_false (fun z => h (by cases z; rfl))]
    rw [e]
    by_cases h : x = some t
    · rw [decide_eq_true h, Bool.true_or]
      exact (decide_eq_true (by rw [h]; exact List.mem_cons_self)).symm
    · rw [decide_eq_false h, Bool.false_or]
      by_cases h2 : some t ∈ l
      · rw [decide_eq_true h2]
        exact (decide_eq_true (List.mem_cons_of_mem _ h2)).symm
      · rw [decide_eq_false h2]
        exact (decide_eq_false fun z => (List.mem_cons.mp z).elim (fun e => h e.symm) h2).symm
theorem flat_opts (l : List (Option Int)) : (l.map optV).all flatV = true := by
  rw [List.all_map, List.all_eq_true]
  intro x _
  cases x <;> rfl
section
variable {P : Program} {w : World} {K : PySem.W.Frag} {mg : Str → Option Value} {base : Heap} {C : Cs} {CW : Addr}
/-! drop_source: there are no entries -/
def spDropSource (CW : Addr) : Sp := fun vs H Q _ => ∃ (a dx e q : Addr) (s : Int), vs = [.ref a, .int s] ∧ H a = some (wsO CW dx e q) ∧ H e = some (.dK []) ∧ ∀ H', Same H H' → Q .non H'
theorem scDropSource : FnScope ["self", "source", "labels", "label", "kept"] ["self", "source"] (defScope sDropSource) := ⟨rfl, rfl, rfl, by decide +kernel, rfl, by decide +kernel, by decide +kernel⟩
theorem okDropSource {f : Addr} {fd : FuncData} (F : Fun K "drop_source" "WaitingSet.drop_source" sDropSource f fd) (T : ClsF K CW wsF) : FnOk P w K mg base CX0 1 f fd ["self", "source"] (spDropSource CW) := by
  refine F.ok scDropSource (fun vs H Q E h => ?_) (fun cdv A outer s H vs Q E hr h => ?_)
  · obtain ⟨_, _, _, _, _, rfl, _⟩ := h
    rfl
  · obtain ⟨a, dx, e, q, s, rfl, ha, he, k⟩ := h
    refine ⟨_, pss_cons (ps_lock (ps_setLc (i := 2) (own := [("label", 3), ("kept", 4)]) (g := gTup K 2 (gCons (gName 3) (gCons (gName 4) gNil))) (tt := tTest (tOp rEq (tFld K (tVar 4) "source") (tVar 1))) (te := tVar 3) rfl scDropSource.nd rfl rfl rfl (pi_items (pe_fld (pv 0) rfl)) (blkOk_by (N := ["self", "source", "labels", "label", "kept"]) (sc := defScope sDropSource) (by decide +kernel))
        (fun _ _ _ _ _ => pg_tup rfl (pgs_cons (pg_name (i := 3) scDropSource.nd rfl (Or.inl rfl)) (pgs_cons (pg_name (i := 4) scDropSource.nd rfl (Or.inl rfl)) pgs_nil))) (fun _ _ _ _ _ => pts_one (pt_cmpR op_eq (pe_fld (pv 4) rfl) (pv 1) (nomark _))) (fun _ _ _ _ _ => pv 3)))
      (pss_one (ps_for PassesOwn.never rfl (pi_list (pv 2)) (pg_name (i := 3) scDropSource.nd rfl (Or.inl rfl)) (pss_one ps_never))), ?_⟩
    have nae : a ≠ e := ne_of ha he (by intro z; cases z)
    refine ⟨e, _, he, trivial, fun od => ?_⟩
    refine ⟨_, rfl, a, CW, dx, _, _, rfl, by rw [upd_ne nae]; exact ha, T.cl, T.no _ (by decide), rfl, ?_⟩
    refine ⟨e, od, [], rfl, upd_same, fun D hD => ?_⟩
    have nDe : D ≠ e := fun z => by rw [z, upd_same] at hD; cases hD
    refine lc_it walk_items (fun _ H' => H' = upd (upd H e (.frz od (.dK []))) D (.lst [])) rfl (fun i H' _ h => by rw [h, upd_ne (Ne.symm nDe)]; exact upd_same) (fun i x H' H2 hi _ _ => absurd hi (Nat.not_lt_zero _)) (fun H' h => ?_)
    subst h
    have sm : Same H (upd (upd (upd H e (.frz od (.dK []))) D (.lst [])) e (.dK [])) := fun b o z => by
      by_cases hb : b = e
      · rw [hb, upd_same, ← he, ← hb, z]
      · rw [upd_ne hb]
        have nD : b ≠ D := fun y => by rw [y] at z; rw [upd_ne nDe, z] at hD; cases hD
        rw [upd_ne nD, upd_ne hb]
        exact z
    show _ ∧ _
    refine ⟨by rw [upd_ne (Ne.symm nDe)]; exact upd_same, ?_⟩
    have hD2 : upd (upd (upd H e (.frz od (.dK []))) D (.lst [])) e (.dK []) D = some (.lst []) := by rw [upd_ne nDe, upd_same]
    generalize upd (upd (upd H e (.frz od (.dK []))) D (.lst [])) e (.dK []) = H2 at sm hD2
    refine ⟨_, rfl, D, rfl, ⟨_, SqL.of hD2⟩, ?_⟩
    refine for_it (walk_list (xs := [])) (fun _ σ' H1 => H1 = H2) rfl (fun i σ' H1 _ h => by rw [h]; exact SqL.of hD2) (fun i x σ' H1 H3 hi _ _ => absurd hi (Nat.not_lt_zero _)) (fun σ' H1 h => ?_)
    subst h
    exact k _ sm
/-! end_thing -/
def ended (S : Sys) (t : Int) : Sys := if t ∈ S.sets then { S with sets := without t S.sets } else { S with srcs := without t S.srcs }
def spEndThing (C : Cs) : Sp := fun vs H Q _ => ∃ t : Int, OnSys C vs H [.int t] fun S ad dx => (t ∉ S.sets → t ∈ S.srcs) ∧ ∀ H', At C H' (ended S t) ad dx → Step H S ad H' (ended S t) ad → Q .non H'
theorem scEndThing : FnScope ["self", "thing", "waiting"] ["self", "thing"] (defScope sEndThing) := ⟨rfl, rfl, rfl, by decide +kernel, rfl, by decide +kernel, by decide +kernel⟩
theorem okEndThing {f fD : Addr} {fd fdD : FuncData} (F : Fun K "end_thing" "System.end_thing" sEndThing f fd) (T : ClsF K C.S sysF) (TW : Cls K C.W) (GD : MO P w K mg base 1 C.W "drop_source" ["self", "source"] (spDropSource C.W) fD fdD) :
    FnOk P w K mg base CX0 2 f fd ["self", "thing"] (spEndThing C) := by
  refine F.ok scEndThing (fun vs H Q E h => ?_) (fun cdv A outer s H vs Q E hr h => ?_)
  · obtain ⟨_, _, _, _, rfl, _⟩ := h
    rfl
  · obtain ⟨t, S, ad, dx, rfl, A0, hsrc, k⟩ := h
    have hu := hu_of hr
    refine ⟨_, pss_cons (ps_if (pt_cmp (pc_din hu (pv 1) (pe_fld (pv 0) rfl)) rfl) (pss_cons (ps_ddel (pe_fld (pv 0) rfl) (pv 1)) (pss_one ps_retN)) pss_nil)
      (pss_cons (ps_ddel (pe_fld (pv 0) rfl) (pv 1))
      (pss_one (ps_lock (ps_for PassesOwn.never rfl (pi_values (pe_fld (pv 0) rfl)) (pg_name (i := 2) scEndThing.nd rfl (Or.inl rfl)) (pss_one (ps_expr (pe_meth (pv 2) TW GD.m GD.g hr GD.b .nil pass0 (pa_cons (pv 1) pa_nil)))))))), ?_⟩
    have hb := A0.at_ .box trivial
    have hD : H (ad .setD) = some (.dK (entKV S.sets fun s => ad (.ws s))) := A0.at_ .setD trivial
    have hR : H (ad .srcD) = some (.dK (entKV S.srcs fun t => ad (.srcT t))) := A0.at_ .srcD trivial
    have nbR : ad .box ≠ ad .srcD := A0.ne (c := .box) (c' := .srcD) trivial trivial (by intro z; cases z)
    have nbD : ad .box ≠ ad .setD := A0.ne (c := .box) (c' := .setD) trivial trivial (by intro z; cases z)
    have nDR : ad .setD ≠ ad .srcD := A0.ne (c := .setD) (c' := .srcD) trivial trivial (by intro z; cases z)
    refine ⟨_, rfl, _, rfl, ad .box, C.S, dx .box, _, _, rfl, hb, T.cl, T.no _ (by decide), rfl, ?_⟩
    refine ⟨ad .setD, _, rfl, DGet.k (k := Sum.inl t) hD, ?_⟩
    rw [ent_val]
    by_cases ht : t ∈ S.sets
    · rw [if_pos ht]
      refine ⟨_, rfl, ?_⟩
      show if true = true then _ else _
      refine iteT ?_
      refine ⟨_, rfl, ad .box, C.S, dx .box, _, _, rfl, hb, T.cl, T.no _ (by decide), rfl, ?_⟩
      refine ⟨_, rfl, ad .setD, _, Sum.inl t, rfl, hD, rfl, by rw [ent_val, if_pos ht]; rfl, ?_⟩
      rw [ent_drop]
      have ee : ended S t = { S with sets := without t S.sets } := if_pos ht
      refine (fun z : At C _ _ _ _ ∧ Step _ _ _ _ _ _ => k _ z.1 z.2) ?_
      rw [ee]
      refine At.re2 [.setD] A0 (fun c l => ?_) (fun c hc => ?_) (fun c hc => ?_) (fun c hc l => ?_) (fun b o n e => ?_)
      · cases c with
        | ws s => exact (mem_without.mp l).1
        | ent s => exact (mem_without.mp l).1
        | que s => exact (mem_without.mp l).1
        | _ => exact l
      · rw [List.mem_singleton.mp hc]
        exact trivial
      · rw [List.mem_singleton.mp hc, upd_same]
        rfl
      · cases c with
        | setD => exact absurd List.mem_cons_self hc
        | _ => rfl
      · rw [upd_ne (n .setD (by simp))]
        exact e
    · rw [if_neg ht]
      refine ⟨_, rfl, ?_⟩
      show if false = true then _ else _
      refine iteF ?_
      have hts := hsrc ht
      refine ⟨_, rfl, ad .box, C.S, dx .box, _, _, rfl, hb, T.cl, T.no _ (by decide), rfl, ?_⟩
      refine ⟨_, rfl, ad .srcD, _, Sum.inl t, rfl, hR, rfl, by rw [ent_val, if_pos hts]; rfl, ?_⟩
      rw [ent_drop]
      have ee : ended S t = { S with srcs := without t S.srcs } := if_neg ht
      obtain ⟨A1, st1⟩ : At C (upd H (ad .srcD) (.dK (entKV (S.srcs.filter fun x => decide (x ≠ t)) fun t => ad (.srcT t)))) (ended S t) ad dx ∧ Step H S ad (upd H (ad .srcD) (.dK (entKV (S.srcs.filter fun x => decide (x ≠ t)) fun t => ad (.srcT t)))) (ended S t) ad := by
        rw [ee]
        refine At.re2 [.srcD] A0 (fun c l => ?_) (fun c hc => ?_) (fun c hc => ?_) (fun c hc l => ?_) (fun b o n e => ?_)
        · cases c with
          | srcT s => exact (mem_without.mp l).1
          | _ => exact l
        · rw [List.mem_singleton.mp hc]
          exact trivial
        · rw [List.mem_singleton.mp hc, upd_same]
          rfl
        · cases c with
          | srcD => exact absurd List.mem_cons_self hc
          | _ => rfl
        · rw [upd_ne (n .srcD (by simp))]
          exact e
      have es : (ended S t).sets = S.sets := by rw [ee]
      have kk : ∀ H', Same (upd H (ad .srcD) (.dK (entKV (S.srcs.filter fun x => decide (x ≠ t)) fun t => ad (.srcT t)))) H' → Q .non H' := fun H' sm => k H' (A1.same sm) (st1.trans (Step.same sm))
      generalize upd H (ad .srcD) (.dK (entKV (S.srcs.filter fun x => decide (x ≠ t)) fun t => ad (.srcT t))) = H1 at A1 kk
      have hb1 := A1.at_ .box trivial
      have hD1 : H1 (ad .setD) = some (.dK (entKV (ended S t).sets fun s => ad (.ws s))) := A1.at_ .setD trivial
      have hws : ∀ s, s ∈ S.sets → H1 (ad (.ws s)) = some (wsO C.W (dx (.ws s)) (ad (.ent s)) (ad (.que s))) ∧ H1 (ad (.ent s)) = some (.dK []) := fun s hs => ⟨A1.at_ (.ws s) (by show s ∈ (ended S t).sets; rw [es]; exact hs), A1.at_ (.ent s) (by show s ∈ (ended S t).sets; rw [es]; exact hs)⟩
      rw [es] at hD1
      refine ⟨ad .setD, _, hD1, trivial, fun od => ?_⟩
      refine ⟨_, rfl, ad .box, C.S, dx .box, _, _, rfl, by rw [upd_ne nbD]; exact hb1, T.cl, T.no _ (by decide), rfl, ?_⟩
      refine ⟨ad .setD, od, _, rfl, upd_same, ?_⟩
      refine for_it walk_values (fun i σ' H2 => ∃ u : Option V, σ' = [some (.ref (ad .box)), some (.int t), u] ∧ Same (upd H1 (ad .setD) (.frz od (.dK (entKV S.sets fun s => ad (.ws s))))) H2) ⟨none, rfl, Same.refl _⟩ (fun i σ' H2 _ ⟨_, _, sm⟩ => sm _ _ upd_same) ?_ ?_
      · rintro i x σ' H2 H3 hi ⟨u, rfl, sm⟩ ⟨rfl, kx, ex⟩
        have hi' : i < S.sets.length := by unfold entKV at hi; rwa [List.length_map] at hi
        have e2 : S.sets[i]? = some S.sets[i] := List.getElem?_eq_getElem hi'
        have hs : S.sets[i] ∈ S.sets := List.getElem_mem hi'
        unfold entKV at ex
        rw [List.getElem?_map, e2] at ex
        cases ex
        generalize S.sets[i] = s at e2 hs
        obtain ⟨w1, w2⟩ := hws s hs
        have f1 := sm _ _ ((upd_ne (ne_of w1 hD1 (by intro z; cases z))).trans w1)
        have n2 : ad (.ent s) ≠ ad .setD := A1.ne (c := .ent s) (c' := .setD) (by show s ∈ (ended S t).sets; rw [es]; exact hs) trivial (by intro z; cases z)
        have f2 := sm _ _ ((upd_ne n2).trans w2)
        walk_at "wn"
        refine ⟨_, rfl, ad (.ws s), dx (.ws s), _, rfl, f1, rfl, ?_⟩
        walk_at "wn"
        exact ⟨ad (.ws s), dx (.ws s), ad (.ent s), ad (.que s), t, rfl, f1, f2, fun H' s2 => ⟨_, rfl, sm.trans s2⟩⟩
      · rintro σ' H2 ⟨u, rfl, sm⟩
        refine ⟨sm _ _ upd_same, kk _ fun b o z => ?_⟩
        by_cases hb2 : b = ad .setD
        · rw [hb2, upd_same, ← hD1, ← hb2, z]
        · rw [upd_ne hb2]
          exact sm _ _ (by rw [upd_ne hb2]; exact z)
end

def cleared (S : Sys) (p n : Int) : Sys := { S with tab := fun q => if q = p then (S.tab p).set n.toNat none else S.tab q }
def closed (S : Sys) (p n t : Int) : Sys := if ∃ q ∈ S.procs, some t ∈ (cleared S p n).tab q then cleared S p n else ended (cleared S p n) t
section
variable {P : Program} {w : World} {K : PySem.W.Frag} {mg : Str → Option Value} {base : Heap} {C : Cs} {CW : Addr}
/-! free -/
def spFree (C : Cs) : Sp := fun vs H Q _ => ∃ p n t : Int, OnSys C vs H [.int p, .int n] fun S ad dx => Means S p n t ∧ S.procs.length ≤ 1000 ∧ (t ∉ S.sets → t ∈ S.srcs) ∧ ∀ H', At C H' (closed S p n t) ad dx → Step H S ad H' (closed S p n t) ad → Q .non H'
abbrev nFree : List Str := ["self", "process", "number", "thing", "table"]
theorem scFree : FnScope nFree ["self", "process", "number"] (defScope sFree) := ⟨rfl, rfl, rfl, by decide +kernel, rfl, by decide +kernel, by decide +kernel⟩
theorem okFree {f fE : Addr} {fd fdE : FuncData} (F : Fun K "free" "System.free" sFree f fd) (any : mg "any" = none) (T : ClsF K C.S sysF) (GE : MO P w K mg base 2 C.S "end_thing" ["self", "thing"] (spEndThing C) fE fdE) :
    FnOk P w K mg base CX0 3 f fd ["self", "process", "number"] (spFree C) := by
  refine F.ok scFree (fun vs H Q E h => ?_) (fun cdv A outer s H vs Q E hr h => ?_)
  · obtain ⟨_, _, _, _, _, _, rfl, _⟩ := h
    rfl
  · obtain ⟨p, n, t, S, ad, dx, rfl, A0, M, hz, hts, k⟩ := h
    have hu := hu_of hr
    refine ⟨_, pss_cons (ps_set (i := 3) scFree.nd rfl (Or.inr rfl) (pe_ix ix_list (pe_dget hu (pe_fld (pv 0) rfl) (pv 1) (fun _ _ => rfl)) (pv 2) (fun _ _ => rfl)))
      (pss_cons (ps_asg pe_non (pg_sub (pe_dget hu (pe_fld (pv 0) rfl) (pv 1) (fun _ _ => rfl)) (pv 2) set_list))
      (pss_one (ps_if (pt_not (pt_val (pe_callB (cr_any rfl) (by rfl) any (by decide +kernel) (pa_cons (pe_lock (pe_lc (own := [("table", 4)]) (g := gName 4) (tt := tYes) (te := tOp (rIn K false) (tVar 3) (tVar 4)) rfl scFree.nd (pi_values (pe_fld (pv 0) rfl)) (blkOk_by (N := nFree) (sc := defScope sFree) (by decide +kernel)) (fun _ _ _ _ _ => pg_name (i := 4) scFree.nd rfl (Or.inl rfl)) (fun _ _ _ _ _ => pts_nil) (fun _ _ _ _ _ => pe_cmpR op_in_seq (pv 3) (pv 4) (by rfl)))) pa_nil))))
        (pss_one (ps_expr (pe_meth (pv 0) T.cl GE.m GE.g hr GE.b .nil pass0 (pa_cons (pv 3) pa_nil)))) pss_nil))), ?_⟩
    have hb := A0.at_ .box trivial
    have ht := A0.at_ (.tab p) M.pr
    have hT : H (ad .tabD) = some (.dK (entKV S.procs fun p => ad (.tab p))) := A0.at_ .tabD trivial
    obtain ⟨m, rfl⟩ := Int.eq_ofNat_of_zero_le M.lo
    have hm : (S.tab p)[m]? = some (some t) := M.at_
    have hml : m < (S.tab p).length := (List.getElem?_eq_some_iff.mp hm).1
    have hat : atI ((S.tab p).map optV) (m : Int) = some (V.int t) := atI_nat (by rw [List.getElem?_map, hm]; rfl)
    have hv : valV (entKV S.procs fun p => ad (.tab p)) (Sum.inl p) = some (.ref (ad (.tab p))) := by rw [ent_val, if_pos M.pr]
    refine ⟨_, rfl, ad .box, C.S, dx .box, _, _, rfl, hb, T.cl, T.no _ (by decide), rfl, ?_⟩
    refine ⟨_, rfl, ad .tabD, _, rfl, hv ▸ DGet.k (k := Sum.inl p) hT, ?_⟩
    refine ⟨_, rfl, ad (.tab p), _, _, _, rfl, rfl, SqL.of ht, hat, ?_⟩
    walk_at "wn"
    refine ⟨_, rfl, ad .box, C.S, dx .box, _, _, rfl, hb, T.cl, T.no _ (by decide), rfl, ?_⟩
    refine ⟨_, rfl, ad .tabD, _, rfl, hv ▸ DGet.k (k := Sum.inl p) hT, ?_⟩
    refine ⟨_, rfl, ad (.tab p), _, _, m, rfl, rfl, ht, by rw [List.length_map]; exact ixN_nat hml, ?_⟩
    have ntT : ad (.tab p) ≠ ad .tabD := A0.ne (c := .tab p) (c' := .tabD) M.pr trivial (by intro z; cases z)
    have nbT : ad .box ≠ ad .tabD := A0.ne (c := .box) (c' := .tabD) trivial trivial (by intro z; cases z)
    obtain ⟨A1, st1⟩ : At C (upd H (ad (.tab p)) (.lst (((S.tab p).map optV).set m V.non))) (cleared S p m) ad dx ∧ Step H S ad (upd H (ad (.tab p)) (.lst (((S.tab p).map optV).set m V.non))) (cleared S p m) ad := by
      refine At.re2 [.tab p] A0 (fun c l => by cases c <;> exact l) (fun c hc => ?_) (fun c hc => ?_) (fun c hc l => ?_) (fun b o n e => ?_)
      · rw [List.mem_singleton.mp hc]
        exact M.pr
      · rw [List.mem_singleton.mp hc, upd_same]
        show _ = some (HO.lst ((if p = p then (S.tab p).set (m : Int).toNat none else S.tab p).map optV))
        rw [if_pos rfl, List.map_set, Int.toNat_natCast]
        rfl
      · cases c with
        | tab q =>
          have nq : q ≠ p := fun z => hc (by rw [z]; simp)
          show HO.lst ((if q = p then (S.tab p).set (m : Int).toNat none else S.tab q).map optV) = _
          rw [if_neg nq]
          rfl
        | _ => rfl
      · rw [upd_ne (n (.tab p) (by simp))]
        exact e
    have kk : ∀ H', (if ∃ q ∈ S.procs, some t ∈ (cleared S p m).tab q then Same (upd H (ad (.tab p)) (.lst (((S.tab p).map optV).set m V.non))) H' else At C H' (ended (cleared S p m) t) ad dx ∧ Step (upd H (ad (.tab p)) (.lst (((S.tab p).map optV).set m V.non))) (cleared S p m) ad H' (ended (cleared S p m) t) ad) → Q .non H' := fun H' h => by
      by_cases he : ∃ q ∈ S.procs, some t ∈ (cleared S p m).tab q
      · rw [if_pos he] at h
        have ec : closed S p m t = cleared S p m := if_pos he
        exact k H' (by rw [ec]; exact A1.same h) (by rw [ec]; exact st1.trans (Step.same h))
      · rw [if_neg he] at h
        have ec : closed S p m t = ended (cleared S p m) t := if_neg he
        exact k H' (by rw [ec]; exact h.1) (by rw [ec]; exact st1.trans h.2)
    generalize upd H (ad (.tab p)) (.lst (((S.tab p).map optV).set m V.non)) = H1 at A1 st1 kk
    have hb1 := A1.at_ .box trivial
    have hT1 : H1 (ad .tabD) = some (.dK (entKV S.procs fun p => ad (.tab p))) := A1.at_ .tabD trivial
    show tIfS (tNot (tB (tCB _ (tCons (tLockE _) tNil)))) _ _ _ _ H1
    refine g_ifs (g_not (g_tB (g_cb (g_cons ?_))))
    refine ⟨ad .tabD, _, hT1, trivial, fun od => ?_⟩
    refine ⟨_, rfl, ad .box, C.S, dx .box, _, _, rfl, by rw [upd_ne nbT]; exact hb1, T.cl, T.no _ (by decide), rfl, ?_⟩
    refine ⟨ad .tabD, od, _, rfl, upd_same, fun D hD => ?_⟩
    have nDT : D ≠ ad .tabD := fun z => by rw [z, upd_same] at hD; cases hD
    have hD0 : H1 D = none := by rw [upd_ne nDT] at hD; exact hD
    refine lc_it walk_values (fun i H' => Same (upd H1 (ad .tabD) (.frz od (.dK (entKV S.procs fun p => ad (.tab p))))) H' ∧ H' D = some (.lst (((S.procs.take i).map fun q => decide (some t ∈ (cleared S p m).tab q)).map V.bl))) ⟨Same.new' hD, upd_same⟩ (fun i H' _ h => h.1 _ _ upd_same) ?_ (fun H' h => ?_)
    · rintro i x H2 H3 hi ⟨sm, hd⟩ ⟨rfl, kx, ex⟩
      have hi' : i < S.procs.length := by unfold entKV at hi; rwa [List.length_map] at hi
      have e2 : S.procs[i]? = some S.procs[i] := List.getElem?_eq_getElem hi'
      have hs : S.procs[i] ∈ S.procs := List.getElem_mem hi'
      have et : S.procs.take (i + 1) = S.procs.take i ++ [S.procs[i]] := by rw [List.take_add_one, e2]; rfl
      unfold entKV at ex
      rw [List.getElem?_map, e2] at ex
      cases ex
      rw [et]
      generalize S.procs[i] = q at e2 hs
      have f1 : H3 (ad (.tab q)) = some (.lst (((cleared S p m).tab q).map optV)) := sm _ _ ((upd_ne (A1.ne (c := .tab q) (c' := .tabD) hs trivial (by intro z; cases z))).trans (A1.at_ (.tab q) hs))
      refine ⟨rfl, ?_⟩
      show tYes _ _ _
      refine g_yes ?_
      show if true = true then _ else _
      refine iteT ?_
      refine ⟨_, rfl, _, rfl, ad (.tab q), _, rfl, .inl (SqL.of f1), rfl, flat_opts _, ?_⟩
      refine ⟨_, hd, by rw [List.length_map, List.length_map, List.length_take, sizeLine_eq]; omega, fun b o z => ?_, ?_⟩
      · rw [upd_ne (fun y => by rw [y, hD] at z; cases z)]
        exact sm b o z
      · rw [upd_same, List.map_append, List.map_append]
        show some (HO.lst (_ ++ [V.bl (inV (.int t) (((cleared S p m).tab q).map optV))])) = _
        rw [inV_opt]
        rfl
    · obtain ⟨sm, hd⟩ := h
      have ee : S.procs.take (entKV S.procs fun p => ad (.tab p)).length = S.procs := by unfold entKV; rw [List.length_map, List.take_length]
      rw [ee] at hd
      refine ⟨sm _ _ upd_same, ?_⟩
      have sm2 : Same H1 (upd H' (ad .tabD) (.dK (entKV S.procs fun p => ad (.tab p)))) := fun b o z => by
        by_cases hb2 : b = ad .tabD
        · rw [hb2, upd_same, ← hT1, ← hb2, z]
        · rw [upd_ne hb2]
          exact sm _ _ (by rw [upd_ne hb2]; exact z)
      show tNil _ _ _
      refine g_nil ?_
      refine ⟨D, _, rfl, SqL.of (by rw [upd_ne nDT]; exact hd), ?_⟩
      refine g_bl ?_
      have hany : ((S.procs.map fun q => decide (some t ∈ (cleared S p m).tab q)).any id) = decide (∃ q ∈ S.procs, some t ∈ (cleared S p m).tab q) := by
        rw [List.any_map]
        by_cases he : ∃ q ∈ S.procs, some t ∈ (cleared S p m).tab q
        · rw [decide_eq_true he]
          obtain ⟨q, h1, h2⟩ := he
          exact List.any_eq_true.mpr ⟨q, h1, decide_eq_true h2⟩
        · rw [decide_eq_false he]
          refine List.any_eq_false.mpr fun q hq z => he ⟨q, hq, of_decide_eq_true z⟩
      rw [hany]
      by_cases he : ∃ q ∈ S.procs, some t ∈ (cleared S p m).tab q
      · rw [decide_eq_true he]
        refine iteF ?_
        exact kk _ (by rw [if_pos he]; exact sm2)
      · rw [decide_eq_false he]
        refine iteT ?_
        have A2 := A1.same sm2
        refine ⟨_, rfl, ad .box, dx .box, _, rfl, A2.at_ .box trivial, rfl, ?_⟩
        walk_at "wn"
        exact ⟨t, cleared S p m, ad, dx, rfl, A2, hts, fun H'' A3 st3 => kk _ (by rw [if_neg he]; exact ⟨A3, (Step.same sm2).trans st3⟩)⟩
/-! close -/
def spClose (C : Cs) (D : Addr) : Sp := fun vs H Q E => ∃ (p n : Int) (x : Option Int), OnSys C vs H [.int p, .int n] fun S ad dx => Opn S p n x ∧ n ≤ 1000 ∧ S.procs.length ≤ 1000 ∧ (x = none → Out D "number" n H E) ∧
  (∀ t, x = some t → (t ∉ S.sets → t ∈ S.srcs) ∧ ∀ H', At C H' (closed S p n t) ad dx → Step H S ad H' (closed S p n t) ad → Q .non H')
theorem scClose : FnScope ["self", "process", "number"] ["self", "process", "number"] (defScope sClose) := ⟨rfl, rfl, rfl, by decide +kernel, rfl, by decide +kernel, by decide +kernel⟩
theorem Opn.means {S : Sys} {p n t : Int} (M : Opn S p n (some t)) : Means S p n t := by
  have h : n ≤ S.N - 1 := by
    rcases Int.lt_or_le (S.N - 1) n with z | z
    · cases M.out z
    · exact z
  exact ⟨M.pr, M.lo, h, M.at_ h⟩
theorem Means.opn {S : Sys} {p n t : Int} (M : Means S p n t) : Opn S p n (some t) := ⟨M.pr, M.lo, fun _ => M.at_, fun z => absurd M.hi (by omega)⟩
theorem okClose {D f fT fF : Addr} {fd fdT fdF : FuncData} (F : Fun K "close" "System.close" sClose f fd) (T : ClsF K C.S sysF) (GT : ME P w K mg base 4 C.S "thing_at" ["self", "process", "number"] (spThingAt C D) fT fdT) (GF : MO P w K mg base 3 C.S "free" ["self", "process", "number"] (spFree C) fF fdF) :
    FnOk P w K mg base (L2.CX P w) 5 f fd ["self", "process", "number"] (spClose C D) := by
  refine F.okX scClose (fun vs H Q E h => ?_) (fun cdv A outer s H vs Q E hr h => ?_)
  · obtain ⟨_, _, _, _, _, _, rfl, _⟩ := h
    rfl
  · obtain ⟨p, n, x, S, ad, dx, rfl, A0, M, hn, hz, k2, k1⟩ := h
    have hr3 : Room 3 _ := hr.mono (by decide)
    refine ⟨_, pss_cons (ps_expr (pe_meth (pv 0) T.cl GT.m GT.g hr GT.b .nil (passX (takes_of rfl rfl rfl rfl)) (pa_cons (pv 1) (pa_cons (pv 2) pa_nil))))
      (pss_one (ps_expr (pe_meth (pv 0) T.cl GF.m GF.g hr3 GF.b .nil pass0 (pa_cons (pv 1) (pa_cons (pv 2) pa_nil))))), ?_⟩
    have hb := A0.at_ .box trivial
    walk_at "wn"
    refine ⟨_, rfl, ad .box, dx .box, _, rfl, hb, rfl, ?_⟩
    walk_at "wn"
    refine ⟨p, n, x, S, ad, dx, rfl, A0, M, hn, fun t ht => ?_, k2⟩
    subst ht
    walk_at "wn"
    refine ⟨_, rfl, ad .box, dx .box, _, rfl, hb, rfl, ?_⟩
    walk_at "wn"
    exact ⟨p, n, t, S, ad, dx, rfl, A0, M.means, hz, (k1 t rfl).1, (k1 t rfl).2⟩
end

abbrev sCopy : Stmt := meth 19 6
def copied (S : Sys) (p : Int) (m : Nat) (t : Int) : Sys := { S with tab := fun q => if q = p then (S.tab p).set m (some t) else S.tab q }
section
variable {P : Program} {w : World} {K : PySem.W.Frag} {mg : Str → Option Value} {base : Heap} {C : Cs} {CW : Addr}
def spCopy (C : Cs) (D1 D2 : Addr) : Sp := fun vs H Q E => ∃ (p n : Int) (x : Option Int), OnSys C vs H [.int p, .int n, .non] fun S ad dx => Opn S p n x ∧ n ≤ 1000 ∧ 0 ≤ p ∧ p ≤ 1000 ∧ (S.tab p).length ≤ 1000 ∧ (x = none → Out D1 "number" n H E) ∧
  (∀ t m, x = some t → firstFree (S.tab p) m → ∀ H', At C H' (copied S p m t) ad dx → Step H S ad H' (copied S p m t) ad → Q (.int (m : Int)) H') ∧ (∀ t, x = some t → Ful (S.tab p) → Out D2 "process" p H E)
theorem scCopy : FnScope ["self", "process", "number", "to", "thing", "goal", "table"] ["self", "process", "number", "to"] (defScope sCopy) := ⟨rfl, rfl, rfl, by decide +kernel, rfl, by decide +kernel, by decide +kernel⟩
theorem okCopy {dvs : List V} {kws : List (Str × V)} {D1 D2 f fT fN fF : Addr} {fd fdT fdN fdF : FuncData} (F : FunD K "copy" "System.copy" (defArgs sCopy) (defBody sCopy) (defScope sCopy) dvs kws f fd) (T : ClsF K C.S sysF)
    (GT : ME P w K mg base 4 C.S "thing_at" ["self", "process", "number"] (spThingAt C D1) fT fdT) (GN : MO P w K mg base 3 C.S "is_table_number" ["self", "number"] (spIsTabNum C) fN fdN) (GF : ME P w K mg base 4 C.S "free_number" ["self", "process"] (spFreeNum C D2) fF fdF) :
    FnOk P w K mg base (L2.CX P w) 5 f fd ["self", "process", "number", "to"] (spCopy C D1 D2) := by
  refine F.ok scCopy (fun vs H Q E h => ?_) (fun cdv A outer s H vs Q E hr h => ?_)
  · obtain ⟨_, _, _, _, _, _, rfl, _⟩ := h
    rfl
  · obtain ⟨p, n, x, S, ad, dx, rfl, A0, M, hn, p0, p1, hl, k2, k1, k3⟩ := h
    have hu := hu_of hr
    have hr3 : Room 3 _ := hr.mono (by decide)
    refine ⟨_, pss_cons (ps_set (i := 4) scCopy.nd rfl (Or.inl rfl) (pe_meth (pv 0) T.cl GT.m GT.g hr GT.b .nil (passX (takes_of rfl rfl rfl rfl)) (pa_cons (pv 1) (pa_cons (pv 2) pa_nil))))
      (pss_cons (ps_if (PW.pt (pw_and (pt_cmpR oNotN (pv 3) pe_non (nomark _)) (pw_and1 (pt_not (pt_val (pe_meth (pv 0) T.cl GN.m GN.g hr3 GN.b .nil pass0 (pa_cons (pv 3) pa_nil))))))) (pss_one ps_never) pss_nil)
      (pss_cons (ps_set (i := 5) scCopy.nd rfl (Or.inl rfl) (pe_ifExp (pt_cmpR oIsN (pv 3) pe_non (nomark _)) (pe_meth (pv 0) T.cl GF.m GF.g hr GF.b .nil (passX (takes_of rfl rfl rfl rfl)) (pa_cons (pv 1) pa_nil)) (pv 3)))
      (pss_cons (ps_set (i := 6) scCopy.nd rfl (Or.inl rfl) (pe_dget hu (pe_fld (pv 0) rfl) (pv 1) (fun _ _ => rfl)))
      (pss_cons (ps_if (pt_cmpR op_ne (pe_ix ix_list (pv 6) (pv 5) (fun _ _ => rfl)) (pv 4) (nomark _))
        (pss_cons (ps_if (pt_cmpR oNotN (pe_ix ix_list (pv 6) (pv 5) (fun _ _ => rfl)) pe_non (nomark _)) (pss_one ps_never) pss_nil)
        (pss_one (ps_asg (pv 4) (pg_sub (pv 6) (pv 5) set_list)))) pss_nil)
      (pss_one (ps_ret (pv 5))))))), ?_⟩
    have hb := A0.at_ .box trivial
    walk_at "wn"
    refine ⟨_, rfl, ad .box, dx .box, _, rfl, hb, rfl, ?_⟩
    walk_at "wn"
    refine ⟨p, n, x, S, ad, dx, rfl, A0, M, hn, fun t ht => ?_, k2⟩
    subst ht
    have M := M.means
    walk_at "wn"
    refine ⟨_, rfl, ad .box, dx .box, _, rfl, hb, rfl, ?_⟩
    walk_at "wn"
    refine ⟨p, S, ad, dx, rfl, A0, M.pr, p0, p1, hl, fun m hf H1 s1 => ?_, k3 t rfl⟩
    have A1 := A0.same s1
    have hb1 := A1.at_ .box trivial
    have ht := A1.at_ (.tab p) M.pr
    walk_at "wn"
    have hv : valV (entKV S.procs fun p => ad (.tab p)) (Sum.inl p) = some (.ref (ad (.tab p))) := by rw [ent_val, if_pos M.pr]
    refine ⟨_, rfl, ad .box, C.S, dx .box, _, _, rfl, hb1, T.cl, T.no _ (by decide), rfl, ?_⟩
    refine ⟨_, rfl, ad .tabD, _, rfl, hv ▸ DGet.k (k := Sum.inl p) (A1.at_ .tabD trivial), ?_⟩
    have hm : m < (S.tab p).length := (List.getElem?_eq_some_iff.mp hf.1).1
    have hat : atI ((S.tab p).map optV) (m : Int) = some V.non := atI_nat (by rw [List.getElem?_map, hf.1]; rfl)
    walk_at "wn"
    refine ⟨ad (.tab p), _, (m : Int), _, rfl, rfl, SqL.of ht, hat, ?_⟩
    walk_at "wn"
    rw [decide_eq_false (by intro z; cases z)]
    walk_at "wn"
    refine ⟨ad (.tab p), _, (m : Int), _, rfl, rfl, SqL.of ht, hat, ?_⟩
    walk_at "wn"
    refine ⟨ad (.tab p), _, (m : Int), m, rfl, rfl, ht, by rw [List.length_map]; exact ixN_nat hm, ?_⟩
    walk_at "wn"
    refine (fun z : At C _ _ _ _ ∧ Step _ _ _ _ _ _ => k1 t m rfl hf _ z.1 ((Step.same s1).trans z.2)) ?_
    refine At.re2 [.tab p] A1 (fun c l => by cases c <;> exact l) (fun c hc => ?_) (fun c hc => ?_) (fun c hc l => ?_) (fun b o n e => ?_)
    · rw [List.mem_singleton.mp hc]
      exact M.pr
    · rw [List.mem_singleton.mp hc, upd_same]
      show _ = some (HO.lst ((if p = p then (S.tab p).set m (some t) else S.tab p).map optV))
      rw [if_pos rfl, List.map_set]
      rfl
    · cases c with
      | tab q =>
        have nq : q ≠ p := fun z => hc (by rw [z]; simp)
        show HO.lst ((if q = p then (S.tab p).set m (some t) else S.tab q).map optV) = _
        rw [if_neg nq]
        rfl
      | _ => rfl
    · rw [upd_ne (n (.tab p) (by simp))]
      exact e
/-! numbers -/
def numsOf (S : Sys) : Nat → List (Option Int) → List (Nat × Bool)
  | _, [] => []
  | i, none :: l => numsOf S (i + 1) l
  | i, some t :: l => (i, decide (t ∈ S.srcs)) :: numsOf S (i + 1) l
def numOne (S : Sys) (i : Nat) : Option Int → List (Nat × Bool)
  | none => []
  | some t => [(i, decide (t ∈ S.srcs))]
theorem nums_take (S : Sys) : ∀ (l : List (Option Int)) (k i : Nat) (x : Option Int), l[i]? = some x → numsOf S k (l.take (i + 1)) = numsOf S k (l.take i) ++ numOne S (k + i) x
  | [], k, i, x, h => by simp at h
  | y :: l, k, 0, x, h => by
    obtain rfl : y = x := by simpa using h
    cases y <;> simp [numsOf, numOne]
  | y :: l, k, i + 1, x, h => by
    have ih := nums_take S l (k + 1) i x (by simpa using h)
    have e : k + 1 + i = k + (i + 1) := by omega
    rw [e] at ih
    cases y with
    | none =>
      show numsOf S (k + 1) (l.take (i + 1)) = numsOf S (k + 1) (l.take i) ++ _
      exact ih
    | some t =>
      show _ :: numsOf S (k + 1) (l.take (i + 1)) = (_ :: numsOf S (k + 1) (l.take i)) ++ _
      rw [ih]
      rfl
theorem nums_len (S : Sys) : ∀ (l : List (Option Int)) (k : Nat), (numsOf S k l).length ≤ l.length
  | [], _ => Nat.le_refl _
  | none :: l, k => Nat.le_trans (nums_len S l (k + 1)) (Nat.le_succ _)
  | some t :: l, k => Nat.succ_le_succ (nums_len S l (k + 1))
def kindS (b : Bool) : Str := if b = true then "source" else "set"
def NumAt (H : Hp) (v : V) (r : Nat × Bool) : Prop := ∃ T, v = .ref T ∧ H T = some (.tup [.int (r.1 : Int), .str (kindS r.2)])
theorem NumAt.same {H H' : Hp} {v : V} {r : Nat × Bool} (h : NumAt H v r) (s : Same H H') : NumAt H' v r := by
  obtain ⟨T, rfl, e⟩ := h
  exact ⟨T, rfl, s _ _ e⟩
theorem numAts_same {H H' : Hp} {vs : List V} {rs : List (Nat × Bool)} (p : Paired (NumAt H) vs rs) (s : Same H H') : Paired (NumAt H') vs rs := by
  induction p with
  | nil => exact .nil
  | cons r _ ih => exact .cons (r.same s) ih
theorem numAts_keep {H H' : Hp} {vs : List V} {rs : List (Nat × Bool)} (p : Paired (NumAt H) vs rs) (s : ∀ b x y, H b = some (.tup [x, y]) → H' b = some (.tup [x, y])) : Paired (NumAt H') vs rs := by
  induction p with
  | nil => exact .nil
  | cons r _ ih =>
    obtain ⟨T, h1, h2⟩ := r
    exact .cons ⟨T, h1, s _ _ _ h2⟩ ih
theorem nums_snoc {H : Hp} {vs : List V} {rs : List (Nat × Bool)} {v : V} {r : Nat × Bool} (p : Paired (NumAt H) vs rs) (h : NumAt H v r) : Paired (NumAt H) (vs ++ [v]) (rs ++ [r]) := by
  induction p with
  | nil => exact .cons h .nil
  | cons q _ ih => exact .cons q ih
def spNumbers (C : Cs) : Sp := fun vs H Q _ => ∃ p : Int, OnSys C vs H [.int p] fun S ad dx => p ∈ S.procs ∧ (S.tab p).length ≤ 1000 ∧ ∀ H' r rs, H r = none → Same H H' → H' r = some (.lst rs) → Paired (NumAt H') rs (numsOf S 0 (S.tab p)) → Q (.ref r) H'
abbrev nNumbers : List Str := ["self", "process", "table", "number", "thing"]
theorem scNumbers : FnScope nNumbers ["self", "process"] (defScope sNumbers) := ⟨rfl, rfl, rfl, by decide +kernel, rfl, by decide +kernel, by decide +kernel⟩
theorem okNumbers {f fT : Addr} {fd fdT : FuncData} (F : Fun K "numbers" "System.numbers" sNumbers f fd) (X : SysTxt mg) (T : ClsF K C.S sysF) (GT : MO P w K mg base 3 C.S "table_of" ["self", "process"] (spTableOf C) fT fdT) :
    FnOk P w K mg base CX0 4 f fd ["self", "process"] (spNumbers C) := by
  refine F.ok scNumbers (fun vs H Q E h => ?_) (fun cdv A outer s H vs Q E hr h => ?_)
  · obtain ⟨_, _, _, _, rfl, _⟩ := h
    rfl
  · obtain ⟨p, S, ad, dx, rfl, A0, hp, hl, k⟩ := h
    have hu := hu_of hr
    refine ⟨_, pss_cons (ps_set (i := 2) scNumbers.nd rfl (Or.inl rfl) (pe_meth (pv 0) T.cl GT.m GT.g hr GT.b .nil pass0 (pa_cons (pv 1) pa_nil)))
      (pss_one (ps_ret (pe_lc (own := [("number", 3), ("thing", 4)]) (g := gTup K 2 (gCons (gName 3) (gCons (gName 4) gNil))) rfl scNumbers.nd (pi_enum (by rfl) X.enum (pa_cons (pv 2) pa_nil)) (blkOk_by (N := nNumbers) (sc := defScope sNumbers) (by decide +kernel))
        (fun _ _ _ _ _ => pg_tup rfl (pgs_cons (pg_name (i := 3) scNumbers.nd rfl (Or.inl rfl)) (pgs_cons (pg_name (i := 4) scNumbers.nd rfl (Or.inl rfl)) pgs_nil))) (tt := tTest (tOp rNotN (tVar 4) (tC .non))) (fun _ _ _ _ _ => pts_one (pt_cmpR oNotN (pv 4) pe_non (nomark _)))
        (te := tTup (tCons (tVar 3) (tCons (tIf (tTest (tDIn (tVar 4) (tFld K (tVar 0) "sources"))) (tC (.str "source")) (tC (.str "set"))) tNil)))
        (fun _ _ _ _ _ => pe_tup (pa_cons (pv 3) (pa_cons (pe_ifExp (pt_cmp (pc_din hu (pv 4) (pe_fld (pv 0) rfl)) rfl) pe_str pe_str) pa_nil)))))), ?_⟩
    have hb := A0.at_ .box trivial
    have ht := A0.at_ (.tab p) hp
    walk_at "wn"
    refine ⟨_, rfl, ad .box, dx .box, _, rfl, hb, rfl, ?_⟩
    walk_at "wn"
    refine ⟨p, S, ad, dx, rfl, A0, hp, ?_⟩
    walk_at "wn"
    refine ⟨_, rfl, ?_⟩
    refine ⟨ad (.tab p), _, rfl, SqL.of ht, fun D hD => ?_⟩
    refine lc_it (walk_enum (xs := (S.tab p).map optV)) (fun i H' => ∃ rs, Same H H' ∧ H' D = some (.lst rs) ∧ Paired (NumAt H') rs (numsOf S 0 ((S.tab p).take i))) ⟨[], Same.new' hD, upd_same, .nil⟩ (fun i H' _ ⟨_, sm, _⟩ => Same.seq sm (SqL.of ht)) ?_ (fun H' h => ?_)
    · rintro i x H1 H2 hi ⟨rs, sm, hd, pr⟩ ⟨T1, x1, y1, rfl, nT, rfl, ex, ey⟩
      have s1 := Same.new' (o := .tup [x1, y1]) nT
      have smT := sm.trans s1
      obtain rfl := Option.some.inj ex
      have ey : ((S.tab p).map optV)[i]? = some y1 := ey
      rw [List.getElem?_map] at ey
      cases et : (S.tab p)[i]? with
      | none => rw [et] at ey; cases ey
      | some x =>
      rw [et] at ey
      cases ey
      have tk := nums_take S (S.tab p) 0 i x et
      rw [Nat.zero_add] at tk
      rw [tk]
      have nDT : D ≠ T1 := fun z => by rw [← z, hd] at nT; cases nT
      have hd1 := s1 _ _ hd
      have pr1 := numAts_same pr s1
      refine ⟨T1, _, rfl, SqT.of upd_same, rfl, _, _, rfl, ?_⟩
      walk_at "wn"
      refine ⟨_, _, rfl, ?_⟩
      walk_at "wn"
      refine ⟨rfl, rfl, ?_⟩
      generalize upd H1 T1 (.tup [V.int (i : Int), optV x]) = H2 at smT hd1 pr1
      have hb2 := smT _ _ hb
      have hR : H2 (ad .srcD) = some (.dK (entKV S.srcs fun t => ad (.srcT t))) := smT _ _ (A0.at_ .srcD trivial)
      cases x with
      | none =>
        walk_at "wn"
        refine ⟨rs, smT, hd1, ?_⟩
        show Paired _ _ (_ ++ [])
        rw [List.append_nil]
        exact pr1
      | some t =>
        walk_at "wn"
        have e : (!decide (optV (some t) = V.non)) = true := rfl
        rw [e]
        refine iteT ?_
        walk_at "wn"
        refine ⟨_, rfl, _, rfl, ad .box, C.S, dx .box, _, _, rfl, hb2, T.cl, T.no _ (by decide), rfl, ?_⟩
        refine ⟨ad .srcD, _, rfl, DGet.k (k := Sum.inl t) hR, ?_⟩
        rw [ent_val]
        have fin : ∀ T2, H2 T2 = none → ∃ acc, upd H2 T2 (.tup [.int (i : Int), .str (kindS (decide (t ∈ S.srcs)))]) D = some (.lst acc) ∧ acc.length < sizeLine ∧ ∃ rs', Same H (upd (upd H2 T2 (.tup [.int (i : Int), .str (kindS (decide (t ∈ S.srcs)))])) D (.lst (acc ++ [.ref T2]))) ∧ upd (upd H2 T2 (.tup [.int (i : Int), .str (kindS (decide (t ∈ S.srcs)))])) D (.lst (acc ++ [.ref T2])) D = some (.lst rs') ∧ Paired (NumAt (upd (upd H2 T2 (.tup [.int (i : Int), .str (kindS (decide (t ∈ S.srcs)))])) D (.lst (acc ++ [.ref T2])))) rs' (numsOf S 0 ((S.tab p).take i) ++ numOne S i (some t)) := fun T2 hT2 => by
          have nT2 : T2 ≠ D := fun z => by rw [z, hd1] at hT2; cases hT2
          have s2 := Same.new' (o := .tup [.int (i : Int), .str (kindS (decide (t ∈ S.srcs)))]) hT2
          have kp : ∀ b x y, upd H2 T2 (.tup [.int (i : Int), .str (kindS (decide (t ∈ S.srcs)))]) b = some (.tup [x, y]) → upd (upd H2 T2 (.tup [.int (i : Int), .str (kindS (decide (t ∈ S.srcs)))])) D (.lst (rs ++ [.ref T2])) b = some (.tup [x, y]) := fun b x y h => by
            rw [upd_ne (fun z => by rw [z, upd_ne (Ne.symm nT2), hd1] at h; cases h)]
            exact h
          refine ⟨rs, s2 _ _ hd1, ?_, _, fun b o z => ?_, upd_same, ?_⟩
          · have h1 := pr.length
            have h2 := nums_len S ((S.tab p).take i) 0
            rw [List.length_take] at h2
            rw [sizeLine_eq]
            omega
          · rw [upd_ne (fun y => by rw [y] at z; rw [hD] at z; cases z)]
            exact (smT.trans s2) b o z
          · exact nums_snoc (numAts_keep (numAts_same pr1 s2) kp) ⟨T2, rfl, kp _ _ _ upd_same⟩
        by_cases hts : t ∈ S.srcs
        · rw [if_pos hts]
          rw [decide_eq_true hts] at fin
          refine ⟨_, rfl, ?_⟩
          refine iteT ?_
          walk_at "wn"
          exact ⟨by show 2 ≤ sizeLine; decide, fun T2 hT2 => fin T2 hT2⟩
        · rw [if_neg hts]
          rw [decide_eq_false hts] at fin
          refine ⟨_, rfl, ?_⟩
          refine iteF ?_
          walk_at "wn"
          exact ⟨by show 2 ≤ sizeLine; decide, fun T2 hT2 => fin T2 hT2⟩
    · obtain ⟨rs, sm, hd, pr⟩ := h
      rw [List.length_map, List.take_length] at pr
      exact k H' D rs hD sm hd pr
/-! same -/
def spSame (C : Cs) : Sp := fun vs H Q _ => ∃ p n q m t u : Int, OnSys C vs H [.int p, .int n, .int q, .int m] fun S _ _ => Means S p n t ∧ Means S q m u ∧ n ≤ 1000 ∧ m ≤ 1000 ∧ Q (.bl (decide (t = u))) H
theorem scSame : FnScope ["self", "process", "number", "other", "other_number"] ["self", "process", "number", "other", "other_number"] (defScope sSame) := ⟨rfl, rfl, rfl, by decide +kernel, rfl, by decide +kernel, by decide +kernel⟩
theorem okSame {D f fT : Addr} {fd fdT : FuncData} (F : Fun K "same" "System.same" sSame f fd) (T : ClsF K C.S sysF) (GT : ME P w K mg base 4 C.S "thing_at" ["self", "process", "number"] (spThingAt C D) fT fdT) :
    FnOk P w K mg base (L2.CX P w) 5 f fd ["self", "process", "number", "other", "other_number"] (spSame C) := by
  refine F.okX scSame (fun vs H Q E h => ?_) (fun cdv A outer s H vs Q E hr h => ?_)
  · obtain ⟨_, _, _, _, _, _, _, _, _, rfl, _⟩ := h
    rfl
  · obtain ⟨p, n, q, m, t, u, S, ad, dx, rfl, A0, M1, M2, hn, hm, k⟩ := h
    refine ⟨_, pss_one (ps_ret (pe_cmpR op_eq (pe_meth (pv 0) T.cl GT.m GT.g hr GT.b .nil (passX (takes_of rfl rfl rfl rfl)) (pa_cons (pv 1) (pa_cons (pv 2) pa_nil))) (pe_meth (pv 0) T.cl GT.m GT.g hr GT.b .nil (passX (takes_of rfl rfl rfl rfl)) (pa_cons (pv 3) (pa_cons (pv 4) pa_nil))) (by rfl))), ?_⟩
    have hb := A0.at_ .box trivial
    walk_at "wn"
    refine ⟨_, rfl, ad .box, dx .box, _, rfl, hb, rfl, ?_⟩
    walk_at "wn"
    refine ⟨p, n, some t, S, ad, dx, rfl, A0, M1.opn, hn, fun t' e => ?_, fun z => nomatch z⟩
    cases e
    refine ⟨_, rfl, ad .box, dx .box, _, rfl, hb, rfl, ?_⟩
    walk_at "wn"
    refine ⟨q, m, some u, S, ad, dx, rfl, A0, M2.opn, hm, fun t' e => ?_, fun z => nomatch z⟩
    cases e
    refine g_rEq rfl ?_
    have e : decide (V.int t = V.int u) = decide (t = u) := by
      by_cases h : t = u
      · rw [decide_eq_true h, decide_eq_true (by rw [h])]
      · rw [decide_eq_false h, decide_eq_false (fun z => h (V.int.inj z))]
    rw [e]
    exact k
end

/-! several except clauses, each of which names what it caught -/
structure HdA where
  c : Value
  i : Nat
  ts : Addr → Value → Option Addr → TS
def wAll (K : PySem.W.Frag) (Wz : WX) (D : Ends) : List HdA → WX
  | [] => Wz
  | h :: r => wAs K h.c h.i h.ts (wAll K Wz D r) D
inductive HdsA (X : Cx) : List ExceptHandler → List HdA → Prop
  | nil : HdsA X [] []
  | cons {x n : Str} {c : Value} {i : Nat} {ts : Addr → Value → Option Addr → TS} {b1 : Stmt} {suite : List Stmt} {np pos1 : Pos} {hds : List ExceptHandler} {l : List HdA} (hi : X.N[i]? = some n) (hln : X.env.kindOf n = some .local) (hc : Names X x c)
      (hsu : ∀ (a : Addr) (oe : Obj) (cls : Value) (d : Option Addr) (pn : List (Addr × Obj)), Zc cls d oe → (∃ us, oe.data = .fields us) → PSs (X.suite a ((a, oe) :: pn)) (b1 :: suite) (ts a cls d)) (r : HdsA X hds l) : HdsA X (.ExceptHandler (some (.Name x np)) (some n) (b1 :: suite) pos1 :: hds) (⟨c, i, ts⟩ :: l)
section
variable {X : Cx} {body : List Stmt} {h1 : ExceptHandler} {hds : List ExceptHandler} {l : List HdA} {pos : Pos} {tb : WX → TS} {Wz : WX}
theorem ps_try_all (hs : X.stack = X.env :: X.outer) (hf : X.env.frame = some X.env.locals) (nd : X.N.Nodup) (tk : Takes X Wz) (hb : ∀ (W : WX) (pn : List (Addr × Obj)) (xe : Value → Shared → Prop), Takes (X.tr pn xe) W → PassesOwn (model X.prog X.w) X.A X.env xe → PSs (X.tr pn xe) body (tb W))
    (hh : HdsA X (h1 :: hds) l) : PS X (.Try body (h1 :: hds) [] [] pos) (fun D σ H => tb (wAll X.K Wz D l) D σ H) := by
  constructor
  intro pins s σ H D I h
  have ok := I.ok
  have frs1 : X.A.frames = some (X.env :: X.outer) := ok.frames.trans (by rw [hs])
  refine wpAny_Try_except (wpAny_mono ((hb (wAll X.K Wz D l) (X.pn ++ pins) (fun e s₁ => wpAny (model X.prog X.w) X.A (noteFrame e X.env) (fun _ s₂ => wpAny (model X.prog X.w) X.A (setFlight e none) (fun _ s₃ => wpAny (model X.prog X.w) X.A (handleBy e X.env (h1 :: hds)) (SP X pins D) X.xe s₃) X.xe s₂) X.xe s₁) (fun u s' xx => ?_) PassesOwn.looking).run [] s σ H D (I.toTry _) h) (fun f s1 hsp => ?_) (fun e s1 he => he))
  · obtain ⟨a, B, sI, pins1, σ1, H1, cls, d, rfl, Jt, nb, up, sky, na, os, ag, w⟩ := xx
    have J : Inv X pins σ1 H1 sI := Jt.ofTry ok
    rw [hs] at sky
    show wpAny (model X.prog X.w) X.A (noteFrame (.ref a) X.env) _ _ _
    refine Sky.land Zc.steady frs1 hf sky fun h3 fl3 up3 => ?_
    have J3 : Inv X pins σ1 H1 { s' with heap := h3 } := J.landed nb fl3.1 (up.trans up3) os ag
    obtain ⟨oe3, vs3, he3, hz3, hd3⟩ := fl3.there
    have nfr : a ∉ frs (X.env :: X.outer) := fun hm => by
      obtain ⟨_, o1, e1, hnf⟩ := fl3.2.2.1.mem hm
      rw [he3] at e1
      cases e1
      exact hnf _ hd3
    have nL : a ≠ X.env.locals := fun z => nfr (List.mem_filterMap.mpr ⟨X.env, List.mem_cons_self, hf.trans (by rw [z])⟩)
    have nF : a ∉ X.fs := fun hm => by
      obtain ⟨e1, he1, q⟩ := List.mem_filterMap.mp hm
      exact nfr (List.mem_filterMap.mpr ⟨e1, List.mem_cons_of_mem _ he1, q⟩)
    have S3 := J3.suite he3 hd3 na nL nF
    have go : ∀ {hs2 : List ExceptHandler} {l2 : List HdA}, HdsA X hs2 l2 → wAll X.K Wz D l2 cls d σ1 H1 → wpAny (model X.prog X.w) X.A (handleBy (.ref a) X.env hs2) (SP X pins D) X.xe { s' with heap := h3 } := by
      intro hs2 l2 hk
      induction hk with
      | nil =>
        intro w
        obtain ⟨k1, k2, k3, oe, vs, T, oT, tsx, he, hz, hd, hT, hr⟩ := id fl3
        refine wpAny_handleBy_nil ?_
        unfold PySem.passOn
        refine wpAny_bind (wpAny_field he hd hT ?_)
        rw [if_neg (show ¬ ((Value.ref T == Value.none) = true) from by simp)]
        have fin : wpAny (model X.prog X.w) X.A (setFlight (.ref a) X.env.frame) (fun _ s4 => wpAny (model X.prog X.w) X.A (throw (.ref a) : Sem Flow) (SP X pins D) X.xe s4) X.xe { s' with heap := h3 } := by
          rw [hf]
          refine HandSPX.setFlight_upZ fl3 fun h4 hh4 up4 => wpAny_throw (tk _ _ ⟨a, B, sI, pins, σ1, H1, cls, d, rfl, J, nb, (up.trans up3).trans up4, .inr (.inr (by rw [hs]; exact hh4)), na, os, ag, w⟩)
        first
          | exact wpAny_bind (wpAny_pure (wpAny_bind fin))
          | exact wpAny_bind fin
      | @cons x n c i ts b1 suite np pos1 hds2 l3 hi hln hc hsu r ih =>
        rintro ⟨b, hb1, hyes, hno⟩
        refine wpAny_handleBy_cons (codeAny_handlers_test ?_) (by intro q; cases q)
        have LT : PySem.W.Looks (model X.prog X.w) h3 (typeOf (.ref a)) cls := fun A Q E s k q => wpAny_typeOf_ref (k _ _ he3) (hz3.1.symm ▸ q)
        have LM := PySem.W.exm_one (M := model X.prog X.w) (J3.kIn) LT hb1
        have test : ∀ {Q : Value → Shared → Prop} {E : Value → Shared → Prop}, Q c { s' with heap := h3 } → wpAny (model X.prog X.w) (X.A.mark (some (.ref a))) (eval (.Name x np) X.env) Q E { s' with heap := h3 } := fun {Q E} q => by
          rcases hc with ⟨hg, hdbg, hm | ⟨hm, hv, hnn⟩⟩
          · exact ld_glob (X := X.suite a ((a, oe3) :: (X.pn ++ pins))) S3 hg hm q hdbg
          · exact ld_blt (X := X.suite a ((a, oe3) :: (X.pn ++ pins))) S3 hg hm hv q hnn hdbg
        refine test (LM.here ?_)
        cases b with
        | false =>
          show wpAny _ X.A (handleBy (.ref a) X.env hds2) _ _ _
          exact ih (hno rfl)
        | true =>
          refine codeAny_handlers_suite_as (HandSPX.lands_againZ fl3 fun h4 fl4 up4 => ?_)
          have J4 : Inv X pins σ1 H1 { s' with heap := h4 } := J.landed nb fl4.1 ((up.trans up3).trans up4) os ag
          obtain ⟨oe4, vs4, he4, hz4, hd4⟩ := fl4.there
          have hloc : Loc X.env.scope n := .inl hln
          refine store_ok (X := X.suite a ((a, oe4) :: (X.pn ++ pins))) (v := .ref a) (J4.suite he4 hd4 na nL nF) nd hi hloc rfl (fun s5 S5 => wpAny_mono ((hsu a oe4 cls d (X.pn ++ pins) hz4 ⟨_, hd4⟩).run [] s5 _ H1 _ S5 (hyes rfl a na)) (fun f s6 hsp => ?_) (fun _ _ z => False.elim z)) (.inr hln)
          have gone : ∀ {σ6 : L2.St} {H6 : Hp} {Q : Shared → Prop}, Inv (X.suite a ((a, oe4) :: (X.pn ++ pins))) [] σ6 H6 s6 → (∀ s7, Inv X pins (σ6.set i none) H6 s7 → Q s7) → wpAny (model X.prog X.w) X.A (do bindName X.env n .none; unbindBehindTheSuite X.env n pos1) (fun _ s7 => Q s7) X.xe s6 := fun S6 hq => gone_ok (S6.unsuite ok) nd hi hln hq
          cases f with
          | ret u =>
            obtain ⟨v6, σ6, H6, S6, r6, q6⟩ := hsp
            exact gone S6 fun s7 J7 => ⟨_, _, _, J7, r6, q6⟩
          | _ =>
            obtain ⟨σ6, H6, S6, q6⟩ := hsp
            exact gone S6 fun s7 J7 => ⟨_, _, J7, q6⟩
    exact go hh w
  · cases f with
    | next =>
      obtain ⟨σ1, H1, J1, q⟩ := hsp
      exact wpAny_execs_nil ⟨σ1, H1, J1.ofTry ok, q⟩
    | ret u =>
      obtain ⟨v, σ1, H1, J1, r, q⟩ := hsp
      exact ⟨v, σ1, H1, J1.ofTry ok, r, q⟩
    | _ =>
      obtain ⟨σ1, H1, J1, q⟩ := hsp
      exact ⟨σ1, H1, J1.ofTry ok, q⟩
end

structure FnG (P : Program) (w : World) (K : PySem.W.Frag) (mg : Str → Option Value) (base : Heap) (CX : CXT) (k : Nat) (f : Addr) (fd : FuncData) (ps : List Str) (sp : Sp) : Prop where
  size : ∀ vs H Q E, sp vs H Q E → vs.length = ps.length
  go : ∀ (A : Around), Room k A → A.guards = some [] → ∀ (outer : List Env) (s : Shared) (H : Hp), Env0 P w K mg base A outer s H → ∀ (args : Args) (us : List Value) (vs : List V), BindsTo s fd args (ps.zip us) → Vals vs us →
    ∀ (Q : VK) (E : XK), sp vs H Q E → codeAny (model P w) A (.call (.ref f) args) (CR CX outer P w H s Q E) s
section
variable {P : Program} {w : World} {K : PySem.W.Frag} {mg : Str → Option Value} {base : Heap} {CX : CXT} {k : Nat} {f : Addr} {fd : FuncData} {ps : List Str} {sp : Sp}
theorem FnG.of (F : FnOk P w K mg base CX k f fd ps sp) : FnG P w K mg base CX k f fd ps sp :=
  ⟨F.len, fun A hr _ outer s H e args us vs hb r Q E h => F.run A outer s H args us vs Q E hr e hb r h⟩
/-- the body, from «no repr is under way» -/
theorem okG {x qual : Str} {st : Stmt} {N : List Str} (F : Fun K x qual st f fd) (S : FnScope N ps (defScope st)) (len : ∀ vs H Q E, sp vs H Q E → vs.length = ps.length)
    (body : ∀ (cdv : Value) (A : Around) (outer : List Env) (s : Shared) (H : Hp) (vs : List V) (Q : VK) (E : XK), Room k (A.deeper (envOfC qual (defScope st) s.heap.objs.size f cdv)) → A.guards = some [] → sp vs H Q E →
      ∃ t, PSs (cxOf CX P w K mg base N qual (defScope st) f cdv A outer s H E) (defBody st) t ∧ t { nx := fun _ H' => Q .non H', rt := Q } (start N vs) H) : FnG P w K mg base CX (k + 1) f fd ps sp := by
  refine ⟨len, fun A hr hg outer s H e args us vs hb r Q E h => ?_⟩
  obtain ⟨oc, od, kV, doc, pm, an, cdv, ct, osl, rfl, lk, hcd⟩ := F.ex
  have hl := len _ _ _ _ h
  have KX : K.In s.heap := e.mod.kin.keeps fun b o z => (e.bs b o z).1
  have lim : s.heap.NoLimit := e.mod.nolimit.keeps fun b o z => (e.bs b o z).1
  have kinds : ∀ y ∈ ps.zip us, (defScope st).names.lookup y.1 = some .local ∨ ((defScope st).names.lookup y.1 = some .cell ∧ ((cellsFrom (s.heap.objs.size + 1) (defScope st).names []).lookup y.1).isSome = true) := by
    rintro ⟨n, v⟩ hy
    rcases S.par n (List.of_mem_zip hy).1 with q | q
    · exact Or.inl q
    · exact Or.inr ⟨q, PySem.W.cellsFrom_some _ _ _ (Or.inl q)⟩
  refine codeAny_call_function hr.depth (KX _ _ lk) rfl S.co S.gen rfl (PySem.W.codeRec_of KX hcd) (hb _ _ _ _ ?_)
  refine wpAny_newFunctionEnv_cells S.kind kinds fun env henv s1 ic => ?_
  cases henv
  refine ⟨lim.keeps ic.toInCall.keep, codeAny_func ?_⟩
  obtain ⟨t, ht, q⟩ := body cdv A outer s H vs Q E (hr.deeper _) hg h
  have I := inv_start (E := E) (CX := CX) S hr.hd e hl r ic
  refine wpAny_mono (ht.run [] s1 _ H _ I q) (fun fl s' z => ?_) fun _ _ z => z
  cases fl with
  | next =>
    obtain ⟨_, H', J, z⟩ := z
    exact ⟨V.non, H', J.os, J.bare, J.base, J.hok, rfl, z⟩
  | ret u =>
    obtain ⟨v, _, H', J, rv, z⟩ := z
    exact ⟨v, H', J.os, J.bare, J.base, J.hok, rv, z⟩
  | brk =>
    obtain ⟨_, _, _, z⟩ := z
    exact False.elim z
  | cont =>
    obtain ⟨_, _, _, z⟩ := z
    exact False.elim z
end
section
variable {X : Cx} {CX : CXT} {k : Nat} {f : Addr} {fd : FuncData} {ps : List Str} {sp : Sp} {dvs : List V} {ds : List Value} {E : XK} {x : Str} {p pos : Pos} {e : Expr} {es : List Expr} {t : TA}
theorem pe_callG (F : FnG X.prog X.w X.K X.mg X.base CX k f fd ps sp) (hr : Room k X.A) (gd : X.A.guards = some []) (hg : Gl X x) (hm : X.mg x = some (.ref f)) (hk : PySem.W.keepIn X.K (.ref f) = true) (hb : Binds X.K fd ps ds) (hd : Vals dvs ds) (hx : Passes CX X E)
    (ha : PA X (e :: es) t) (hdb : (x == ("__debug__" : Str)) = false := by decide) (he : starEach (e :: es) X.env = (false, eval e X.env) :: starEach es X.env := by rfl) (hpl : (backTo pos (starEach es X.env)).any (·.1) = false := by rfl) :
    PE X (.Call (.Name x p) (e :: es) [] pos) (tCall sp dvs E t) := by
  constructor
  intro pins s σ H Q I h
  refine wpAny_Call_Name_kw (ld_glob I hg hm (PySem.W.callWith_K (h₀ := X.base) I.ok.mod.kin hk (thn (ha.run pos pins s σ H _ I h) ?_) he hpl) hdb)
  rintro us s1 ⟨vs, H1, I1, r, q⟩
  refine ⟨I1.kIn, ?_⟩
  have r2 : Vals (vs ++ dvs) (us ++ ds) := r.append hd
  have hl : (us ++ ds).length = ps.length := r2.length.symm.trans (F.size _ _ _ _ q)
  refine wpAny_call (codeAny_mono (F.go X.A hr gd X.stack s1 H1 I1.env0 ⟨us, []⟩ _ _ (hb s1 us I1.kIn hl) r2 Q E q) ?_)
  rintro (er | fl) s' z
  · exact hx pins σ H1 s1 er s' I1 z
  · cases fl with
    | ret u => exact I1.after z
    | next => exact z.elim
    | brk => exact z.elim
    | cont => exact z.elim
end
section
variable {P : Program} {w : World} {K : PySem.W.Frag} {mg : Str → Option Value} {base : Heap}
/-- a def whose code is known -/
theorem okC {CX : CXT} {x qual : Str} {st : Stmt} {N ps : List Str} {k : Nat} {f c : Addr} {fd : FuncData} {sp : Sp} (F : Fun K x qual st f fd) (hc : fd.code = .ref c) (S : FnScope N ps (defScope st)) (len : ∀ vs H Q E, sp vs H Q E → vs.length = ps.length)
    (body : ∀ (A : Around) (outer : List Env) (s : Shared) (H : Hp) (vs : List V) (Q : VK) (E : XK), Room k (A.deeper (envOfC qual (defScope st) s.heap.objs.size f (.ref c))) → sp vs H Q E →
      ∃ t, PSs (cxOf CX P w K mg base N qual (defScope st) f (.ref c) A outer s H E) (defBody st) t ∧ t { nx := fun _ H' => Q .non H', rt := Q } (start N vs) H) : FnOk P w K mg base CX (k + 1) f fd ps sp := by
  obtain ⟨oc, od, kV, doc, pm, an, cdv, ct, osl, rfl, lk, hcd⟩ := F.ex
  obtain rfl : cdv = .ref c := hc
  exact ⟨len, fun A outer s H args us vs Q E hr e hb r h => LamX.run_ofS lk hcd S hr e hb r (len _ _ _ _ h) fun hr' => body A outer s H vs Q E hr' h⟩
end
/-! the law's call where a code's table grows -/
theorem law_T {P : Program} {w : World} {K : PySem.W.Frag} {mg mb : Str → Option Value} {k : Nat} {fa a Pt : Addr} {fd : FuncData} {x : Str} {sp : Sp} {s : Shared} {vs : List Value} {ns : List Int}
    (KX : K.In s.heap) (hns : s.heap.Ns mainGlobals mg) (hb : s.heap.Ns builtinsNs mb) (hbb : ∀ x : Str, x ≠ "__name__" → mb x = bootBuiltins x) (hlim : s.heap.NoLimit) (hg : s.gens = #[])
    (ha : s.heap.get? a = some { cls := .type "list", data := .seq vs.toArray }) (hi : IntsAre vs ns) (hl : ns.length ≤ sizeLine) (hr : Room k callerA)
    (hPt : s.heap.get? Pt = some (PySem.W.tabObj #[])) (nPt : K.lookup Pt = none) (tPt : isCodeTable s.heap Pt)
    (F : ∀ base : Heap, K.In base → base.Ns mainGlobals mg → (∀ x : Str, x ≠ "__name__" → mb x = bootBuiltins x) → base.Ns builtinsNs mb → base.BuiltinsAt mg Pt → FnG P w K mg base CX0 k fa fd [x] sp) (hbm : s.heap.BuiltinsAt mg Pt) (hbind : ∀ (s : Shared) (u : Value), BindsTo s fd ⟨[u], []⟩ [(x, u)])
    (hsp : ∀ H : Hp, SqL K H a (ns.map V.int) → H Pt = some (.tbl #[]) → sp [.ref a] H (fun v _ => v = .bl true) fun _ _ _ => False) :
    codeAny (model P w) callerA (.call (.ref fa) ⟨[.ref a], []⟩) (fun r s' => r = .ok (.ret (.bool true)) ∧ OldK s.heap s'.heap ∧ s'.os = s.os ∧ AllBare s'.gens) s := by
  have rv := vals_ints hi
  have nPa : Pt ≠ a := fun z => by
    rw [z, ha] at hPt
    cases hPt
  have run : ∀ H : Hp, (∀ b u, H b = some u → (b = a ∧ ∃ o ys, u = .frz o (.lst ys)) ∨ (b = Pt ∧ u = .tbl #[])) → (∀ u, H a = some u → K.lookup a = none) → HOk P w H s.heap → SqL K H a (ns.map V.int) → H Pt = some (.tbl #[]) →
      codeAny (model P w) callerA (.call (.ref fa) ⟨[.ref a], []⟩) (fun r s' => r = .ok (.ret (.bool true)) ∧ OldK s.heap s'.heap ∧ s'.os = s.os ∧ AllBare s'.gens) s := by
    intro H only noK ok hS hP
    have old : ∀ {b : Addr} {o : Obj}, s.heap.get? b = some o → H b = none → (hidT s.heap H).get? b = some o := fun e n => hidT_get e n
    have free : ∀ {b : Addr}, b ≠ a → b ≠ Pt → H b = none := fun {b} n1 n2 => by
      cases e : H b with
      | none => rfl
      | some u =>
        rcases only b u e with z | z
        · exact absurd z.1 n1
        · exact absurd z.1 n2
    have spaces : ∀ {b : Addr} {m : Str → Option Value}, s.heap.Ns b m → (hidT s.heap H).Ns b m := by
      rintro b m ⟨o, es, ep, e, d, r⟩
      refine ⟨o, es, ep, old e (free (fun z => ?_) fun z => ?_), d, r⟩
      · subst z
        rw [ha] at e
        cases e
        cases d
      · subst z
        rw [hPt] at e
        cases e
        cases d
    have bmh : (hidT s.heap H).BuiltinsAt mg Pt := by
      obtain ⟨bm, o, b1, b2, b3, b4, b5, b6, b7, b8⟩ := hbm
      refine ⟨bm, o, b1, b2, b3, b4, old b5 (free (fun z => ?_) b4), b6, b7, b8⟩
      rw [z, ha] at b5
      cases b5
      cases b8
    have kb : K.In (hidT s.heap H) := fun b o e => by
      refine old (KX b o e) ?_
      cases q : H b with
      | none => rfl
      | some u =>
        rcases only b u q with ⟨rfl, _⟩ | ⟨rfl, _⟩
        · rw [noK u q] at e
          cases e
        · rw [nPt] at e
          cases e
    have md : Mod K mg (hidT s.heap H) := ⟨kb, spaces hns, ⟨mb, spaces hb, hbb⟩, hlim.elim fun mc z => ⟨mc, spaces z.1, z.2⟩⟩
    have e0 : Env0 P w K mg (hidT s.heap H) callerA [] s H := ⟨rfl, md, fun b o e => of_hidT e, Nat.le_of_eq (hidT_size _ _), trivial, fun b hb => (nomatch (show b ∈ ([] : List Addr) from hb)), ok, .of_eq hg⟩
    refine codeAny_mono ((F _ kb (spaces hns) hbb (spaces hb) bmh).go callerA hr rfl [] s H e0 ⟨[.ref a], []⟩ [.ref a] [.ref a] (hbind s _) (.cons rfl .nil) _ _ (hsp H hS hP)) ?_
    rintro (er | fl) s' z
    · exact z.elim
    cases fl with
    | next => exact z.elim
    | brk => exact z.elim
    | cont => exact z.elim
    | ret u =>
      obtain ⟨v, H', os, bare, un, ok', rv', rfl⟩ := z
      obtain rfl : u = Value.bool true := rv'
      have fin : ∀ b o, s.heap.get? b = some o → b ≠ Pt → s'.heap.get? b = some o := fun b o e nb => by
        cases q : H b with
        | none => exact un.keep b o e q (fun z => nomatch z) (by simp)
        | some u =>
          rcases only b u q with ⟨rfl, ob, ys, rfl⟩ | ⟨rfl, _⟩
          · have e1 := (ok _ _ q).1
            have e2 := (ok' _ _ (un.frzs _ _ _ q)).1
            rw [e] at e1
            cases e1
            exact e2
          · exact absurd rfl nb
      obtain ⟨more, hm⟩ := un.tbls _ _ hP
      have eP : s'.heap.get? Pt = some { cls := Value.none, data := Data.fields (#[] ++ more) } := ok' _ _ hm
      refine ⟨rfl, ⟨fun b o e => ?_, fun b o e => ?_⟩, os, bare⟩
      · by_cases nb : b = Pt
        · subst nb
          rw [hPt] at e
          cases e
          exact .inr (.inl ⟨tPt, rfl, #[], more, rfl, eP⟩)
        · exact .inl (fin b o e nb)
      · by_cases nb : b = Pt
        · subst nb
          exact ⟨_, eP⟩
        · exact ⟨_, fin b o e nb⟩
  have lenV := hi.length
  cases hk : K.lookup a with
  | some o =>
    have e := KX a o hk
    rw [ha] at e
    cases e
    refine run (fun b => if b = Pt then some (.tbl #[]) else none) (fun b u z => ?_) (fun u z => ?_) (fun b u z => ?_) (.inr ⟨_, vs.toArray, _, hk, rfl, rfl, rfl, by rw [List.size_toArray, lenV]; exact hl, by simpa using rv⟩) (if_pos rfl)
    · by_cases hb : b = Pt
      · try dsimp only at z
        rw [if_pos hb] at z
        cases z
        exact .inr ⟨hb, rfl⟩
      · try dsimp only at z
        rw [if_neg hb] at z
        cases z
    · try dsimp only at z
      rw [if_neg nPa.symm] at z
      cases z
    · by_cases hb : b = Pt
      · try dsimp only at z
        rw [if_pos hb] at z
        cases z
        subst hb
        exact hPt
      · try dsimp only at z
        rw [if_neg hb] at z
        cases z
  | none =>
    refine run (fun b => if b = a then some (.frz { cls := .type "list", data := .seq vs.toArray } (.lst (ns.map V.int))) else if b = Pt then some (.tbl #[]) else none) (fun b u z => ?_) (fun _ _ => hk) (fun b u z => ?_) (.inl (.inr ⟨_, if_pos rfl⟩)) ?_
    · try dsimp only at z
      by_cases hb : b = a
      · rw [if_pos hb] at z
        cases z
        exact .inl ⟨hb, _, _, rfl⟩
      · rw [if_neg hb] at z
        by_cases hb2 : b = Pt
        · rw [if_pos hb2] at z
          cases z
          exact .inr ⟨hb2, rfl⟩
        · rw [if_neg hb2] at z
          cases z
    · try dsimp only at z
      by_cases hb : b = a
      · rw [if_pos hb] at z
        cases z
        subst hb
        exact ⟨ha, by rw [List.length_map]; exact hl, vs, _, rv, ha⟩
      · rw [if_neg hb] at z
        by_cases hb2 : b = Pt
        · rw [if_pos hb2] at z
          cases z
          subst hb2
          exact hPt
        · rw [if_neg hb2] at z
          cases z
    · try dsimp only
      rw [if_neg nPa, if_pos rfl]
theorem walkT {l : PySem.W.OpenLaw} {n k : Nat} {q : Program} {loose : List Str} {XP : (Str → Option Value) → Heap → Prop} {YP : World → Heap → Prop} {d : DefRec} {K : Params → PySem.W.Frag} {sp : PySem.W.Frag → (Str → Option Value) → Sp} {x : Str} {Pt : Addr}
    (hn : l.most = some n) (hn2 : n ≤ sizeLine) (hdf : d.params.defaults = []) (hr : Room k callerA) (hY : ∀ (w : World) (h : Heap), YP w h → (K w.params).In h) (hT : ∀ (w : World) (h : Heap), YP w h → h.get? Pt = some (PySem.W.tabObj #[])) (nT : ∀ w : World, (K w.params).lookup Pt = none)
    (tT : ∀ (w : World) (h : Heap), (K w.params).In h → isCodeTable h Pt)
    (F : ∀ (w : World) (mg : Str → Option Value) (fa : Addr) (h : Heap), (K w.params).In h → h.Ns mainGlobals mg → mg d.name = some (.ref fa) →
      ∃ fd : FuncData, (∀ (s : Shared) (u : Value), BindsTo s fd ⟨[u], []⟩ [(x, u)]) ∧ (∀ base : Heap, (K w.params).In base → base.Ns mainGlobals mg → base.BuiltinsAt mg Pt → FnG l.prog w (K w.params) mg base CX0 k fa fd [x] (sp (K w.params) mg)) ∧
        ∀ (H : Hp) (a : Addr) (ns : List Int), ns.length ≤ n → SqL (K w.params) H a (ns.map V.int) → H Pt = some (.tbl #[]) → sp (K w.params) mg [.ref a] H (fun v _ => v = .bl true) fun _ _ _ => False) :
    PySem.W.WalkO q loose XP YP l.row.toRowW d [] (fun f vs => PySem.call f vs) := by
  refine Att.attach_call hn hdf fun w s₀ s₁ mg mb fa o pm cd doc a vs ns G Y ho hd hcd hmg hobj hints hlen hg => ?_
  obtain ⟨fd, hb, hF, hsp⟩ := F w mg fa _ (hY w _ Y) G.T.g hmg
  have hbm : s₁.heap.BuiltinsAt mg Pt := by
    obtain ⟨bm, ob, b1, b2, b3, b4, b5, b6⟩ := G.T.bmain
    refine ⟨bm, ob, b1, b2, fun z => ?_, fun z => ?_, b3, b4, b5, b6⟩
    · obtain ⟨o, es, ep, e, d, r⟩ := G.T.g
      rw [z, e] at b3
      cases b3
      rw [d] at b6
      cases b6
    · rw [z, hT w _ Y] at b3
      cases b3
      cases b6
  exact law_T (hY w _ Y) G.T.g G.T.b G.T.builtins G.T.nolimit hg hobj hints (Nat.le_trans hlen hn2) hr (hT w _ Y) (nT w) (tT w _ (hY w _ Y)) (fun base k1 k2 _ _ k3 => hF base k1 k2 k3) hbm hb fun H hS hP => hsp H a ns hlen hS hP
/-! how long a datum's repr may be -/
mutual
def wt : PyData → Nat
  | .none => 4
  | .bool _ => 5
  | .int _ => 2000
  | .str x => 10 * x.length + 2
  | .list xs => wtA xs + 3
  | .tuple xs => wtA xs + 3
  | .dict _ => 0
def wtA : List PyData → Nat
  | [] => 0
  | x :: xs => wt x + 2 + wtA xs
end
mutual
def okR : PyData → Bool
  | .none => true
  | .bool _ => true
  | .int i => decide (i.natAbs.log2 < 1920)
  | .str x => x.cps.toList.all fun c => decide (c < 16 ^ 8)
  | .list xs => okRA xs
  | .tuple xs => okRA xs
  | .dict _ => false
def okRA : List PyData → Bool
  | [] => true
  | x :: xs => okR x && okRA xs
end
mutual
theorem okR_show : ∀ d : PyData, okR d = true → d.showable = true ∧ d.hasDict = false
  | .none, _ => by simp [PyData.showable, PyData.hasDict]
  | .bool _, _ => by simp [PyData.showable, PyData.hasDict]
  | .str _, _ => by simp [PyData.showable, PyData.hasDict]
  | .int i, h => by
    simp only [okR] at h
    simp only [PyData.showable, PyData.hasDict]
    exact ⟨h, trivial⟩
  | .list xs, h => by
    simp only [okR] at h
    simp only [PyData.showable, PyData.hasDict]
    exact okRA_show xs h
  | .tuple xs, h => by
    simp only [okR] at h
    simp only [PyData.showable, PyData.hasDict]
    exact okRA_show xs h
  | .dict _, h => by simp only [okR] at h; cases h
theorem okRA_show : ∀ ds : List PyData, okRA ds = true → PyData.showableAll ds = true ∧ PyData.hasDictAll ds = false
  | [], _ => by simp [PyData.showableAll, PyData.hasDictAll]
  | d :: ds, h => by
    simp only [okRA, Bool.and_eq_true] at h
    have h1 := okR_show d h.1
    have h2 := okRA_show ds h.2
    simp only [PyData.showableAll, PyData.hasDictAll, h1.1, h1.2, h2.1, h2.2, Bool.and_self, Bool.or_self, and_self]
end
theorem shownAll_length : ∀ ds : List PyData, (PyData.shownAll ds).length = ds.length
  | [] => rfl
  | d :: ds => by simp only [PyData.shownAll, List.length_cons, shownAll_length ds]
mutual
theorem shown_le : ∀ d : PyData, okR d = true → d.shown.length ≤ wt d
  | .none, _ => by simp only [PyData.shown, wt]; decide +kernel
  | .bool b, _ => by cases b <;> (simp only [PyData.shown, wt]; decide +kernel)
  | .int i, h => by
    simp only [okR] at h
    have e := int_text_length_le (k := 1920) (by decide) (of_decide_eq_true h)
    simp only [PyData.shown, wt]
    rw [PySem.ofString_length]
    omega
  | .str x, h => by
    simp only [okR, List.all_eq_true, decide_eq_true_eq] at h
    simp only [PyData.shown, wt]
    exact StrLaws.reprText_len x h
  | .list xs, h => by
    simp only [okR] at h
    have e := listText_len_le (PyData.shownAll xs)
    have f := shownAll_le xs h
    rw [shownAll_length] at e
    simp only [PyData.shown, wt]
    omega
  | .tuple xs, h => by
    simp only [okR] at h
    have e := fmt_text (PyData.shownAll xs)
    have f := shownAll_le xs h
    have g : piled (PyData.shownAll xs) = ((PyData.shownAll xs).map (·.length)).sum + 2 * xs.length := by
      rw [← shownAll_length xs]
      unfold piled
      generalize PyData.shownAll xs = l
      induction l with
      | nil => rfl
      | cons a l ih => simp only [List.map_cons, List.sum_cons, List.length_cons] at ih ⊢; omega
    simp only [PyData.shown, wt]
    omega
  | .dict _, h => by simp only [okR] at h; cases h
theorem shownAll_le : ∀ ds : List PyData, okRA ds = true → ((PyData.shownAll ds).map (·.length)).sum + 2 * ds.length ≤ wtA ds
  | [], _ => by simp [PyData.shownAll, wtA]
  | d :: ds, h => by
    simp only [okRA, Bool.and_eq_true] at h
    have h1 := shown_le d h.1
    have h2 := shownAll_le ds h.2
    simp only [PyData.shownAll, wtA, List.map_cons, List.sum_cons, List.length_cons]
    omega
end
/-- repr(x), x data -/
def rRepr (K : PySem.W.Frag) : List V → Hp → VK → Prop := fun xs H Q => ∃ x d, xs = [x] ∧ Dp K H x d ∧ okR d = true ∧ d.depth ≤ 40 ∧ wt d ≤ 16777216 ∧ Q (.str d.shown) H
section
variable {X : Cx}
theorem cRepr (gd : X.A.guards = some []) (hu : X.A.units + 64 < cLine) : CallR X (.builtin "repr") (rRepr X.K) := by
  intro pins s σ H xs us Q I r h
  obtain ⟨x, d, rfl, dp, ok, dd, dz, q⟩ := h
  obtain ⟨u, rfl, rx⟩ := vals1 r
  obtain ⟨as, rd⟩ := Dp.reads I d x u dp rx
  have sh := okR_show d ok
  have sz : d.shown.length ≤ sizeLine := Nat.le_trans (shown_le d ok) (by rw [sizeLine_eq]; exact dz)
  cases rd with
  | none => exact PySem.P.repr_of_none ⟨.str _, H, I.tok _, ⟨_, rfl⟩, q⟩
  | bool b => exact PySem.P.repr_of_bool ⟨.str _, H, I.tok _, ⟨_, rfl⟩, q⟩
  | int i t => exact PySem.P.repr_of_int (by simpa [okR] using ok) ⟨.str _, H, I.tok _, ⟨_, rfl⟩, q⟩
  | str z t => exact PySem.P.repr_of_str ⟨.str _, H, I.tok _, ⟨_, rfl⟩, q⟩ sz
  | list h1 h2 h3 h4 => exact repr_of_reads' (.list h1 h2 h3 h4) sh.1 (PyData.noDict_hsm sh.2) gd (by omega) (fun _ _ e => e) (fun h' u tk hk => ⟨.str _, H, I.kept hk, ⟨_, rfl⟩, q⟩) sz
  | tuple h1 h2 h3 h4 => exact repr_of_reads' (.tuple h1 h2 h3 h4) sh.1 (PyData.noDict_hsm sh.2) gd (by omega) (fun _ _ e => e) (fun h' u tk hk => ⟨.str _, H, I.kept hk, ⟨_, rfl⟩, q⟩) sz
  | dict => simp only [okR] at ok; cases ok
end

abbrev sOutcome : Stmt := top 24
abbrev sLowest : Stmt := top 25
abbrev sPlaced : Stmt := top 26
abbrev sDone : Stmt := top 27
abbrev sShows : Stmt := top 28
abbrev sLaw : Stmt := top 29
theorem takes_len {X : Cx} {W : WX} (tk : Takes X W) : Takes X fun cls d σ H => σ.length = X.N.length → W cls d σ H := fun u s' ⟨a, B, sI, pins, σ, H, cls, d, h1, I, h2, h3, h4, h5, h6, h7, h8⟩ => tk u s' ⟨a, B, sI, pins, σ, H, cls, d, h1, I, h2, h3, h4, h5, h6, h7, h8 I.len⟩
theorem takes0 {X : Cx} : Takes X (fun _ _ _ _ => False) := fun u s' ⟨_, _, _, _, _, _, _, _, _, _, _, _, _, _, _, _, w⟩ => w.elim
/-! isinstance(e, T), e a caught error with its own dict -/
def rIsX (K : PySem.W.Frag) (D a : Addr) (cls : Value) (d : Option Addr) : List V → Hp → VK → Prop := fun xs H Q => cls = .ref D ∧ ∃ (c : V) (cv : Value) (b : Bool) (dd : Addr) (fs : List (Str × V)), xs = [.ref a, c] ∧ (∀ u, RelV c u → u = cv) ∧ PySem.W.kitOne K (.ref D) cv = some b ∧ d = some dd ∧ H dd = some (.xd fs) ∧ Q (.bl b) H
theorem call_isX {X : Cx} {a D : Addr} {cls : Value} {d : Option Addr} {oe : Obj} {pn : List (Addr × Obj)} (C : ExcC X.K D) (hD : (PySem.W.clsIn X.K D).isSome = true) (hz : Zc cls d oe) (hf : ∃ vs, oe.data = .fields vs) : CallR (X.suite a ((a, oe) :: pn)) (.builtin "isinstance") (rIsX X.K D a cls d) := by
  rintro pins s σ H xs us Q I r ⟨rfl, c, cv, b, dd, fs, rfl, hcv, e, rfl, hd, q⟩
  obtain ⟨u1, u2, rfl, ra, rb⟩ := vals2 r
  obtain rfl : u1 = Value.ref a := ra
  obtain rfl := hcv _ rb
  have hp := I.pin (a, oe) (List.mem_append.mpr (.inl List.mem_cons_self))
  have ok := I.hok _ _ hd
  obtain ⟨hz1, hz2⟩ := hz
  obtain ⟨vs, hf⟩ := hf
  obtain ⟨o, ho⟩ : ∃ o, s.heap.get? dd = some o := by
    obtain ⟨mA, ⟨o, es, ep, e1, _⟩, _⟩ := ok
    exact ⟨o, e1⟩
  have ia : PySem.W.InstAt s.heap a oe D (some o) := ⟨hp.1, hz1, by unfold PySem.W.notCls; rw [hf], by rw [hz2]; exact ho⟩
  refine PySem.W.kia_one (PySem.W.kitx_exc (od := some o) (ox := oe) hD C.hg C.hk C.hs C.ha C.hn C.ht C.hm) I.kIn ia e (fun z => nomatch z) fun tk => ?_
  exact ⟨.bl b, H, I.tok _, rfl, q⟩
/-- what is handed to _law_outcome returns, or raises one of two errors -/
def TOut (D1 D2 : Addr) (tl : XK → Hp → VK → Prop) (H : Hp) (Q : VK) : Prop :=
  ∀ E : XK, (∀ (dd : Addr) (n : Int) (H' : Hp), H' dd = some (.xd [(("process" : Str), .int n)]) → (∀ l, H' l = none → Q (.ref l) (upd H' l (.lst [.str "full", .int n, .bl true]))) → E (.ref D1) (some dd) H') →
    (∀ (dd : Addr) (n : Int) (H' : Hp), H' dd = some (.xd [(("number" : Str), .int n)]) → (∀ l, H' l = none → Q (.ref l) (upd H' l (.lst [.str "not open", .int n, .bl true]))) → E (.ref D2) (some dd) H') → tl E H Q
theorem scOutcome : FnScope ["_law_deed", "e"] ["_law_deed"] (defScope sOutcome) := ⟨rfl, rfl, rfl, by decide +kernel, rfl, by decide +kernel, by decide +kernel⟩
abbrev tHd (K : PySem.W.Frag) (D : Addr) (wd f : Str) (B : String) : Addr → Value → Option Addr → TS := fun a cls d => tRet (tLst (tCons (tC (.str wd)) (tCons (tXf a cls d D f (tVar 1)) (tCons (tCB (rIsX K D a cls d) (tCons (tVar 1) (tCons (tC (.ty B)) tNil))) tNil))))
theorem out_gives {X : Cx} {D1 D2 f1 f2 : Addr} {fd1 fd2 : FuncData} {g : Addr} {cdg : Value} {q : Str} (T1 : FullE X.K X.mg D1 f1 fd1) (T2 : OpenE X.K X.mg D2 f2 fd2) (g1 : X.mg "OverflowError" = none) (g2 : X.mg "LookupError" = none) (isin : X.mg "isinstance" = none)
    (E1 : ExcC X.K D1) (C1 : (PySem.W.clsIn X.K D1).isSome = true) (k1 : PySem.W.kitOne X.K (.ref D1) (.type "OverflowError") = some true) (E2 : ExcC X.K D2) (C2 : (PySem.W.clsIn X.K D2).isSome = true) (k2 : PySem.W.kitOne X.K (.ref D2) (.type "LookupError") = some true) (x21 : PySem.W.exmOne X.K (.ref D2) (.ref D1) = some false) :
    LamX.GivesTo X ["_law_deed", "e"] "_law_outcome" (defScope sOutcome) g cdg (defBody sOutcome) "_law_deed" q (TOut D1 D2) := by
  intro f c' s H Q tl hPE hc' hT
  refine ⟨_, pss_one (ps_try_all (l := [⟨.ref D1, 1, tHd X.K D1 "full" "process" "OverflowError"⟩, ⟨.ref D2, 1, tHd X.K D2 "not open" "number" "LookupError"⟩]) (Wz := fun _ _ _ _ => False)
      (tb := fun W Ds σ H1 => (σ[0]? = some (some (.ref f)) ∧ H1 c' = some (LamX.CodeO c' q) ∧ tl (fun cls d H' => ∀ σ' : L2.St, σ'.length = 2 → W cls d σ' H') H1 Ds.rt))
      rfl rfl scOutcome.nd takes0
      (fun W pn xe tk _ => pss_one (ps_ret (hPE _ pn xe _ _ _ (takes_len tk) (fun cls d σ' H' h hl => h σ' hl))))
      (.cons rfl rfl ⟨rfl, by decide, Or.inl T1.gC⟩ (fun a oe cls d pn hz hf => pss_one (ps_ret (pe_lst (pa_cons pe_str (pa_cons (pe_xf T1.xf T1.noN hz hf (pv 1)) (pa_cons (pe_callB (call_isX E1 C1 hz hf) (by rfl) isin PyProof.Rows.boot_isinstance (pa_cons (pv 1) (pa_cons (pe_bltn (v := .ty "OverflowError") (by rfl) g1 (by rfl) rfl) pa_nil))) pa_nil))))))
      (.cons rfl rfl ⟨rfl, by decide, Or.inl T2.gC⟩ (fun a oe cls d pn hz hf => pss_one (ps_ret (pe_lst (pa_cons pe_str (pa_cons (pe_xf T2.xf T2.noN hz hf (pv 1)) (pa_cons (pe_callB (call_isX E2 C2 hz hf) (by rfl) isin PyProof.Rows.boot_isinstance (pa_cons (pv 1) (pa_cons (pe_bltn (v := .ty "LookupError") (by rfl) g2 (by rfl) rfl) pa_nil))) pa_nil)))))) .nil))), ?_⟩
  refine ⟨rfl, hc', hT _ (fun dd n H' hd k σ' hl => ⟨true, T1.te, fun _ a ha => ?_, fun z => Bool.noConfusion z⟩) (fun dd n H' hd k σ' hl => ⟨false, x21, (fun z => Bool.noConfusion z), fun _ => ⟨true, T2.te, fun _ a ha => ?_, fun z => Bool.noConfusion z⟩⟩)⟩
  · have e1 : (σ'.set 1 (some (V.ref a)))[1]? = some (some (V.ref a)) := by rw [List.getElem?_set_self (by omega)]
    refine ⟨_, e1, rfl, rfl, dd, _, _, rfl, hd, rfl, _, e1, rfl, .ty "OverflowError", .type "OverflowError", true, dd, _, rfl, fun u h => h, k1, rfl, hd, by show 3 ≤ sizeLine; decide, fun l hl2 => k l hl2⟩
  · have e1 : (σ'.set 1 (some (V.ref a)))[1]? = some (some (V.ref a)) := by rw [List.getElem?_set_self (by omega)]
    refine ⟨_, e1, rfl, rfl, dd, _, _, rfl, hd, rfl, _, e1, rfl, .ty "LookupError", .type "LookupError", true, dd, _, rfl, fun u h => h, k2, rfl, hd, by show 3 ≤ sizeLine; decide, fun l hl2 => k l hl2⟩
/-- what _law_outcome rests on -/
structure OutTxt (K : PySem.W.Frag) (mg : Str → Option Value) (D1 f1 : Addr) (fd1 : FuncData) (D2 f2 : Addr) (fd2 : FuncData) (g : Addr) (fd : FuncData) : Prop where
  fn : Fun K "_law_outcome" "_law_outcome" sOutcome g fd
  gm : mg "_law_outcome" = some (.ref g)
  bd : Binds K fd ["_law_deed"] []
  er1 : FullE K mg D1 f1 fd1
  er2 : OpenE K mg D2 f2 fd2
  g1 : mg "OverflowError" = none
  g2 : mg "LookupError" = none
  isin : mg "isinstance" = none
  ex1 : ExcC K D1
  cl1 : (PySem.W.clsIn K D1).isSome = true
  kv1 : PySem.W.kitOne K (.ref D1) (.type "OverflowError") = some true
  ex2 : ExcC K D2
  cl2 : (PySem.W.clsIn K D2).isSome = true
  kv2 : PySem.W.kitOne K (.ref D2) (.type "LookupError") = some true
  x21 : PySem.W.exmOne K (.ref D2) (.ref D1) = some false
/-- _law_outcome(lambda: e) -/
theorem pe_out {X : Cx} {D1 f1 D2 f2 g c Pt : Addr} {fd1 fd2 fd : FuncData} {T : List (Addr × Str)} {k : Nat} {params : Arguments} {body : Expr} {scope : PySem.Scope} {t : XK → TE} {p lpos pos : Pos} (R : OutTxt X.K X.mg D1 f1 fd1 D2 f2 fd2 g fd) (hg : Gl X "_law_outcome")
    (TB : LamX.TabB X.base X.mg c Pt) (hcode : X.env.code = .ref c) (hmT : (Pt, X.env.qual ++ "<lambda>") ∈ T) (hu : ∀ p ∈ T, p.1 = Pt → p.2 = X.env.qual ++ "<lambda>") (hr : Room (k + 2) X.A) (L : LamX.LamS X.env.scope scope) (hdef : defaultsOf params X.env = ([], []))
    (hbind : ∀ (q : Str) (cl : List (Str × Addr)) (pm cv ctv : Value), bindArgs (PySem.W.kla_fn "<lambda>" q params body scope cl pm cv ctv) ⟨[], []⟩ = pure [])
    (hbody : ∀ (A : Around) (outer : List Env) (s : Shared) (H : Hp) (E : XK) (f c' : Addr), Room k (A.deeper (LamX.lamEnv X scope s.heap.objs.size f c')) → PE (LamX.lamCx X A outer s H E scope f c') body (t E)) :
    PE X (.Call (.Name "_law_outcome" p) [.Lambda params body scope lpos] [] pos) (LamX.tLam T (TOut D1 D2) t) := by
  obtain ⟨oc, od, kV, doc, pm, an, cdv, ct, osl, e, lk, hcg⟩ := R.fn.ex
  have bd := R.bd
  subst e
  exact LamX.pe_lamcall hg R.gm R.fn.kp lk hcg bd scOutcome rfl (by exact Or.inl rfl) (out_gives R.er1 R.er2 R.g1 R.g2 R.isin R.ex1 R.cl1 R.kv1 R.ex2 R.cl2 R.kv2 R.x21) TB hcode hmT hu hr L hdef hbind hbody

open LamX
/-! o.m(e, .., k = v, ..), o.m(k = v, ..) -/
def tMethK (C : Addr) (m : Str) (n j : Nat) (sp : Sp) (gV : List V → List V → List V) (E : XK) (ta : TE) (t tk : TA) : TE := fun σ H Q => ta σ H fun x H1 => ∃ a dx fs, x = .ref a ∧ H1 a = some (.ins C dx fs) ∧ fs.lookup m = none ∧ t σ H1 fun vs H2 => tk σ H2 fun zs H3 => vs.length = n ∧ zs.length = j ∧ sp (gV (x :: vs) zs) H3 Q E
def tMethK0 (C : Addr) (m : Str) (j : Nat) (sp : Sp) (gV : List V → List V → List V) (E : XK) (ta : TE) (tk : TA) : TE := fun σ H Q => ta σ H fun x H1 => ∃ a dx fs, x = .ref a ∧ H1 a = some (.ins C dx fs) ∧ fs.lookup m = none ∧ tk σ H1 fun zs H3 => zs.length = j ∧ sp (gV [x] zs) H3 Q E
section
variable {X : Cx} {CX : CXT} {k n : Nat} {f C : Addr} {fd : FuncData} {ps ks : List Str} {sp : Sp} {E : XK} {m : Str} {apos pos : Pos} {o e : Expr} {es : List Expr} {kws : List Keyword} {ta : TE} {t tk : TA} {g : List Value → List Value → List Value} {gV : List V → List V → List V}
theorem pe_methK {pl : Sem Bool} (he : PE X o ta) (c : Cls X.K C) (hm : Meth X.K C m f) (F : FnOk X.prog X.w X.K X.mg X.base CX k f fd ps sp) (hr : Room k X.A) (hb : KBn X.K fd ps (n + 1) ks g gV) (hx : Passes CX X E) (ha : PA X (e :: es) t) (hkw : PK X kws tk)
    (hall : (backToKw pos (keywordEach kws X.env)).all (·.1.isSome) = true := by rfl) (hks : (backToKw pos (keywordEach kws X.env)).filterMap (·.1) = ks := by rfl)
    (hst : starEach (e :: es) X.env = (false, eval e X.env) :: starEach es X.env := by rfl) (hpl : ((backTo pos (starEach (e :: es) X.env)).any (·.1) || (backToKw pos (keywordEach kws X.env)).any (·.1.isNone)) = false := by rfl)
    (ht : eval (.Call (.Attribute o m apos) (e :: es) kws pos) X.env = (do
      let ov ← eval o X.env
      standAt apos.atName
      let (f, first) ← holding [ov] (getMethod ov m pl)
      callWith pos f first (backTo pos (starEach (e :: es) X.env)) (backToKw pos (keywordEach kws X.env))) := by rfl) :
    PE X (.Call (.Attribute o m apos) (e :: es) kws pos) (tMethK C m n ks.length sp gV E ta t tk) := by
  refine ⟨fun pins s σ H Q I h => ?_⟩
  refine PySem.W.methodCall_KW (pl := pl) (thn (he.run pins s σ H _ I h) fun u s1 ⟨x, H1, I1, rx, a, dx, fs, ex, ea, l, q⟩ => ?_) ht
  subst ex
  obtain rfl : u = Value.ref a := rx
  refine getmeth_ok I1 ea c hm l ?_
  refine PySem.W.callWith_KW (first := [.ref a]) (h₀ := X.base) I.ok.mod.kin hm.kp hall (thn (ha.run pos pins s1 σ H1 _ I1 q) fun us s2 ⟨vs, H2, I2, r, q2⟩ => ?_) hpl hst
  refine thn (hkw.run pos pins s2 σ H2 _ I2 q2) fun ws s3 ⟨zs, H3, I3, rz, l1, l2, q3⟩ => ⟨I3.kIn, ?_⟩
  rw [hks]
  exact run_fnN (us := .ref a :: us) (vs := .ref a :: vs) F hr hb hx I3 (.cons rfl r) rz (by rw [List.length_cons, l1]) l2 q3
theorem pe_methK0 {pl : Sem Bool} (he : PE X o ta) (c : Cls X.K C) (hm : Meth X.K C m f) (F : FnOk X.prog X.w X.K X.mg X.base CX k f fd ps sp) (hr : Room k X.A) (hb : KBn X.K fd ps 1 ks g gV) (hx : Passes CX X E) (hkw : PK X kws tk)
    (hall : (backToKw pos (keywordEach kws X.env)).all (·.1.isSome) = true := by rfl) (hks : (backToKw pos (keywordEach kws X.env)).filterMap (·.1) = ks := by rfl)
    (hpl : ((backTo pos (starEach [] X.env)).any (·.1) || (backToKw pos (keywordEach kws X.env)).any (·.1.isNone)) = false := by rfl)
    (ht : eval (.Call (.Attribute o m apos) [] kws pos) X.env = (do
      let ov ← eval o X.env
      standAt apos.atName
      let (f, first) ← holding [ov] (getMethod ov m pl)
      callWith pos f first (backTo pos (starEach [] X.env)) (backToKw pos (keywordEach kws X.env))) := by rfl) :
    PE X (.Call (.Attribute o m apos) [] kws pos) (tMethK0 C m ks.length sp gV E ta tk) := by
  refine ⟨fun pins s σ H Q I h => ?_⟩
  refine PySem.W.methodCall_KW (pl := pl) (thn (he.run pins s σ H _ I h) fun u s1 ⟨x, H1, I1, rx, a, dx, fs, ex, ea, l, q⟩ => ?_) ht
  subst ex
  obtain rfl : u = Value.ref a := rx
  refine getmeth_ok I1 ea c hm l ?_
  refine PySem.W.callWith_KW0 (first := [.ref a]) (h₀ := X.base) I.ok.mod.kin hm.kp hall (thn (hkw.run pos pins s1 σ H1 _ I1 q) fun ws s3 ⟨zs, H3, I3, rz, l2, q3⟩ => ⟨I3.kIn, ?_⟩) hpl
  rw [hks]
  exact run_fnN (us := [.ref a]) (vs := [.ref a]) F hr hb hx I3 (.cons rfl .nil) rz rfl l2 q3
end
/-- all parameters by position or by name, of a def with positional defaults -/
theorem kb1 {K : PySem.W.Frag} {x qual : Str} {params : Arguments} {body : List Stmt} {scope : PySem.Scope} {dvs : List V} {kws : List (Str × V)} {f : Addr} {fd : FuncData} {ps : List Str} (F : FunD K x qual params body scope dvs kws f fd) (n : Nat) (ks : List Str) (hd : dvs ≠ [])
    (h : ∀ (T : Addr) (kV doc pm : Value) (an : Option Addr) (cdv ct : Value) (us its ws : List Value), us.length = n → its.length = dvs.length → ws.length = ks.length →
      ∃ k, bindArgs (PySem.W.fnOf x qual params body scope (.ref T) kV doc pm an cdv ct) ⟨us, ks.zip ws⟩ = seqItems? (.ref T) >>= k ∧ k (some its.toArray) = pure (ps.zip (us ++ ws))) : KBn K fd ps n ks (fun us ws => us ++ ws) (fun vs zs => vs ++ zs) := by
  obtain ⟨oc, od, dV, kV, doc, pm, an, cdv, ct, osl, rfl, lk, hcd, hD, hK⟩ := F.ex
  rcases hD with ⟨e, _⟩ | ⟨_, T, o, its, m, rfl, lT, oT, rT⟩
  · exact absurd e hd
  refine ⟨fun s us ws X l1 l2 => BindsTo.of_looks fun M => ?_, fun r1 r2 => r1.append r2⟩
  obtain ⟨k, e1, e2⟩ := h T kV doc pm an cdv ct us its ws l1 rT.length.symm l2
  rw [e1]
  exact looks_items X lT oT (.of_pure e2)
/-- a method: its promise, its places, what it binds where all is given -/
structure MX (P : Program) (w : World) (K : PySem.W.Frag) (mg : Str → Option Value) (base : Heap) (CX : CXT) (k : Nat) (C : Addr) (m : Str) (ps : List Str) (sp : Sp) (f : Addr) (fd : FuncData) : Prop where
  g : FnOk P w K mg base CX k f fd ps sp
  m : Meth K C m f
  b : Binds K fd ps []

theorem co_tbl {C : Cs} {S : Sys} {ad dx : Cell → Addr} {c : Cell} (ps : Array Value) : co C S ad dx c ≠ .tbl ps := fun z => by
  cases c <;> (unfold co at z; first | (unfold sysO at z; cases z) | (unfold wsO at z; cases z) | cases z)
theorem At.extN {C : Cs} {H H1 : Hp} {S : Sys} {ad dx : Cell → Addr} (A : At C H S ad dx) (e : ExtN H H1) : At C H1 S ad dx := ⟨fun c hc => e _ _ (A.at_ c hc) co_tbl, A.inj⟩
theorem code_ne {C : Cs} {S : Sys} {ad dx : Cell → Addr} {c : Cell} {a : Addr} {q : Str} : co C S ad dx c ≠ CodeO a q := fun z => by
  unfold CodeO at z
  cases c <;> (unfold co at z; first | (unfold sysO at z; cases z) | (unfold wsO at z; cases z) | cases z)
/-- where tables and code objects stay -/
theorem Tabs.by {T : List (Addr × Str)} {H H' : Hp} (t : Tabs T H) (e1 : ∀ b ps, H b = some (.tbl ps) → H' b = some (.tbl ps)) (e2 : ∀ b q, H b = some (CodeO b q) → H' b = some (CodeO b q)) : Tabs T H' := fun p hp => by
  obtain ⟨ps, h1, h2, h3⟩ := t p hp
  refine ⟨ps, e1 _ _ h1, h2, fun pos cv hc => ?_⟩
  obtain ⟨c, x1, x2⟩ := h3 pos cv hc
  exact ⟨c, x1, e2 _ _ x2⟩
theorem Tabs.step {T : List (Addr × Str)} {C : Cs} {H H' : Hp} {S S' : Sys} {ad ad' dx : Cell → Addr} (t : Tabs T H) (A : At C H S ad dx) (st : Step H S ad H' S' ad') : Tabs T H' :=
  Tabs.by t (fun b ps h => st.keep b _ (fun ⟨c, lc, ec⟩ => by rw [← ec, A.at_ c lc] at h; exact co_tbl ps (Option.some.inj h)) h) (fun b q h => st.keep b _ (fun ⟨c, lc, ec⟩ => by rw [← ec, A.at_ c lc] at h; exact code_ne (Option.some.inj h)) h)
theorem Tabs.lst {T : List (Addr × Str)} {H : Hp} {l : Addr} {us : List V} {o : HO} (t : Tabs T H) (hl : H l = some (.lst us)) : Tabs T (upd H l o) :=
  Tabs.by t (fun b ps h => by rw [upd_ne (fun z => by rw [z, hl] at h; cases h)]; exact h) (fun b q h => by rw [upd_ne (fun z => by rw [z, hl] at h; unfold CodeO at h; cases h)]; exact h)
/-- the heap without its tables -/
def hT (H : Hp) : Hp := fun b => match H b with
  | some (.tbl _) => none
  | r => r
theorem hT_at {H : Hp} {b : Addr} {o : HO} (h : H b = some o) (n : ∀ ps, o ≠ .tbl ps) : hT H b = some o := by
  unfold hT
  rw [h]
  cases o <;> first | rfl | exact absurd rfl (n _)
theorem hT_of {H : Hp} {b : Addr} {o : HO} (h : hT H b = some o) : H b = some o ∧ ∀ ps, o ≠ .tbl ps := by
  unfold hT at h
  cases e : H b with
  | none => rw [e] at h; cases h
  | some u =>
    rw [e] at h
    cases u <;> first | (cases h; exact ⟨rfl, fun ps z => by cases z⟩) | cases h
theorem hT_none {H : Hp} {b : Addr} (h : H b = none) : hT H b = none := by
  unfold hT
  rw [h]
theorem extN_hT {H H1 : Hp} (e : ExtN H H1) : Same (hT H) H1 := fun b o h => e b o (hT_of h).1 (hT_of h).2
theorem Same.frees {H H' : Hp} (s : Same H H') {b : Addr} (h : H' b = none) : H b = none := by
  cases q : H b with
  | none => rfl
  | some o => rw [s b o q] at h; cases h
theorem BagAt.lst {H : Hp} {p : Addr} (b : BagAt H p) : ∃ xs, H p = some (.lst xs) := by
  obtain ⟨x, y, h, _⟩ := b
  exact ⟨_, h⟩
theorem Tabs.off {T : List (Addr × Str)} {H H' : Hp} {l : Addr} {us : List V} (t : Tabs T H) (hl : H l = some (.lst us)) (k : ∀ q o, q ≠ l → H q = some o → H' q = some o) : Tabs T H' :=
  Tabs.by t (fun b ps h => k b _ (fun z => by rw [z, hl] at h; cases h) h) (fun b q h => k b _ (fun z => by rw [z, hl] at h; unfold CodeO at h; cases h) h)
/-! the law's table and the system's -/
def upF {α : Type} (f : Int → α) (n : Int) (a : α) : Int → α := fun k => if k = n then a else f k
theorem upF_at {α : Type} {f : Int → α} {n : Int} {a : α} : upF f n a n = a := if_pos rfl
theorem upF_ne {α : Type} {f : Int → α} {n k : Int} {a : α} (h : k ≠ n) : upF f n a k = f k := if_neg h
def IsLow (ks : List Int) (N : Int) (n : Nat) : Prop := (n : Int) < N ∧ (n : Int) ∉ ks ∧ ∀ i : Nat, i < n → (i : Int) ∈ ks
def AllIn (ks : List Int) (N : Int) : Prop := ∀ i : Nat, (i : Int) < N → (i : Int) ∈ ks
theorem IsLow.uniq {ks : List Int} {N : Int} {n m : Nat} (a : IsLow ks N n) (b : IsLow ks N m) : n = m := by
  rcases Nat.lt_trichotomy n m with h | h | h
  · exact absurd (b.2.2 n h) a.2.1
  · exact h
  · exact absurd (a.2.2 m h) b.2.1
theorem IsLow.all {ks : List Int} {N : Int} {n : Nat} (a : IsLow ks N n) (b : AllIn ks N) : False := a.2.1 (b n a.1)
structure Fit (S : Sys) (ks : List Int) (th tm : Int → Int) (kd : Int → Bool) (turn : Int) : Prop where
  nd : ks.Nodup
  procs : S.procs = [0]
  N3 : 3 ≤ S.N
  N8 : S.N ≤ 8
  len : (S.tab 0).length = S.N.toNat
  bd : ∀ n ∈ ks, 0 ≤ n ∧ n < S.N
  on : ∀ n ∈ ks, (S.tab 0)[n.toNat]? = some (some (th n))
  fr : ∀ i : Nat, (i : Int) < S.N → (i : Int) ∉ ks → (S.tab 0)[i]? = some none
  ks1 : ∀ n ∈ ks, kd n = decide (th n ∈ S.srcs)
  ks2 : ∀ n ∈ ks, th n ∉ S.srcs → th n ∈ S.sets
  dj : ∀ t ∈ S.sets, t ∉ S.srcs
  same : ∀ n ∈ ks, ∀ m ∈ ks, tm n = tm m ↔ th n = th m
  lt : ∀ n ∈ ks, 0 ≤ tm n ∧ tm n < turn
  nx1 : ∀ t ∈ S.srcs, t < S.next
  nx2 : ∀ t ∈ S.sets, t < S.next
  l1 : (S.srcs.length : Int) ≤ turn
  l2 : (S.sets.length : Int) ≤ turn
  kl : (ks.length : Int) ≤ turn
  t0 : 0 ≤ turn
section
variable {S S' : Sys} {ks : List Int} {th tm : Int → Int} {kd : Int → Bool} {turn : Int}
theorem Fit.len8 (F : Fit S ks th tm kd turn) : (S.tab 0).length ≤ 8 := by
  have := F.len
  have := F.N8
  omega
theorem Fit.p0 (F : Fit S ks th tm kd turn) : (0 : Int) ∈ S.procs := by rw [F.procs]; exact List.mem_singleton.mpr rfl
theorem Fit.means (F : Fit S ks th tm kd turn) {n : Int} (h : n ∈ ks) : Means S 0 n (th n) := by
  have := F.bd n h
  exact ⟨F.p0, by omega, by omega, F.on n h⟩
theorem Fit.shut (F : Fit S ks th tm kd turn) {n : Int} (h : n ∉ ks) (n0 : 0 ≤ n) : Opn S 0 n none := by
  refine ⟨F.p0, n0, fun z => ?_, fun _ => rfl⟩
  have e : ((n.toNat : Nat) : Int) = n := by omega
  exact F.fr n.toNat (by omega) (by rw [e]; exact h)
theorem Fit.first (F : Fit S ks th tm kd turn) {n : Nat} (h : firstFree (S.tab 0) n) : IsLow ks S.N n := by
  have := F.N3
  have ln := F.len
  have hn : n < (S.tab 0).length := (List.getElem?_eq_some_iff.mp h.1).1
  refine ⟨by omega, fun z => ?_, fun i hi => ?_⟩
  · have e := F.on _ z
    rw [Int.toNat_natCast, h.1] at e
    cases e
  · by_cases z : (i : Int) ∈ ks
    · exact z
    · obtain ⟨x, e⟩ := h.2 i hi
      rw [F.fr i (by omega) z] at e
      cases e
theorem Fit.full (F : Fit S ks th tm kd turn) (h : Ful (S.tab 0)) : AllIn ks S.N := fun i hi => by
  by_cases z : (i : Int) ∈ ks
  · exact z
  · have ln := F.len
    obtain ⟨x, e⟩ := h i (by omega)
    rw [F.fr i hi z] at e
    cases e
theorem Fit.next (F : Fit S ks th tm kd turn) : Fit S ks th tm kd (turn + 1) :=
  ⟨F.nd, F.procs, F.N3, F.N8, F.len, F.bd, F.on, F.fr, F.ks1, F.ks2, F.dj, F.same, fun n h => ⟨(F.lt n h).1, by have := (F.lt n h).2; omega⟩, F.nx1, F.nx2, by have := F.l1; omega, by have := F.l2; omega, by have := F.kl; omega, by have := F.t0; omega⟩
theorem nodup_snoc {ks : List Int} {n : Int} (h : ks.Nodup) (hn : n ∉ ks) : (ks ++ [n]).Nodup := by
  rw [List.nodup_append]
  refine ⟨h, by simp, fun a ha b hb => ?_⟩
  rw [List.mem_singleton.mp hb]
  exact fun z => hn (z ▸ ha)
theorem set_at {α : Type} {l : List α} {n i : Nat} {a : α} : (l.set n a)[i]? = if n = i ∧ i < l.length then some a else l[i]? := by
  rw [List.getElem?_set]
  by_cases h : n = i
  · subst h
    by_cases h2 : n < l.length
    · rw [if_pos rfl, if_pos h2, if_pos ⟨rfl, h2⟩]
    · rw [if_pos rfl, if_neg h2, if_neg (fun z => h2 z.2), List.getElem?_eq_none (by omega)]
  · rw [if_neg h, if_neg (fun z => h z.1)]
/-- one more number -/
theorem Fit.more (F : Fit S ks th tm kd turn) {n : Nat} (lo : IsLow ks S.N n) {t u : Int} {b : Bool} (e1 : S'.procs = S.procs) (e2 : S'.N = S.N) (e3 : S'.tab 0 = (S.tab 0).set n (some t)) (hs : ∀ j ∈ ks, th j ∈ S'.srcs ↔ th j ∈ S.srcs) (hs2 : ∀ j ∈ S.sets, j ∈ S'.sets)
    (hb : b = decide (t ∈ S'.srcs)) (hb2 : t ∉ S'.srcs → t ∈ S'.sets) (dj : ∀ j ∈ S'.sets, j ∉ S'.srcs) (sm : ∀ j ∈ ks, tm j = u ↔ th j = t) (lt : 0 ≤ u ∧ u < turn + 1) (nx1 : ∀ t ∈ S'.srcs, t < S'.next) (nx2 : ∀ t ∈ S'.sets, t < S'.next) (l1 : (S'.srcs.length : Int) ≤ turn + 1) (l2 : (S'.sets.length : Int) ≤ turn + 1) :
    Fit S' (ks ++ [(n : Int)]) (upF th n t) (upF tm n u) (upF kd n b) (turn + 1) := by
  have hne : ∀ j ∈ ks, j ≠ (n : Int) := fun j h z => lo.2.1 (z ▸ h)
  have ln := F.len
  have hn := lo.1
  have split : ∀ {j : Int}, j ∈ ks ++ [(n : Int)] → j ∈ ks ∨ j = (n : Int) := fun h => (List.mem_append.mp h).imp id List.mem_singleton.mp
  refine ⟨nodup_snoc F.nd lo.2.1, e1.trans F.procs, by rw [e2]; exact F.N3, by rw [e2]; exact F.N8, by rw [e3, e2, List.length_set]; exact ln, fun j h => ?_, fun j h => ?_, fun i h1 h2 => ?_, fun j h => ?_, fun j h => ?_, dj, fun j h m h' => ?_, fun j h => ?_, nx1, nx2, l1, l2, by have := F.kl; rw [List.length_append]; show ((ks.length + 1 : Nat) : Int) ≤ _; omega, by have := F.t0; omega⟩
  · rw [e2]
    rcases split h with y | rfl
    · exact F.bd j y
    · omega
  · rw [e3, set_at]
    rcases split h with y | rfl
    · have := F.bd j y
      have nj := hne j y
      rw [if_neg (fun z => by omega), upF_ne nj]
      exact F.on j y
    · rw [if_pos (by omega), upF_at]
  · rw [e3, set_at]
    rw [e2] at h1
    have h3 : (i : Int) ∉ ks := fun z => h2 (List.mem_append_left _ z)
    have h4 : (i : Int) ≠ (n : Int) := fun z => h2 (List.mem_append_right _ (List.mem_singleton.mpr z))
    rw [if_neg (fun z => by omega)]
    exact F.fr i h1 h3
  · rcases split h with y | rfl
    · rw [upF_ne (hne j y), upF_ne (hne j y), F.ks1 j y]
      exact decide_eq_decide.mpr (hs j y).symm
    · rw [upF_at, upF_at]
      exact hb
  · rcases split h with y | rfl
    · rw [upF_ne (hne j y)]
      exact fun z => hs2 _ (F.ks2 j y fun w => z ((hs j y).mpr w))
    · rw [upF_at]
      exact hb2
  · rcases split h with y | rfl <;> rcases split h' with y' | rfl
    · rw [upF_ne (hne j y), upF_ne (hne j y), upF_ne (hne m y'), upF_ne (hne m y')]
      exact F.same j y m y'
    · rw [upF_ne (hne j y), upF_ne (hne j y), upF_at, upF_at]
      exact sm j y
    · rw [upF_ne (hne m y'), upF_ne (hne m y'), upF_at, upF_at]
      exact ⟨fun z => ((sm m y').mp z.symm).symm, fun z => ((sm m y').mpr z.symm).symm⟩
    · exact ⟨fun _ => rfl, fun _ => rfl⟩
  · rcases split h with y | rfl
    · rw [upF_ne (hne j y)]
      have := F.lt j y
      omega
    · rw [upF_at]
      exact lt
theorem Fit.src (F : Fit S ks th tm kd turn) {n : Nat} (lo : IsLow ks S.N n) : Fit (newSource S 0 n) (ks ++ [(n : Int)]) (upF th n S.next) (upF tm n turn) (upF kd n true) (turn + 1) := by
  have old : ∀ j ∈ ks, th j ≠ S.next := fun j h z => by
    by_cases hs : th j ∈ S.srcs
    · have := F.nx1 _ hs
      omega
    · have := F.nx2 _ (F.ks2 j h hs)
      omega
  have mem : ∀ {t : Int}, t ∈ (newSource S 0 n).srcs ↔ t ∈ S.srcs ∨ t = S.next := by
    intro t
    show t ∈ S.srcs ++ [S.next] ↔ _
    rw [List.mem_append, List.mem_singleton]
  have t0 := F.t0
  refine F.more lo rfl rfl ?_ (fun j h => ?_) (fun j h => h) ?_ (fun z => ?_) (fun j h => ?_) (fun j h => ?_) ⟨F.t0, by omega⟩ (fun t h => ?_) (fun t h => ?_) ?_ ?_
  · show (if (0 : Int) = 0 then (S.tab 0).set n (some S.next) else S.tab 0) = _
    rw [if_pos rfl]
  · rw [mem]
    exact ⟨fun z => z.resolve_right (old j h), .inl⟩
  · exact (decide_eq_true (mem.mpr (.inr rfl))).symm
  · exact absurd (mem.mpr (.inr rfl)) z
  · rw [mem]
    rintro (z | z)
    · exact F.dj j h z
    · have := F.nx2 j h
      omega
  · have := (F.lt j h).2
    exact ⟨fun z => by omega, fun z => absurd z (old j h)⟩
  · show t < S.next + 1
    rcases mem.mp h with z | z
    · have := F.nx1 t z
      omega
    · omega
  · show t < S.next + 1
    have := F.nx2 t h
    omega
  · show ((S.srcs ++ [S.next]).length : Int) ≤ _
    rw [List.length_append]
    have := F.l1
    show ((S.srcs.length + 1 : Nat) : Int) ≤ _
    omega
  · have := F.l2
    show (S.sets.length : Int) ≤ _
    omega
theorem Fit.set (F : Fit S ks th tm kd turn) {n : Nat} (lo : IsLow ks S.N n) : Fit (newSet S 0 n) (ks ++ [(n : Int)]) (upF th n S.next) (upF tm n turn) (upF kd n false) (turn + 1) := by
  have old : ∀ j ∈ ks, th j ≠ S.next := fun j h z => by
    by_cases hs : th j ∈ S.srcs
    · have := F.nx1 _ hs
      omega
    · have := F.nx2 _ (F.ks2 j h hs)
      omega
  have mem : ∀ {t : Int}, t ∈ (newSet S 0 n).sets ↔ t ∈ S.sets ∨ t = S.next := by
    intro t
    show t ∈ S.sets ++ [S.next] ↔ _
    rw [List.mem_append, List.mem_singleton]
  have hn : S.next ∉ S.srcs := fun z => absurd (F.nx1 _ z) (Int.lt_irrefl _)
  have t0 := F.t0
  refine F.more lo rfl rfl ?_ (fun j h => Iff.rfl) (fun j h => mem.mpr (.inl h)) ?_ (fun z => mem.mpr (.inr rfl)) (fun j h => ?_) (fun j h => ?_) ⟨F.t0, by omega⟩ (fun t h => ?_) (fun t h => ?_) ?_ ?_
  · show (if (0 : Int) = 0 then (S.tab 0).set n (some S.next) else S.tab 0) = _
    rw [if_pos rfl]
  · exact (decide_eq_false hn).symm
  · rcases mem.mp h with z | z
    · exact F.dj j z
    · rw [z]
      exact hn
  · have := (F.lt j h).2
    exact ⟨fun z => by omega, fun z => absurd z (old j h)⟩
  · show t < S.next + 1
    have := F.nx1 t h
    omega
  · show t < S.next + 1
    rcases mem.mp h with z | z
    · have := F.nx2 t z
      omega
    · omega
  · have := F.l1
    show (S.srcs.length : Int) ≤ _
    omega
  · show ((S.sets ++ [S.next]).length : Int) ≤ _
    rw [List.length_append]
    have := F.l2
    show ((S.sets.length + 1 : Nat) : Int) ≤ _
    omega
theorem Fit.copy (F : Fit S ks th tm kd turn) {n : Int} (h : n ∈ ks) {m : Nat} (lo : IsLow ks S.N m) : Fit (copied S 0 m (th n)) (ks ++ [(m : Int)]) (upF th m (th n)) (upF tm m (tm n)) (upF kd m (kd n)) (turn + 1) := by
  have t0 := F.lt n h
  refine F.more lo rfl rfl ?_ (fun j _ => Iff.rfl) (fun j h => h) (F.ks1 n h) (F.ks2 n h) F.dj (fun j hj => F.same j hj n h) (by omega) F.nx1 F.nx2 (by have := F.l1; show (S.srcs.length : Int) ≤ _; omega) (by have := F.l2; show (S.sets.length : Int) ≤ _; omega)
  show (if (0 : Int) = 0 then (S.tab 0).set m (some (th n)) else S.tab 0) = _
  rw [if_pos rfl]
theorem Fit.less (F : Fit S ks th tm kd turn) {n : Int} (h : n ∈ ks) (e1 : S'.procs = S.procs) (e2 : S'.N = S.N) (e3 : S'.tab 0 = (S.tab 0).set n.toNat none) (hs : ∀ j ∈ ks, j ≠ n → (th j ∈ S'.srcs ↔ th j ∈ S.srcs)) (hs2 : ∀ j ∈ ks, j ≠ n → th j ∈ S.sets → th j ∈ S'.sets)
    (q1 : ∀ t ∈ S'.srcs, t ∈ S.srcs) (q2 : ∀ t ∈ S'.sets, t ∈ S.sets) (q3 : S'.next = S.next) (l1 : S'.srcs.length ≤ S.srcs.length) (l2 : S'.sets.length ≤ S.sets.length) : Fit S' (without n ks) th tm kd (turn + 1) := by
  have ln := F.len
  have hb := F.bd n h
  refine ⟨F.nd.filter _, e1.trans F.procs, by rw [e2]; exact F.N3, by rw [e2]; exact F.N8, by rw [e3, e2, List.length_set]; exact ln, fun j hj => ?_, fun j hj => ?_, fun i h1 h2 => ?_, fun j hj => ?_, fun j hj => ?_, fun t ht z => F.dj t (q2 t ht) (q1 t z), fun j hj m hm => F.same j (mem_without.mp hj).1 m (mem_without.mp hm).1, fun j hj => ?_, fun t ht => by rw [q3]; exact F.nx1 t (q1 t ht), fun t ht => by rw [q3]; exact F.nx2 t (q2 t ht), ?_, ?_, by have := F.kl; have := List.length_filter_le (fun x => decide (x ≠ n)) ks; unfold without; omega, by have := F.t0; omega⟩
  · rw [e2]
    exact F.bd j (mem_without.mp hj).1
  · obtain ⟨y, nj⟩ := mem_without.mp hj
    have := F.bd j y
    rw [e3, set_at, if_neg (fun z => by omega)]
    exact F.on j y
  · rw [e2] at h1
    rw [e3, set_at]
    by_cases z : n.toNat = i
    · rw [if_pos ⟨z, by omega⟩]
    · rw [if_neg (fun y => z y.1)]
      exact F.fr i h1 fun y => h2 (mem_without.mpr ⟨y, fun w => z (by omega)⟩)
  · obtain ⟨y, nj⟩ := mem_without.mp hj
    rw [F.ks1 j y]
    exact decide_eq_decide.mpr (hs j y nj).symm
  · obtain ⟨y, nj⟩ := mem_without.mp hj
    exact fun z => hs2 j y nj (F.ks2 j y fun w => z ((hs j y nj).mpr w))
  · have := F.lt j (mem_without.mp hj).1
    omega
  · have := F.l1
    omega
  · have := F.l2
    omega
theorem Fit.close (F : Fit S ks th tm kd turn) {n : Int} (h : n ∈ ks) : Fit (closed S 0 n (th n)) (without n ks) th tm kd (turn + 1) := by
  have e3 : (cleared S 0 n).tab 0 = (S.tab 0).set n.toNat none := by
    show (if (0 : Int) = 0 then (S.tab 0).set n.toNat none else S.tab 0) = _
    rw [if_pos rfl]
  unfold closed
  by_cases hq : ∃ q ∈ S.procs, some (th n) ∈ (cleared S 0 n).tab q
  · rw [if_pos hq]
    exact F.less h rfl rfl e3 (fun _ _ _ => Iff.rfl) (fun _ _ _ z => z) (fun _ z => z) (fun _ z => z) rfl (Nat.le_refl _) (Nat.le_refl _)
  rw [if_neg hq]
  have gone : ∀ j ∈ ks, j ≠ n → th j ≠ th n := fun j hj nj z => hq ⟨0, F.p0, by
    rw [e3]
    have := F.bd j hj
    have hb := F.bd n h
    refine List.mem_of_getElem? (i := j.toNat) ?_
    rw [set_at, if_neg (fun y => by omega), F.on j hj, z]⟩
  unfold ended
  by_cases ht : th n ∈ (cleared S 0 n).sets
  · rw [if_pos ht]
    exact F.less h rfl rfl e3 (fun _ _ _ => Iff.rfl) (fun j hj nj z => mem_without.mpr ⟨z, gone j hj nj⟩) (fun _ z => z) (fun _ z => (mem_without.mp z).1) rfl (Nat.le_refl _) (List.length_filter_le _ _)
  · rw [if_neg ht]
    exact F.less h rfl rfl e3 (fun j hj nj => ⟨fun z => (mem_without.mp z).1, fun z => mem_without.mpr ⟨z, gone j hj nj⟩⟩) (fun _ _ _ z => z) (fun _ z => (mem_without.mp z).1) (fun _ z => z) rfl (List.length_filter_le _ _) (Nat.le_refl _)
end
theorem Fit.start {N : Int} (h3 : 3 ≤ N) (h8 : N ≤ 8) : Fit (newSys 4 N) [] (fun _ => 0) (fun _ => 0) (fun _ => false) 0 where
  nd := .nil
  procs := rfl
  N3 := h3
  N8 := h8
  len := List.length_replicate
  bd := fun _ h => nomatch h
  on := fun _ h => nomatch h
  fr := fun i h _ => by
    show (List.replicate N.toNat (none : Option Int))[i]? = some none
    rw [List.getElem?_replicate, if_pos (by have : (i : Int) < N := h; omega)]
  ks1 := fun _ h => nomatch h
  ks2 := fun _ h => nomatch h
  dj := fun _ h => nomatch h
  same := fun _ h => nomatch h
  lt := fun _ h => nomatch h
  nx1 := fun _ h => nomatch h
  nx2 := fun _ h => nomatch h
  l1 := Int.le_refl _
  l2 := Int.le_refl _
  kl := Int.le_refl _
  t0 := Int.le_refl _

abbrev Tp (t : Int) (b : Bool) : HO := .tup [.int t, .str (kindS b)]
/-- the law's heap: its bag p, the system x, its table D with the numbers ks and their tuples -/
structure LW (C : Cs) (T : List (Addr × Str)) (Hb H : Hp) (p x D : Addr) (S : Sys) (ad dx : Cell → Addr) (ks : List Int) (g : Int → Addr) (tm : Int → Int) (kd : Int → Bool) : Prop where
  at_ : At C H S ad dx
  box : ad .box = x
  tab : Tabs T H
  bag : BagAt H p
  dict : H D = some (.dK (entKV ks g))
  tup : ∀ n ∈ ks, H (g n) = some (Tp (tm n) (kd n))
  old : ∀ q o, hT Hb q = some o → H q = some o
  nb : ∀ b, own S ad b → hT Hb b = none
  pb : hT Hb p = none
  Db : hT Hb D = none
  np : ¬ own S ad p
  nD : ¬ own S ad D
  nT : ∀ n ∈ ks, ¬ own S ad (g n)
section
variable {C : Cs} {T : List (Addr × Str)} {Hb H H1 H' : Hp} {p x D : Addr} {S S' : Sys} {ad ad' dx dx' : Cell → Addr} {ks ks' : List Int} {g g' : Int → Addr} {tm tm' : Int → Int} {kd kd' : Int → Bool}
theorem LW.pD (W : LW C T Hb H p x D S ad dx ks g tm kd) : p ≠ D := fun z => by
  obtain ⟨xs, h⟩ := W.bag.lst
  rw [z, W.dict] at h
  cases h
theorem LW.pT (W : LW C T Hb H p x D S ad dx ks g tm kd) {n : Int} (hn : n ∈ ks) : g n ≠ p := fun z => by
  obtain ⟨xs, h⟩ := W.bag.lst
  rw [← z, W.tup n hn] at h
  cases h
theorem LW.DT (W : LW C T Hb H p x D S ad dx ks g tm kd) {n : Int} (hn : n ∈ ks) : g n ≠ D := fun z => by
  have h := W.dict
  rw [← z, W.tup n hn] at h
  cases h
theorem LW.same (W : LW C T Hb H p x D S ad dx ks g tm kd) (s : Same H H') : LW C T Hb H' p x D S ad dx ks g tm kd := by
  obtain ⟨a, b, h, r⟩ := W.bag
  exact ⟨W.at_.same s, W.box, W.tab.ext s, ⟨a, b, s _ _ h, r⟩, s _ _ W.dict, fun n hn => s _ _ (W.tup n hn), fun q o h => s _ _ (W.old q o h), W.nb, W.pb, W.Db, W.np, W.nD, W.nT⟩
theorem LW.draw (W : LW C T Hb H p x D S ad dx ks g tm kd) (e : ∀ b, b ≠ p → H' b = H b) (bg : BagAt H' p) : LW C T Hb H' p x D S ad dx ks g tm kd := by
  obtain ⟨xs, hp⟩ := W.bag.lst
  exact ⟨⟨fun c hc => (e _ fun z => W.np ⟨c, hc, z⟩).trans (W.at_.at_ c hc), W.at_.inj⟩, W.box, Tabs.off W.tab hp fun q o n h => (e q n).trans h, bg, (e D (Ne.symm W.pD)).trans W.dict, fun n hn => (e _ (W.pT hn)).trans (W.tup n hn),
    fun q o h => (e q fun z => by rw [z, W.pb] at h; cases h).trans (W.old q o h), W.nb, W.pb, W.Db, W.np, W.nD, W.nT⟩
theorem LW.extN (W : LW C T Hb H p x D S ad dx ks g tm kd) (e : ExtN H H1) (t : Tabs T H1) : LW C T Hb H1 p x D S ad dx ks g tm kd := by
  obtain ⟨a, b, h, r⟩ := W.bag
  exact ⟨W.at_.extN e, W.box, t, ⟨a, b, e _ _ h fun ps z => (by cases z), r⟩, e _ _ W.dict fun ps z => (by cases z), fun n hn => e _ _ (W.tup n hn) fun ps z => (by cases z), fun q o h => e _ _ (W.old q o h) (hT_of h).2, W.nb, W.pb, W.Db, W.np, W.nD, W.nT⟩
theorem LW.hTn (W : LW C T Hb H p x D S ad dx ks g tm kd) {b : Addr} (h : H b = none) : hT Hb b = none := by
  cases q : hT Hb b with
  | none => rfl
  | some o => rw [W.old b o q] at h; cases h
/-- a call on the system -/
theorem LW.step (W : LW C T Hb H p x D S ad dx ks g tm kd) (A : At C H' S' ad' dx') (st : Step H S ad H' S' ad') : LW C T Hb H' p x D S' ad' dx' ks g tm kd := by
  obtain ⟨a, b, hp, r⟩ := W.bag
  have not : ∀ {q : Addr} {o : HO}, H q = some o → ¬ own S ad q → ¬ own S' ad' q := fun {q} {o} h n z => by
    rcases st.new q z with y | y
    · exact n y
    · rw [h] at y; cases y
  refine ⟨A, st.box.trans W.box, Tabs.step W.tab W.at_ st, ⟨a, b, st.keep _ _ W.np hp, r⟩, st.keep _ _ W.nD W.dict, fun n hn => st.keep _ _ (W.nT n hn) (W.tup n hn), fun q o h => ?_, fun b hb => ?_, W.pb, W.Db, not hp W.np, not W.dict W.nD, fun n hn => not (W.tup n hn) (W.nT n hn)⟩
  · exact st.keep _ _ (fun z => by rw [W.nb q z] at h; cases h) (W.old q o h)
  · rcases st.new b hb with z | z
    · exact W.nb b z
    · exact W.hTn z
/-- the law's table is written -/
theorem LW.put (W : LW C T Hb H p x D S ad dx ks g tm kd) (h : H' D = some (.dK (entKV ks' g'))) (k : ∀ q o, q ≠ D → H q = some o → H' q = some o) (hg : ∀ n ∈ ks', H (g' n) = some (Tp (tm' n) (kd' n))) (hn : ∀ n ∈ ks', ¬ own S ad (g' n)) : LW C T Hb H' p x D S ad dx ks' g' tm' kd' := by
  obtain ⟨a, b, hp, r⟩ := W.bag
  refine ⟨⟨fun c hc => k _ _ (fun z => W.nD ⟨c, hc, z⟩) (W.at_.at_ c hc), W.at_.inj⟩, W.box, Tabs.by W.tab (fun b ps e => k b _ (fun z => by rw [z, W.dict] at e; cases e) e) (fun b q e => k b _ (fun z => by rw [z, W.dict] at e; unfold CodeO at e; cases e) e), ⟨a, b, k p _ W.pD hp, r⟩, h,
    fun n hm => k _ _ (fun z => by have e := hg n hm; rw [z, W.dict] at e; cases e) (hg n hm), fun q o e => k q o (fun z => by rw [z, W.Db] at e; cases e) (W.old q o e), W.nb, W.pb, W.Db, W.np, W.nD, hn⟩
theorem LW.sq {K : PySem.W.Frag} {a : Addr} {xs : List V} (W : LW C T Hb H p x D S ad dx ks g tm kd) (h : SqL K Hb a xs) : SqL K H a xs := by
  rcases h with (h | ⟨o, h⟩) | h
  · exact .inl (.inl (W.old _ _ (hT_at h fun ps z => by cases z)))
  · exact .inl (.inr ⟨o, W.old _ _ (hT_at h fun ps z => by cases z)⟩)
  · exact .inr h
theorem LW.look (W : LW C T Hb H p x D S ad dx ks g tm kd) {n : Int} (hn : n ∈ ks) : DGet H D (.int n) (some (.ref (g n))) := by
  have hv : valV (entKV ks g) (Sum.inl n) = some (.ref (g n)) := by rw [ent_val, if_pos hn]
  exact hv ▸ DGet.k (k := Sum.inl n) W.dict
end
/-- what is told by an outcome and what is due -/
inductive Agree (H : Hp) : V → V → Prop
  | non : Agree H .non .non
  | int (k : Int) : 0 ≤ k → k ≤ 1000 → Agree H (.int k) (.int k)
  | full (l1 l2 : Addr) (n : Int) : 0 ≤ n → n ≤ 1000 → H l1 = some (.lst [.str "full", .int n, .bl true]) → H l2 = some (.lst [.str "full", .int n, .bl true]) → Agree H (.ref l1) (.ref l2)
  | shut (l1 l2 : Addr) (n : Int) : 0 ≤ n → n ≤ 1000 → H l1 = some (.lst [.str "not open", .int n, .bl true]) → H l2 = some (.lst [.str "not open", .int n, .bl true]) → Agree H (.ref l1) (.ref l2)
/-- a deed, handed to _law_outcome -/
theorem out_any {C : Cs} {T : List (Addr × Str)} {Hb H : Hp} {p x D D1 D2 : Addr} {S : Sys} {ad dx : Cell → Addr} {ks : List Int} {g : Int → Addr} {tm : Int → Int} {kd : Int → Bool} {σ : L2.St} {t : XK → TE} {Q : VK} {sp : Sp} {vs : List V}
    (W : LW C T Hb H p x D S ad dx ks g tm kd) (hb : ∀ (E : XK) (H1 : Hp) (k : VK), sp vs H1 k E → t E σ H1 k)
    (h : ∀ (H1 : Hp) (E : XK), LW C T Hb H1 p x D S ad dx ks g tm kd → (∀ b o, H b = some o → (∀ ps, o ≠ .tbl ps) → H1 b = some o) →
      (∀ n : Int, (∀ H' l, Same H1 H' → LW C T Hb H' p x D S ad dx ks g tm kd → H' l = some (.lst [.str "full", .int n, .bl true]) → Q (.ref l) H') → Out D1 "process" n H1 E) →
      (∀ n : Int, (∀ H' l, Same H1 H' → LW C T Hb H' p x D S ad dx ks g tm kd → H' l = some (.lst [.str "not open", .int n, .bl true]) → Q (.ref l) H') → Out D2 "number" n H1 E) → sp vs H1 Q E) : tLam T (TOut D1 D2) t σ H Q := by
  refine ⟨W.tab, fun H1 e1 t1 E hE1 hE2 => hb E H1 Q (h H1 E (W.extN e1 t1) e1 (fun n k d H2 hd s2 h2 => hE1 d n H2 h2 fun l hl => ?_) (fun n k d H2 hd s2 h2 => hE2 d n H2 h2 fun l hl => ?_))⟩
  · have s3 : Same H1 (upd H2 l (.lst [.str "full", .int n, .bl true])) := s2.trans (Same.new' hl)
    exact k _ l s3 ((W.extN e1 t1).same s3) upd_same
  · have s3 : Same H1 (upd H2 l (.lst [.str "not open", .int n, .bl true])) := s2.trans (Same.new' hl)
    exact k _ l s3 ((W.extN e1 t1).same s3) upd_same
/-! _law_lowest -/
theorem dp_ints {K : PySem.W.Frag} {H : Hp} : ∀ l : List Int, DpAll K H (l.map V.int) (l.map PyData.int)
  | [] => .nil
  | _ :: l => .cons (.int _) (dp_ints l)
theorem ints_lay : ∀ l : List Int, PyData.canLayAll0 (l.map PyData.int) = true ∧ PyData.depthAll (l.map PyData.int) = 0
  | [] => ⟨rfl, rfl⟩
  | c :: l => by
    obtain ⟨a, b⟩ := ints_lay l
    refine ⟨?_, ?_⟩
    · simp only [List.map_cons, PyData.canLayAll0, a, Bool.and_true, PyData.canLay0]
    · simp only [List.map_cons, PyData.depthAll, b, PyData.depth]
      rfl
theorem ints_shaped (l : List Int) : SeqAt.shaped (.list (l.map PyData.int)) = true := by
  obtain ⟨a, b⟩ := ints_lay l
  unfold SeqAt.shaped
  rw [Bool.and_eq_true]
  refine ⟨by simp only [PyData.canLay0]; exact a, decide_eq_true ?_⟩
  simp only [PyData.depth, b]
  decide
theorem ints_nil (l : List Int) : PyData.eqv (.list (l.map PyData.int)) (.list []) = l.isEmpty := by
  cases l with
  | nil => rfl
  | cons a b => rfl
section
variable {K : PySem.W.Frag} {H : Hp} {a b : Addr} {Q : VK}
theorem q_neNil {l : List Int} (h1 : H a = some (.lst (l.map V.int))) (h2 : H b = some (.lst [])) (k : Q (.bl (!l.isEmpty)) H) : rNeD K (.ref a) (.ref b) H Q := by
  refine ⟨_, _, .lst (SqL.of h1) (dp_ints l), .lst (SqL.of h2) .nil, ints_shaped l, rfl, ?_⟩
  rw [ints_nil]
  exact k
end
theorem filt_low {q : Nat → Bool} : ∀ (N : Nat), ((List.range N).filter q = [] ∧ ∀ i, i < N → q i = false) ∨ ∃ n r, (List.range N).filter q = n :: r ∧ n < N ∧ q n = true ∧ ∀ i, i < n → q i = false
  | 0 => .inl ⟨rfl, fun i h => absurd h (Nat.not_lt_zero _)⟩
  | N + 1 => by
    rw [List.range_succ, List.filter_append]
    rcases filt_low (q := q) N with ⟨e, h⟩ | ⟨n, r, e, h1, h2, h3⟩
    · rw [e, List.nil_append]
      cases hq : q N with
      | true =>
        refine .inr ⟨N, [], by rw [List.filter_cons, if_pos hq]; rfl, Nat.lt_succ_self _, hq, h⟩
      | false =>
        refine .inl ⟨by rw [List.filter_cons, if_neg (by rw [hq]; simp)]; rfl, fun i hi => ?_⟩
        rcases Nat.lt_or_ge i N with z | z
        · exact h i z
        · obtain rfl : i = N := by omega
          exact hq
    · exact .inr ⟨n, _, by rw [e, List.cons_append], by omega, h2, h3⟩
abbrev frees (ks : List Int) (m : Nat) : List Nat := (List.range m).filter fun i : Nat => !decide ((i : Int) ∈ ks)
theorem frees_succ (ks : List Int) (m : Nat) : frees ks (m + 1) = frees ks m ++ if (m : Int) ∈ ks then [] else [m] := by
  unfold frees
  rw [List.range_succ, List.filter_append]
  by_cases h : (m : Int) ∈ ks
  · rw [if_pos h, List.filter_cons, if_neg (by rw [decide_eq_true h]; simp), List.filter_nil]
  · rw [if_neg h, List.filter_cons, if_pos (by rw [decide_eq_false h]; rfl), List.filter_nil]
theorem frees_len (ks : List Int) (m : Nat) : (frees ks m).length ≤ m := Nat.le_trans (List.length_filter_le _ _) (by rw [List.length_range]; exact Nat.le_refl _)
section
variable {P : Program} {w : World} {K : PySem.W.Frag} {mg : Str → Option Value} {base : Heap} {C : Cs}
structure LawTx (mg : Str → Option Value) : Prop where
  range : mg "range" = none
  max : mg "max" = none
  min : mg "min" = none
  len : mg "len" = none
  sorted : mg "sorted" = none
  repr : mg "repr" = none
def spLowest : Sp := fun vs H Q _ => ∃ (D : Addr) (N : Int) (ks : List Int) (g : Int → Addr), vs = [.ref D, .int N] ∧ H D = some (.dK (entKV ks g)) ∧ 0 ≤ N ∧ N ≤ 100 ∧
  (∀ n H', IsLow ks N n → Same H H' → Q (.int (n : Int)) H') ∧ (AllIn ks N → ∀ H', Same H H' → Q .non H')
abbrev nLowest : List Str := ["_law_table", "_law_size", "_law_free", "_law_n"]
theorem scLowest : FnScope nLowest ["_law_table", "_law_size"] (defScope sLowest) := ⟨rfl, rfl, rfl, by decide +kernel, rfl, by decide +kernel, by decide +kernel⟩
theorem okLowest {f : Addr} {fd : FuncData} (F : Fun K "_law_lowest" "_law_lowest" sLowest f fd) (X : LawTx mg) : FnOk P w K mg base CX0 1 f fd ["_law_table", "_law_size"] spLowest := by
  refine F.ok scLowest (fun vs H Q E h => ?_) (fun cdv A outer s H vs Q E hr h => ?_)
  · obtain ⟨_, _, _, _, rfl, _⟩ := h
    rfl
  · obtain ⟨D, N, ks, g, rfl, hD, n0, n1, k1, k2⟩ := h
    have hu := hu_of hr
    refine ⟨_, pss_cons (ps_setLc (i := 2) (own := [("_law_n", 3)]) (g := gName 3) rfl scLowest.nd rfl rfl (sw_true rfl rfl rfl (by decide +kernel)) (pi_range1 (by rfl) X.range (pa_cons (pv 1) pa_nil)) (blkOk_by (N := nLowest) (sc := defScope sLowest) (by decide +kernel))
        (fun _ _ _ _ _ => pg_name (i := 3) scLowest.nd rfl (Or.inl rfl)) (tt := tTest (tDNotIn (tVar 3) (tVar 0))) (fun _ _ _ _ _ => pts_one (pt_cmp (pc_dnotin hu (pv 3) (pv 0)) rfl)) (te := tVar 3) (fun _ _ _ _ _ => pv 3))
      (pss_one (ps_ret (pe_ifExp (pt_cmpR (op_neD hr.units) (pv 2) (pe_lst pa_nil) (nomark _)) (pe_ix ix_list (pv 2) pe_int (fun _ _ => rfl)) pe_non))), ?_⟩
    have dg : ∀ {H' : Hp}, Same H H' → ∀ m : Nat, DGet H' D (.int (m : Int)) (if (m : Int) ∈ ks then some (.ref (g m)) else none) := fun sm m => by
      rw [← ent_val]
      exact DGet.k (k := Sum.inl (m : Int)) (sm _ _ hD)
    have eN : ((N.toNat : Nat) : Int) = N := by omega
    walk_at "wn"
    show iRng1 _ _ _ _
    show tCons _ _ _ _ _
    walk_at "wn"
    refine ⟨_, rfl, by omega, by omega, fun L hL => lc_range (lo := 0) (n := N.toNat) (fun m H' => Same H H' ∧ H' L = some (.lst ((frees ks m).map fun i : Nat => V.int (i : Int)))) ⟨Same.new' hL, upd_same⟩ ?_ ?_⟩
    · rintro m H' hm ⟨sm, hl⟩
      rw [Int.zero_add]
      refine ⟨rfl, ?_⟩
      show tTest _ _ _ _
      walk_at "wn"
      refine ⟨_, rfl, _, rfl, D, _, rfl, dg sm m, ?_⟩
      rw [frees_succ]
      by_cases h : (m : Int) ∈ ks
      · rw [if_pos h, if_pos h]
        refine ⟨_, rfl, ?_⟩
        walk_at "wn"
        exact ⟨sm, by rw [List.append_nil]; exact hl⟩
      · rw [if_neg h, if_neg h]
        refine ⟨_, rfl, ?_⟩
        walk_at "wn"
        refine ⟨_, rfl, _, hl, ?_, fun b o e => ?_, by rw [upd_same, List.map_append]; rfl⟩
        · rw [List.length_map, sizeLine_eq]
          have := frees_len ks m
          omega
        · rw [upd_ne (ne_of_none e hL)]
          exact sm _ _ e
    · rintro H1 ⟨sm, hl⟩
      walk_at "wn"
      refine ⟨Nat.zero_le _, fun z hz => ?_⟩
      have s2 := sm.trans (Same.new' (o := .lst []) hz)
      have hl2 := (Same.new' (o := .lst []) hz) _ _ hl
      have em : (frees ks N.toNat).map (fun i : Nat => V.int (i : Int)) = ((frees ks N.toNat).map fun i : Nat => (i : Int)).map V.int := by rw [List.map_map]; rfl
      rw [em] at hl2
      refine q_neNil hl2 upd_same ?_
      rcases filt_low (q := fun i : Nat => !decide ((i : Int) ∈ ks)) N.toNat with ⟨e, h⟩ | ⟨n, r, e, h1, h2, h3⟩
      · have e : frees ks N.toNat = [] := e
        rw [e]
        walk_at "wn"
        exact k2 (fun i hi => by have y := h i (by omega); simpa using y) _ s2
      · have e : frees ks N.toNat = n :: r := e
        rw [e] at hl2 ⊢
        walk_at "wn"
        refine iteT ?_
        walk_at "wn"
        refine ⟨L, _, 0, .int (n : Int), rfl, rfl, SqL.of hl2, atI_nat (j := 0) rfl, ?_⟩
        exact k1 n _ ⟨by omega, by simpa using h2, fun i hi => by simpa using h3 i hi⟩ s2
/-! _law_placed -/
def spPlaced : Sp := fun vs H Q _ => ∃ (D T : Addr) (N : Int) (ks : List Int) (g : Int → Addr), vs = [.ref D, .int N, .ref T] ∧ H D = some (.dK (entKV ks g)) ∧ 0 ≤ N ∧ N ≤ 100 ∧ ks.length ≤ 100 ∧
  (∀ n H', IsLow ks N n → H' D = some (.dK (entKV (ks ++ [(n : Int)]) (upF g n T))) → (∀ q o, q ≠ D → H q = some o → H' q = some o) → Q (.int (n : Int)) H') ∧
  (AllIn ks N → ∀ H' l, Same H H' → H' l = some (.lst [.str "full", .int 0, .bl true]) → Q (.ref l) H')
theorem scPlaced : FnScope ["_law_table", "_law_size", "_law_thing", "_law_n"] ["_law_table", "_law_size", "_law_thing"] (defScope sPlaced) := ⟨rfl, rfl, rfl, by decide +kernel, rfl, by decide +kernel, by decide +kernel⟩
theorem okPlaced {f fL : Addr} {fd fdL : FuncData} (F : Fun K "_law_placed" "_law_placed" sPlaced f fd) (GL : DO P w K mg base 1 "_law_lowest" ["_law_table", "_law_size"] spLowest fL fdL) : FnOk P w K mg base CX0 2 f fd ["_law_table", "_law_size", "_law_thing"] spPlaced := by
  refine F.ok scPlaced (fun vs H Q E h => ?_) (fun cdv A outer s H vs Q E hr h => ?_)
  · obtain ⟨_, _, _, _, _, rfl, _⟩ := h
    rfl
  · obtain ⟨D, T, N, ks, g, rfl, hD, n0, n1, kl, k1, k2⟩ := h
    have hu := hu_of hr
    refine ⟨_, pss_cons (ps_set (i := 3) scPlaced.nd rfl (Or.inl rfl) (pe_call GL.g hr (by rfl) GL.m GL.k GL.b .nil pass0 (pa_cons (pv 0) (pa_cons (pv 1) pa_nil))))
      (pss_cons (ps_if (pt_cmpR oIsN (pv 3) pe_non (nomark _)) (pss_one (ps_ret (pe_lst (pa_cons pe_str (pa_cons pe_int (pa_cons pe_bl pa_nil)))))) pss_nil)
      (pss_cons (ps_dput hu (pv 0) (pv 3) (pv 2) rfl) (pss_one (ps_ret (pv 3))))), ?_⟩
    walk_at "wn"
    refine ⟨D, N, ks, g, rfl, hD, n0, n1, fun n H1 lo s1 => ?_, fun al H1 s1 => ?_⟩
    · walk_at "wn"
      rw [decide_eq_false (by intro z; cases z)]
      walk_at "wn"
      refine ⟨_, rfl, _, rfl, _, rfl, D, _, rfl, DPut.k (k := Sum.inl (n : Int)) (s1 _ _ hD) (by unfold entKV; rw [List.length_map, sizeLine_eq]; omega), ?_⟩
      walk_at "wn"
      refine k1 n _ lo ?_ fun q o nq h => ?_
      · rw [upd_same, ent_put, if_neg lo.2.1]
        rfl
      · rw [upd_ne nq]
        exact s1 _ _ h
    · walk_at "wn"
      exact ⟨by show 3 ≤ sizeLine; decide, fun l hl => k2 al _ l (s1.trans (Same.new' hl)) upd_same⟩
end

/-- the law between two turns -/
inductive Doing (C : Cs) (T : List (Addr × Str)) (Hb : Hp) (p x D : Addr) (N turn : Int) : Hp → Prop
  | mk {H : Hp} {S : Sys} {ad dx : Cell → Addr} {ks : List Int} {g : Int → Addr} {th tm : Int → Int} {kd : Int → Bool} : LW C T Hb H p x D S ad dx ks g tm kd → Fit S ks th tm kd turn → S.N = N → Doing C T Hb p x D N turn H
section
variable {C : Cs} {T : List (Addr × Str)} {Hb H H1 H' : Hp} {p x D : Addr} {S S' : Sys} {ad ad' dx dx' : Cell → Addr} {ks ks' : List Int} {g g' : Int → Addr} {th tm tm' : Int → Int} {kd kd' : Int → Bool} {N turn u : Int} {b : Bool} {n : Nat} {Tt : Addr} {Q : VK} {E : XK}
theorem place (W : LW C T Hb H p x D S ad dx ks g tm kd) (hT : H Tt = some (Tp u b)) (nT : ¬ own S ad Tt) (kl : ks.length ≤ 100) (lo : IsLow ks N n) (eN : S.N = N) (h0 : 0 ≤ N) (h8 : N ≤ 8) (F : Fit S (ks ++ [(n : Int)]) th (upF tm n u) (upF kd n b) (turn + 1))
    (k : ∀ H' r v1 v2, H' r = some (.lst [v1, v2]) → Agree H' v1 v2 → Doing C T Hb p x D N (turn + 1) H' → Q (.ref r) H') : spPlaced [.ref D, .int N, .ref Tt] H (fun v2 H7 => [V.int (n : Int), v2].length ≤ sizeLine ∧ ∀ r, H7 r = none → Q (.ref r) (upd H7 r (.lst [V.int (n : Int), v2]))) E := by
  refine ⟨D, Tt, N, ks, g, rfl, W.dict, h0, by omega, kl, fun m H7 lo' h7 k7 => ?_, fun al => (lo.all al).elim⟩
  obtain rfl := lo.uniq lo'
  refine ⟨by show 2 ≤ sizeLine; decide, fun r hr => ?_⟩
  have split : ∀ {j : Int}, j ∈ ks ++ [(n : Int)] → (j ∈ ks ∧ j ≠ (n : Int)) ∨ j = (n : Int) := fun h => by
    rcases List.mem_append.mp h with y | y
    · exact .inl ⟨y, fun z => lo.2.1 (z ▸ y)⟩
    · exact .inr (List.mem_singleton.mp y)
  have W7 : LW C T Hb H7 p x D S ad dx (ks ++ [(n : Int)]) (upF g n Tt) (upF tm n u) (upF kd n b) := by
    refine W.put h7 k7 (fun j hj => ?_) (fun j hj => ?_)
    · rcases split hj with ⟨y, nj⟩ | rfl
      · rw [upF_ne nj, upF_ne nj, upF_ne nj]
        exact W.tup j y
      · rw [upF_at, upF_at, upF_at]
        exact hT
    · rcases split hj with ⟨y, nj⟩ | rfl
      · rw [upF_ne nj]
        exact W.nT j y
      · rw [upF_at]
        exact nT
  have := lo.1
  exact k _ r _ _ upd_same (.int _ (by omega) (by omega)) (.mk (W7.same (Same.new' hr)) F eN)
theorem place_full {l : Addr} (W : LW C T Hb H p x D S ad dx ks g tm kd) (hl : H l = some (.lst [.str "full", .int 0, .bl true])) (kl : ks.length ≤ 100) (al : AllIn ks N) (eN : S.N = N) (h0 : 0 ≤ N) (h8 : N ≤ 8) (F : Fit S ks th tm kd (turn + 1))
    (k : ∀ H' r v1 v2, H' r = some (.lst [v1, v2]) → Agree H' v1 v2 → Doing C T Hb p x D N (turn + 1) H' → Q (.ref r) H') : spPlaced [.ref D, .int N, .ref Tt] H (fun v2 H7 => [V.ref l, v2].length ≤ sizeLine ∧ ∀ r, H7 r = none → Q (.ref r) (upd H7 r (.lst [V.ref l, v2]))) E := by
  refine ⟨D, Tt, N, ks, g, rfl, W.dict, h0, by omega, kl, fun m H7 lo' => (lo'.all al).elim, fun _ H7 l2 s7 h7 => ⟨by show 2 ≤ sizeLine; decide, fun r hr => ?_⟩⟩
  have s8 : Same H7 (upd H7 r (.lst [.ref l, .ref l2])) := Same.new' hr
  exact k _ r _ _ upd_same (.full l l2 0 (by decide) (by decide) (s8 _ _ (s7 _ _ hl)) (s8 _ _ h7)) (.mk (W.same (s7.trans s8)) F eN)
end
section
variable {P : Program} {w : World} {K : PySem.W.Frag} {mg : Str → Option Value} {base : Heap} {C : Cs}
def spDone (C : Cs) (T : List (Addr × Str)) : Sp := fun vs H Q _ => ∃ (p x D : Addr) (N turn : Int) (Hb : Hp), vs = [.ref p, .ref x, .ref D, .int N, .int turn] ∧ Doing C T Hb p x D N turn H ∧ turn ≤ 50 ∧
  ∀ H' r v1 v2, H' r = some (.lst [v1, v2]) → Agree H' v1 v2 → Doing C T Hb p x D N (turn + 1) H' → Q (.ref r) H'
abbrev nDone : List Str := ["_law_bag_here", "_law_box", "_law_table", "_law_size", "_law_turn", "_law_way", "_law_n", "_law_due", "_law_thing"]
theorem scDone : FnScope nDone ["_law_bag_here", "_law_box", "_law_table", "_law_size", "_law_turn"] (defScope sDone) := ⟨rfl, rfl, rfl, by decide +kernel, rfl, by decide +kernel, by decide +kernel⟩
abbrev qDone : Str := "_law_done.<locals>.<lambda>"
abbrev kVs : List V → List V → List V := fun vs zs => vs ++ zs
abbrev kUs : List Value → List Value → List Value := fun us ws => us ++ ws
theorem okDone {c Pt D1 f1 D2 f2 f fT fO fP fN fS fC fL : Addr} {fd fd1 fd2 fdT fdO fdP fdN fdS fdC fdL : FuncData} {dsC : List Value} (F : Fun K "_law_done" "_law_done" sDone f fd) (hc : fd.code = .ref c) (T : ClsF K C.S sysF) (R : OutTxt K mg D1 f1 fd1 D2 f2 fd2 fO fdO) (TB : TabB base mg c Pt)
    (GT : DO P w K mg base 1 "_law_take" ["_law_bag_here", "_law_many"] spTake fT fdT) (GP : DO P w K mg base 2 "_law_placed" ["_law_table", "_law_size", "_law_thing"] spPlaced fP fdP)
    (GN : ME P w K mg base 6 C.S "new_source" ["self", "process"] (spNewSource C D1) fN fdN) (gS : FnOk P w K mg base (L2.CX P w) 6 fS fdS ["self", "process"] (spNewSet C D1)) (mS : Meth K C.S "new_set" fS) (kS : KBn K fdS ["self", "process"] 1 ["process"] kUs kVs)
    (gC : FnOk P w K mg base (L2.CX P w) 5 fC fdC ["self", "process", "number", "to"] (spCopy C D2 D1)) (mC : Meth K C.S "copy" fC) (bC : Binds K fdC ["self", "process", "number", "to"] dsC) (dC : Vals [.non] dsC)
    (GL : ME P w K mg base 5 C.S "close" ["self", "process", "number"] (spClose C D2) fL fdL) (kL : KBn K fdL ["self", "process", "number"] 1 ["process", "number"] kUs kVs) :
    FnOk P w K mg base CX0 9 f fd ["_law_bag_here", "_law_box", "_law_table", "_law_size", "_law_turn"] (spDone C [(Pt, qDone)]) := by
  refine okC F hc scDone (fun vs H Q E h => ?_) (fun A outer s H vs Q E hr h => ?_)
  · obtain ⟨_, _, _, _, _, _, rfl, _⟩ := h
    rfl
  · obtain ⟨p, x, D, N, turn, Hb, rfl, d0, ht, k⟩ := h
    have hu := hu_of hr
    have r1 : Room 1 _ := hr.mono (by decide)
    have r2 : Room 2 _ := hr.mono (by decide)
    have r7 : Room 7 _ := hr.mono (by decide)
    refine ⟨_, PSs.nox (pss_cons (ps_asg (pe_tup (pa_cons (pe_call GT.g r1 (by rfl) GT.m GT.k GT.b .nil pass0 (pa_cons (pv 0) (pa_cons pe_int pa_nil))) (pa_cons (pe_call GT.g r1 (by rfl) GT.m GT.k GT.b .nil pass0 (pa_cons (pv 0) (pa_cons (pe_op op_add (pv 3) pe_int) pa_nil))) pa_nil))) (pg_tup rfl (pgs_cons (pg_name (i := 5) scDone.nd rfl (Or.inl rfl)) (pgs_cons (pg_name (i := 6) scDone.nd rfl (Or.inr rfl)) pgs_nil))))
      (pss_cons (ps_if (pt_cmpR op_lt (pv 5) pe_int (nomark _)) (pss_one (ps_ret (pe_lst (pa_cons (pe_out (k := 6) (T := [(Pt, qDone)]) (t := fun E => tMeth C.S "new_source" (spNewSource C D1) [] E (tVar 1) (tCons (tC (.int 0)) tNil)) R (by rfl) TB rfl (List.mem_singleton.mpr (by rfl)) (fun p hp _ => by rw [List.mem_singleton.mp hp]; rfl) hr (lamS_by (sc := defScope sDone) (by decide +kernel)) rfl (fun _ _ _ _ _ => rfl) (fun A outer s H E f c' hr2 => by exact pe_meth (pv 1) T.cl GN.m GN.g hr2 GN.b .nil (passX (takes_of rfl rfl rfl rfl)) (pa_cons pe_int pa_nil)))
          (pa_cons (pe_call GP.g r2 (by rfl) GP.m GP.k GP.b .nil pass0 (pa_cons (pv 2) (pa_cons (pv 3) (pa_cons (pe_tup (pa_cons (pv 4) (pa_cons pe_str pa_nil))) pa_nil)))) pa_nil))))) pss_nil)
      (pss_cons (ps_if (pt_cmpR op_eq (pv 5) pe_int (nomark _)) (pss_one (ps_ret (pe_lst (pa_cons (pe_out (k := 6) (T := [(Pt, qDone)]) (t := fun E => tMethK0 C.S "new_set" 1 (spNewSet C D1) kVs E (tVar 1) (tCons (tC (.int 0)) tNil)) R (by rfl) TB rfl (List.mem_singleton.mpr (by rfl)) (fun p hp _ => by rw [List.mem_singleton.mp hp]; rfl) hr (lamS_by (sc := defScope sDone) (by decide +kernel)) rfl (fun _ _ _ _ _ => rfl) (fun A outer s H E f c' hr2 => by exact pe_methK0 (ks := ["process"]) (pv 1) T.cl mS gS hr2 kS (passX (takes_of rfl rfl rfl rfl)) (pk_cons pe_int pk_nil)))
          (pa_cons (pe_call GP.g r2 (by rfl) GP.m GP.k GP.b .nil pass0 (pa_cons (pv 2) (pa_cons (pv 3) (pa_cons (pe_tup (pa_cons (pv 4) (pa_cons pe_str pa_nil))) pa_nil)))) pa_nil))))) pss_nil)
      (pss_cons (ps_if (pt_cmp (pc_dnotin hu (pv 6) (pv 2)) rfl)
          (pss_cons (ps_set (i := 7) scDone.nd rfl (Or.inl rfl) (pe_lst (pa_cons pe_str (pa_cons (pv 6) (pa_cons pe_bl pa_nil)))))
          (pss_cons (ps_if (pt_cmpR op_eq (pe_op op_mod (pv 5) pe_int) pe_int (nomark _)) (pss_one (ps_ret (pe_lst (pa_cons (pe_out (k := 5) (T := [(Pt, qDone)]) (t := fun E => tMeth C.S "close" (spClose C D2) [] E (tVar 1) (tCons (tC (.int 0)) (tCons (tVar 6) tNil))) R (by rfl) TB rfl (List.mem_singleton.mpr (by rfl)) (fun p hp _ => by rw [List.mem_singleton.mp hp]; rfl) r7 (lamS_by (sc := defScope sDone) (by decide +kernel)) rfl (fun _ _ _ _ _ => rfl) (fun A outer s H E f c' hr2 => by exact pe_meth (pv 1) T.cl GL.m GL.g hr2 GL.b .nil (passX (takes_of rfl rfl rfl rfl)) (pa_cons pe_int (pa_cons (pv 6) pa_nil))))
            (pa_cons (pv 7) pa_nil))))) pss_nil)
          (pss_one (ps_ret (pe_lst (pa_cons (pe_out (k := 5) (T := [(Pt, qDone)]) (t := fun E => tMeth C.S "copy" (spCopy C D2 D1) [.non] E (tVar 1) (tCons (tC (.int 0)) (tCons (tVar 6) tNil))) R (by rfl) TB rfl (List.mem_singleton.mpr (by rfl)) (fun p hp _ => by rw [List.mem_singleton.mp hp]; rfl) r7 (lamS_by (sc := defScope sDone) (by decide +kernel)) rfl (fun _ _ _ _ _ => rfl) (fun A outer s H E f c' hr2 => by exact pe_meth (pv 1) T.cl mC gC hr2 bC dC (passX (takes_of rfl rfl rfl rfl)) (pa_cons pe_int (pa_cons (pv 6) pa_nil))))
            (pa_cons (pv 7) pa_nil))))))) pss_nil)
      (pss_cons (ps_if (pt_cmpR op_lt (pv 5) pe_int (nomark _))
          (pss_cons (ps_set (i := 8) scDone.nd rfl (Or.inl rfl) (pe_dget hu (pv 2) (pv 6) (fun _ _ => rfl)))
          (pss_one (ps_ret (pe_lst (pa_cons (pe_out (k := 5) (T := [(Pt, qDone)]) (t := fun E => tMeth C.S "copy" (spCopy C D2 D1) [.non] E (tVar 1) (tCons (tC (.int 0)) (tCons (tVar 6) tNil))) R (by rfl) TB rfl (List.mem_singleton.mpr (by rfl)) (fun p hp _ => by rw [List.mem_singleton.mp hp]; rfl) r7 (lamS_by (sc := defScope sDone) (by decide +kernel)) rfl (fun _ _ _ _ _ => rfl) (fun A outer s H E f c' hr2 => by exact pe_meth (pv 1) T.cl mC gC hr2 bC dC (passX (takes_of rfl rfl rfl rfl)) (pa_cons pe_int (pa_cons (pv 6) pa_nil))))
            (pa_cons (pe_call GP.g r2 (by rfl) GP.m GP.k GP.b .nil pass0 (pa_cons (pv 2) (pa_cons (pv 3) (pa_cons (pv 8) pa_nil)))) pa_nil)))))) pss_nil)
      (pss_cons (ps_expr (pe_dpop1 (pv 2) (pv 6) ⟨rfl, rfl, rfl, rfl⟩))
      (pss_one (ps_ret (pe_lst (pa_cons (pe_out (k := 5) (T := [(Pt, qDone)]) (t := fun E => tMethK0 C.S "close" 2 (spClose C D2) kVs E (tVar 1) (tCons (tC (.int 0)) (tCons (tVar 6) tNil))) R (by rfl) TB rfl (List.mem_singleton.mpr (by rfl)) (fun p hp _ => by rw [List.mem_singleton.mp hp]; rfl) r7 (lamS_by (sc := defScope sDone) (by decide +kernel)) rfl (fun _ _ _ _ _ => rfl) (fun A outer s H E f c' hr2 => by exact pe_methK0 (ks := ["process", "number"]) (pv 1) T.cl GL.m GL.g hr2 kL (passX (takes_of rfl rfl rfl rfl)) (pk_cons pe_int (pk_cons (pv 6) pk_nil))))
            (pa_cons pe_non pa_nil))))))))))), ?_⟩
    have box : ∀ {rest rest2 : List V} {H1 : Hp} {kk}, OnSys C (.ref x :: rest) H1 rest2 kk → ∃ dx1 S1 t1 s1 v1, H1 x = some (sysO C.S dx1 S1 t1 s1 v1) := fun {rest} {rest2} {H1} {kk} ⟨S1, ad1, dx1, e, A1, _⟩ => by
      cases e
      exact ⟨_, _, _, _, _, A1.at_ .box trivial⟩
    cases d0 with
    | @mk S ad dx ks g th tm kd W0 F eN =>
    have N8 := F.N8
    have N3 := F.N3
    have t0 := F.t0
    have kl : ks.length ≤ 100 := by have := F.kl; omega
    walk_at "wn"
    refine ⟨p, 6, rfl, W0.bag, by decide, by decide, fun wy H1 w0 w1 e1 b1 => ?_⟩
    have W1 := W0.draw e1 b1
    walk_at "wn"
    refine ⟨p, N + 1, rfl, W1.bag, by omega, by omega, fun n H2 n0 n1 e2 b2 => ?_⟩
    have W2 := W1.draw e2 b2
    clear W0 W1
    walk_at "wn"
    refine ⟨by show 2 ≤ sizeLine; decide, fun tp htp => ?_⟩
    have W3 := W2.same (Same.new' (o := .tup [.int wy, .int n]) htp)
    clear W2
    walk_at "wn"
    refine ⟨tp, _, rfl, SqT.of upd_same, rfl, _, _, rfl, ?_⟩
    walk_at "wn"
    refine ⟨_, _, rfl, ?_⟩
    walk_at "wn"
    refine ⟨rfl, ?_⟩
    walk_at "wn"
    generalize upd H2 tp (.tup [.int wy, .int n]) = H3 at W3 ⊢
    refine ite2 (fun c0 => ?_) (fun c0 => ?_)
    · walk_at "wn"
      refine out_any (sp := spNewSource C D1) (vs := [.ref x, .int 0]) W3 (fun E H1 k h => ?_) (fun H4 E W4 _ kf kn => ?_)
      · obtain ⟨dx1, S1, t1, s1, v1, hb1⟩ := box h.choose_spec
        walk_at "wn"
        refine ⟨_, rfl, x, dx1, _, rfl, hb1, rfl, ?_⟩
        walk_at "wn"
        exact h
      refine ⟨0, S, ad, dx, by rw [W4.box], W4.at_, F.p0, by decide, by decide, by have := F.len8; omega, by have := F.l1; omega, fun z => absurd (F.nx1 _ z) (Int.lt_irrefl _), fun m hf H5 ad5 A5 st5 => ?_, fun hf => kf 0 fun H5 l5 s5 W5 h5 => ?_⟩
      · have W5 := W4.step A5 st5
        have lo := F.first hf
        walk_at "wn"
        refine ⟨by show 2 ≤ sizeLine; decide, fun Tt hTt => ?_⟩
        walk_at "wn"
        exact place (W5.same (Same.new' hTt)) upd_same (A5.not_own hTt) kl (by rw [← eN]; exact lo) eN (by omega) (by omega) (F.src lo) k
      · have al := F.full hf
        walk_at "wn"
        refine ⟨by show 2 ≤ sizeLine; decide, fun Tt hTt => ?_⟩
        walk_at "wn"
        exact place_full (W5.same (Same.new' hTt)) (Same.new' hTt _ _ h5) kl (by rw [← eN]; exact al) eN (by omega) (by omega) F.next k
    walk_at "wn"
    refine ite2 (fun c1 => ?_) (fun c1 => ?_)
    · walk_at "wn"
      refine out_any (sp := spNewSet C D1) (vs := [.ref x, .int 0]) W3 (fun E H1 k h => ?_) (fun H4 E W4 _ kf kn => ?_)
      · obtain ⟨dx1, S1, t1, s1, v1, hb1⟩ := box h.choose_spec
        refine ⟨_, rfl, x, dx1, _, rfl, hb1, rfl, ?_⟩
        walk_at "wn"
        exact ⟨rfl, h⟩
      refine ⟨0, S, ad, dx, by rw [W4.box], W4.at_, F.p0, by decide, by decide, by have := F.len8; omega, by have := F.l2; omega, fun z => absurd (F.nx2 _ z) (Int.lt_irrefl _), fun m hf H5 ad5 dx5 A5 st5 => ?_, fun hf => kf 0 fun H5 l5 s5 W5 h5 => ?_⟩
      · have W5 := W4.step A5 st5
        have lo := F.first hf
        walk_at "wn"
        refine ⟨by show 2 ≤ sizeLine; decide, fun Tt hTt => ?_⟩
        walk_at "wn"
        exact place (W5.same (Same.new' hTt)) upd_same (A5.not_own hTt) kl (by rw [← eN]; exact lo) eN (by omega) (by omega) (F.set lo) k
      · have al := F.full hf
        walk_at "wn"
        refine ⟨by show 2 ≤ sizeLine; decide, fun Tt hTt => ?_⟩
        walk_at "wn"
        exact place_full (W5.same (Same.new' hTt)) (Same.new' hTt _ _ h5) kl (by rw [← eN]; exact al) eN (by omega) (by omega) F.next k
    walk_at "wn"
    refine ⟨_, rfl, _, rfl, D, _, rfl, DGet.k (k := Sum.inl n) W3.dict, ?_⟩
    rw [ent_val]
    by_cases hn : n ∈ ks
    · rw [if_pos hn]
      have M := F.means hn
      refine ⟨_, rfl, ?_⟩
      refine iteF ?_
      walk_at "wn"
      refine ite2 (fun c2 => ?_) (fun c2 => ?_)
      · walk_at "wn"
        refine ⟨_, rfl, _, rfl, D, _, rfl, W3.look hn, ?_⟩
        walk_at "wn"
        refine out_any (sp := spCopy C D2 D1) (vs := [.ref x, .int 0, .int n, .non]) W3 (fun E H1 k h => ?_) (fun H4 E W4 _ kf kn => ?_)
        · obtain ⟨dx1, S1, t1, s1, v1, hb1⟩ := box h.choose_spec.choose_spec.choose_spec
          walk_at "wn"
          refine ⟨_, rfl, x, dx1, _, rfl, hb1, rfl, ?_⟩
          walk_at "wn"
          exact h
        refine ⟨0, n, some (th n), S, ad, dx, by rw [W4.box], W4.at_, M.opn, by omega, by decide, by decide, by have := F.len8; omega, (fun z => nomatch z), fun t m e hf H5 A5 st5 => ?_, fun t e hf => kf 0 fun H5 l5 s5 W5 h5 => ?_⟩
        · cases e
          have W5 := W4.step A5 st5
          have lo := F.first hf
          walk_at "wn"
          exact place W5 (W5.tup n hn) (W5.nT n hn) kl (by rw [← eN]; exact lo) eN (by omega) (by omega) (F.copy hn lo) k
        · have al := F.full hf
          walk_at "wn"
          exact place_full W5 h5 kl (by rw [← eN]; exact al) eN (by omega) (by omega) F.next k
      · walk_at "wn"
        refine ⟨_, rfl, D, rfl, .inl ⟨_, .inl W3.dict⟩, ?_⟩
        walk_at "wn"
        refine ⟨_, Sum.inl n, .ref (g n), W3.dict, rfl, by rw [ent_val, if_pos hn], ?_⟩
        rw [show dropK (entKV ks g) (Sum.inl n) = entKV (without n ks) g from ent_drop ks g n]
        have W4 : LW C [(Pt, qDone)] Hb (upd H3 D (.dK (entKV (without n ks) g))) p x D S ad dx (without n ks) g tm kd := W3.put upd_same (fun q o nq h => by rw [upd_ne nq]; exact h) (fun j hj => W3.tup j (mem_without.mp hj).1) (fun j hj => W3.nT j (mem_without.mp hj).1)
        generalize upd H3 D (.dK (entKV (without n ks) g)) = H4 at W4 ⊢
        walk_at "wn"
        refine out_any (sp := spClose C D2) (vs := [.ref x, .int 0, .int n]) W4 (fun E H1 k h => ?_) (fun H5 E W5 _ kf kn => ?_)
        · obtain ⟨dx1, S1, t1, s1, v1, hb1⟩ := box h.choose_spec.choose_spec.choose_spec
          refine ⟨_, rfl, x, dx1, _, rfl, hb1, rfl, ?_⟩
          walk_at "wn"
          exact ⟨rfl, h⟩
        refine ⟨0, n, some (th n), S, ad, dx, by rw [W5.box], W5.at_, M.opn, by omega, by rw [F.procs]; decide, (fun z => nomatch z), fun t e => ?_⟩
        cases e
        refine ⟨fun z => Classical.byContradiction fun y => z (F.ks2 n hn y), fun H6 A6 st6 => ?_⟩
        have W6 := W5.step A6 st6
        walk_at "wn"
        refine ⟨by show 2 ≤ sizeLine; decide, fun r hr => ?_⟩
        refine k _ r _ _ upd_same .non (.mk (W6.same (Same.new' hr)) (F.close hn) ?_)
        rw [← eN]
        unfold closed ended
        split
        · rfl
        · split <;> rfl
    · rw [if_neg hn]
      have M := F.shut hn n0
      refine ⟨_, rfl, ?_⟩
      refine iteT ?_
      walk_at "wn"
      refine ⟨by show 3 ≤ sizeLine; decide, fun l hl => ?_⟩
      have W4 := W3.same (Same.new' (o := .lst [.str "not open", .int n, .bl true]) hl)
      have hl4 : upd H3 l (.lst [.str "not open", .int n, .bl true]) l = some (.lst [.str "not open", .int n, .bl true]) := upd_same
      generalize upd H3 l (.lst [.str "not open", .int n, .bl true]) = H4 at W4 hl4 ⊢
      have fin : ∀ {H6 : Hp} {l5 : Addr}, LW C [(Pt, qDone)] Hb H6 p x D S ad dx ks g tm kd → H6 l5 = some (.lst [.str "not open", .int n, .bl true]) → H6 l = some (.lst [.str "not open", .int n, .bl true]) → [V.ref l5, V.ref l].length ≤ sizeLine ∧ ∀ r, H6 r = none → Q (.ref r) (upd H6 r (.lst [.ref l5, .ref l])) := fun {H6 l5} W6 h5 h6 => by
        refine ⟨by show 2 ≤ sizeLine; decide, fun r hr => ?_⟩
        have s6 : Same H6 (upd H6 r (.lst [.ref l5, .ref l])) := Same.new' hr
        exact k _ r _ _ upd_same (.shut l5 l n n0 (by omega) (s6 _ _ h5) (s6 _ _ h6)) (.mk (W6.same s6) F.next eN)
      walk_at "wn"
      refine ite2 (fun c2 => ?_) (fun c2 => ?_)
      · walk_at "wn"
        refine out_any (sp := spClose C D2) (vs := [.ref x, .int 0, .int n]) W4 (fun E H1 k h => ?_) (fun H5 E W5 e5 kf kn => ?_)
        · obtain ⟨dx1, S1, t1, s1, v1, hb1⟩ := box h.choose_spec.choose_spec.choose_spec
          walk_at "wn"
          refine ⟨_, rfl, x, dx1, _, rfl, hb1, rfl, ?_⟩
          walk_at "wn"
          exact h
        refine ⟨0, n, none, S, ad, dx, by rw [W5.box], W5.at_, M, by omega, by rw [F.procs]; decide, fun _ => kn n fun H6 l5 s6 W6 h6 => ?_, fun t e => nomatch e⟩
        walk_at "wn"
        exact fin W6 h6 (s6 _ _ (e5 _ _ hl4 fun ps z => (by cases z)))
      · walk_at "wn"
        refine out_any (sp := spCopy C D2 D1) (vs := [.ref x, .int 0, .int n, .non]) W4 (fun E H1 k h => ?_) (fun H5 E W5 e5 kf kn => ?_)
        · obtain ⟨dx1, S1, t1, s1, v1, hb1⟩ := box h.choose_spec.choose_spec.choose_spec
          walk_at "wn"
          refine ⟨_, rfl, x, dx1, _, rfl, hb1, rfl, ?_⟩
          walk_at "wn"
          exact h
        refine ⟨0, n, none, S, ad, dx, by rw [W5.box], W5.at_, M, by omega, by decide, by decide, by have := F.len8; omega, fun _ => kn n fun H6 l5 s6 W6 h6 => ?_, (fun t m e => nomatch e), (fun t e => nomatch e)⟩
        walk_at "wn"
        exact fin W6 h6 (s6 _ _ (e5 _ _ hl4 fun ps z => (by cases z)))
end

theorem pw_ext {α : Type} (f : α → Nat) : ∀ {l1 l2 : List α}, l1.Pairwise (fun a b => f a < f b) → l2.Pairwise (fun a b => f a < f b) → (∀ x, x ∈ l1 ↔ x ∈ l2) → l1 = l2
  | [], [], _, _, _ => rfl
  | [], b :: l2, _, _, h => nomatch (h b).mpr List.mem_cons_self
  | a :: l1, [], _, _, h => nomatch (h a).mp List.mem_cons_self
  | a :: l1, b :: l2, p1, p2, h => by
    obtain ⟨a1, q1⟩ := List.pairwise_cons.mp p1
    obtain ⟨b1, q2⟩ := List.pairwise_cons.mp p2
    have e : a = b := by
      rcases List.mem_cons.mp ((h a).mp List.mem_cons_self) with z | z
      · exact z
      · rcases List.mem_cons.mp ((h b).mpr List.mem_cons_self) with y | y
        · exact y.symm
        · have := a1 b y
          have := b1 a z
          omega
    subst e
    refine congrArg (a :: ·) (pw_ext f q1 q2 fun x => ⟨fun z => ?_, fun z => ?_⟩)
    · rcases List.mem_cons.mp ((h x).mp (List.mem_cons_of_mem _ z)) with y | y
      · have := a1 x z
        rw [y] at this
        omega
      · exact y
    · rcases List.mem_cons.mp ((h x).mpr (List.mem_cons_of_mem _ z)) with y | y
      · have := b1 x z
        rw [y] at this
        omega
      · exact y
theorem nums_mem (S : Sys) : ∀ (l : List (Option Int)) (k i : Nat) (b : Bool), (i, b) ∈ numsOf S k l ↔ ∃ j t, i = k + j ∧ l[j]? = some (some t) ∧ b = decide (t ∈ S.srcs)
  | [], k, i, b => ⟨(fun h => nomatch h), (fun ⟨j, t, _, h, _⟩ => by simp at h)⟩
  | none :: l, k, i, b => by
    show (i, b) ∈ numsOf S (k + 1) l ↔ _
    rw [nums_mem S l]
    refine ⟨fun ⟨j, t, h1, h2, h3⟩ => ⟨j + 1, t, by omega, by simpa using h2, h3⟩, fun ⟨j, t, h1, h2, h3⟩ => ?_⟩
    cases j with
    | zero => simp at h2
    | succ j => exact ⟨j, t, by omega, by simpa using h2, h3⟩
  | some u :: l, k, i, b => by
    show (i, b) ∈ (k, decide (u ∈ S.srcs)) :: numsOf S (k + 1) l ↔ _
    rw [List.mem_cons, nums_mem S l]
    refine ⟨fun h => ?_, fun ⟨j, t, h1, h2, h3⟩ => ?_⟩
    · rcases h with h | ⟨j, t, h1, h2, h3⟩
      · cases h
        exact ⟨0, u, rfl, rfl, rfl⟩
      · exact ⟨j + 1, t, by omega, by simpa using h2, h3⟩
    · cases j with
      | zero =>
        obtain rfl : u = t := by simpa using h2
        exact .inl (by rw [h1, h3]; rfl)
      | succ j => exact .inr ⟨j, t, by omega, by simpa using h2, h3⟩
theorem nums_pw (S : Sys) : ∀ (l : List (Option Int)) (k : Nat), (numsOf S k l).Pairwise (fun a b => a.1 < b.1)
  | [], _ => .nil
  | none :: l, k => nums_pw S l (k + 1)
  | some u :: l, k => List.pairwise_cons.mpr ⟨fun r hr => by
      obtain ⟨i, b⟩ := r
      obtain ⟨j, t, h1, _⟩ := (nums_mem S l (k + 1) i b).mp hr
      show k < i
      omega, nums_pw S l (k + 1)⟩
theorem Fit.nums {S : Sys} {ks : List Int} {th tm : Int → Int} {kd : Int → Bool} {turn : Int} (F : Fit S ks th tm kd turn) {ys : List Int} (pm : ys.Perm ks) (pw : ys.Pairwise (· ≤ ·)) : numsOf S 0 (S.tab 0) = ys.map fun n => (n.toNat, kd n) := by
  have nd : ys.Nodup := pm.nodup_iff.mpr F.nd
  have b0 : ∀ n ∈ ys, 0 ≤ n := fun n h => (F.bd n (pm.mem_iff.mp h)).1
  refine pw_ext Prod.fst (nums_pw S _ 0) ?_ fun r => ?_
  · rw [List.pairwise_map]
    refine ((pw.and nd).imp_of_mem fun {a b} ha hb h => ?_)
    have := b0 a ha
    have := b0 b hb
    have h1 := h.1
    have h2 : a ≠ b := h.2
    show a.toNat < b.toNat
    omega
  · obtain ⟨i, b⟩ := r
    rw [nums_mem, List.mem_map]
    have ln := F.len
    have := F.N3
    refine ⟨fun ⟨j, t, h1, h2, h3⟩ => ?_, fun ⟨n, hn, e⟩ => ?_⟩
    · obtain rfl : i = j := by omega
      have hi : i < (S.tab 0).length := (List.getElem?_eq_some_iff.mp h2).1
      have hk : (i : Int) ∈ ks := Classical.byContradiction fun z => by
        rw [F.fr i (by omega) z] at h2
        cases h2
      have e := F.on _ hk
      rw [Int.toNat_natCast, h2] at e
      cases e
      exact ⟨i, pm.mem_iff.mpr hk, by rw [Int.toNat_natCast, F.ks1 _ hk, h3]⟩
    · cases e
      have hk := pm.mem_iff.mp hn
      exact ⟨n.toNat, th n, by omega, F.on n hk, F.ks1 n hk⟩
/-! data of numbers with their kinds -/
def numD (r : Nat × Bool) : PyData := .tuple [.int (r.1 : Int), .str (kindS r.2)]
theorem dp_nums {K : PySem.W.Frag} {H : Hp} {vs : List V} {R : List (Nat × Bool)} (p : Paired (NumAt H) vs R) : DpAll K H vs (R.map numD) := by
  induction p with
  | nil => exact .nil
  | cons r _ ih =>
    obtain ⟨t, rfl, e⟩ := r
    exact .cons (.tup (SqT.of e) (.cons (.int _) (.cons (.str _) .nil))) ih
theorem kind_ok (b : Bool) : okR (.str (kindS b)) = true ∧ wt (.str (kindS b)) ≤ 62 := by
  cases b <;> exact ⟨by decide +kernel, by decide +kernel⟩
theorem num_ok : ∀ R : List (Nat × Bool), (∀ r ∈ R, r.1 ≤ 1000) → okRA (R.map numD) = true ∧ PyData.depthAll (R.map numD) ≤ 1 ∧ wtA (R.map numD) ≤ 3000 * R.length
  | [], _ => ⟨rfl, Nat.zero_le _, Nat.le_refl _⟩
  | r :: R, h => by
    obtain ⟨a, b, c⟩ := num_ok R fun x hx => h x (List.mem_cons_of_mem _ hx)
    obtain ⟨k1, k2⟩ := kind_ok r.2
    have h1 := h r List.mem_cons_self
    have e := (small_int (n := (r.1 : Int)) (by omega) (by omega)).1
    refine ⟨?_, ?_, ?_⟩
    · simp only [List.map_cons, okRA, numD, okR, Bool.and_true, Bool.and_eq_true]
      simp only [okR] at k1
      exact ⟨⟨decide_eq_true e, k1⟩, a⟩
    · simp only [List.map_cons, PyData.depthAll, numD, PyData.depth]
      omega
    · simp only [List.map_cons, wtA, numD, wt, List.length_cons] at *
      omega
theorem nums_ok {R : List (Nat × Bool)} (h : ∀ r ∈ R, r.1 ≤ 1000) (hl : R.length ≤ 100) : okR (.list (R.map numD)) = true ∧ (PyData.list (R.map numD)).depth ≤ 40 ∧ wt (.list (R.map numD)) ≤ 16777216 := by
  obtain ⟨a, b, c⟩ := num_ok R h
  refine ⟨by simp only [okR]; exact a, by simp only [PyData.depth]; omega, by simp only [wt]; omega⟩
def tpD (t : Int) (b : Bool) : PyData := .tuple [.int t, .str (kindS b)]
theorem tp_eqv (a b : Int) (p q : Bool) : PyData.eqv (tpD a p) (tpD b q) = (decide (a = b) && decide (p = q)) := by
  have hk : (kindS p == kindS q) = decide (p = q) := by cases p <;> cases q <;> decide +kernel
  simp only [tpD, PyData.eqv, PyData.eqvAll, Bool.and_true]
  rw [hk]
  rfl
theorem tp_shaped (a : Int) (p : Bool) : SeqAt.shaped (tpD a p) = true := by
  unfold SeqAt.shaped
  rw [Bool.and_eq_true]
  exact ⟨by simp [tpD, PyData.canLay0, PyData.canLayAll0]; cases p <;> decide +kernel, decide_eq_true (by simp [tpD, PyData.depth, PyData.depthAll])⟩
section
variable {P : Program} {w : World} {K : PySem.W.Frag} {mg : Str → Option Value} {base : Heap} {C : Cs}
def spShows (C : Cs) (T : List (Addr × Str)) : Sp := fun vs H Q _ => ∃ (p x D : Addr) (N turn : Int) (Hb : Hp), vs = [.ref x, .ref D] ∧ Doing C T Hb p x D N turn H ∧ turn ≤ 50 ∧ ∀ H', Doing C T Hb p x D N turn H' → Q (.bl true) H'
abbrev nShows : List Str := ["_law_box", "_law_table", "_law_found", "_law_n", "_law_m"]
theorem scShows : FnScope nShows ["_law_box", "_law_table"] (defScope sShows) := ⟨rfl, rfl, rfl, by decide +kernel, rfl, by decide +kernel, by decide +kernel⟩
theorem okShows {f fN fS : Addr} {fd fdN fdS : FuncData} {T0 : List (Addr × Str)} (F : Fun K "_law_shows" "_law_shows" sShows f fd) (X : LawTx mg) (T : ClsF K C.S sysF)
    (GN : MO P w K mg base 4 C.S "numbers" ["self", "process"] (spNumbers C) fN fdN) (GS : ME P w K mg base 5 C.S "same" ["self", "process", "number", "other", "other_number"] (spSame C) fS fdS) :
    FnG P w K mg base CX0 6 f fd ["_law_box", "_law_table"] (spShows C T0) := by
  refine okG F scShows (fun vs H Q E h => ?_) (fun cdv A outer s H vs Q E hr hg h => ?_)
  · obtain ⟨_, _, _, _, _, _, rfl, _⟩ := h
    rfl
  · obtain ⟨p, x, D, N, turn, Hb, rfl, d0, ht, k⟩ := h
    have hu := hr.units
    have hu1 := hu_of hr
    have r4 : Room 4 _ := hr.mono (by decide)
    have hg' : (A.deeper (envOfC "_law_shows" (defScope sShows) s.heap.objs.size f cdv)).guards = some [] := hg
    refine ⟨_, PSs.nox (pss_cut (ps_set (i := 2) scShows.nd rfl (Or.inl rfl) (pe_meth (pv 0) T.cl GN.m GN.g r4 GN.b .nil pass0 (pa_cons pe_int pa_nil)))
      (pss_cut (ps_if (pt_cmpR op_ne (pe_callB (cRepr hg' hu) (by rfl) X.repr PyProof.Rows.boot_repr (pa_cons (pv 2) pa_nil)) (pe_callB (cRepr hg' hu) (by rfl) X.repr PyProof.Rows.boot_repr (pa_cons
          (pe_lc (own := [("_law_n", 3)]) (g := gName 3) rfl scShows.nd (pi_list (pe_callB (call_sortedDI rfl) (by rfl) X.sorted (by decide +kernel) (pa_cons (pv 1) pa_nil))) (blkOk_by (N := nShows) (sc := defScope sShows) (by decide +kernel)) (fun _ _ _ _ _ => pg_name (i := 3) scShows.nd rfl (Or.inl rfl)) (tt := tYes) (fun _ _ _ _ _ => pts_nil)
            (te := tTup (tCons (tVar 3) (tCons (tOp (rIxT K) (tDGet (tVar 1) (tVar 3)) (tC (.int 1))) tNil))) (fun _ _ _ _ _ => pe_tup (pa_cons (pv 3) (pa_cons (pe_ix ix_tup (pe_dget hu1 (pv 1) (pv 3) (fun _ _ => rfl)) pe_int (fun _ _ => rfl)) pa_nil)))) pa_nil)) (nomark _)) (pss_one (ps_ret pe_bl)) pss_nil)
      (pss_cut (ps_expr (pe_bm PySem.F.plainAttrs_list PySem.F.slot_list_append PySem.F.type_list_append mt_append (pv 2) (pa_cons (pe_tup (pa_cons pe_int (pa_cons pe_str pa_nil))) pa_nil)))
      (pss_cut (ps_if (pt_cmpR op_ne (pe_callB cLenQ (by rfl) X.len PySem.boot_len (pa_cons (pe_meth (pv 0) T.cl GN.m GN.g r4 GN.b .nil pass0 (pa_cons pe_int pa_nil)) pa_nil)) (pe_callB call_lenD (by rfl) X.len PySem.boot_len (pa_cons (pv 1) pa_nil)) (nomark _)) (pss_one (ps_ret pe_bl)) pss_nil)
      (pss_cut (ps_lock (ps_for PassesOwn.never rfl (pi_keys (pv 1)) (pg_name (i := 3) scShows.nd rfl (Or.inl rfl))
        (pss_one (ps_for PassesOwn.never rfl (pi_keys (pv 1)) (pg_name (i := 4) scShows.nd rfl (Or.inl rfl))
          (pss_one (ps_if (pt_cmpR op_ne (pe_callB (cRepr hg' hu) (by rfl) X.repr PyProof.Rows.boot_repr (pa_cons (pe_meth (E := fun _ _ _ => False) (pv 0) T.cl GS.m GS.g hr GS.b .nil (passX takes0) (pa_cons pe_int (pa_cons (pv 3) (pa_cons pe_int (pa_cons (pv 4) pa_nil))))) pa_nil))
            (pe_callB (cRepr hg' hu) (by rfl) X.repr PyProof.Rows.boot_repr (pa_cons (pe_cmpR (op_eqD hu) (pe_dget hu1 (pv 1) (pv 3) (fun _ _ => rfl)) (pe_dget hu1 (pv 1) (pv 4) (fun _ _ => rfl)) (nomark _)) pa_nil)) (nomark _)) (pss_one (ps_ret pe_bl)) pss_nil))))))
      (pss_one (ps_ret pe_bl))))))), ?_⟩
    cases d0 with
    | @mk S ad dx ks g th tm kd W F eN =>
    have N8 := F.N8
    have N3 := F.N3
    have ln := F.len
    have kl : ks.length ≤ 51 := by have := F.kl; omega
    have hb : ∀ {H' : Hp}, Same H H' → H' x = some (sysO C.S (dx .box) S (ad .tabD) (ad .srcD) (ad .setD)) := fun s => by
      rw [← W.box]
      exact s _ _ (W.at_.at_ .box trivial)
    have numsP : ∀ {Hc : Hp} {Q : VK}, Same H Hc → (∀ H' r rs, Hc r = none → Same H H' → H' r = some (.lst rs) → Paired (NumAt H') rs (numsOf S 0 (S.tab 0)) → Q (.ref r) H') → spNumbers C [.ref x, .int 0] Hc Q E0 := fun {Hc Q} sc kk =>
      ⟨0, S, ad, dx, by rw [W.box], W.at_.same sc, F.p0, by omega, fun H' r rs h1 h2 h3 h4 => kk H' r rs h1 (sc.trans h2) h3 h4⟩
    have nlen := nums_len S (S.tab 0) 0
    have nlo : ∀ r ∈ numsOf S 0 (S.tab 0), r.1 ≤ 1000 := fun r hr => by
      obtain ⟨j, t, h1, h2, _⟩ := (nums_mem S _ 0 r.1 r.2).mp hr
      have := (List.getElem?_eq_some_iff.mp h2).1
      omega
    obtain ⟨o1, o2, o3⟩ := nums_ok nlo (by omega)
    refine ⟨fun σ' H1 => ∃ L rs, σ' = [some (.ref x), some (.ref D), some (.ref L), none, none] ∧ H L = none ∧ Same H H1 ∧ H1 L = some (.lst rs) ∧ Paired (NumAt H1) rs (numsOf S 0 (S.tab 0)), ?_, ?_⟩
    · walk_at "wn"
      refine ⟨_, rfl, x, dx .box, _, rfl, hb (Same.refl _), rfl, ?_⟩
      walk_at "wn"
      refine numsP (Same.refl _) fun H' r rs h1 h2 h3 h4 => ?_
      walk_at "wn"
      exact ⟨r, rs, rfl, h1, h2, h3, h4⟩
    rintro σ' H1 ⟨L, rs, rfl, hL0, s1, hL, pr⟩
    refine ⟨fun σ' H2 => σ' = [some (.ref x), some (.ref D), some (.ref L), none, none] ∧ Same H H2 ∧ H2 L = some (.lst rs) ∧ (numsOf S 0 (S.tab 0)).length = ks.length, ?_, ?_⟩
    · walk_at "wn"
      refine ⟨.ref L, _, rfl, .lst (SqL.of hL) (dp_nums pr), o1, o2, o3, ?_⟩
      walk_at "wn"
      refine ⟨_, rfl, D, _, ks, rfl, .inl (s1 _ _ W.dict), by unfold entKV; rw [List.map_map]; rfl, by omega, fun ys q pm pw hq => ?_⟩
      have s2 := s1.trans (Same.new' (o := .lst (ys.map V.int)) hq)
      have hL2 := (Same.new' (o := .lst (ys.map V.int)) hq) _ _ hL
      refine ⟨q, rfl, ⟨_, SqL.of upd_same⟩, fun D2 hD2 => ?_⟩
      have hq2 : upd H1 q (.lst (ys.map V.int)) q = some (.lst (ys.map V.int)) := upd_same
      generalize upd H1 q (.lst (ys.map V.int)) = H2 at s2 hL2 hD2 hq2 ⊢
      refine lc_list (K := K) (a := q) (xs := ys.map V.int) (fun i H' => ∃ vs, Same H2 H' ∧ H' D2 = some (.lst vs) ∧ Paired (NumAt H') vs ((ys.take i).map fun n => (n.toNat, kd n))) ⟨[], Same.new' hD2, upd_same, .nil⟩ (fun i H' _ ⟨_, h, _⟩ => SqL.of (h _ _ hq2)) ?_ ?_
      · rintro i v H' hv ⟨vs, sm, hd, pn⟩
        rw [List.getElem?_map] at hv
        cases el : ys[i]? with
        | none => rw [el] at hv; cases hv
        | some n =>
        rw [el] at hv
        cases hv
        have hn : n ∈ ks := pm.mem_iff.mp (List.mem_of_getElem? el)
        have n0 := (F.bd n hn).1
        have sH := s2.trans sm
        refine ⟨rfl, ?_⟩
        walk_at "wn"
        refine ⟨_, rfl, _, rfl, D, _, rfl, (W.same sH).look hn, ?_⟩
        walk_at "wn"
        refine ⟨g n, _, 1, _, rfl, rfl, SqT.of ((W.same sH).tup n hn), rfl, ?_⟩
        walk_at "wn"
        refine ⟨by show 2 ≤ sizeLine; decide, fun T1 hT1 => ?_⟩
        have s3 := Same.new' (o := .tup [.int n, .str (kindS (kd n))]) hT1
        have hd3 := s3 _ _ hd
        have nTD : T1 ≠ D2 := fun z => by rw [z, hd] at hT1; cases hT1
        have kp : ∀ b x y, upd H' T1 (.tup [.int n, .str (kindS (kd n))]) b = some (.tup [x, y]) → upd (upd H' T1 (.tup [.int n, .str (kindS (kd n))])) D2 (.lst (vs ++ [.ref T1])) b = some (.tup [x, y]) := fun b x y h => by
          rw [upd_ne (fun z => by rw [z, hd3] at h; cases h)]
          exact h
        refine ⟨vs, hd3, ?_, vs ++ [.ref T1], fun b o z => ?_, upd_same, ?_⟩
        · have h1 := pn.length
          rw [List.length_map] at h1
          have h2 : (ys.take i).length ≤ ys.length := by rw [List.length_take]; omega
          have h3 := pm.length_eq
          rw [sizeLine_eq]
          omega
        · rw [upd_ne (fun y => by rw [y, hD2] at z; cases z)]
          exact (sm.trans s3) b o z
        · rw [List.take_add_one, el, Option.toList_some, List.map_append]
          refine nums_snoc (numAts_keep (numAts_same pn s3) kp) ⟨T1, rfl, kp _ _ _ ?_⟩
          rw [upd_same, show ((n.toNat : Nat) : Int) = n by omega]
      · rintro H' ⟨vs, sm, hd, pn⟩
        rw [List.length_map, List.take_length, ← F.nums pm pw] at pn
        walk_at "wn"
        refine ⟨.ref D2, _, rfl, .lst (SqL.of hd) (dp_nums pn), o1, o2, o3, ?_⟩
        walk_at "wn"
        exact ⟨rfl, s2.trans sm, sm _ _ hL2, by rw [F.nums pm pw, List.length_map, pm.length_eq]⟩
    rintro σ' H2 ⟨rfl, s2, hL2, nk⟩
    refine ⟨fun σ' H3 => σ' = [some (.ref x), some (.ref D), some (.ref L), none, none] ∧ Same H H3, ?_, ?_⟩
    · walk_at "wn"
      refine ⟨by show 2 ≤ sizeLine; decide, fun T1 hT1 => ?_⟩
      have s3 := Same.new' (o := .tup [.int 0, .str "source"]) hT1
      walk_at "wn"
      have e1 := pr.length
      refine ⟨L, rs, _, rfl, rfl, s3 _ _ hL2, by rw [sizeLine_eq]; omega, ?_⟩
      walk_at "wn"
      refine ⟨rfl, fun b o z => ?_⟩
      rw [upd_ne (fun y => by rw [y, hL0] at z; cases z)]
      exact s3 _ _ (s2 _ _ z)
    rintro σ' H3 ⟨rfl, s3⟩
    refine ⟨fun σ' H4 => σ' = [some (.ref x), some (.ref D), some (.ref L), none, none] ∧ Same H H4, ?_, ?_⟩
    · walk_at "wn"
      refine ⟨_, rfl, x, dx .box, _, rfl, hb s3, rfl, ?_⟩
      walk_at "wn"
      refine numsP s3 fun H' r rs2 h1 h2 h3 h4 => ?_
      walk_at "wn"
      refine ⟨D, _, rfl, h2 _ _ W.dict, ?_⟩
      have e2 : ((entKV ks g).length : Int) = (rs2.length : Int) := by
        unfold entKV
        rw [List.length_map, h4.length, nk]
      rw [e2]
      walk_at "wn"
      exact ⟨rfl, h2⟩
    rintro σ' H4 ⟨rfl, s4⟩
    refine ⟨fun σ' H5 => Same H H5, ?_, fun σ' H5 s5 => ?_⟩
    · refine ⟨D, _, s4 _ _ W.dict, trivial, fun od => ?_⟩
      have off : ∀ {Hx : Hp}, Same (upd H4 D (.frz od (.dK (entKV ks g)))) Hx → ∀ q o, q ≠ D → H q = some o → Hx q = some o := fun sm q o nq h => sm q o (by rw [upd_ne nq]; exact s4 _ _ h)
      have key : ∀ {m : Nat} {kk : L2.Key} {vv : V}, (entKV ks g)[m]? = some (kk, vv) → ∃ n : Int, n ∈ ks ∧ kk = Sum.inl n := fun ek => by
        obtain ⟨l, hl, e⟩ := List.mem_map.mp (List.mem_of_getElem? ek)
        exact ⟨l, hl, (congrArg Prod.fst e).symm⟩
      refine ⟨_, rfl, D, od, rfl, .inl ⟨_, upd_same, ?_⟩⟩
      refine for_it walk_keys (fun m σ' H' => ∃ u3 u4, σ' = [some (.ref x), some (.ref D), some (.ref L), u3, u4] ∧ Same (upd H4 D (.frz od (.dK (entKV ks g)))) H') ⟨_, _, rfl, Same.refl _⟩ (fun m σ' H' _ ⟨_, _, _, sm⟩ => sm _ _ upd_same) ?_ ?_
      · rintro m y0 σ' Hd He hm ⟨u3, u4, rfl, sm⟩ ⟨rfl, kk, vv, ek, rfl⟩
        obtain ⟨n, hn, rfl⟩ := key ek
        walk_at "wn"
        refine ⟨_, rfl, D, od, rfl, .inl ⟨_, sm _ _ upd_same, ?_⟩⟩
        refine for_it walk_keys (fun m σ' H' => ∃ u4, σ' = [some (.ref x), some (.ref D), some (.ref L), some (.int n), u4] ∧ Same (upd H4 D (.frz od (.dK (entKV ks g)))) H') ⟨_, rfl, sm⟩ (fun m σ' H' _ ⟨_, _, sm⟩ => sm _ _ upd_same) ?_ ?_
        · clear sm ek hm
          rintro m2 y1 σ' Hd2 He2 hm2 ⟨u5, rfl, sm⟩ ⟨rfl, k2, v2, ek2, rfl⟩
          obtain ⟨m, hm, rfl⟩ := key ek2
          have Ad : At C He2 S ad dx := ⟨fun c hc => off sm _ _ (fun z => W.nD ⟨c, hc, z⟩) (W.at_.at_ c hc), W.at_.inj⟩
          have hbd : He2 x = some (sysO C.S (dx .box) S (ad .tabD) (ad .srcD) (ad .setD)) := by rw [← W.box]; exact Ad.at_ .box trivial
          have hF : He2 D = some (.frz od (.dK (entKV ks g))) := sm _ _ upd_same
          have look : ∀ j ∈ ks, DGet He2 D (.int j) (some (.ref (g j))) := fun j hj => by
            have hv : valV (entKV ks g) (Sum.inl j) = some (.ref (g j)) := by rw [ent_val, if_pos hj]
            exact .inl ⟨_, Sum.inl j, .inr ⟨od, hF⟩, rfl, hv.symm⟩
          have tup : ∀ j ∈ ks, Dp K He2 (.ref (g j)) (tpD (tm j) (kd j)) := fun j hj => .tup (SqT.of (off sm _ _ (W.DT hj) (W.tup j hj))) (.cons (.int _) (.cons (.str _) .nil))
          have bn := F.bd n hn
          have bm := F.bd m hm
          walk_at "wn"
          refine ⟨_, rfl, x, dx .box, _, rfl, hbd, rfl, ?_⟩
          walk_at "wn"
          refine ⟨0, n, 0, m, th n, th m, S, ad, dx, by rw [W.box]; rfl, Ad, F.means hn, F.means hm, by omega, by omega, ?_⟩
          walk_at "wn"
          refine ⟨_, .bool _, rfl, .bl _, rfl, by simp [PyData.depth], by simp [wt], ?_⟩
          walk_at "wn"
          refine ⟨_, rfl, _, rfl, D, _, rfl, look n hn, ?_⟩
          refine ⟨_, rfl, _, rfl, D, _, rfl, look m hm, ?_⟩
          refine ⟨_, _, tup n hn, tup m hm, tp_shaped _ _, tp_shaped _ _, ?_⟩
          have eq : (decide (tm n = tm m) && decide (kd n = kd m)) = decide (th n = th m) := by
            by_cases z : th n = th m
            · rw [decide_eq_true z, decide_eq_true ((F.same n hn m hm).mpr z), F.ks1 n hn, F.ks1 m hm, z]
              simp
            · rw [decide_eq_false z, decide_eq_false (fun y => z ((F.same n hn m hm).mp y))]
              rfl
          rw [tp_eqv, eq]
          walk_at "wn"
          refine ⟨_, .bool _, rfl, .bl _, rfl, by simp [PyData.depth], by simp [wt], ?_⟩
          walk_at "wn"
          exact ⟨_, rfl, sm⟩
        · rintro σ' Hd2 ⟨u5, rfl, sm2⟩
          exact ⟨_, _, rfl, sm2⟩
      · rintro σ' Hd ⟨u3, u4, rfl, sm⟩
        refine ⟨sm _ _ upd_same, fun q o h => ?_⟩
        by_cases z : q = D
        · rw [z, upd_same, ← h, z, W.dict]
        · rw [upd_ne z]
          exact off sm q o z h
    walk_at "wn"
    exact k _ (.mk (W.same s5) F eN)
end

abbrev nLaw : List Str := ["_law_script", "_law_at", "_law_bag_here", "_law_size", "_law_box", "_law_table", "_law_turn", "_law_found", "_law_due"]
theorem scLaw : FnScope nLaw ["_law_script"] (defScope sLaw) := ⟨rfl, rfl, rfl, by decide +kernel, rfl, by decide +kernel, by decide +kernel⟩
theorem agree_data {K : PySem.W.Frag} {H : Hp} {v1 v2 : V} (h : Agree H v1 v2) : ∃ d, Dp K H v1 d ∧ Dp K H v2 d ∧ okR d = true ∧ d.depth ≤ 40 ∧ wt d ≤ 16777216 := by
  have err : ∀ (wd : Str) (l1 l2 : Addr) (n : Int), okR (.str wd) = true → wd.length ≤ 10 → 0 ≤ n → n ≤ 1000 → H l1 = some (.lst [.str wd, .int n, .bl true]) → H l2 = some (.lst [.str wd, .int n, .bl true]) → ∃ d, Dp K H (.ref l1) d ∧ Dp K H (.ref l2) d ∧ okR d = true ∧ d.depth ≤ 40 ∧ wt d ≤ 16777216 := fun wd l1 l2 n hw hl n0 n1 h1 h2 => by
    refine ⟨.list [.str wd, .int n, .bool true], .lst (SqL.of h1) (.cons (.str _) (.cons (.int n) (.cons (.bl true) .nil))), .lst (SqL.of h2) (.cons (.str _) (.cons (.int n) (.cons (.bl true) .nil))), ?_, ?_, ?_⟩
    · have e := (small_int n0 n1).1
      simp only [okR] at hw
      simp only [okR, okRA, Bool.and_true, Bool.and_eq_true]
      exact ⟨hw, decide_eq_true e⟩
    · simp [PyData.depth, PyData.depthAll]
    · simp only [wt, wtA]
      omega
  cases h with
  | non => exact ⟨.none, .non, .non, rfl, by decide, by decide⟩
  | int k h0 h1 => exact ⟨.int k, .int k, .int k, by unfold okR; exact decide_eq_true (small_int h0 h1).1, by simp [PyData.depth], by simp [wt]⟩
  | full l1 l2 n n0 n1 h1 h2 => exact err "full" l1 l2 n (by decide +kernel) (by decide) n0 n1 h1 h2
  | shut l1 l2 n n0 n1 h1 h2 => exact err "not open" l1 l2 n (by decide +kernel) (by decide) n0 n1 h1 h2
theorem Doing.bag {C : Cs} {T : List (Addr × Str)} {Hb H : Hp} {p x D : Addr} {N turn : Int} (d : Doing C T Hb p x D N turn H) : BagAt H p := by
  cases d with
  | mk W _ _ => exact W.bag
theorem Doing.draw {C : Cs} {T : List (Addr × Str)} {Hb H H' : Hp} {p x D : Addr} {N turn : Int} (d : Doing C T Hb p x D N turn H) (e : ∀ b, b ≠ p → H' b = H b) (bg : BagAt H' p) : Doing C T Hb p x D N turn H' := by
  cases d with
  | mk W F eN => exact .mk (W.draw e bg) F eN
theorem Doing.sq {K : PySem.W.Frag} {C : Cs} {T : List (Addr × Str)} {Hb H : Hp} {p x D a : Addr} {N turn : Int} {xs : List V} (d : Doing C T Hb p x D N turn H) (h : SqL K Hb a xs) : SqL K H a xs := by
  cases d with
  | mk W _ _ => exact W.sq h
theorem Doing.tab {C : Cs} {T : List (Addr × Str)} {Hb H : Hp} {p x D : Addr} {N turn : Int} (d : Doing C T Hb p x D N turn H) : Tabs T H := by
  cases d with
  | mk W _ _ => exact W.tab
section
variable {P : Program} {w : World} {K : PySem.W.Frag} {mg : Str → Option Value} {base : Heap} {C : Cs}
def spLaw (K : PySem.W.Frag) (Pt : Addr) : Sp := fun vs H Q _ => ∃ (a : Addr) (ns : List Int), vs = [.ref a] ∧ SqL K H a (ns.map V.int) ∧ ns.length ≤ 63 ∧ H Pt = some (.tbl #[]) ∧ ∀ H', Q (.bl true) H'
theorem okLaw {Pt f fB fT fDn fSh fI : Addr} {fd fdB fdT fdDn fdSh fdI : FuncData} {g : List Value → List Value → List Value} (F : Fun K "law" "law" sLaw f fd) (X : LawTx mg) (T : ClsF K C.S sysF)
    (GB : DO P w K mg base 1 "_law_bag" ["_law_script", "_law_at"] (spBag K) fB fdB) (GT : DO P w K mg base 1 "_law_take" ["_law_bag_here", "_law_many"] spTake fT fdT)
    (GD : DO P w K mg base 9 "_law_done" ["_law_bag_here", "_law_box", "_law_table", "_law_size", "_law_turn"] (spDone C [(Pt, qDone)]) fDn fdDn)
    (gSh : FnG P w K mg base CX0 6 fSh fdSh ["_law_box", "_law_table"] (spShows C [(Pt, qDone)])) (mSh : mg "_law_shows" = some (.ref fSh)) (kSh : PySem.W.keepIn K (.ref fSh) = true) (bSh : Binds K fdSh ["_law_box", "_law_table"] [])
    (gS : mg "System" = some (.ref C.S)) (MS : Mk K C.S fI) (GI : FnOk P w K mg base CX0 3 fI fdI ["self", "processes", "numbers"] (spSysInit C)) (kI : KBn K fdI ["self", "processes", "numbers"] 1 ["numbers"] g (fun vs zs => vs ++ [.int 4] ++ zs)) :
    FnG P w K mg base CX0 10 f fd ["_law_script"] (spLaw K Pt) := by
  refine okG F scLaw (fun vs H Q E h => ?_) (fun cdv A outer s H vs Q E hr hg h => ?_)
  · obtain ⟨x, _, rfl, _⟩ := h
    rfl
  · obtain ⟨a, ns, rfl, hS, hl, hP, k⟩ := h
    have hu := hr.units
    have hu1 := hu_of hr
    have r1 : Room 1 _ := hr.mono (by decide)
    have r2 : Room 2 _ := hr.mono (by decide)
    have r4 : Room 4 _ := hr.mono (by decide)
    have r6 : Room 6 _ := hr.mono (by decide)
    have hg' : (A.deeper (envOfC "law" (defScope sLaw) s.heap.objs.size f cdv)).guards = some [] := hg
    refine ⟨_, PSs.nox (pss_cut (ps_for PassesOwn.never rfl (pi_range1 (by rfl) X.range (pa_cons (pe_callB (cMax2 rfl) (by rfl) X.max (by decide +kernel) (pa_cons pe_int (pa_cons (pe_callB (cMin2 rfl) (by rfl) X.min (by decide +kernel) (pa_cons pe_int (pa_cons (pe_callB cLenQ (by rfl) X.len PySem.boot_len (pa_cons (pv 0) pa_nil)) pa_nil))) pa_nil))) pa_nil)) (pg_name (i := 1) scLaw.nd rfl (Or.inl rfl))
      (pss_cut (ps_set (i := 2) scLaw.nd rfl (Or.inl rfl) (pe_call GB.g r1 (by rfl) GB.m GB.k GB.b .nil pass0 (pa_cons (pv 0) (pa_cons (pv 1) pa_nil))))
      (pss_cut (ps_set (i := 3) scLaw.nd rfl (Or.inl rfl) (pe_op op_add pe_int (pe_call GT.g r1 (by rfl) GT.m GT.k GT.b .nil pass0 (pa_cons (pv 2) (pa_cons pe_int pa_nil)))))
      (pss_cut (ps_par (i := 4) (j := 5) (by rfl) scLaw.nd rfl rfl (by decide) rfl rfl (pa_cons (pe_makeK0 (ks := ["numbers"]) MS GI r4 (by rfl) gS kI pass0 (pk_cons (pv 3) pk_nil)) (pa_cons pe_dnewK pa_nil)) (by rfl))
      (pss_one (ps_for PassesOwn.never rfl (pi_range1 (by rfl) X.range (pa_cons (pe_op op_add pe_int (pe_call GT.g r1 (by rfl) GT.m GT.k GT.b .nil pass0 (pa_cons (pv 2) (pa_cons pe_int pa_nil)))) pa_nil)) (pg_name (i := 6) scLaw.nd rfl (Or.inl rfl))
        (pss_cut (ps_asg (pe_call GD.g hr (by rfl) GD.m GD.k GD.b .nil pass0 (pa_cons (pv 2) (pa_cons (pv 4) (pa_cons (pv 5) (pa_cons (pv 3) (pa_cons (pv 6) pa_nil)))))) (pg_unl rfl (pgs_cons (pg_name (i := 7) scLaw.nd rfl (Or.inl rfl)) (pgs_cons (pg_name (i := 8) scLaw.nd rfl (Or.inl rfl)) pgs_nil))))
        (pss_one (ps_if (PW.pt (pw_or (pt_cmpR op_ne (pe_callB (cRepr hg' hu) (by rfl) X.repr PyProof.Rows.boot_repr (pa_cons (pv 7) pa_nil)) (pe_callB (cRepr hg' hu) (by rfl) X.repr PyProof.Rows.boot_repr (pa_cons (pv 8) pa_nil)) (nomark _)) (pw_or1 (pt_not (pt_val (pe_callG gSh r6 hg' (by rfl) mSh kSh bSh .nil pass0 (pa_cons (pv 4) (pa_cons (pv 5) pa_nil))))))))
          (pss_one (ps_ret pe_bl)) pss_nil))))))))) (pss_one (ps_ret pe_bl))), ?_⟩
    generalize hTT : [(Pt, qDone)] = TT at GD gSh
    have tb0 : Tabs TT H := fun x hx => by
      rw [← hTT] at hx
      obtain rfl := List.mem_singleton.mp hx
      exact TabS.nil hP
    refine ⟨fun σ' H' => Tabs TT H', ?_, fun σ' H' _ => ?_⟩
    · walk_at "wn"
      show iRng1 _ _ _ _
      show tCons _ _ _ _ _
      walk_at "wn"
      refine ⟨a, _, rfl, .inl hS, ?_⟩
      walk_at "wn"
      refine ⟨_, rfl, ?_, ?_, ?_⟩
      · split <;> split <;> omega
      · split <;> split <;> omega
      refine for_range (lo := 0) (fun i σ' H' => ∃ u1 u2 u3 u4 u5 u6 u7 u8 : Option V, σ' = [some (.ref a), u1, u2, u3, u4, u5, u6, u7, u8] ∧ SqL K H' a (ns.map V.int) ∧ Tabs TT H') ⟨_, _, _, _, _, _, _, _, rfl, hS, tb0⟩ ?_ (fun σ' H' ⟨_, _, _, _, _, _, _, _, _, _, h⟩ => h)
      rintro i σ' Hb hi ⟨u1, u2, u3, u4, u5, u6, u7, u8, rfl, hSb, tbb⟩
      have hi100 : i ≤ 100 := by revert hi; split <;> split <;> omega
      walk_at "wn"
      refine ⟨fun σ' H' => ∃ p : Addr, σ' = [some (.ref a), some (.int (0 + (i : Int))), some (.ref p), u3, u4, u5, u6, u7, u8] ∧ Hb p = none ∧ Same Hb H' ∧ BagAt H' p, ?_, ?_⟩
      · walk_at "wn"
        refine ⟨a, ns, i, by simp, hSb, hl, hi100, fun H1 p n0 s1 b1 => ?_⟩
        walk_at "wn"
        exact ⟨p, rfl, n0, s1, b1⟩
      rintro σ' H1 ⟨p, rfl, n0, s1, b1⟩
      refine ⟨fun σ' H' => ∃ N : Int, σ' = [some (.ref a), some (.int (0 + (i : Int))), some (.ref p), some (.int N), u4, u5, u6, u7, u8] ∧ 3 ≤ N ∧ N ≤ 8 ∧ Same Hb H' ∧ BagAt H' p, ?_, ?_⟩
      · walk_at "wn"
        refine ⟨p, 6, rfl, b1, by decide, by decide, fun kk H2 k0 k1 e2 b2 => ?_⟩
        walk_at "wn"
        exact ⟨_, rfl, by omega, by omega, fun b o h => (e2 b fun z => by rw [z, n0] at h; cases h).trans (s1 b o h), b2⟩
      rintro σ' H2 ⟨N, rfl, N3, N8, s2, b2⟩
      refine ⟨fun σ' H' => ∃ x D : Addr, σ' = [some (.ref a), some (.int (0 + (i : Int))), some (.ref p), some (.int N), some (.ref x), some (.ref D), u6, u7, u8] ∧ Doing C TT Hb p x D N 0 H', ?_, ?_⟩
      · show tPar 4 5 _ _ _ _
        refine ⟨_, rfl, rfl, rfl, fun x dx0 hx hd nd => ?_⟩
        refine ⟨x, dx0, 4, N, rfl, upd_same, by decide, by decide, N3, N8, fun H3 ad dx hbx A3 k3 n3 => ⟨rfl, ?_⟩⟩
        intro D hD
        refine ⟨_, _, rfl, ?_⟩
        have hx0 : hT Hb x = none := hT_none (Same.frees s2 hx)
        have sH2 : Same H2 H3 := fun b o e => k3 b o (ne_of_none e hx) (by rw [upd_ne (ne_of_none e hx), upd_ne (ne_of_none e hd)]; exact e)
        have sH3 : Same H2 (upd H3 D (.dK [])) := sH2.trans (Same.new' hD)
        have old : ∀ q o, hT Hb q = some o → upd H3 D (.dK []) q = some o := fun q o h => sH3 _ _ (s2 _ _ (hT_of h).1)
        obtain ⟨b1a, b1b, hp1, hpr⟩ := b2
        have fresh : ∀ b, own (newSys 4 N) ad b → hT Hb b = none ∧ H2 b = none := fun b hb => by
          rcases n3 b hb with z | z
          · rw [z]
            exact ⟨hx0, hx⟩
          · by_cases e : b = x
            · rw [e]
              exact ⟨hx0, hx⟩
            · rw [upd_ne e] at z
              by_cases e2 : b = dx0
              · rw [e2]
                exact ⟨hT_none (Same.frees s2 hd), hd⟩
              · rw [upd_ne e2] at z
                exact ⟨hT_none (Same.frees s2 z), z⟩
        refine ⟨x, D, rfl, .mk (S := newSys 4 N) (ad := ad) (dx := dx) (ks := []) (g := fun _ => 0) (th := fun _ => 0) (tm := fun _ => 0) (kd := fun _ => false) ?_ (Fit.start N3 N8) rfl⟩
        refine ⟨A3.same (Same.new' hD), hbx, tbb.ext fun b o h => sH3 _ _ (s2 b o h), ⟨b1a, b1b, sH3 _ _ hp1, hpr⟩, upd_same, (fun n h => nomatch h), old, fun b hb => (fresh b hb).1, hT_none n0, hT_none (Same.frees s2 (Same.frees sH2 hD)), fun z => ?_, A3.not_own hD, (fun n h => nomatch h)⟩
        rw [(fresh p z).2] at hp1
        cases hp1
      rintro σ' H3 ⟨x, D, rfl, d3⟩
      show iRng1 _ _ _ _
      show tCons _ _ _ _ _
      walk_at "wn"
      refine ⟨p, 33, rfl, d3.bag, by decide, by decide, fun kk H4 k0 k1 e4 b4 => ?_⟩
      have d4 := d3.draw e4 b4
      walk_at "wn"
      refine ⟨_, rfl, by omega, by omega, ?_⟩
      refine for_range (lo := 0) (fun j σ' H' => ∃ u6 u7 u8, σ' = [some (.ref a), some (.int (0 + (i : Int))), some (.ref p), some (.int N), some (.ref x), some (.ref D), u6, u7, u8] ∧ Doing C TT Hb p x D N (j : Int) H') ⟨_, _, _, rfl, d4⟩ ?_ (fun σ' H5 ⟨_, _, _, e, d⟩ => ⟨_, _, _, _, _, _, _, _, e, d.sq hSb, d.tab⟩)
      rintro j σ' H5 hj ⟨u6, u7, u8, rfl, d5⟩
      have hj41 : j ≤ 41 := by omega
      walk_at "wn"
      refine ⟨fun σ' H' => ∃ v1 v2, σ' = [some (.ref a), some (.int (0 + (i : Int))), some (.ref p), some (.int N), some (.ref x), some (.ref D), some (.int (0 + (j : Int))), some v1, some v2] ∧ Agree H' v1 v2 ∧ Doing C TT Hb p x D N ((j + 1 : Nat) : Int) H', ?_, ?_⟩
      · walk_at "wn"
        refine ⟨p, x, D, N, 0 + (j : Int), Hb, rfl, by rw [Int.zero_add]; exact d5, by omega, fun H6 r v1 v2 hr6 ag d6 => ?_⟩
        refine ⟨r, _, rfl, SqL.of hr6, rfl, _, _, rfl, ?_⟩
        walk_at "wn"
        refine ⟨_, _, rfl, ?_⟩
        walk_at "wn"
        refine ⟨rfl, ?_⟩
        walk_at "wn"
        rw [Int.zero_add] at d6
        exact ⟨v1, v2, rfl, ag, d6⟩
      rintro σ' H6 ⟨v1, v2, rfl, ag, d6⟩
      obtain ⟨d, q1, q2, o1, o2, o3⟩ := agree_data (K := K) ag
      walk_at "wn"
      refine ⟨v1, d, rfl, q1, o1, o2, o3, ?_⟩
      walk_at "wn"
      refine ⟨v2, d, rfl, q2, o1, o2, o3, ?_⟩
      walk_at "wn"
      refine ⟨p, x, D, N, _, Hb, rfl, d6, by omega, fun H7 d7 => ?_⟩
      walk_at "wn"
      exact ⟨_, _, _, rfl, d7⟩
    · walk_at "wn"
      exact k _
end

theorem Ln0 {α : Type} : ∀ {us : List α}, us.length = 0 → us = []
  | [], _ => rfl
theorem Ln1 {α : Type} : ∀ {us : List α}, us.length = 1 → ∃ a0, us = [a0]
  | [a0], _ => ⟨_, rfl⟩
theorem Ln2 {α : Type} : ∀ {us : List α}, us.length = 2 → ∃ a0 a1, us = [a0, a1]
  | [a0, a1], _ => ⟨_, _, rfl⟩
theorem Ln3 {α : Type} : ∀ {us : List α}, us.length = 3 → ∃ a0 a1 a2, us = [a0, a1, a2]
  | [a0, a1, a2], _ => ⟨_, _, _, rfl⟩
theorem Ln4 {α : Type} : ∀ {us : List α}, us.length = 4 → ∃ a0 a1 a2 a3, us = [a0, a1, a2, a3]
  | [a0, a1, a2, a3], _ => ⟨_, _, _, _, rfl⟩
theorem Ln5 {α : Type} : ∀ {us : List α}, us.length = 5 → ∃ a0 a1 a2 a3 a4, us = [a0, a1, a2, a3, a4]
  | [a0, a1, a2, a3, a4], _ => ⟨_, _, _, _, _, rfl⟩
theorem Ln6 {α : Type} : ∀ {us : List α}, us.length = 6 → ∃ a0 a1 a2 a3 a4 a5, us = [a0, a1, a2, a3, a4, a5]
  | [a0, a1, a2, a3, a4, a5], _ => ⟨_, _, _, _, _, _, rfl⟩
theorem Ln7 {α : Type} : ∀ {us : List α}, us.length = 7 → ∃ a0 a1 a2 a3 a4 a5 a6, us = [a0, a1, a2, a3, a4, a5, a6]
  | [a0, a1, a2, a3, a4, a5, a6], _ => ⟨_, _, _, _, _, _, _, rfl⟩
theorem isct {K : PySem.W.Frag} {h : Heap} {c P : Addr} (X : K.In h) (e : PySem.W.codeHdIn K c P = true) : isCodeTable h P := by
  obtain ⟨o, vs, _, _, _, _, _, _, _, e1, e2, e3, e4, _⟩ := PySem.W.codeHd_of_K X e
  exact ⟨c, o, vs, e1, e2, e3, e4⟩
theorem all_mk {P : Program} {w : World} {K : PySem.W.Frag} {h : Heap} {mg : Str → Option Value} {fa Pt : Addr} (X : K.In h) (G : h.Ns mainGlobals mg) (hfa : mg "law" = some (.ref fa))
    {CS CW : Addr}
    {COp NOp : Addr} {nmOp qOp : Str} {bsOp subOp : List Value} {snOp : List Str} {abOp : Bool} {colOp : Option Bool} {ddOp : Option Addr} {maOp mbOp mcOp mdOp meOp : Option Value}
    {CFu NFu : Addr} {nmFu qFu : Str} {bsFu subFu : List Value} {snFu : List Str} {abFu : Bool} {colFu : Option Bool} {ddFu : Option Addr} {maFu mbFu mcFu mdFu meFu : Option Value}
    {f_int : Addr} {oc_int dc_int pm_int ct_int cd_int : Value} {od_int an_int : Option Addr} {sl_int : Array (Option Value)}
    {kV_int : Value}
    {f_bet : Addr} {oc_bet dc_bet pm_bet ct_bet cd_bet : Value} {od_bet an_bet : Option Addr} {sl_bet : Array (Option Value)}
    {kV_bet : Value}
    {f_bag : Addr} {oc_bag dc_bag pm_bag ct_bag cd_bag : Value} {od_bag an_bag : Option Addr} {sl_bag : Array (Option Value)}
    {kV_bag : Value}
    {f_take : Addr} {oc_take dc_take pm_take ct_take cd_take : Value} {od_take an_take : Option Addr} {sl_take : Array (Option Value)}
    {kV_take : Value}
    {f_out : Addr} {oc_out dc_out pm_out ct_out cd_out : Value} {od_out an_out : Option Addr} {sl_out : Array (Option Value)}
    {kV_out : Value}
    {f_low : Addr} {oc_low dc_low pm_low ct_low cd_low : Value} {od_low an_low : Option Addr} {sl_low : Array (Option Value)}
    {kV_low : Value}
    {f_pla : Addr} {oc_pla dc_pla pm_pla ct_pla cd_pla : Value} {od_pla an_pla : Option Addr} {sl_pla : Array (Option Value)}
    {kV_pla : Value}
    {f_don : Addr} {oc_don dc_don pm_don ct_don : Value} {od_don an_don : Option Addr} {sl_don : Array (Option Value)}
    {c_don : Addr}
    {kV_don : Value}
    {f_shw : Addr} {oc_shw dc_shw pm_shw ct_shw cd_shw : Value} {od_shw an_shw : Option Addr} {sl_shw : Array (Option Value)}
    {kV_shw : Value}
    {f_law : Addr} {oc_law dc_law pm_law ct_law cd_law : Value} {od_law an_law : Option Addr} {sl_law : Array (Option Value)}
    {kV_law : Value}
    {f_xop : Addr} {oc_xop dc_xop pm_xop ct_xop cd_xop : Value} {od_xop an_xop : Option Addr} {sl_xop : Array (Option Value)}
    {kV_xop : Value}
    {f_xfu : Addr} {oc_xfu dc_xfu pm_xfu ct_xfu cd_xfu : Value} {od_xfu an_xfu : Option Addr} {sl_xfu : Array (Option Value)}
    {kV_xfu : Value}
    {f_wi : Addr} {oc_wi dc_wi pm_wi ct_wi cd_wi : Value} {od_wi an_wi : Option Addr} {sl_wi : Array (Option Value)}
    {kV_wi : Value}
    {f_drs : Addr} {oc_drs dc_drs pm_drs ct_drs cd_drs : Value} {od_drs an_drs : Option Addr} {sl_drs : Array (Option Value)}
    {kV_drs : Value}
    {f_si : Addr} {oc_si dc_si pm_si ct_si cd_si : Value} {od_si an_si : Option Addr} {sl_si : Array (Option Value)}
    {D_si : Addr}
    {tw_si0 : Tok}
    {tw_si1 : Tok}
    {f_con : Addr} {oc_con dc_con pm_con ct_con cd_con : Value} {od_con an_con : Option Addr} {sl_con : Array (Option Value)}
    {kV_con : Value}
    {f_tof : Addr} {oc_tof dc_tof pm_tof ct_tof cd_tof : Value} {od_tof an_tof : Option Addr} {sl_tof : Array (Option Value)}
    {kV_tof : Value}
    {f_itn : Addr} {oc_itn dc_itn pm_itn ct_itn cd_itn : Value} {od_itn an_itn : Option Addr} {sl_itn : Array (Option Value)}
    {kV_itn : Value}
    {f_tha : Addr} {oc_tha dc_tha pm_tha ct_tha cd_tha : Value} {od_tha an_tha : Option Addr} {sl_tha : Array (Option Value)}
    {kV_tha : Value}
    {f_frn : Addr} {oc_frn dc_frn pm_frn ct_frn cd_frn : Value} {od_frn an_frn : Option Addr} {sl_frn : Array (Option Value)}
    {kV_frn : Value}
    {f_nth : Addr} {oc_nth dc_nth pm_nth ct_nth cd_nth : Value} {od_nth an_nth : Option Addr} {sl_nth : Array (Option Value)}
    {kV_nth : Value}
    {f_nso : Addr} {oc_nso dc_nso pm_nso ct_nso cd_nso : Value} {od_nso an_nso : Option Addr} {sl_nso : Array (Option Value)}
    {kV_nso : Value}
    {f_nse : Addr} {oc_nse dc_nse pm_nse ct_nse cd_nse : Value} {od_nse an_nse : Option Addr} {sl_nse : Array (Option Value)}
    {kV_nse : Value}
    {f_etg : Addr} {oc_etg dc_etg pm_etg ct_etg cd_etg : Value} {od_etg an_etg : Option Addr} {sl_etg : Array (Option Value)}
    {kV_etg : Value}
    {f_fre : Addr} {oc_fre dc_fre pm_fre ct_fre cd_fre : Value} {od_fre an_fre : Option Addr} {sl_fre : Array (Option Value)}
    {kV_fre : Value}
    {f_clo : Addr} {oc_clo dc_clo pm_clo ct_clo cd_clo : Value} {od_clo an_clo : Option Addr} {sl_clo : Array (Option Value)}
    {kV_clo : Value}
    {f_cpy : Addr} {oc_cpy dc_cpy pm_cpy ct_cpy cd_cpy : Value} {od_cpy an_cpy : Option Addr} {sl_cpy : Array (Option Value)}
    {T_cpy : Addr} {dd_cpy : Option Addr} {nd_cpy : Nat} {sd_cpy : Array (Option Value)}
    {kV_cpy : Value}
    {f_num : Addr} {oc_num dc_num pm_num ct_num cd_num : Value} {od_num an_num : Option Addr} {sl_num : Array (Option Value)}
    {kV_num : Value}
    {f_sam : Addr} {oc_sam dc_sam pm_sam ct_sam cd_sam : Value} {od_sam an_sam : Option Addr} {sl_sam : Array (Option Value)}
    {kV_sam : Value}
    {tLP : Tok}
    {tLN : Tok}
    {tMP : Tok}
    {tMN : Tok}
    (gCS : PySem.W.nsIn K mainGlobals "System" = some (some (.ref CS)))
    (pgS : PySem.W.plainGet K CS Str.empty = true)
    (hdS : PySem.W.hasDictIn K CS = true)
    (poS : PySem.W.plainOver K CS = true)
    (saS : PySem.W.findIn K (.ref CS) "__setattr__" = some (some (.builtin "object.__setattr__")))
    (mkS : PySem.W.makesIn K CS = true)
    (kcS : PySem.W.keepIn K (.ref CS) = true)
    (noS0 : PySem.W.findIn K (.ref CS) "process_limit" = some none)
    (noS1 : PySem.W.findIn K (.ref CS) "number_limit" = some none)
    (noS2 : PySem.W.findIn K (.ref CS) "tables" = some none)
    (noS3 : PySem.W.findIn K (.ref CS) "sources" = some none)
    (noS4 : PySem.W.findIn K (.ref CS) "sets" = some none)
    (noS5 : PySem.W.findIn K (.ref CS) "next_thing" = some none)
    (gCW : PySem.W.nsIn K mainGlobals "WaitingSet" = some (some (.ref CW)))
    (pgW : PySem.W.plainGet K CW Str.empty = true)
    (hdW : PySem.W.hasDictIn K CW = true)
    (poW : PySem.W.plainOver K CW = true)
    (saW : PySem.W.findIn K (.ref CW) "__setattr__" = some (some (.builtin "object.__setattr__")))
    (mkW : PySem.W.makesIn K CW = true)
    (kcW : PySem.W.keepIn K (.ref CW) = true)
    (noW0 : PySem.W.findIn K (.ref CW) "entries" = some none)
    (noW1 : PySem.W.findIn K (.ref CW) "queue" = some none)
    (gCOp : PySem.W.nsIn K mainGlobals "NotOpen" = some (some (.ref COp)))
    (xLOp : K.lookup COp = some (excClassObj nmOp qOp COp NOp bsOp [.type "LookupError", .type "Exception", .type "BaseException", .type "object"] true snOp subOp abOp colOp ddOp maOp mbOp mcOp mdOp meOp "LookupError.__new__"))
    (xsaOp : PySem.W.findIn K (.ref COp) "__setattr__" = some (some (.builtin "object.__setattr__")))
    (xgaOp : PySem.W.findIn K (.ref COp) "__getattribute__" = some (some (.builtin "BaseException.__getattribute__")))
    (xggOp : PySem.W.findIn K (.ref COp) "__getattr__" = some none)
    (xnbOp0 : PySem.W.findIn K (.ref COp) "number" = some none)
    (xvVOp : PySem.W.findCls K (.type "LookupError") (.type "type") "__init__" = some (.val (.builtin "LookupError.__init__")))
    (xkCOp : PySem.W.keepIn K (.ref COp) = true)
    (xeCOp : PySem.W.subIn K (.ref COp) (.type "BaseException") = some true)
    (xtCOp : PySem.W.typeIn K (.ref COp) = some (.type "type"))
    (xhCOp : PySem.W.hasDictIn K COp = true)
    (xteOp : PySem.W.exmOne K (.ref COp) (.ref COp) = some true)
    (xC1Op : PySem.W.findIn K (.ref COp) "__class__" = some (some (.builtin "object.__class__")))
    (xC4Op : PySem.W.mroIn K COp (.type "object") = some true)
    (xC5Op : (PySem.W.clsIn K COp).isSome = true)
    (xkvOp : PySem.W.kitOne K (.ref COp) (.type "LookupError") = some true)
    (xC2 : PySem.W.specialIn K (.builtin "object.__class__") "__get__" = some (some (.builtin "getset_descriptor.__get__")))
    (xC3 : PySem.W.takesIn K (.builtin "object.__class__") = some true)
    (gCFu : PySem.W.nsIn K mainGlobals "Full" = some (some (.ref CFu)))
    (xLFu : K.lookup CFu = some (excClassObj nmFu qFu CFu NFu bsFu [.type "OverflowError", .type "ArithmeticError", .type "Exception", .type "BaseException", .type "object"] true snFu subFu abFu colFu ddFu maFu mbFu mcFu mdFu meFu "OverflowError.__new__"))
    (xsaFu : PySem.W.findIn K (.ref CFu) "__setattr__" = some (some (.builtin "object.__setattr__")))
    (xgaFu : PySem.W.findIn K (.ref CFu) "__getattribute__" = some (some (.builtin "BaseException.__getattribute__")))
    (xggFu : PySem.W.findIn K (.ref CFu) "__getattr__" = some none)
    (xnbFu0 : PySem.W.findIn K (.ref CFu) "process" = some none)
    (xvVFu : PySem.W.findCls K (.type "OverflowError") (.type "type") "__init__" = some (.val (.builtin "OverflowError.__init__")))
    (xkCFu : PySem.W.keepIn K (.ref CFu) = true)
    (xeCFu : PySem.W.subIn K (.ref CFu) (.type "BaseException") = some true)
    (xtCFu : PySem.W.typeIn K (.ref CFu) = some (.type "type"))
    (xhCFu : PySem.W.hasDictIn K CFu = true)
    (xteFu : PySem.W.exmOne K (.ref CFu) (.ref CFu) = some true)
    (xC1Fu : PySem.W.findIn K (.ref CFu) "__class__" = some (some (.builtin "object.__class__")))
    (xC4Fu : PySem.W.mroIn K CFu (.type "object") = some true)
    (xC5Fu : (PySem.W.clsIn K CFu).isSome = true)
    (xkvFu : PySem.W.kitOne K (.ref CFu) (.type "OverflowError") = some true)
    (aint : PySem.W.nsIn K mainGlobals "is_integer" = some (some (.ref f_int)))
    (lint : K.lookup f_int = some ⟨oc_int, od_int, .func (PySem.W.fnOf "is_integer" "is_integer" (defArgs sIsInteger) (defBody sIsInteger) (defScope sIsInteger) .none kV_int dc_int pm_int an_int cd_int ct_int), sl_int⟩)
    (cint : PySem.W.codeIn K cd_int "is_integer" = true)
    (kint : PySem.W.keepIn K (.ref f_int) = true)
    (abet : PySem.W.nsIn K mainGlobals "is_between" = some (some (.ref f_bet)))
    (lbet : K.lookup f_bet = some ⟨oc_bet, od_bet, .func (PySem.W.fnOf "is_between" "is_between" (defArgs sIsBetween) (defBody sIsBetween) (defScope sIsBetween) .none kV_bet dc_bet pm_bet an_bet cd_bet ct_bet), sl_bet⟩)
    (cbet : PySem.W.codeIn K cd_bet "is_between" = true)
    (kbet : PySem.W.keepIn K (.ref f_bet) = true)
    (abag : PySem.W.nsIn K mainGlobals "_law_bag" = some (some (.ref f_bag)))
    (lbag : K.lookup f_bag = some ⟨oc_bag, od_bag, .func (PySem.W.fnOf "_law_bag" "_law_bag" (defArgs sBag) (defBody sBag) (defScope sBag) .none kV_bag dc_bag pm_bag an_bag cd_bag ct_bag), sl_bag⟩)
    (cbag : PySem.W.codeIn K cd_bag "_law_bag" = true)
    (kbag : PySem.W.keepIn K (.ref f_bag) = true)
    (atake : PySem.W.nsIn K mainGlobals "_law_take" = some (some (.ref f_take)))
    (ltake : K.lookup f_take = some ⟨oc_take, od_take, .func (PySem.W.fnOf "_law_take" "_law_take" (defArgs sTake) (defBody sTake) (defScope sTake) .none kV_take dc_take pm_take an_take cd_take ct_take), sl_take⟩)
    (ctake : PySem.W.codeIn K cd_take "_law_take" = true)
    (ktake : PySem.W.keepIn K (.ref f_take) = true)
    (aout : PySem.W.nsIn K mainGlobals "_law_outcome" = some (some (.ref f_out)))
    (lout : K.lookup f_out = some ⟨oc_out, od_out, .func (PySem.W.fnOf "_law_outcome" "_law_outcome" (defArgs sOutcome) (defBody sOutcome) (defScope sOutcome) .none kV_out dc_out pm_out an_out cd_out ct_out), sl_out⟩)
    (cout : PySem.W.codeIn K cd_out "_law_outcome" = true)
    (kout : PySem.W.keepIn K (.ref f_out) = true)
    (alow : PySem.W.nsIn K mainGlobals "_law_lowest" = some (some (.ref f_low)))
    (llow : K.lookup f_low = some ⟨oc_low, od_low, .func (PySem.W.fnOf "_law_lowest" "_law_lowest" (defArgs sLowest) (defBody sLowest) (defScope sLowest) .none kV_low dc_low pm_low an_low cd_low ct_low), sl_low⟩)
    (clow : PySem.W.codeIn K cd_low "_law_lowest" = true)
    (klow : PySem.W.keepIn K (.ref f_low) = true)
    (apla : PySem.W.nsIn K mainGlobals "_law_placed" = some (some (.ref f_pla)))
    (lpla : K.lookup f_pla = some ⟨oc_pla, od_pla, .func (PySem.W.fnOf "_law_placed" "_law_placed" (defArgs sPlaced) (defBody sPlaced) (defScope sPlaced) .none kV_pla dc_pla pm_pla an_pla cd_pla ct_pla), sl_pla⟩)
    (cpla : PySem.W.codeIn K cd_pla "_law_placed" = true)
    (kpla : PySem.W.keepIn K (.ref f_pla) = true)
    (adon : PySem.W.nsIn K mainGlobals "_law_done" = some (some (.ref f_don)))
    (ldon : K.lookup f_don = some ⟨oc_don, od_don, .func (PySem.W.fnOf "_law_done" "_law_done" (defArgs sDone) (defBody sDone) (defScope sDone) .none kV_don dc_don pm_don an_don (.ref c_don) ct_don), sl_don⟩)
    (cdon : PySem.W.codeIn K (.ref c_don) "_law_done" = true)
    (kdon : PySem.W.keepIn K (.ref f_don) = true)
    (ashw : PySem.W.nsIn K mainGlobals "_law_shows" = some (some (.ref f_shw)))
    (lshw : K.lookup f_shw = some ⟨oc_shw, od_shw, .func (PySem.W.fnOf "_law_shows" "_law_shows" (defArgs sShows) (defBody sShows) (defScope sShows) .none kV_shw dc_shw pm_shw an_shw cd_shw ct_shw), sl_shw⟩)
    (cshw : PySem.W.codeIn K cd_shw "_law_shows" = true)
    (kshw : PySem.W.keepIn K (.ref f_shw) = true)
    (alaw : PySem.W.nsIn K mainGlobals "law" = some (some (.ref f_law)))
    (llaw : K.lookup f_law = some ⟨oc_law, od_law, .func (PySem.W.fnOf "law" "law" (defArgs sLaw) (defBody sLaw) (defScope sLaw) .none kV_law dc_law pm_law an_law cd_law ct_law), sl_law⟩)
    (claw : PySem.W.codeIn K cd_law "law" = true)
    (klaw : PySem.W.keepIn K (.ref f_law) = true)
    (axop : PySem.W.findIn K (.ref COp) "__init__" = some (some (.ref f_xop)))
    (ixop : PySem.W.isFn K (.ref f_xop) = true)
    (lxop : K.lookup f_xop = some ⟨oc_xop, od_xop, .func (PySem.W.fnOf "__init__" "NotOpen.__init__" (defArgs sOpenInit) (defBody sOpenInit) (defScope sOpenInit) .none kV_xop dc_xop pm_xop an_xop cd_xop ct_xop), sl_xop⟩)
    (cxop : PySem.W.codeIn K cd_xop "NotOpen.__init__" = true)
    (kxop : PySem.W.keepIn K (.ref f_xop) = true)
    (axfu : PySem.W.findIn K (.ref CFu) "__init__" = some (some (.ref f_xfu)))
    (ixfu : PySem.W.isFn K (.ref f_xfu) = true)
    (lxfu : K.lookup f_xfu = some ⟨oc_xfu, od_xfu, .func (PySem.W.fnOf "__init__" "Full.__init__" (defArgs sFullInit) (defBody sFullInit) (defScope sFullInit) .none kV_xfu dc_xfu pm_xfu an_xfu cd_xfu ct_xfu), sl_xfu⟩)
    (cxfu : PySem.W.codeIn K cd_xfu "Full.__init__" = true)
    (kxfu : PySem.W.keepIn K (.ref f_xfu) = true)
    (awi : PySem.W.findIn K (.ref CW) "__init__" = some (some (.ref f_wi)))
    (iwi : PySem.W.isFn K (.ref f_wi) = true)
    (lwi : K.lookup f_wi = some ⟨oc_wi, od_wi, .func (PySem.W.fnOf "__init__" "WaitingSet.__init__" (defArgs sWsInit) (defBody sWsInit) (defScope sWsInit) .none kV_wi dc_wi pm_wi an_wi cd_wi ct_wi), sl_wi⟩)
    (cwi : PySem.W.codeIn K cd_wi "WaitingSet.__init__" = true)
    (kwi : PySem.W.keepIn K (.ref f_wi) = true)
    (adrs : PySem.W.findIn K (.ref CW) "drop_source" = some (some (.ref f_drs)))
    (idrs : PySem.W.isFn K (.ref f_drs) = true)
    (ldrs : K.lookup f_drs = some ⟨oc_drs, od_drs, .func (PySem.W.fnOf "drop_source" "WaitingSet.drop_source" (defArgs sDropSource) (defBody sDropSource) (defScope sDropSource) .none kV_drs dc_drs pm_drs an_drs cd_drs ct_drs), sl_drs⟩)
    (cdrs : PySem.W.codeIn K cd_drs "WaitingSet.drop_source" = true)
    (kdrs : PySem.W.keepIn K (.ref f_drs) = true)
    (asi : PySem.W.findIn K (.ref CS) "__init__" = some (some (.ref f_si)))
    (isi : PySem.W.isFn K (.ref f_si) = true)
    (lsi : K.lookup f_si = some ⟨oc_si, od_si, .func (PySem.W.fnOf "__init__" "System.__init__" (defArgs sSysInit) (defBody sSysInit) (defScope sSysInit) .none (.ref D_si) dc_si pm_si an_si cd_si ct_si), sl_si⟩)
    (csi : PySem.W.codeIn K cd_si "System.__init__" = true)
    (ksi : PySem.W.keepIn K (.ref f_si) = true)
    (wsi0 : PySem.W.nsIn K D_si "processes" = some (some (.int 4 tw_si0)))
    (wsi1 : PySem.W.nsIn K D_si "numbers" = some (some (.int 8 tw_si1)))
    (acon : PySem.W.findIn K (.ref CS) "__contains__" = some (some (.ref f_con)))
    (icon : PySem.W.isFn K (.ref f_con) = true)
    (lcon : K.lookup f_con = some ⟨oc_con, od_con, .func (PySem.W.fnOf "__contains__" "System.__contains__" (defArgs sContains) (defBody sContains) (defScope sContains) .none kV_con dc_con pm_con an_con cd_con ct_con), sl_con⟩)
    (ccon : PySem.W.codeIn K cd_con "System.__contains__" = true)
    (kcon : PySem.W.keepIn K (.ref f_con) = true)
    (atof : PySem.W.findIn K (.ref CS) "table_of" = some (some (.ref f_tof)))
    (itof : PySem.W.isFn K (.ref f_tof) = true)
    (ltof : K.lookup f_tof = some ⟨oc_tof, od_tof, .func (PySem.W.fnOf "table_of" "System.table_of" (defArgs sTableOf) (defBody sTableOf) (defScope sTableOf) .none kV_tof dc_tof pm_tof an_tof cd_tof ct_tof), sl_tof⟩)
    (ctof : PySem.W.codeIn K cd_tof "System.table_of" = true)
    (ktof : PySem.W.keepIn K (.ref f_tof) = true)
    (aitn : PySem.W.findIn K (.ref CS) "is_table_number" = some (some (.ref f_itn)))
    (iitn : PySem.W.isFn K (.ref f_itn) = true)
    (litn : K.lookup f_itn = some ⟨oc_itn, od_itn, .func (PySem.W.fnOf "is_table_number" "System.is_table_number" (defArgs sIsTabNum) (defBody sIsTabNum) (defScope sIsTabNum) .none kV_itn dc_itn pm_itn an_itn cd_itn ct_itn), sl_itn⟩)
    (citn : PySem.W.codeIn K cd_itn "System.is_table_number" = true)
    (kitn : PySem.W.keepIn K (.ref f_itn) = true)
    (atha : PySem.W.findIn K (.ref CS) "thing_at" = some (some (.ref f_tha)))
    (itha : PySem.W.isFn K (.ref f_tha) = true)
    (ltha : K.lookup f_tha = some ⟨oc_tha, od_tha, .func (PySem.W.fnOf "thing_at" "System.thing_at" (defArgs sThingAt) (defBody sThingAt) (defScope sThingAt) .none kV_tha dc_tha pm_tha an_tha cd_tha ct_tha), sl_tha⟩)
    (ctha : PySem.W.codeIn K cd_tha "System.thing_at" = true)
    (ktha : PySem.W.keepIn K (.ref f_tha) = true)
    (afrn : PySem.W.findIn K (.ref CS) "free_number" = some (some (.ref f_frn)))
    (ifrn : PySem.W.isFn K (.ref f_frn) = true)
    (lfrn : K.lookup f_frn = some ⟨oc_frn, od_frn, .func (PySem.W.fnOf "free_number" "System.free_number" (defArgs sFreeNum) (defBody sFreeNum) (defScope sFreeNum) .none kV_frn dc_frn pm_frn an_frn cd_frn ct_frn), sl_frn⟩)
    (cfrn : PySem.W.codeIn K cd_frn "System.free_number" = true)
    (kfrn : PySem.W.keepIn K (.ref f_frn) = true)
    (anth : PySem.W.findIn K (.ref CS) "new_thing" = some (some (.ref f_nth)))
    (inth : PySem.W.isFn K (.ref f_nth) = true)
    (lnth : K.lookup f_nth = some ⟨oc_nth, od_nth, .func (PySem.W.fnOf "new_thing" "System.new_thing" (defArgs sNewThing) (defBody sNewThing) (defScope sNewThing) .none kV_nth dc_nth pm_nth an_nth cd_nth ct_nth), sl_nth⟩)
    (cnth : PySem.W.codeIn K cd_nth "System.new_thing" = true)
    (knth : PySem.W.keepIn K (.ref f_nth) = true)
    (anso : PySem.W.findIn K (.ref CS) "new_source" = some (some (.ref f_nso)))
    (inso : PySem.W.isFn K (.ref f_nso) = true)
    (lnso : K.lookup f_nso = some ⟨oc_nso, od_nso, .func (PySem.W.fnOf "new_source" "System.new_source" (defArgs sNewSource) (defBody sNewSource) (defScope sNewSource) .none kV_nso dc_nso pm_nso an_nso cd_nso ct_nso), sl_nso⟩)
    (cnso : PySem.W.codeIn K cd_nso "System.new_source" = true)
    (knso : PySem.W.keepIn K (.ref f_nso) = true)
    (anse : PySem.W.findIn K (.ref CS) "new_set" = some (some (.ref f_nse)))
    (inse : PySem.W.isFn K (.ref f_nse) = true)
    (lnse : K.lookup f_nse = some ⟨oc_nse, od_nse, .func (PySem.W.fnOf "new_set" "System.new_set" (defArgs sNewSet) (defBody sNewSet) (defScope sNewSet) .none kV_nse dc_nse pm_nse an_nse cd_nse ct_nse), sl_nse⟩)
    (cnse : PySem.W.codeIn K cd_nse "System.new_set" = true)
    (knse : PySem.W.keepIn K (.ref f_nse) = true)
    (aetg : PySem.W.findIn K (.ref CS) "end_thing" = some (some (.ref f_etg)))
    (ietg : PySem.W.isFn K (.ref f_etg) = true)
    (letg : K.lookup f_etg = some ⟨oc_etg, od_etg, .func (PySem.W.fnOf "end_thing" "System.end_thing" (defArgs sEndThing) (defBody sEndThing) (defScope sEndThing) .none kV_etg dc_etg pm_etg an_etg cd_etg ct_etg), sl_etg⟩)
    (cetg : PySem.W.codeIn K cd_etg "System.end_thing" = true)
    (ketg : PySem.W.keepIn K (.ref f_etg) = true)
    (afre : PySem.W.findIn K (.ref CS) "free" = some (some (.ref f_fre)))
    (ifre : PySem.W.isFn K (.ref f_fre) = true)
    (lfre : K.lookup f_fre = some ⟨oc_fre, od_fre, .func (PySem.W.fnOf "free" "System.free" (defArgs sFree) (defBody sFree) (defScope sFree) .none kV_fre dc_fre pm_fre an_fre cd_fre ct_fre), sl_fre⟩)
    (cfre : PySem.W.codeIn K cd_fre "System.free" = true)
    (kfre : PySem.W.keepIn K (.ref f_fre) = true)
    (aclo : PySem.W.findIn K (.ref CS) "close" = some (some (.ref f_clo)))
    (iclo : PySem.W.isFn K (.ref f_clo) = true)
    (lclo : K.lookup f_clo = some ⟨oc_clo, od_clo, .func (PySem.W.fnOf "close" "System.close" (defArgs sClose) (defBody sClose) (defScope sClose) .none kV_clo dc_clo pm_clo an_clo cd_clo ct_clo), sl_clo⟩)
    (cclo : PySem.W.codeIn K cd_clo "System.close" = true)
    (kclo : PySem.W.keepIn K (.ref f_clo) = true)
    (acpy : PySem.W.findIn K (.ref CS) "copy" = some (some (.ref f_cpy)))
    (icpy : PySem.W.isFn K (.ref f_cpy) = true)
    (lcpy : K.lookup f_cpy = some ⟨oc_cpy, od_cpy, .func (PySem.W.fnOf "copy" "System.copy" (defArgs sCopy) (defBody sCopy) (defScope sCopy) (.ref T_cpy) kV_cpy dc_cpy pm_cpy an_cpy cd_cpy ct_cpy), sl_cpy⟩)
    (ccpy : PySem.W.codeIn K cd_cpy "System.copy" = true)
    (kcpy : PySem.W.keepIn K (.ref f_cpy) = true)
    (Lcpy : K.lookup T_cpy = some ⟨.type "tuple", dd_cpy, .seq #[.none] nd_cpy, sd_cpy⟩)
    (anum : PySem.W.findIn K (.ref CS) "numbers" = some (some (.ref f_num)))
    (inum : PySem.W.isFn K (.ref f_num) = true)
    (lnum : K.lookup f_num = some ⟨oc_num, od_num, .func (PySem.W.fnOf "numbers" "System.numbers" (defArgs sNumbers) (defBody sNumbers) (defScope sNumbers) .none kV_num dc_num pm_num an_num cd_num ct_num), sl_num⟩)
    (cnum : PySem.W.codeIn K cd_num "System.numbers" = true)
    (knum : PySem.W.keepIn K (.ref f_num) = true)
    (asam : PySem.W.findIn K (.ref CS) "same" = some (some (.ref f_sam)))
    (isam : PySem.W.isFn K (.ref f_sam) = true)
    (lsam : K.lookup f_sam = some ⟨oc_sam, od_sam, .func (PySem.W.fnOf "same" "System.same" (defArgs sSame) (defBody sSame) (defScope sSame) .none kV_sam dc_sam pm_sam an_sam cd_sam ct_sam), sl_sam⟩)
    (csam : PySem.W.codeIn K cd_sam "System.same" = true)
    (ksam : PySem.W.keepIn K (.ref f_sam) = true)
    (xtIOp : PySem.W.typeIn K (.ref f_xop) = some (.type "function"))
    (xtIFu : PySem.W.typeIn K (.ref f_xfu) = some (.type "function"))
    (xOpFu : PySem.W.exmOne K (.ref COp) (.ref CFu) = some false)
    (z_len : PySem.W.nsIn K mainGlobals "len" = some none)
    (z_enumerate : PySem.W.nsIn K mainGlobals "enumerate" = some none)
    (z_int : PySem.W.nsIn K mainGlobals "int" = some none)
    (z_abs : PySem.W.nsIn K mainGlobals "abs" = some none)
    (z_isinstance : PySem.W.nsIn K mainGlobals "isinstance" = some none)
    (z_bool : PySem.W.nsIn K mainGlobals "bool" = some none)
    (z_list : PySem.W.nsIn K mainGlobals "list" = some none)
    (z_min : PySem.W.nsIn K mainGlobals "min" = some none)
    (z_max : PySem.W.nsIn K mainGlobals "max" = some none)
    (z_range : PySem.W.nsIn K mainGlobals "range" = some none)
    (z_sorted : PySem.W.nsIn K mainGlobals "sorted" = some none)
    (z_repr : PySem.W.nsIn K mainGlobals "repr" = some none)
    (z_any : PySem.W.nsIn K mainGlobals "any" = some none)
    (z_LookupError : PySem.W.nsIn K mainGlobals "LookupError" = some none)
    (z_OverflowError : PySem.W.nsIn K mainGlobals "OverflowError" = some none)
    (gLP : PySem.W.nsIn K mainGlobals "LEAST_PROCESSES" = some (some (.int 2 tLP)))
    (gLN : PySem.W.nsIn K mainGlobals "LEAST_NUMBERS" = some (some (.int 3 tLN)))
    (gMP : PySem.W.findIn K (.ref CS) "MOST_PROCESSES" = some (some (.int 6 tMP)))
    (sMP : PySem.W.specialIn K (.int 6 tMP) "__get__" = some none)
    (gMN : PySem.W.findIn K (.ref CS) "MOST_NUMBERS" = some (some (.int 8 tMN)))
    (sMN : PySem.W.specialIn K (.int 8 tMN) "__get__" = some none)
    (xhddon : PySem.W.codeHdIn K c_don Pt = true)
    (xb3 : mainGlobals ≠ Pt) :
    ∃ fd : FuncData, (∀ (s : Shared) (u : Value), BindsTo s fd ⟨[u], []⟩ [("_law_script", u)]) ∧ (∀ base : Heap, K.In base → base.Ns mainGlobals mg → base.BuiltinsAt mg Pt → FnG P w K mg base CX0 10 fa fd ["_law_script"] (spLaw K Pt)) ∧
      ∀ (H : Hp) (a : Addr) (ns : List Int), ns.length ≤ 63 → SqL K H a (ns.map V.int) → H Pt = some (.tbl #[]) → spLaw K Pt [.ref a] H (fun v _ => v = .bl true) fun _ _ _ => False := by
  have e := hfa.symm.trans (PySem.W.mg_of X G alaw)
  cases e
  have Fint := fun_mk (st := sIsInteger) lint cint kint
  have bint := Fint.binds (ps := ["x"]) fun _ _ _ _ _ _ us hl => by
    obtain ⟨_, rfl⟩ := Ln1 hl
    rfl
  have mint := PySem.W.mg_of X G aint
  have Fbet := fun_mk (st := sIsBetween) lbet cbet kbet
  have bbet := Fbet.binds (ps := ["x", "least", "most"]) fun _ _ _ _ _ _ us hl => by
    obtain ⟨_, _, _, rfl⟩ := Ln3 hl
    rfl
  have mbet := PySem.W.mg_of X G abet
  have Fbag := fun_mk (st := sBag) lbag cbag kbag
  have bbag := Fbag.binds (ps := ["_law_script", "_law_at"]) fun _ _ _ _ _ _ us hl => by
    obtain ⟨_, _, rfl⟩ := Ln2 hl
    rfl
  have mbag := PySem.W.mg_of X G abag
  have Ftake := fun_mk (st := sTake) ltake ctake ktake
  have btake := Ftake.binds (ps := ["_law_bag_here", "_law_many"]) fun _ _ _ _ _ _ us hl => by
    obtain ⟨_, _, rfl⟩ := Ln2 hl
    rfl
  have mtake := PySem.W.mg_of X G atake
  have Fout := fun_mk (st := sOutcome) lout cout kout
  have bout := Fout.binds (ps := ["_law_deed"]) fun _ _ _ _ _ _ us hl => by
    obtain ⟨_, rfl⟩ := Ln1 hl
    rfl
  have mout := PySem.W.mg_of X G aout
  have Flow := fun_mk (st := sLowest) llow clow klow
  have blow := Flow.binds (ps := ["_law_table", "_law_size"]) fun _ _ _ _ _ _ us hl => by
    obtain ⟨_, _, rfl⟩ := Ln2 hl
    rfl
  have mlow := PySem.W.mg_of X G alow
  have Fpla := fun_mk (st := sPlaced) lpla cpla kpla
  have bpla := Fpla.binds (ps := ["_law_table", "_law_size", "_law_thing"]) fun _ _ _ _ _ _ us hl => by
    obtain ⟨_, _, _, rfl⟩ := Ln3 hl
    rfl
  have mpla := PySem.W.mg_of X G apla
  have Fdon := fun_mk (st := sDone) ldon cdon kdon
  have bdon := Fdon.binds (ps := ["_law_bag_here", "_law_box", "_law_table", "_law_size", "_law_turn"]) fun _ _ _ _ _ _ us hl => by
    obtain ⟨_, _, _, _, _, rfl⟩ := Ln5 hl
    rfl
  have mdon := PySem.W.mg_of X G adon
  have Fshw := fun_mk (st := sShows) lshw cshw kshw
  have bshw := Fshw.binds (ps := ["_law_box", "_law_table"]) fun _ _ _ _ _ _ us hl => by
    obtain ⟨_, _, rfl⟩ := Ln2 hl
    rfl
  have mshw := PySem.W.mg_of X G ashw
  have Flaw := fun_mk (st := sLaw) llaw claw klaw
  have blaw := Flaw.binds (ps := ["_law_script"]) fun _ _ _ _ _ _ us hl => by
    obtain ⟨_, rfl⟩ := Ln1 hl
    rfl
  have mlaw := PySem.W.mg_of X G alaw
  have Fxop := fun_mk (st := sOpenInit) lxop cxop kxop
  have bxop := Fxop.binds (ps := ["self", "number"]) fun _ _ _ _ _ _ us hl => by
    obtain ⟨_, _, rfl⟩ := Ln2 hl
    rfl
  have Fxfu := fun_mk (st := sFullInit) lxfu cxfu kxfu
  have bxfu := Fxfu.binds (ps := ["self", "process"]) fun _ _ _ _ _ _ us hl => by
    obtain ⟨_, _, rfl⟩ := Ln2 hl
    rfl
  have Fwi := fun_mk (st := sWsInit) lwi cwi kwi
  have bwi := Fwi.binds (ps := ["self"]) fun _ _ _ _ _ _ us hl => by
    obtain ⟨_, rfl⟩ := Ln1 hl
    rfl
  have Fdrs := fun_mk (st := sDropSource) ldrs cdrs kdrs
  have bdrs := Fdrs.binds (ps := ["self", "source"]) fun _ _ _ _ _ _ us hl => by
    obtain ⟨_, _, rfl⟩ := Ln2 hl
    rfl
  have Fsi : FunD K "__init__" "System.__init__" (defArgs sSysInit) (defBody sSysInit) (defScope sSysInit) ([] : List V) ([("processes", V.int 4), ("numbers", V.int 8)] : List (Str × V)) f_si (PySem.W.fnOf "__init__" "System.__init__" (defArgs sSysInit) (defBody sSysInit) (defScope sSysInit) .none (.ref D_si) dc_si pm_si an_si cd_si ct_si) := ⟨⟨_, _, .none, (.ref D_si), _, _, _, _, _, _, rfl, lsi, csi, .inl ⟨rfl, rfl⟩, .inr ⟨D_si, rfl, fun q hq => by
    simp only [List.mem_cons, List.not_mem_nil, or_false] at hq
    rcases hq with rfl | rfl
    · exact ⟨_, wsi0, _, rfl⟩
    · exact ⟨_, wsi1, _, rfl⟩⟩⟩, ksi⟩
  have Fcon := fun_mk (st := sContains) lcon ccon kcon
  have bcon := Fcon.binds (ps := ["self", "x"]) fun _ _ _ _ _ _ us hl => by
    obtain ⟨_, _, rfl⟩ := Ln2 hl
    rfl
  have Ftof := fun_mk (st := sTableOf) ltof ctof ktof
  have btof := Ftof.binds (ps := ["self", "process"]) fun _ _ _ _ _ _ us hl => by
    obtain ⟨_, _, rfl⟩ := Ln2 hl
    rfl
  have Fitn := fun_mk (st := sIsTabNum) litn citn kitn
  have bitn := Fitn.binds (ps := ["self", "number"]) fun _ _ _ _ _ _ us hl => by
    obtain ⟨_, _, rfl⟩ := Ln2 hl
    rfl
  have Ftha := fun_mk (st := sThingAt) ltha ctha ktha
  have btha := Ftha.binds (ps := ["self", "process", "number"]) fun _ _ _ _ _ _ us hl => by
    obtain ⟨_, _, _, rfl⟩ := Ln3 hl
    rfl
  have Ffrn := fun_mk (st := sFreeNum) lfrn cfrn kfrn
  have bfrn := Ffrn.binds (ps := ["self", "process"]) fun _ _ _ _ _ _ us hl => by
    obtain ⟨_, _, rfl⟩ := Ln2 hl
    rfl
  have Fnth := fun_mk (st := sNewThing) lnth cnth knth
  have bnth := Fnth.binds (ps := ["self", "process"]) fun _ _ _ _ _ _ us hl => by
    obtain ⟨_, _, rfl⟩ := Ln2 hl
    rfl
  have Fnso := fun_mk (st := sNewSource) lnso cnso knso
  have bnso := Fnso.binds (ps := ["self", "process"]) fun _ _ _ _ _ _ us hl => by
    obtain ⟨_, _, rfl⟩ := Ln2 hl
    rfl
  have Fnse := fun_mk (st := sNewSet) lnse cnse knse
  have bnse := Fnse.binds (ps := ["self", "process"]) fun _ _ _ _ _ _ us hl => by
    obtain ⟨_, _, rfl⟩ := Ln2 hl
    rfl
  have Fetg := fun_mk (st := sEndThing) letg cetg ketg
  have betg := Fetg.binds (ps := ["self", "thing"]) fun _ _ _ _ _ _ us hl => by
    obtain ⟨_, _, rfl⟩ := Ln2 hl
    rfl
  have Ffre := fun_mk (st := sFree) lfre cfre kfre
  have bfre := Ffre.binds (ps := ["self", "process", "number"]) fun _ _ _ _ _ _ us hl => by
    obtain ⟨_, _, _, rfl⟩ := Ln3 hl
    rfl
  have Fclo := fun_mk (st := sClose) lclo cclo kclo
  have bclo := Fclo.binds (ps := ["self", "process", "number"]) fun _ _ _ _ _ _ us hl => by
    obtain ⟨_, _, _, rfl⟩ := Ln3 hl
    rfl
  have Fcpy : FunD K "copy" "System.copy" (defArgs sCopy) (defBody sCopy) (defScope sCopy) ([V.non] : List V) ([] : List (Str × V)) f_cpy (PySem.W.fnOf "copy" "System.copy" (defArgs sCopy) (defBody sCopy) (defScope sCopy) (.ref T_cpy) kV_cpy dc_cpy pm_cpy an_cpy cd_cpy ct_cpy) := ⟨⟨_, _, (.ref T_cpy), kV_cpy, _, _, _, _, _, _, rfl, lcpy, ccpy, .inr ⟨(by intro z; cases z), T_cpy, _, [.none], nd_cpy, rfl, Lcpy, rfl, (.cons rfl .nil)⟩, .inl rfl⟩, kcpy⟩
  obtain ⟨dscpy, vcpy, bcpy⟩ := Fcpy.binds1 (ps := ["self", "process", "number", "to"]) 3 0 (by intro z; cases z) rfl fun _ _ _ _ _ _ _ us its hu hi => by
    obtain ⟨_, _, _, rfl⟩ := Ln3 hu
    obtain ⟨_, rfl⟩ := Ln1 hi
    exact ⟨_, rfl, rfl⟩
  have Bcpy : Binds K (PySem.W.fnOf "copy" "System.copy" (defArgs sCopy) (defBody sCopy) (defScope sCopy) (.ref T_cpy) kV_cpy dc_cpy pm_cpy an_cpy cd_cpy ct_cpy) (["self", "process", "number", "to"] : List Str) [] := by
    obtain ⟨ds, v, b⟩ := Fcpy.binds1 (ps := ["self", "process", "number", "to"]) 4 1 (by intro z; cases z) rfl fun _ _ _ _ _ _ _ us its hu hi => by
      obtain ⟨_, _, _, _, rfl⟩ := Ln4 hu
      obtain ⟨_, rfl⟩ := Ln1 hi
      exact ⟨_, rfl, rfl⟩
    cases v
    exact b
  have Fnum := fun_mk (st := sNumbers) lnum cnum knum
  have bnum := Fnum.binds (ps := ["self", "process"]) fun _ _ _ _ _ _ us hl => by
    obtain ⟨_, _, rfl⟩ := Ln2 hl
    rfl
  have Fsam := fun_mk (st := sSame) lsam csam ksam
  have bsam := Fsam.binds (ps := ["self", "process", "number", "other", "other_number"]) fun _ _ _ _ _ _ us hl => by
    obtain ⟨_, _, _, _, _, rfl⟩ := Ln5 hl
    rfl
  have wnse : KBn K (PySem.W.fnOf "new_set" "System.new_set" (defArgs sNewSet) (defBody sNewSet) (defScope sNewSet) .none kV_nse dc_nse pm_nse an_nse cd_nse ct_nse) ["self", "process"] 1 ["process"] (fun us ws => us ++ ws) (fun vs zs => vs ++ zs) := ⟨fun s us ws _ hu hw => by
    obtain ⟨_, rfl⟩ := Ln1 hu
    obtain ⟨_, rfl⟩ := Ln1 hw
    exact .of_eq rfl, fun a b => a.append b⟩
  have wclo : KBn K (PySem.W.fnOf "close" "System.close" (defArgs sClose) (defBody sClose) (defScope sClose) .none kV_clo dc_clo pm_clo an_clo cd_clo ct_clo) ["self", "process", "number"] 1 ["process", "number"] (fun us ws => us ++ ws) (fun vs zs => vs ++ zs) := ⟨fun s us ws _ hu hw => by
    obtain ⟨_, rfl⟩ := Ln1 hu
    obtain ⟨_, _, rfl⟩ := Ln2 hw
    exact .of_eq rfl, fun a b => a.append b⟩
  obtain ⟨mvkbsi, kbsi⟩ := Fsi.kbinds0 (ps := ["self", "processes", "numbers"]) 1 ["numbers"] [("processes", V.int 4)] (fun us mv ws => us ++ mv ++ ws) (by intro z; cases z) (fun q hq => by
    simp only [List.mem_cons, List.not_mem_nil, or_false] at hq
    rcases hq with rfl
    · simp) (fun a b c => (a.append b).append c) fun _ _ _ _ _ _ us mv ws hu hm hw => by
    obtain ⟨_, rfl⟩ := Ln1 hu
    obtain ⟨_, rfl⟩ := Ln1 hm
    obtain ⟨_, rfl⟩ := Ln1 hw
    exact ⟨_, _, _, _, _, _, rfl, rfl, rfl⟩
  have DT : DrawTxt mg := ⟨(PySem.W.mg_none_of X G z_len), (PySem.W.mg_none_of X G z_enumerate), (PySem.W.mg_none_of X G z_int), (PySem.W.mg_none_of X G z_abs)⟩
  have CT : ChkTxt K mg := ⟨(PySem.W.mg_none_of X G z_isinstance), (PySem.W.mg_none_of X G z_int), (PySem.W.mg_none_of X G z_bool)⟩
  have YT : SysTxt mg := ⟨(PySem.W.mg_none_of X G z_enumerate), (PySem.W.mg_none_of X G z_list), (PySem.W.mg_none_of X G z_min)⟩
  have LX : LawTx mg := ⟨(PySem.W.mg_none_of X G z_range), (PySem.W.mg_none_of X G z_max), (PySem.W.mg_none_of X G z_min), (PySem.W.mg_none_of X G z_len), (PySem.W.mg_none_of X G z_sorted), (PySem.W.mg_none_of X G z_repr)⟩
  have TS : ClsF K CS sysF := ⟨⟨pgS, hdS, poS, saS⟩, fun f hf => by
    simp only [sysF, List.mem_cons, List.not_mem_nil, or_false] at hf
    rcases hf with rfl | rfl | rfl | rfl | rfl | rfl
    · exact noS0
    · exact noS1
    · exact noS2
    · exact noS3
    · exact noS4
    · exact noS5⟩
  have TW : ClsF K CW wsF := ⟨⟨pgW, hdW, poW, saW⟩, fun f hf => by
    simp only [wsF, List.mem_cons, List.not_mem_nil, or_false] at hf
    rcases hf with rfl | rfl
    · exact noW0
    · exact noW1⟩
  have LT : LimTxt K mg CS := ⟨⟨tLP, PySem.W.mg_of X G gLP⟩, ⟨tLN, PySem.W.mg_of X G gLN⟩, ⟨_, gMP, ⟨_, rfl⟩, sMP, by decide⟩, ⟨_, gMN, ⟨_, rfl⟩, sMN, by decide⟩⟩
  have KS : Mk K CS f_si := ⟨mkS, asi, isi, kcS⟩
  have gmS := PySem.W.mg_of X G gCS
  have KW : Mk K CW f_wi := ⟨mkW, awi, iwi, kcW⟩
  have gmW := PySem.W.mg_of X G gCW
  have TO : OpenE K mg COp f_xop _ := { gC := PySem.W.mg_of X G gCOp, ox := ⟨⟨nmOp, qOp, NOp, bsOp, snOp, subOp, abOp, colOp, ddOp, maOp, mbOp, mcOp, mdOp, meOp, xLOp⟩, xsaOp, xeCOp, xtCOp, xkCOp⟩, noN := xnbOp0, iC := axop, tI := xtIOp, bI := bxop, te := xteOp, xf := ⟨xgaOp, xggOp, xeCOp, xhCOp⟩ }
  have TF : FullE K mg CFu f_xfu _ := { gC := PySem.W.mg_of X G gCFu, ox := ⟨⟨nmFu, qFu, NFu, bsFu, snFu, subFu, abFu, colFu, ddFu, maFu, mbFu, mcFu, mdFu, meFu, xLFu⟩, xsaFu, xeCFu, xtCFu, xkCFu⟩, noN := xnbFu0, iC := axfu, tI := xtIFu, bI := bxfu, te := xteFu, xf := ⟨xgaFu, xggFu, xeCFu, xhCFu⟩ }
  have R : OutTxt K mg CFu f_xfu _ COp f_xop _ f_out _ := ⟨Fout, mout, bout, TF, TO, (PySem.W.mg_none_of X G z_OverflowError), (PySem.W.mg_none_of X G z_LookupError), (PySem.W.mg_none_of X G z_isinstance), ⟨xgaFu, xggFu, xeCFu, xhCFu, xC1Fu, xC2, xC3, xC4Fu⟩, xC5Fu, xkvFu, ⟨xgaOp, xggOp, xeCOp, xhCOp, xC1Op, xC2, xC3, xC4Op⟩, xC5Op, xkvOp, xOpFu⟩
  refine ⟨PySem.W.fnOf "law" "law" (defArgs sLaw) (defBody sLaw) (defScope sLaw) .none kV_law dc_law pm_law an_law cd_law ct_law, fun s u => .of_eq rfl, fun base KB _ BM => ?_, fun H a ns hl hS hP => ⟨a, ns, rfl, hS, hl, hP, fun _ => rfl⟩⟩
  have TB : LamX.TabB base mg c_don Pt := ⟨PySem.W.codeHd_of_K KB xhddon, BM, xb3⟩
  have Gint := okIsInteger (P := P) (w := w) (K := K) (mg := mg) (base := base) Fint CT
  have Gbet := okIsBetween (P := P) (w := w) (K := K) (mg := mg) (base := base) Fbet Gint kint mint bint
  have Gbag := okBag (P := P) (w := w) (K := K) (mg := mg) (base := base) Fbag DT
  have Gtake := okTake (P := P) (w := w) (K := K) (mg := mg) (base := base) Ftake DT
  have Gxop := okOpenInit (P := P) (w := w) (K := K) (mg := mg) (base := base) Fxop (PySem.W.mg_none_of X G z_LookupError) xvVOp TO
  have Gxfu := okFullInit (P := P) (w := w) (K := K) (mg := mg) (base := base) Fxfu (PySem.W.mg_none_of X G z_OverflowError) xvVFu TF
  have Glow := okLowest (P := P) (w := w) (K := K) (mg := mg) (base := base) Flow LX
  have Gpla := okPlaced (P := P) (w := w) (K := K) (mg := mg) (base := base) Fpla ⟨Glow, klow, mlow, blow⟩
  have Gwi := okWsInit (P := P) (w := w) (K := K) (mg := mg) (base := base) Fwi TW
  have Gdrs := okDropSource (P := P) (w := w) (K := K) (mg := mg) (base := base) Fdrs TW
  have Gsi := okSysInit (P := P) (w := w) (K := K) (mg := mg) (base := base) (C := ⟨CS, CW⟩) Fsi TS LT ⟨Gbet, kbet, mbet, bbet⟩
  have Gcon := okContains (P := P) (w := w) (K := K) (mg := mg) (base := base) (C := ⟨CS, CW⟩) Fcon TS ⟨Gint, kint, mint, bint⟩
  have Gtof := okTableOf (P := P) (w := w) (K := K) (mg := mg) (base := base) (C := ⟨CS, CW⟩) Ftof TS ⟨Gcon, ⟨acon, icon, kcon⟩, bcon⟩
  have Gitn := okIsTabNum (P := P) (w := w) (K := K) (mg := mg) (base := base) (C := ⟨CS, CW⟩) Fitn TS ⟨Gbet, kbet, mbet, bbet⟩
  have Gtha := okThingAt (P := P) (w := w) (K := K) (mg := mg) (base := base) (C := ⟨CS, CW⟩) Ftha TS TO Gxop ⟨Gtof, ⟨atof, itof, ktof⟩, btof⟩ ⟨Gitn, ⟨aitn, iitn, kitn⟩, bitn⟩
  have Gfrn := okFreeNum (P := P) (w := w) (K := K) (mg := mg) (base := base) (C := ⟨CS, CW⟩) Ffrn YT TS TF Gxfu ⟨Gtof, ⟨atof, itof, ktof⟩, btof⟩
  have Gnth := okNewThing (P := P) (w := w) (K := K) (mg := mg) (base := base) (C := ⟨CS, CW⟩) Fnth TS ⟨Gfrn, ⟨afrn, ifrn, kfrn⟩, bfrn⟩
  have Gnso := okNewSource (P := P) (w := w) (K := K) (mg := mg) (base := base) (C := ⟨CS, CW⟩) Fnso TS ⟨Gnth, ⟨anth, inth, knth⟩, bnth⟩
  have Gnse := okNewSet (P := P) (w := w) (K := K) (mg := mg) (base := base) (C := ⟨CS, CW⟩) Fnse TS ⟨Gnth, ⟨anth, inth, knth⟩, bnth⟩ gmW KW Gwi bwi
  have Getg := okEndThing (P := P) (w := w) (K := K) (mg := mg) (base := base) (C := ⟨CS, CW⟩) Fetg TS TW.cl ⟨Gdrs, ⟨adrs, idrs, kdrs⟩, bdrs⟩
  have Gfre := okFree (P := P) (w := w) (K := K) (mg := mg) (base := base) (C := ⟨CS, CW⟩) Ffre (PySem.W.mg_none_of X G z_any) TS ⟨Getg, ⟨aetg, ietg, ketg⟩, betg⟩
  have Gclo := okClose (P := P) (w := w) (K := K) (mg := mg) (base := base) (C := ⟨CS, CW⟩) Fclo TS ⟨Gtha, ⟨atha, itha, ktha⟩, btha⟩ ⟨Gfre, ⟨afre, ifre, kfre⟩, bfre⟩
  have Gcpy := okCopy (P := P) (w := w) (K := K) (mg := mg) (base := base) (C := ⟨CS, CW⟩) Fcpy TS ⟨Gtha, ⟨atha, itha, ktha⟩, btha⟩ ⟨Gitn, ⟨aitn, iitn, kitn⟩, bitn⟩ ⟨Gfrn, ⟨afrn, ifrn, kfrn⟩, bfrn⟩
  have Gnum := okNumbers (P := P) (w := w) (K := K) (mg := mg) (base := base) (C := ⟨CS, CW⟩) Fnum YT TS ⟨Gtof, ⟨atof, itof, ktof⟩, btof⟩
  have Gsam := okSame (P := P) (w := w) (K := K) (mg := mg) (base := base) (C := ⟨CS, CW⟩) Fsam TS ⟨Gtha, ⟨atha, itha, ktha⟩, btha⟩
  have Gdon := okDone (P := P) (w := w) (K := K) (mg := mg) (base := base) (C := ⟨CS, CW⟩) Fdon rfl TS R TB ⟨Gtake, ktake, mtake, btake⟩ ⟨Gpla, kpla, mpla, bpla⟩ ⟨Gnso, ⟨anso, inso, knso⟩, bnso⟩ Gnse ⟨anse, inse, knse⟩ wnse Gcpy ⟨acpy, icpy, kcpy⟩ bcpy vcpy ⟨Gclo, ⟨aclo, iclo, kclo⟩, bclo⟩ wclo
  have Gshw := okShows (T0 := [(Pt, qDone)]) (P := P) (w := w) (K := K) (mg := mg) (base := base) (C := ⟨CS, CW⟩) Fshw LX TS ⟨Gnum, ⟨anum, inum, knum⟩, bnum⟩ ⟨Gsam, ⟨asam, isam, ksam⟩, bsam⟩
  exact okLaw (C := ⟨CS, CW⟩) Flaw LX TS ⟨Gbag, kbag, mbag, bbag⟩ ⟨Gtake, ktake, mtake, btake⟩ ⟨Gdon, kdon, mdon, bdon⟩ Gshw mshw kshw bshw gmS KS Gsi kbsi

end Wn
open PySem PySem.W PyProof.Rows in
set_option maxRecDepth 100000 in
set_option maxHeartbeats 0 in
theorem PySem.Challenge.cw_waitnumbers_k01_lowest_free_numbers_holds : PySem.Challenge.rw_waitnumbers_k01_lowest_free_numbers.Holds := by
  w_on; o_law; k_head; (case hw => w_witness2)
  k_fill
  refine Wn.walkT (l := PySem.Challenge.rw_waitnumbers_k01_lowest_free_numbers) (n := 63) (k := 10) (x := "_law_script") (Pt := 673) (sp := fun K _ => Wn.spLaw K 673) rfl (by decide) rfl ⟨rfl, by decide, by decide⟩ (fun w h Y => PySem.W.km_in_of Y) (fun w h Y => PySem.W.km_tabs_of Y 673 (List.mem_singleton.mpr rfl)) ?nT ?tT ?F
  case F =>
    intro w mg fa h KX G hmg
    refine' Wn.all_mk (w := w) KX G hmg ?gCS ?pgS ?hdS ?poS ?saS ?mkS ?kcS ?noS0 ?noS1 ?noS2 ?noS3 ?noS4 ?noS5 ?gCW ?pgW ?hdW ?poW ?saW ?mkW ?kcW ?noW0 ?noW1 ?gCOp ?xLOp ?xsaOp ?xgaOp ?xggOp ?xnbOp0 ?xvVOp ?xkCOp ?xeCOp ?xtCOp ?xhCOp ?xteOp ?xC1Op ?xC4Op ?xC5Op ?xkvOp ?xC2 ?xC3 ?gCFu ?xLFu ?xsaFu ?xgaFu ?xggFu ?xnbFu0 ?xvVFu ?xkCFu ?xeCFu ?xtCFu ?xhCFu ?xteFu ?xC1Fu ?xC4Fu ?xC5Fu ?xkvFu ?aint ?lint ?cint ?kint ?abet ?lbet ?cbet ?kbet ?abag ?lbag ?cbag ?kbag ?atake ?ltake ?ctake ?ktake ?aout ?lout ?cout ?kout ?alow ?llow ?clow ?klow ?apla ?lpla ?cpla ?kpla ?adon ?ldon ?cdon ?kdon ?ashw ?lshw ?cshw ?kshw ?alaw ?llaw ?claw ?klaw ?axop ?ixop ?lxop ?cxop ?kxop ?axfu ?ixfu ?lxfu ?cxfu ?kxfu ?awi ?iwi ?lwi ?cwi ?kwi ?adrs ?idrs ?ldrs ?cdrs ?kdrs ?asi ?isi ?lsi ?csi ?ksi ?wsi0 ?wsi1 ?acon ?icon ?lcon ?ccon ?kcon ?atof ?itof ?ltof ?ctof ?ktof ?aitn ?iitn ?litn ?citn ?kitn ?atha ?itha ?ltha ?ctha ?ktha ?afrn ?ifrn ?lfrn ?cfrn ?kfrn ?anth ?inth ?lnth ?cnth ?knth ?anso ?inso ?lnso ?cnso ?knso ?anse ?inse ?lnse ?cnse ?knse ?aetg ?ietg ?letg ?cetg ?ketg ?afre ?ifre ?lfre ?cfre ?kfre ?aclo ?iclo ?lclo ?cclo ?kclo ?acpy ?icpy ?lcpy ?ccpy ?kcpy ?Lcpy ?anum ?inum ?lnum ?cnum ?knum ?asam ?isam ?lsam ?csam ?ksam ?xtIOp ?xtIFu ?xOpFu ?z_len ?z_enumerate ?z_int ?z_abs ?z_isinstance ?z_bool ?z_list ?z_min ?z_max ?z_range ?z_sorted ?z_repr ?z_any ?z_LookupError ?z_OverflowError ?gLP ?gLN ?gMP ?sMP ?gMN ?sMN ?xhddon ?xb3
    (case gCS => first | k_is | rfl)
    (case pgS => first | k_is | rfl)
    (case hdS => first | k_is | rfl)
    (case poS => first | k_is | rfl)
    (case saS => first | k_is | rfl)
    (case mkS => first | k_is | rfl)
    (case kcS => first | k_is | rfl)
    (case noS0 => first | k_is | rfl)
    (case noS1 => first | k_is | rfl)
    (case noS2 => first | k_is | rfl)
    (case noS3 => first | k_is | rfl)
    (case noS4 => first | k_is | rfl)
    (case noS5 => first | k_is | rfl)
    (case gCW => first | k_is | rfl)
    (case pgW => first | k_is | rfl)
    (case hdW => first | k_is | rfl)
    (case poW => first | k_is | rfl)
    (case saW => first | k_is | rfl)
    (case mkW => first | k_is | rfl)
    (case kcW => first | k_is | rfl)
    (case noW0 => first | k_is | rfl)
    (case noW1 => first | k_is | rfl)
    (case gCOp => first | k_is | rfl)
    (case xLOp => first | k_is | rfl)
    (case xsaOp => first | k_is | rfl)
    (case xgaOp => first | k_is | rfl)
    (case xggOp => first | k_is | rfl)
    (case xnbOp0 => first | k_is | rfl)
    (case xvVOp => first | k_is | rfl)
    (case xkCOp => first | k_is | rfl)
    (case xeCOp => first | k_is | rfl)
    (case xtCOp => first | k_is | rfl)
    (case xhCOp => first | k_is | rfl)
    (case xteOp => first | k_is | rfl)
    (case xC1Op => first | k_is | rfl)
    (case xC4Op => first | k_is | rfl)
    (case xC5Op => first | k_is | rfl)
    (case xkvOp => first | k_is | rfl)
    (case xC2 => first | k_is | rfl)
    (case xC3 => first | k_is | rfl)
    (case gCFu => first | k_is | rfl)
    (case xLFu => first | k_is | rfl)
    (case xsaFu => first | k_is | rfl)
    (case xgaFu => first | k_is | rfl)
    (case xggFu => first | k_is | rfl)
    (case xnbFu0 => first | k_is | rfl)
    (case xvVFu => first | k_is | rfl)
    (case xkCFu => first | k_is | rfl)
    (case xeCFu => first | k_is | rfl)
    (case xtCFu => first | k_is | rfl)
    (case xhCFu => first | k_is | rfl)
    (case xteFu => first | k_is | rfl)
    (case xC1Fu => first | k_is | rfl)
    (case xC4Fu => first | k_is | rfl)
    (case xC5Fu => first | k_is | rfl)
    (case xkvFu => first | k_is | rfl)
    (case aint => first | k_is | rfl)
    (case lint => first | k_is | rfl)
    (case cint => first | k_is | rfl)
    (case kint => first | k_is | rfl)
    (case abet => first | k_is | rfl)
    (case lbet => first | k_is | rfl)
    (case cbet => first | k_is | rfl)
    (case kbet => first | k_is | rfl)
    (case abag => first | k_is | rfl)
    (case lbag => first | k_is | rfl)
    (case cbag => first | k_is | rfl)
    (case kbag => first | k_is | rfl)
    (case atake => first | k_is | rfl)
    (case ltake => first | k_is | rfl)
    (case ctake => first | k_is | rfl)
    (case ktake => first | k_is | rfl)
    (case aout => first | k_is | rfl)
    (case lout => first | k_is | rfl)
    (case cout => first | k_is | rfl)
    (case kout => first | k_is | rfl)
    (case alow => first | k_is | rfl)
    (case llow => first | k_is | rfl)
    (case clow => first | k_is | rfl)
    (case klow => first | k_is | rfl)
    (case apla => first | k_is | rfl)
    (case lpla => first | k_is | rfl)
    (case cpla => first | k_is | rfl)
    (case kpla => first | k_is | rfl)
    (case adon => first | k_is | rfl)
    (case ldon => first | k_is | rfl)
    (case cdon => first | k_is | rfl)
    (case kdon => first | k_is | rfl)
    (case ashw => first | k_is | rfl)
    (case lshw => first | k_is | rfl)
    (case cshw => first | k_is | rfl)
    (case kshw => first | k_is | rfl)
    (case alaw => first | k_is | rfl)
    (case llaw => first | k_is | rfl)
    (case claw => first | k_is | rfl)
    (case klaw => first | k_is | rfl)
    (case axop => first | k_is | rfl)
    (case ixop => first | k_is | rfl)
    (case lxop => first | k_is | rfl)
    (case cxop => first | k_is | rfl)
    (case kxop => first | k_is | rfl)
    (case axfu => first | k_is | rfl)
    (case ixfu => first | k_is | rfl)
    (case lxfu => first | k_is | rfl)
    (case cxfu => first | k_is | rfl)
    (case kxfu => first | k_is | rfl)
    (case awi => first | k_is | rfl)
    (case iwi => first | k_is | rfl)
    (case lwi => first | k_is | rfl)
    (case cwi => first | k_is | rfl)
    (case kwi => first | k_is | rfl)
    (case adrs => first | k_is | rfl)
    (case idrs => first | k_is | rfl)
    (case ldrs => first | k_is | rfl)
    (case cdrs => first | k_is | rfl)
    (case kdrs => first | k_is | rfl)
    (case asi => first | k_is | rfl)
    (case isi => first | k_is | rfl)
    (case lsi => first | k_is | rfl)
    (case csi => first | k_is | rfl)
    (case ksi => first | k_is | rfl)
    (case wsi0 => first | k_is | rfl)
    (case wsi1 => first | k_is | rfl)
    (case acon => first | k_is | rfl)
    (case icon => first | k_is | rfl)
    (case lcon => first | k_is | rfl)
    (case ccon => first | k_is | rfl)
    (case kcon => first | k_is | rfl)
    (case atof => first | k_is | rfl)
    (case itof => first | k_is | rfl)
    (case ltof => first | k_is | rfl)
    (case ctof => first | k_is | rfl)
    (case ktof => first | k_is | rfl)
    (case aitn => first | k_is | rfl)
    (case iitn => first | k_is | rfl)
    (case litn => first | k_is | rfl)
    (case citn => first | k_is | rfl)
    (case kitn => first | k_is | rfl)
    (case atha => first | k_is | rfl)
    (case itha => first | k_is | rfl)
    (case ltha => first | k_is | rfl)
    (case ctha => first | k_is | rfl)
    (case ktha => first | k_is | rfl)
    (case afrn => first | k_is | rfl)
    (case ifrn => first | k_is | rfl)
    (case lfrn => first | k_is | rfl)
    (case cfrn => first | k_is | rfl)
    (case kfrn => first | k_is | rfl)
    (case anth => first | k_is | rfl)
    (case inth => first | k_is | rfl)
    (case lnth => first | k_is | rfl)
    (case cnth => first | k_is | rfl)
    (case knth => first | k_is | rfl)
    (case anso => first | k_is | rfl)
    (case inso => first | k_is | rfl)
    (case lnso => first | k_is | rfl)
    (case cnso => first | k_is | rfl)
    (case knso => first | k_is | rfl)
    (case anse => first | k_is | rfl)
    (case inse => first | k_is | rfl)
    (case lnse => first | k_is | rfl)
    (case cnse => first | k_is | rfl)
    (case knse => first | k_is | rfl)
    (case aetg => first | k_is | rfl)
    (case ietg => first | k_is | rfl)
    (case letg => first | k_is | rfl)
    (case cetg => first | k_is | rfl)
    (case ketg => first | k_is | rfl)
    (case afre => first | k_is | rfl)
    (case ifre => first | k_is | rfl)
    (case lfre => first | k_is | rfl)
    (case cfre => first | k_is | rfl)
    (case kfre => first | k_is | rfl)
    (case aclo => first | k_is | rfl)
    (case iclo => first | k_is | rfl)
    (case lclo => first | k_is | rfl)
    (case cclo => first | k_is | rfl)
    (case kclo => first | k_is | rfl)
    (case acpy => first | k_is | rfl)
    (case icpy => first | k_is | rfl)
    (case lcpy => first | k_is | rfl)
    (case ccpy => first | k_is | rfl)
    (case kcpy => first | k_is | rfl)
    (case Lcpy => first | k_is | rfl)
    (case anum => first | k_is | rfl)
    (case inum => first | k_is | rfl)
    (case lnum => first | k_is | rfl)
    (case cnum => first | k_is | rfl)
    (case knum => first | k_is | rfl)
    (case asam => first | k_is | rfl)
    (case isam => first | k_is | rfl)
    (case lsam => first | k_is | rfl)
    (case csam => first | k_is | rfl)
    (case ksam => first | k_is | rfl)
    (case xtIOp => first | k_is | rfl)
    (case xtIFu => first | k_is | rfl)
    (case xOpFu => first | k_is | rfl)
    (case z_len => first | k_is | rfl)
    (case z_enumerate => first | k_is | rfl)
    (case z_int => first | k_is | rfl)
    (case z_abs => first | k_is | rfl)
    (case z_isinstance => first | k_is | rfl)
    (case z_bool => first | k_is | rfl)
    (case z_list => first | k_is | rfl)
    (case z_min => first | k_is | rfl)
    (case z_max => first | k_is | rfl)
    (case z_range => first | k_is | rfl)
    (case z_sorted => first | k_is | rfl)
    (case z_repr => first | k_is | rfl)
    (case z_any => first | k_is | rfl)
    (case z_LookupError => first | k_is | rfl)
    (case z_OverflowError => first | k_is | rfl)
    (case gLP => first | k_is | rfl)
    (case gLN => first | k_is | rfl)
    (case gMP => first | k_is | rfl)
    (case sMP => first | k_is | rfl)
    (case gMN => first | k_is | rfl)
    (case sMN => first | k_is | rfl)
    (case xhddon => first | k_is | rfl)
    (case xb3 => decide)
  case nT => exact fun w => rfl
  case tT => exact fun w h KX => Wn.isct KX (c := 677) (by first | k_is | rfl)

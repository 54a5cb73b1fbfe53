import PyProof.Rows.All
import Wide.All
import OpenK.AllK
import Wide.FinOn
import HandS.ForMost
import HandS.Wide
import HandS.Evl
import HandS.Walk
import HandS.NoneIn
import HandS.IsInst
import HandS.More
import HandS.Defaults
import HandS.MakeKwOnly
import HandS.Conv
import HandS.Style
import HandS.OwnEq
import HandS.ExcIs
import HandS.FStrTup
import HandS.RaiseMore
import HandS.Lambda
import HandS.EndTab
import HandS.TryMany
import HandS.Flow
import HandS.Sort
import PyProof.ReprLen
import PyProof.FitsInt
import HandS.FStr
import PyProof.ReprHeads
import HandS.ExcInit
import HandS.ExcField
import HandS.ExcOwn
import KE.KExcInit
import KE.KExcIs
import HandS.WordsExc
import HandS.DictComp
import HandS.Small
import PySem.Challenge.RW_waitnumbers_k02_copies_onto_numbers
set_option Elab.async false
set_option linter.all false
set_option maxRecDepth 100000
set_option maxHeartbeats 4000000
namespace Wn
open PySem PySem.Spec PyProof.Rows L2 Evl
def top (i : Nat) : Stmt := PySem.Challenge.pw_waitnumbers_k02_copies_onto_numbers.main.body.getD i (.Pass ⟨0, 0, 0, 0⟩)
abbrev sBag : Stmt := top 20
abbrev sTake : Stmt := top 21
abbrev sOf : Stmt := top 22
/-! readings with names -/
def rInt1 : List V → Hp → VK → Prop := fun xs H Q => (∃ i, xs = [.int i] ∧ Q (.int i) H) ∨ ∃ k, xs = [.bl k] ∧ Q (.int (if k = true then 1 else 0)) H
def rAbs : List V → Hp → VK → Prop := fun xs H Q => ∃ i, xs = [.int i] ∧ Q (.int (if i < 0 then -i else i)) H
theorem cInt1 {X : Cx} : CallR X (.type "int") rInt1 := call_int1
theorem cAbs {X : Cx} : CallR X (.builtin "abs") rAbs := call_abs
def rIsN : R2 := fun x y H Q => y = .non ∧ Q (.bl (decide (x = .non))) H
def rNotN : R2 := fun x y H Q => y = .non ∧ Q (.bl (!decide (x = .non))) H
def rAddS : R2 := fun x y H Q => ∃ i j, x = .str i ∧ y = .str j ∧ i.length + j.length ≤ sizeLine ∧ Q (.str (i ++ j)) H
def rLenQ (K : PySem.W.Frag) : List V → Hp → VK → Prop := fun xs H Q => ∃ p ys, xs = [.ref p] ∧ (SqL K H p ys ∨ SqT K H p ys) ∧ Q (.int ys.length) H
def rLenS : List V → Hp → VK → Prop := fun xs H Q => ∃ z, xs = [.str z] ∧ z.length ≤ sizeLine ∧ Q (.int z.length) H
def rMax2 : List V → Hp → VK → Prop := fun xs H Q => ∃ i j, xs = [.int i, .int j] ∧ Q (.int (if j > i then j else i)) H
def rMin2 : List V → Hp → VK → Prop := fun xs H Q => ∃ i j, xs = [.int i, .int j] ∧ Q (.int (if j < i then j else i)) H
theorem oIsN {X : Cx} : OpR X (compareOp .Is) rIsN := op_isN
theorem oNotN {X : Cx} : OpR X (compareOp .IsNot) rNotN := op_notN
theorem oAddS {X : Cx} : OpR X (binaryOp .Add) rAddS := op_add_str
theorem cLenQ {X : Cx} : CallR X (.builtin "len") (rLenQ X.K) := call_len_seq
theorem cLenS {X : Cx} : CallR X (.builtin "len") rLenS := call_len_str
theorem cMax2 {X : Cx} (hc : X.calm = true) : CallR X (.builtin "max") rMax2 := call_max2 hc
theorem cMin2 {X : Cx} (hc : X.calm = true) : CallR X (.builtin "min") rMin2 := call_min2 hc
/-! one step of a reading -/
section
variable {σ : L2.St} {H : Hp} {Q : VK} {ta tb te : TE} {tl : TA} {t u : TS} {D : Ends} {c : TT} {r : R2} {v : V} {i : Nat}
theorem g_var (h : σ[i]? = some (some v)) (q : Q v H) : tVar i σ H Q := ⟨v, h, q⟩
theorem g_c (q : Q v H) : tC v σ H Q := q
theorem g_op (q : ta σ H fun x H1 => tb σ H1 fun y H2 => r x y H2 Q) : tOp r ta tb σ H Q := q
theorem g_un {r : V → Hp → VK → Prop} (q : ta σ H fun x H1 => r x H1 Q) : tUn r ta σ H Q := q
theorem g_rI0 {g : Int → Int → V} {a b : Int} (q : Q (g a b) H) : rI0 g (.int a) (.int b) H Q := ⟨a, b, rfl, rfl, q⟩
theorem g_rI {C : Int → Int → Prop} {g : Int → Int → V} {a b : Int} (hc : C a b) (q : Q (g a b) H) : rI C g (.int a) (.int b) H Q := ⟨a, b, rfl, rfl, hc, q⟩
theorem g_mul {a b : Int} (h : (-(2 ^ 64) < a ∧ a < 2 ^ 64) ∨ (-(2 ^ 64) < b ∧ b < 2 ^ 64)) (q : Q (.int (a * b)) H) : rI CMul (fun i j => .int (i * j)) (.int a) (.int b) H Q := ⟨a, b, rfl, rfl, h, q⟩
theorem g_mod {a b : Int} (h : 0 < b) (q : Q (.int (a % b)) H) : rI (fun _ j => 0 < j) (fun i j => .int (i % j)) (.int a) (.int b) H Q := ⟨a, b, rfl, rfl, h, q⟩
theorem g_rEq {x y : V} (h : scal x y = true) (q : Q (.bl (decide (x = y))) H) : rEq x y H Q := ⟨h, q⟩
theorem g_rNe {x y : V} (h : scal x y = true) (q : Q (.bl (!decide (x = y))) H) : rNe x y H Q := ⟨h, q⟩
theorem g_asg {g : TG} (q : te σ H fun x H1 => g x σ H1 D.nx) : tAsg te g D σ H := q
theorem g_name {k : L2.St → Hp → Prop} (q : k (σ.set i (some v)) H) : gName i v σ H k := q
theorem g_seq (q : t { D with nx := u D } σ H) : tSeq t u D σ H := q
theorem g_ret (q : te σ H D.rt) : tRet te D σ H := q
theorem g_retN (q : D.rt .non H) : tRetN D σ H := q
theorem g_next (q : D.nx σ H) : tNext D σ H := q
theorem g_drop (q : te σ H fun _ H1 => D.nx σ H1) : tDrop te D σ H := q
theorem g_nil {k : List V → Hp → Prop} (q : k [] H) : tNil σ H k := q
theorem g_cons {k : List V → Hp → Prop} (q : ta σ H fun x H1 => tl σ H1 fun xs H2 => k (x :: xs) H2) : tCons ta tl σ H k := q
theorem g_cb {r : List V → Hp → VK → Prop} (q : tl σ H fun vs H1 => r vs H1 Q) : tCB r tl σ H Q := q
theorem g_test {k : Bool → Hp → Prop} (q : te σ H fun x H1 => ∃ b, x = .bl b ∧ k b H1) : tTest te σ H k := q
theorem g_tB {k : Bool → Hp → Prop} (q : te σ H fun x H1 => ∃ b, x = .bl b ∧ k b H1) : tB te σ H k := q
theorem g_bl {b : Bool} {k : Bool → Prop} (q : k b) : ∃ z, V.bl b = .bl z ∧ k z := ⟨b, rfl, q⟩
theorem g_if (q : c σ H fun b H1 => if b = true then ta σ H1 Q else tb σ H1 Q) : tIf c ta tb σ H Q := q
theorem g_ifs (q : c σ H fun b H1 => if b = true then t D σ H1 else u D σ H1) : tIfS c t u D σ H := q
theorem g_not {k : Bool → Hp → Prop} (q : c σ H fun b H1 => k (!b) H1) : tNot c σ H k := q
theorem g_part {k : Option Int → Hp → Prop} (q : te σ H fun x H1 => ∃ z, x = .int z ∧ k (some z) H1) : tPart te σ H k := q
theorem g_pint {z : Int} {k : Int → Prop} (q : k z) : ∃ y, V.int z = .int y ∧ k y := ⟨z, rfl, q⟩
theorem g_lst (q : tl σ H fun xs H1 => xs.length ≤ sizeLine ∧ ∀ p, H1 p = none → Q (.ref p) (upd H1 p (.lst xs))) : tLst tl σ H Q := q
theorem g_tup (q : tl σ H fun xs H1 => xs.length ≤ sizeLine ∧ ∀ p, H1 p = none → Q (.ref p) (upd H1 p (.tup xs))) : tTup tl σ H Q := q
theorem g_ixL {K : PySem.W.Frag} {p : Addr} {xs : List V} {z : Int} (h : H p = some (.lst xs)) (a : atI xs z = some v) (q : Q v H) : rIxL K (.ref p) (.int z) H Q := ⟨p, xs, z, v, rfl, rfl, SqL.of h, a, q⟩
theorem cdivw_of {a b : Int} (h0 : 0 < b) (h1 : b < 4611686018427387904) : CDivW a b := wide_div (b := 62) h0 (by omega) (by decide) (by decide)
theorem g_div {a b : Int} (h0 : 0 < b) (h1 : b < 4611686018427387904) (q : Q (.int (a / b)) H) : rI CDivW (fun i j => .int (i / j)) (.int a) (.int b) H Q := ⟨a, b, rfl, rfl, cdivw_of h0 h1, q⟩
theorem g_sub {to ti : TE} {ts : TSet} {k : L2.St → Hp → Prop} (q : to σ H fun o H1 => ti σ H1 fun i H2 => ts o i v H2 fun H3 => k σ H3) : gSub to ti ts v σ H k := q
theorem g_setL {p : Addr} {xs : List V} {z : Int} {j : Nat} {k : Hp → Prop} (h : H p = some (.lst xs)) (a : ixN xs.length z = some j) (q : k (upd H p (.lst (xs.set j v)))) : rSetL (.ref p) (.int z) v H k := ⟨p, xs, z, j, rfl, rfl, h, a, q⟩
theorem g_nopart {k : Option Int → Hp → Prop} (q : k none H) : tNoPart σ H k := q
theorem g_call {sp : Sp} {dvs : List V} {E : XK} (q : tl σ H fun vs H1 => sp (vs ++ dvs) H1 Q E) : tCall sp dvs E tl σ H Q := q
theorem g_rint (z : Int) (q : Q (.int z) H) : rInt1 [.int z] H Q := .inl ⟨z, rfl, q⟩
theorem g_rabs {z : Int} (q : Q (.int (if z < 0 then -z else z)) H) : rAbs [.int z] H Q := ⟨z, rfl, q⟩
theorem g_sl {r : V → Option Int → Option Int → Hp → VK → Prop} {a b : TO} (q : te σ H fun x H1 => a σ H1 fun l H2 => b σ H2 fun h H3 => r x l h H3 Q) : tSl r te a b σ H Q := q
theorem g_rIsN {x : V} (q : Q (.bl (decide (x = .non))) H) : rIsN x .non H Q := ⟨rfl, q⟩
theorem g_rNotN {x : V} (q : Q (.bl (!decide (x = .non))) H) : rNotN x .non H Q := ⟨rfl, q⟩
theorem g_lenL {K : PySem.W.Frag} {p : Addr} {xs : List V} (h : H p = some (.lst xs)) (q : Q (.int xs.length) H) : rLenQ K [.ref p] H Q := ⟨p, xs, rfl, .inl (SqL.of h), q⟩
theorem g_max2 {a b : Int} (q : Q (.int (if b > a then b else a)) H) : rMax2 [.int a, .int b] H Q := ⟨a, b, rfl, q⟩
theorem g_min2 {a b : Int} (q : Q (.int (if b < a then b else a)) H) : rMin2 [.int a, .int b] H Q := ⟨a, b, rfl, q⟩
theorem g_and {t u : TT} {k : Bool → Hp → Prop} (q : t σ H fun b H1 => if b = true then u σ H1 k else k false H1) : tAnd t u σ H k := q
theorem g_or {t u : TT} {k : Bool → Hp → Prop} (q : t σ H fun b H1 => if b = true then k true H1 else u σ H1 k) : tOr t u σ H k := q
theorem g_orV (q : ta σ H fun x H1 => ∃ b, x = .bl b ∧ if b = true then Q (.bl true) H1 else tb σ H1 Q) : tOrV ta tb σ H Q := q
theorem g_andV (q : ta σ H fun x H1 => ∃ b, x = .bl b ∧ if b = true then tb σ H1 Q else Q (.bl false) H1) : tAndV ta tb σ H Q := q
theorem g_notV (q : ta σ H fun x H1 => ∃ b, x = .bl b ∧ Q (.bl (!b)) H1) : tNotV ta σ H Q := q
theorem g_m0 {r : V → List V → Hp → VK → Prop} (q : ta σ H fun x H1 => (∃ a, x = .str a) ∧ r x [] H1 Q) : tM0 r ta σ H Q := q
theorem g_m1 {r : V → List V → Hp → VK → Prop} (q : ta σ H fun x H1 => (∃ a, x = .str a) ∧ tb σ H1 fun y H2 => r x [y] H2 Q) : tM1 r ta tb σ H Q := q
theorem g_isS {z : Str} {c : Prop} (q : c) : (∃ a, V.str z = .str a) ∧ c := ⟨⟨z, rfl⟩, q⟩
theorem g_bT {A B : Prop} (q : A) : if true = true then A else B := iteT q
theorem g_bF {A B : Prop} (q : B) : if false = true then A else B := iteF q
theorem g_bNT {A B : Prop} (q : B) : if (!true) = true then A else B := iteF q
theorem g_bNF {A B : Prop} (q : A) : if (!false) = true then A else B := iteT q
theorem g_bm {K : PySem.W.Frag} {T : String} {r : V → List V → Hp → VK → Prop} (q : ta σ H fun x H1 => tyV K T x H1 ∧ tl σ H1 fun xs H2 => r x xs H2 Q) : tBM K T r ta tl σ H Q := q
theorem g_bm0 {K : PySem.W.Frag} {T : String} {r : V → List V → Hp → VK → Prop} (q : ta σ H fun x H1 => tyV K T x H1 ∧ r x [] H1 Q) : tBM0 K T r ta σ H Q := q
theorem g_tyL {K : PySem.W.Frag} {p : Addr} {xs : List V} {c : Prop} (h : H p = some (.lst xs)) (q : c) : tyV K "list" (.ref p) H ∧ c := ⟨.inl ⟨rfl, _, SqL.of h⟩, q⟩
theorem g_lit {L : List V} {n : Nat} (h : L.length ≤ n) (z : n ≤ 100) : L.length ≤ 100 := Nat.le_trans h z
theorem g_yes {k : Bool → Hp → Prop} (q : k true H) : tYes σ H k := q
theorem g_nes {x : V} {A B : Prop} (q : B) : if (!decide (x = x)) = true then A else B := by
  rw [decide_eq_true rfl]
  exact iteF q
theorem g_es {x : V} {A B : Prop} (q : A) : if decide (x = x) = true then A else B := by
  rw [decide_eq_true rfl]
  exact iteT q
theorem g_callK {sp : Sp} {gV : List V → List V → List V} {E : XK} {tk : TA} (q : tl σ H fun vs H1 => tk σ H1 fun zs H2 => sp (gV vs zs) H2 Q E) : tCallK sp gV E tl tk σ H Q := q
theorem g_isN {x : V} (q : ta σ H fun x H1 => Q (.bl (decide (x = .non))) H1) : tIsN ta σ H Q := q
end
local macro_rules | `(tactic| walk_at "wn1") => `(tactic| first | ((with_reducible show (if (!decide _) = true then _ else _)); refine' g_nes ?_) | ((with_reducible show (if (decide _) = true then _ else _)); refine' g_es ?_) | with_reducible first
  | (refine' g_var ?h ?q; (case h => with_unfolding_all rfl))
  | refine' g_c ?_ | refine' g_op ?_ | refine' g_rI0 ?_ | refine' g_asg ?_ | refine' g_name ?_ | refine' g_seq ?_ | refine' g_ret ?_ | refine' g_retN ?_ | refine' g_next ?_ | refine' g_drop ?_
  | refine' g_nil ?_ | refine' g_cons ?_ | refine' g_cb ?_ | refine' g_test ?_ | refine' g_bl ?_ | refine' g_if ?_ | refine' g_ifs ?_ | refine' g_not ?_ | refine' g_part ?_ | refine' g_pint ?_ | refine' g_nopart ?_ | refine' g_call ?_
  | (refine' g_mul ?h ?q; (case h => with_unfolding_all first | exact Or.inl ⟨by decide, by decide⟩ | exact Or.inr ⟨by decide, by decide⟩ | exact Or.inl ⟨by omega, by omega⟩ | exact Or.inr ⟨by omega, by omega⟩))
  | (refine' g_mod ?h ?q; (case h => with_unfolding_all first | decide | omega))
  | refine' g_rIsN ?_ | refine' g_rNotN ?_ | refine' g_max2 ?_ | refine' g_min2 ?_ | refine' g_and ?_ | refine' g_or ?_ | refine' g_orV ?_ | refine' g_andV ?_ | refine' g_notV ?_ | refine' g_m1 ?_ | refine' g_yes ?_ | refine' g_bm ?_ | refine' g_bm0 ?_
  | (refine' g_tyL ?h ?q; (case h => first | assumption | exact upd_same))
  | refine' g_m0 ?_ | refine' g_tB ?_ | refine' g_isS ?_ | refine' g_bT ?_ | refine' g_bF ?_ | refine' g_bNT ?_ | refine' g_callK ?_ | refine' g_bNF ?_
  | (refine' g_lenL ?h ?q; (case h => first | assumption | exact upd_same))
  | refine' g_un ?_ | refine' g_rint _ ?_ | refine' g_rabs ?_ | refine' g_sl ?_ 
  | (refine' g_ixL ?h ?a ?q; (case h => first | assumption | exact upd_same); (case a => with_unfolding_all rfl))
  | (refine' g_div ?h0 ?h1 ?q; (case h0 => with_unfolding_all first | decide | omega); (case h1 => with_unfolding_all first | decide | omega))
  | refine' g_sub ?_
  | (refine' g_setL ?h ?a ?q; (case h => first | assumption | exact upd_same); (case a => with_unfolding_all rfl))
  | refine' g_lst ?_ | refine' g_tup ?_
  | (refine' g_rEq ?h ?q; (case h => with_unfolding_all rfl)) | (refine' g_rNe ?h ?q; (case h => with_unfolding_all rfl)))
local macro_rules | `(tactic| walk_at "wn") => `(tactic| repeat walk_at "wn1")

/-! the bag of draws: two numbers that are not negative, the second one below 2 ^ 31 -/
def BagAt (H : Hp) (p : Addr) : Prop := ∃ a b : Int, H p = some (.lst [.int a, .int b]) ∧ 0 ≤ a ∧ 0 ≤ b ∧ b < 2147483648
def Dr (p : Addr) (H H' : Hp) : Prop := (∀ a o, a ≠ p → H a = some o → H' a = some o) ∧ BagAt H' p
theorem Dr.refl {p : Addr} {H : Hp} (b : BagAt H p) : Dr p H H := ⟨fun _ _ _ h => h, b⟩
theorem Dr.trans {p : Addr} {H H1 H2 : Hp} (a : Dr p H H1) (b : Dr p H1 H2) : Dr p H H2 := ⟨fun x o n h => b.1 x o n (a.1 x o n h), b.2⟩
theorem Dr.ex {p : Addr} {H H1 : Hp} (b : BagAt H p) (e : Ex H H1) : Dr p H H1 := ⟨fun x o _ h => e x o h, by
  obtain ⟨u, v, h, r⟩ := b
  exact ⟨u, v, e _ _ h, r⟩⟩
theorem seq_at {K : PySem.W.Frag} {H H' : Hp} {l : Addr} {xs : List V} (e : H' l = H l) (h : SqL K H l xs) : SqL K H' l xs := by
  rcases h with (h | ⟨o, h⟩) | h
  · exact .inl (.inl (e.trans h))
  · exact .inl (.inr ⟨o, e.trans h⟩)
  · exact .inr h
theorem seqT_at {K : PySem.W.Frag} {H H' : Hp} {l : Addr} {xs : List V} (e : H' l = H l) (h : SqT K H l xs) : SqT K H' l xs := by
  rcases h with (h | ⟨o, h⟩) | h
  · exact .inl (.inl (e.trans h))
  · exact .inl (.inr ⟨o, e.trans h⟩)
  · exact .inr h
structure DrawTxt (mg : Str → Option Value) : Prop where
  len : mg "len" = none
  enum : mg "enumerate" = none
  int : mg "int" = none
  abs : mg "abs" = none
def spBag (K : PySem.W.Frag) : Sp := fun vs H Q _ => ∃ (a : Addr) (ns : List Int) (i : Nat), vs = [.ref a, .int i] ∧ SqL K H a (ns.map V.int) ∧ ns.length ≤ 63 ∧ i ≤ 100 ∧
  ∀ (H' : Hp) (p : Addr), H p = none → Same H H' → BagAt H' p → Q (.ref p) H'
def spTake : Sp := fun vs H Q _ => ∃ (p : Addr) (m : Int), vs = [.ref p, .int m] ∧ BagAt H p ∧ 0 < m ∧ m < 4611686018427387904 ∧
  ∀ (k : Int) (H' : Hp), 0 ≤ k → k < m → (∀ b, b ≠ p → H' b = H b) → BagAt H' p → Q (.int k) H'
def spOf (K : PySem.W.Frag) : Sp := fun vs H Q _ => ∃ (p l : Addr) (xs : List V), vs = [.ref p, .ref l] ∧ BagAt H p ∧ SqL K H l xs ∧ l ≠ p ∧ 0 < xs.length ∧ xs.length ≤ 1000 ∧
  ∀ (k : Nat) (v : V) (H' : Hp), xs[k]? = some v → (∀ b, b ≠ p → H' b = H b) → BagAt H' p → Q v H'
section
variable {P : Program} {w : World} {K : PySem.W.Frag} {mg : Str → Option Value} {base : Heap}
theorem scBag : FnScope ["_law_script", "_law_at", "_law_cell", "_law_blend", "_law_k", "_law_each"] ["_law_script", "_law_at"] (defScope sBag) := ⟨rfl, rfl, rfl, by decide +kernel, rfl, by decide +kernel, by decide +kernel⟩
theorem okBag {f : Addr} {fd : FuncData} (F : Fun K "_law_bag" "_law_bag" sBag f fd) (T : DrawTxt mg) : FnOk P w K mg base CX0 1 f fd ["_law_script", "_law_at"] (spBag K) := by
  refine F.ok scBag (fun vs H Q E h => ?_) (fun cdv A outer s H vs Q E hr h => ?_)
  · obtain ⟨a, ns, i, rfl, _⟩ := h
    rfl
  · obtain ⟨a, ns, i, rfl, hS, hl, hi, k⟩ := h
    refine ⟨_, pss_cut (ps_set (i := 2) scBag.nd rfl (Or.inl rfl) (pe_ifExp (pt_cmpR op_lt (pv 1) (pe_callB cLenQ (by rfl) T.len PySem.boot_len (pa_cons (pv 0) pa_nil)) (nomark _)) (pe_ix ix_list (pv 0) (pv 1) (fun _ _ => rfl)) pe_int))
      (pss_cons (ps_set (i := 3) scBag.nd rfl (Or.inl rfl) (pe_op op_add (pe_op op_mul pe_int (pv 1)) pe_int))
      (pss_cut (ps_for PassesOwn.never rfl (pi_enum (by rfl) T.enum (pa_cons (pe_slice sl_list (pv 0) po_none (po_some pe_int)) pa_nil)) (pg_tup rfl (pgs_cons (pg_name (i := 4) scBag.nd rfl (Or.inl rfl)) (pgs_cons (pg_name (i := 5) scBag.nd rfl (Or.inl rfl)) pgs_nil)))
        (pss_one (ps_set (i := 3) scBag.nd rfl (Or.inl rfl) (pe_op op_mod (pe_callTy cInt1 (by rfl) T.int PyProof.Rows.boot_int (pa_cons (pe_op op_add (pe_op op_add (pe_op op_add (pe_op op_mul (pv 3) pe_int) (pe_op op_mod (pe_callTy cInt1 (by rfl) T.int PyProof.Rows.boot_int (pa_cons (pv 5) pa_nil)) pe_int)) (pe_op op_mul pe_int (pv 4))) pe_int) pa_nil)) pe_int))))
      (pss_one (ps_ret (pe_lst (pa_cons (pe_ifExp (pt_cmpR op_ge (pe_callB cAbs (by rfl) T.abs (by decide +kernel) (pa_cons (pv 2) pa_nil)) (pe_op op_pow pe_int pe_int) (nomark _)) (pe_callB cAbs (by rfl) T.abs (by decide +kernel) (pa_cons (pv 2) pa_nil)) pe_int) (pa_cons (pv 3) pa_nil))))))), ?_⟩
    refine ⟨fun σ' H' => ∃ c : Int, σ' = [some (.ref a), some (.int i), some (.int c), none, none, none] ∧ H' = H, ?_, ?_⟩
    · walk_at "wn"
      refine ⟨a, _, rfl, .inl hS, ?_⟩
      walk_at "wn"
      refine ite2 (fun hc => ?_) (fun hc => ?_)
      · have hlt : i < (ns.map V.int).length := by have := of_decide_eq_true hc; omega
        rw [List.length_map] at hlt
        walk_at "wn"
        refine ⟨a, _, _, _, rfl, rfl, hS, atI_nat (v := V.int (ns[i])) (by rw [List.getElem?_map, List.getElem?_eq_getElem hlt]; rfl), ?_⟩
        exact ⟨_, rfl, rfl⟩
      · exact ⟨0, rfl, rfl⟩
    · rintro σ' H' ⟨c, rfl, rfl⟩
      walk_at "wn"
      refine ⟨fun σ' H2 => ∃ (b : Int) (u v : Option V), 0 ≤ b ∧ b < 2147483648 ∧ σ' = [some (.ref a), some (.int i), some (.int c), some (.int b), u, v] ∧ Same H' H2, ?_, ?_⟩
      · show tSl _ _ _ _ _ _ _
        walk_at "wn"
        refine ⟨a, _, rfl, hS, fun p hp => ?_⟩
        walk_at "wn"
        refine ⟨p, _, rfl, SqL.of upd_same, ?_⟩
        refine for_it (walk_enum (xs := cutV (ns.map V.int) none (some 40))) (fun j σ' H3 => ∃ (b : Int) (u v : Option V), 0 ≤ b ∧ b < 2147483648 ∧ σ' = [some (.ref a), some (.int i), some (.int c), some (.int b), u, v] ∧ Same (upd H' p (.lst (cutV (ns.map V.int) none (some 40)))) H3) ?_ ?_ ?_ ?_
        · exact ⟨_, none, none, by omega, by omega, rfl, Same.refl _⟩
        · rintro j σ' H3 hj ⟨b, u, v, b0, b1, rfl, sm⟩
          exact sm.seq (SqL.of upd_same)
        · rintro j x σ' H3 H4 hj ⟨b, u, v, b0, b1, rfl, sm⟩ ⟨T1, x1, y1, rfl, nT, rfl, hx, hy⟩
          obtain rfl := Option.some.inj hx
          obtain ⟨z, rfl⟩ : ∃ z, y1 = V.int z := by
            have q : y1 ∈ ns.map V.int := List.mem_of_mem_drop (List.mem_of_mem_take (List.mem_of_getElem? hy))
            obtain ⟨z, _, e⟩ := List.mem_map.mp q
            exact ⟨z, e.symm⟩
          refine ⟨T1, _, rfl, SqT.of upd_same, rfl, _, _, rfl, ?_⟩
          walk_at "wn"
          refine ⟨_, _, rfl, ?_⟩
          walk_at "wn"
          refine ⟨rfl, ?_⟩
          walk_at "wn"
          refine ⟨_, _, _, by omega, by omega, rfl, fun x o hx => ?_⟩
          rw [upd_ne (ne_of_none (sm _ _ hx) nT)]
          exact sm _ _ hx
        · rintro σ' H3 ⟨b, u, v, b0, b1, rfl, sm⟩
          exact ⟨b, u, v, b0, b1, rfl, fun x o hx => sm _ _ (by rw [upd_ne (ne_of_none hx hp)]; exact hx)⟩
      · rintro σ' H2 ⟨b, u, v, b0, b1, rfl, sm⟩
        walk_at "wn"
        refine g_rI ⟨by decide, by decide, by decide⟩ ?_
        walk_at "wn"
        have fin : ∀ z : Int, 0 ≤ z → ([V.int z, V.int b].length ≤ sizeLine ∧ ∀ p, H2 p = none → Q (V.ref p) (upd H2 p (HO.lst [V.int z, V.int b]))) := fun z hz => ⟨by show 2 ≤ sizeLine; decide, fun p hp => k _ p (sm.free hp) (fun x o hx => by
          rw [upd_ne (ne_of_none (sm _ _ hx) hp)]
          exact sm _ _ hx) ⟨z, b, upd_same, hz, b0, b1⟩⟩
        refine ite2 (fun hc => ?_) (fun hc => ?_)
        · walk_at "wn"
          exact fin _ (by split <;> omega)
        · walk_at "wn"
          exact fin 0 (by decide)
theorem scTake : FnScope ["_law_bag_here", "_law_many", "_law_digit"] ["_law_bag_here", "_law_many"] (defScope sTake) := ⟨rfl, rfl, rfl, by decide +kernel, rfl, by decide +kernel, by decide +kernel⟩
theorem okTake {f : Addr} {fd : FuncData} (F : Fun K "_law_take" "_law_take" sTake f fd) (T : DrawTxt mg) : FnOk P w K mg base CX0 1 f fd ["_law_bag_here", "_law_many"] spTake := by
  refine F.ok scTake (fun vs H Q E h => ?_) (fun cdv A outer s H vs Q E hr h => ?_)
  · obtain ⟨a, m, rfl, _⟩ := h
    rfl
  · obtain ⟨p, m, rfl, ⟨a, b, hp, a0, b0, b1⟩, m0, m1, k⟩ := h
    refine ⟨_, pss_cons (ps_if (pt_cmpR op_gt (pe_ix ix_list (pv 0) pe_int (fun _ _ => rfl)) pe_int (nomark _))
        (pss_cons (ps_set (i := 2) scTake.nd rfl (Or.inl rfl) (pe_op op_mod (pe_callTy cInt1 (by rfl) T.int PyProof.Rows.boot_int (pa_cons (pe_ix ix_list (pv 0) pe_int (fun _ _ => rfl)) pa_nil)) (pv 1)))
        (pss_cons (ps_asg (pe_op op_fdivW (pe_ix ix_list (pv 0) pe_int (fun _ _ => rfl)) (pv 1)) (pg_sub (pv 0) pe_int set_list))
        (pss_one (ps_ret (pv 2))))) pss_nil)
      (pss_cons (ps_asg (pe_op op_mod (pe_callTy cInt1 (by rfl) T.int PyProof.Rows.boot_int (pa_cons (pe_op op_add (pe_op op_mul (pe_ix ix_list (pv 0) pe_int (fun _ _ => rfl)) pe_int) pe_int) pa_nil)) pe_int) (pg_sub (pv 0) pe_int set_list))
      (pss_one (ps_ret (pe_op op_mod (pe_op op_fdivW (pe_op op_mod (pe_callTy cInt1 (by rfl) T.int PyProof.Rows.boot_int (pa_cons (pe_op op_mul (pe_op op_fdivW (pe_ix ix_list (pv 0) pe_int (fun _ _ => rfl)) pe_int) pe_int) pa_nil)) pe_int) pe_int) (pv 1))))), ?_⟩
    walk_at "wn"
    refine ite2 (fun hc => ?_) (fun hc => ?_)
    · walk_at "wn"
      refine k _ _ (Int.emod_nonneg _ (by omega)) (Int.emod_lt_of_pos _ m0) (fun x hx => upd_ne hx) ⟨_, _, upd_same, Int.ediv_nonneg a0 (by omega), b0, b1⟩
    · walk_at "wn"
      refine k _ _ (Int.emod_nonneg _ (by omega)) (Int.emod_lt_of_pos _ m0) (fun x hx => upd_ne hx) ⟨_, _, upd_same, a0, by omega, by omega⟩
theorem scOf : FnScope ["_law_bag_here", "_law_some"] ["_law_bag_here", "_law_some"] (defScope sOf) := ⟨rfl, rfl, rfl, by decide +kernel, rfl, by decide +kernel, by decide +kernel⟩
theorem okOf {f fT : Addr} {fd fdT : FuncData} (F : Fun K "_law_of" "_law_of" sOf f fd) (T : DrawTxt mg) (FT : Fun K "_law_take" "_law_take" sTake fT fdT) (gT : mg "_law_take" = some (.ref fT)) (bT : Binds K fdT ["_law_bag_here", "_law_many"] []) : FnOk P w K mg base CX0 2 f fd ["_law_bag_here", "_law_some"] (spOf K) := by
  have GT : FnOk P w K mg base CX0 1 fT fdT ["_law_bag_here", "_law_many"] spTake := okTake FT T
  refine F.ok scOf (fun vs H Q E h => ?_) (fun cdv A outer s H vs Q E hr h => ?_)
  · obtain ⟨a, l, xs, rfl, _⟩ := h
    rfl
  · obtain ⟨p, l, xs, rfl, hb, hx, hl, l0, l1, k⟩ := h
    refine ⟨_, pss_one (ps_ret (pe_ix ix_seq (pv 1) (pe_call GT hr (by rfl) gT FT.kp bT .nil pass0 (pa_cons (pv 0) (pa_cons (pe_callB cLenQ (by rfl) T.len PySem.boot_len (pa_cons (pv 1) pa_nil)) pa_nil))) (fun _ _ => rfl))), ?_⟩
    walk_at "wn"
    refine ⟨l, xs, rfl, .inl hx, ?_⟩
    walk_at "wn"
    refine ⟨p, _, rfl, hb, by omega, by omega, fun i H1 i0 i1 he hb1 => ?_⟩
    obtain ⟨j, rfl⟩ := Int.eq_ofNat_of_zero_le i0
    have hj : j < xs.length := by omega
    exact .inl ⟨l, xs, _, xs[j], rfl, rfl, seq_at (he l hl) hx, atI_nat (List.getElem?_eq_getElem hj), k j _ H1 (List.getElem?_eq_getElem hj) he hb1⟩
end

/-! several except clauses, each of which names what it caught -/
structure HdA where
  c : Value
  i : Nat
  ts : Addr → Value → Option Addr → TS
def wAll (K : PySem.W.Frag) (Wz : WX) (D : Ends) : List HdA → WX
  | [] => Wz
  | h :: r => wAs K h.c h.i h.ts (wAll K Wz D r) D
inductive HdsA (X : Cx) : List ExceptHandler → List HdA → Prop
  | nil : HdsA X [] []
  | cons {x n : Str} {c : Value} {i : Nat} {ts : Addr → Value → Option Addr → TS} {b1 : Stmt} {suite : List Stmt} {np pos1 : Pos} {hds : List ExceptHandler} {l : List HdA} (hi : X.N[i]? = some n) (hln : X.env.kindOf n = some .local) (hc : Names X x c)
      (hsu : ∀ (a : Addr) (oe : Obj) (cls : Value) (d : Option Addr) (pn : List (Addr × Obj)), Zc cls d oe → (∃ us, oe.data = .fields us) → PSs (X.suite a ((a, oe) :: pn)) (b1 :: suite) (ts a cls d)) (r : HdsA X hds l) : HdsA X (.ExceptHandler (some (.Name x np)) (some n) (b1 :: suite) pos1 :: hds) (⟨c, i, ts⟩ :: l)
section
variable {X : Cx} {body : List Stmt} {h1 : ExceptHandler} {hds : List ExceptHandler} {l : List HdA} {pos : Pos} {tb : WX → TS} {Wz : WX}
theorem ps_try_all (hs : X.stack = X.env :: X.outer) (hf : X.env.frame = some X.env.locals) (nd : X.N.Nodup) (tk : Takes X Wz) (hb : ∀ (W : WX) (pn : List (Addr × Obj)) (xe : Value → Shared → Prop), Takes (X.tr pn xe) W → PassesOwn (model X.prog X.w) X.A X.env xe → PSs (X.tr pn xe) body (tb W))
    (hh : HdsA X (h1 :: hds) l) : PS X (.Try body (h1 :: hds) [] [] pos) (fun D σ H => tb (wAll X.K Wz D l) D σ H) := by
  constructor
  intro pins s σ H D I h
  have ok := I.ok
  have frs1 : X.A.frames = some (X.env :: X.outer) := ok.frames.trans (by rw [hs])
  refine wpAny_Try_except (wpAny_mono ((hb (wAll X.K Wz D l) (X.pn ++ pins) (fun e s₁ => wpAny (model X.prog X.w) X.A (noteFrame e X.env) (fun _ s₂ => wpAny (model X.prog X.w) X.A (setFlight e none) (fun _ s₃ => wpAny (model X.prog X.w) X.A (handleBy e X.env (h1 :: hds)) (SP X pins D) X.xe s₃) X.xe s₂) X.xe s₁) (fun u s' xx => ?_) PassesOwn.looking).run [] s σ H D (I.toTry _) h) (fun f s1 hsp => ?_) (fun e s1 he => he))
  · obtain ⟨a, B, sI, pins1, σ1, H1, cls, d, rfl, Jt, nb, up, sky, na, os, ag, w⟩ := xx
    have J : Inv X pins σ1 H1 sI := Jt.ofTry ok
    rw [hs] at sky
    show wpAny (model X.prog X.w) X.A (noteFrame (.ref a) X.env) _ _ _
    refine Sky.land Zc.steady frs1 hf sky fun h3 fl3 up3 => ?_
    have J3 : Inv X pins σ1 H1 { s' with heap := h3 } := J.landed nb fl3.1 (up.trans up3) os ag
    obtain ⟨oe3, vs3, he3, hz3, hd3⟩ := fl3.there
    have nfr : a ∉ frs (X.env :: X.outer) := fun hm => by
      obtain ⟨_, o1, e1, hnf⟩ := fl3.2.2.1.mem hm
      rw [he3] at e1
      cases e1
      exact hnf _ hd3
    have nL : a ≠ X.env.locals := fun z => nfr (List.mem_filterMap.mpr ⟨X.env, List.mem_cons_self, hf.trans (by rw [z])⟩)
    have nF : a ∉ X.fs := fun hm => by
      obtain ⟨e1, he1, q⟩ := List.mem_filterMap.mp hm
      exact nfr (List.mem_filterMap.mpr ⟨e1, List.mem_cons_of_mem _ he1, q⟩)
    have S3 := J3.suite he3 hd3 na nL nF
    have go : ∀ {hs2 : List ExceptHandler} {l2 : List HdA}, HdsA X hs2 l2 → wAll X.K Wz D l2 cls d σ1 H1 → wpAny (model X.prog X.w) X.A (handleBy (.ref a) X.env hs2) (SP X pins D) X.xe { s' with heap := h3 } := by
      intro hs2 l2 hk
      induction hk with
      | nil =>
        intro w
        obtain ⟨k1, k2, k3, oe, vs, T, oT, tsx, he, hz, hd, hT, hr⟩ := id fl3
        refine wpAny_handleBy_nil ?_
        unfold PySem.passOn
        refine wpAny_bind (wpAny_field he hd hT ?_)
        rw [if_neg (show ¬ ((Value.ref T == Value.none) = true) from by simp)]
        have fin : wpAny (model X.prog X.w) X.A (setFlight (.ref a) X.env.frame) (fun _ s4 => wpAny (model X.prog X.w) X.A (throw (.ref a) : Sem Flow) (SP X pins D) X.xe s4) X.xe { s' with heap := h3 } := by
          rw [hf]
          refine HandSPX.setFlight_upZ fl3 fun h4 hh4 up4 => wpAny_throw (tk _ _ ⟨a, B, sI, pins, σ1, H1, cls, d, rfl, J, nb, (up.trans up3).trans up4, .inr (.inr (by rw [hs]; exact hh4)), na, os, ag, w⟩)
        first
          | exact wpAny_bind (wpAny_pure (wpAny_bind fin))
          | exact wpAny_bind fin
      | @cons x n c i ts b1 suite np pos1 hds2 l3 hi hln hc hsu r ih =>
        rintro ⟨b, hb1, hyes, hno⟩
        refine wpAny_handleBy_cons (codeAny_handlers_test ?_) (by intro q; cases q)
        have LT : PySem.W.Looks (model X.prog X.w) h3 (typeOf (.ref a)) cls := fun A Q E s k q => wpAny_typeOf_ref (k _ _ he3) (hz3.1.symm ▸ q)
        have LM := PySem.W.exm_one (M := model X.prog X.w) (J3.kIn) LT hb1
        have test : ∀ {Q : Value → Shared → Prop} {E : Value → Shared → Prop}, Q c { s' with heap := h3 } → wpAny (model X.prog X.w) (X.A.mark (some (.ref a))) (eval (.Name x np) X.env) Q E { s' with heap := h3 } := fun {Q E} q => by
          rcases hc with ⟨hg, hdbg, hm | ⟨hm, hv, hnn⟩⟩
          · exact ld_glob (X := X.suite a ((a, oe3) :: (X.pn ++ pins))) S3 hg hm q hdbg
          · exact ld_blt (X := X.suite a ((a, oe3) :: (X.pn ++ pins))) S3 hg hm hv q hnn hdbg
        refine test (LM.here ?_)
        cases b with
        | false =>
          show wpAny _ X.A (handleBy (.ref a) X.env hds2) _ _ _
          exact ih (hno rfl)
        | true =>
          refine codeAny_handlers_suite_as (HandSPX.lands_againZ fl3 fun h4 fl4 up4 => ?_)
          have J4 : Inv X pins σ1 H1 { s' with heap := h4 } := J.landed nb fl4.1 ((up.trans up3).trans up4) os ag
          obtain ⟨oe4, vs4, he4, hz4, hd4⟩ := fl4.there
          have hloc : Loc X.env.scope n := .inl hln
          refine store_ok (X := X.suite a ((a, oe4) :: (X.pn ++ pins))) (v := .ref a) (J4.suite he4 hd4 na nL nF) nd hi hloc rfl (fun s5 S5 => wpAny_mono ((hsu a oe4 cls d (X.pn ++ pins) hz4 ⟨_, hd4⟩).run [] s5 _ H1 _ S5 (hyes rfl a na)) (fun f s6 hsp => ?_) (fun _ _ z => False.elim z)) (.inr hln)
          have gone : ∀ {σ6 : L2.St} {H6 : Hp} {Q : Shared → Prop}, Inv (X.suite a ((a, oe4) :: (X.pn ++ pins))) [] σ6 H6 s6 → (∀ s7, Inv X pins (σ6.set i none) H6 s7 → Q s7) → wpAny (model X.prog X.w) X.A (do bindName X.env n .none; unbindBehindTheSuite X.env n pos1) (fun _ s7 => Q s7) X.xe s6 := fun S6 hq => gone_ok (S6.unsuite ok) nd hi hln hq
          cases f with
          | ret u =>
            obtain ⟨v6, σ6, H6, S6, r6, q6⟩ := hsp
            exact gone S6 fun s7 J7 => ⟨_, _, _, J7, r6, q6⟩
          | _ =>
            obtain ⟨σ6, H6, S6, q6⟩ := hsp
            exact gone S6 fun s7 J7 => ⟨_, _, J7, q6⟩
    exact go hh w
  · cases f with
    | next =>
      obtain ⟨σ1, H1, J1, q⟩ := hsp
      exact wpAny_execs_nil ⟨σ1, H1, J1.ofTry ok, q⟩
    | ret u =>
      obtain ⟨v, σ1, H1, J1, r, q⟩ := hsp
      exact ⟨v, σ1, H1, J1.ofTry ok, r, q⟩
    | _ =>
      obtain ⟨σ1, H1, J1, q⟩ := hsp
      exact ⟨σ1, H1, J1.ofTry ok, q⟩
end

set_option maxHeartbeats 9000000
/-! {x!r} where x is any flat object: some bounded text, whatever repr is under way -/
section
open PySem.Sem
theorem lst_head {M : Model} {A : Around} {E : Value → Shared → Prop} {s : Shared} {Q : Fin → Shared → Prop} {a : Addr} {o : Obj} {x : Value} {l : List Value} {n : Nat} (e1 : s.heap.get? a = some o) (e2 : o.data = .seq (x :: l).toArray n)
    (k1 : ∀ u tk, Q (.done (.ret (.str "[...]" u))) { s with toks := tk }) (k2 : wpAny M A (do again (.builtin "list.__repr__.loop" ⟨[.ref a, rawInt 0, ← newList [], rawInt 0], []⟩)) Q E s) : wpAny M A (Builtin.listReprAt 0 ⟨[.ref a], []⟩) Q E s := by
  have y1 : wpAny M A (do rule "list.__repr__.in-itself"; retStr "[...]") Q E s := wpAny_bind (wpAny_rule (wpAny_bind (wpAny_mkStr (wpAny_pure (k1 _ _)) (by decide +kernel))))
  intro Γ p hΓ
  have z1 := y1 Γ p hΓ
  have z2 := k2 Γ p hΓ
  unfold Builtin.listReprAt
  simp [slotArgs, Builtin.List.listItems, seqItems?, wp_load_of (h := e1), e2, PySem.stack]
  show wp M Γ (if (Γ.below.any _) = true then _ else _) _ _ p s
  split
  · exact z1
  · exact z2
end
section
variable {prog : Program} {w : World} {A : Around} {E : Value → Shared → Prop} {s : Shared}
theorem lst_any {Q : Value → Shared → Prop} {a : Addr} {oa : Obj} {x : Value} {l : List Value} {na : Nat} {ts : List Str} (hu : A.units < cLine) (hc : oa.cls = .type "list") (ha : s.heap.get? a = some oa) (hda : oa.data = .seq (x :: l).toArray na) (hT : ReprAll prog w (x :: l) ts) (hsz : (listText ts).length ≤ 9000)
    (h : ∀ (m : Str) h' u tk, m.length ≤ 9000 → (∀ b o, s.heap.get? b = some o → h'.get? b = some o) → Q (.str m u) { s with heap := h', toks := tk }) : wpAny (model prog w) A (pyReprObj (.ref a)) Q E s := by
  have big : 9000 ≤ sizeLine := by rw [sizeLine_eq]; decide
  have hlen : ts.length = (x :: l).toArray.size := by rw [hT.length_eq]; simp
  have hall : ∀ (i : Nat) (y : Value), (x :: l).toArray[i]? = some y → ∃ t, ts[i]? = some t ∧ ReprIs prog w y t := by
    have go : ∀ {vs : List Value} {us : List Str}, ReprAll prog w vs us → ∀ (i : Nat) (y : Value), vs[i]? = some y → ∃ t, us[i]? = some t ∧ ReprIs prog w y t := by
      intro vs us hv
      induction hv with
      | nil => intro i y e; simp at e
      | cons r _ ih =>
        intro i y e
        cases i with
        | zero =>
          cases e
          exact ⟨_, rfl, r⟩
        | succ i => exact ih i y e
    intro i y e
    exact go hT i y (by simpa using e)
  refine wpAny_pyReprObj_slot hu ⟨oa, ha, hc⟩ F.slot_list_repr.toG (wpAny_call (codeAny_call_builtin F.slot_list_repr.plain F.entry_list_repr (F.slot_list_repr.check _ _ _ _ _ _ _ _ ⟨oa, ha, hc⟩ (F.args_list_repr_1 _) ?_)))
  refine lst_head (A := A.in1) ha hda (fun u tk => ⟨_, _, rfl, h "[...]" s.heap u tk (by decide +kernel) fun _ _ e => e⟩) ?_
  refine wpAny_bind (m := newList []) (wpAny_newObj_type (wpAny_pure ⟨F.quiet_list_repr_loop _, ?_⟩))
  exact codeAny_list_repr_start (P := s.heap.objs.size) (Nat.ne_of_lt (Heap.lt_size ha)) hlen hall (Heap.get?_push_of_some _ ha) hda (Heap.get?_push_size _ rfl) (fun h' u tk hk => ⟨_, _, rfl, h _ h' u tk hsz fun b o e => hk b o (Nat.ne_of_lt (Heap.lt_size e)) (Heap.get?_push_of_some _ e)⟩) (by show 0 + (listText ts).length ≤ sizeLine; omega)
theorem tup_any {Q : Value → Shared → Prop} {a : Addr} {oa : Obj} {items : Array Value} {na : Nat} {ts : List Str} (hu : A.units < cLine) (hc : oa.cls = .type "tuple") (ha : s.heap.get? a = some oa) (hda : oa.data = .seq items na) (hT : ReprAll prog w items.toList ts) (hsz : (tupleText ts).length ≤ 8990)
    (h : ∀ (m : Str) u tk, m.length ≤ 9000 → Q (.str m u) { s with toks := tk }) : wpAny (model prog w) A (pyReprObj (.ref a)) Q E s := by
  have big : 9000 ≤ sizeLine := by rw [sizeLine_eq]; decide
  exact wpAny_pyReprObj_slot hu ⟨oa, ha, hc⟩ F.slot_tuple_repr (fmt_tuple_repr ha hc hda hT (by omega) fun m u tk hm => ⟨_, _, rfl, h m u tk (by omega)⟩)
end
/-- a flat object: what a number, a process, a limit may be in the place of one -/
inductive Flat (H : Hp) : V → Prop
  | non : Flat H .non
  | bl (b : Bool) : Flat H (.bl b)
  | int (i : Int) : i.natAbs.log2 < 1920 → Flat H (.int i)
  | str (y : Str) : y.length ≤ 100 → (y.cps.toList.all fun c => decide (c < 16 ^ 8)) = true → Flat H (.str y)
  | tup (a : Addr) (l : List Int) : l.length ≤ 3 → (∀ i ∈ l, i.natAbs.log2 < 1920) → H a = some (.tup (l.map V.int)) → Flat H (.ref a)
  | lst (a : Addr) (i : Int) (l : List Int) : l.length ≤ 2 → (∀ j ∈ i :: l, j.natAbs.log2 < 1920) → H a = some (.lst ((i :: l).map V.int)) → Flat H (.ref a)
theorem ReprAll.ints {prog : Program} {w : World} : ∀ {l : List Int} {its : List Value}, Vals (l.map V.int) its → (∀ i ∈ l, i.natAbs.log2 < 1920) → ReprAll prog w its (l.map fun i => (toString i : String))
  | [], _, r, _ => by
    cases r
    exact .nil
  | i :: l, _, r, h => by
    cases r with
    | cons r1 r2 =>
      obtain ⟨t, rfl⟩ := r1
      exact .cons (ReprIs.int t (h i List.mem_cons_self)) (ReprAll.ints r2 fun j hj => h j (List.mem_cons_of_mem _ hj))
theorem ints_len : ∀ (l : List Int), (∀ i ∈ l, i.natAbs.log2 < 1920) → ((l.map fun i => ((toString i : String) : Str)).map (·.length)).sum ≤ 2000 * l.length
  | [], _ => Nat.le_refl _
  | i :: l, h => by
    have e := int_text_length_le (k := 1920) (by decide) (h i List.mem_cons_self)
    have ih := ints_len l fun j hj => h j (List.mem_cons_of_mem _ hj)
    simp only [List.map_cons, List.sum_cons, List.length_cons]
    rw [PySem.ofString_length]
    omega
def tFmtO (te : TE) : TE := fun σ H Q => te σ H fun x H1 => Flat H1 x ∧ ∀ m : Str, m.length ≤ 9000 → Q (.str m) H1
theorem pe_fmtO {X : Cx} {e : Expr} {te : TE} {pos : Pos} {k : Nat} (hr : Room k X.A) (he : PE X e te) : PE X (.FormattedValue e 114 none pos) (tFmtO te) := by
  refine ⟨fun pins s σ H Q I h => wpAny_FormattedValue_repr (thn (he.run pins s σ H _ I h) fun v s1 hv => ?_)⟩
  obtain ⟨x, H1, I1, r1, fl, q⟩ := hv
  have hu : X.A.units < cLine := by have := hr.units; omega
  have big : 9000 ≤ sizeLine := by rw [sizeLine_eq]; decide
  have fin : ∀ {m : Str} {u : Tok} {s2 : Shared}, m.length ≤ 9000 → (∀ tk, Inv X pins σ H1 { s2 with toks := tk }) → Inv X pins σ H1 s2 → wpAny (model X.prog X.w) X.A (formatField (.str m u) Str.empty) (EP X pins σ Q) X.xe s2 := fun {m u s2} hm J1 J2 =>
    wpAny_formatField_str ⟨.str m, H1, J2, ⟨_, rfl⟩, q m hm⟩ ⟨.str m, H1, J1 _, ⟨_, rfl⟩, q m hm⟩ (by omega)
  cases fl with
  | non =>
    cases r1
    exact pyReprObj_none (fin (by decide +kernel) (fun tk => I1.tok _) (I1.tok _))
  | bl b =>
    cases r1
    exact pyReprObj_bool (fin (by cases b <;> decide +kernel) (fun tk => I1.tok _) (I1.tok _))
  | int i hi =>
    obtain ⟨t, rfl⟩ := r1
    have e := int_text_length_le (k := 1920) (by decide) hi
    exact pyReprObj_int hi (fin (by rw [PySem.ofString_length]; omega) (fun tk => I1.tok _) (I1.tok _))
  | str y hy h2 =>
    obtain ⟨t, rfl⟩ := r1
    have hl := StrLaws.reprText_len y fun c hc => of_decide_eq_true (List.all_eq_true.mp h2 c hc)
    exact pyReprObj_str (fin (by omega) (fun tk => I1.tok _) (I1.tok _)) (by omega)
  | tup a l hl hi ht =>
    cases r1
    obtain ⟨its, rv, ⟨o, ho, hc, n, hd⟩, _⟩ := I1.tuple (SqT.of ht)
    have ra := ReprAll.ints (prog := X.prog) (w := X.w) rv hi
    have e := tupleText_len_le (l.map fun i => ((toString i : String) : Str))
    have e2 := ints_len l hi
    rw [List.length_map] at e
    exact tup_any (ts := l.map fun i => ((toString i : String) : Str)) hu hc ho hd (by simpa using ra) (by omega) fun m u tk hm => fin hm (fun tk => I1.tok _) (I1.tok _)
  | lst a i l hl hi hs =>
    cases r1
    obtain ⟨its, rv, ⟨o, n, ho, hc, _, hd⟩, _⟩ := I1.list (SqL.of hs)
    have ra := ReprAll.ints (prog := X.prog) (w := X.w) rv hi
    have e := listText_len_le ((i :: l).map fun i => ((toString i : String) : Str))
    have e2 := ints_len (i :: l) hi
    rw [List.length_map, List.length_cons] at e
    rw [List.length_cons] at e2
    cases rv with
    | cons rv1 rv2 => exact lst_any hu hc ho hd ra (by omega) fun m h' u tk hm hk => fin hm (fun tk => I1.kept hk) (I1.kept hk)
theorem Flat.same {H H' : Hp} {v : V} (f : Flat H v) (s : Same H H') : Flat H' v := by
  cases f with
  | non => exact .non
  | bl b => exact .bl b
  | int i h => exact .int i h
  | str y h h2 => exact .str y h h2
  | tup a l h1 h2 h3 => exact .tup a l h1 h2 (s _ _ h3)
  | lst a i l h1 h2 h3 => exact .lst a i l h1 h2 (s _ _ h3)
/-- any object that is asked whether it is an integer -/
inductive Ob (H : Hp) : V → Prop
  | non : Ob H .non
  | bl (b : Bool) : Ob H (.bl b)
  | int (i : Int) : Ob H (.int i)
  | str (y : Str) : Ob H (.str y)
  | tup (a : Addr) (xs : List V) : H a = some (.tup xs) → Ob H (.ref a)
  | lst (a : Addr) (xs : List V) : H a = some (.lst xs) → Ob H (.ref a)
theorem Flat.ob {H : Hp} {v : V} (f : Flat H v) : Ob H v := by
  cases f with
  | non => exact .non
  | bl b => exact .bl b
  | int i h => exact .int i
  | str y h h2 => exact .str y
  | tup a l h1 h2 h3 => exact .tup a _ h3
  | lst a i l h1 h2 h3 => exact .lst a _ h3
def isI : V → Bool
  | .int _ => true
  | _ => false
def inB : V → Int → Int → Bool
  | .int i, a, b => decide (a ≤ i) && decide (i ≤ b)
  | _, _, _ => false

def clsBody : Stmt → List Stmt
  | .ClassDef _ _ _ b _ _ _ _ _ _ _ => b
  | _ => []
def meth (i j : Nat) : Stmt := (clsBody (top i)).getD j (.Pass ⟨0, 0, 0, 0⟩)
abbrev sIsInteger : Stmt := top 12
abbrev sIsBetween : Stmt := top 13
/-! own __contains__ -/
def rOwnNotIn (C : Addr) (sp : Sp) : R2 := fun x y H Q => ∃ a dx fs, y = .ref a ∧ H a = some (.ins C dx fs) ∧ sp [.ref a, x] H (fun v H' => ∃ b, v = .bl b ∧ Q (.bl (!b)) H') fun _ _ _ => False
theorem op_ownNotIn {X : Cx} {CX : CXT} {k : Nat} {C f : Addr} {fd : FuncData} {ps : List Str} {sp : Sp} (F : FnOk X.prog X.w X.K X.mg X.base CX k f fd ps sp) (hr : Room k X.A)
    (hs : PySem.W.findIn X.K (.ref C) "__contains__" = some (some (.ref f))) (hf : PySem.W.isFn X.K (.ref f) = true) (hb : Binds X.K fd ps []) (hx : Passes CX X fun _ _ _ => False) : OpR X (compareOp .NotIn) (rOwnNotIn C sp) := by
  intro pins s σ H x y v u Q I rx ry d
  obtain ⟨a, dx, fs, rfl, ha, hsp⟩ := d
  cases ry
  obtain ⟨mA, J, _⟩ := ins_get I.hok ha
  obtain ⟨od, J, _⟩ := J.look
  obtain ⟨m, hF⟩ := I.fr
  refine PySem.W.notIn_K hF I.ok.mod.kin J hs hf ?_
  have hl := F.len _ _ _ _ hsp
  have r2 : Vals [V.ref a, x] [Value.ref a, v] := .cons rfl (.cons rx .nil)
  refine wpAny_call (codeAny_mono (F.run X.A X.stack s H ⟨[.ref a, v], []⟩ [.ref a, v] [.ref a, x] _ _ hr I.env0 (by
    have := hb s [.ref a, v] I.kIn (by simpa using hl)
    simpa using this) r2 hsp) fun r s' hq => ?_)
  cases r with
  | error e => exact hx pins σ H s e s' I hq
  | ok fl =>
    cases fl with
    | ret w =>
      obtain ⟨z, H', I', rz, b, ez, q⟩ := I.after hq
      subst ez
      cases rz
      exact wpAny_truthy_bool ⟨.bl (!b), H', I', rfl, q⟩
    | next => exact False.elim hq
    | brk => exact False.elim hq
    | cont => exact False.elim hq
section
variable {P : Program} {w : World} {K : PySem.W.Frag} {mg : Str → Option Value} {base : Heap}
structure ChkTxt (K : PySem.W.Frag) (mg : Str → Option Value) : Prop where
  isin : mg "isinstance" = none
  int : mg "int" = none
  bool : mg "bool" = none
def spIsInteger : Sp := fun vs H Q _ => ∃ x : V, vs = [x] ∧ Ob H x ∧ Q (.bl (isI x)) H
theorem scIsInteger : FnScope ["x"] ["x"] (defScope sIsInteger) := ⟨rfl, rfl, rfl, by decide +kernel, rfl, by decide +kernel, by decide +kernel⟩
theorem okIsInteger {f : Addr} {fd : FuncData} (F : Fun K "is_integer" "is_integer" sIsInteger f fd) (T : ChkTxt K mg) : FnOk P w K mg base CX0 1 f fd ["x"] spIsInteger := by
  refine F.ok scIsInteger (fun vs H Q E h => ?_) (fun cdv A outer s H vs Q E hr h => ?_)
  · obtain ⟨x, rfl, _⟩ := h
    rfl
  · obtain ⟨x, rfl, ob, k⟩ := h
    refine ⟨_, pss_one (ps_ret (pe_and (pe_callB call_isi (by rfl) T.isin PyProof.Rows.boot_isinstance (pa_cons (pv 0) (pa_cons (pe_bltn (v := .ty "int") (by rfl) T.int PyProof.Rows.boot_int rfl) pa_nil))) (pe_one (pe_not (pe_callB call_isi (by rfl) T.isin PyProof.Rows.boot_isinstance (pa_cons (pv 0) (pa_cons (pe_bltn (v := .ty "bool") (by rfl) T.bool (by decide +kernel) rfl) pa_nil))))))), ?_⟩
    cases ob with
    | int i =>
      refine ⟨_, rfl, _, _, _, _, true, rfl, .ty "int", .base (.int i), kit_ty (by decide +kernel), ?_⟩
      refine ⟨_, rfl, _, rfl, _, _, _, _, false, rfl, .ty "bool", .base (.int i), kit_ty (by decide +kernel), ?_⟩
      exact ⟨_, rfl, k⟩
    | bl b =>
      refine ⟨_, rfl, _, _, _, _, true, rfl, .ty "int", .base (.bl b), kit_ty (by decide +kernel), ?_⟩
      refine ⟨_, rfl, _, rfl, _, _, _, _, true, rfl, .ty "bool", .base (.bl b), kit_ty (by decide +kernel), ?_⟩
      exact ⟨_, rfl, k⟩
    | non =>
      refine ⟨_, rfl, _, _, _, _, false, rfl, .ty "int", .base .non, kit_ty (by decide +kernel), ?_⟩
      exact ⟨_, rfl, k⟩
    | str y =>
      refine ⟨_, rfl, _, _, _, _, false, rfl, .ty "int", .base (.str y), kit_ty (by decide +kernel), ?_⟩
      exact ⟨_, rfl, k⟩
    | tup a xs ha =>
      refine ⟨_, rfl, _, _, _, _, false, rfl, .ty "int", .base (.tup ha), kit_ty (by decide +kernel), ?_⟩
      exact ⟨_, rfl, k⟩
    | lst a xs ha =>
      refine ⟨_, rfl, _, _, _, _, false, rfl, .ty "int", .base (.lst ha), kit_ty (by decide +kernel), ?_⟩
      exact ⟨_, rfl, k⟩
def spIsBetween : Sp := fun vs H Q _ => ∃ (x : V) (a b : Int), vs = [x, .int a, .int b] ∧ Ob H x ∧ Q (.bl (inB x a b)) H
theorem scIsBetween : FnScope ["x", "least", "most"] ["x", "least", "most"] (defScope sIsBetween) := ⟨rfl, rfl, rfl, by decide +kernel, rfl, by decide +kernel, by decide +kernel⟩
theorem okIsBetween {f fI : Addr} {fd fdI : FuncData} (F : Fun K "is_between" "is_between" sIsBetween f fd) (GI : FnOk P w K mg base CX0 1 fI fdI ["x"] spIsInteger) (kI : PySem.W.keepIn K (.ref fI) = true) (gI : mg "is_integer" = some (.ref fI)) (bI : Binds K fdI ["x"] []) :
    FnOk P w K mg base CX0 2 f fd ["x", "least", "most"] spIsBetween := by
  refine F.ok scIsBetween (fun vs H Q E h => ?_) (fun cdv A outer s H vs Q E hr h => ?_)
  · obtain ⟨x, y, z, rfl, _⟩ := h
    rfl
  · obtain ⟨x, a, b, rfl, ob, k⟩ := h
    refine ⟨_, pss_one (ps_ret (pe_and (pe_call GI hr (by rfl) gI kI bI .nil pass0 (pa_cons (pv 0) pa_nil)) (pe_one (pe_chain op_le op_le (pv 1) (pv 0) (pv 2))))), ?_⟩
    walk_at "wn"
    refine ⟨x, rfl, ob, ?_⟩
    walk_at "wn"
    by_cases hi : ∃ i, x = .int i
    · obtain ⟨i, rfl⟩ := hi
      refine ⟨_, rfl, _, rfl, a, i, rfl, rfl, _, rfl, ?_⟩
      have k : Q (.bl (decide (a ≤ i) && decide (i ≤ b))) H := k
      refine ite2 (fun hc => ?_) (fun hc => ?_)
      · rw [hc, Bool.true_and] at k
        exact ⟨_, rfl, i, b, rfl, rfl, k⟩
      · rw [Bool.eq_false_iff.mpr hc, Bool.false_and] at k
        exact k
    · have e : isI x = false := by cases x <;> first | rfl | exact absurd ⟨_, rfl⟩ hi
      have e2 : inB x a b = false := by cases x <;> first | rfl | exact absurd ⟨_, rfl⟩ hi
      rw [e2] at k
      rw [e]
      exact k
end

/-! the classes of the program -/
structure ClsF (K : PySem.W.Frag) (C : Addr) (fs : List Str) : Prop where
  cl : Cls K C
  no : ∀ f ∈ fs, NoAttr K C f
abbrev wsF : List Str := ["entries", "queue"]
def wsO (C dx e q : Addr) : HO := .ins C dx [("entries", .ref e), ("queue", .ref q)]
abbrev sysF : List Str := ["process_limit", "number_limit", "tables", "sources", "sets", "next_thing"]
theorem Same.new' {H : Hp} {l : Addr} {o : HO} (hl : H l = none) : Same H (upd H l o) := fun b u e => by rw [upd_ne (ne_of_none e hl)]; exact e
def entKV (ls : List Int) (ad : Int → Addr) : List (Key × V) := ls.map fun l => (Sum.inl l, .ref (ad l))
theorem ent_val (ls : List Int) (ad : Int → Addr) (l : Int) : valV (entKV ls ad) (Sum.inl l) = if l ∈ ls then some (.ref (ad l)) else none := by
  induction ls with
  | nil => rfl
  | cons x ls ih =>
    unfold entKV at ih ⊢
    rw [List.map_cons]
    by_cases h : x = l
    · subst h
      rw [valV_pos rfl, if_pos List.mem_cons_self]
    · rw [valV_neg (fun z => h (Sum.inl.inj z)), ih]
      by_cases h2 : l ∈ ls
      · rw [if_pos h2, if_pos (List.mem_cons_of_mem _ h2)]
      · rw [if_neg h2, if_neg fun z => (List.mem_cons.mp z).elim (fun e => h e.symm) h2]
theorem ent_put (ls : List Int) (ad : Int → Addr) (l : Int) (b : Addr) : putK (entKV ls ad) (Sum.inl l) (.ref b) = entKV (if l ∈ ls then ls else ls ++ [l]) (fun j => if j = l then b else ad j) := by
  unfold putK
  rw [valV_any, ent_val]
  by_cases h : l ∈ ls
  · rw [if_pos h, if_pos h]
    show List.map _ (entKV ls ad) = _
    unfold entKV
    rw [List.map_map]
    refine List.map_congr_left fun x _ => ?_
    by_cases e : x = l
    · show (if (Sum.inl x : Key) = Sum.inl l then _ else _) = _
      rw [if_pos (by rw [e])]
      show (_, V.ref b) = (_, V.ref (if x = l then b else ad x))
      rw [if_pos e]
    · show (if (Sum.inl x : Key) = Sum.inl l then _ else _) = _
      rw [if_neg (fun z => e (Sum.inl.inj z))]
      show _ = (_, V.ref (if x = l then b else ad x))
      rw [if_neg e]
  · rw [if_neg h, if_neg h]
    show entKV ls ad ++ _ = _
    unfold entKV
    rw [List.map_append]
    have e1 : ls.map (fun j => ((Sum.inl j : Key), V.ref (if j = l then b else ad j))) = ls.map fun j => (Sum.inl j, V.ref (ad j)) := List.map_congr_left fun x hx => by rw [if_neg fun z : x = l => h (by rw [← z]; exact hx)]
    rw [e1]
    congr 1
    show [(_, V.ref b)] = [(_, V.ref (if l = l then b else ad l))]
    rw [if_pos rfl]

abbrev sSysInit : Stmt := meth 18 2
abbrev sNewSource : Stmt := meth 18 4
abbrev sContains : Stmt := meth 18 30
abbrev sTableOf : Stmt := meth 18 32
abbrev sIsTabNum : Stmt := meth 18 33
abbrev sThingAt : Stmt := meth 18 34
abbrev sFreeNum : Stmt := meth 18 37
abbrev sNewThing : Stmt := meth 18 39
/-! a system, its cells and what stands in them -/
inductive Cell
  | box | tabD | srcD | setD
  | tab (p : Int) | srcT (t : Int) | ws (s : Int) | ent (s : Int) | que (s : Int)
  deriving DecidableEq
structure Sys where
  P : Int
  N : Int
  next : Int
  procs : List Int
  tab : Int → List (Option Int)
  srcs : List Int
  unit : Int → Int × Bool
  sets : List Int
def live (S : Sys) : Cell → Prop
  | .box | .tabD | .srcD | .setD => True
  | .tab p => p ∈ S.procs
  | .srcT t => t ∈ S.srcs
  | .ws s | .ent s | .que s => s ∈ S.sets
def optV : Option Int → V
  | none => .non
  | some t => .int t
def sysO (CS dx : Addr) (S : Sys) (t s u : Addr) : HO := .ins CS dx [("process_limit", .int S.P), ("number_limit", .int S.N), ("tables", .ref t), ("sources", .ref s), ("sets", .ref u), ("next_thing", .int S.next)]
structure Cs where
  S : Addr
  W : Addr
def co (C : Cs) (S : Sys) (ad dx : Cell → Addr) : Cell → HO
  | .box => sysO C.S (dx .box) S (ad .tabD) (ad .srcD) (ad .setD)
  | .tabD => .dK (entKV S.procs fun p => ad (.tab p))
  | .srcD => .dK (entKV S.srcs fun t => ad (.srcT t))
  | .setD => .dK (entKV S.sets fun s => ad (.ws s))
  | .tab p => .lst ((S.tab p).map optV)
  | .srcT t => .tup [.int (S.unit t).1, .bl (S.unit t).2]
  | .ws s => wsO C.W (dx (.ws s)) (ad (.ent s)) (ad (.que s))
  | .ent _ => .dK []
  | .que _ => .lst []
structure At (C : Cs) (H : Hp) (S : Sys) (ad dx : Cell → Addr) : Prop where
  at_ : ∀ c, live S c → H (ad c) = some (co C S ad dx c)
  inj : ∀ c c', live S c → live S c' → ad c = ad c' → c = c'
def own (S : Sys) (ad : Cell → Addr) (b : Addr) : Prop := ∃ c, live S c ∧ ad c = b
/-- what lies outside stays; what comes in is new -/
structure Step (H : Hp) (S : Sys) (ad : Cell → Addr) (H' : Hp) (S' : Sys) (ad' : Cell → Addr) : Prop where
  keep : ∀ b o, ¬ own S ad b → H b = some o → H' b = some o
  new : ∀ b, own S' ad' b → own S ad b ∨ H b = none
  box : ad' .box = ad .box
section
variable {C : Cs} {H H' H2 : Hp} {S S' S2 : Sys} {ad ad' ad2 dx dx' : Cell → Addr}
theorem Step.refl : Step H S ad H S ad := ⟨fun _ _ _ z => z, fun _ z => .inl z, rfl⟩
theorem Step.trans (a : Step H S ad H' S' ad') (b : Step H' S' ad' H2 S2 ad2) : Step H S ad H2 S2 ad2 := by
  refine ⟨fun x o n e => b.keep x o (fun z => ?_) (a.keep x o n e), fun x z => ?_, b.box.trans a.box⟩
  · rcases a.new x z with y | y
    · exact n y
    · rw [y] at e
      cases e
  · rcases b.new x z with y | y
    · exact a.new x y
    · cases e : H x with
      | none => exact .inr rfl
      | some o =>
        by_cases w : own S ad x
        · exact .inl w
        · rw [a.keep x o w e] at y
          cases y
theorem Step.same (s : Same H H') : Step H S ad H' S ad := ⟨fun b o _ e => s _ _ e, fun _ z => .inl z, rfl⟩
theorem At.same (A : At C H S ad dx) (s : Same H H') : At C H' S ad dx := ⟨fun c hc => s _ _ (A.at_ c hc), A.inj⟩
theorem At.ne (A : At C H S ad dx) {c c' : Cell} (h : live S c) (h' : live S c') (n : c ≠ c') : ad c ≠ ad c' := fun z => n (A.inj c c' h h' z)
theorem At.new (A : At C H S ad dx) {c : Cell} {l : Addr} (h : live S c) (n : H l = none) : ad c ≠ l := ne_of_none (A.at_ c h) n
/-- where the cells' addresses stay -/
theorem At.re (A : At C H S ad dx) (hl : ∀ c, live S' c ↔ live S c) (h : ∀ c, live S c → (H' (ad c) = some (co C S' ad dx c)) ∨ (co C S' ad dx c = co C S ad dx c ∧ H' (ad c) = H (ad c))) : At C H' S' ad dx := by
  refine ⟨fun c hc => ?_, fun c c' h1 h2 => A.inj c c' ((hl c).mp h1) ((hl c').mp h2)⟩
  have hc := (hl c).mp hc
  rcases h c hc with e | ⟨e1, e2⟩
  · exact e
  · rw [e1, e2]
    exact A.at_ c hc
theorem Step.re (hl : ∀ c, live S' c ↔ live S c) (h : ∀ b o, ¬ own S ad b → H b = some o → H' b = some o) : Step H S ad H' S' ad := ⟨h, fun b ⟨c, h1, h2⟩ => .inl ⟨c, (hl c).mp h1, h2⟩, rfl⟩
end
section
variable {P : Program} {w : World} {K : PySem.W.Frag} {mg : Str → Option Value} {base : Heap} {C : Cs}
structure MO (P : Program) (w : World) (K : PySem.W.Frag) (mg : Str → Option Value) (base : Heap) (k : Nat) (C : Addr) (m : Str) (ps : List Str) (sp : Sp) (f : Addr) (fd : FuncData) : Prop where
  g : FnOk P w K mg base CX0 k f fd ps sp
  m : Meth K C m f
  b : Binds K fd ps []
structure DO (P : Program) (w : World) (K : PySem.W.Frag) (mg : Str → Option Value) (base : Heap) (k : Nat) (x : Str) (ps : List Str) (sp : Sp) (f : Addr) (fd : FuncData) : Prop where
  g : FnOk P w K mg base CX0 k f fd ps sp
  k : PySem.W.keepIn K (.ref f) = true
  m : mg x = some (.ref f)
  b : Binds K fd ps []
/-- a call on a system -/
def OnSys (C : Cs) (vs : List V) (H : Hp) (rest : List V) (k : Sys → (Cell → Addr) → (Cell → Addr) → Prop) : Prop := ∃ (S : Sys) (ad dx : Cell → Addr), vs = .ref (ad .box) :: rest ∧ At C H S ad dx ∧ k S ad dx
def spContains (C : Cs) : Sp := fun vs H Q _ => ∃ p : Int, OnSys C vs H [.int p] fun S _ _ => Q (.bl (decide (p ∈ S.procs))) H
theorem scContains : FnScope ["self", "x"] ["self", "x"] (defScope sContains) := ⟨rfl, rfl, rfl, by decide +kernel, rfl, by decide +kernel, by decide +kernel⟩
theorem okContains {f fI : Addr} {fd fdI : FuncData} (F : Fun K "__contains__" "System.__contains__" sContains f fd) (T : ClsF K C.S sysF) (GI : DO P w K mg base 1 "is_integer" ["x"] spIsInteger fI fdI) : FnOk P w K mg base CX0 2 f fd ["self", "x"] (spContains C) := by
  refine F.ok scContains (fun vs H Q E h => ?_) (fun cdv A outer s H vs Q E hr h => ?_)
  · obtain ⟨_, _, _, _, rfl, _⟩ := h
    rfl
  · obtain ⟨p, S, ad, dx, rfl, A0, k⟩ := h
    have hu := hu_of hr
    refine ⟨_, pss_one (ps_ret (pe_and (pe_call GI.g hr (by rfl) GI.m GI.k GI.b .nil pass0 (pa_cons (pv 1) pa_nil)) (pe_one (pe_cmp (pc_din hu (pv 1) (pe_fld (pv 0) rfl)) rfl)))), ?_⟩
    walk_at "wn"
    refine ⟨_, rfl, .int p, ?_⟩
    walk_at "wn"
    refine ⟨_, rfl, _, rfl, ad .box, C.S, dx .box, _, _, rfl, A0.at_ .box trivial, T.cl, T.no _ (by decide), rfl, ?_⟩
    refine ⟨ad .tabD, _, rfl, DGet.k (k := Sum.inl p) (A0.at_ .tabD trivial), ?_⟩
    rw [ent_val]
    by_cases hp : p ∈ S.procs
    · rw [if_pos hp]
      rw [decide_eq_true hp] at k
      exact k
    · rw [if_neg hp]
      rw [decide_eq_false hp] at k
      exact k
def spTableOf (C : Cs) : Sp := fun vs H Q _ => ∃ p : Int, OnSys C vs H [.int p] fun S ad _ => p ∈ S.procs ∧ Q (.ref (ad (.tab p))) H
theorem scTableOf : FnScope ["self", "process"] ["self", "process"] (defScope sTableOf) := ⟨rfl, rfl, rfl, by decide +kernel, rfl, by decide +kernel, by decide +kernel⟩
theorem okTableOf {f fC : Addr} {fd fdC : FuncData} (F : Fun K "table_of" "System.table_of" sTableOf f fd) (T : ClsF K C.S sysF) (GC : MO P w K mg base 2 C.S "__contains__" ["self", "x"] (spContains C) fC fdC) : FnOk P w K mg base CX0 3 f fd ["self", "process"] (spTableOf C) := by
  refine F.ok scTableOf (fun vs H Q E h => ?_) (fun cdv A outer s H vs Q E hr h => ?_)
  · obtain ⟨_, _, _, _, rfl, _⟩ := h
    rfl
  · obtain ⟨p, S, ad, dx, rfl, A0, hp, k⟩ := h
    have hu := hu_of hr
    refine ⟨_, pss_cons (ps_if (pt_cmpR (op_ownNotIn GC.g hr GC.m.at_ GC.m.fn GC.b pass0) (pv 1) (pv 0) (by rfl)) (pss_one ps_never) pss_nil)
      (pss_one (ps_ret (pe_dget hu (pe_fld (pv 0) rfl) (pv 1) (fun _ _ => rfl)))), ?_⟩
    walk_at "wn"
    refine ⟨ad .box, dx .box, _, rfl, A0.at_ .box trivial, p, S, ad, dx, rfl, A0, _, rfl, ?_⟩
    rw [decide_eq_true hp]
    walk_at "wn"
    refine ⟨_, rfl, ad .box, C.S, dx .box, _, _, rfl, A0.at_ .box trivial, T.cl, T.no _ (by decide), rfl, ?_⟩
    have hv : valV (entKV S.procs fun p => ad (.tab p)) (Sum.inl p) = some (.ref (ad (.tab p))) := by rw [ent_val, if_pos hp]
    exact ⟨_, rfl, ad .tabD, _, rfl, hv ▸ DGet.k (k := Sum.inl p) (A0.at_ .tabD trivial), k⟩
def spIsTabNum (C : Cs) : Sp := fun vs H Q _ => ∃ n : V, OnSys C vs H [n] fun S _ _ => Ob H n ∧ Q (.bl (inB n 0 (S.N - 1))) H
theorem scIsTabNum : FnScope ["self", "number"] ["self", "number"] (defScope sIsTabNum) := ⟨rfl, rfl, rfl, by decide +kernel, rfl, by decide +kernel, by decide +kernel⟩
theorem okIsTabNum {f fB : Addr} {fd fdB : FuncData} (F : Fun K "is_table_number" "System.is_table_number" sIsTabNum f fd) (T : ClsF K C.S sysF) (GB : DO P w K mg base 2 "is_between" ["x", "least", "most"] spIsBetween fB fdB) : FnOk P w K mg base CX0 3 f fd ["self", "number"] (spIsTabNum C) := by
  refine F.ok scIsTabNum (fun vs H Q E h => ?_) (fun cdv A outer s H vs Q E hr h => ?_)
  · obtain ⟨_, _, _, _, rfl, _⟩ := h
    rfl
  · obtain ⟨n, S, ad, dx, rfl, A0, ob, k⟩ := h
    refine ⟨_, pss_one (ps_ret (pe_call GB.g hr (by rfl) GB.m GB.k GB.b .nil pass0 (pa_cons (pv 1) (pa_cons pe_int (pa_cons (pe_op op_sub (pe_fld (pv 0) rfl) pe_int) pa_nil))))), ?_⟩
    walk_at "wn"
    refine ⟨_, rfl, ad .box, C.S, dx .box, _, _, rfl, A0.at_ .box trivial, T.cl, T.no _ (by decide), rfl, ?_⟩
    walk_at "wn"
    exact ⟨n, 0, S.N - 1, rfl, ob, k⟩
/-- a number that means a thing -/
structure Means (S : Sys) (p n t : Int) : Prop where
  pr : p ∈ S.procs
  lo : 0 ≤ n
  hi : n ≤ S.N - 1
  at_ : (S.tab p)[n.toNat]? = some (some t)
/-! free_number -/
def firstFree (t : List (Option Int)) (n : Nat) : Prop := t[n]? = some none ∧ ∀ i, i < n → ∃ x, t[i]? = some (some x)
structure SysTxt (mg : Str → Option Value) : Prop where
  enum : mg "enumerate" = none
  list : mg "list" = none
  min : mg "min" = none
end

section
variable {C : Cs} {H H' H2 : Hp} {S S' S2 : Sys} {ad ad' ad2 dx dx' : Cell → Addr}
/-- some cells are written, made or stand elsewhere; the others stay -/
theorem At.re3 (ch : List Cell) (A : At C H S ad dx) (hl : ∀ c, live S' c → c ∈ ch ∨ live S c) (h1 : ∀ c ∈ ch, live S' c → H' (ad' c) = some (co C S' ad' dx' c)) (h2 : ∀ c, c ∉ ch → live S c → ad' c = ad c ∧ co C S' ad' dx' c = co C S ad dx c)
    (fresh : ∀ c ∈ ch, live S' c → (ad' c = ad c ∧ live S c) ∨ H (ad' c) = none) (dist : ∀ c ∈ ch, ∀ c' ∈ ch, live S' c → live S' c' → H (ad' c) = none → ad' c = ad' c' → c = c')
    (k : ∀ b o, (∀ c ∈ ch, live S c → b ≠ ad c) → H b = some o → H' b = some o) (box : ad' .box = ad .box) : At C H' S' ad' dx' ∧ Step H S ad H' S' ad' := by
  have out : ∀ c, c ∉ ch → live S' c → live S c := fun c hc l => (hl c l).resolve_left hc
  have keep : ∀ c, c ∉ ch → live S c → H' (ad c) = H (ad c) := fun c hc l => by
    rw [A.at_ c l]
    exact k _ _ (fun c' hc' l' z => hc (by rw [A.inj c c' l l' z]; exact hc')) (A.at_ c l)
  refine ⟨⟨fun c l => ?_, fun c c' l l' z => ?_⟩, ⟨fun b o n e => k b o (fun c hc lc z => n ⟨c, lc, z.symm⟩) e, fun b ⟨c, l, e⟩ => ?_, box⟩⟩
  · by_cases hc : c ∈ ch
    · exact h1 c hc l
    · have ls := out c hc l
      obtain ⟨e1, e2⟩ := h2 c hc ls
      rw [e1, e2, keep c hc ls]
      exact A.at_ c ls
  · have some_ : ∀ c, c ∉ ch → live S' c → H (ad' c) ≠ none := fun c hc l z => by
      have ls := out c hc l
      rw [(h2 c hc ls).1, A.at_ c ls] at z
      cases z
    by_cases hc : c ∈ ch
    · by_cases hc' : c' ∈ ch
      · rcases fresh c hc l with f | f
        · rcases fresh c' hc' l' with f' | f'
          · exact A.inj c c' f.2 f'.2 (by rw [← f.1, ← f'.1, z])
          · rw [← z, f.1, A.at_ c f.2] at f'
            cases f'
        · exact dist c hc c' hc' l l' f z
      · rcases fresh c hc l with f | f
        · have ls := out c' hc' l'
          exact A.inj c c' f.2 ls (by rw [← f.1, z, (h2 c' hc' ls).1])
        · rw [z] at f
          exact absurd f (some_ c' hc' l')
    · have ls := out c hc l
      by_cases hc' : c' ∈ ch
      · rcases fresh c' hc' l' with f | f
        · exact A.inj c c' ls f.2 (by rw [← f.1, ← z, (h2 c hc ls).1])
        · rw [← z] at f
          exact absurd f (some_ c hc l)
      · have ls' := out c' hc' l'
        exact A.inj c c' ls ls' (by rw [← (h2 c hc ls).1, z, (h2 c' hc' ls').1])
  · by_cases hc : c ∈ ch
    · rcases fresh c hc l with f | f
      · exact .inl ⟨c, f.2, by rw [← f.1]; exact e⟩
      · rw [e] at f
        exact .inr f
    · have ls := out c hc l
      exact .inl ⟨c, ls, by rw [← (h2 c hc ls).1]; exact e⟩
/-- where the addresses stay -/
theorem At.re2 (ch : List Cell) (A : At C H S ad dx) (hl : ∀ c, live S' c → live S c) (lv : ∀ c ∈ ch, live S c) (h1 : ∀ c ∈ ch, H' (ad c) = some (co C S' ad dx c)) (h2 : ∀ c, c ∉ ch → live S c → co C S' ad dx c = co C S ad dx c)
    (k : ∀ b o, (∀ c ∈ ch, b ≠ ad c) → H b = some o → H' b = some o) : At C H' S' ad dx ∧ Step H S ad H' S' ad :=
  At.re3 ch A (fun c l => .inr (hl c l)) (fun c hc _ => h1 c hc) (fun c hc l => ⟨rfl, h2 c hc l⟩) (fun c hc l => .inl ⟨rfl, hl c l⟩) (fun c hc c' hc' l l' _ z => A.inj c c' (hl c l) (hl c' l') z)
    (fun b o n e => k b o (fun c hc => n c hc (lv c hc)) e) rfl
theorem At.not_own (A : At C H S ad dx) {l : Addr} (n : H l = none) : ¬ own S ad l := fun ⟨c, h, e⟩ => by
  rw [← e, A.at_ c h] at n
  cases n
end
theorem nodup_idx {α : Type} : ∀ {l : List α} {i j : Nat} {a : α}, l.Nodup → l[i]? = some a → l[j]? = some a → i = j
  | [], i, _, _, _, h, _ => by simp at h
  | _ :: _, 0, 0, _, _, _, _ => rfl
  | x :: l, 0, j + 1, a, nd, h, h' => by
    obtain rfl : x = a := by simpa using h
    exact absurd (List.mem_of_getElem? (show l[j]? = some x from h')) (List.nodup_cons.mp nd).1
  | x :: l, i + 1, 0, a, nd, h, h' => by
    obtain rfl : x = a := by simpa using h'
    exact absurd (List.mem_of_getElem? (show l[i]? = some x from h)) (List.nodup_cons.mp nd).1
  | x :: l, i + 1, j + 1, a, nd, h, h' => by rw [nodup_idx (List.nodup_cons.mp nd).2 (show l[i]? = some a from h) (show l[j]? = some a from h')]
def newThing (S : Sys) (p : Int) (n : Nat) : Sys := { S with next := S.next + 1, tab := fun q => if q = p then (S.tab p).set n (some S.next) else S.tab q }

def setA (ad : Cell → Addr) (c0 : Cell) (T : Addr) : Cell → Addr := fun c => if c = c0 then T else ad c
theorem setA_same {ad : Cell → Addr} {c0 : Cell} {T : Addr} : setA ad c0 T c0 = T := if_pos rfl
theorem setA_ne {ad : Cell → Addr} {c0 c : Cell} {T : Addr} (h : c ≠ c0) : setA ad c0 T c = ad c := if_neg h
theorem srcT_fun (ad : Cell → Addr) (t : Int) (T : Addr) : (fun j => if j = t then T else ad (.srcT j)) = fun j => setA ad (.srcT t) T (.srcT j) := by
  funext j
  by_cases h : j = t
  · rw [if_pos h, h, setA_same]
  · rw [if_neg h, setA_ne fun z => h (by cases z; rfl)]

def newSys (P N : Int) : Sys where
  P := P
  N := N
  next := 0
  procs := [0]
  tab := fun _ => List.replicate N.toNat none
  srcs := []
  unit := fun _ => (0, false)
  sets := []
section
variable {P : Program} {w : World} {K : PySem.W.Frag} {mg : Str → Option Value} {base : Heap} {C : Cs}
structure LimTxt (K : PySem.W.Frag) (mg : Str → Option Value) (CS : Addr) : Prop where
  lp : ∃ t, mg "LEAST_PROCESSES" = some (.int 2 t)
  ln : ∃ t, mg "LEAST_NUMBERS" = some (.int 3 t)
  mp : ∃ u, Con K CS "MOST_PROCESSES" (.int 6) u
  mn : ∃ u, Con K CS "MOST_NUMBERS" (.int 8) u
def spSysInit (C : Cs) : Sp := fun vs H Q _ => ∃ (x dx0 : Addr) (p n : Int), vs = [.ref x, .int p, .int n] ∧ H x = some (.ins C.S dx0 []) ∧ 2 ≤ p ∧ p ≤ 6 ∧ 3 ≤ n ∧ n ≤ 8 ∧
  ∀ H' ad dx, ad .box = x → At C H' (newSys p n) ad dx → (∀ b o, b ≠ x → H b = some o → H' b = some o) → (∀ b, own (newSys p n) ad b → b = x ∨ H b = none) → Q .non H'
theorem scSysInit : FnScope ["self", "processes", "numbers"] ["self", "processes", "numbers"] (defScope sSysInit) := ⟨rfl, rfl, rfl, by decide +kernel, rfl, by decide +kernel, by decide +kernel⟩
def initA (x td sd ud tl : Addr) : Cell → Addr
  | .box => x
  | .tabD => td
  | .srcD => sd
  | .setD => ud
  | _ => tl
theorem okSysInit {dvs : List V} {kws : List (Str × V)} {f fB : Addr} {fd fdB : FuncData} (F : FunD K "__init__" "System.__init__" (defArgs sSysInit) (defBody sSysInit) (defScope sSysInit) dvs kws f fd) (T : ClsF K C.S sysF) (L : LimTxt K mg C.S)
    (GB : DO P w K mg base 2 "is_between" ["x", "least", "most"] spIsBetween fB fdB) : FnOk P w K mg base CX0 3 f fd ["self", "processes", "numbers"] (spSysInit C) := by
  refine F.ok scSysInit (fun vs H Q E h => ?_) (fun cdv A outer s H vs Q E hr h => ?_)
  · obtain ⟨_, _, _, _, rfl, _⟩ := h
    rfl
  · obtain ⟨x, dx0, p, n, rfl, hx, p0, p1, n0, n1, k⟩ := h
    obtain ⟨tp, lp⟩ := L.lp
    obtain ⟨tn, ln⟩ := L.ln
    obtain ⟨up, mp⟩ := L.mp
    obtain ⟨un, mn⟩ := L.mn
    refine ⟨_, pss_cons (ps_if (pt_not (pt_val (pe_call GB.g hr (by rfl) GB.m GB.k GB.b .nil pass0 (pa_cons (pv 1) (pa_cons (pe_glob (v := .int 2) (by rfl) lp ⟨_, rfl⟩) (pa_cons (pe_con (pv 0) rfl) pa_nil)))))) (pss_one ps_never) pss_nil)
      (pss_cons (ps_if (pt_not (pt_val (pe_call GB.g hr (by rfl) GB.m GB.k GB.b .nil pass0 (pa_cons (pv 2) (pa_cons (pe_glob (v := .int 3) (by rfl) ln ⟨_, rfl⟩) (pa_cons (pe_con (pv 0) rfl) pa_nil)))))) (pss_one ps_never) pss_nil)
      (pss_cons (ps_fld (pv 0) (pv 1) rfl) (pss_cons (ps_fld (pv 0) (pv 2) rfl)
      (pss_cons (ps_fld (pv 0) (pe_disp (pps_cons pe_int (pe_op op_rep (pe_lst (pa_cons pe_non pa_nil)) (pv 2)) pps_nil) (by rfl) (by rfl) (fun z => by cases z) (by decide)) rfl)
      (pss_cons (ps_fld (pv 0) pe_dnewK rfl) (pss_cons (ps_fld (pv 0) pe_dnewK rfl) (pss_one (ps_fld (pv 0) pe_int rfl)))))))), ?_⟩
    walk_at "wn"
    refine ⟨_, rfl, x, C.S, dx0, _, _, _, rfl, hx, T.cl, mp, rfl, ?_⟩
    refine ⟨.int p, 2, 6, rfl, .int p, ?_⟩
    rw [show inB (.int p) 2 6 = (decide (2 ≤ p) && decide (p ≤ 6)) from rfl, decide_eq_true p0, decide_eq_true p1]
    refine ⟨_, rfl, ?_⟩
    walk_at "wn"
    refine ⟨_, rfl, _, rfl, x, C.S, dx0, _, _, _, rfl, hx, T.cl, mn, rfl, ?_⟩
    refine ⟨.int n, 3, 8, rfl, .int n, ?_⟩
    rw [show inB (.int n) 3 8 = (decide (3 ≤ n) && decide (n ≤ 8)) from rfl, decide_eq_true n0, decide_eq_true n1]
    refine ⟨_, rfl, ?_⟩
    refine ⟨_, rfl, _, rfl, x, C.S, dx0, _, rfl, hx, T.cl, T.no _ (by decide), by show 0 < 1000; decide, ?_⟩
    refine ⟨_, rfl, _, rfl, x, C.S, dx0, _, rfl, upd_same, T.cl, T.no _ (by decide), by show 1 < 1000; decide, ?_⟩
    have g1 : ∀ b o, b ≠ x → H b = some o → upd (upd H x (.ins C.S dx0 (putF "process_limit" (V.int p) []))) x (.ins C.S dx0 (putF "number_limit" (V.int n) (putF "process_limit" (V.int p) []))) b = some o := fun b o nb e => by rw [upd_ne nb, upd_ne nb]; exact e
    have x1 : upd (upd H x (.ins C.S dx0 (putF "process_limit" (V.int p) []))) x (.ins C.S dx0 (putF "number_limit" (V.int n) (putF "process_limit" (V.int p) []))) x = some (.ins C.S dx0 [("process_limit", .int p), ("number_limit", .int n)]) := upd_same
    generalize upd (upd H x (.ins C.S dx0 (putF "process_limit" (V.int p) []))) x (.ins C.S dx0 (putF "number_limit" (V.int n) (putF "process_limit" (V.int p) []))) = H1 at g1 x1
    have fr : ∀ {H' : Hp} {l : Addr}, (∀ b o, b ≠ x → H b = some o → H' b = some o) → H' l = none → l ≠ x → H l = none := fun {H'} {l} g e nl => by
      cases z : H l with
      | none => rfl
      | some o => rw [g l o nl z] at e; cases e
    intro td htd
    have ntx : td ≠ x := fun z => by rw [z, x1] at htd; cases htd
    have s2 := Same.new' (o := .dK []) htd
    refine ⟨by show 1 ≤ sizeLine; decide, fun l0 hl0 => ?_⟩
    have s3 := Same.new' (o := .lst [V.non]) hl0
    have l0' : upd (upd H1 td (.dK [])) l0 (.lst [V.non]) l0 = some (.lst [V.non]) := upd_same
    refine ⟨_, rfl, l0, n, _, rfl, rfl, l0', by omega, by omega, ?_, fun tl htl => ?_⟩
    · show 1 * n.toNat ≤ sizeLine
      rw [sizeLine_eq]
      omega
    have s4 := Same.new' (o := .lst (List.replicate n.toNat [V.non]).flatten) htl
    have td4 : upd (upd (upd H1 td (.dK [])) l0 (.lst [V.non])) tl (.lst (List.replicate n.toNat [V.non]).flatten) td = some (.dK []) := s4 _ _ (s3 _ _ upd_same)
    have x4 := s4 _ _ (s3 _ _ (s2 _ _ x1))
    have tl4 : upd (upd (upd H1 td (.dK [])) l0 (.lst [V.non])) tl (.lst (List.replicate n.toNat [V.non]).flatten) tl = some (.lst (List.replicate n.toNat [V.non]).flatten) := upd_same
    have g4 : ∀ b o, b ≠ x → H b = some o → upd (upd (upd H1 td (.dK [])) l0 (.lst [V.non])) tl (.lst (List.replicate n.toNat [V.non]).flatten) b = some o := fun b o nb e => s4 _ _ (s3 _ _ (s2 _ _ (g1 b o nb e)))
    have hd0 : H td = none := fr g1 htd ntx
    have ntlx : tl ≠ x := fun z => by rw [z] at htl; rw [s3 _ _ (s2 _ _ x1)] at htl; cases htl
    have htl0 : H tl = none := fr (H' := upd (upd H1 td (.dK [])) l0 (.lst [V.non])) (fun b o nb e => s3 _ _ (s2 _ _ (g1 b o nb e))) htl ntlx
    generalize upd (upd (upd H1 td (.dK [])) l0 (.lst [V.non])) tl (.lst (List.replicate n.toNat [V.non]).flatten) = H4 at td4 x4 tl4 g4
    have ntd : tl ≠ td := ne_of tl4 td4 (by intro z; cases z)
    refine ⟨td4, [(Sum.inl 0, .ref tl)], rfl, by show 1 ≤ 15; decide, ?_⟩
    have g5 : ∀ b o, b ≠ x → H b = some o → upd H4 td (.dK (mergeK [] [((Sum.inl 0 : Key), V.ref tl)])) b = some o := fun b o nb e => by rw [upd_ne (ne_of_none e hd0)]; exact g4 b o nb e
    have x5 : upd H4 td (.dK (mergeK [] [((Sum.inl 0 : Key), V.ref tl)])) x = _ := (upd_ne (Ne.symm ntx)).trans x4
    have tl5 : upd H4 td (.dK (mergeK [] [((Sum.inl 0 : Key), V.ref tl)])) tl = _ := (upd_ne ntd).trans tl4
    have td5 : upd H4 td (.dK (mergeK [] [((Sum.inl 0 : Key), V.ref tl)])) td = some (.dK [((Sum.inl 0 : Key), V.ref tl)]) := upd_same
    generalize upd H4 td (.dK (mergeK [] [((Sum.inl 0 : Key), V.ref tl)])) = H5 at g5 x5 tl5 td5
    refine ⟨_, rfl, x, C.S, dx0, _, rfl, x5, T.cl, T.no _ (by decide), by show 2 < 1000; decide, ?_⟩
    have g6 : ∀ b o, b ≠ x → H5 b = some o → upd H5 x (.ins C.S dx0 (putF "tables" (V.ref td) [("process_limit", .int p), ("number_limit", .int n)])) b = some o := fun b o nb e => by rw [upd_ne nb]; exact e
    have x6 : upd H5 x (.ins C.S dx0 (putF "tables" (V.ref td) [("process_limit", .int p), ("number_limit", .int n)])) x = some (.ins C.S dx0 [("process_limit", .int p), ("number_limit", .int n), ("tables", .ref td)]) := upd_same
    generalize upd H5 x (.ins C.S dx0 (putF "tables" (V.ref td) [("process_limit", .int p), ("number_limit", .int n)])) = H6 at g6 x6
    intro sd hsd
    have nsx : sd ≠ x := fun z => by rw [z, x6] at hsd; cases hsd
    have nst : sd ≠ td := fun z => by rw [z, g6 _ _ ntx td5] at hsd; cases hsd
    have hsd0 : H sd = none := fr (fun b o nb e => g6 b o nb (g5 b o nb e)) hsd nsx
    have s7 := Same.new' (o := .dK []) hsd
    refine ⟨_, rfl, x, C.S, dx0, _, rfl, s7 _ _ x6, T.cl, T.no _ (by decide), by show 3 < 1000; decide, ?_⟩
    have g8 : ∀ b o, b ≠ x → H6 b = some o → upd (upd H6 sd (.dK [])) x (.ins C.S dx0 (putF "sources" (V.ref sd) [("process_limit", .int p), ("number_limit", .int n), ("tables", .ref td)])) b = some o := fun b o nb e => by rw [upd_ne nb]; exact s7 _ _ e
    have sd8 : upd (upd H6 sd (.dK [])) x (.ins C.S dx0 (putF "sources" (V.ref sd) [("process_limit", .int p), ("number_limit", .int n), ("tables", .ref td)])) sd = some (.dK []) := by rw [upd_ne nsx]; exact upd_same
    have x8 : upd (upd H6 sd (.dK [])) x (.ins C.S dx0 (putF "sources" (V.ref sd) [("process_limit", .int p), ("number_limit", .int n), ("tables", .ref td)])) x = some (.ins C.S dx0 [("process_limit", .int p), ("number_limit", .int n), ("tables", .ref td), ("sources", .ref sd)]) := upd_same
    generalize upd (upd H6 sd (.dK [])) x (.ins C.S dx0 (putF "sources" (V.ref sd) [("process_limit", .int p), ("number_limit", .int n), ("tables", .ref td)])) = H8 at g8 sd8 x8
    intro ud hud
    have nux : ud ≠ x := fun z => by rw [z, x8] at hud; cases hud
    have nut : ud ≠ td := fun z => by rw [z, g8 _ _ ntx (g6 _ _ ntx td5)] at hud; cases hud
    have nus : ud ≠ sd := fun z => by rw [z, sd8] at hud; cases hud
    have hud0 : H ud = none := fr (fun b o nb e => g8 b o nb (g6 b o nb (g5 b o nb e))) hud nux
    have s9 := Same.new' (o := .dK []) hud
    refine ⟨_, rfl, x, C.S, dx0, _, rfl, s9 _ _ x8, T.cl, T.no _ (by decide), by show 4 < 1000; decide, ?_⟩
    refine ⟨_, rfl, x, C.S, dx0, _, rfl, upd_same, T.cl, T.no _ (by decide), by show 5 < 1000; decide, ?_⟩
    have fin : ∀ b o, b ≠ x → upd H8 ud (.dK []) b = some o → upd (upd (upd H8 ud (.dK [])) x (.ins C.S dx0 (putF "sets" (V.ref ud) [("process_limit", .int p), ("number_limit", .int n), ("tables", .ref td), ("sources", .ref sd)]))) x (.ins C.S dx0 (putF "next_thing" (V.int 0) (putF "sets" (V.ref ud) [("process_limit", .int p), ("number_limit", .int n), ("tables", .ref td), ("sources", .ref sd)]))) b = some o := fun b o nb e => by rw [upd_ne nb, upd_ne nb]; exact e
    have xf : upd (upd (upd H8 ud (.dK [])) x (.ins C.S dx0 (putF "sets" (V.ref ud) [("process_limit", .int p), ("number_limit", .int n), ("tables", .ref td), ("sources", .ref sd)]))) x (.ins C.S dx0 (putF "next_thing" (V.int 0) (putF "sets" (V.ref ud) [("process_limit", .int p), ("number_limit", .int n), ("tables", .ref td), ("sources", .ref sd)]))) x = some (sysO C.S dx0 (newSys p n) td sd ud) := upd_same
    generalize upd (upd (upd H8 ud (.dK [])) x (.ins C.S dx0 (putF "sets" (V.ref ud) [("process_limit", .int p), ("number_limit", .int n), ("tables", .ref td), ("sources", .ref sd)]))) x (.ins C.S dx0 (putF "next_thing" (V.int 0) (putF "sets" (V.ref ud) [("process_limit", .int p), ("number_limit", .int n), ("tables", .ref td), ("sources", .ref sd)]))) = HF at fin xf
    have tdF : HF td = some (.dK [((Sum.inl 0 : Key), V.ref tl)]) := fin _ _ ntx (s9 _ _ (g8 _ _ ntx (g6 _ _ ntx td5)))
    have sdF : HF sd = some (.dK []) := fin _ _ nsx (s9 _ _ sd8)
    have udF : HF ud = some (.dK []) := fin _ _ nux upd_same
    have tlF : HF tl = some (.lst (List.replicate n.toNat [V.non]).flatten) := fin _ _ ntlx (s9 _ _ (g8 _ _ ntlx (g6 _ _ ntlx tl5)))
    have et : (List.replicate n.toNat [V.non]).flatten = (List.replicate n.toNat (none : Option Int)).map optV := by
      rw [List.map_replicate]
      have : ∀ m : Nat, (List.replicate m [V.non]).flatten = List.replicate m V.non := by
        intro m
        induction m with
        | zero => rfl
        | succ m ih => rw [List.replicate_succ, List.flatten_cons, ih]; rfl
      exact this _
    rw [et] at tlF
    have lt0 : ∀ t, live (newSys p n) (.tab t) → t = 0 := fun t h => List.mem_singleton.mp h
    have no : ∀ t : Int, t ∉ ([] : List Int) := fun t h => nomatch h
    refine k HF (initA x td sd ud tl) (fun _ => dx0) rfl ⟨fun c hc => ?_, fun c c' hc hc' z => ?_⟩ (fun b o nb e => fin b o nb (s9 _ _ (g8 b o nb (g6 b o nb (g5 b o nb e))))) (fun b hb => ?_)
    · cases c with
      | box => exact xf
      | tabD => exact tdF
      | srcD => exact sdF
      | setD => exact udF
      | tab t => exact tlF
      | srcT t => exact absurd hc (no t)
      | ws t => exact absurd hc (no t)
      | ent t => exact absurd hc (no t)
      | que t => exact absurd hc (no t)
    · have n_xt : x ≠ td := Ne.symm ntx
      have n_ts : tl ≠ sd := ne_of tlF sdF (by intro z; cases z)
      have n_tu : tl ≠ ud := ne_of tlF udF (by intro z; cases z)
      have dead : ∀ {c : Cell}, live (newSys p n) c → c = .box ∨ c = .tabD ∨ c = .srcD ∨ c = .setD ∨ c = .tab 0 := fun {c} hc => by
        cases c with
        | box => exact .inl rfl
        | tabD => exact .inr (.inl rfl)
        | srcD => exact .inr (.inr (.inl rfl))
        | setD => exact .inr (.inr (.inr (.inl rfl)))
        | tab t => exact .inr (.inr (.inr (.inr (by rw [lt0 t hc]))))
        | srcT t => exact absurd hc (no t)
        | ws t => exact absurd hc (no t)
        | ent t => exact absurd hc (no t)
        | que t => exact absurd hc (no t)
      rcases dead hc with rfl | rfl | rfl | rfl | rfl <;> rcases dead hc' with rfl | rfl | rfl | rfl | rfl <;> first | rfl | (exfalso; revert z; first | exact fun z => n_xt z | exact fun z => n_xt z.symm | exact fun z => nsx z | exact fun z => nsx z.symm | exact fun z => nux z | exact fun z => nux z.symm | exact fun z => ntlx z | exact fun z => ntlx z.symm | exact fun z => nst z | exact fun z => nst z.symm | exact fun z => nut z | exact fun z => nut z.symm | exact fun z => nus z | exact fun z => nus z.symm | exact fun z => ntd z | exact fun z => ntd z.symm | exact fun z => n_ts z | exact fun z => n_ts z.symm | exact fun z => n_tu z | exact fun z => n_tu z.symm)
    · obtain ⟨c, hc, rfl⟩ := hb
      cases c with
      | box => exact .inl rfl
      | tabD => exact .inr hd0
      | srcD => exact .inr hsd0
      | setD => exact .inr hud0
      | tab t => exact .inr htl0
      | srcT t => exact absurd hc (no t)
      | ws t => exact absurd hc (no t)
      | ent t => exact absurd hc (no t)
      | que t => exact absurd hc (no t)
end

/-! own errors over any built-in base -/
structure BX (x : Str) (B newId initId : String) (tl : List Value) : Prop where
  bf : ExcBaseFacts B newId initId (.type B :: tl)
  sf : StoreFacts B (.type B :: tl) "object.__setattr__" "object"
  ty : typeOf (.type B) = pure (.type "type")
  st : Manifest.isStub B = false
  bo : bootBuiltins x = some (.type B)
  nn : x ≠ "__name__"
  nd : (x == ("__debug__" : Str)) = false
  hi : PySem.W.handedIn (.builtin initId) = true
theorem bxRuntime : BX "RuntimeError" "RuntimeError" "RuntimeError.__new__" "RuntimeError.__init__" [.type "Exception", .type "BaseException", .type "object"] := ⟨F.excBase_RuntimeError, F.store_RuntimeError, by kernel_rfl, by decide +kernel, PyProof.Rows.Boot.«RuntimeError», by decide, by decide, by decide +kernel⟩
theorem bxLookup : BX "LookupError" "LookupError" "LookupError.__new__" "LookupError.__init__" [.type "Exception", .type "BaseException", .type "object"] := ⟨F.excBase_LookupError, F.store_LookupError, by kernel_rfl, by decide +kernel, PyProof.Rows.Boot.«LookupError», by decide, by decide, by decide +kernel⟩
theorem bxOverflow : BX "OverflowError" "OverflowError" "OverflowError.__new__" "OverflowError.__init__" [.type "ArithmeticError", .type "Exception", .type "BaseException", .type "object"] := ⟨F.excBase_OverflowError, F.store_OverflowError, by kernel_rfl, by decide +kernel, PyProof.Rows.Boot.«OverflowError», by decide, by decide, by decide +kernel⟩
theorem bxType : BX "TypeError" "TypeError" "TypeError.__new__" "TypeError.__init__" [.type "Exception", .type "BaseException", .type "object"] := ⟨F.excBase_TypeError, F.store_TypeError, by kernel_rfl, by decide +kernel, PyProof.Rows.Boot.«TypeError», by decide, by decide, by decide +kernel⟩
theorem bxValue : BX "ValueError" "ValueError" "ValueError.__new__" "ValueError.__init__" [.type "Exception", .type "BaseException", .type "object"] := ⟨F.excBase_ValueError, F.store_ValueError, by kernel_rfl, by decide +kernel, PyProof.Rows.Boot.«ValueError», by decide, by decide, by decide +kernel⟩
/-- a class of the program's straight over the base with this mro -/
structure OxB (K : PySem.W.Frag) (C : Addr) (newId : String) (bm : List Value) : Prop where
  cls : ∃ nm q N bs sn sub ab col dd k0 k1 k2 k3 k5, K.lookup C = some (excClassObj nm q C N bs bm true sn sub ab col dd k0 k1 k2 k3 k5 newId)
  sa : PySem.W.findIn K (.ref C) "__setattr__" = some (some (.builtin "object.__setattr__"))
  exC : PySem.W.subIn K (.ref C) (.type "BaseException") = some true
  tyC : PySem.W.typeIn K (.ref C) = some (.type "type")
  kC : PySem.W.keepIn K (.ref C) = true
namespace OxB
variable {K : PySem.W.Frag} {C : Addr} {newId B : String} {tl : List Value}
theorem data (T : OxB K C newId (.type B :: tl)) : ∃ cd : ClassData, PySem.W.clsIn K C = some cd ∧ cd.mro = .ref C :: .type B :: tl ∧ cd.hasDict = true := by
  obtain ⟨nm, q, N, bs, sn, sub, ab, col, dd, k0, k1, k2, k3, k5, hC⟩ := T.cls
  refine ⟨{ name := nm, bases := bs, mro := .ref C :: .type B :: tl, ns := N, qualname := q, hasDict := true, slotNames := sn, subclasses := sub, abstract := ab, collection := col, hasDel := false }, ?_, rfl, rfl⟩
  unfold PySem.W.clsIn
  rw [hC]
theorem over (T : OxB K C newId (.type B :: tl)) : PySem.W.excOver K C (.type B :: tl) = true := by
  obtain ⟨cd, h1, h2, _⟩ := T.data
  unfold PySem.W.excOver
  rw [h1]
  show (match cd.mro with | .ref C' :: bm => C' == C && PySem.W.excTail (.type B :: tl) bm | _ => false) = true
  rw [h2]
  have e : PySem.W.excTail (.type B :: tl) (.type B :: tl) = true := by
    unfold PySem.W.excTail
    exact beq_self_eq_true _
  show (C == C && PySem.W.excTail (.type B :: tl) (.type B :: tl)) = true
  rw [e, beq_self_eq_true]
  rfl
end OxB
section
open Builtin Builtin.ObjectAttr
/-- the first field of an error that has no dict yet -/
theorem oxb_first {prog : Program} {w : World} {A : Around} {R : Result → Shared → Prop} {hp : Heap} {g : Array GenState} {d : Drawn} {t : Nat} {os : OsState} {K : PySem.W.Frag} {C x : Addr} {newId B : String} {tl : List Value} {name : Str} {tk : Tok} {v : Value} {fv : Array Value}
    (T : OxB K C newId (.type B :: tl)) (SF : StoreFacts B (.type B :: tl) "object.__setattr__" "object") (X : K.In hp) (hx : hp.get? x = some { cls := .ref C, data := .fields fv }) (no : PySem.W.findIn K (.ref C) name = some none)
    (q : ∀ h' tk' dx, (∀ b o, b ≠ x → hp.get? b = some o → h'.get? b = some o) → hp.objs.size ≤ dx → dx ≠ x → h'.get? x = some { cls := .ref C, dict := some dx, data := .fields fv } → h'.Ns1 dx (fun y => if y = name then some v else none) → R (.ok (.ret .none)) ⟨h', g, d, tk', os⟩) :
    codeAny (model prog w) A (.call (.builtin "object.__setattr__") ⟨[.ref x, .str name tk, v], []⟩) R ⟨hp, g, d, t, os⟩ := by
  have J : PySem.W.InstAt (⟨hp, g, d, t, os⟩ : Shared).heap x { cls := .ref C, data := .fields fv } C none := ⟨hx, rfl, rfl, trivial⟩
  have tkr : PySem.W.takerIn K C name = some none := by
    unfold PySem.W.takerIn
    rw [no]
    rfl
  obtain ⟨cd, hcd, _, hhd⟩ := T.data
  have away : x ≠ hp.objs.size := Nat.ne_of_lt (Heap.lt_size hx)
  refine PySem.W.osa_openX (s := ⟨hp, g, d, t, os⟩) SF X J T.over tkr fun onT => ?_
  show wpAny _ _ (storeInOwnDict (.ref x) (.ref C) (.str name tk) name v onT) _ _ _
  have ask : PySem.W.Looks (model prog w) hp (classData C) cd := PySem.W.looks_clsIn X hcd
  obtain ⟨nm, bs, mro, ns, qn, hd, sn, sb, ab, col, del⟩ := cd
  obtain rfl : hd = true := hhd
  unfold storeInOwnDict ownDictForStores
  repeat (first | with_reducible refine PySem.HandSPX.store_in_new ?_ ?_ | (with_reducible refine wpAny_loadPart_at hx ?_) | (with_reducible refine ask.at ?_) | wp_step)
  · exact (fun laid => ⟨_, #[], _, laid, rfl, fun e he => absurd he (by simp), fun _ => rfl⟩) ((Heap.get?_update_ne _ _ _ _ away.symm).trans (Heap.get?_push_at rfl rfl))
  · intro h' tk' hn same
    have h1 : (hp.push { cls := .type "dict", data := .dict #[] }).get? x = some { cls := .ref C, data := .fields fv } := Heap.get?_push_of_some _ hx
    refine q h' tk' hp.objs.size (fun b o nb eb => ?_) (Nat.le_refl _) away.symm ((same.2 x away).trans (Heap.get?_update_self _ h1 rfl)) hn
    rw [same.2 b (Nat.ne_of_lt (Heap.lt_size eb)), Heap.get?_update_ne _ _ _ _ nb]
    exact Heap.get?_push_of_some _ eb
end
section
variable {X : Cx} {pins : List (Addr × Obj)} {σ : L2.St} {H : Hp} {s : Shared} {a C : Addr} {f : Str} {y : V} {u : Value} {newId initId B : String} {tl : List Value} {A : Around}
theorem oxb_store {Q : Unit → Shared → Prop} {E : Value → Shared → Prop} (T : OxB X.K C newId (.type B :: tl)) (SF : StoreFacts B (.type B :: tl) "object.__setattr__" "object") (I : Inv X pins σ H s) (e : H a = some (exo a C none)) (no : PySem.W.findIn X.K (.ref C) f = some none) (ry : RelV y u)
    (k : ∀ dx s', H dx = none → dx ≠ a → Inv X pins σ (upd (upd H dx (exd dx [(f, y)])) a (exo a C (some dx))) s' → Q () s') : wpAny (model X.prog X.w) A (setAttr (.ref a) f u) Q E s := by
  obtain ⟨t1, ho⟩ := exo_at I.hok e
  obtain ⟨hp, g, d, t, os⟩ := s
  refine PySem.W.set_plain I.kIn (od := none) (ox := { cls := .ref C, dict := none, data := .fields #[.ref t1, .none, .none, .none, .bool false, .none] }) ⟨ho, rfl, rfl, trivial⟩ T.sa (oxb_first T SF I.kIn ho no fun h' tk' dx kp dn dne hx hn => ?_)
  have free : H dx = none := I.hok.fresh dn
  have apart : ∀ {b : Addr} {o : Obj}, hp.get? b = some o → b ≠ dx := fun {b o} z => Nat.ne_of_lt (Nat.lt_of_lt_of_le (Heap.lt_size z) dn)
  have other : ∀ {b : Addr}, H b = none → b ≠ a := fun {b} n z => by rw [z, e] at n; cases n
  refine k dx _ free dne (I.un (t' := tk') ⟨fun b o z n _ _ => kp b o (other n) z, fun b o z n _ _ => ⟨o.slots, kp b o (other n) z⟩, fun b o z n _ => ?_, fun b o z _ => ?_, fun b xs z => ?_, fun b o v z => ?_, fun b ps z => ⟨#[], ?_⟩⟩ fun b o z => ?_)
  · rw [upd_ne (other n), upd_ne (apart z)]
    exact n
  · by_cases hb : b = a
    · exact ⟨_, by rw [hb]; exact hx⟩
    · exact ⟨o, kp b o hb z⟩
  · rw [upd_ne (at_ne e z exo_tup), upd_ne (ne_of_none z free)]
    exact z
  · rw [upd_ne (at_ne e z exo_frz), upd_ne (ne_of_none z free)]
    exact z
  · rw [upd_ne (at_ne e z exo_tbl), upd_ne (ne_of_none z free), z]
    simp
  · by_cases hb : b = a
    · subst hb
      rw [upd_same] at z
      cases z
      exact exo_ok hx
    rw [upd_ne hb] at z
    by_cases hd : b = dx
    · subst hd
      rw [upd_same] at z
      cases z
      exact exd_ok hn (relO_put (fs := []) ry fun g => True.intro)
    rw [upd_ne hd] at z
    refine (I.hok b o z).stay (fun c v hc y1 => kp c v ?_ y1) (fun c hc => ?_) (fun c xs hc => ?_)
    · rcases hc with hc | hc
      · exact hc ▸ hb
      · exact at_ne e hc exo_own
    · rw [upd_ne (at_ne e hc exo_own), upd_ne (ne_of_none hc free)]
      exact hc
    · rw [upd_ne (at_ne e hc exo_tup), upd_ne (ne_of_none hc free)]
      exact hc
theorem oxb_init {us : List Value} {Q : Value → Shared → Prop} {E : Value → Shared → Prop} (T : OxB X.K C newId (.type B :: tl)) (BF : ExcBaseFacts B newId initId (.type B :: tl)) (I : Inv X pins σ H s) (e : H a = some (exo a C none)) (hl : us.length ≤ sizeLine) (k : ∀ s', Inv X pins σ H s' → Q .none s') :
    wpAny (model X.prog X.w) A (call (.builtin initId) (.ref a :: us)) Q E s := by
  obtain ⟨nm, q, N, bs, sn, sub, ab, col, dd, k0, k1, k2, k3, k5, hC⟩ := T.cls
  obtain ⟨t1, ho⟩ := exo_at I.hok e
  obtain ⟨hp, g, d, t, os⟩ := s
  refine wpAny_call (PySem.HandSPX.init_base BF (fun _ => rfl) (I.kIn _ _ hC) ho hl fun h' t2 kp hx => k _ ?_)
  have J := I.write (t' := t) (x := a) (e := a) (o := exo a C none) (by rw [e]; exact True.intro) (.inl rfl) kp ⟨_, hx⟩ (exo_ok hx)
  have eu : upd H a (exo a C none) = H := funext fun b => by
    by_cases hb : b = a
    · rw [hb, upd_same, e]
    · exact upd_ne hb
  exact eu ▸ J
/-- B.__init__(self, ..) of a base B -/
def tBI (K : PySem.W.Frag) (newId B : String) (tl : List Value) (ta : TA) : TE := fun σ H Q => ta σ H fun vs H1 => ∃ (a C : Addr) (ws : List V), vs = .ref a :: ws ∧ ws.length ≤ 1000 ∧ OxB K C newId (.type B :: tl) ∧ H1 a = some (exo a C none) ∧ Q .non H1
/-- self.f = e, the only field -/
def tOsB (K : PySem.W.Frag) (newId B : String) (tl : List Value) (f : Str) (to te : TE) : TS := fun D σ H => te σ H fun y H1 => to σ H1 fun x H2 => ∃ a C : Addr, x = .ref a ∧ OxB K C newId (.type B :: tl) ∧ PySem.W.findIn K (.ref C) f = some none ∧ H2 a = some (exo a C none) ∧
  ∀ dx, H2 dx = none → dx ≠ a → D.nx σ (upd (upd H2 dx (exd dx [(f, y)])) a (exo a C (some dx)))
variable {o e : Expr} {es : List Expr} {to te : TE} {ta : TA} {x : Str} {p p' p1 p2 pos : Pos}
theorem pe_binit {pl : Sem Bool} (Z : BX x B newId initId tl) (hg : Gl X x) (hm : X.mg x = none) (fI : PySem.W.findCls X.K (.type B) (.type "type") "__init__" = some (.val (.builtin initId))) (ha : PA X (e :: es) ta)
    (hc : eval (.Call (.Attribute (.Name x p1) "__init__" p2) (e :: es) [] pos) X.env = (eval (.Name x p1) X.env >>= fun ov => standAt p2.atName >>= fun _ => holding [ov] (getMethod ov "__init__" pl) >>= fun r => callWith pos r.1 r.2 (backTo pos (starEach (e :: es) X.env)) (backToKw pos (keywordEach [] X.env))) := by rfl)
    (st : starEach (e :: es) X.env = (false, eval e X.env) :: starEach es X.env := by rfl) (pn : (backTo pos (starEach es X.env)).any (·.1) = false := by rfl) : PE X (.Call (.Attribute (.Name x p1) "__init__" p2) (e :: es) [] pos) (tBI X.K newId B tl ta) := by
  refine ⟨fun pins s σ H Q I h => PySem.W.methodCall_KW (ld_blt I hg hm Z.bo ?_ Z.nn Z.nd) hc⟩
  obtain ⟨m, fr⟩ := I.fr
  refine PySem.W.method_type fr I.ok.mod.kin Z.ty Z.st fI Z.hi ?_
  show wpAny _ _ (callWith pos (Value.builtin initId) [] (backTo pos (starEach (e :: es) X.env)) []) _ _ _
  refine PyProof.Rows.callWith_method1 (thn (ha.run pos pins _ σ H _ (I.tok _) h) ?_) st pn
  rintro us s1 ⟨vs, H1, I1, r1, a, C, ws, rfl, hl, T, ea, q⟩
  cases r1 with
  | @cons _ u0 _ ur ra rw' =>
    obtain rfl : u0 = Value.ref a := ra
    exact oxb_init T Z.bf I1 ea (by rw [← Paired.length rw', sizeLine_eq]; omega) fun s' J => ⟨.non, H1, J, rfl, q⟩
theorem ps_osb (Z : BX x B newId initId tl) (ho : PE X o to) (he : PE X e te) (sw : swapsWith e (some (.Attribute o f p')) pos.line X.env = pure false := by rfl) : PS X (.Assign [.Attribute o f p'] e pos) (tOsB X.K newId B tl f to te) := by
  refine ⟨fun pins s σ H D I h => plainObj_wpAny_Assign_Attribute (thn (he.run pins s σ H _ I h) ?_) sw⟩
  rintro v s1 ⟨y, H1, I1, r1, q1⟩
  refine thn (ho.run pins s1 σ H1 _ I1 q1) ?_
  rintro u s2 ⟨x, H2, I2, r2, a, C, rfl, T, no, ea, q⟩
  obtain rfl : u = Value.ref a := r2
  exact oxb_store T Z.sf I2 ea no r1 fun dx s' n ne J => ⟨σ, _, J, q dx n ne⟩
theorem pmk_oxb {CX : CXT} {n : Str} {fI : Addr} {k : Nat} {fd : FuncData} {ps : List Str} {sp : Sp} {ds : List Value} {dvs : List V} (Z : BX x B newId initId tl) (T : OxB X.K C newId (.type B :: tl)) (iC : PySem.W.findIn X.K (.ref C) "__init__" = some (some (.ref fI)))
    (tI : PySem.W.typeIn X.K (.ref fI) = some (.type "function")) (G : FnOk X.prog X.w X.K X.mg X.base CX k fI fd ps sp) (hr : Room (k + 1) X.A) (hb : Binds X.K fd ps ds) (hd : Vals dvs ds) (hx : Passes CX X (fun _ _ _ => False)) (hg : Gl X n) (hm : X.mg n = some (.ref C)) (ha : PA X (e :: es) ta)
    (db : (n == ("__debug__" : Str)) = false := by decide) (st : starEach (e :: es) X.env = (false, eval e X.env) :: starEach es X.env := by rfl) (pn : (backTo pos (starEach es X.env)).any (·.1) = false := by rfl) : PMk X (.Call (.Name n p) (e :: es) [] pos) (tMkO C sp dvs ta) := by
  intro pins s σ H Q I h
  obtain ⟨nm, q, N, bs, sn, sub, ab, col, dd, k0, k1, k2, k3, k5, hC⟩ := T.cls
  refine wpAny_Call_Name_kw (ld_glob I hg hm (PySem.W.callWith_K (h₀ := X.base) I.ok.mod.kin T.kC (thn (ha.run pos pins s σ H _ I h) ?_) st pn) db)
  rintro us ⟨hp, g, dr, tk, os⟩ ⟨vs, H1, I1, r1, hz, q1⟩
  refine ⟨I1.kIn, ?_⟩
  show wpAny _ _ (call (.ref C) us) _ _ _
  have above : hp.objs.size ≤ hp.objs.size + 1 := Nat.le_succ _
  have want := q1 (hp.objs.size + 1) (I1.hok.fresh above)
  have kp : ∀ b o, hp.get? b = some o → ((hp.push (PySem.W.kdv_tup us)).push (PySem.HandSPX.excO C hp.objs.size)).get? b = some o := fun b o z => Heap.get?_push_of_some _ (Heap.get?_push_of_some _ z)
  have here : ((hp.push (PySem.W.kdv_tup us)).push (PySem.HandSPX.excO C hp.objs.size)).get? (hp.objs.size + 1) = some (PySem.HandSPX.excO C hp.objs.size) := by heap_get
  have I2 : Inv X pins σ (upd H1 (hp.objs.size + 1) (exo (hp.objs.size + 1) C none)) ⟨(hp.push (PySem.W.kdv_tup us)).push (PySem.HandSPX.excO C hp.objs.size), g, dr, tk, os⟩ := I1.laid (t' := tk) kp above (exo_ok here)
  have rs : Vals (V.ref (hp.objs.size + 1) :: (vs ++ dvs)) (Value.ref (hp.objs.size + 1) :: (us ++ ds)) := .cons rfl (r1.append hd)
  have many : (Value.ref (hp.objs.size + 1) :: us ++ ds).length = ps.length := (G.len _ _ _ _ want ▸ rs.length).symm
  have short : us.length ≤ sizeLine := by rw [← Paired.length r1, sizeLine_eq]; omega
  refine wpAny_call (PySem.HandSPX.call_own Z.bf (fun _ => rfl) (I1.kIn _ _ hC) (PySem.W.looks_findIn I1.kIn iC) (fun self => PySem.W.bind_fn I1.kIn self tI) short
    (codeAny_mono (G.run _ X.stack _ _ ⟨Value.ref (hp.objs.size + 1) :: us, []⟩ (Value.ref (hp.objs.size + 1) :: (us ++ ds)) _ _ (fun _ _ _ => False) (hr.make C us []) (I2.env0.make C us []) (hb _ (Value.ref (hp.objs.size + 1) :: us) I2.kIn many) rs want) fun r s' hq => ?_))
  rcases r with er | (_ | _ | _ | u)
  all_goals first | exact False.elim hq | exact hx pins σ _ _ er s' I2 hq | skip
  all_goals
    obtain ⟨v, H2, os2, bare2, un2, hok2, rv, ev, d, fs, ea, ed, hd1, q2⟩ := hq
    subst ev
    obtain ⟨h2, g2, d2, t2, os'⟩ := s'
    exact ⟨rv, mk_end (raises_own T.exC T.tyC) I1 above kp un2 hok2 os2 bare2 ea ed hd1 q2⟩
end

abbrev sOpenInit : Stmt := meth 3 0
abbrev sFullInit : Stmt := meth 8 0
theorem passX {X : Cx} {E : XK} (tk : Takes X fun cls d _ H => E cls d H) : Passes (L2.CX X.prog X.w) X E := fun pins σ H s e s' I c => tk e s' (XE.of_call I (fun _ _ _ h => h) c)
abbrev exT : List Value := [.type "Exception", .type "BaseException", .type "object"]
/-! an error of the class at D whose only field, named f, is an int -/
structure ErrF (K : PySem.W.Frag) (mg : Str → Option Value) (nm : Str) (f : Str) (D fI : Addr) (fdI : FuncData) (newId : String) (bm : List Value) : Prop where
  gC : mg nm = some (.ref D)
  ox : OxB K D newId bm
  noN : PySem.W.findIn K (.ref D) f = some none
  iC : PySem.W.findIn K (.ref D) "__init__" = some (some (.ref fI))
  tI : PySem.W.typeIn K (.ref fI) = some (.type "function")
  bI : Binds K fdI ["self", f] []
  te : PySem.W.exmOne K (.ref D) (.ref D) = some true
  xf : XfC K D
section
variable {P : Program} {w : World} {K : PySem.W.Frag} {mg : Str → Option Value} {base : Heap} {C : Cs}
def spErrInit (D : Addr) (f : Str) : Sp := fun vs H Q _ => ∃ (a : Addr) (v : V), vs = [.ref a, v] ∧ Flat H v ∧ H a = some (exo a D none) ∧
  ∀ d, H d = none → d ≠ a → Q .non (upd (upd H d (exd d [(f, v)])) a (exo a D (some d)))
theorem scOpenInit : FnScope ["self", "number"] ["self", "number"] (defScope sOpenInit) := ⟨rfl, rfl, rfl, by decide +kernel, rfl, by decide +kernel, by decide +kernel⟩
theorem okOpenInit {D fI : Addr} {fdI : FuncData} (F : Fun K "__init__" "NotOpen.__init__" sOpenInit fI fdI) (gB : mg "LookupError" = none) (fB : PySem.W.findCls K (.type "LookupError") (.type "type") "__init__" = some (.val (.builtin "LookupError.__init__"))) (T : ErrF K mg "NotOpen" "number" D fI fdI "LookupError.__new__" (.type "LookupError" :: exT)) : FnOk P w K mg base CX0 1 fI fdI ["self", "number"] (spErrInit D "number") := by
  refine F.ok scOpenInit (fun vs H Q E h => ?_) (fun cdv A outer s H vs Q E hr h => ?_)
  · obtain ⟨a, n, rfl, _⟩ := h
    rfl
  · obtain ⟨a, n, rfl, fl, ha, k⟩ := h
    refine ⟨_, pss_cons (ps_expr (pe_binit bxLookup (by rfl) gB fB (pa_cons (pv 0) (pa_cons (pe_joined (.cons pe_str (.cons (pe_fmtO hr (pv 1)) (.cons pe_str .nil)))) pa_nil))))
      (pss_one (ps_osb (f := "number") bxLookup (pv 0) (pv 1))), ?_⟩
    walk_at "wn"
    show tCons _ _ _ _ _
    walk_at "wn"
    show tJs _ _ _ _ _
    have e5 : (((" is not open" : String) : Str)).length = 12 := rfl
    have e6 : (((("number " : String) : Str))).length = 7 := rfl
    refine ⟨"number ", rfl, by decide, ?_⟩
    refine ⟨_, rfl, fl, fun m hm => ?_⟩
    refine ⟨m, rfl, ?_, ?_⟩
    · rw [strLen_append, strLen_append, sizeLine_eq, e6]
      show 0 + 7 + _ ≤ _
      omega
    refine ⟨" is not open", rfl, ?_, ?_⟩
    · rw [strLen_append, strLen_append, strLen_append, sizeLine_eq, e5, e6]
      show 0 + 7 + _ + _ ≤ _
      omega
    refine ⟨a, D, [_], rfl, by show 1 ≤ 1000; decide, T.ox, ha, ?_⟩
    refine ⟨_, rfl, _, rfl, ?_⟩
    exact ⟨a, D, rfl, T.ox, T.noN, ha, fun dx h1 h2 => k dx h1 h2⟩
abbrev sNumInit : Stmt := meth 4 0
theorem scNumInit : FnScope ["self", "number"] ["self", "number"] (defScope sNumInit) := ⟨rfl, rfl, rfl, by decide +kernel, rfl, by decide +kernel, by decide +kernel⟩
theorem okNumInit {D fI : Addr} {fdI : FuncData} (F : Fun K "__init__" "NoNumber.__init__" sNumInit fI fdI) (gB : mg "LookupError" = none) (fB : PySem.W.findCls K (.type "LookupError") (.type "type") "__init__" = some (.val (.builtin "LookupError.__init__"))) (T : ErrF K mg "NoNumber" "number" D fI fdI "LookupError.__new__" (.type "LookupError" :: exT)) : FnOk P w K mg base CX0 1 fI fdI ["self", "number"] (spErrInit D "number") := by
  refine F.ok scNumInit (fun vs H Q E h => ?_) (fun cdv A outer s H vs Q E hr h => ?_)
  · obtain ⟨a, n, rfl, _⟩ := h
    rfl
  · obtain ⟨a, n, rfl, fl, ha, k⟩ := h
    refine ⟨_, pss_cons (ps_expr (pe_binit bxLookup (by rfl) gB fB (pa_cons (pv 0) (pa_cons (pe_joined (.cons (pe_fmtO hr (pv 1)) (.cons pe_str .nil))) pa_nil))))
      (pss_one (ps_osb (f := "number") bxLookup (pv 0) (pv 1))), ?_⟩
    walk_at "wn"
    show tCons _ _ _ _ _
    walk_at "wn"
    show tJs _ _ _ _ _
    have e5 : (((" is no number of a table" : String) : Str)).length = 24 := rfl
    refine ⟨_, rfl, fl, fun m hm => ?_⟩
    refine ⟨m, rfl, ?_, ?_⟩
    · rw [strLen_append, sizeLine_eq]
      show 0 + _ ≤ _
      omega
    refine ⟨" is no number of a table", rfl, ?_, ?_⟩
    · rw [strLen_append, strLen_append, sizeLine_eq, e5]
      show 0 + _ + _ ≤ _
      omega
    refine ⟨a, D, [_], rfl, by show 1 ≤ 1000; decide, T.ox, ha, ?_⟩
    refine ⟨_, rfl, _, rfl, ?_⟩
    exact ⟨a, D, rfl, T.ox, T.noN, ha, fun dx h1 h2 => k dx h1 h2⟩
/-- the way out with an error of the class at D whose field is v -/
def OutV (D : Addr) (f : Str) (v : V) (H : Hp) (E : XK) : Prop := ∀ d H', H d = none → Same H H' → H' d = some (.xd [(f, v)]) → E (.ref D) (some d) H'
abbrev Out (D : Addr) (f : Str) (n : Int) (H : Hp) (E : XK) : Prop := OutV D f (.int n) H E
theorem out_madeV {D : Addr} {f : Str} {v : V} {H : Hp} {Q : XK} (fl : Flat H v) (k : OutV D f v H Q) :
    ([v].length ≤ 1000 ∧ ∀ a, H a = none → spErrInit D f (.ref a :: ([v] ++ [])) (upd H a (exo a D none)) (fun v H2 => v = .non ∧ ∃ (d : Addr) (fs : List (Str × V)), H2 a = some (exo a D (some d)) ∧ H2 d = some (exd d fs) ∧ H d = none ∧ Q (.ref D) (some d) (upd (del H2 a) d (.xd fs))) fun _ _ _ => False) := by
  refine ⟨by show 1 ≤ 1000; decide, fun a ha => ⟨a, v, rfl, fl.same (Same.new' ha), upd_same, fun d hd nd => ⟨rfl, d, [(f, v)], upd_same, ?_, ?_, ?_⟩⟩⟩
  · rw [upd_ne nd, upd_same]
  · rw [upd_ne nd] at hd
    exact hd
  · rw [upd_ne nd] at hd
    refine k d _ hd (fun b o e => ?_) upd_same
    have n1 : b ≠ d := fun z => by rw [z, hd] at e; cases e
    have n2 : b ≠ a := fun z => by rw [z, ha] at e; cases e
    rw [upd_ne n1]
    show (if b = a then none else _) = _
    rw [if_neg n2, upd_ne n2, upd_ne n1, upd_ne n2]
    exact e
theorem out_made {D : Addr} {f : Str} {n : Int} {H : Hp} {Q : XK} (h1 : n.natAbs.log2 < 1920) (_ : (Str.ofString (toString n)).length ≤ 700) (k : Out D f n H Q) :
    ([V.int n].length ≤ 1000 ∧ ∀ a, H a = none → spErrInit D f (.ref a :: ([V.int n] ++ [])) (upd H a (exo a D none)) (fun v H2 => v = .non ∧ ∃ (d : Addr) (fs : List (Str × V)), H2 a = some (exo a D (some d)) ∧ H2 d = some (exd d fs) ∧ H d = none ∧ Q (.ref D) (some d) (upd (del H2 a) d (.xd fs))) fun _ _ _ => False) := out_madeV (.int n h1) k
theorem small_int {n : Int} (h0 : 0 ≤ n) (h1 : n ≤ 1000) : n.natAbs.log2 < 1920 ∧ (Str.ofString (toString n)).length ≤ 700 := by
  refine ⟨?_, ?_⟩
  · have : n.natAbs.log2 ≤ n.natAbs := Nat.log2_le_self _
    omega
  · have := toString_length_le (v := n) h0 (k := 4) (by decide) (by omega)
    omega
end

abbrev sNewSet : Stmt := meth 18 5
abbrev OpenE (K : PySem.W.Frag) (mg : Str → Option Value) (D fI : Addr) (fdI : FuncData) : Prop := ErrF K mg "NotOpen" "number" D fI fdI "LookupError.__new__" (.type "LookupError" :: exT)
abbrev FullE (K : PySem.W.Frag) (mg : Str → Option Value) (D fI : Addr) (fdI : FuncData) : Prop := ErrF K mg "Full" "process" D fI fdI "OverflowError.__new__" (.type "OverflowError" :: .type "ArithmeticError" :: exT)
theorem Out.same {D : Addr} {f : Str} {n : Int} {H H1 : Hp} {E : XK} (k : Out D f n H E) (s : Same H H1) : Out D f n H1 E := fun d H' hd s' e => k d H' (s.free hd) (s.trans s') e
/-- what a number means in a process -/
structure Opn (S : Sys) (p n : Int) (x : Option Int) : Prop where
  pr : p ∈ S.procs
  lo : 0 ≤ n
  at_ : n ≤ S.N - 1 → (S.tab p)[n.toNat]? = some x
  out : S.N - 1 < n → x = none
def Ful (t : List (Option Int)) : Prop := ∀ i, i < t.length → ∃ x, t[i]? = some (some x)
section
variable {P : Program} {w : World} {K : PySem.W.Frag} {mg : Str → Option Value} {base : Heap} {C : Cs}
/-- a method that may raise -/
structure ME (P : Program) (w : World) (K : PySem.W.Frag) (mg : Str → Option Value) (base : Heap) (k : Nat) (C : Addr) (m : Str) (ps : List Str) (sp : Sp) (f : Addr) (fd : FuncData) : Prop where
  g : FnOk P w K mg base (L2.CX P w) k f fd ps sp
  m : Meth K C m f
  b : Binds K fd ps []
/-! thing_at -/
def spThingAt (C : Cs) (D : Addr) : Sp := fun vs H Q E => ∃ (p n : Int) (x : Option Int), OnSys C vs H [.int p, .int n] fun S _ _ => Opn S p n x ∧ n ≤ 1000 ∧ (∀ t, x = some t → Q (.int t) H) ∧ (x = none → Out D "number" n H E)
theorem scThingAt : FnScope ["self", "process", "number", "table"] ["self", "process", "number"] (defScope sThingAt) := ⟨rfl, rfl, rfl, by decide +kernel, rfl, by decide +kernel, by decide +kernel⟩
theorem okThingAt {D f fT fN fI : Addr} {fd fdT fdN fdI : FuncData} (F : Fun K "thing_at" "System.thing_at" sThingAt f fd) (T : ClsF K C.S sysF) (TE : OpenE K mg D fI fdI) (GI : FnOk P w K mg base CX0 1 fI fdI ["self", "number"] (spErrInit D "number"))
    (GT : MO P w K mg base 3 C.S "table_of" ["self", "process"] (spTableOf C) fT fdT) (GN : MO P w K mg base 3 C.S "is_table_number" ["self", "number"] (spIsTabNum C) fN fdN) :
    FnOk P w K mg base (L2.CX P w) 4 f fd ["self", "process", "number"] (spThingAt C D) := by
  refine F.okX scThingAt (fun vs H Q E h => ?_) (fun cdv A outer s H vs Q E hr h => ?_)
  · obtain ⟨_, _, _, _, _, _, rfl, _⟩ := h
    rfl
  · obtain ⟨p, n, x, S, ad, dx, rfl, A0, M, hz, k1, k2⟩ := h
    have hr2 : Room 2 _ := hr.mono (by decide)
    refine ⟨_, pss_cons (ps_set (i := 3) scThingAt.nd rfl (Or.inl rfl) (pe_meth (pv 0) T.cl GT.m GT.g hr GT.b .nil pass0 (pa_cons (pv 1) pa_nil)))
      (pss_cons (ps_if (PW.pt (pw_or (pt_not (pt_val (pe_meth (pv 0) T.cl GN.m GN.g hr GN.b .nil pass0 (pa_cons (pv 2) pa_nil)))) (pw_or1 (pt_cmpR oIsN (pe_ix ix_list (pv 3) (pv 2) (fun _ _ => rfl)) pe_non (nomark _)))))
          (pss_one (ps_raise rfl (takes_of rfl rfl rfl rfl) (pmk_oxb bxLookup TE.ox TE.iC TE.tI GI hr2 TE.bI .nil pass0 (by rfl) TE.gC (pa_cons (pv 2) pa_nil)))) pss_nil)
      (pss_one (ps_ret (pe_ix ix_list (pv 3) (pv 2) (fun _ _ => rfl))))), ?_⟩
    have hb := A0.at_ .box trivial
    have ht := A0.at_ (.tab p) M.pr
    have sm := small_int M.lo hz
    walk_at "wn"
    refine ⟨_, rfl, ad .box, dx .box, _, rfl, hb, rfl, ?_⟩
    walk_at "wn"
    refine ⟨p, S, ad, dx, rfl, A0, M.pr, ?_⟩
    walk_at "wn"
    refine ⟨_, rfl, ad .box, dx .box, _, rfl, hb, rfl, ?_⟩
    walk_at "wn"
    refine ⟨.int n, S, ad, dx, rfl, A0, .int n, ?_⟩
    rw [show inB (.int n) 0 (S.N - 1) = (decide (0 ≤ n) && decide (n ≤ S.N - 1)) from rfl, decide_eq_true M.lo]
    by_cases hn : n ≤ S.N - 1
    · obtain ⟨m, hm⟩ := Int.eq_ofNat_of_zero_le M.lo
      have hat : atI ((S.tab p).map optV) n = some (optV x) := by
        have e := M.at_ hn
        rw [hm] at e ⊢
        refine atI_nat ?_
        rw [List.getElem?_map, show (S.tab p)[m]? = some x from e]
        rfl
      rw [decide_eq_true hn]
      walk_at "wn"
      refine ⟨_, rfl, ?_⟩
      walk_at "wn"
      refine ⟨ad (.tab p), _, n, _, rfl, rfl, SqL.of ht, hat, ?_⟩
      walk_at "wn"
      cases x with
      | none =>
        have e : decide (optV none = V.non) = true := decide_eq_true rfl
        rw [e]
        walk_at "wn"
        show tCons _ _ _ _ _
        walk_at "wn"
        exact out_made sm.1 sm.2 (k2 rfl)
      | some t =>
        have e : decide (optV (some t) = V.non) = false := decide_eq_false fun z => nomatch z
        rw [e]
        walk_at "wn"
        exact ⟨ad (.tab p), _, n, _, rfl, rfl, SqL.of ht, hat, k1 t rfl⟩
    · rw [decide_eq_false hn]
      walk_at "wn"
      refine ⟨_, rfl, ?_⟩
      walk_at "wn"
      exact out_made sm.1 sm.2 (k2 (M.out (by omega)))
/-! free_number -/
def spFreeNum (C : Cs) (D : Addr) : Sp := fun vs H Q E => ∃ p : Int, OnSys C vs H [.int p] fun S _ _ => p ∈ S.procs ∧ 0 ≤ p ∧ p ≤ 1000 ∧ (S.tab p).length ≤ 1000 ∧ (∀ n, firstFree (S.tab p) n → ∀ H', Same H H' → Q (.int (n : Int)) H') ∧ (Ful (S.tab p) → Out D "process" p H E)
theorem scFreeNum : FnScope ["self", "process", "number", "thing"] ["self", "process"] (defScope sFreeNum) := ⟨rfl, rfl, rfl, by decide +kernel, rfl, by decide +kernel, by decide +kernel⟩
theorem okFreeNum {D f fT fI : Addr} {fd fdT fdI : FuncData} (F : Fun K "free_number" "System.free_number" sFreeNum f fd) (X : SysTxt mg) (T : ClsF K C.S sysF) (TE : FullE K mg D fI fdI) (GI : FnOk P w K mg base CX0 1 fI fdI ["self", "process"] (spErrInit D "process")) (GT : MO P w K mg base 3 C.S "table_of" ["self", "process"] (spTableOf C) fT fdT) :
    FnOk P w K mg base (L2.CX P w) 4 f fd ["self", "process"] (spFreeNum C D) := by
  refine F.okX scFreeNum (fun vs H Q E h => ?_) (fun cdv A outer s H vs Q E hr h => ?_)
  · obtain ⟨_, _, _, _, rfl, _⟩ := h
    rfl
  · obtain ⟨p, S, ad, dx, rfl, A0, hp, p0, p1, hl, k1, k2⟩ := h
    have hr2 : Room 2 _ := hr.mono (by decide)
    refine ⟨_, pss_cons (ps_for PassesOwn.leaving rfl (pi_enum (by rfl) X.enum (pa_cons (pe_meth (pv 0) T.cl GT.m GT.g hr GT.b .nil pass0 (pa_cons (pv 1) pa_nil)) pa_nil)) (pg_tup rfl (pgs_cons (pg_name (i := 2) scFreeNum.nd rfl (Or.inl rfl)) (pgs_cons (pg_name (i := 3) scFreeNum.nd rfl (Or.inl rfl)) pgs_nil)))
        (pss_one (ps_if (pt_cmpR oIsN (pv 3) pe_non (nomark _)) (pss_one (ps_ret (pv 2))) pss_nil)))
      (pss_one (ps_raise rfl (takes_of rfl rfl rfl rfl) (pmk_oxb bxOverflow TE.ox TE.iC TE.tI GI hr2 TE.bI .nil pass0 (by rfl) TE.gC (pa_cons (pv 1) pa_nil)))), ?_⟩
    have hb := A0.at_ .box trivial
    have ht := A0.at_ (.tab p) hp
    have sml := small_int p0 p1
    refine ⟨_, rfl, ad .box, dx .box, _, rfl, hb, rfl, ?_⟩
    walk_at "wn"
    refine ⟨p, S, ad, dx, rfl, A0, hp, ?_⟩
    refine ⟨ad (.tab p), _, rfl, SqL.of ht, ?_⟩
    refine for_it (walk_enum (xs := (S.tab p).map optV)) (fun i σ' H1 => ∃ u v : Option V, σ' = [some (.ref (ad .box)), some (.int p), u, v] ∧ Same H H1 ∧ ∀ j, j < i → ∃ x, (S.tab p)[j]? = some (some x)) ⟨_, _, rfl, Same.refl _, fun j h => absurd h (Nat.not_lt_zero _)⟩ (fun i σ' H1 _ ⟨_, _, _, sm, _⟩ => Same.seq sm (SqL.of ht)) ?_ ?_
    · rintro i x σ' H1 H2 hi ⟨u, v, rfl, sm, hlo⟩ ⟨T1, x1, y1, rfl, nT, rfl, ex, ey⟩
      have smT := sm.trans (Same.new' (o := .tup [x1, y1]) nT)
      obtain rfl := Option.some.inj ex
      have ey : ((S.tab p).map optV)[i]? = some y1 := ey
      rw [List.getElem?_map] at ey
      refine ⟨T1, _, rfl, SqT.of upd_same, rfl, _, _, rfl, ?_⟩
      walk_at "wn"
      refine ⟨_, _, rfl, ?_⟩
      walk_at "wn"
      refine ⟨rfl, ?_⟩
      walk_at "wn"
      cases et : (S.tab p)[i]? with
      | none => rw [et] at ey; cases ey
      | some x =>
      rw [et] at ey
      cases ey
      cases x with
      | some t =>
        have e : decide (optV (some t) = V.non) = false := decide_eq_false fun z => nomatch z
        rw [e]
        walk_at "wn"
        refine ⟨_, _, rfl, smT, fun j hj => ?_⟩
        rcases Nat.lt_or_ge j i with z | z
        · exact hlo j z
        · obtain rfl : j = i := by omega
          exact ⟨t, et⟩
      | none =>
        have e : decide (optV none = V.non) = true := decide_eq_true rfl
        rw [e]
        walk_at "wn"
        exact k1 i ⟨et, hlo⟩ _ smT
    · rintro σ' H1 ⟨u, v, rfl, sm, hlo⟩
      rw [List.length_map] at hlo
      show tMkO D (spErrInit D "process") [] (tCons (tVar 1) tNil) _ H1 fun cls d H' => E cls d H'
      show tCons _ _ _ _ _
      walk_at "wn"
      exact out_made sml.1 sml.2 ((k2 hlo).same sm)
/-! new_thing -/
def spNewThing (C : Cs) (D : Addr) : Sp := fun vs H Q E => ∃ p : Int, OnSys C vs H [.int p] fun S ad dx => p ∈ S.procs ∧ 0 ≤ p ∧ p ≤ 1000 ∧ (S.tab p).length ≤ 1000 ∧
  (∀ n, firstFree (S.tab p) n → ∀ H' T, H T = none → H' T = some (.tup [.int (n : Int), .int S.next]) → At C H' (newThing S p n) ad dx → Step H S ad H' (newThing S p n) ad → Q (.ref T) H') ∧ (Ful (S.tab p) → Out D "process" p H E)
theorem scNewThing : FnScope ["self", "process", "number", "thing"] ["self", "process"] (defScope sNewThing) := ⟨rfl, rfl, rfl, by decide +kernel, rfl, by decide +kernel, by decide +kernel⟩
theorem okNewThing {D f fF : Addr} {fd fdF : FuncData} (F : Fun K "new_thing" "System.new_thing" sNewThing f fd) (T : ClsF K C.S sysF) (GF : ME P w K mg base 4 C.S "free_number" ["self", "process"] (spFreeNum C D) fF fdF) :
    FnOk P w K mg base (L2.CX P w) 5 f fd ["self", "process"] (spNewThing C D) := by
  refine F.okX scNewThing (fun vs H Q E h => ?_) (fun cdv A outer s H vs Q E hr h => ?_)
  · obtain ⟨_, _, _, _, rfl, _⟩ := h
    rfl
  · obtain ⟨p, S, ad, dx, rfl, A0, hp, p0, p1, hl, k1, k2⟩ := h
    have hu := hu_of hr
    refine ⟨_, pss_cons (ps_set (i := 2) scNewThing.nd rfl (Or.inl rfl) (pe_meth (pv 0) T.cl GF.m GF.g hr GF.b .nil (passX (takes_of rfl rfl rfl rfl)) (pa_cons (pv 1) pa_nil)))
      (pss_cons (ps_set (i := 3) scNewThing.nd rfl (Or.inl rfl) (pe_fld (pv 0) rfl))
      (pss_cons (ps_fldaug (pv 0) pe_int in_add)
      (pss_cons (ps_asg (pv 3) (pg_sub (pe_dget hu (pe_fld (pv 0) rfl) (pv 1) (fun _ _ => rfl)) (pv 2) set_list))
      (pss_one (ps_ret (pe_tup (pa_cons (pv 2) (pa_cons (pv 3) pa_nil)))))))), ?_⟩
    walk_at "wn"
    refine ⟨_, rfl, ad .box, dx .box, _, rfl, A0.at_ .box trivial, rfl, ?_⟩
    walk_at "wn"
    refine ⟨p, S, ad, dx, rfl, A0, hp, p0, p1, hl, fun n hf H1 s1 => ?_, k2⟩
    have A1 := A0.same s1
    have hb := A1.at_ .box trivial
    have ht := A1.at_ (.tab p) hp
    have nbt : ad .box ≠ ad (.tab p) := A1.ne (c := .box) (c' := .tab p) trivial hp (by intro z; cases z)
    have nbd : ad .tabD ≠ ad .box := A1.ne (c := .tabD) (c' := .box) trivial trivial (by intro z; cases z)
    walk_at "wn"
    refine ⟨_, rfl, ad .box, C.S, dx .box, _, _, rfl, hb, T.cl, T.no _ (by decide), rfl, ?_⟩
    walk_at "wn"
    refine ⟨_, rfl, ad .box, C.S, dx .box, _, _, rfl, hb, T.cl, T.no _ (by decide), rfl, ?_⟩
    refine ⟨_, _, rfl, rfl, ?_⟩
    refine ⟨_, _, hb, by show 6 < 1000; decide, ?_⟩
    walk_at "wn"
    have hv : valV (entKV S.procs fun p => ad (.tab p)) (Sum.inl p) = some (.ref (ad (.tab p))) := by rw [ent_val, if_pos hp]
    refine ⟨_, rfl, ad .box, C.S, dx .box, _, _, rfl, upd_same, T.cl, T.no _ (by decide), rfl, ?_⟩
    refine ⟨_, rfl, ad .tabD, _, rfl, hv ▸ DGet.k (k := Sum.inl p) (by rw [upd_ne nbd]; exact A1.at_ .tabD trivial), ?_⟩
    have hn : n < (S.tab p).length := (List.getElem?_eq_some_iff.mp hf.1).1
    refine ⟨_, rfl, ad (.tab p), _, _, n, rfl, rfl, by rw [upd_ne (Ne.symm nbt)]; exact ht, by rw [List.length_map]; exact ixN_nat hn, ?_⟩
    walk_at "wn"
    refine ⟨by show 2 ≤ sizeLine; decide, fun T1 hT => ?_⟩
    have nTt : T1 ≠ ad (.tab p) := fun z => by rw [z, upd_same] at hT; cases hT
    rw [upd_ne nTt] at hT
    have nTb : T1 ≠ ad .box := fun z => by rw [z, upd_same] at hT; cases hT
    rw [upd_ne nTb] at hT
    refine (fun z : At C _ _ _ _ ∧ Step _ _ _ _ _ _ => k1 n hf _ T1 (s1.free hT) upd_same z.1 ((Step.same s1).trans z.2)) ?_
    refine At.re2 [.box, .tab p] A1 (fun c l => by cases c <;> exact l) (fun c hc => ?_) (fun c hc => ?_) (fun c hc l => ?_) (fun b o n e => ?_)
    · simp only [List.mem_cons, List.not_mem_nil, or_false] at hc
      rcases hc with rfl | rfl
      · exact trivial
      · exact hp
    · simp only [List.mem_cons, List.not_mem_nil, or_false] at hc
      rcases hc with rfl | rfl
      · rw [upd_ne (Ne.symm nTb), upd_ne nbt, upd_same]
        rfl
      · rw [upd_ne (Ne.symm nTt), upd_same]
        show _ = some (HO.lst ((if p = p then (S.tab p).set n (some S.next) else S.tab p).map optV))
        rw [if_pos rfl, List.map_set]
        rfl
    · cases c with
      | box => exact absurd List.mem_cons_self hc
      | tab q =>
        have nq : q ≠ p := fun z => hc (by rw [z]; simp)
        show HO.lst ((if q = p then (S.tab p).set n (some S.next) else S.tab q).map optV) = _
        rw [if_neg nq]
        rfl
      | _ => rfl
    · have n1 := n .box (by simp)
      have n2 := n (.tab p) (by simp)
      rw [upd_ne (ne_of_none e hT), upd_ne n2, upd_ne n1]
      exact e
def newSource (S : Sys) (p : Int) (n : Nat) : Sys := { newThing S p n with
  srcs := S.srcs ++ [S.next]
  unit := fun j => if j = S.next then (0, false) else S.unit j }
def spNewSource (C : Cs) (D : Addr) : Sp := fun vs H Q E => ∃ p : Int, OnSys C vs H [.int p] fun S ad dx => p ∈ S.procs ∧ 0 ≤ p ∧ p ≤ 1000 ∧ (S.tab p).length ≤ 1000 ∧ S.srcs.length ≤ 1000 ∧ S.next ∉ S.srcs ∧
  (∀ n, firstFree (S.tab p) n → ∀ H' ad', At C H' (newSource S p n) ad' dx → Step H S ad H' (newSource S p n) ad' → Q (.int (n : Int)) H') ∧ (Ful (S.tab p) → Out D "process" p H E)
theorem scNewSource : FnScope ["self", "process", "number", "thing"] ["self", "process"] (defScope sNewSource) := ⟨rfl, rfl, rfl, by decide +kernel, rfl, by decide +kernel, by decide +kernel⟩
theorem okNewSource {D f fN : Addr} {fd fdN : FuncData} (F : Fun K "new_source" "System.new_source" sNewSource f fd) (T : ClsF K C.S sysF) (GN : ME P w K mg base 5 C.S "new_thing" ["self", "process"] (spNewThing C D) fN fdN) :
    FnOk P w K mg base (L2.CX P w) 6 f fd ["self", "process"] (spNewSource C D) := by
  refine F.okX scNewSource (fun vs H Q E h => ?_) (fun cdv A outer s H vs Q E hr h => ?_)
  · obtain ⟨_, _, _, _, rfl, _⟩ := h
    rfl
  · obtain ⟨p, S, ad, dx, rfl, A0, hp, p0, p1, hl, hz, hnx, k1, k2⟩ := h
    have hu := hu_of hr
    refine ⟨_, pss_cons (ps_asg (pe_meth (pv 0) T.cl GN.m GN.g hr GN.b .nil (passX (takes_of rfl rfl rfl rfl)) (pa_cons (pv 1) pa_nil)) (pg_tup rfl (pgs_cons (pg_name (i := 2) scNewSource.nd rfl (Or.inl rfl)) (pgs_cons (pg_name (i := 3) scNewSource.nd rfl (Or.inl rfl)) pgs_nil))))
      (pss_cons (ps_dput hu (pe_fld (pv 0) rfl) (pv 3) (pe_tup (pa_cons pe_int (pa_cons pe_bl pa_nil))) rfl) (pss_one (ps_ret (pv 2)))), ?_⟩
    walk_at "wn"
    refine ⟨_, rfl, ad .box, dx .box, _, rfl, A0.at_ .box trivial, rfl, ?_⟩
    walk_at "wn"
    refine ⟨p, S, ad, dx, rfl, A0, hp, p0, p1, hl, fun n hf H1 T1 hT1 hT A1 st1 => ?_, k2⟩
    refine ⟨T1, _, rfl, SqT.of hT, rfl, _, _, rfl, ?_⟩
    walk_at "wn"
    refine ⟨_, _, rfl, ?_⟩
    walk_at "wn"
    refine ⟨rfl, ?_⟩
    walk_at "wn"
    refine ⟨by show 2 ≤ sizeLine; decide, fun T2 hT2 => ?_⟩
    have hb := A1.at_ .box trivial
    have hD : H1 (ad .srcD) = some (.dK (entKV S.srcs fun t => ad (.srcT t))) := A1.at_ .srcD trivial
    have nTD : T2 ≠ ad .srcD := fun z => by rw [z, hD] at hT2; cases hT2
    have nTb : ad .box ≠ T2 := ne_of_none hb hT2
    refine ⟨_, rfl, ad .box, C.S, dx .box, _, _, rfl, by rw [upd_ne nTb]; exact hb, T.cl, T.no _ (by decide), rfl, ?_⟩
    refine ⟨_, rfl, ad .srcD, _, rfl, DPut.k (k := Sum.inl S.next) (by rw [upd_ne (Ne.symm nTD)]; exact hD) (by unfold entKV; rw [List.length_map, sizeLine_eq]; omega), ?_⟩
    walk_at "wn"
    refine (fun z : At C _ _ _ _ ∧ Step H1 (newThing S p n) ad _ _ _ => k1 n hf _ (setA ad (.srcT S.next) T2) z.1 (st1.trans z.2)) ?_
    refine At.re3 [.srcD, .srcT S.next] A1 (fun c lc => ?_) (fun c hc lc => ?_) (fun c hc lc => ?_) (fun c hc lc => ?_) (fun c hc c' hc' lc lc' z e => ?_) (fun b o nb e => ?_) (setA_ne (by intro z; cases z))
    · cases c with
      | srcT t =>
        rcases List.mem_append.mp (show t ∈ S.srcs ++ [S.next] from lc) with y | y
        · exact .inr y
        · rw [List.mem_singleton.mp y]
          exact .inl (by simp)
      | _ => exact .inr lc
    · simp only [List.mem_cons, List.not_mem_nil, or_false] at hc
      rcases hc with rfl | rfl
      · rw [setA_ne (by intro z; cases z), upd_same, ent_put, if_neg hnx, srcT_fun]
        rfl
      · rw [setA_same, upd_ne nTD, upd_same]
        show _ = some (HO.tup [.int (if S.next = S.next then ((0 : Int), false) else S.unit S.next).1, .bl (if S.next = S.next then ((0 : Int), false) else S.unit S.next).2])
        rw [if_pos rfl]
    · have n1 : c ≠ .srcD := fun z => hc (by rw [z]; simp)
      have n2 : c ≠ .srcT S.next := fun z => hc (by rw [z]; simp)
      refine ⟨setA_ne n2, ?_⟩
      cases c with
      | srcD => exact absurd rfl n1
      | srcT j =>
        have nj : j ≠ S.next := fun z => n2 (by rw [z])
        show HO.tup [.int (if j = S.next then ((0 : Int), false) else S.unit j).1, .bl (if j = S.next then ((0 : Int), false) else S.unit j).2] = _
        rw [if_neg nj]
        rfl
      | _ => rfl
    · simp only [List.mem_cons, List.not_mem_nil, or_false] at hc
      rcases hc with rfl | rfl
      · exact .inl ⟨setA_ne (by intro z; cases z), trivial⟩
      · exact .inr (by rw [setA_same]; exact hT2)
    · simp only [List.mem_cons, List.not_mem_nil, or_false] at hc hc'
      rcases hc with rfl | rfl
      · rw [setA_ne (by intro z; cases z), hD] at z
        cases z
      · rcases hc' with rfl | rfl
        · rw [setA_same, setA_ne (by intro z; cases z)] at e
          exact absurd e nTD
        · rfl
    · rw [upd_ne (nb .srcD (by simp) trivial), upd_ne (ne_of_none e hT2)]
      exact e
end

abbrev sClose : Stmt := meth 18 7
abbrev sNumbers : Stmt := meth 18 17
abbrev sSame : Stmt := meth 18 18
abbrev sFree : Stmt := meth 18 40
abbrev sEndThing : Stmt := meth 18 41
/-! WaitingSet.drop -/
theorem ent_drop (ls : List Int) (ad : Int → Addr) (l : Int) : dropK (entKV ls ad) (Sum.inl l) = entKV (ls.filter fun x => decide (x ≠ l)) ad := by
  unfold dropK entKV
  induction ls with
  | nil => rfl
  | cons x ls ih =>
    rw [List.map_cons, List.filter_cons, List.filter_cons, ih]
    by_cases h : x = l
    · have e1 : decide ((Sum.inl x : Key) ≠ Sum.inl l) = false := decide_eq_false fun z => z (by rw [h])
      have e2 : decide (x ≠ l) = false := decide_eq_false fun z => z h
      rw [e2]
      show (if decide ((Sum.inl x : Key) ≠ Sum.inl l) = true then _ else _) = _
      rw [e1]
      rfl
    · have e1 : decide ((Sum.inl x : Key) ≠ Sum.inl l) = true := decide_eq_true fun z => h (Sum.inl.inj z)
      have e2 : decide (x ≠ l) = true := decide_eq_true h
      rw [e2]
      show (if decide ((Sum.inl x : Key) ≠ Sum.inl l) = true then _ else _) = _
      rw [e1]
      rfl
def without (l : Int) (ls : List Int) : List Int := ls.filter fun x => decide (x ≠ l)
theorem mem_without {l x : Int} {ls : List Int} : x ∈ without l ls ↔ x ∈ ls ∧ x ≠ l := by
  unfold without
  rw [List.mem_filter]
  simp
theorem inV_opt (t : Int) : ∀ l : List (Option Int), inV (.int t) (l.map optV) = decide (some t ∈ l)
  | [] => rfl
  | x :: l => by
    have ih := inV_opt t l
    unfold inV at ih ⊢
    rw [List.map_cons, List.any_cons, ih]
    have e : eqV (optV x) (V.int t) = decide (x = some t) := by
      cases x with
      | none => rfl
      | some y =>
        show decide (y = t) = _
        by_cases h : y = t
        · rw [decide_eq_true h, decide_eq_true (by rw [h])]
        · rw [decide_eq_false h, decide_eq_false (fun z => h (by cases z; rfl))]
    rw [e]
    by_cases h : x = some t
    · rw [decide_eq_true h, Bool.true_or]
      exact (decide_eq_true (by rw [h]; exact List.mem_cons_self)).symm
    · rw [decide_eq_false h, Bool.false_or]
      by_cases h2 : some t ∈ l
      · rw [decide_eq_true h2]
        exact (decide_eq_true (List.mem_cons_of_mem _ h2)).symm
      · rw [decide_eq_false h2]
        exact (decide_eq_false fun z => (List.mem_cons.mp z).elim (fun e => h e.symm) h2).symm
theorem flat_opts (l : List (Option Int)) : (l.map optV).all flatV = true := by
  rw [List.all_map, List.all_eq_true]
  intro x _
  cases x <;> rfl
section
variable {P : Program} {w : World} {K : PySem.W.Frag} {mg : Str → Option Value} {base : Heap} {C : Cs} {CW : Addr}
/-! end_thing -/
def ended (S : Sys) (t : Int) : Sys := if t ∈ S.sets then { S with sets := without t S.sets } else { S with srcs := without t S.srcs }
def spEndThing (C : Cs) : Sp := fun vs H Q _ => ∃ t : Int, OnSys C vs H [.int t] fun S ad dx => S.sets = [] ∧ t ∈ S.srcs ∧ ∀ H', At C H' (ended S t) ad dx → Step H S ad H' (ended S t) ad → Q .non H'
theorem scEndThing : FnScope ["self", "thing", "waiting"] ["self", "thing"] (defScope sEndThing) := ⟨rfl, rfl, rfl, by decide +kernel, rfl, by decide +kernel, by decide +kernel⟩
theorem okEndThing {f : Addr} {fd : FuncData} (F : Fun K "end_thing" "System.end_thing" sEndThing f fd) (T : ClsF K C.S sysF) : FnOk P w K mg base CX0 2 f fd ["self", "thing"] (spEndThing C) := by
  refine F.ok scEndThing (fun vs H Q E h => ?_) (fun cdv A outer s H vs Q E hr h => ?_)
  · obtain ⟨_, _, _, _, rfl, _⟩ := h
    rfl
  · obtain ⟨t, S, ad, dx, rfl, A0, hns, hts, k⟩ := h
    have hu := hu_of hr
    refine ⟨_, pss_cons (ps_if (pt_cmp (pc_din hu (pv 1) (pe_fld (pv 0) rfl)) rfl) (pss_cons (ps_ddel (pe_fld (pv 0) rfl) (pv 1)) (pss_one ps_retN)) pss_nil)
      (pss_cons (ps_ddel (pe_fld (pv 0) rfl) (pv 1))
      (pss_one (ps_lock (ps_for PassesOwn.never rfl (pi_values (pe_fld (pv 0) rfl)) (pg_name (i := 2) scEndThing.nd rfl (Or.inl rfl)) (pss_one ps_never))))), ?_⟩
    have hb := A0.at_ .box trivial
    have hD : H (ad .setD) = some (.dK (entKV S.sets fun s => ad (.ws s))) := A0.at_ .setD trivial
    have hR : H (ad .srcD) = some (.dK (entKV S.srcs fun t => ad (.srcT t))) := A0.at_ .srcD trivial
    have nbR : ad .box ≠ ad .srcD := A0.ne (c := .box) (c' := .srcD) trivial trivial (by intro z; cases z)
    have nbD : ad .box ≠ ad .setD := A0.ne (c := .box) (c' := .setD) trivial trivial (by intro z; cases z)
    have ht : t ∉ S.sets := by rw [hns]; exact List.not_mem_nil
    refine ⟨_, rfl, _, rfl, ad .box, C.S, dx .box, _, _, rfl, hb, T.cl, T.no _ (by decide), rfl, ?_⟩
    refine ⟨ad .setD, _, rfl, DGet.k (k := Sum.inl t) hD, ?_⟩
    rw [ent_val, if_neg ht]
    refine ⟨_, rfl, ?_⟩
    show if false = true then _ else _
    refine iteF ?_
    refine ⟨_, rfl, ad .box, C.S, dx .box, _, _, rfl, hb, T.cl, T.no _ (by decide), rfl, ?_⟩
    refine ⟨_, rfl, ad .srcD, _, Sum.inl t, rfl, hR, rfl, by rw [ent_val, if_pos hts]; rfl, ?_⟩
    rw [ent_drop]
    have ee : ended S t = { S with srcs := without t S.srcs } := if_neg ht
    obtain ⟨A1, st1⟩ : At C (upd H (ad .srcD) (.dK (entKV (S.srcs.filter fun x => decide (x ≠ t)) fun t => ad (.srcT t)))) (ended S t) ad dx ∧ Step H S ad (upd H (ad .srcD) (.dK (entKV (S.srcs.filter fun x => decide (x ≠ t)) fun t => ad (.srcT t)))) (ended S t) ad := by
      rw [ee]
      refine At.re2 [.srcD] A0 (fun c l => ?_) (fun c hc => ?_) (fun c hc => ?_) (fun c hc l => ?_) (fun b o n e => ?_)
      · cases c with
        | srcT s => exact (mem_without.mp l).1
        | _ => exact l
      · rw [List.mem_singleton.mp hc]
        exact trivial
      · rw [List.mem_singleton.mp hc, upd_same]
        rfl
      · cases c with
        | srcD => exact absurd List.mem_cons_self hc
        | _ => rfl
      · rw [upd_ne (n .srcD (by simp))]
        exact e
    have es : (ended S t).sets = [] := by rw [ee]; exact hns
    have kk : ∀ H', Same (upd H (ad .srcD) (.dK (entKV (S.srcs.filter fun x => decide (x ≠ t)) fun t => ad (.srcT t)))) H' → Q .non H' := fun H' sm => k H' (A1.same sm) (st1.trans (Step.same sm))
    generalize upd H (ad .srcD) (.dK (entKV (S.srcs.filter fun x => decide (x ≠ t)) fun t => ad (.srcT t))) = H1 at A1 kk
    have hb1 := A1.at_ .box trivial
    have hD1 : H1 (ad .setD) = some (.dK []) := by
      have e : H1 (ad .setD) = some (.dK (entKV (ended S t).sets fun s => ad (.ws s))) := A1.at_ .setD trivial
      rw [es] at e
      exact e
    refine ⟨ad .setD, _, hD1, trivial, fun od => ?_⟩
    refine ⟨_, rfl, ad .box, C.S, dx .box, _, _, rfl, by rw [upd_ne nbD]; exact hb1, T.cl, T.no _ (by decide), rfl, ?_⟩
    refine ⟨ad .setD, od, _, rfl, upd_same, ?_⟩
    refine for_it walk_values (fun i σ' H2 => ∃ u : Option V, σ' = [some (.ref (ad .box)), some (.int t), u] ∧ Same (upd H1 (ad .setD) (.frz od (.dK []))) H2) ⟨none, rfl, Same.refl _⟩ (fun i σ' H2 _ ⟨_, _, sm⟩ => sm _ _ upd_same) (fun i x σ' H2 H3 hi _ _ => absurd hi (Nat.not_lt_zero _)) ?_
    rintro σ' H2 ⟨u, rfl, sm⟩
    refine ⟨sm _ _ upd_same, kk _ fun b o z => ?_⟩
    by_cases hb2 : b = ad .setD
    · rw [hb2, upd_same, ← hD1, ← hb2, z]
    · rw [upd_ne hb2]
      exact sm _ _ (by rw [upd_ne hb2]; exact z)
end

def cleared (S : Sys) (p n : Int) : Sys := { S with tab := fun q => if q = p then (S.tab p).set n.toNat none else S.tab q }
def closed (S : Sys) (p n t : Int) : Sys := if ∃ q ∈ S.procs, some t ∈ (cleared S p n).tab q then cleared S p n else ended (cleared S p n) t
section
variable {P : Program} {w : World} {K : PySem.W.Frag} {mg : Str → Option Value} {base : Heap} {C : Cs} {CW : Addr}
/-! free -/
def spFree (C : Cs) : Sp := fun vs H Q _ => ∃ p n t : Int, OnSys C vs H [.int p, .int n] fun S ad dx => Means S p n t ∧ S.procs.length ≤ 1000 ∧ S.sets = [] ∧ t ∈ S.srcs ∧ ∀ H', At C H' (closed S p n t) ad dx → Step H S ad H' (closed S p n t) ad → Q .non H'
abbrev nFree : List Str := ["self", "process", "number", "thing", "table"]
theorem scFree : FnScope nFree ["self", "process", "number"] (defScope sFree) := ⟨rfl, rfl, rfl, by decide +kernel, rfl, by decide +kernel, by decide +kernel⟩
theorem okFree {f fE : Addr} {fd fdE : FuncData} (F : Fun K "free" "System.free" sFree f fd) (any : mg "any" = none) (T : ClsF K C.S sysF) (GE : MO P w K mg base 2 C.S "end_thing" ["self", "thing"] (spEndThing C) fE fdE) :
    FnOk P w K mg base CX0 3 f fd ["self", "process", "number"] (spFree C) := by
  refine F.ok scFree (fun vs H Q E h => ?_) (fun cdv A outer s H vs Q E hr h => ?_)
  · obtain ⟨_, _, _, _, _, _, rfl, _⟩ := h
    rfl
  · obtain ⟨p, n, t, S, ad, dx, rfl, A0, M, hz, hns, hts, k⟩ := h
    have hu := hu_of hr
    refine ⟨_, pss_cons (ps_set (i := 3) scFree.nd rfl (Or.inr rfl) (pe_ix ix_list (pe_dget hu (pe_fld (pv 0) rfl) (pv 1) (fun _ _ => rfl)) (pv 2) (fun _ _ => rfl)))
      (pss_cons (ps_asg pe_non (pg_sub (pe_dget hu (pe_fld (pv 0) rfl) (pv 1) (fun _ _ => rfl)) (pv 2) set_list))
      (pss_one (ps_if (pt_not (pt_val (pe_callB (cr_any rfl) (by rfl) any (by decide +kernel) (pa_cons (pe_lock (pe_lc (own := [("table", 4)]) (g := gName 4) (tt := tYes) (te := tOp (rIn K false) (tVar 3) (tVar 4)) rfl scFree.nd (pi_values (pe_fld (pv 0) rfl)) (blkOk_by (N := nFree) (sc := defScope sFree) (by decide +kernel)) (fun _ _ _ _ _ => pg_name (i := 4) scFree.nd rfl (Or.inl rfl)) (fun _ _ _ _ _ => pts_nil) (fun _ _ _ _ _ => pe_cmpR op_in_seq (pv 3) (pv 4) (by rfl)))) pa_nil))))
        (pss_one (ps_expr (pe_meth (pv 0) T.cl GE.m GE.g hr GE.b .nil pass0 (pa_cons (pv 3) pa_nil)))) pss_nil))), ?_⟩
    have hb := A0.at_ .box trivial
    have ht := A0.at_ (.tab p) M.pr
    have hT : H (ad .tabD) = some (.dK (entKV S.procs fun p => ad (.tab p))) := A0.at_ .tabD trivial
    obtain ⟨m, rfl⟩ := Int.eq_ofNat_of_zero_le M.lo
    have hm : (S.tab p)[m]? = some (some t) := M.at_
    have hml : m < (S.tab p).length := (List.getElem?_eq_some_iff.mp hm).1
    have hat : atI ((S.tab p).map optV) (m : Int) = some (V.int t) := atI_nat (by rw [List.getElem?_map, hm]; rfl)
    have hv : valV (entKV S.procs fun p => ad (.tab p)) (Sum.inl p) = some (.ref (ad (.tab p))) := by rw [ent_val, if_pos M.pr]
    refine ⟨_, rfl, ad .box, C.S, dx .box, _, _, rfl, hb, T.cl, T.no _ (by decide), rfl, ?_⟩
    refine ⟨_, rfl, ad .tabD, _, rfl, hv ▸ DGet.k (k := Sum.inl p) hT, ?_⟩
    refine ⟨_, rfl, ad (.tab p), _, _, _, rfl, rfl, SqL.of ht, hat, ?_⟩
    walk_at "wn"
    refine ⟨_, rfl, ad .box, C.S, dx .box, _, _, rfl, hb, T.cl, T.no _ (by decide), rfl, ?_⟩
    refine ⟨_, rfl, ad .tabD, _, rfl, hv ▸ DGet.k (k := Sum.inl p) hT, ?_⟩
    refine ⟨_, rfl, ad (.tab p), _, _, m, rfl, rfl, ht, by rw [List.length_map]; exact ixN_nat hml, ?_⟩
    have ntT : ad (.tab p) ≠ ad .tabD := A0.ne (c := .tab p) (c' := .tabD) M.pr trivial (by intro z; cases z)
    have nbT : ad .box ≠ ad .tabD := A0.ne (c := .box) (c' := .tabD) trivial trivial (by intro z; cases z)
    obtain ⟨A1, st1⟩ : At C (upd H (ad (.tab p)) (.lst (((S.tab p).map optV).set m V.non))) (cleared S p m) ad dx ∧ Step H S ad (upd H (ad (.tab p)) (.lst (((S.tab p).map optV).set m V.non))) (cleared S p m) ad := by
      refine At.re2 [.tab p] A0 (fun c l => by cases c <;> exact l) (fun c hc => ?_) (fun c hc => ?_) (fun c hc l => ?_) (fun b o n e => ?_)
      · rw [List.mem_singleton.mp hc]
        exact M.pr
      · rw [List.mem_singleton.mp hc, upd_same]
        show _ = some (HO.lst ((if p = p then (S.tab p).set (m : Int).toNat none else S.tab p).map optV))
        rw [if_pos rfl, List.map_set, Int.toNat_natCast]
        rfl
      · cases c with
        | tab q =>
          have nq : q ≠ p := fun z => hc (by rw [z]; simp)
          show HO.lst ((if q = p then (S.tab p).set (m : Int).toNat none else S.tab q).map optV) = _
          rw [if_neg nq]
          rfl
        | _ => rfl
      · rw [upd_ne (n (.tab p) (by simp))]
        exact e
    have kk : ∀ H', (if ∃ q ∈ S.procs, some t ∈ (cleared S p m).tab q then Same (upd H (ad (.tab p)) (.lst (((S.tab p).map optV).set m V.non))) H' else At C H' (ended (cleared S p m) t) ad dx ∧ Step (upd H (ad (.tab p)) (.lst (((S.tab p).map optV).set m V.non))) (cleared S p m) ad H' (ended (cleared S p m) t) ad) → Q .non H' := fun H' h => by
      by_cases he : ∃ q ∈ S.procs, some t ∈ (cleared S p m).tab q
      · rw [if_pos he] at h
        have ec : closed S p m t = cleared S p m := if_pos he
        exact k H' (by rw [ec]; exact A1.same h) (by rw [ec]; exact st1.trans (Step.same h))
      · rw [if_neg he] at h
        have ec : closed S p m t = ended (cleared S p m) t := if_neg he
        exact k H' (by rw [ec]; exact h.1) (by rw [ec]; exact st1.trans h.2)
    generalize upd H (ad (.tab p)) (.lst (((S.tab p).map optV).set m V.non)) = H1 at A1 st1 kk
    have hb1 := A1.at_ .box trivial
    have hT1 : H1 (ad .tabD) = some (.dK (entKV S.procs fun p => ad (.tab p))) := A1.at_ .tabD trivial
    show tIfS (tNot (tB (tCB _ (tCons (tLockE _) tNil)))) _ _ _ _ H1
    refine g_ifs (g_not (g_tB (g_cb (g_cons ?_))))
    refine ⟨ad .tabD, _, hT1, trivial, fun od => ?_⟩
    refine ⟨_, rfl, ad .box, C.S, dx .box, _, _, rfl, by rw [upd_ne nbT]; exact hb1, T.cl, T.no _ (by decide), rfl, ?_⟩
    refine ⟨ad .tabD, od, _, rfl, upd_same, fun D hD => ?_⟩
    have nDT : D ≠ ad .tabD := fun z => by rw [z, upd_same] at hD; cases hD
    have hD0 : H1 D = none := by rw [upd_ne nDT] at hD; exact hD
    refine lc_it walk_values (fun i H' => Same (upd H1 (ad .tabD) (.frz od (.dK (entKV S.procs fun p => ad (.tab p))))) H' ∧ H' D = some (.lst (((S.procs.take i).map fun q => decide (some t ∈ (cleared S p m).tab q)).map V.bl))) ⟨Same.new' hD, upd_same⟩ (fun i H' _ h => h.1 _ _ upd_same) ?_ (fun H' h => ?_)
    · rintro i x H2 H3 hi ⟨sm, hd⟩ ⟨rfl, kx, ex⟩
      have hi' : i < S.procs.length := by unfold entKV at hi; rwa [List.length_map] at hi
      have e2 : S.procs[i]? = some S.procs[i] := List.getElem?_eq_getElem hi'
      have hs : S.procs[i] ∈ S.procs := List.getElem_mem hi'
      have et : S.procs.take (i + 1) = S.procs.take i ++ [S.procs[i]] := by rw [List.take_add_one, e2]; rfl
      unfold entKV at ex
      rw [List.getElem?_map, e2] at ex
      cases ex
      rw [et]
      generalize S.procs[i] = q at e2 hs
      have f1 : H3 (ad (.tab q)) = some (.lst (((cleared S p m).tab q).map optV)) := sm _ _ ((upd_ne (A1.ne (c := .tab q) (c' := .tabD) hs trivial (by intro z; cases z))).trans (A1.at_ (.tab q) hs))
      refine ⟨rfl, ?_⟩
      show tYes _ _ _
      refine g_yes ?_
      show if true = true then _ else _
      refine iteT ?_
      refine ⟨_, rfl, _, rfl, ad (.tab q), _, rfl, .inl (SqL.of f1), rfl, flat_opts _, ?_⟩
      refine ⟨_, hd, by rw [List.length_map, List.length_map, List.length_take, sizeLine_eq]; omega, fun b o z => ?_, ?_⟩
      · rw [upd_ne (fun y => by rw [y, hD] at z; cases z)]
        exact sm b o z
      · rw [upd_same, List.map_append, List.map_append]
        show some (HO.lst (_ ++ [V.bl (inV (.int t) (((cleared S p m).tab q).map optV))])) = _
        rw [inV_opt]
        rfl
    · obtain ⟨sm, hd⟩ := h
      have ee : S.procs.take (entKV S.procs fun p => ad (.tab p)).length = S.procs := by unfold entKV; rw [List.length_map, List.take_length]
      rw [ee] at hd
      refine ⟨sm _ _ upd_same, ?_⟩
      have sm2 : Same H1 (upd H' (ad .tabD) (.dK (entKV S.procs fun p => ad (.tab p)))) := fun b o z => by
        by_cases hb2 : b = ad .tabD
        · rw [hb2, upd_same, ← hT1, ← hb2, z]
        · rw [upd_ne hb2]
          exact sm _ _ (by rw [upd_ne hb2]; exact z)
      show tNil _ _ _
      refine g_nil ?_
      refine ⟨D, _, rfl, SqL.of (by rw [upd_ne nDT]; exact hd), ?_⟩
      refine g_bl ?_
      have hany : ((S.procs.map fun q => decide (some t ∈ (cleared S p m).tab q)).any id) = decide (∃ q ∈ S.procs, some t ∈ (cleared S p m).tab q) := by
        rw [List.any_map]
        by_cases he : ∃ q ∈ S.procs, some t ∈ (cleared S p m).tab q
        · rw [decide_eq_true he]
          obtain ⟨q, h1, h2⟩ := he
          exact List.any_eq_true.mpr ⟨q, h1, decide_eq_true h2⟩
        · rw [decide_eq_false he]
          refine List.any_eq_false.mpr fun q hq z => he ⟨q, hq, of_decide_eq_true z⟩
      rw [hany]
      by_cases he : ∃ q ∈ S.procs, some t ∈ (cleared S p m).tab q
      · rw [decide_eq_true he]
        refine iteF ?_
        exact kk _ (by rw [if_pos he]; exact sm2)
      · rw [decide_eq_false he]
        refine iteT ?_
        have A2 := A1.same sm2
        refine ⟨_, rfl, ad .box, dx .box, _, rfl, A2.at_ .box trivial, rfl, ?_⟩
        walk_at "wn"
        exact ⟨t, cleared S p m, ad, dx, rfl, A2, hns, hts, fun H'' A3 st3 => kk _ (by rw [if_neg he]; exact ⟨A3, (Step.same sm2).trans st3⟩)⟩
/-! close -/
def spClose (C : Cs) (D : Addr) : Sp := fun vs H Q E => ∃ (p n : Int) (x : Option Int), OnSys C vs H [.int p, .int n] fun S ad dx => Opn S p n x ∧ n ≤ 1000 ∧ S.procs.length ≤ 1000 ∧ (x = none → Out D "number" n H E) ∧
  (∀ t, x = some t → S.sets = [] ∧ t ∈ S.srcs ∧ ∀ H', At C H' (closed S p n t) ad dx → Step H S ad H' (closed S p n t) ad → Q .non H')
theorem scClose : FnScope ["self", "process", "number"] ["self", "process", "number"] (defScope sClose) := ⟨rfl, rfl, rfl, by decide +kernel, rfl, by decide +kernel, by decide +kernel⟩
theorem Opn.means {S : Sys} {p n t : Int} (M : Opn S p n (some t)) : Means S p n t := by
  have h : n ≤ S.N - 1 := by
    rcases Int.lt_or_le (S.N - 1) n with z | z
    · cases M.out z
    · exact z
  exact ⟨M.pr, M.lo, h, M.at_ h⟩
theorem Means.opn {S : Sys} {p n t : Int} (M : Means S p n t) : Opn S p n (some t) := ⟨M.pr, M.lo, fun _ => M.at_, fun z => absurd M.hi (by omega)⟩
theorem okClose {D f fT fF : Addr} {fd fdT fdF : FuncData} (F : Fun K "close" "System.close" sClose f fd) (T : ClsF K C.S sysF) (GT : ME P w K mg base 4 C.S "thing_at" ["self", "process", "number"] (spThingAt C D) fT fdT) (GF : MO P w K mg base 3 C.S "free" ["self", "process", "number"] (spFree C) fF fdF) :
    FnOk P w K mg base (L2.CX P w) 5 f fd ["self", "process", "number"] (spClose C D) := by
  refine F.okX scClose (fun vs H Q E h => ?_) (fun cdv A outer s H vs Q E hr h => ?_)
  · obtain ⟨_, _, _, _, _, _, rfl, _⟩ := h
    rfl
  · obtain ⟨p, n, x, S, ad, dx, rfl, A0, M, hn, hz, k2, k1⟩ := h
    have hr3 : Room 3 _ := hr.mono (by decide)
    refine ⟨_, pss_cons (ps_expr (pe_meth (pv 0) T.cl GT.m GT.g hr GT.b .nil (passX (takes_of rfl rfl rfl rfl)) (pa_cons (pv 1) (pa_cons (pv 2) pa_nil))))
      (pss_one (ps_expr (pe_meth (pv 0) T.cl GF.m GF.g hr3 GF.b .nil pass0 (pa_cons (pv 1) (pa_cons (pv 2) pa_nil))))), ?_⟩
    have hb := A0.at_ .box trivial
    walk_at "wn"
    refine ⟨_, rfl, ad .box, dx .box, _, rfl, hb, rfl, ?_⟩
    walk_at "wn"
    refine ⟨p, n, x, S, ad, dx, rfl, A0, M, hn, fun t ht => ?_, k2⟩
    subst ht
    walk_at "wn"
    refine ⟨_, rfl, ad .box, dx .box, _, rfl, hb, rfl, ?_⟩
    walk_at "wn"
    exact ⟨p, n, t, S, ad, dx, rfl, A0, M.means, hz, (k1 t rfl).1, (k1 t rfl).2.1, (k1 t rfl).2.2⟩
end

abbrev sCopy : Stmt := meth 18 6
abbrev NumE (K : PySem.W.Frag) (mg : Str → Option Value) (D fI : Addr) (fdI : FuncData) : Prop := ErrF K mg "NoNumber" "number" D fI fdI "LookupError.__new__" (.type "LookupError" :: exT)
def copied (S : Sys) (p : Int) (m : Nat) (t : Int) : Sys := { S with tab := fun q => if q = p then (S.tab p).set m (some t) else S.tab q }
/-- behind a copy onto the number m -/
def onto (S : Sys) (p : Int) (m : Nat) (t : Int) : Option Int → Sys
  | none => copied S p m t
  | some u => if u = t then S else copied (closed S p (m : Int) u) p m t
theorem At.cop {C : Cs} {H : Hp} {S : Sys} {ad dx : Cell → Addr} {p t : Int} {m : Nat} (A : At C H S ad dx) (hp : p ∈ S.procs) : At C (upd H (ad (.tab p)) (.lst (((S.tab p).map optV).set m (.int t)))) (copied S p m t) ad dx ∧ Step H S ad (upd H (ad (.tab p)) (.lst (((S.tab p).map optV).set m (.int t)))) (copied S p m t) ad := by
  refine At.re2 [.tab p] A (fun c l => by cases c <;> exact l) (fun c hc => ?_) (fun c hc => ?_) (fun c hc l => ?_) (fun b o n e => ?_)
  · rw [List.mem_singleton.mp hc]
    exact hp
  · rw [List.mem_singleton.mp hc, upd_same]
    show _ = some (HO.lst ((if p = p then (S.tab p).set m (some t) else S.tab p).map optV))
    rw [if_pos rfl, List.map_set]
    rfl
  · cases c with
    | tab q =>
      have nq : q ≠ p := fun z => hc (by rw [z]; simp)
      show HO.lst ((if q = p then (S.tab p).set m (some t) else S.tab q).map optV) = _
      rw [if_neg nq]
      rfl
    | _ => rfl
  · rw [upd_ne (n (.tab p) (by simp))]
    exact e
theorem closed_tab {S : Sys} {p n u : Int} : (closed S p n u).tab = (cleared S p n).tab ∧ (closed S p n u).procs = S.procs ∧ (closed S p n u).N = S.N ∧ (closed S p n u).sets = S.sets ∨ u ∈ S.sets := by
  by_cases h : u ∈ S.sets
  · exact .inr h
  · refine .inl ?_
    unfold closed ended
    split
    · exact ⟨rfl, rfl, rfl, rfl⟩
    · rw [if_neg (show u ∉ (cleared S p n).sets from h)]
      exact ⟨rfl, rfl, rfl, rfl⟩
section
variable {P : Program} {w : World} {K : PySem.W.Frag} {mg : Str → Option Value} {base : Heap} {C : Cs}
/-! a copy onto a number, or an object that is none -/
def spCopy (C : Cs) (D1 D2 : Addr) : Sp := fun vs H Q E => ∃ (p n : Int) (x : Option Int) (v : V), OnSys C vs H [.int p, .int n, v] fun S ad dx => Opn S p n x ∧ n ≤ 1000 ∧ S.procs.length ≤ 1000 ∧ S.sets = [] ∧ (∀ (i : Nat) (u : Int), (S.tab p)[i]? = some (some u) → u ∈ S.srcs) ∧ (S.tab p).length = S.N.toNat ∧ S.N ≤ 100 ∧ Flat H v ∧ v ≠ .non ∧ (x = none → Out D1 "number" n H E) ∧
  (∀ t, x = some t → inB v 0 (S.N - 1) = false → OutV D2 "number" v H E) ∧ (∀ (t : Int) (m : Nat) (y : Option Int), x = some t → v = .int (m : Int) → (S.tab p)[m]? = some y → ∀ H', At C H' (onto S p m t y) ad dx → Step H S ad H' (onto S p m t y) ad → Q v H')
theorem scCopy : FnScope ["self", "process", "number", "to", "thing", "goal", "table"] ["self", "process", "number", "to"] (defScope sCopy) := ⟨rfl, rfl, rfl, by decide +kernel, rfl, by decide +kernel, by decide +kernel⟩
theorem okCopy {dvs : List V} {kws : List (Str × V)} {D1 D2 D3 f fT fN fF fI fR : Addr} {fd fdT fdN fdF fdI fdR : FuncData} (F : FunD K "copy" "System.copy" (defArgs sCopy) (defBody sCopy) (defScope sCopy) dvs kws f fd) (T : ClsF K C.S sysF) (TE : NumE K mg D2 fI fdI) (GI : FnOk P w K mg base CX0 1 fI fdI ["self", "number"] (spErrInit D2 "number"))
    (GT : ME P w K mg base 4 C.S "thing_at" ["self", "process", "number"] (spThingAt C D1) fT fdT) (GN : MO P w K mg base 3 C.S "is_table_number" ["self", "number"] (spIsTabNum C) fN fdN) (GF : ME P w K mg base 4 C.S "free_number" ["self", "process"] (spFreeNum C D3) fF fdF) (GR : MO P w K mg base 3 C.S "free" ["self", "process", "number"] (spFree C) fR fdR) :
    FnOk P w K mg base (L2.CX P w) 5 f fd ["self", "process", "number", "to"] (spCopy C D1 D2) := by
  refine F.ok scCopy (fun vs H Q E h => ?_) (fun cdv A outer s H vs Q E hr h => ?_)
  · obtain ⟨_, _, _, _, _, _, _, rfl, _⟩ := h
    rfl
  · obtain ⟨p, n, x, v, S, ad, dx, rfl, A0, M, hn, hpl, hns, hsr, hlen, hN, fl, nv, k2, k3, k1⟩ := h
    have hu := hu_of hr
    have hr2 : Room 2 _ := hr.mono (by decide)
    have hr3 : Room 3 _ := hr.mono (by decide)
    refine ⟨_, pss_cons (ps_set (i := 4) scCopy.nd rfl (Or.inl rfl) (pe_meth (pv 0) T.cl GT.m GT.g hr GT.b .nil (passX (takes_of rfl rfl rfl rfl)) (pa_cons (pv 1) (pa_cons (pv 2) pa_nil))))
      (pss_cons (ps_if (PW.pt (pw_and (pt_cmpR oNotN (pv 3) pe_non (nomark _)) (pw_and1 (pt_not (pt_val (pe_meth (pv 0) T.cl GN.m GN.g hr3 GN.b .nil pass0 (pa_cons (pv 3) pa_nil))))))) (pss_one (ps_raise rfl (takes_of rfl rfl rfl rfl) (pmk_oxb bxLookup TE.ox TE.iC TE.tI GI hr2 TE.bI .nil pass0 (by rfl) TE.gC (pa_cons (pv 3) pa_nil)))) pss_nil)
      (pss_cons (ps_set (i := 5) scCopy.nd rfl (Or.inl rfl) (pe_ifExp (pt_cmpR oIsN (pv 3) pe_non (nomark _)) (pe_meth (pv 0) T.cl GF.m GF.g hr GF.b .nil (passX (takes_of rfl rfl rfl rfl)) (pa_cons (pv 1) pa_nil)) (pv 3)))
      (pss_cons (ps_set (i := 6) scCopy.nd rfl (Or.inl rfl) (pe_dget hu (pe_fld (pv 0) rfl) (pv 1) (fun _ _ => rfl)))
      (pss_cons (ps_if (pt_cmpR op_ne (pe_ix ix_list (pv 6) (pv 5) (fun _ _ => rfl)) (pv 4) (nomark _))
        (pss_cons (ps_if (pt_cmpR oNotN (pe_ix ix_list (pv 6) (pv 5) (fun _ _ => rfl)) pe_non (nomark _)) (pss_one (ps_expr (pe_meth (pv 0) T.cl GR.m GR.g hr3 GR.b .nil pass0 (pa_cons (pv 1) (pa_cons (pv 5) pa_nil))))) pss_nil)
        (pss_one (ps_asg (pv 4) (pg_sub (pv 6) (pv 5) set_list)))) pss_nil)
      (pss_one (ps_ret (pv 5))))))), ?_⟩
    have hb := A0.at_ .box trivial
    walk_at "wn"
    refine ⟨_, rfl, ad .box, dx .box, _, rfl, hb, rfl, ?_⟩
    walk_at "wn"
    refine ⟨p, n, x, S, ad, dx, rfl, A0, M, hn, fun t ht => ?_, k2⟩
    subst ht
    have M := M.means
    have env : decide (v = .non) = false := decide_eq_false nv
    walk_at "wn"
    rw [env]
    walk_at "wn"
    refine ⟨_, rfl, ad .box, dx .box, _, rfl, hb, rfl, ?_⟩
    walk_at "wn"
    refine ⟨v, S, ad, dx, rfl, A0, fl.ob, ?_⟩
    cases hin : inB v 0 (S.N - 1) with
    | false =>
      walk_at "wn"
      refine ⟨_, rfl, ?_⟩
      walk_at "wn"
      exact out_madeV fl (k3 t rfl hin)
    | true =>
      obtain ⟨m, rfl⟩ : ∃ m : Nat, v = .int (m : Int) := by
        cases v with
        | int i =>
          have e : (decide (0 ≤ i) && decide (i ≤ S.N - 1)) = true := hin
          rw [Bool.and_eq_true] at e
          exact ⟨i.toNat, congrArg V.int (by have := of_decide_eq_true e.1; omega)⟩
        | _ => cases hin
      have e : (decide ((0 : Int) ≤ (m : Int)) && decide ((m : Int) ≤ S.N - 1)) = true := hin
      rw [Bool.and_eq_true] at e
      have m1 := of_decide_eq_true e.2
      have hml : m < (S.tab p).length := by omega
      obtain ⟨y, hy⟩ : ∃ y, (S.tab p)[m]? = some y := ⟨_, List.getElem?_eq_getElem hml⟩
      have ht := A0.at_ (.tab p) M.pr
      have hv : valV (entKV S.procs fun p => ad (.tab p)) (Sum.inl p) = some (.ref (ad (.tab p))) := by rw [ent_val, if_pos M.pr]
      have hat : atI ((S.tab p).map optV) (m : Int) = some (optV y) := atI_nat (by rw [List.getElem?_map, hy]; rfl)
      walk_at "wn"
      refine ⟨_, rfl, ?_⟩
      walk_at "wn"
      refine ⟨_, rfl, ad .box, C.S, dx .box, _, _, rfl, hb, T.cl, T.no _ (by decide), rfl, ?_⟩
      refine ⟨_, rfl, ad .tabD, _, rfl, hv ▸ DGet.k (k := Sum.inl p) (A0.at_ .tabD trivial), ?_⟩
      walk_at "wn"
      refine ⟨ad (.tab p), _, (m : Int), _, rfl, rfl, SqL.of ht, hat, ?_⟩
      walk_at "wn"
      have k1 := k1 t m y rfl rfl hy
      cases y with
      | none =>
        refine g_rNe rfl ?_
        rw [decide_eq_false (show ¬ optV none = V.int t from fun z => nomatch z)]
        walk_at "wn"
        refine ⟨ad (.tab p), _, (m : Int), _, rfl, rfl, SqL.of ht, hat, ?_⟩
        walk_at "wn"
        refine ⟨ad (.tab p), _, (m : Int), m, rfl, rfl, ht, by rw [List.length_map]; exact ixN_nat hml, ?_⟩
        walk_at "wn"
        exact k1 _ (A0.cop M.pr).1 (A0.cop M.pr).2
      | some u =>
        by_cases hut : u = t
        · refine g_rNe rfl ?_
          rw [decide_eq_true (show optV (some u) = V.int t from congrArg V.int hut)]
          walk_at "wn"
          have e2 : onto S p m t (some u) = S := if_pos hut
          rw [e2] at k1
          exact k1 _ A0 (Step.refl)
        · refine g_rNe rfl ?_
          rw [decide_eq_false (show ¬ optV (some u) = V.int t from fun z => hut (V.int.inj z))]
          have e2 : onto S p m t (some u) = copied (closed S p (m : Int) u) p m t := if_neg hut
          rw [e2] at k1
          walk_at "wn"
          refine ⟨ad (.tab p), _, (m : Int), _, rfl, rfl, SqL.of ht, hat, ?_⟩
          walk_at "wn"
          rw [decide_eq_false (show ¬ optV (some u) = V.non from fun z => nomatch z)]
          walk_at "wn"
          refine ⟨_, rfl, ad .box, dx .box, _, rfl, hb, rfl, ?_⟩
          walk_at "wn"
          refine ⟨p, (m : Int), u, S, ad, dx, rfl, A0, ⟨M.pr, by omega, by omega, by rw [Int.toNat_natCast]; exact hy⟩, hpl, hns, hsr m u hy, fun H1 A1 st1 => ?_⟩
          rcases closed_tab (S := S) (p := p) (n := (m : Int)) (u := u) with ⟨c1, c2, c3, c4⟩ | z
          · have hp1 : p ∈ (closed S p (m : Int) u).procs := by rw [c2]; exact M.pr
            have ht1 := A1.at_ (.tab p) hp1
            have hl1 : ((closed S p (m : Int) u).tab p).length = (S.tab p).length := by
              rw [c1]
              show (if p = p then (S.tab p).set (m : Int).toNat none else S.tab p).length = _
              rw [if_pos rfl, List.length_set]
            walk_at "wn"
            refine ⟨ad (.tab p), _, (m : Int), m, rfl, rfl, ht1, by rw [List.length_map, hl1]; exact ixN_nat hml, ?_⟩
            walk_at "wn"
            exact k1 _ (A1.cop hp1).1 (st1.trans (A1.cop hp1).2)
          · rw [hns] at z
            cases z
end

theorem takes0 {X : Cx} : Takes X (fun _ _ _ _ => False) := fun u s' ⟨_, _, _, _, _, _, _, _, _, _, _, _, _, _, _, _, w⟩ => w.elim
abbrev sIsCount : Stmt := top 14
abbrev sArrive : Stmt := meth 18 10
abbrev sSourceAt : Stmt := meth 18 35
abbrev sUnfinished : Stmt := meth 18 42
abbrev sNotify : Stmt := meth 18 45
abbrev sUnits : Stmt := meth 18 19
def withUnit (S : Sys) (t u : Int) (f : Bool) : Sys := { S with unit := fun j => if j = t then (u, f) else S.unit j }
section
variable {C : Cs} {H : Hp} {S : Sys} {ad dx : Cell → Addr}
/-- sources[t] = (u, f) -/
theorem At.unit (A : At C H S ad dx) {t u : Int} {f : Bool} {T : Addr} (ht : t ∈ S.srcs) (hT : H T = none) :
    At C (upd (upd H T (.tup [.int u, .bl f])) (ad .srcD) (.dK (putK (entKV S.srcs fun j => ad (.srcT j)) (Sum.inl t) (.ref T)))) (withUnit S t u f) (setA ad (.srcT t) T) dx ∧
    Step H S ad (upd (upd H T (.tup [.int u, .bl f])) (ad .srcD) (.dK (putK (entKV S.srcs fun j => ad (.srcT j)) (Sum.inl t) (.ref T)))) (withUnit S t u f) (setA ad (.srcT t) T) := by
  have hD := A.at_ .srcD trivial
  have nTD : T ≠ ad .srcD := fun z => by rw [z, hD] at hT; cases hT
  refine At.re3 [.srcD, .srcT t] A (fun c l => .inr (by cases c <;> exact l)) (fun c hc l => ?_) (fun c hc l => ?_) (fun c hc l => ?_) (fun c hc c' hc' l l' z e => ?_) (fun b o n e => ?_) (setA_ne (by intro z; cases z))
  · simp only [List.mem_cons, List.not_mem_nil, or_false] at hc
    rcases hc with rfl | rfl
    · rw [setA_ne (by intro z; cases z), upd_same, ent_put, if_pos ht, srcT_fun]
      rfl
    · rw [setA_same, upd_ne nTD, upd_same]
      show _ = some (HO.tup [.int (if t = t then (u, f) else S.unit t).1, .bl (if t = t then (u, f) else S.unit t).2])
      rw [if_pos rfl]
  · have n1 : c ≠ .srcD := fun z => hc (by rw [z]; simp)
    have n2 : c ≠ .srcT t := fun z => hc (by rw [z]; simp)
    refine ⟨setA_ne n2, ?_⟩
    cases c with
    | srcD => exact absurd rfl n1
    | srcT j =>
      have nj : j ≠ t := fun z => n2 (by rw [z])
      show HO.tup [.int (if j = t then (u, f) else S.unit j).1, .bl (if j = t then (u, f) else S.unit j).2] = _
      rw [if_neg nj]
      rfl
    | _ => rfl
  · simp only [List.mem_cons, List.not_mem_nil, or_false] at hc
    rcases hc with rfl | rfl
    · exact .inl ⟨setA_ne (by intro z; cases z), trivial⟩
    · exact .inr (by rw [setA_same]; exact hT)
  · simp only [List.mem_cons, List.not_mem_nil, or_false] at hc hc'
    rcases hc with rfl | rfl
    · rw [setA_ne (by intro z; cases z), hD] at z
      cases z
    · rcases hc' with rfl | rfl
      · rw [setA_same, setA_ne (by intro z; cases z)] at e
        exact absurd e nTD
      · rfl
  · rw [upd_ne (n .srcD (by simp) trivial), upd_ne (ne_of_none e hT)]
    exact e
end
/-! numbers -/
def numsOf (S : Sys) : Nat → List (Option Int) → List (Nat × Bool)
  | _, [] => []
  | i, none :: l => numsOf S (i + 1) l
  | i, some t :: l => (i, decide (t ∈ S.srcs)) :: numsOf S (i + 1) l
def numOne (S : Sys) (i : Nat) : Option Int → List (Nat × Bool)
  | none => []
  | some t => [(i, decide (t ∈ S.srcs))]
theorem nums_take (S : Sys) : ∀ (l : List (Option Int)) (k i : Nat) (x : Option Int), l[i]? = some x → numsOf S k (l.take (i + 1)) = numsOf S k (l.take i) ++ numOne S (k + i) x
  | [], k, i, x, h => by simp at h
  | y :: l, k, 0, x, h => by
    obtain rfl : y = x := by simpa using h
    cases y <;> simp [numsOf, numOne]
  | y :: l, k, i + 1, x, h => by
    have ih := nums_take S l (k + 1) i x (by simpa using h)
    have e : k + 1 + i = k + (i + 1) := by omega
    rw [e] at ih
    cases y with
    | none =>
      show numsOf S (k + 1) (l.take (i + 1)) = numsOf S (k + 1) (l.take i) ++ _
      exact ih
    | some t =>
      show _ :: numsOf S (k + 1) (l.take (i + 1)) = (_ :: numsOf S (k + 1) (l.take i)) ++ _
      rw [ih]
      rfl
theorem nums_len (S : Sys) : ∀ (l : List (Option Int)) (k : Nat), (numsOf S k l).length ≤ l.length
  | [], _ => Nat.le_refl _
  | none :: l, k => Nat.le_trans (nums_len S l (k + 1)) (Nat.le_succ _)
  | some t :: l, k => Nat.succ_le_succ (nums_len S l (k + 1))
def kindS (b : Bool) : Str := if b = true then "source" else "set"
def NumAt (H : Hp) (v : V) (r : Nat × Bool) : Prop := ∃ T, v = .ref T ∧ H T = some (.tup [.int (r.1 : Int), .str (kindS r.2)])
theorem NumAt.same {H H' : Hp} {v : V} {r : Nat × Bool} (h : NumAt H v r) (s : Same H H') : NumAt H' v r := by
  obtain ⟨T, rfl, e⟩ := h
  exact ⟨T, rfl, s _ _ e⟩
theorem numAts_same {H H' : Hp} {vs : List V} {rs : List (Nat × Bool)} (p : Paired (NumAt H) vs rs) (s : Same H H') : Paired (NumAt H') vs rs := by
  induction p with
  | nil => exact .nil
  | cons r _ ih => exact .cons (r.same s) ih
theorem numAts_keep {H H' : Hp} {vs : List V} {rs : List (Nat × Bool)} (p : Paired (NumAt H) vs rs) (s : ∀ b x y, H b = some (.tup [x, y]) → H' b = some (.tup [x, y])) : Paired (NumAt H') vs rs := by
  induction p with
  | nil => exact .nil
  | cons r _ ih =>
    obtain ⟨T, h1, h2⟩ := r
    exact .cons ⟨T, h1, s _ _ _ h2⟩ ih
theorem nums_snoc {H : Hp} {vs : List V} {rs : List (Nat × Bool)} {v : V} {r : Nat × Bool} (p : Paired (NumAt H) vs rs) (h : NumAt H v r) : Paired (NumAt H) (vs ++ [v]) (rs ++ [r]) := by
  induction p with
  | nil => exact .cons h .nil
  | cons q _ ih => exact .cons q ih
section
variable {P : Program} {w : World} {K : PySem.W.Frag} {mg : Str → Option Value} {base : Heap} {C : Cs}
def spIsCount : Sp := fun vs H Q _ => ∃ x : V, vs = [x] ∧ Ob H x ∧ Q (.bl (inB x 1 1000000)) H
theorem scIsCount : FnScope ["x"] ["x"] (defScope sIsCount) := ⟨rfl, rfl, rfl, by decide +kernel, rfl, by decide +kernel, by decide +kernel⟩
theorem okIsCount {f fB : Addr} {fd fdB : FuncData} (F : Fun K "is_count" "is_count" sIsCount f fd) (T : ∃ t, mg "MOST_COUNT" = some (.int 1000000 t)) (GB : FnOk P w K mg base CX0 2 fB fdB ["x", "least", "most"] spIsBetween) (kB : PySem.W.keepIn K (.ref fB) = true) (gB : mg "is_between" = some (.ref fB)) (bB : Binds K fdB ["x", "least", "most"] []) :
    FnOk P w K mg base CX0 3 f fd ["x"] spIsCount := by
  refine F.ok scIsCount (fun vs H Q E h => ?_) (fun cdv A outer s H vs Q E hr h => ?_)
  · obtain ⟨x, rfl, _⟩ := h
    rfl
  · obtain ⟨i, rfl, ob, k⟩ := h
    obtain ⟨t, ht⟩ := T
    refine ⟨_, pss_one (ps_ret (pe_call GB hr (by rfl) gB kB bB .nil pass0 (pa_cons (pv 0) (pa_cons pe_int (pa_cons (pe_glob (v := .int 1000000) (by rfl) ht ⟨_, rfl⟩) pa_nil))))), ?_⟩
    walk_at "wn"
    exact ⟨i, 1, 1000000, rfl, ob, k⟩
def spSourceAt (C : Cs) : Sp := fun vs H Q _ => ∃ p n t : Int, OnSys C vs H [.int p, .int n] fun S _ _ => Means S p n t ∧ n ≤ 1000 ∧ t ∈ S.srcs ∧ Q (.int t) H
theorem scSourceAt : FnScope ["self", "process", "number", "thing"] ["self", "process", "number"] (defScope sSourceAt) := ⟨rfl, rfl, rfl, by decide +kernel, rfl, by decide +kernel, by decide +kernel⟩
theorem okSourceAt {D f fT : Addr} {fd fdT : FuncData} (F : Fun K "source_at" "System.source_at" sSourceAt f fd) (T : ClsF K C.S sysF) (GT : ME P w K mg base 4 C.S "thing_at" ["self", "process", "number"] (spThingAt C D) fT fdT) :
    FnOk P w K mg base CX0 5 f fd ["self", "process", "number"] (spSourceAt C) := by
  refine F.ok scSourceAt (fun vs H Q E h => ?_) (fun cdv A outer s H vs Q E hr h => ?_)
  · obtain ⟨_, _, _, _, _, _, rfl, _⟩ := h
    rfl
  · obtain ⟨p, n, t, S, ad, dx, rfl, A0, M, hn, ht, k⟩ := h
    have hu := hu_of hr
    refine ⟨_, pss_cons (ps_set (i := 3) scSourceAt.nd rfl (Or.inl rfl) (pe_meth (E := fun _ _ _ => False) (pv 0) T.cl GT.m GT.g hr GT.b .nil (passX takes0) (pa_cons (pv 1) (pa_cons (pv 2) pa_nil))))
      (pss_cons (ps_if (pt_cmp (pc_dnotin hu (pv 3) (pe_fld (pv 0) rfl)) rfl) (pss_one ps_never) pss_nil)
      (pss_one (ps_ret (pv 3)))), ?_⟩
    have hb := A0.at_ .box trivial
    walk_at "wn"
    refine ⟨_, rfl, ad .box, dx .box, _, rfl, hb, rfl, ?_⟩
    walk_at "wn"
    refine ⟨p, n, some t, S, ad, dx, rfl, A0, M.opn, hn, fun t' e => ?_, fun z => nomatch z⟩
    cases e
    walk_at "wn"
    refine ⟨_, rfl, _, rfl, ad .box, C.S, dx .box, _, _, rfl, hb, T.cl, T.no _ (by decide), rfl, ?_⟩
    refine ⟨ad .srcD, _, rfl, DGet.k (k := Sum.inl t) (A0.at_ .srcD trivial), ?_⟩
    rw [ent_val, if_pos ht]
    refine ⟨_, rfl, ?_⟩
    show if false = true then _ else _
    walk_at "wn"
    exact k
def spUnfinished (C : Cs) : Sp := fun vs H Q _ => ∃ t n : Int, OnSys C vs H [.int t, .int n] fun S _ _ => t ∈ S.srcs ∧ (S.unit t).2 = false ∧ Q (.int (S.unit t).1) H
theorem scUnfinished : FnScope ["self", "source", "number", "unread", "finished"] ["self", "source", "number"] (defScope sUnfinished) := ⟨rfl, rfl, rfl, by decide +kernel, rfl, by decide +kernel, by decide +kernel⟩
theorem okUnfinished {f : Addr} {fd : FuncData} (F : Fun K "unread_of_unfinished" "System.unread_of_unfinished" sUnfinished f fd) (T : ClsF K C.S sysF) : FnOk P w K mg base CX0 1 f fd ["self", "source", "number"] (spUnfinished C) := by
  refine F.ok scUnfinished (fun vs H Q E h => ?_) (fun cdv A outer s H vs Q E hr h => ?_)
  · obtain ⟨_, _, _, _, _, rfl, _⟩ := h
    rfl
  · obtain ⟨t, n, S, ad, dx, rfl, A0, ht, hf, k1⟩ := h
    have hu := hu_of hr
    refine ⟨_, pss_cons (ps_asg (pe_dget hu (pe_fld (pv 0) rfl) (pv 1) (fun _ _ => rfl)) (pg_tup rfl (pgs_cons (pg_name (i := 3) scUnfinished.nd rfl (Or.inl rfl)) (pgs_cons (pg_name (i := 4) scUnfinished.nd rfl (Or.inl rfl)) pgs_nil))))
      (pss_cons (ps_if (pt_val (pv 4)) (pss_one ps_never) pss_nil) (pss_one (ps_ret (pv 3)))), ?_⟩
    have hv : valV (entKV S.srcs fun t => ad (.srcT t)) (Sum.inl t) = some (.ref (ad (.srcT t))) := by rw [ent_val, if_pos ht]
    walk_at "wn"
    refine ⟨_, rfl, ad .box, C.S, dx .box, _, _, rfl, A0.at_ .box trivial, T.cl, T.no _ (by decide), rfl, ?_⟩
    refine ⟨_, rfl, ad .srcD, _, rfl, hv ▸ DGet.k (k := Sum.inl t) (A0.at_ .srcD trivial), ?_⟩
    refine ⟨ad (.srcT t), _, rfl, SqT.of (A0.at_ (.srcT t) ht), rfl, _, _, rfl, ?_⟩
    walk_at "wn"
    refine ⟨_, _, rfl, ?_⟩
    walk_at "wn"
    refine ⟨rfl, ?_⟩
    walk_at "wn"
    rw [hf]
    walk_at "wn"
    exact k1
def spNotify (C : Cs) : Sp := fun vs H Q _ => ∃ t : Int, OnSys C vs H [.int t] fun S ad dx => S.sets = [] ∧ ∀ H', At C H' S ad dx → Step H S ad H' S ad → Q .non H'
theorem scNotify : FnScope ["self", "source", "waiting"] ["self", "source"] (defScope sNotify) := ⟨rfl, rfl, rfl, by decide +kernel, rfl, by decide +kernel, by decide +kernel⟩
theorem okNotify {f : Addr} {fd : FuncData} (F : Fun K "notify" "System.notify" sNotify f fd) (T : ClsF K C.S sysF) : FnOk P w K mg base CX0 3 f fd ["self", "source"] (spNotify C) := by
  refine F.ok scNotify (fun vs H Q E h => ?_) (fun cdv A outer s H vs Q E hr h => ?_)
  · obtain ⟨_, _, _, _, rfl, _⟩ := h
    rfl
  · obtain ⟨t, S, ad, dx, rfl, A0, hns, k⟩ := h
    have hb := A0.at_ .box trivial
    have hD : H (ad .setD) = some (.dK []) := by
      have e : H (ad .setD) = some (.dK (entKV S.sets fun s => ad (.ws s))) := A0.at_ .setD trivial
      rw [hns] at e
      exact e
    have nbD : ad .box ≠ ad .setD := A0.ne (c := .box) (c' := .setD) trivial trivial (by intro z; cases z)
    refine ⟨_, pss_one (ps_lock (ps_for PassesOwn.never rfl (pi_values (pe_fld (pv 0) rfl)) (pg_name (i := 2) scNotify.nd rfl (Or.inl rfl)) (pss_one ps_never))), ?_⟩
    refine ⟨ad .setD, _, hD, trivial, fun od => ?_⟩
    refine ⟨_, rfl, ad .box, C.S, dx .box, _, _, rfl, by rw [upd_ne nbD]; exact hb, T.cl, T.no _ (by decide), rfl, ?_⟩
    refine ⟨ad .setD, od, _, rfl, upd_same, ?_⟩
    refine for_it walk_values (fun i σ' H1 => H1 = upd H (ad .setD) (.frz od (.dK []))) rfl (fun i σ' H1 _ h => by rw [h]; exact upd_same) (fun i x σ' H1 H2 hi => absurd hi (Nat.not_lt_zero _)) ?_
    rintro σ' H1 rfl
    refine ⟨upd_same, ?_⟩
    have e : upd (upd H (ad .setD) (.frz od (.dK []))) (ad .setD) (.dK []) = H := funext fun b => by
      by_cases hb2 : b = ad .setD
      · rw [hb2, upd_same, hD]
      · rw [upd_ne hb2, upd_ne hb2]
    rw [e]
    exact k H A0 Step.refl
def arrived (S : Sys) (t m : Int) : Sys := withUnit S t ((S.unit t).1 + m) false
def spArrive (C : Cs) : Sp := fun vs H Q _ => ∃ p n t m : Int, OnSys C vs H [.int p, .int n, .int m] fun S ad dx => Means S p n t ∧ t ∈ S.srcs ∧ n ≤ 1000 ∧ 1 ≤ m ∧ m ≤ 1000000 ∧ S.srcs.length ≤ 900 ∧ S.sets = [] ∧ (S.unit t).2 = false ∧ ∀ H' ad', At C H' (arrived S t m) ad' dx → Step H S ad H' (arrived S t m) ad' → Q .non H'
theorem scArrive : FnScope ["self", "process", "number", "many", "source", "unread"] ["self", "process", "number", "many"] (defScope sArrive) := ⟨rfl, rfl, rfl, by decide +kernel, rfl, by decide +kernel, by decide +kernel⟩
theorem okArrive {dvs : List V} {kws : List (Str × V)} {f fS fU fN fC : Addr} {fd fdS fdU fdN fdC : FuncData} (F : FunD K "arrive" "System.arrive" (defArgs sArrive) (defBody sArrive) (defScope sArrive) dvs kws f fd) (T : ClsF K C.S sysF)
    (GS : MO P w K mg base 5 C.S "source_at" ["self", "process", "number"] (spSourceAt C) fS fdS) (GU : MO P w K mg base 1 C.S "unread_of_unfinished" ["self", "source", "number"] (spUnfinished C) fU fdU) (GN : MO P w K mg base 3 C.S "notify" ["self", "source"] (spNotify C) fN fdN)
    (GC : DO P w K mg base 3 "is_count" ["x"] spIsCount fC fdC) : FnOk P w K mg base CX0 6 f fd ["self", "process", "number", "many"] (spArrive C) := by
  refine F.ok scArrive (fun vs H Q E h => ?_) (fun cdv A outer s H vs Q E hr h => ?_)
  · obtain ⟨_, _, _, _, _, _, _, rfl, _⟩ := h
    rfl
  · obtain ⟨p, n, t, m, S, ad, dx, rfl, A0, M, ht, hn, m0, m1, hz, hns, hf, k1⟩ := h
    have hu := hu_of hr
    have hr1 : Room 1 _ := hr.mono (by decide)
    have hr2 : Room 2 _ := hr.mono (by decide)
    have hr3 : Room 3 _ := hr.mono (by decide)
    refine ⟨_, pss_cons (ps_set (i := 4) scArrive.nd rfl (Or.inl rfl) (pe_meth (pv 0) T.cl GS.m GS.g hr GS.b .nil pass0 (pa_cons (pv 1) (pa_cons (pv 2) pa_nil))))
      (pss_cons (ps_if (pt_not (pt_val (pe_call GC.g hr3 (by rfl) GC.m GC.k GC.b .nil pass0 (pa_cons (pv 3) pa_nil)))) (pss_one ps_never) pss_nil)
      (pss_cons (ps_set (i := 5) scArrive.nd rfl (Or.inl rfl) (pe_meth (pv 0) T.cl GU.m GU.g hr1 GU.b .nil pass0 (pa_cons (pv 4) (pa_cons (pv 2) pa_nil))))
      (pss_cons (ps_dput hu (pe_fld (pv 0) rfl) (pv 4) (pe_tup (pa_cons (pe_op op_add (pv 5) (pv 3)) (pa_cons pe_bl pa_nil))) rfl)
      (pss_one (ps_expr (pe_meth (pv 0) T.cl GN.m GN.g hr3 GN.b .nil pass0 (pa_cons (pv 4) pa_nil))))))), ?_⟩
    have hb := A0.at_ .box trivial
    walk_at "wn"
    refine ⟨_, rfl, ad .box, dx .box, _, rfl, hb, rfl, ?_⟩
    walk_at "wn"
    refine ⟨p, n, t, S, ad, dx, rfl, A0, M, hn, ht, ?_⟩
    walk_at "wn"
    refine ⟨.int m, rfl, .int m, ?_⟩
    rw [show inB (.int m) 1 1000000 = (decide (1 ≤ m) && decide (m ≤ 1000000)) from rfl, decide_eq_true m0, decide_eq_true m1]
    refine ⟨_, rfl, ?_⟩
    walk_at "wn"
    refine ⟨_, rfl, ad .box, dx .box, _, rfl, hb, rfl, ?_⟩
    walk_at "wn"
    refine ⟨t, n, S, ad, dx, rfl, A0, ht, hf, ?_⟩
    walk_at "wn"
    refine ⟨_, rfl, _, rfl, _, _, rfl, rfl, by show 2 ≤ sizeLine; decide, fun T1 hT => ?_⟩
    have nbT : ad .box ≠ T1 := ne_of_none hb hT
    have nDT : ad .srcD ≠ T1 := ne_of_none (A0.at_ .srcD trivial) hT
    refine ⟨_, rfl, ad .box, C.S, dx .box, _, _, rfl, by rw [upd_ne nbT]; exact hb, T.cl, T.no _ (by decide), rfl, ?_⟩
    refine ⟨_, rfl, ad .srcD, _, rfl, DPut.k (k := Sum.inl t) (by rw [upd_ne nDT]; exact A0.at_ .srcD trivial) (by unfold entKV; rw [List.length_map, sizeLine_eq]; omega), ?_⟩
    obtain ⟨A1, st1⟩ := A0.unit (u := (S.unit t).1 + m) (f := false) ht hT
    walk_at "wn"
    refine ⟨_, rfl, setA ad (.srcT t) T1 .box, dx .box, _, by rw [setA_ne (by intro z; cases z)], A1.at_ .box trivial, rfl, ?_⟩
    walk_at "wn"
    exact ⟨t, _, _, dx, by rw [setA_ne (by intro z; cases z)]; rfl, A1, hns, fun H' A2 st2 => k1 H' _ A2 (st1.trans st2)⟩
def spUnits (C : Cs) : Sp := fun vs H Q _ => ∃ p n t : Int, OnSys C vs H [.int p, .int n] fun S ad dx => Means S p n t ∧ n ≤ 1000 ∧ t ∈ S.srcs ∧ Q (.ref (ad (.srcT t))) H
theorem scUnits : FnScope ["self", "process", "number"] ["self", "process", "number"] (defScope sUnits) := ⟨rfl, rfl, rfl, by decide +kernel, rfl, by decide +kernel, by decide +kernel⟩
theorem okUnits {f fS : Addr} {fd fdS : FuncData} (F : Fun K "units" "System.units" sUnits f fd) (T : ClsF K C.S sysF) (GS : MO P w K mg base 5 C.S "source_at" ["self", "process", "number"] (spSourceAt C) fS fdS) : FnOk P w K mg base CX0 6 f fd ["self", "process", "number"] (spUnits C) := by
  refine F.ok scUnits (fun vs H Q E h => ?_) (fun cdv A outer s H vs Q E hr h => ?_)
  · obtain ⟨_, _, _, _, _, _, rfl, _⟩ := h
    rfl
  · obtain ⟨p, n, t, S, ad, dx, rfl, A0, M, hn, ht, k⟩ := h
    have hu := hu_of hr
    refine ⟨_, pss_one (ps_ret (pe_dget hu (pe_fld (pv 0) rfl) (pe_meth (pv 0) T.cl GS.m GS.g hr GS.b .nil pass0 (pa_cons (pv 1) (pa_cons (pv 2) pa_nil))) (fun _ _ => rfl))), ?_⟩
    have hb := A0.at_ .box trivial
    have hv : valV (entKV S.srcs fun t => ad (.srcT t)) (Sum.inl t) = some (.ref (ad (.srcT t))) := by rw [ent_val, if_pos ht]
    walk_at "wn"
    refine ⟨_, rfl, ad .box, C.S, dx .box, _, _, rfl, hb, T.cl, T.no _ (by decide), rfl, ?_⟩
    refine ⟨_, rfl, ad .box, dx .box, _, rfl, hb, rfl, ?_⟩
    walk_at "wn"
    refine ⟨p, n, t, S, ad, dx, rfl, A0, M, hn, ht, ?_⟩
    exact ⟨ad .srcD, _, rfl, hv ▸ DGet.k (k := Sum.inl t) (A0.at_ .srcD trivial), k⟩
def spNumbers (C : Cs) : Sp := fun vs H Q _ => ∃ p : Int, OnSys C vs H [.int p] fun S ad dx => p ∈ S.procs ∧ (S.tab p).length ≤ 1000 ∧ ∀ H' r rs, H r = none → Same H H' → H' r = some (.lst rs) → Paired (NumAt H') rs (numsOf S 0 (S.tab p)) → Q (.ref r) H'
abbrev nNumbers : List Str := ["self", "process", "table", "number", "thing"]
theorem scNumbers : FnScope nNumbers ["self", "process"] (defScope sNumbers) := ⟨rfl, rfl, rfl, by decide +kernel, rfl, by decide +kernel, by decide +kernel⟩
theorem okNumbers {f fT : Addr} {fd fdT : FuncData} (F : Fun K "numbers" "System.numbers" sNumbers f fd) (X : SysTxt mg) (T : ClsF K C.S sysF) (GT : MO P w K mg base 3 C.S "table_of" ["self", "process"] (spTableOf C) fT fdT) :
    FnOk P w K mg base CX0 4 f fd ["self", "process"] (spNumbers C) := by
  refine F.ok scNumbers (fun vs H Q E h => ?_) (fun cdv A outer s H vs Q E hr h => ?_)
  · obtain ⟨_, _, _, _, rfl, _⟩ := h
    rfl
  · obtain ⟨p, S, ad, dx, rfl, A0, hp, hl, k⟩ := h
    have hu := hu_of hr
    refine ⟨_, pss_cons (ps_set (i := 2) scNumbers.nd rfl (Or.inl rfl) (pe_meth (pv 0) T.cl GT.m GT.g hr GT.b .nil pass0 (pa_cons (pv 1) pa_nil)))
      (pss_one (ps_ret (pe_lc (own := [("number", 3), ("thing", 4)]) (g := gTup K 2 (gCons (gName 3) (gCons (gName 4) gNil))) rfl scNumbers.nd (pi_enum (by rfl) X.enum (pa_cons (pv 2) pa_nil)) (blkOk_by (N := nNumbers) (sc := defScope sNumbers) (by decide +kernel))
        (fun _ _ _ _ _ => pg_tup rfl (pgs_cons (pg_name (i := 3) scNumbers.nd rfl (Or.inl rfl)) (pgs_cons (pg_name (i := 4) scNumbers.nd rfl (Or.inl rfl)) pgs_nil))) (tt := tTest (tOp rNotN (tVar 4) (tC .non))) (fun _ _ _ _ _ => pts_one (pt_cmpR oNotN (pv 4) pe_non (nomark _)))
        (te := tTup (tCons (tVar 3) (tCons (tIf (tTest (tDIn (tVar 4) (tFld K (tVar 0) "sources"))) (tC (.str "source")) (tC (.str "set"))) tNil)))
        (fun _ _ _ _ _ => pe_tup (pa_cons (pv 3) (pa_cons (pe_ifExp (pt_cmp (pc_din hu (pv 4) (pe_fld (pv 0) rfl)) rfl) pe_str pe_str) pa_nil)))))), ?_⟩
    have hb := A0.at_ .box trivial
    have ht := A0.at_ (.tab p) hp
    walk_at "wn"
    refine ⟨_, rfl, ad .box, dx .box, _, rfl, hb, rfl, ?_⟩
    walk_at "wn"
    refine ⟨p, S, ad, dx, rfl, A0, hp, ?_⟩
    walk_at "wn"
    refine ⟨_, rfl, ?_⟩
    refine ⟨ad (.tab p), _, rfl, SqL.of ht, fun D hD => ?_⟩
    refine lc_it (walk_enum (xs := (S.tab p).map optV)) (fun i H' => ∃ rs, Same H H' ∧ H' D = some (.lst rs) ∧ Paired (NumAt H') rs (numsOf S 0 ((S.tab p).take i))) ⟨[], Same.new' hD, upd_same, .nil⟩ (fun i H' _ ⟨_, sm, _⟩ => Same.seq sm (SqL.of ht)) ?_ (fun H' h => ?_)
    · rintro i x H1 H2 hi ⟨rs, sm, hd, pr⟩ ⟨T1, x1, y1, rfl, nT, rfl, ex, ey⟩
      have s1 := Same.new' (o := .tup [x1, y1]) nT
      have smT := sm.trans s1
      obtain rfl := Option.some.inj ex
      have ey : ((S.tab p).map optV)[i]? = some y1 := ey
      rw [List.getElem?_map] at ey
      cases et : (S.tab p)[i]? with
      | none => rw [et] at ey; cases ey
      | some x =>
      rw [et] at ey
      cases ey
      have tk := nums_take S (S.tab p) 0 i x et
      rw [Nat.zero_add] at tk
      rw [tk]
      have nDT : D ≠ T1 := fun z => by rw [← z, hd] at nT; cases nT
      have hd1 := s1 _ _ hd
      have pr1 := numAts_same pr s1
      refine ⟨T1, _, rfl, SqT.of upd_same, rfl, _, _, rfl, ?_⟩
      walk_at "wn"
      refine ⟨_, _, rfl, ?_⟩
      walk_at "wn"
      refine ⟨rfl, rfl, ?_⟩
      generalize upd H1 T1 (.tup [V.int (i : Int), optV x]) = H2 at smT hd1 pr1
      have hb2 := smT _ _ hb
      have hR : H2 (ad .srcD) = some (.dK (entKV S.srcs fun t => ad (.srcT t))) := smT _ _ (A0.at_ .srcD trivial)
      cases x with
      | none =>
        walk_at "wn"
        refine ⟨rs, smT, hd1, ?_⟩
        show Paired _ _ (_ ++ [])
        rw [List.append_nil]
        exact pr1
      | some t =>
        walk_at "wn"
        have e : (!decide (optV (some t) = V.non)) = true := rfl
        rw [e]
        refine iteT ?_
        walk_at "wn"
        refine ⟨_, rfl, _, rfl, ad .box, C.S, dx .box, _, _, rfl, hb2, T.cl, T.no _ (by decide), rfl, ?_⟩
        refine ⟨ad .srcD, _, rfl, DGet.k (k := Sum.inl t) hR, ?_⟩
        rw [ent_val]
        have fin : ∀ T2, H2 T2 = none → ∃ acc, upd H2 T2 (.tup [.int (i : Int), .str (kindS (decide (t ∈ S.srcs)))]) D = some (.lst acc) ∧ acc.length < sizeLine ∧ ∃ rs', Same H (upd (upd H2 T2 (.tup [.int (i : Int), .str (kindS (decide (t ∈ S.srcs)))])) D (.lst (acc ++ [.ref T2]))) ∧ upd (upd H2 T2 (.tup [.int (i : Int), .str (kindS (decide (t ∈ S.srcs)))])) D (.lst (acc ++ [.ref T2])) D = some (.lst rs') ∧ Paired (NumAt (upd (upd H2 T2 (.tup [.int (i : Int), .str (kindS (decide (t ∈ S.srcs)))])) D (.lst (acc ++ [.ref T2])))) rs' (numsOf S 0 ((S.tab p).take i) ++ numOne S i (some t)) := fun T2 hT2 => by
          have nT2 : T2 ≠ D := fun z => by rw [z, hd1] at hT2; cases hT2
          have s2 := Same.new' (o := .tup [.int (i : Int), .str (kindS (decide (t ∈ S.srcs)))]) hT2
          have kp : ∀ b x y, upd H2 T2 (.tup [.int (i : Int), .str (kindS (decide (t ∈ S.srcs)))]) b = some (.tup [x, y]) → upd (upd H2 T2 (.tup [.int (i : Int), .str (kindS (decide (t ∈ S.srcs)))])) D (.lst (rs ++ [.ref T2])) b = some (.tup [x, y]) := fun b x y h => by
            rw [upd_ne (fun z => by rw [z, upd_ne (Ne.symm nT2), hd1] at h; cases h)]
            exact h
          refine ⟨rs, s2 _ _ hd1, ?_, _, fun b o z => ?_, upd_same, ?_⟩
          · have h1 := pr.length
            have h2 := nums_len S ((S.tab p).take i) 0
            rw [List.length_take] at h2
            rw [sizeLine_eq]
            omega
          · rw [upd_ne (fun y => by rw [y] at z; rw [hD] at z; cases z)]
            exact (smT.trans s2) b o z
          · exact nums_snoc (numAts_keep (numAts_same pr1 s2) kp) ⟨T2, rfl, kp _ _ _ upd_same⟩
        by_cases hts : t ∈ S.srcs
        · rw [if_pos hts]
          rw [decide_eq_true hts] at fin
          refine ⟨_, rfl, ?_⟩
          refine iteT ?_
          walk_at "wn"
          exact ⟨by show 2 ≤ sizeLine; decide, fun T2 hT2 => fin T2 hT2⟩
        · rw [if_neg hts]
          rw [decide_eq_false hts] at fin
          refine ⟨_, rfl, ?_⟩
          refine iteF ?_
          walk_at "wn"
          exact ⟨by show 2 ≤ sizeLine; decide, fun T2 hT2 => fin T2 hT2⟩
    · obtain ⟨rs, sm, hd, pr⟩ := h
      rw [List.length_map, List.take_length] at pr
      exact k H' D rs hD sm hd pr
/-! same -/
def spSame (C : Cs) : Sp := fun vs H Q _ => ∃ p n q m t u : Int, OnSys C vs H [.int p, .int n, .int q, .int m] fun S _ _ => Means S p n t ∧ Means S q m u ∧ n ≤ 1000 ∧ m ≤ 1000 ∧ Q (.bl (decide (t = u))) H
theorem scSame : FnScope ["self", "process", "number", "other", "other_number"] ["self", "process", "number", "other", "other_number"] (defScope sSame) := ⟨rfl, rfl, rfl, by decide +kernel, rfl, by decide +kernel, by decide +kernel⟩
theorem okSame {D f fT : Addr} {fd fdT : FuncData} (F : Fun K "same" "System.same" sSame f fd) (T : ClsF K C.S sysF) (GT : ME P w K mg base 4 C.S "thing_at" ["self", "process", "number"] (spThingAt C D) fT fdT) :
    FnOk P w K mg base (L2.CX P w) 5 f fd ["self", "process", "number", "other", "other_number"] (spSame C) := by
  refine F.okX scSame (fun vs H Q E h => ?_) (fun cdv A outer s H vs Q E hr h => ?_)
  · obtain ⟨_, _, _, _, _, _, _, _, _, rfl, _⟩ := h
    rfl
  · obtain ⟨p, n, q, m, t, u, S, ad, dx, rfl, A0, M1, M2, hn, hm, k⟩ := h
    refine ⟨_, pss_one (ps_ret (pe_cmpR op_eq (pe_meth (pv 0) T.cl GT.m GT.g hr GT.b .nil (passX (takes_of rfl rfl rfl rfl)) (pa_cons (pv 1) (pa_cons (pv 2) pa_nil))) (pe_meth (pv 0) T.cl GT.m GT.g hr GT.b .nil (passX (takes_of rfl rfl rfl rfl)) (pa_cons (pv 3) (pa_cons (pv 4) pa_nil))) (by rfl))), ?_⟩
    have hb := A0.at_ .box trivial
    walk_at "wn"
    refine ⟨_, rfl, ad .box, dx .box, _, rfl, hb, rfl, ?_⟩
    walk_at "wn"
    refine ⟨p, n, some t, S, ad, dx, rfl, A0, M1.opn, hn, fun t' e => ?_, fun z => nomatch z⟩
    cases e
    refine ⟨_, rfl, ad .box, dx .box, _, rfl, hb, rfl, ?_⟩
    walk_at "wn"
    refine ⟨q, m, some u, S, ad, dx, rfl, A0, M2.opn, hm, fun t' e => ?_, fun z => nomatch z⟩
    cases e
    refine g_rEq rfl ?_
    have e : decide (V.int t = V.int u) = decide (t = u) := by
      by_cases h : t = u
      · rw [decide_eq_true h, decide_eq_true (by rw [h])]
      · rw [decide_eq_false h, decide_eq_false (fun z => h (V.int.inj z))]
    rw [e]
    exact k
end

structure FnG (P : Program) (w : World) (K : PySem.W.Frag) (mg : Str → Option Value) (base : Heap) (CX : CXT) (k : Nat) (f : Addr) (fd : FuncData) (ps : List Str) (sp : Sp) : Prop where
  size : ∀ vs H Q E, sp vs H Q E → vs.length = ps.length
  go : ∀ (A : Around), Room k A → A.guards = some [] → ∀ (outer : List Env) (s : Shared) (H : Hp), Env0 P w K mg base A outer s H → ∀ (args : Args) (us : List Value) (vs : List V), BindsTo s fd args (ps.zip us) → Vals vs us →
    ∀ (Q : VK) (E : XK), sp vs H Q E → codeAny (model P w) A (.call (.ref f) args) (CR CX outer P w H s Q E) s
section
variable {P : Program} {w : World} {K : PySem.W.Frag} {mg : Str → Option Value} {base : Heap} {CX : CXT} {k : Nat} {f : Addr} {fd : FuncData} {ps : List Str} {sp : Sp}
theorem FnG.of (F : FnOk P w K mg base CX k f fd ps sp) : FnG P w K mg base CX k f fd ps sp :=
  ⟨F.len, fun A hr _ outer s H e args us vs hb r Q E h => F.run A outer s H args us vs Q E hr e hb r h⟩
/-- the body, from «no repr is under way» -/
theorem okG {x qual : Str} {st : Stmt} {N : List Str} (F : Fun K x qual st f fd) (S : FnScope N ps (defScope st)) (len : ∀ vs H Q E, sp vs H Q E → vs.length = ps.length)
    (body : ∀ (cdv : Value) (A : Around) (outer : List Env) (s : Shared) (H : Hp) (vs : List V) (Q : VK) (E : XK), Room k (A.deeper (envOfC qual (defScope st) s.heap.objs.size f cdv)) → A.guards = some [] → sp vs H Q E →
      ∃ t, PSs (cxOf CX P w K mg base N qual (defScope st) f cdv A outer s H E) (defBody st) t ∧ t { nx := fun _ H' => Q .non H', rt := Q } (start N vs) H) : FnG P w K mg base CX (k + 1) f fd ps sp := by
  refine ⟨len, fun A hr hg outer s H e args us vs hb r Q E h => ?_⟩
  obtain ⟨oc, od, kV, doc, pm, an, cdv, ct, osl, rfl, lk, hcd⟩ := F.ex
  have hl := len _ _ _ _ h
  have KX : K.In s.heap := e.mod.kin.keeps fun b o z => (e.bs b o z).1
  have lim : s.heap.NoLimit := e.mod.nolimit.keeps fun b o z => (e.bs b o z).1
  have kinds : ∀ y ∈ ps.zip us, (defScope st).names.lookup y.1 = some .local ∨ ((defScope st).names.lookup y.1 = some .cell ∧ ((cellsFrom (s.heap.objs.size + 1) (defScope st).names []).lookup y.1).isSome = true) := by
    rintro ⟨n, v⟩ hy
    rcases S.par n (List.of_mem_zip hy).1 with q | q
    · exact Or.inl q
    · exact Or.inr ⟨q, PySem.W.cellsFrom_some _ _ _ (Or.inl q)⟩
  refine codeAny_call_function hr.depth (KX _ _ lk) rfl S.co S.gen rfl (PySem.W.codeRec_of KX hcd) (hb _ _ _ _ ?_)
  refine wpAny_newFunctionEnv_cells S.kind kinds fun env henv s1 ic => ?_
  cases henv
  refine ⟨lim.keeps ic.toInCall.keep, codeAny_func ?_⟩
  obtain ⟨t, ht, q⟩ := body cdv A outer s H vs Q E (hr.deeper _) hg h
  have I := inv_start (E := E) (CX := CX) S hr.hd e hl r ic
  refine wpAny_mono (ht.run [] s1 _ H _ I q) (fun fl s' z => ?_) fun _ _ z => z
  cases fl with
  | next =>
    obtain ⟨_, H', J, z⟩ := z
    exact ⟨V.non, H', J.os, J.bare, J.base, J.hok, rfl, z⟩
  | ret u =>
    obtain ⟨v, _, H', J, rv, z⟩ := z
    exact ⟨v, H', J.os, J.bare, J.base, J.hok, rv, z⟩
  | brk =>
    obtain ⟨_, _, _, z⟩ := z
    exact False.elim z
  | cont =>
    obtain ⟨_, _, _, z⟩ := z
    exact False.elim z
end
section
variable {X : Cx} {CX : CXT} {k : Nat} {f : Addr} {fd : FuncData} {ps : List Str} {sp : Sp} {dvs : List V} {ds : List Value} {E : XK} {x : Str} {p pos : Pos} {e : Expr} {es : List Expr} {t : TA}
theorem pe_callG (F : FnG X.prog X.w X.K X.mg X.base CX k f fd ps sp) (hr : Room k X.A) (gd : X.A.guards = some []) (hg : Gl X x) (hm : X.mg x = some (.ref f)) (hk : PySem.W.keepIn X.K (.ref f) = true) (hb : Binds X.K fd ps ds) (hd : Vals dvs ds) (hx : Passes CX X E)
    (ha : PA X (e :: es) t) (hdb : (x == ("__debug__" : Str)) = false := by decide) (he : starEach (e :: es) X.env = (false, eval e X.env) :: starEach es X.env := by rfl) (hpl : (backTo pos (starEach es X.env)).any (·.1) = false := by rfl) :
    PE X (.Call (.Name x p) (e :: es) [] pos) (tCall sp dvs E t) := by
  constructor
  intro pins s σ H Q I h
  refine wpAny_Call_Name_kw (ld_glob I hg hm (PySem.W.callWith_K (h₀ := X.base) I.ok.mod.kin hk (thn (ha.run pos pins s σ H _ I h) ?_) he hpl) hdb)
  rintro us s1 ⟨vs, H1, I1, r, q⟩
  refine ⟨I1.kIn, ?_⟩
  have r2 : Vals (vs ++ dvs) (us ++ ds) := r.append hd
  have hl : (us ++ ds).length = ps.length := r2.length.symm.trans (F.size _ _ _ _ q)
  refine wpAny_call (codeAny_mono (F.go X.A hr gd X.stack s1 H1 I1.env0 ⟨us, []⟩ _ _ (hb s1 us I1.kIn hl) r2 Q E q) ?_)
  rintro (er | fl) s' z
  · exact hx pins σ H1 s1 er s' I1 z
  · cases fl with
    | ret u => exact I1.after z
    | next => exact z.elim
    | brk => exact z.elim
    | cont => exact z.elim
end
section
variable {P : Program} {w : World} {K : PySem.W.Frag} {mg : Str → Option Value} {base : Heap}
/-- a def whose code is known -/
theorem okC {CX : CXT} {x qual : Str} {st : Stmt} {N ps : List Str} {k : Nat} {f c : Addr} {fd : FuncData} {sp : Sp} (F : Fun K x qual st f fd) (hc : fd.code = .ref c) (S : FnScope N ps (defScope st)) (len : ∀ vs H Q E, sp vs H Q E → vs.length = ps.length)
    (body : ∀ (A : Around) (outer : List Env) (s : Shared) (H : Hp) (vs : List V) (Q : VK) (E : XK), Room k (A.deeper (envOfC qual (defScope st) s.heap.objs.size f (.ref c))) → sp vs H Q E →
      ∃ t, PSs (cxOf CX P w K mg base N qual (defScope st) f (.ref c) A outer s H E) (defBody st) t ∧ t { nx := fun _ H' => Q .non H', rt := Q } (start N vs) H) : FnOk P w K mg base CX (k + 1) f fd ps sp := by
  obtain ⟨oc, od, kV, doc, pm, an, cdv, ct, osl, rfl, lk, hcd⟩ := F.ex
  obtain rfl : cdv = .ref c := hc
  exact ⟨len, fun A outer s H args us vs Q E hr e hb r h => LamX.run_ofS lk hcd S hr e hb r (len _ _ _ _ h) fun hr' => body A outer s H vs Q E hr' h⟩
end
/-- the same of a def whose code is known -/
theorem okGC {P : Program} {w : World} {K : PySem.W.Frag} {mg : Str → Option Value} {base : Heap} {CX : CXT} {k : Nat} {f c : Addr} {fd : FuncData} {ps : List Str} {sp : Sp} {x qual : Str} {st : Stmt} {N : List Str} (F : Fun K x qual st f fd) (hc : fd.code = .ref c) (S : FnScope N ps (defScope st)) (len : ∀ vs H Q E, sp vs H Q E → vs.length = ps.length)
    (body : ∀ (A : Around) (outer : List Env) (s : Shared) (H : Hp) (vs : List V) (Q : VK) (E : XK), Room k (A.deeper (envOfC qual (defScope st) s.heap.objs.size f (.ref c))) → A.guards = some [] → sp vs H Q E →
      ∃ t, PSs (cxOf CX P w K mg base N qual (defScope st) f (.ref c) A outer s H E) (defBody st) t ∧ t { nx := fun _ H' => Q .non H', rt := Q } (start N vs) H) : FnG P w K mg base CX (k + 1) f fd ps sp := by
  refine ⟨len, fun A hr hg outer s H e args us vs hb r Q E h => ?_⟩
  obtain ⟨oc, od, kV, doc, pm, an, cdv, ct, osl, rfl, lk, hcd⟩ := F.ex
  obtain rfl : cdv = .ref c := hc
  have hl := len _ _ _ _ h
  have KX : K.In s.heap := e.mod.kin.keeps fun b o z => (e.bs b o z).1
  have lim : s.heap.NoLimit := e.mod.nolimit.keeps fun b o z => (e.bs b o z).1
  have kinds : ∀ y ∈ ps.zip us, (defScope st).names.lookup y.1 = some .local ∨ ((defScope st).names.lookup y.1 = some .cell ∧ ((cellsFrom (s.heap.objs.size + 1) (defScope st).names []).lookup y.1).isSome = true) := by
    rintro ⟨n, v⟩ hy
    rcases S.par n (List.of_mem_zip hy).1 with q | q
    · exact Or.inl q
    · exact Or.inr ⟨q, PySem.W.cellsFrom_some _ _ _ (Or.inl q)⟩
  refine codeAny_call_function hr.depth (KX _ _ lk) rfl S.co S.gen rfl (PySem.W.codeRec_of KX hcd) (hb _ _ _ _ ?_)
  refine wpAny_newFunctionEnv_cells S.kind kinds fun env henv s1 ic => ?_
  cases henv
  refine ⟨lim.keeps ic.toInCall.keep, codeAny_func ?_⟩
  obtain ⟨t, ht, q⟩ := body A outer s H vs Q E (hr.deeper _) hg h
  have I := inv_start (E := E) (CX := CX) S hr.hd e hl r ic
  refine wpAny_mono (ht.run [] s1 _ H _ I q) (fun fl s' z => ?_) fun _ _ z => z
  cases fl with
  | next =>
    obtain ⟨_, H', J, z⟩ := z
    exact ⟨V.non, H', J.os, J.bare, J.base, J.hok, rfl, z⟩
  | ret u =>
    obtain ⟨v, _, H', J, rv, z⟩ := z
    exact ⟨v, H', J.os, J.bare, J.base, J.hok, rv, z⟩
  | brk =>
    obtain ⟨_, _, _, z⟩ := z
    exact False.elim z
  | cont =>
    obtain ⟨_, _, _, z⟩ := z
    exact False.elim z
/-! the law's call where a code's table grows -/
theorem law_T {P : Program} {w : World} {K : PySem.W.Frag} {mg mb : Str → Option Value} {k : Nat} {fa a Pt : Addr} {fd : FuncData} {x : Str} {sp : Sp} {s : Shared} {vs : List Value} {ns : List Int}
    (KX : K.In s.heap) (hns : s.heap.Ns mainGlobals mg) (hb : s.heap.Ns builtinsNs mb) (hbb : ∀ x : Str, x ≠ "__name__" → mb x = bootBuiltins x) (hlim : s.heap.NoLimit) (hg : s.gens = #[])
    (ha : s.heap.get? a = some { cls := .type "list", data := .seq vs.toArray }) (hi : IntsAre vs ns) (hl : ns.length ≤ sizeLine) (hr : Room k callerA)
    (hPt : s.heap.get? Pt = some (PySem.W.tabObj #[])) (nPt : K.lookup Pt = none) (tPt : isCodeTable s.heap Pt)
    (F : ∀ base : Heap, K.In base → base.Ns mainGlobals mg → (∀ x : Str, x ≠ "__name__" → mb x = bootBuiltins x) → base.Ns builtinsNs mb → base.BuiltinsAt mg Pt → FnG P w K mg base CX0 k fa fd [x] sp) (hbm : s.heap.BuiltinsAt mg Pt) (hbind : ∀ (s : Shared) (u : Value), BindsTo s fd ⟨[u], []⟩ [(x, u)])
    (hsp : ∀ H : Hp, SqL K H a (ns.map V.int) → H Pt = some (.tbl #[]) → sp [.ref a] H (fun v _ => v = .bl true) fun _ _ _ => False) :
    codeAny (model P w) callerA (.call (.ref fa) ⟨[.ref a], []⟩) (fun r s' => r = .ok (.ret (.bool true)) ∧ OldK s.heap s'.heap ∧ s'.os = s.os ∧ AllBare s'.gens) s := by
  have rv := vals_ints hi
  have nPa : Pt ≠ a := fun z => by
    rw [z, ha] at hPt
    cases hPt
  have run : ∀ H : Hp, (∀ b u, H b = some u → (b = a ∧ ∃ o ys, u = .frz o (.lst ys)) ∨ (b = Pt ∧ u = .tbl #[])) → (∀ u, H a = some u → K.lookup a = none) → HOk P w H s.heap → SqL K H a (ns.map V.int) → H Pt = some (.tbl #[]) →
      codeAny (model P w) callerA (.call (.ref fa) ⟨[.ref a], []⟩) (fun r s' => r = .ok (.ret (.bool true)) ∧ OldK s.heap s'.heap ∧ s'.os = s.os ∧ AllBare s'.gens) s := by
    intro H only noK ok hS hP
    have old : ∀ {b : Addr} {o : Obj}, s.heap.get? b = some o → H b = none → (hidT s.heap H).get? b = some o := fun e n => hidT_get e n
    have free : ∀ {b : Addr}, b ≠ a → b ≠ Pt → H b = none := fun {b} n1 n2 => by
      cases e : H b with
      | none => rfl
      | some u =>
        rcases only b u e with z | z
        · exact absurd z.1 n1
        · exact absurd z.1 n2
    have spaces : ∀ {b : Addr} {m : Str → Option Value}, s.heap.Ns b m → (hidT s.heap H).Ns b m := by
      rintro b m ⟨o, es, ep, e, d, r⟩
      refine ⟨o, es, ep, old e (free (fun z => ?_) fun z => ?_), d, r⟩
      · subst z
        rw [ha] at e
        cases e
        cases d
      · subst z
        rw [hPt] at e
        cases e
        cases d
    have bmh : (hidT s.heap H).BuiltinsAt mg Pt := by
      obtain ⟨bm, o, b1, b2, b3, b4, b5, b6, b7, b8⟩ := hbm
      refine ⟨bm, o, b1, b2, b3, b4, old b5 (free (fun z => ?_) b4), b6, b7, b8⟩
      rw [z, ha] at b5
      cases b5
      cases b8
    have kb : K.In (hidT s.heap H) := fun b o e => by
      refine old (KX b o e) ?_
      cases q : H b with
      | none => rfl
      | some u =>
        rcases only b u q with ⟨rfl, _⟩ | ⟨rfl, _⟩
        · rw [noK u q] at e
          cases e
        · rw [nPt] at e
          cases e
    have md : Mod K mg (hidT s.heap H) := ⟨kb, spaces hns, ⟨mb, spaces hb, hbb⟩, hlim.elim fun mc z => ⟨mc, spaces z.1, z.2⟩⟩
    have e0 : Env0 P w K mg (hidT s.heap H) callerA [] s H := ⟨rfl, md, fun b o e => of_hidT e, Nat.le_of_eq (hidT_size _ _), trivial, fun b hb => (nomatch (show b ∈ ([] : List Addr) from hb)), ok, .of_eq hg⟩
    refine codeAny_mono ((F _ kb (spaces hns) hbb (spaces hb) bmh).go callerA hr rfl [] s H e0 ⟨[.ref a], []⟩ [.ref a] [.ref a] (hbind s _) (.cons rfl .nil) _ _ (hsp H hS hP)) ?_
    rintro (er | fl) s' z
    · exact z.elim
    cases fl with
    | next => exact z.elim
    | brk => exact z.elim
    | cont => exact z.elim
    | ret u =>
      obtain ⟨v, H', os, bare, un, ok', rv', rfl⟩ := z
      obtain rfl : u = Value.bool true := rv'
      have fin : ∀ b o, s.heap.get? b = some o → b ≠ Pt → s'.heap.get? b = some o := fun b o e nb => by
        cases q : H b with
        | none => exact un.keep b o e q (fun z => nomatch z) (by simp)
        | some u =>
          rcases only b u q with ⟨rfl, ob, ys, rfl⟩ | ⟨rfl, _⟩
          · have e1 := (ok _ _ q).1
            have e2 := (ok' _ _ (un.frzs _ _ _ q)).1
            rw [e] at e1
            cases e1
            exact e2
          · exact absurd rfl nb
      obtain ⟨more, hm⟩ := un.tbls _ _ hP
      have eP : s'.heap.get? Pt = some { cls := Value.none, data := Data.fields (#[] ++ more) } := ok' _ _ hm
      refine ⟨rfl, ⟨fun b o e => ?_, fun b o e => ?_⟩, os, bare⟩
      · by_cases nb : b = Pt
        · subst nb
          rw [hPt] at e
          cases e
          exact .inr (.inl ⟨tPt, rfl, #[], more, rfl, eP⟩)
        · exact .inl (fin b o e nb)
      · by_cases nb : b = Pt
        · subst nb
          exact ⟨_, eP⟩
        · exact ⟨_, fin b o e nb⟩
  have lenV := hi.length
  cases hk : K.lookup a with
  | some o =>
    have e := KX a o hk
    rw [ha] at e
    cases e
    refine run (fun b => if b = Pt then some (.tbl #[]) else none) (fun b u z => ?_) (fun u z => ?_) (fun b u z => ?_) (.inr ⟨_, vs.toArray, _, hk, rfl, rfl, rfl, by rw [List.size_toArray, lenV]; exact hl, by simpa using rv⟩) (if_pos rfl)
    · by_cases hb : b = Pt
      · try dsimp only at z
        rw [if_pos hb] at z
        cases z
        exact .inr ⟨hb, rfl⟩
      · try dsimp only at z
        rw [if_neg hb] at z
        cases z
    · try dsimp only at z
      rw [if_neg nPa.symm] at z
      cases z
    · by_cases hb : b = Pt
      · try dsimp only at z
        rw [if_pos hb] at z
        cases z
        subst hb
        exact hPt
      · try dsimp only at z
        rw [if_neg hb] at z
        cases z
  | none =>
    refine run (fun b => if b = a then some (.frz { cls := .type "list", data := .seq vs.toArray } (.lst (ns.map V.int))) else if b = Pt then some (.tbl #[]) else none) (fun b u z => ?_) (fun _ _ => hk) (fun b u z => ?_) (.inl (.inr ⟨_, if_pos rfl⟩)) ?_
    · try dsimp only at z
      by_cases hb : b = a
      · rw [if_pos hb] at z
        cases z
        exact .inl ⟨hb, _, _, rfl⟩
      · rw [if_neg hb] at z
        by_cases hb2 : b = Pt
        · rw [if_pos hb2] at z
          cases z
          exact .inr ⟨hb2, rfl⟩
        · rw [if_neg hb2] at z
          cases z
    · try dsimp only at z
      by_cases hb : b = a
      · rw [if_pos hb] at z
        cases z
        subst hb
        exact ⟨ha, by rw [List.length_map]; exact hl, vs, _, rv, ha⟩
      · rw [if_neg hb] at z
        by_cases hb2 : b = Pt
        · rw [if_pos hb2] at z
          cases z
          subst hb2
          exact hPt
        · rw [if_neg hb2] at z
          cases z
    · try dsimp only
      rw [if_neg nPa, if_pos rfl]
theorem walkT {l : PySem.W.OpenLaw} {n k : Nat} {q : Program} {loose : List Str} {XP : (Str → Option Value) → Heap → Prop} {YP : World → Heap → Prop} {d : DefRec} {K : Params → PySem.W.Frag} {sp : PySem.W.Frag → (Str → Option Value) → Sp} {x : Str} {Pt : Addr}
    (hn : l.most = some n) (hn2 : n ≤ sizeLine) (hdf : d.params.defaults = []) (hr : Room k callerA) (hY : ∀ (w : World) (h : Heap), YP w h → (K w.params).In h) (hT : ∀ (w : World) (h : Heap), YP w h → h.get? Pt = some (PySem.W.tabObj #[])) (nT : ∀ w : World, (K w.params).lookup Pt = none)
    (tT : ∀ (w : World) (h : Heap), (K w.params).In h → isCodeTable h Pt)
    (F : ∀ (w : World) (mg : Str → Option Value) (fa : Addr) (h : Heap), (K w.params).In h → h.Ns mainGlobals mg → mg d.name = some (.ref fa) →
      ∃ fd : FuncData, (∀ (s : Shared) (u : Value), BindsTo s fd ⟨[u], []⟩ [(x, u)]) ∧ (∀ base : Heap, (K w.params).In base → base.Ns mainGlobals mg → base.BuiltinsAt mg Pt → FnG l.prog w (K w.params) mg base CX0 k fa fd [x] (sp (K w.params) mg)) ∧
        ∀ (H : Hp) (a : Addr) (ns : List Int), ns.length ≤ n → SqL (K w.params) H a (ns.map V.int) → H Pt = some (.tbl #[]) → sp (K w.params) mg [.ref a] H (fun v _ => v = .bl true) fun _ _ _ => False) :
    PySem.W.WalkO q loose XP YP l.row.toRowW d [] (fun f vs => PySem.call f vs) := by
  refine Att.attach_call hn hdf fun w s₀ s₁ mg mb fa o pm cd doc a vs ns G Y ho hd hcd hmg hobj hints hlen hg => ?_
  obtain ⟨fd, hb, hF, hsp⟩ := F w mg fa _ (hY w _ Y) G.T.g hmg
  have hbm : s₁.heap.BuiltinsAt mg Pt := by
    obtain ⟨bm, ob, b1, b2, b3, b4, b5, b6⟩ := G.T.bmain
    refine ⟨bm, ob, b1, b2, fun z => ?_, fun z => ?_, b3, b4, b5, b6⟩
    · obtain ⟨o, es, ep, e, d, r⟩ := G.T.g
      rw [z, e] at b3
      cases b3
      rw [d] at b6
      cases b6
    · rw [z, hT w _ Y] at b3
      cases b3
      cases b6
  exact law_T (hY w _ Y) G.T.g G.T.b G.T.builtins G.T.nolimit hg hobj hints (Nat.le_trans hlen hn2) hr (hT w _ Y) (nT w) (tT w _ (hY w _ Y)) (fun base k1 k2 _ _ k3 => hF base k1 k2 k3) hbm hb fun H hS hP => hsp H a ns hlen hS hP
/-! how long a datum's repr may be -/
mutual
def wt : PyData → Nat
  | .none => 4
  | .bool _ => 5
  | .int _ => 2000
  | .str x => 10 * x.length + 2
  | .list xs => wtA xs + 3
  | .tuple xs => wtA xs + 3
  | .dict _ => 0
def wtA : List PyData → Nat
  | [] => 0
  | x :: xs => wt x + 2 + wtA xs
end
mutual
def okR : PyData → Bool
  | .none => true
  | .bool _ => true
  | .int i => decide (i.natAbs.log2 < 1920)
  | .str x => x.cps.toList.all fun c => decide (c < 16 ^ 8)
  | .list xs => okRA xs
  | .tuple xs => okRA xs
  | .dict _ => false
def okRA : List PyData → Bool
  | [] => true
  | x :: xs => okR x && okRA xs
end
mutual
theorem okR_show : ∀ d : PyData, okR d = true → d.showable = true ∧ d.hasDict = false
  | .none, _ => by simp [PyData.showable, PyData.hasDict]
  | .bool _, _ => by simp [PyData.showable, PyData.hasDict]
  | .str _, _ => by simp [PyData.showable, PyData.hasDict]
  | .int i, h => by
    simp only [okR] at h
    simp only [PyData.showable, PyData.hasDict]
    exact ⟨h, trivial⟩
  | .list xs, h => by
    simp only [okR] at h
    simp only [PyData.showable, PyData.hasDict]
    exact okRA_show xs h
  | .tuple xs, h => by
    simp only [okR] at h
    simp only [PyData.showable, PyData.hasDict]
    exact okRA_show xs h
  | .dict _, h => by simp only [okR] at h; cases h
theorem okRA_show : ∀ ds : List PyData, okRA ds = true → PyData.showableAll ds = true ∧ PyData.hasDictAll ds = false
  | [], _ => by simp [PyData.showableAll, PyData.hasDictAll]
  | d :: ds, h => by
    simp only [okRA, Bool.and_eq_true] at h
    have h1 := okR_show d h.1
    have h2 := okRA_show ds h.2
    simp only [PyData.showableAll, PyData.hasDictAll, h1.1, h1.2, h2.1, h2.2, Bool.and_self, Bool.or_self, and_self]
end
theorem shownAll_length : ∀ ds : List PyData, (PyData.shownAll ds).length = ds.length
  | [] => rfl
  | d :: ds => by simp only [PyData.shownAll, List.length_cons, shownAll_length ds]
mutual
theorem shown_le : ∀ d : PyData, okR d = true → d.shown.length ≤ wt d
  | .none, _ => by simp only [PyData.shown, wt]; decide +kernel
  | .bool b, _ => by cases b <;> (simp only [PyData.shown, wt]; decide +kernel)
  | .int i, h => by
    simp only [okR] at h
    have e := int_text_length_le (k := 1920) (by decide) (of_decide_eq_true h)
    simp only [PyData.shown, wt]
    rw [PySem.ofString_length]
    omega
  | .str x, h => by
    simp only [okR, List.all_eq_true, decide_eq_true_eq] at h
    simp only [PyData.shown, wt]
    exact StrLaws.reprText_len x h
  | .list xs, h => by
    simp only [okR] at h
    have e := listText_len_le (PyData.shownAll xs)
    have f := shownAll_le xs h
    rw [shownAll_length] at e
    simp only [PyData.shown, wt]
    omega
  | .tuple xs, h => by
    simp only [okR] at h
    have e := fmt_text (PyData.shownAll xs)
    have f := shownAll_le xs h
    have g : piled (PyData.shownAll xs) = ((PyData.shownAll xs).map (·.length)).sum + 2 * xs.length := by
      rw [← shownAll_length xs]
      unfold piled
      generalize PyData.shownAll xs = l
      induction l with
      | nil => rfl
      | cons a l ih => simp only [List.map_cons, List.sum_cons, List.length_cons] at ih ⊢; omega
    simp only [PyData.shown, wt]
    omega
  | .dict _, h => by simp only [okR] at h; cases h
theorem shownAll_le : ∀ ds : List PyData, okRA ds = true → ((PyData.shownAll ds).map (·.length)).sum + 2 * ds.length ≤ wtA ds
  | [], _ => by simp [PyData.shownAll, wtA]
  | d :: ds, h => by
    simp only [okRA, Bool.and_eq_true] at h
    have h1 := shown_le d h.1
    have h2 := shownAll_le ds h.2
    simp only [PyData.shownAll, wtA, List.map_cons, List.sum_cons, List.length_cons]
    omega
end
/-- repr(x), x data -/
def rRepr (K : PySem.W.Frag) : List V → Hp → VK → Prop := fun xs H Q => ∃ x d, xs = [x] ∧ Dp K H x d ∧ okR d = true ∧ d.depth ≤ 40 ∧ wt d ≤ 16777216 ∧ Q (.str d.shown) H
section
variable {X : Cx}
theorem cRepr (gd : X.A.guards = some []) (hu : X.A.units + 64 < cLine) : CallR X (.builtin "repr") (rRepr X.K) := by
  intro pins s σ H xs us Q I r h
  obtain ⟨x, d, rfl, dp, ok, dd, dz, q⟩ := h
  obtain ⟨u, rfl, rx⟩ := vals1 r
  obtain ⟨as, rd⟩ := Dp.reads I d x u dp rx
  have sh := okR_show d ok
  have sz : d.shown.length ≤ sizeLine := Nat.le_trans (shown_le d ok) (by rw [sizeLine_eq]; exact dz)
  cases rd with
  | none => exact PySem.P.repr_of_none ⟨.str _, H, I.tok _, ⟨_, rfl⟩, q⟩
  | bool b => exact PySem.P.repr_of_bool ⟨.str _, H, I.tok _, ⟨_, rfl⟩, q⟩
  | int i t => exact PySem.P.repr_of_int (by simpa [okR] using ok) ⟨.str _, H, I.tok _, ⟨_, rfl⟩, q⟩
  | str z t => exact PySem.P.repr_of_str ⟨.str _, H, I.tok _, ⟨_, rfl⟩, q⟩ sz
  | list h1 h2 h3 h4 => exact repr_of_reads' (.list h1 h2 h3 h4) sh.1 (PyData.noDict_hsm sh.2) gd (by omega) (fun _ _ e => e) (fun h' u tk hk => ⟨.str _, H, I.kept hk, ⟨_, rfl⟩, q⟩) sz
  | tuple h1 h2 h3 h4 => exact repr_of_reads' (.tuple h1 h2 h3 h4) sh.1 (PyData.noDict_hsm sh.2) gd (by omega) (fun _ _ e => e) (fun h' u tk hk => ⟨.str _, H, I.kept hk, ⟨_, rfl⟩, q⟩) sz
  | dict => simp only [okR] at ok; cases ok
end

abbrev sOutcome : Stmt := top 23
abbrev sDue : Stmt := top 24
abbrev sLaw : Stmt := top 26
theorem takes_len {X : Cx} {W : WX} (tk : Takes X W) : Takes X fun cls d σ H => σ.length = X.N.length → W cls d σ H := fun u s' ⟨a, B, sI, pins, σ, H, cls, d, h1, I, h2, h3, h4, h5, h6, h7, h8⟩ => tk u s' ⟨a, B, sI, pins, σ, H, cls, d, h1, I, h2, h3, h4, h5, h6, h7, h8 I.len⟩
/-! isinstance(e, T), e a caught error with its own dict -/
def rIsX (K : PySem.W.Frag) (D a : Addr) (cls : Value) (d : Option Addr) : List V → Hp → VK → Prop := fun xs H Q => cls = .ref D ∧ ∃ (c : V) (cv : Value) (b : Bool) (dd : Addr) (fs : List (Str × V)), xs = [.ref a, c] ∧ (∀ u, RelV c u → u = cv) ∧ PySem.W.kitOne K (.ref D) cv = some b ∧ d = some dd ∧ H dd = some (.xd fs) ∧ Q (.bl b) H
theorem call_isX {X : Cx} {a D : Addr} {cls : Value} {d : Option Addr} {oe : Obj} {pn : List (Addr × Obj)} (C : ExcC X.K D) (hD : (PySem.W.clsIn X.K D).isSome = true) (hz : Zc cls d oe) (hf : ∃ vs, oe.data = .fields vs) : CallR (X.suite a ((a, oe) :: pn)) (.builtin "isinstance") (rIsX X.K D a cls d) := by
  rintro pins s σ H xs us Q I r ⟨rfl, c, cv, b, dd, fs, rfl, hcv, e, rfl, hd, q⟩
  obtain ⟨u1, u2, rfl, ra, rb⟩ := vals2 r
  obtain rfl : u1 = Value.ref a := ra
  obtain rfl := hcv _ rb
  have hp := I.pin (a, oe) (List.mem_append.mpr (.inl List.mem_cons_self))
  have ok := I.hok _ _ hd
  obtain ⟨hz1, hz2⟩ := hz
  obtain ⟨vs, hf⟩ := hf
  obtain ⟨o, ho⟩ : ∃ o, s.heap.get? dd = some o := by
    obtain ⟨mA, ⟨o, es, ep, e1, _⟩, _⟩ := ok
    exact ⟨o, e1⟩
  have ia : PySem.W.InstAt s.heap a oe D (some o) := ⟨hp.1, hz1, by unfold PySem.W.notCls; rw [hf], by rw [hz2]; exact ho⟩
  refine PySem.W.kia_one (PySem.W.kitx_exc (od := some o) (ox := oe) hD C.hg C.hk C.hs C.ha C.hn C.ht C.hm) I.kIn ia e (fun z => nomatch z) fun tk => ?_
  exact ⟨.bl b, H, I.tok _, rfl, q⟩
/-- what is handed to _law_outcome returns, or raises one of two errors -/
def TOut (D1 D2 : Addr) (tl : XK → Hp → VK → Prop) (H : Hp) (Q : VK) : Prop :=
  ∀ E : XK, (∀ (dd : Addr) (v : V) (H' : Hp), H' dd = some (.xd [(("number" : Str), v)]) → (∀ l, H' l = none → Q (.ref l) (upd H' l (.lst [.str "no number", v, .bl true]))) → E (.ref D1) (some dd) H') →
    (∀ (dd : Addr) (v : V) (H' : Hp), H' dd = some (.xd [(("number" : Str), v)]) → (∀ l, H' l = none → Q (.ref l) (upd H' l (.lst [.str "not open", v, .bl true]))) → E (.ref D2) (some dd) H') → tl E H Q
theorem scOutcome : FnScope ["_law_deed", "e"] ["_law_deed"] (defScope sOutcome) := ⟨rfl, rfl, rfl, by decide +kernel, rfl, by decide +kernel, by decide +kernel⟩
abbrev tHd (K : PySem.W.Frag) (D : Addr) (wd f : Str) (B : String) : Addr → Value → Option Addr → TS := fun a cls d => tRet (tLst (tCons (tC (.str wd)) (tCons (tXf a cls d D f (tVar 1)) (tCons (tCB (rIsX K D a cls d) (tCons (tVar 1) (tCons (tC (.ty B)) tNil))) tNil))))
theorem out_gives {X : Cx} {D1 D2 f1 f2 : Addr} {fd1 fd2 : FuncData} {g : Addr} {cdg : Value} {q : Str} (T1 : NumE X.K X.mg D1 f1 fd1) (T2 : OpenE X.K X.mg D2 f2 fd2) (g1 : X.mg "LookupError" = none) (g2 : X.mg "LookupError" = none) (isin : X.mg "isinstance" = none)
    (E1 : ExcC X.K D1) (C1 : (PySem.W.clsIn X.K D1).isSome = true) (k1 : PySem.W.kitOne X.K (.ref D1) (.type "LookupError") = some true) (E2 : ExcC X.K D2) (C2 : (PySem.W.clsIn X.K D2).isSome = true) (k2 : PySem.W.kitOne X.K (.ref D2) (.type "LookupError") = some true) (x21 : PySem.W.exmOne X.K (.ref D2) (.ref D1) = some false) :
    LamX.GivesTo X ["_law_deed", "e"] "_law_outcome" (defScope sOutcome) g cdg (defBody sOutcome) "_law_deed" q (TOut D1 D2) := by
  intro f c' s H Q tl hPE hc' hT
  refine ⟨_, pss_one (ps_try_all (l := [⟨.ref D1, 1, tHd X.K D1 "no number" "number" "LookupError"⟩, ⟨.ref D2, 1, tHd X.K D2 "not open" "number" "LookupError"⟩]) (Wz := fun _ _ _ _ => False)
      (tb := fun W Ds σ H1 => (σ[0]? = some (some (.ref f)) ∧ H1 c' = some (LamX.CodeO c' q) ∧ tl (fun cls d H' => ∀ σ' : L2.St, σ'.length = 2 → W cls d σ' H') H1 Ds.rt))
      rfl rfl scOutcome.nd takes0
      (fun W pn xe tk _ => pss_one (ps_ret (hPE _ pn xe _ _ _ (takes_len tk) (fun cls d σ' H' h hl => h σ' hl))))
      (.cons rfl rfl ⟨rfl, by decide, Or.inl T1.gC⟩ (fun a oe cls d pn hz hf => pss_one (ps_ret (pe_lst (pa_cons pe_str (pa_cons (pe_xf T1.xf T1.noN hz hf (pv 1)) (pa_cons (pe_callB (call_isX E1 C1 hz hf) (by rfl) isin PyProof.Rows.boot_isinstance (pa_cons (pv 1) (pa_cons (pe_bltn (v := .ty "LookupError") (by rfl) g1 (by rfl) rfl) pa_nil))) pa_nil))))))
      (.cons rfl rfl ⟨rfl, by decide, Or.inl T2.gC⟩ (fun a oe cls d pn hz hf => pss_one (ps_ret (pe_lst (pa_cons pe_str (pa_cons (pe_xf T2.xf T2.noN hz hf (pv 1)) (pa_cons (pe_callB (call_isX E2 C2 hz hf) (by rfl) isin PyProof.Rows.boot_isinstance (pa_cons (pv 1) (pa_cons (pe_bltn (v := .ty "LookupError") (by rfl) g2 (by rfl) rfl) pa_nil))) pa_nil)))))) .nil))), ?_⟩
  refine ⟨rfl, hc', hT _ (fun dd n H' hd k σ' hl => ⟨true, T1.te, fun _ a ha => ?_, fun z => Bool.noConfusion z⟩) (fun dd n H' hd k σ' hl => ⟨false, x21, (fun z => Bool.noConfusion z), fun _ => ⟨true, T2.te, fun _ a ha => ?_, fun z => Bool.noConfusion z⟩⟩)⟩
  · have e1 : (σ'.set 1 (some (V.ref a)))[1]? = some (some (V.ref a)) := by rw [List.getElem?_set_self (by omega)]
    refine ⟨_, e1, rfl, rfl, dd, _, _, rfl, hd, rfl, _, e1, rfl, .ty "LookupError", .type "LookupError", true, dd, _, rfl, fun u h => h, k1, rfl, hd, by show 3 ≤ sizeLine; decide, fun l hl2 => k l hl2⟩
  · have e1 : (σ'.set 1 (some (V.ref a)))[1]? = some (some (V.ref a)) := by rw [List.getElem?_set_self (by omega)]
    refine ⟨_, e1, rfl, rfl, dd, _, _, rfl, hd, rfl, _, e1, rfl, .ty "LookupError", .type "LookupError", true, dd, _, rfl, fun u h => h, k2, rfl, hd, by show 3 ≤ sizeLine; decide, fun l hl2 => k l hl2⟩
/-- what _law_outcome rests on -/
structure OutTxt (K : PySem.W.Frag) (mg : Str → Option Value) (D1 f1 : Addr) (fd1 : FuncData) (D2 f2 : Addr) (fd2 : FuncData) (g : Addr) (fd : FuncData) : Prop where
  fn : Fun K "_law_outcome" "_law_outcome" sOutcome g fd
  gm : mg "_law_outcome" = some (.ref g)
  bd : Binds K fd ["_law_deed"] []
  er1 : NumE K mg D1 f1 fd1
  er2 : OpenE K mg D2 f2 fd2
  g1 : mg "LookupError" = none
  g2 : mg "LookupError" = none
  isin : mg "isinstance" = none
  ex1 : ExcC K D1
  cl1 : (PySem.W.clsIn K D1).isSome = true
  kv1 : PySem.W.kitOne K (.ref D1) (.type "LookupError") = some true
  ex2 : ExcC K D2
  cl2 : (PySem.W.clsIn K D2).isSome = true
  kv2 : PySem.W.kitOne K (.ref D2) (.type "LookupError") = some true
  x21 : PySem.W.exmOne K (.ref D2) (.ref D1) = some false
/-- _law_outcome(lambda: e) -/
theorem pe_out {X : Cx} {D1 f1 D2 f2 g c Pt : Addr} {fd1 fd2 fd : FuncData} {T : List (Addr × Str)} {k : Nat} {params : Arguments} {body : Expr} {scope : PySem.Scope} {t : XK → TE} {p lpos pos : Pos} (R : OutTxt X.K X.mg D1 f1 fd1 D2 f2 fd2 g fd) (hg : Gl X "_law_outcome")
    (TB : LamX.TabB X.base X.mg c Pt) (hcode : X.env.code = .ref c) (hmT : (Pt, X.env.qual ++ "<lambda>") ∈ T) (hu : ∀ p ∈ T, p.1 = Pt → p.2 = X.env.qual ++ "<lambda>") (hr : Room (k + 2) X.A) (L : LamX.LamS X.env.scope scope) (hdef : defaultsOf params X.env = ([], []))
    (hbind : ∀ (q : Str) (cl : List (Str × Addr)) (pm cv ctv : Value), bindArgs (PySem.W.kla_fn "<lambda>" q params body scope cl pm cv ctv) ⟨[], []⟩ = pure [])
    (hbody : ∀ (A : Around) (outer : List Env) (s : Shared) (H : Hp) (E : XK) (f c' : Addr), Room k (A.deeper (LamX.lamEnv X scope s.heap.objs.size f c')) → PE (LamX.lamCx X A outer s H E scope f c') body (t E)) :
    PE X (.Call (.Name "_law_outcome" p) [.Lambda params body scope lpos] [] pos) (LamX.tLam T (TOut D1 D2) t) := by
  obtain ⟨oc, od, kV, doc, pm, an, cdv, ct, osl, e, lk, hcg⟩ := R.fn.ex
  have bd := R.bd
  subst e
  exact LamX.pe_lamcall hg R.gm R.fn.kp lk hcg bd scOutcome rfl (by exact Or.inl rfl) (out_gives R.er1 R.er2 R.g1 R.g2 R.isin R.ex1 R.cl1 R.kv1 R.ex2 R.cl2 R.kv2 R.x21) TB hcode hmT hu hr L hdef hbind hbody

open LamX
/-! o.m(e, .., k = v, ..), o.m(k = v, ..) -/
def tMethK (C : Addr) (m : Str) (n j : Nat) (sp : Sp) (gV : List V → List V → List V) (E : XK) (ta : TE) (t tk : TA) : TE := fun σ H Q => ta σ H fun x H1 => ∃ a dx fs, x = .ref a ∧ H1 a = some (.ins C dx fs) ∧ fs.lookup m = none ∧ t σ H1 fun vs H2 => tk σ H2 fun zs H3 => vs.length = n ∧ zs.length = j ∧ sp (gV (x :: vs) zs) H3 Q E
def tMethK0 (C : Addr) (m : Str) (j : Nat) (sp : Sp) (gV : List V → List V → List V) (E : XK) (ta : TE) (tk : TA) : TE := fun σ H Q => ta σ H fun x H1 => ∃ a dx fs, x = .ref a ∧ H1 a = some (.ins C dx fs) ∧ fs.lookup m = none ∧ tk σ H1 fun zs H3 => zs.length = j ∧ sp (gV [x] zs) H3 Q E
section
variable {X : Cx} {CX : CXT} {k n : Nat} {f C : Addr} {fd : FuncData} {ps ks : List Str} {sp : Sp} {E : XK} {m : Str} {apos pos : Pos} {o e : Expr} {es : List Expr} {kws : List Keyword} {ta : TE} {t tk : TA} {g : List Value → List Value → List Value} {gV : List V → List V → List V}
theorem pe_methK {pl : Sem Bool} (he : PE X o ta) (c : Cls X.K C) (hm : Meth X.K C m f) (F : FnOk X.prog X.w X.K X.mg X.base CX k f fd ps sp) (hr : Room k X.A) (hb : KBn X.K fd ps (n + 1) ks g gV) (hx : Passes CX X E) (ha : PA X (e :: es) t) (hkw : PK X kws tk)
    (hall : (backToKw pos (keywordEach kws X.env)).all (·.1.isSome) = true := by rfl) (hks : (backToKw pos (keywordEach kws X.env)).filterMap (·.1) = ks := by rfl)
    (hst : starEach (e :: es) X.env = (false, eval e X.env) :: starEach es X.env := by rfl) (hpl : ((backTo pos (starEach (e :: es) X.env)).any (·.1) || (backToKw pos (keywordEach kws X.env)).any (·.1.isNone)) = false := by rfl)
    (ht : eval (.Call (.Attribute o m apos) (e :: es) kws pos) X.env = (do
      let ov ← eval o X.env
      standAt apos.atName
      let (f, first) ← holding [ov] (getMethod ov m pl)
      callWith pos f first (backTo pos (starEach (e :: es) X.env)) (backToKw pos (keywordEach kws X.env))) := by rfl) :
    PE X (.Call (.Attribute o m apos) (e :: es) kws pos) (tMethK C m n ks.length sp gV E ta t tk) := by
  refine ⟨fun pins s σ H Q I h => ?_⟩
  refine PySem.W.methodCall_KW (pl := pl) (thn (he.run pins s σ H _ I h) fun u s1 ⟨x, H1, I1, rx, a, dx, fs, ex, ea, l, q⟩ => ?_) ht
  subst ex
  obtain rfl : u = Value.ref a := rx
  refine getmeth_ok I1 ea c hm l ?_
  refine PySem.W.callWith_KW (first := [.ref a]) (h₀ := X.base) I.ok.mod.kin hm.kp hall (thn (ha.run pos pins s1 σ H1 _ I1 q) fun us s2 ⟨vs, H2, I2, r, q2⟩ => ?_) hpl hst
  refine thn (hkw.run pos pins s2 σ H2 _ I2 q2) fun ws s3 ⟨zs, H3, I3, rz, l1, l2, q3⟩ => ⟨I3.kIn, ?_⟩
  rw [hks]
  exact run_fnN (us := .ref a :: us) (vs := .ref a :: vs) F hr hb hx I3 (.cons rfl r) rz (by rw [List.length_cons, l1]) l2 q3
theorem pe_methK0 {pl : Sem Bool} (he : PE X o ta) (c : Cls X.K C) (hm : Meth X.K C m f) (F : FnOk X.prog X.w X.K X.mg X.base CX k f fd ps sp) (hr : Room k X.A) (hb : KBn X.K fd ps 1 ks g gV) (hx : Passes CX X E) (hkw : PK X kws tk)
    (hall : (backToKw pos (keywordEach kws X.env)).all (·.1.isSome) = true := by rfl) (hks : (backToKw pos (keywordEach kws X.env)).filterMap (·.1) = ks := by rfl)
    (hpl : ((backTo pos (starEach [] X.env)).any (·.1) || (backToKw pos (keywordEach kws X.env)).any (·.1.isNone)) = false := by rfl)
    (ht : eval (.Call (.Attribute o m apos) [] kws pos) X.env = (do
      let ov ← eval o X.env
      standAt apos.atName
      let (f, first) ← holding [ov] (getMethod ov m pl)
      callWith pos f first (backTo pos (starEach [] X.env)) (backToKw pos (keywordEach kws X.env))) := by rfl) :
    PE X (.Call (.Attribute o m apos) [] kws pos) (tMethK0 C m ks.length sp gV E ta tk) := by
  refine ⟨fun pins s σ H Q I h => ?_⟩
  refine PySem.W.methodCall_KW (pl := pl) (thn (he.run pins s σ H _ I h) fun u s1 ⟨x, H1, I1, rx, a, dx, fs, ex, ea, l, q⟩ => ?_) ht
  subst ex
  obtain rfl : u = Value.ref a := rx
  refine getmeth_ok I1 ea c hm l ?_
  refine PySem.W.callWith_KW0 (first := [.ref a]) (h₀ := X.base) I.ok.mod.kin hm.kp hall (thn (hkw.run pos pins s1 σ H1 _ I1 q) fun ws s3 ⟨zs, H3, I3, rz, l2, q3⟩ => ⟨I3.kIn, ?_⟩) hpl
  rw [hks]
  exact run_fnN (us := [.ref a]) (vs := [.ref a]) F hr hb hx I3 (.cons rfl .nil) rz rfl l2 q3
end
/-- all parameters by position or by name, of a def with positional defaults -/
theorem kb1 {K : PySem.W.Frag} {x qual : Str} {params : Arguments} {body : List Stmt} {scope : PySem.Scope} {dvs : List V} {kws : List (Str × V)} {f : Addr} {fd : FuncData} {ps : List Str} (F : FunD K x qual params body scope dvs kws f fd) (n : Nat) (ks : List Str) (hd : dvs ≠ [])
    (h : ∀ (T : Addr) (kV doc pm : Value) (an : Option Addr) (cdv ct : Value) (us its ws : List Value), us.length = n → its.length = dvs.length → ws.length = ks.length →
      ∃ k, bindArgs (PySem.W.fnOf x qual params body scope (.ref T) kV doc pm an cdv ct) ⟨us, ks.zip ws⟩ = seqItems? (.ref T) >>= k ∧ k (some its.toArray) = pure (ps.zip (us ++ ws))) : KBn K fd ps n ks (fun us ws => us ++ ws) (fun vs zs => vs ++ zs) := by
  obtain ⟨oc, od, dV, kV, doc, pm, an, cdv, ct, osl, rfl, lk, hcd, hD, hK⟩ := F.ex
  rcases hD with ⟨e, _⟩ | ⟨_, T, o, its, m, rfl, lT, oT, rT⟩
  · exact absurd e hd
  refine ⟨fun s us ws X l1 l2 => BindsTo.of_looks fun M => ?_, fun r1 r2 => r1.append r2⟩
  obtain ⟨k, e1, e2⟩ := h T kV doc pm an cdv ct us its ws l1 rT.length.symm l2
  rw [e1]
  exact looks_items X lT oT (.of_pure e2)
/-- a method: its promise, its places, what it binds where all is given -/
structure MX (P : Program) (w : World) (K : PySem.W.Frag) (mg : Str → Option Value) (base : Heap) (CX : CXT) (k : Nat) (C : Addr) (m : Str) (ps : List Str) (sp : Sp) (f : Addr) (fd : FuncData) : Prop where
  g : FnOk P w K mg base CX k f fd ps sp
  m : Meth K C m f
  b : Binds K fd ps []

theorem co_tbl {C : Cs} {S : Sys} {ad dx : Cell → Addr} {c : Cell} (ps : Array Value) : co C S ad dx c ≠ .tbl ps := fun z => by
  cases c <;> (unfold co at z; first | (unfold sysO at z; cases z) | (unfold wsO at z; cases z) | cases z)
theorem At.extN {C : Cs} {H H1 : Hp} {S : Sys} {ad dx : Cell → Addr} (A : At C H S ad dx) (e : ExtN H H1) : At C H1 S ad dx := ⟨fun c hc => e _ _ (A.at_ c hc) co_tbl, A.inj⟩
theorem code_ne {C : Cs} {S : Sys} {ad dx : Cell → Addr} {c : Cell} {a : Addr} {q : Str} : co C S ad dx c ≠ CodeO a q := fun z => by
  unfold CodeO at z
  cases c <;> (unfold co at z; first | (unfold sysO at z; cases z) | (unfold wsO at z; cases z) | cases z)
/-- where tables and code objects stay -/
theorem Tabs.by {T : List (Addr × Str)} {H H' : Hp} (t : Tabs T H) (e1 : ∀ b ps, H b = some (.tbl ps) → H' b = some (.tbl ps)) (e2 : ∀ b q, H b = some (CodeO b q) → H' b = some (CodeO b q)) : Tabs T H' := fun p hp => by
  obtain ⟨ps, h1, h2, h3⟩ := t p hp
  refine ⟨ps, e1 _ _ h1, h2, fun pos cv hc => ?_⟩
  obtain ⟨c, x1, x2⟩ := h3 pos cv hc
  exact ⟨c, x1, e2 _ _ x2⟩
theorem Tabs.step {T : List (Addr × Str)} {C : Cs} {H H' : Hp} {S S' : Sys} {ad ad' dx : Cell → Addr} (t : Tabs T H) (A : At C H S ad dx) (st : Step H S ad H' S' ad') : Tabs T H' :=
  Tabs.by t (fun b ps h => st.keep b _ (fun ⟨c, lc, ec⟩ => by rw [← ec, A.at_ c lc] at h; exact co_tbl ps (Option.some.inj h)) h) (fun b q h => st.keep b _ (fun ⟨c, lc, ec⟩ => by rw [← ec, A.at_ c lc] at h; exact code_ne (Option.some.inj h)) h)
theorem Tabs.lst {T : List (Addr × Str)} {H : Hp} {l : Addr} {us : List V} {o : HO} (t : Tabs T H) (hl : H l = some (.lst us)) : Tabs T (upd H l o) :=
  Tabs.by t (fun b ps h => by rw [upd_ne (fun z => by rw [z, hl] at h; cases h)]; exact h) (fun b q h => by rw [upd_ne (fun z => by rw [z, hl] at h; unfold CodeO at h; cases h)]; exact h)
/-- the heap without its tables -/
def hT (H : Hp) : Hp := fun b => match H b with
  | some (.tbl _) => none
  | r => r
theorem hT_at {H : Hp} {b : Addr} {o : HO} (h : H b = some o) (n : ∀ ps, o ≠ .tbl ps) : hT H b = some o := by
  unfold hT
  rw [h]
  cases o <;> first | rfl | exact absurd rfl (n _)
theorem hT_of {H : Hp} {b : Addr} {o : HO} (h : hT H b = some o) : H b = some o ∧ ∀ ps, o ≠ .tbl ps := by
  unfold hT at h
  cases e : H b with
  | none => rw [e] at h; cases h
  | some u =>
    rw [e] at h
    cases u <;> first | (cases h; exact ⟨rfl, fun ps z => by cases z⟩) | cases h
theorem hT_none {H : Hp} {b : Addr} (h : H b = none) : hT H b = none := by
  unfold hT
  rw [h]
theorem extN_hT {H H1 : Hp} (e : ExtN H H1) : Same (hT H) H1 := fun b o h => e b o (hT_of h).1 (hT_of h).2
theorem Same.frees {H H' : Hp} (s : Same H H') {b : Addr} (h : H' b = none) : H b = none := by
  cases q : H b with
  | none => rfl
  | some o => rw [s b o q] at h; cases h
theorem BagAt.lst {H : Hp} {p : Addr} (b : BagAt H p) : ∃ xs, H p = some (.lst xs) := by
  obtain ⟨x, y, h, _⟩ := b
  exact ⟨_, h⟩
theorem Tabs.off {T : List (Addr × Str)} {H H' : Hp} {l : Addr} {us : List V} (t : Tabs T H) (hl : H l = some (.lst us)) (k : ∀ q o, q ≠ l → H q = some o → H' q = some o) : Tabs T H' :=
  Tabs.by t (fun b ps h => k b _ (fun z => by rw [z, hl] at h; cases h) h) (fun b q h => k b _ (fun z => by rw [z, hl] at h; unfold CodeO at h; cases h) h)
def upF {α : Type} (f : Int → α) (n : Int) (a : α) : Int → α := fun k => if k = n then a else f k
theorem upF_at {α : Type} {f : Int → α} {n : Int} {a : α} : upF f n a n = a := if_pos rfl
theorem upF_ne {α : Type} {f : Int → α} {n k : Int} {a : α} (h : k ≠ n) : upF f n a k = f k := if_neg h
def IsLow (ks : List Int) (N : Int) (n : Nat) : Prop := (n : Int) < N ∧ (n : Int) ∉ ks ∧ ∀ i : Nat, i < n → (i : Int) ∈ ks
def AllIn (ks : List Int) (N : Int) : Prop := ∀ i : Nat, (i : Int) < N → (i : Int) ∈ ks
theorem IsLow.uniq {ks : List Int} {N : Int} {n m : Nat} (a : IsLow ks N n) (b : IsLow ks N m) : n = m := by
  rcases Nat.lt_trichotomy n m with h | h | h
  · exact absurd (b.2.2 n h) a.2.1
  · exact h
  · exact absurd (a.2.2 m h) b.2.1
theorem IsLow.all {ks : List Int} {N : Int} {n : Nat} (a : IsLow ks N n) (b : AllIn ks N) : False := a.2.1 (b n a.1)
theorem nodup_snoc {ks : List Int} {n : Int} (h : ks.Nodup) (hn : n ∉ ks) : (ks ++ [n]).Nodup := by
  rw [List.nodup_append]
  refine ⟨h, by simp, fun a ha b hb => ?_⟩
  rw [List.mem_singleton.mp hb]
  exact fun z => hn (z ▸ ha)
theorem set_at {α : Type} {l : List α} {n i : Nat} {a : α} : (l.set n a)[i]? = if n = i ∧ i < l.length then some a else l[i]? := by
  rw [List.getElem?_set]
  by_cases h : n = i
  · subst h
    by_cases h2 : n < l.length
    · rw [if_pos rfl, if_pos h2, if_pos ⟨rfl, h2⟩]
    · rw [if_pos rfl, if_neg h2, if_neg (fun z => h2 z.2), List.getElem?_eq_none (by omega)]
  · rw [if_neg h, if_neg (fun z => h z.1)]
/-! dicts of values by ints -/
def vKV (ls : List Int) (f : Int → V) : List (Key × V) := ls.map fun l => (Sum.inl l, f l)
theorem v_val (ls : List Int) (f : Int → V) (l : Int) : valV (vKV ls f) (Sum.inl l) = if l ∈ ls then some (f l) else none := by
  induction ls with
  | nil => rfl
  | cons x ls ih =>
    unfold vKV at ih ⊢
    rw [List.map_cons]
    by_cases h : x = l
    · subst h
      rw [valV_pos rfl, if_pos List.mem_cons_self]
    · rw [valV_neg (fun z => h (Sum.inl.inj z)), ih]
      by_cases h2 : l ∈ ls
      · rw [if_pos h2, if_pos (List.mem_cons_of_mem _ h2)]
      · rw [if_neg h2, if_neg fun z => (List.mem_cons.mp z).elim (fun e => h e.symm) h2]
theorem v_put (ls : List Int) (f : Int → V) (l : Int) (b : V) : putK (vKV ls f) (Sum.inl l) b = vKV (if l ∈ ls then ls else ls ++ [l]) (upF f l b) := by
  unfold putK
  rw [valV_any, v_val]
  by_cases h : l ∈ ls
  · rw [if_pos h, if_pos h]
    show List.map _ (vKV ls f) = _
    unfold vKV
    rw [List.map_map]
    refine List.map_congr_left fun x _ => ?_
    by_cases e : x = l
    · show (if (Sum.inl x : Key) = Sum.inl l then _ else _) = _
      rw [if_pos (by rw [e])]
      show (_, b) = (_, upF f l b x)
      rw [e, upF_at]
    · show (if (Sum.inl x : Key) = Sum.inl l then _ else _) = _
      rw [if_neg (fun z => e (Sum.inl.inj z))]
      show _ = (_, upF f l b x)
      rw [upF_ne e]
  · rw [if_neg h, if_neg h]
    show vKV ls f ++ _ = _
    unfold vKV
    rw [List.map_append]
    have e1 : ls.map (fun j => ((Sum.inl j : Key), upF f l b j)) = ls.map fun j => (Sum.inl j, f j) := List.map_congr_left fun x hx => by rw [upF_ne fun z : x = l => h (z ▸ hx)]
    rw [e1]
    congr 1
    show [(_, b)] = [(_, upF f l b l)]
    rw [upF_at]
theorem v_drop (ls : List Int) (f : Int → V) (l : Int) : dropK (vKV ls f) (Sum.inl l) = vKV (without l ls) f := by
  induction ls with
  | nil => rfl
  | cons x ls ih =>
    unfold vKV dropK without at ih ⊢
    rw [List.map_cons, List.filter_cons, List.filter_cons]
    by_cases h : x = l
    · rw [if_neg (by simp [h]), if_neg (by simp [h])]
      exact ih
    · rw [if_pos (by simp [h]), if_pos (by simp [h]), List.map_cons]
      exact congrArg _ ih
theorem v_congr {ls : List Int} {f g : Int → V} (h : ∀ k ∈ ls, f k = g k) : vKV ls f = vKV ls g := List.map_congr_left fun k hk => by rw [h k hk]
theorem v_len (ls : List Int) (f : Int → V) : (vKV ls f).length = ls.length := List.length_map ..
/-- d != {} -/
def rNeE : R2 := fun x y H Q => ∃ a b ks, x = .ref a ∧ y = .ref b ∧ H a = some (.dK ks) ∧ H b = some (.dK []) ∧ Q (.bl (!ks.isEmpty)) H
theorem op_neE {X : Cx} (hu : X.A.units < cLine) : OpR X (compareOp .NotEq) rNeE := by
  intro pins s σ H x y v u Q I rx ry h
  obtain ⟨a, b, ks, rfl, rfl, ea, eb, q⟩ := h
  obtain rfl : v = Value.ref a := rx
  obtain rfl : u = Value.ref b := ry
  obtain ⟨_, ya, va, ra, da⟩ := (show ObjOk X.prog X.w H s.heap a (.dK ks) from I.hok a _ ea)
  obtain ⟨_, yb, vb, rb, db⟩ := (show ObjOk X.prog X.w H s.heap b (.dK []) from I.hok b _ eb)
  have l1 : ks.length = va.length := ra.length
  have l2 : ([] : List (Key × V)).length = vb.length := rb.length
  have lb : vb.length = 0 := l2.symm
  refine PySem.W.keq_ne (knd := mixKind X.prog X.w) (r := true) ya yb da db hu (fun e => ?_) (fin_bl I q ?_)
  · cases ks with
    | nil => exact hits_all rb ra fun p hp => nomatch hp
    | cons p ks =>
      rw [lb, ← l1] at e
      cases e
  · rw [lb, ← l1]
    cases ks <;> rfl
/-! the law's table and the system's -/
theorem range_nodup_le : ∀ (m : Nat) (ks : List Int), (∀ i : Nat, i < m → (i : Int) ∈ ks) → m ≤ ks.length
  | 0, _, _ => Nat.zero_le _
  | m + 1, ks, h => by
    have hm := h m (Nat.lt_succ_self _)
    have ih := range_nodup_le m (ks.erase (m : Int)) fun i hi => by
      refine (List.mem_erase_of_ne fun z => ?_).mpr (h i (by omega))
      omega
    rw [List.length_erase_of_mem hm] at ih
    have : 0 < ks.length := List.length_pos_of_mem hm
    omega
structure Fit (S : Sys) (ks : List Int) (th tm : Int → Int) (us : List Int) (un : Int → Int) (turn : Int) : Prop where
  nd : ks.Nodup
  procs : S.procs = [0]
  N3 : 3 ≤ S.N
  N8 : S.N ≤ 8
  len : (S.tab 0).length = S.N.toNat
  bd : ∀ n ∈ ks, 0 ≤ n ∧ n < S.N
  on : ∀ n ∈ ks, (S.tab 0)[n.toNat]? = some (some (th n))
  fr : ∀ i : Nat, (i : Int) < S.N → (i : Int) ∉ ks → (S.tab 0)[i]? = some none
  src : ∀ n ∈ ks, th n ∈ S.srcs
  sets : S.sets = []
  same : ∀ n ∈ ks, ∀ m ∈ ks, tm n = tm m ↔ th n = th m
  lt : ∀ n ∈ ks, 0 ≤ tm n ∧ tm n < turn
  uk : ∀ n ∈ ks, tm n ∈ us ∧ S.unit (th n) = (un (tm n), false)
  ul : ∀ u ∈ us, u < turn
  uz : (us.length : Int) ≤ turn
  nx : ∀ t ∈ S.srcs, t < S.next
  l1 : (S.srcs.length : Int) ≤ turn
  kl : (ks.length : Int) ≤ 8
  t0 : 0 ≤ turn
theorem range_sub : ∀ (N : Nat) (ks : List Int), ks.Nodup → (∀ n ∈ ks, 0 ≤ n ∧ n < (N : Int)) → ks.length ≤ N
  | 0, ks, _, h => by
    cases ks with
    | nil => exact Nat.le_refl _
    | cons a l => have := h a List.mem_cons_self; omega
  | N + 1, ks, nd, h => by
    have ih := range_sub N (without (N : Int) ks) (nd.filter _) fun n hn => by
      obtain ⟨h1, h2⟩ := mem_without.mp hn
      have := h n h1
      omega
    have e : ks.length ≤ (without (N : Int) ks).length + 1 := by
      clear ih h
      induction ks with
      | nil => exact Nat.zero_le _
      | cons a l ih =>
        obtain ⟨ha, nl⟩ := List.nodup_cons.mp nd
        unfold without at ih ⊢
        rw [List.filter_cons]
        by_cases z : a = (N : Int)
        · rw [if_neg (by simp [z])]
          have : List.filter (fun x => decide (x ≠ (N : Int))) l = l := List.filter_eq_self.mpr fun x hx => decide_eq_true fun y => ha (z ▸ y ▸ hx)
          rw [this]
          exact Nat.le_refl _
        · rw [if_pos (by simp [z])]
          have := ih nl
          simp only [List.length_cons]
          omega
    omega
section
variable {S S' : Sys} {ks : List Int} {th tm : Int → Int} {us : List Int} {un : Int → Int} {turn : Int}
theorem Fit.len8 (F : Fit S ks th tm us un turn) : (S.tab 0).length ≤ 8 := by
  have := F.len
  have := F.N8
  omega
theorem Fit.p0 (F : Fit S ks th tm us un turn) : (0 : Int) ∈ S.procs := by rw [F.procs]; exact List.mem_singleton.mpr rfl
theorem Fit.means (F : Fit S ks th tm us un turn) {n : Int} (h : n ∈ ks) : Means S 0 n (th n) := by
  have := F.bd n h
  exact ⟨F.p0, by omega, by omega, F.on n h⟩
theorem Fit.shut (F : Fit S ks th tm us un turn) {n : Int} (h : n ∉ ks) (n0 : 0 ≤ n) : Opn S 0 n none := by
  refine ⟨F.p0, n0, fun z => ?_, fun _ => rfl⟩
  have e : ((n.toNat : Nat) : Int) = n := by omega
  exact F.fr n.toNat (by omega) (by rw [e]; exact h)
theorem Fit.all (F : Fit S ks th tm us un turn) {i : Nat} {u : Int} (h : (S.tab 0)[i]? = some (some u)) : (i : Int) ∈ ks ∧ th (i : Int) = u := by
  have ln := F.len
  have := F.N3
  have hi : i < (S.tab 0).length := (List.getElem?_eq_some_iff.mp h).1
  have hk : (i : Int) ∈ ks := Classical.byContradiction fun z => by
    rw [F.fr i (by omega) z] at h
    cases h
  have e := F.on _ hk
  rw [Int.toNat_natCast, h] at e
  cases e
  exact ⟨hk, rfl⟩
theorem Fit.first (F : Fit S ks th tm us un turn) {n : Nat} (h : firstFree (S.tab 0) n) : IsLow ks S.N n := by
  have := F.N3
  have ln := F.len
  have hn : n < (S.tab 0).length := (List.getElem?_eq_some_iff.mp h.1).1
  refine ⟨by omega, fun z => ?_, fun i hi => ?_⟩
  · have e := F.on _ z
    rw [Int.toNat_natCast, h.1] at e
    cases e
  · obtain ⟨x, e⟩ := h.2 i hi
    exact (F.all e).1
theorem Fit.notFull (F : Fit S ks th tm us un turn) (h : (ks.length : Int) < S.N) (f : Ful (S.tab 0)) : False := by
  have ln := F.len
  have := F.N3
  have a : ∀ (m : Nat), (m : Int) ≤ S.N → m ≤ ks.length := fun m hm => by
    have e := range_nodup_le m ks (fun i hi => by
      obtain ⟨x, e⟩ := f i (by omega)
      exact (F.all e).1)
    exact e
  have := a S.N.toNat (by omega)
  omega
theorem Fit.next (F : Fit S ks th tm us un turn) : Fit S ks th tm us un (turn + 1) :=
  { F with lt := fun n h => ⟨(F.lt n h).1, by have := (F.lt n h).2; omega⟩, ul := fun u h => by have := F.ul u h; omega, uz := by have := F.uz; omega, l1 := by have := F.l1; omega, t0 := by have := F.t0; omega }
end

def addK (ks : List Int) (n : Int) : List Int := if n ∈ ks then ks else ks ++ [n]
theorem mem_addK {ks : List Int} {n j : Int} : j ∈ addK ks n ↔ j ∈ ks ∨ j = n := by
  unfold addK
  by_cases h : n ∈ ks
  · rw [if_pos h]
    exact ⟨.inl, fun z => z.elim id fun e => e ▸ h⟩
  · rw [if_neg h, List.mem_append, List.mem_singleton]
theorem nodup_addK {ks : List Int} {n : Int} (nd : ks.Nodup) : (addK ks n).Nodup := by
  unfold addK
  by_cases h : n ∈ ks
  · rw [if_pos h]
    exact nd
  · rw [if_neg h]
    exact nodup_snoc nd h
theorem set_self {α : Type} {l : List α} {m : Nat} {a : α} (h : l[m]? = some a) : l.set m a = l := by
  apply List.ext_getElem?
  intro i
  rw [set_at]
  by_cases z : m = i ∧ i < l.length
  · rw [if_pos z, ← z.1, h]
  · rw [if_neg z]
section
variable {S S' : Sys} {ks : List Int} {th tm : Int → Int} {us us' : List Int} {un un' : Int → Int} {turn turn' : Int}
theorem Fit.put (F : Fit S ks th tm us un turn) {n : Nat} (hn : (n : Int) < S.N) {t u : Int} (e1 : S'.procs = S.procs) (e2 : S'.N = S.N) (e3 : S'.tab 0 = (S.tab 0).set n (some t)) (es : S'.sets = []) (hs : ∀ j ∈ ks, j ≠ (n : Int) → th j ∈ S'.srcs) (ht : t ∈ S'.srcs) (sm : ∀ j ∈ ks, j ≠ (n : Int) → (tm j = u ↔ th j = t))
    (lt : 0 ≤ u ∧ u < turn') (tt : turn ≤ turn') (uk : ∀ j ∈ ks, j ≠ (n : Int) → tm j ∈ us' ∧ S'.unit (th j) = (un' (tm j), false)) (ukn : u ∈ us' ∧ S'.unit t = (un' u, false)) (ul : ∀ v ∈ us', v < turn') (uz : (us'.length : Int) ≤ turn') (nx : ∀ t ∈ S'.srcs, t < S'.next) (l1 : (S'.srcs.length : Int) ≤ turn') :
    Fit S' (addK ks n) (upF th n t) (upF tm n u) us' un' turn' := by
  have ln := F.len
  have split : ∀ {j : Int}, j ∈ addK ks (n : Int) → (j ∈ ks ∧ j ≠ (n : Int)) ∨ j = (n : Int) := fun {j} h => by
    by_cases z : j = (n : Int)
    · exact .inr z
    · exact .inl ⟨(mem_addK.mp h).resolve_right z, z⟩
  have bd : ∀ j ∈ addK ks (n : Int), 0 ≤ j ∧ j < S.N := fun j h => by
    rcases split h with ⟨y, _⟩ | rfl
    · exact F.bd j y
    · omega
  refine ⟨nodup_addK F.nd, e1.trans F.procs, by rw [e2]; exact F.N3, by rw [e2]; exact F.N8, by rw [e3, e2, List.length_set]; exact ln, fun j h => by rw [e2]; exact bd j h, fun j h => ?_, fun i h1 h2 => ?_, fun j h => ?_, es, fun j h m h' => ?_, fun j h => ?_, fun j h => ?_, ul, uz, nx, l1, ?_, by have := F.t0; omega⟩
  · rw [e3, set_at]
    rcases split h with ⟨y, nj⟩ | rfl
    · have := F.bd j y
      rw [if_neg (fun z => by omega), upF_ne nj]
      exact F.on j y
    · rw [if_pos (by omega), upF_at]
  · rw [e3, set_at]
    rw [e2] at h1
    have h3 : (i : Int) ∉ ks := fun z => h2 (mem_addK.mpr (.inl z))
    have h4 : (i : Int) ≠ (n : Int) := fun z => h2 (mem_addK.mpr (.inr z))
    rw [if_neg (fun z => by omega)]
    exact F.fr i h1 h3
  · rcases split h with ⟨y, nj⟩ | rfl
    · rw [upF_ne nj]
      exact hs j y nj
    · rw [upF_at]
      exact ht
  · rcases split h with ⟨y, nj⟩ | rfl <;> rcases split h' with ⟨y', nj'⟩ | rfl
    · rw [upF_ne nj, upF_ne nj, upF_ne nj', upF_ne nj']
      exact F.same j y m y'
    · rw [upF_ne nj, upF_ne nj, upF_at, upF_at]
      exact sm j y nj
    · rw [upF_ne nj', upF_ne nj', upF_at, upF_at]
      exact ⟨fun z => ((sm m y' nj').mp z.symm).symm, fun z => ((sm m y' nj').mpr z.symm).symm⟩
    · exact ⟨fun _ => rfl, fun _ => rfl⟩
  · rcases split h with ⟨y, nj⟩ | rfl
    · rw [upF_ne nj]
      have := F.lt j y
      omega
    · rw [upF_at]
      exact lt
  · rcases split h with ⟨y, nj⟩ | rfl
    · rw [upF_ne nj, upF_ne nj]
      exact uk j y nj
    · rw [upF_at, upF_at]
      exact ukn
  · have := range_sub 8 (addK ks n) (nodup_addK F.nd) fun j h => by
      have := bd j h
      have := F.N8
      omega
    omega
theorem Fit.new (F : Fit S ks th tm us un turn) {n : Nat} (lo : IsLow ks S.N n) {k : Int} (e1 : S'.procs = S.procs) (e2 : S'.N = S.N) (e3 : S'.tab 0 = (S.tab 0).set n (some S.next)) (es : S'.sets = S.sets) (e4 : S'.srcs = S.srcs ++ [S.next]) (e5 : S'.next = S.next + 1) (u1 : S'.unit S.next = (k, false)) (u2 : ∀ t, t ≠ S.next → S'.unit t = S.unit t) :
    Fit S' (ks ++ [(n : Int)]) (upF th n S.next) (upF tm n turn) (us ++ [turn]) (upF un turn k) (turn + 1) := by
  have old : ∀ j ∈ ks, th j ≠ S.next := fun j h z => by
    have := F.nx _ (F.src j h)
    omega
  have e : ks ++ [(n : Int)] = addK ks n := (if_neg lo.2.1).symm
  rw [e]
  have t0 := F.t0
  refine F.put lo.1 e1 e2 e3 (es.trans F.sets) (fun j h _ => by rw [e4]; exact List.mem_append_left _ (F.src j h)) (by rw [e4]; exact List.mem_append_right _ (List.mem_singleton.mpr rfl)) (fun j h _ => ?_) ⟨t0, by omega⟩ (by omega) (fun j h _ => ?_) ⟨List.mem_append_right _ (List.mem_singleton.mpr rfl), by rw [u1, upF_at]⟩ (fun v hv => ?_) ?_ (fun t ht => ?_) ?_
  · have := (F.lt j h).2
    exact ⟨fun z => by omega, fun z => absurd z (old j h)⟩
  · obtain ⟨h1, h2⟩ := F.uk j h
    have := (F.lt j h).2
    exact ⟨List.mem_append_left _ h1, by rw [u2 _ (old j h), h2, upF_ne (by omega)]⟩
  · rcases List.mem_append.mp hv with y | y
    · have := F.ul v y
      omega
    · rw [List.mem_singleton.mp y]
      omega
  · rw [List.length_append]
    have := F.uz
    show ((us.length + 1 : Nat) : Int) ≤ _
    omega
  · rw [e5]
    rw [e4] at ht
    rcases List.mem_append.mp ht with y | y
    · have := F.nx t y
      omega
    · rw [List.mem_singleton.mp y]
      omega
  · rw [e4, List.length_append]
    have := F.l1
    show ((S.srcs.length + 1 : Nat) : Int) ≤ _
    omega
theorem Fit.copy (F : Fit S ks th tm us un turn) {n : Int} (h : n ∈ ks) {m : Nat} (hm : (m : Int) < S.N) {y : Option Int} (hy : (S.tab 0)[m]? = some y) : Fit (onto S 0 m (th n) y) (addK ks m) (upF th m (th n)) (upF tm m (tm n)) us un turn ∧ (onto S 0 m (th n) y).N = S.N := by
  have lt := F.lt n h
  have same : ∀ j ∈ ks, j ≠ (m : Int) → (tm j = tm n ↔ th j = th n) := fun j hj _ => F.same j hj n h
  have fin : ∀ {S' : Sys}, S'.procs = S.procs → S'.N = S.N → S'.tab 0 = (S.tab 0).set m (some (th n)) → S'.sets = [] → (∀ j ∈ ks, j ≠ (m : Int) → th j ∈ S'.srcs) → th n ∈ S'.srcs → S'.unit = S.unit → S'.next = S.next → (∀ t ∈ S'.srcs, t ∈ S.srcs) → S'.srcs.length ≤ S.srcs.length → Fit S' (addK ks m) (upF th m (th n)) (upF tm m (tm n)) us un turn ∧ S'.N = S.N := fun e1 e2 e3 e4 hs ht e5 e6 q1 q2 =>
    ⟨F.put hm e1 e2 e3 e4 hs ht same lt (Int.le_refl _) (fun j hj _ => by rw [e5]; exact F.uk j hj) (by rw [e5]; exact F.uk n h) F.ul F.uz (fun t ht => by rw [e6]; exact F.nx t (q1 t ht)) (by have := F.l1; omega), e2⟩
  cases y with
  | none => exact fin rfl rfl (by show (if (0 : Int) = 0 then (S.tab 0).set m (some (th n)) else S.tab 0) = _; rw [if_pos rfl]) F.sets (fun j hj _ => F.src j hj) (F.src n h) rfl rfl (fun _ z => z) (Nat.le_refl _)
  | some u =>
    by_cases hu : u = th n
    · have e : onto S 0 m (th n) (some u) = S := if_pos hu
      rw [e]
      exact fin rfl rfl (by rw [set_self (by rw [hy, hu])]) F.sets (fun j hj _ => F.src j hj) (F.src n h) rfl rfl (fun _ z => z) (Nat.le_refl _)
    · have e : onto S 0 m (th n) (some u) = copied (closed S 0 (m : Int) u) 0 m (th n) := if_neg hu
      rw [e]
      have nm : n ≠ (m : Int) := fun z => by
        have e := F.on n h
        rw [z, Int.toNat_natCast, hy, ← z] at e
        exact hu (Option.some.inj (Option.some.inj e))
      have ct : (cleared S 0 (m : Int)).tab 0 = (S.tab 0).set m none := by
        show (if (0 : Int) = 0 then (S.tab 0).set (m : Int).toNat none else S.tab 0) = _
        rw [if_pos rfl, Int.toNat_natCast]
      have us0 : u ∉ (cleared S 0 (m : Int)).sets := by
        show u ∉ S.sets
        rw [F.sets]
        exact List.not_mem_nil
      have e0 : (closed S 0 (m : Int) u).tab 0 = (S.tab 0).set m none := by
        unfold closed ended
        split
        · exact ct
        · exact ct
      have hs : ∀ j ∈ ks, j ≠ (m : Int) → th j ∈ (closed S 0 (m : Int) u).srcs := fun j hj nj => by
        unfold closed ended
        split
        · exact F.src j hj
        · rename_i hq
          try rw [if_neg us0]
          refine mem_without.mpr ⟨F.src j hj, fun z => hq ⟨0, F.p0, ?_⟩⟩
          have := F.bd j hj
          rw [ct]
          refine List.mem_of_getElem? (i := j.toNat) ?_
          rw [set_at, if_neg (fun y => by omega), F.on j hj, z]
      have sub : ∀ t ∈ (closed S 0 (m : Int) u).srcs, t ∈ S.srcs := fun t ht => by
        unfold closed ended at ht
        split at ht
        · exact ht
        · try rw [if_neg us0] at ht
          exact (mem_without.mp ht).1
      have sl : (closed S 0 (m : Int) u).srcs.length ≤ S.srcs.length := by
        unfold closed ended
        split
        · exact Nat.le_refl _
        · exact List.length_filter_le _ _
      have rest : (closed S 0 (m : Int) u).procs = S.procs ∧ (closed S 0 (m : Int) u).N = S.N ∧ (closed S 0 (m : Int) u).sets = S.sets ∧ (closed S 0 (m : Int) u).unit = S.unit ∧ (closed S 0 (m : Int) u).next = S.next := by
        unfold closed ended
        split
        · exact ⟨rfl, rfl, rfl, rfl, rfl⟩
        · exact ⟨rfl, rfl, rfl, rfl, rfl⟩
      obtain ⟨r1, r2, r3, r4, r5⟩ := rest
      refine fin (S' := copied (closed S 0 (m : Int) u) 0 m (th n)) r1 r2 ?_ (r3.trans F.sets) hs (hs n h nm) r4 r5 sub sl
      show (if (0 : Int) = 0 then ((closed S 0 (m : Int) u).tab 0).set m (some (th n)) else (closed S 0 (m : Int) u).tab 0) = _
      rw [if_pos rfl, e0, List.set_set]
theorem Fit.close (F : Fit S ks th tm us un turn) {n : Int} (h : n ∈ ks) : Fit (closed S 0 n (th n)) (without n ks) th tm us un turn ∧ (closed S 0 n (th n)).N = S.N := by
  have ln := F.len
  have hb := F.bd n h
  have ct : (cleared S 0 n).tab 0 = (S.tab 0).set n.toNat none := by
    show (if (0 : Int) = 0 then (S.tab 0).set n.toNat none else S.tab 0) = _
    rw [if_pos rfl]
  have us0 : th n ∉ (cleared S 0 n).sets := by
    show th n ∉ S.sets
    rw [F.sets]
    exact List.not_mem_nil
  have fin : ∀ {S' : Sys}, S'.procs = S.procs → S'.N = S.N → S'.tab 0 = (S.tab 0).set n.toNat none → S'.sets = [] → (∀ j ∈ ks, j ≠ n → th j ∈ S'.srcs) → S'.unit = S.unit → S'.next = S.next → (∀ t ∈ S'.srcs, t ∈ S.srcs) → S'.srcs.length ≤ S.srcs.length → Fit S' (without n ks) th tm us un turn ∧ S'.N = S.N := fun {S'} e1 e2 e3 e4 hs e5 e6 q1 q2 => by
    refine ⟨⟨F.nd.filter _, e1.trans F.procs, by rw [e2]; exact F.N3, by rw [e2]; exact F.N8, by rw [e3, e2, List.length_set]; exact ln, fun j hj => by rw [e2]; exact F.bd j (mem_without.mp hj).1, fun j hj => ?_, fun i h1 h2 => ?_, fun j hj => hs j (mem_without.mp hj).1 (mem_without.mp hj).2, e4, fun j hj m hm => F.same j (mem_without.mp hj).1 m (mem_without.mp hm).1, fun j hj => F.lt j (mem_without.mp hj).1, fun j hj => by rw [e5]; exact F.uk j (mem_without.mp hj).1, F.ul, F.uz, fun t ht => by rw [e6]; exact F.nx t (q1 t ht), by have := F.l1; omega, ?_, F.t0⟩, e2⟩
    · obtain ⟨y, nj⟩ := mem_without.mp hj
      have := F.bd j y
      rw [e3, set_at, if_neg (fun z => by omega)]
      exact F.on j y
    · rw [e2] at h1
      rw [e3, set_at]
      by_cases z : n.toNat = i
      · rw [if_pos ⟨z, by omega⟩]
      · rw [if_neg (fun y => z y.1)]
        exact F.fr i h1 fun y => h2 (mem_without.mpr ⟨y, fun w => z (by omega)⟩)
    · have := F.kl
      have := List.length_filter_le (fun x => decide (x ≠ n)) ks
      unfold without
      omega
  unfold closed
  by_cases hq : ∃ q ∈ S.procs, some (th n) ∈ (cleared S 0 n).tab q
  · rw [if_pos hq]
    exact fin rfl rfl ct F.sets (fun j hj _ => F.src j hj) rfl rfl (fun _ z => z) (Nat.le_refl _)
  rw [if_neg hq]
  unfold ended
  rw [if_neg us0]
  refine fin rfl rfl ct F.sets (fun j hj nj => mem_without.mpr ⟨F.src j hj, fun z => hq ⟨0, F.p0, ?_⟩⟩) rfl rfl (fun _ z => (mem_without.mp z).1) (List.length_filter_le _ _)
  have := F.bd j hj
  rw [ct]
  refine List.mem_of_getElem? (i := j.toNat) ?_
  rw [set_at, if_neg (fun y => by omega), F.on j hj, z]
end
theorem Fit.start {N : Int} (h3 : 3 ≤ N) (h8 : N ≤ 8) : Fit (newSys 2 N) [] (fun _ => 0) (fun _ => 0) [] (fun _ => 0) 0 where
  nd := .nil
  procs := rfl
  N3 := h3
  N8 := h8
  len := List.length_replicate
  bd := fun _ h => nomatch h
  on := fun _ h => nomatch h
  fr := fun i h _ => by
    show (List.replicate N.toNat (none : Option Int))[i]? = some none
    rw [List.getElem?_replicate, if_pos (by have : (i : Int) < N := h; omega)]
  src := fun _ h => nomatch h
  sets := rfl
  same := fun _ h => nomatch h
  lt := fun _ h => nomatch h
  uk := fun _ h => nomatch h
  ul := fun _ h => nomatch h
  uz := Int.le_refl _
  nx := fun _ h => nomatch h
  l1 := Int.le_refl _
  kl := by decide
  t0 := Int.le_refl _

abbrev iv (f : Int → Int) : Int → V := fun k => .int (f k)
/-- the law's heap: its bag p, the system x, its table D, its units U -/
structure LW (C : Cs) (T : List (Addr × Str)) (Hb H : Hp) (p x D U : Addr) (S : Sys) (ad dx : Cell → Addr) (ks : List Int) (tm : Int → Int) (us : List Int) (un : Int → Int) : Prop where
  at_ : At C H S ad dx
  box : ad .box = x
  tab : Tabs T H
  bag : BagAt H p
  dict : H D = some (.dK (vKV ks (iv tm)))
  unit : H U = some (.dK (vKV us (iv un)))
  DU : D ≠ U
  old : ∀ q o, hT Hb q = some o → H q = some o
  nb : ∀ b, own S ad b → hT Hb b = none
  pb : hT Hb p = none
  Db : hT Hb D = none
  Ub : hT Hb U = none
  np : ¬ own S ad p
  nD : ¬ own S ad D
  nU : ¬ own S ad U
section
variable {C : Cs} {T : List (Addr × Str)} {Hb H H1 H' : Hp} {p x D U : Addr} {S S' : Sys} {ad ad' dx dx' : Cell → Addr} {ks ks' : List Int} {tm tm' : Int → Int} {us us' : List Int} {un un' : Int → Int}
theorem LW.pD (W : LW C T Hb H p x D U S ad dx ks tm us un) : p ≠ D := fun z => by
  obtain ⟨xs, h⟩ := W.bag.lst
  rw [z, W.dict] at h
  cases h
theorem LW.pU (W : LW C T Hb H p x D U S ad dx ks tm us un) : p ≠ U := fun z => by
  obtain ⟨xs, h⟩ := W.bag.lst
  rw [z, W.unit] at h
  cases h
theorem LW.same (W : LW C T Hb H p x D U S ad dx ks tm us un) (s : Same H H') : LW C T Hb H' p x D U S ad dx ks tm us un := by
  obtain ⟨a, b, h, r⟩ := W.bag
  exact ⟨W.at_.same s, W.box, W.tab.ext s, ⟨a, b, s _ _ h, r⟩, s _ _ W.dict, s _ _ W.unit, W.DU, fun q o h => s _ _ (W.old q o h), W.nb, W.pb, W.Db, W.Ub, W.np, W.nD, W.nU⟩
theorem LW.draw (W : LW C T Hb H p x D U S ad dx ks tm us un) (e : ∀ b, b ≠ p → H' b = H b) (bg : BagAt H' p) : LW C T Hb H' p x D U S ad dx ks tm us un := by
  obtain ⟨xs, hp⟩ := W.bag.lst
  exact ⟨⟨fun c hc => (e _ fun z => W.np ⟨c, hc, z⟩).trans (W.at_.at_ c hc), W.at_.inj⟩, W.box, Tabs.off W.tab hp fun q o n h => (e q n).trans h, bg, (e D (Ne.symm W.pD)).trans W.dict, (e U (Ne.symm W.pU)).trans W.unit, W.DU,
    fun q o h => (e q fun z => by rw [z, W.pb] at h; cases h).trans (W.old q o h), W.nb, W.pb, W.Db, W.Ub, W.np, W.nD, W.nU⟩
theorem LW.extN (W : LW C T Hb H p x D U S ad dx ks tm us un) (e : ExtN H H1) (t : Tabs T H1) : LW C T Hb H1 p x D U S ad dx ks tm us un := by
  obtain ⟨a, b, h, r⟩ := W.bag
  exact ⟨W.at_.extN e, W.box, t, ⟨a, b, e _ _ h fun ps z => (by cases z), r⟩, e _ _ W.dict fun ps z => (by cases z), e _ _ W.unit fun ps z => (by cases z), W.DU, fun q o h => e _ _ (W.old q o h) (hT_of h).2, W.nb, W.pb, W.Db, W.Ub, W.np, W.nD, W.nU⟩
theorem LW.hTn (W : LW C T Hb H p x D U S ad dx ks tm us un) {b : Addr} (h : H b = none) : hT Hb b = none := by
  cases q : hT Hb b with
  | none => rfl
  | some o => rw [W.old b o q] at h; cases h
/-- a call on the system -/
theorem LW.step (W : LW C T Hb H p x D U S ad dx ks tm us un) (A : At C H' S' ad' dx') (st : Step H S ad H' S' ad') : LW C T Hb H' p x D U S' ad' dx' ks tm us un := by
  obtain ⟨a, b, hp, r⟩ := W.bag
  have not : ∀ {q : Addr} {o : HO}, H q = some o → ¬ own S ad q → ¬ own S' ad' q := fun {q} {o} h n z => by
    rcases st.new q z with y | y
    · exact n y
    · rw [h] at y; cases y
  refine ⟨A, st.box.trans W.box, Tabs.step W.tab W.at_ st, ⟨a, b, st.keep _ _ W.np hp, r⟩, st.keep _ _ W.nD W.dict, st.keep _ _ W.nU W.unit, W.DU, fun q o h => ?_, fun b hb => ?_, W.pb, W.Db, W.Ub, not hp W.np, not W.dict W.nD, not W.unit W.nU⟩
  · exact st.keep _ _ (fun z => by rw [W.nb q z] at h; cases h) (W.old q o h)
  · rcases st.new b hb with z | z
    · exact W.nb b z
    · exact W.hTn z
/-- the law's table is written -/
theorem LW.putD (W : LW C T Hb H p x D U S ad dx ks tm us un) (h : H' D = some (.dK (vKV ks' (iv tm')))) (k : ∀ q o, q ≠ D → H q = some o → H' q = some o) : LW C T Hb H' p x D U S ad dx ks' tm' us un := by
  obtain ⟨a, b, hp, r⟩ := W.bag
  exact ⟨⟨fun c hc => k _ _ (fun z => W.nD ⟨c, hc, z⟩) (W.at_.at_ c hc), W.at_.inj⟩, W.box, Tabs.by W.tab (fun b ps e => k b _ (fun z => by rw [z, W.dict] at e; cases e) e) (fun b q e => k b _ (fun z => by rw [z, W.dict] at e; unfold CodeO at e; cases e) e), ⟨a, b, k p _ W.pD hp, r⟩, h, k U _ (Ne.symm W.DU) W.unit, W.DU,
    fun q o e => k q o (fun z => by rw [z, W.Db] at e; cases e) (W.old q o e), W.nb, W.pb, W.Db, W.Ub, W.np, W.nD, W.nU⟩
theorem LW.putU (W : LW C T Hb H p x D U S ad dx ks tm us un) (h : H' U = some (.dK (vKV us' (iv un')))) (k : ∀ q o, q ≠ U → H q = some o → H' q = some o) : LW C T Hb H' p x D U S ad dx ks tm us' un' := by
  obtain ⟨a, b, hp, r⟩ := W.bag
  exact ⟨⟨fun c hc => k _ _ (fun z => W.nU ⟨c, hc, z⟩) (W.at_.at_ c hc), W.at_.inj⟩, W.box, Tabs.by W.tab (fun b ps e => k b _ (fun z => by rw [z, W.unit] at e; cases e) e) (fun b q e => k b _ (fun z => by rw [z, W.unit] at e; unfold CodeO at e; cases e) e), ⟨a, b, k p _ W.pU hp, r⟩, k D _ W.DU W.dict, h, W.DU,
    fun q o e => k q o (fun z => by rw [z, W.Ub] at e; cases e) (W.old q o e), W.nb, W.pb, W.Db, W.Ub, W.np, W.nD, W.nU⟩
theorem LW.sq {K : PySem.W.Frag} {a : Addr} {xs : List V} (W : LW C T Hb H p x D U S ad dx ks tm us un) (h : SqL K Hb a xs) : SqL K H a xs := by
  rcases h with (h | ⟨o, h⟩) | h
  · exact .inl (.inl (W.old _ _ (hT_at h fun ps z => by cases z)))
  · exact .inl (.inr ⟨o, W.old _ _ (hT_at h fun ps z => by cases z)⟩)
  · exact .inr h
theorem LW.hb (W : LW C T Hb H p x D U S ad dx ks tm us un) : H x = some (sysO C.S (dx .box) S (ad .tabD) (ad .srcD) (ad .setD)) := by rw [← W.box]; exact W.at_.at_ .box trivial
end
theorem iv_up {f : Int → Int} {n a : Int} : upF (iv f) n (.int a) = iv (upF f n a) := funext fun k => by
  unfold upF iv
  dsimp only
  by_cases h : k = n
  · rw [if_pos h, if_pos h]
  · rw [if_neg h, if_neg h]
theorem dget {H : Hp} {D : Addr} {ks : List Int} {f : Int → Int} {n : Int} (h : H D = some (.dK (vKV ks (iv f)))) (hn : n ∈ ks) : DGet H D (.int n) (some (.int (f n))) := by
  have hv : valV (vKV ks (iv f)) (Sum.inl n) = some (.int (f n)) := by rw [v_val, if_pos hn]
  exact hv ▸ DGet.k (k := Sum.inl n) h
/-- a deed, handed to _law_outcome -/
theorem out_any {C : Cs} {T : List (Addr × Str)} {Hb H : Hp} {p x D U D1 D2 : Addr} {S : Sys} {ad dx : Cell → Addr} {ks : List Int} {tm : Int → Int} {us : List Int} {un : Int → Int} {σ : L2.St} {t : XK → TE} {Q : VK} {sp : Sp} {vs : List V}
    (W : LW C T Hb H p x D U S ad dx ks tm us un) (hb : ∀ (E : XK) (H1 : Hp) (k : VK), sp vs H1 k E → t E σ H1 k)
    (h : ∀ (H1 : Hp) (E : XK), LW C T Hb H1 p x D U S ad dx ks tm us un → (∀ b o, H b = some o → (∀ ps, o ≠ .tbl ps) → H1 b = some o) →
      (∀ v : V, (∀ H' l, Same H1 H' → LW C T Hb H' p x D U S ad dx ks tm us un → H' l = some (.lst [.str "no number", v, .bl true]) → Q (.ref l) H') → OutV D1 "number" v H1 E) →
      (∀ v : V, (∀ H' l, Same H1 H' → LW C T Hb H' p x D U S ad dx ks tm us un → H' l = some (.lst [.str "not open", v, .bl true]) → Q (.ref l) H') → OutV D2 "number" v H1 E) → sp vs H1 Q E) : tLam T (TOut D1 D2) t σ H Q := by
  refine ⟨W.tab, fun H1 e1 t1 E hE1 hE2 => hb E H1 Q (h H1 E (W.extN e1 t1) e1 (fun v k d H2 hd s2 h2 => hE1 d v H2 h2 fun l hl => ?_) (fun v k d H2 hd s2 h2 => hE2 d v H2 h2 fun l hl => ?_))⟩
  · have s3 : Same H1 (upd H2 l (.lst [.str "no number", v, .bl true])) := s2.trans (Same.new' hl)
    exact k _ l s3 ((W.extN e1 t1).same s3) upd_same
  · have s3 : Same H1 (upd H2 l (.lst [.str "not open", v, .bl true])) := s2.trans (Same.new' hl)
    exact k _ l s3 ((W.extN e1 t1).same s3) upd_same
section
variable {P : Program} {w : World} {K : PySem.W.Frag} {mg : Str → Option Value} {base : Heap} {C : Cs}
structure LawTx (mg : Str → Option Value) : Prop where
  range : mg "range" = none
  max : mg "max" = none
  min : mg "min" = none
  len : mg "len" = none
  sorted : mg "sorted" = none
  repr : mg "repr" = none
  isin : mg "isinstance" = none
  int : mg "int" = none
  bool : mg "bool" = none
/-! _law_due -/
def spDue : Sp := fun vs H Q _ => ∃ (D : Addr) (N n : Int) (v : V) (ks : List Int) (tm : Int → Int), vs = [.ref D, .int N, .int n, v] ∧ H D = some (.dK (vKV ks (iv tm))) ∧ Ob H v ∧ ks.length ≤ 100 ∧
  (n ∉ ks → ∀ H' l, Same H H' → H' l = some (.lst [.str "not open", .int n, .bl true]) → Q (.ref l) H') ∧ (n ∈ ks → inB v 0 (N - 1) = false → ∀ H' l, Same H H' → H' l = some (.lst [.str "no number", v, .bl true]) → Q (.ref l) H') ∧
  (n ∈ ks → ∀ m : Nat, v = .int (m : Int) → (m : Int) < N → ∀ H', H' D = some (.dK (vKV (addK ks m) (iv (upF tm m (tm n))))) → (∀ q o, q ≠ D → H q = some o → H' q = some o) → Q v H')
theorem scDue : FnScope ["_law_table", "_law_size", "_law_n", "_law_to"] ["_law_table", "_law_size", "_law_n", "_law_to"] (defScope sDue) := ⟨rfl, rfl, rfl, by decide +kernel, rfl, by decide +kernel, by decide +kernel⟩
theorem okDue {f : Addr} {fd : FuncData} (F : Fun K "_law_due" "_law_due" sDue f fd) (X : LawTx mg) : FnOk P w K mg base CX0 1 f fd ["_law_table", "_law_size", "_law_n", "_law_to"] spDue := by
  refine F.ok scDue (fun vs H Q E h => ?_) (fun cdv A outer s H vs Q E hr h => ?_)
  · obtain ⟨_, _, _, _, _, _, rfl, _⟩ := h
    rfl
  · obtain ⟨D, N, n, v, ks, tm, rfl, hD, ob, kl, k1, k2, k3⟩ := h
    have hu := hu_of hr
    refine ⟨_, pss_cons (ps_if (pt_cmp (pc_dnotin hu (pv 2) (pv 0)) rfl) (pss_one (ps_ret (pe_lst (pa_cons pe_str (pa_cons (pv 2) (pa_cons pe_bl pa_nil)))))) pss_nil)
      (pss_cut (ps_if (PW.pt (pw_or (pt_val (pe_callB call_isi (by rfl) X.isin PyProof.Rows.boot_isinstance (pa_cons (pv 3) (pa_cons (pe_bltn (v := .ty "bool") (by rfl) X.bool (by decide +kernel) rfl) pa_nil)))) (pw_or (pt_not (pt_val (pe_callB call_isi (by rfl) X.isin PyProof.Rows.boot_isinstance (pa_cons (pv 3) (pa_cons (pe_bltn (v := .ty "int") (by rfl) X.int PyProof.Rows.boot_int rfl) pa_nil))))) (pw_or1 (pt_not (pt_chain op_le op_lt pe_int (pv 3) (pv 1)))))))
        (pss_one (ps_ret (pe_lst (pa_cons pe_str (pa_cons (pv 3) (pa_cons pe_bl pa_nil)))))) pss_nil)
      (pss_cons (ps_dput hu (pv 0) (pv 3) (pe_dget hu (pv 0) (pv 2) (fun _ _ => rfl)) rfl) (pss_one (ps_ret (pv 3))))), ?_⟩
    walk_at "wn"
    refine ⟨_, rfl, _, rfl, D, _, rfl, DGet.k (k := Sum.inl n) hD, ?_⟩
    rw [v_val]
    by_cases hn : n ∈ ks
    · rw [if_pos hn]
      refine ⟨_, rfl, ?_⟩
      refine iteF ?_
      refine ⟨fun σ' H' => σ' = [some (.ref D), some (.int N), some (.int n), some v] ∧ H' = H ∧ inB v 0 (N - 1) = true, ?_, ?_⟩
      · have bad : inB v 0 (N - 1) = false → [V.str "no number", v, V.bl true].length ≤ sizeLine ∧ ∀ l, H l = none → Q (.ref l) (upd H l (.lst [.str "no number", v, .bl true])) := fun e => ⟨by show 3 ≤ sizeLine; decide, fun l hl => k2 hn e _ l (Same.new' hl) upd_same⟩
        cases ob with
        | int i =>
          walk_at "wn"
          refine ⟨_, _, _, _, false, rfl, .ty "bool", .base (.int i), kit_ty (by decide +kernel), ?_⟩
          walk_at "wn"
          refine ⟨_, _, _, _, true, rfl, .ty "int", .base (.int i), kit_ty (by decide +kernel), ?_⟩
          walk_at "wn"
          refine ⟨_, rfl, 0, i, rfl, rfl, _, rfl, ?_⟩
          have ie : inB (.int i) 0 (N - 1) = (decide (0 ≤ i) && decide (i ≤ N - 1)) := rfl
          by_cases h0 : 0 ≤ i
          · rw [decide_eq_true h0]
            refine iteT ?_
            refine ⟨_, rfl, i, N, rfl, rfl, _, rfl, ?_⟩
            by_cases h1 : i < N
            · rw [decide_eq_true h1]
              walk_at "wn"
              exact ⟨rfl, rfl, by rw [ie, decide_eq_true h0, decide_eq_true (by omega)]; rfl⟩
            · rw [decide_eq_false h1]
              walk_at "wn"
              exact bad (by rw [ie, decide_eq_false (show ¬ i ≤ N - 1 by omega), Bool.and_false])
          · rw [decide_eq_false h0]
            refine iteF ?_
            refine ⟨_, rfl, ?_⟩
            walk_at "wn"
            exact bad (by rw [ie, decide_eq_false h0, Bool.false_and])
        | bl b =>
          walk_at "wn"
          refine ⟨_, _, _, _, true, rfl, .ty "bool", .base (.bl b), kit_ty (by decide +kernel), ?_⟩
          walk_at "wn"
          exact bad rfl
        | non =>
          walk_at "wn"
          refine ⟨_, _, _, _, false, rfl, .ty "bool", .base .non, kit_ty (by decide +kernel), ?_⟩
          walk_at "wn"
          refine ⟨_, _, _, _, false, rfl, .ty "int", .base .non, kit_ty (by decide +kernel), ?_⟩
          walk_at "wn"
          exact bad rfl
        | str y =>
          walk_at "wn"
          refine ⟨_, _, _, _, false, rfl, .ty "bool", .base (.str y), kit_ty (by decide +kernel), ?_⟩
          walk_at "wn"
          refine ⟨_, _, _, _, false, rfl, .ty "int", .base (.str y), kit_ty (by decide +kernel), ?_⟩
          walk_at "wn"
          exact bad rfl
        | tup a xs ha =>
          walk_at "wn"
          refine ⟨_, _, _, _, false, rfl, .ty "bool", .base (.tup ha), kit_ty (by decide +kernel), ?_⟩
          walk_at "wn"
          refine ⟨_, _, _, _, false, rfl, .ty "int", .base (.tup ha), kit_ty (by decide +kernel), ?_⟩
          walk_at "wn"
          exact bad rfl
        | lst a xs ha =>
          walk_at "wn"
          refine ⟨_, _, _, _, false, rfl, .ty "bool", .base (.lst ha), kit_ty (by decide +kernel), ?_⟩
          walk_at "wn"
          refine ⟨_, _, _, _, false, rfl, .ty "int", .base (.lst ha), kit_ty (by decide +kernel), ?_⟩
          walk_at "wn"
          exact bad rfl
      rintro σ' H' ⟨rfl, rfl, hin⟩
      obtain ⟨m, rfl⟩ : ∃ m : Nat, v = .int (m : Int) := by
        cases v with
        | int i =>
          have e : (decide (0 ≤ i) && decide (i ≤ N - 1)) = true := hin
          rw [Bool.and_eq_true] at e
          exact ⟨i.toNat, congrArg V.int (by have := of_decide_eq_true e.1; omega)⟩
        | _ => cases hin
      have e : (decide ((0 : Int) ≤ (m : Int)) && decide ((m : Int) ≤ N - 1)) = true := hin
      rw [Bool.and_eq_true] at e
      have m1 := of_decide_eq_true e.2
      walk_at "wn"
      refine ⟨_, rfl, _, rfl, D, _, rfl, dget hD hn, ?_⟩
      walk_at "wn"
      refine ⟨D, _, rfl, DPut.k (k := Sum.inl (m : Int)) hD (by rw [v_len, sizeLine_eq]; omega), ?_⟩
      walk_at "wn"
      refine k3 hn m rfl (by omega) _ ?_ fun q o nq h => by rw [upd_ne nq]; exact h
      rw [upd_same, v_put, iv_up]
      rfl
    · rw [if_neg hn]
      refine ⟨_, rfl, ?_⟩
      refine iteT ?_
      walk_at "wn"
      exact ⟨by show 3 ≤ sizeLine; decide, fun l hl => k1 hn _ l (Same.new' hl) upd_same⟩
end

abbrev sShows : Stmt := top 25
theorem pw_ext {α : Type} (f : α → Nat) : ∀ {l1 l2 : List α}, l1.Pairwise (fun a b => f a < f b) → l2.Pairwise (fun a b => f a < f b) → (∀ x, x ∈ l1 ↔ x ∈ l2) → l1 = l2
  | [], [], _, _, _ => rfl
  | [], b :: l2, _, _, h => nomatch (h b).mpr List.mem_cons_self
  | a :: l1, [], _, _, h => nomatch (h a).mp List.mem_cons_self
  | a :: l1, b :: l2, p1, p2, h => by
    obtain ⟨a1, q1⟩ := List.pairwise_cons.mp p1
    obtain ⟨b1, q2⟩ := List.pairwise_cons.mp p2
    have e : a = b := by
      rcases List.mem_cons.mp ((h a).mp List.mem_cons_self) with z | z
      · exact z
      · rcases List.mem_cons.mp ((h b).mpr List.mem_cons_self) with y | y
        · exact y.symm
        · have := a1 b y
          have := b1 a z
          omega
    subst e
    refine congrArg (a :: ·) (pw_ext f q1 q2 fun x => ⟨fun z => ?_, fun z => ?_⟩)
    · rcases List.mem_cons.mp ((h x).mp (List.mem_cons_of_mem _ z)) with y | y
      · have := a1 x z
        rw [y] at this
        omega
      · exact y
    · rcases List.mem_cons.mp ((h x).mpr (List.mem_cons_of_mem _ z)) with y | y
      · have := b1 x z
        rw [y] at this
        omega
      · exact y
theorem nums_mem (S : Sys) : ∀ (l : List (Option Int)) (k i : Nat) (b : Bool), (i, b) ∈ numsOf S k l ↔ ∃ j t, i = k + j ∧ l[j]? = some (some t) ∧ b = decide (t ∈ S.srcs)
  | [], k, i, b => ⟨(fun h => nomatch h), (fun ⟨j, t, _, h, _⟩ => by simp at h)⟩
  | none :: l, k, i, b => by
    show (i, b) ∈ numsOf S (k + 1) l ↔ _
    rw [nums_mem S l]
    refine ⟨fun ⟨j, t, h1, h2, h3⟩ => ⟨j + 1, t, by omega, by simpa using h2, h3⟩, fun ⟨j, t, h1, h2, h3⟩ => ?_⟩
    cases j with
    | zero => simp at h2
    | succ j => exact ⟨j, t, by omega, by simpa using h2, h3⟩
  | some u :: l, k, i, b => by
    show (i, b) ∈ (k, decide (u ∈ S.srcs)) :: numsOf S (k + 1) l ↔ _
    rw [List.mem_cons, nums_mem S l]
    refine ⟨fun h => ?_, fun ⟨j, t, h1, h2, h3⟩ => ?_⟩
    · rcases h with h | ⟨j, t, h1, h2, h3⟩
      · cases h
        exact ⟨0, u, rfl, rfl, rfl⟩
      · exact ⟨j + 1, t, by omega, by simpa using h2, h3⟩
    · cases j with
      | zero =>
        obtain rfl : u = t := by simpa using h2
        exact .inl (by rw [h1, h3]; rfl)
      | succ j => exact .inr ⟨j, t, by omega, by simpa using h2, h3⟩
theorem nums_pw (S : Sys) : ∀ (l : List (Option Int)) (k : Nat), (numsOf S k l).Pairwise (fun a b => a.1 < b.1)
  | [], _ => .nil
  | none :: l, k => nums_pw S l (k + 1)
  | some u :: l, k => List.pairwise_cons.mpr ⟨fun r hr => by
      obtain ⟨i, b⟩ := r
      obtain ⟨j, t, h1, _⟩ := (nums_mem S l (k + 1) i b).mp hr
      show k < i
      omega, nums_pw S l (k + 1)⟩
theorem dp_ints {K : PySem.W.Frag} {H : Hp} : ∀ l : List Int, DpAll K H (l.map V.int) (l.map PyData.int)
  | [] => .nil
  | _ :: l => .cons (.int _) (dp_ints l)
theorem ints_lay : ∀ l : List Int, PyData.canLayAll0 (l.map PyData.int) = true ∧ PyData.depthAll (l.map PyData.int) = 0
  | [] => ⟨rfl, rfl⟩
  | c :: l => by
    obtain ⟨a, b⟩ := ints_lay l
    refine ⟨?_, ?_⟩
    · simp only [List.map_cons, PyData.canLayAll0, a, Bool.and_true, PyData.canLay0]
    · simp only [List.map_cons, PyData.depthAll, b, PyData.depth]
      rfl
theorem ints_shaped (l : List Int) : SeqAt.shaped (.list (l.map PyData.int)) = true := by
  obtain ⟨a, b⟩ := ints_lay l
  unfold SeqAt.shaped
  rw [Bool.and_eq_true]
  refine ⟨by simp only [PyData.canLay0]; exact a, decide_eq_true ?_⟩
  simp only [PyData.depth, b]
  decide
theorem ints_nil (l : List Int) : PyData.eqv (.list (l.map PyData.int)) (.list []) = l.isEmpty := by
  cases l with
  | nil => rfl
  | cons a b => rfl
theorem Fit.nums {S : Sys} {ks : List Int} {th tm : Int → Int} {us : List Int} {un : Int → Int} {turn : Int} (F : Fit S ks th tm us un turn) {ys : List Int} (pm : ys.Perm ks) (pw : ys.Pairwise (· ≤ ·)) : (numsOf S 0 (S.tab 0)).map (fun r => (r.1 : Int)) = ys := by
  have nd : ys.Nodup := pm.nodup_iff.mpr F.nd
  have b0 : ∀ n ∈ ys, 0 ≤ n := fun n h => (F.bd n (pm.mem_iff.mp h)).1
  refine pw_ext Int.toNat ?_ ?_ fun n => ?_
  · rw [List.pairwise_map]
    refine (nums_pw S _ 0).imp fun {a b} h => ?_
    show ((a.1 : Nat) : Int).toNat < ((b.1 : Nat) : Int).toNat
    rw [Int.toNat_natCast, Int.toNat_natCast]
    exact h
  · refine ((pw.and nd).imp_of_mem fun {a b} ha hb h => ?_)
    have := b0 a ha
    have := b0 b hb
    have h1 := h.1
    have h2 : a ≠ b := h.2
    omega
  · rw [List.mem_map]
    refine ⟨fun ⟨r, hr, e⟩ => ?_, fun hn => ?_⟩
    · obtain ⟨i, b⟩ := r
      obtain ⟨j, t, h1, h2, h3⟩ := (nums_mem S _ 0 i b).mp hr
      obtain rfl : i = j := by omega
      rw [← e]
      exact pm.mem_iff.mpr (F.all h2).1
    · have hk := pm.mem_iff.mp hn
      refine ⟨(n.toNat, _), (nums_mem S _ 0 _ _).mpr ⟨n.toNat, th n, by omega, F.on n hk, rfl⟩, ?_⟩
      have := b0 n hn
      show ((n.toNat : Nat) : Int) = n
      omega
theorem paired_at {α β : Type} {R : α → β → Prop} : ∀ {xs : List α} {ys : List β}, Paired R xs ys → ∀ {i : Nat} {x : α}, xs[i]? = some x → ∃ y, ys[i]? = some y ∧ R x y
  | _, _, .nil, i, x, h => by simp at h
  | _, _, .cons r _, 0, x, h => by
    cases h
    exact ⟨_, rfl, r⟩
  | _, _, .cons _ p, i + 1, x, h => paired_at p (by simpa using h)
/-- the law between two turns -/
inductive Doing (C : Cs) (T : List (Addr × Str)) (Hb : Hp) (p x D U : Addr) (N turn : Int) : Hp → Prop
  | mk {H : Hp} {S : Sys} {ad dx : Cell → Addr} {ks : List Int} {th tm : Int → Int} {us : List Int} {un : Int → Int} : LW C T Hb H p x D U S ad dx ks tm us un → Fit S ks th tm us un turn → S.N = N → Doing C T Hb p x D U N turn H
section
variable {P : Program} {w : World} {K : PySem.W.Frag} {mg : Str → Option Value} {base : Heap} {C : Cs}
def spShows (C : Cs) (T : List (Addr × Str)) : Sp := fun vs H Q _ => ∃ (p x D U : Addr) (N turn : Int) (Hb : Hp), vs = [.ref x, .ref D, .ref U] ∧ Doing C T Hb p x D U N turn H ∧ turn ≤ 50 ∧ ∀ H', Doing C T Hb p x D U N turn H' → Q (.bl true) H'
abbrev nShows : List Str := ["_law_box", "_law_table", "_law_units", "_law_n", "_law_m", "_law_kind"]
theorem scShows : FnScope nShows ["_law_box", "_law_table", "_law_units"] (defScope sShows) := ⟨rfl, rfl, rfl, by decide +kernel, rfl, by decide +kernel, by decide +kernel⟩
theorem okShows {f fN fS fU : Addr} {fd fdN fdS fdU : FuncData} {T0 : List (Addr × Str)} (F : Fun K "_law_shows" "_law_shows" sShows f fd) (X : LawTx mg) (T : ClsF K C.S sysF)
    (GN : MO P w K mg base 4 C.S "numbers" ["self", "process"] (spNumbers C) fN fdN) (GS : ME P w K mg base 5 C.S "same" ["self", "process", "number", "other", "other_number"] (spSame C) fS fdS) (GU : MO P w K mg base 6 C.S "units" ["self", "process", "number"] (spUnits C) fU fdU) :
    FnOk P w K mg base CX0 7 f fd ["_law_box", "_law_table", "_law_units"] (spShows C T0) := by
  refine F.ok scShows (fun vs H Q E h => ?_) (fun cdv A outer s H vs Q E hr h => ?_)
  · obtain ⟨_, _, _, _, _, _, _, rfl, _⟩ := h
    rfl
  · obtain ⟨p, x, D, U, N, turn, Hb, rfl, d0, ht, k⟩ := h
    have hu := hr.units
    have hu1 := hu_of hr
    have r4 : Room 4 _ := hr.mono (by decide)
    have r5 : Room 5 _ := hr.mono (by decide)
    refine ⟨_, PSs.nox (pss_cut (ps_if (pt_cmpR (op_neD hu) (pe_lc (own := [("_law_n", 3), ("_law_kind", 5)]) (g := gTup K 2 (gCons (gName 3) (gCons (gName 5) gNil))) rfl scShows.nd (pi_list (pe_meth (pv 0) T.cl GN.m GN.g r4 GN.b .nil pass0 (pa_cons pe_int pa_nil))) (blkOk_by (N := nShows) (sc := defScope sShows) (by decide +kernel))
          (fun _ _ _ _ _ => pg_tup rfl (pgs_cons (pg_name (i := 3) scShows.nd rfl (Or.inl rfl)) (pgs_cons (pg_name (i := 5) scShows.nd rfl (Or.inl rfl)) pgs_nil))) (tt := tYes) (fun _ _ _ _ _ => pts_nil) (te := tVar 3) (fun _ _ _ _ _ => pv 3))
          (pe_callB (call_sortedDI rfl) (by rfl) X.sorted (by decide +kernel) (pa_cons (pv 1) pa_nil)) (nomark _)) (pss_one (ps_ret pe_bl)) pss_nil)
      (pss_cut (ps_lock (ps_for PassesOwn.never rfl (pi_keys (pv 1)) (pg_name (i := 3) scShows.nd rfl (Or.inl rfl))
        (pss_cut (ps_if (pt_cmpR (op_neD hu) (pe_meth (pv 0) T.cl GU.m GU.g hr GU.b .nil pass0 (pa_cons pe_int (pa_cons (pv 3) pa_nil))) (pe_tup (pa_cons (pe_dget hu1 (pv 2) (pe_dget hu1 (pv 1) (pv 3) (fun _ _ => rfl)) (fun _ _ => rfl)) (pa_cons pe_bl pa_nil))) (nomark _)) (pss_one (ps_ret pe_bl)) pss_nil)
        (pss_one (ps_for PassesOwn.never rfl (pi_keys (pv 1)) (pg_name (i := 4) scShows.nd rfl (Or.inl rfl))
          (pss_one (ps_if (pt_cmpR op_ne (pe_meth (E := fun _ _ _ => False) (pv 0) T.cl GS.m GS.g r5 GS.b .nil (passX takes0) (pa_cons pe_int (pa_cons (pv 3) (pa_cons pe_int (pa_cons (pv 4) pa_nil)))))
            (pe_cmpR op_eq (pe_dget hu1 (pv 1) (pv 3) (fun _ _ => rfl)) (pe_dget hu1 (pv 1) (pv 4) (fun _ _ => rfl)) (nomark _)) (nomark _)) (pss_one (ps_ret pe_bl)) pss_nil)))))))
      (pss_one (ps_ret pe_bl)))), ?_⟩
    cases d0 with
    | @mk S ad dx ks th tm us un W F eN =>
    have N8 := F.N8
    have N3 := F.N3
    have ln := F.len
    have kl := F.kl
    have nlen := nums_len S (S.tab 0) 0
    refine ⟨fun σ' H1 => σ' = [some (.ref x), some (.ref D), some (.ref U), none, none, none] ∧ Same H H1, ?_, ?_⟩
    · walk_at "wn"
      refine ⟨_, rfl, x, dx .box, _, rfl, W.hb, rfl, ?_⟩
      walk_at "wn"
      refine ⟨0, S, ad, dx, by rw [W.box]; rfl, W.at_, F.p0, by omega, fun H1 r rs h1 s1 h3 h4 => ?_⟩
      refine ⟨r, rfl, ⟨_, SqL.of h3⟩, fun D2 hD2 => ?_⟩
      have rl := h4.length
      refine lc_list (K := K) (a := r) (xs := rs) (fun i H' => Same H1 H' ∧ H' D2 = some (.lst (((numsOf S 0 (S.tab 0)).take i).map fun r => V.int (r.1 : Int)))) ⟨Same.new' hD2, upd_same⟩ (fun i H' _ h => SqL.of (h.1 _ _ h3)) ?_ ?_
      · rintro i v H' hv ⟨sm, hd⟩
        obtain ⟨y, ey, T1, rfl, eT⟩ := paired_at h4 hv
        refine ⟨T1, _, rfl, SqT.of (sm _ _ eT), rfl, _, _, rfl, ?_⟩
        walk_at "wn"
        refine ⟨_, _, rfl, ?_⟩
        walk_at "wn"
        refine ⟨rfl, rfl, ?_⟩
        walk_at "wn"
        refine ⟨_, hd, ?_, fun b o e => ?_, ?_⟩
        · rw [List.length_map, List.length_take, sizeLine_eq]
          omega
        · rw [upd_ne (ne_of_none e hD2)]
          exact sm _ _ e
        · rw [upd_same, List.take_add_one, ey, Option.toList_some, List.map_append]
          rfl
      · rintro H' ⟨sm, hd⟩
        rw [rl, List.take_length] at hd
        have s1' := s1.trans sm
        walk_at "wn"
        refine ⟨D, _, ks, rfl, .inl (s1' _ _ W.dict), by unfold vKV; rw [List.map_map]; rfl, by omega, fun ys q pm pw hq => ?_⟩
        have hd2 := (Same.new' (o := .lst (ys.map V.int)) hq) _ _ hd
        have en : (numsOf S 0 (S.tab 0)).map (fun r => V.int (r.1 : Int)) = ys.map V.int := by rw [← F.nums pm pw, List.map_map]; rfl
        rw [en] at hd2
        refine ⟨_, _, .lst (SqL.of hd2) (dp_ints ys), .lst (SqL.of upd_same) (dp_ints ys), ints_shaped ys, ints_shaped ys, ?_⟩
        rw [PySem.SeqAt.eqv_refl _ (SeqAt.canLay_of_shaped (ints_shaped ys))]
        walk_at "wn"
        exact ⟨rfl, s1'.trans (Same.new' hq)⟩
    rintro σ' H4 ⟨rfl, s4⟩
    refine ⟨fun σ' H5 => Same H H5, ?_, fun σ' H5 s5 => ?_⟩
    · refine ⟨D, _, s4 _ _ W.dict, trivial, fun od => ?_⟩
      have off : ∀ {Hx : Hp}, Same (upd H4 D (.frz od (.dK (vKV ks (iv tm))))) Hx → ∀ q o, q ≠ D → H q = some o → Hx q = some o := fun sm q o nq h => sm q o (by rw [upd_ne nq]; exact s4 _ _ h)
      have key : ∀ {m : Nat} {kk : L2.Key} {vv : V}, (vKV ks (iv tm))[m]? = some (kk, vv) → ∃ n : Int, n ∈ ks ∧ kk = Sum.inl n := fun ek => by
        obtain ⟨l, hl, e⟩ := List.mem_map.mp (List.mem_of_getElem? ek)
        exact ⟨l, hl, (congrArg Prod.fst e).symm⟩
      refine ⟨_, rfl, D, od, rfl, .inl ⟨_, upd_same, ?_⟩⟩
      refine for_it walk_keys (fun m σ' H' => ∃ u3 u4, σ' = [some (.ref x), some (.ref D), some (.ref U), u3, u4, none] ∧ Same (upd H4 D (.frz od (.dK (vKV ks (iv tm))))) H') ⟨_, _, rfl, Same.refl _⟩ (fun m σ' H' _ ⟨_, _, _, sm⟩ => sm _ _ upd_same) ?_ ?_
      · rintro m y0 σ' Hd He hm ⟨u3, u4, rfl, sm⟩ ⟨rfl, kk, vv, ek, rfl⟩
        obtain ⟨n, hn, rfl⟩ := key ek
        have bn := F.bd n hn
        have facts : ∀ {Hx : Hp}, Same (upd H4 D (.frz od (.dK (vKV ks (iv tm))))) Hx → At C Hx S ad dx ∧ Hx x = some (sysO C.S (dx .box) S (ad .tabD) (ad .srcD) (ad .setD)) ∧ (∀ j ∈ ks, DGet Hx D (.int j) (some (.int (tm j)))) ∧ Hx U = some (.dK (vKV us (iv un))) := fun {Hx} sm => by
          have Ad : At C Hx S ad dx := ⟨fun c hc => off sm _ _ (fun z => W.nD ⟨c, hc, z⟩) (W.at_.at_ c hc), W.at_.inj⟩
          refine ⟨Ad, by rw [← W.box]; exact Ad.at_ .box trivial, fun j hj => ?_, off sm _ _ (Ne.symm W.DU) W.unit⟩
          have hv : valV (vKV ks (iv tm)) (Sum.inl j) = some (.int (tm j)) := by rw [v_val, if_pos hj]
          exact .inl ⟨_, Sum.inl j, .inr ⟨od, sm _ _ upd_same⟩, rfl, hv.symm⟩
        refine ⟨fun σ' H' => σ' = [some (.ref x), some (.ref D), some (.ref U), some (.int n), u4, none] ∧ Same (upd H4 D (.frz od (.dK (vKV ks (iv tm))))) H', ?_, ?_⟩
        · obtain ⟨Ad, hbd, look, hU⟩ := facts sm
          obtain ⟨hus, hun⟩ := F.uk n hn
          have hsT : He (ad (.srcT (th n))) = some (.tup [.int (un (tm n)), .bl false]) := by
            have e : He (ad (.srcT (th n))) = some (.tup [.int (S.unit (th n)).1, .bl (S.unit (th n)).2]) := Ad.at_ (.srcT (th n)) (F.src n hn)
            rw [hun] at e
            exact e
          walk_at "wn"
          refine ⟨_, rfl, x, dx .box, _, rfl, hbd, rfl, ?_⟩
          walk_at "wn"
          refine ⟨0, n, th n, S, ad, dx, by rw [W.box]; rfl, Ad, F.means hn, by omega, F.src n hn, ?_⟩
          walk_at "wn"
          refine ⟨_, rfl, _, rfl, _, rfl, D, _, rfl, look n hn, ?_⟩
          refine ⟨U, _, rfl, dget hU hus, ?_⟩
          walk_at "wn"
          refine ⟨by show 2 ≤ sizeLine; decide, fun T1 hT1 => ?_⟩
          have s5 := Same.new' (o := .tup [.int (un (tm n)), .bl false]) hT1
          refine ⟨.tuple [.int (un (tm n)), .bool false], .tuple [.int (un (tm n)), .bool false], .tup (SqT.of (s5 _ _ hsT)) (.cons (.int _) (.cons (.bl _) .nil)), .tup (SqT.of upd_same) (.cons (.int _) (.cons (.bl _) .nil)), rfl, rfl, ?_⟩
          rw [PySem.SeqAt.eqv_refl _ (SeqAt.canLay_of_shaped rfl)]
          walk_at "wn"
          exact ⟨rfl, sm.trans s5⟩
        clear sm
        rintro σ' He ⟨rfl, sm⟩
        walk_at "wn"
        refine ⟨_, rfl, D, od, rfl, .inl ⟨_, sm _ _ upd_same, ?_⟩⟩
        refine for_it walk_keys (fun m σ' H' => ∃ u4, σ' = [some (.ref x), some (.ref D), some (.ref U), some (.int n), u4, none] ∧ Same (upd H4 D (.frz od (.dK (vKV ks (iv tm))))) H') ⟨_, rfl, sm⟩ (fun m σ' H' _ ⟨_, _, sm⟩ => sm _ _ upd_same) ?_ ?_
        · clear sm ek hm
          rintro m2 y1 σ' Hd2 He2 hm2 ⟨u5, rfl, sm⟩ ⟨rfl, k2, v2, ek2, rfl⟩
          obtain ⟨m, hm, rfl⟩ := key ek2
          obtain ⟨Ad, hbd, look, hU⟩ := facts sm
          have bm := F.bd m hm
          walk_at "wn"
          refine ⟨_, rfl, x, dx .box, _, rfl, hbd, rfl, ?_⟩
          walk_at "wn"
          refine ⟨0, n, 0, m, th n, th m, S, ad, dx, by rw [W.box]; rfl, Ad, F.means hn, F.means hm, by omega, by omega, ?_⟩
          walk_at "wn"
          refine ⟨_, rfl, _, rfl, D, _, rfl, look n hn, ?_⟩
          refine ⟨_, rfl, _, rfl, D, _, rfl, look m hm, ?_⟩
          refine g_rEq rfl ?_
          have eq : decide (V.int (tm n) = V.int (tm m)) = decide (th n = th m) := by
            by_cases z : th n = th m
            · rw [decide_eq_true z, decide_eq_true (congrArg V.int ((F.same n hn m hm).mpr z))]
            · rw [decide_eq_false z, decide_eq_false (fun y => z ((F.same n hn m hm).mp (V.int.inj y)))]
          rw [eq]
          refine g_rNe rfl ?_
          walk_at "wn"
          exact ⟨_, rfl, sm⟩
        · rintro σ' Hd2 ⟨u5, rfl, sm2⟩
          exact ⟨_, _, rfl, sm2⟩
      · rintro σ' Hd ⟨u3, u4, rfl, sm⟩
        refine ⟨sm _ _ upd_same, fun q o h => ?_⟩
        by_cases z : q = D
        · rw [z, upd_same, ← h, z, W.dict]
        · rw [upd_ne z]
          exact off sm q o z h
    walk_at "wn"
    exact k _ (.mk (W.same s5) F eN)
end

abbrev nLaw : List Str := ["_law_script", "_law_at", "_law_bag_here", "_law_size", "_law_box", "_law_table", "_law_units", "_law_turn", "_law_n", "_law_to", "_law_found"]
theorem scLaw : FnScope nLaw ["_law_script"] (defScope sLaw) := ⟨rfl, rfl, rfl, by decide +kernel, rfl, by decide +kernel, by decide +kernel⟩
abbrev qLaw : Str := "law.<locals>.<lambda>"
theorem flat_data {K : PySem.W.Frag} {H : Hp} {v : V} (f : Flat H v) : ∃ d, okR d = true ∧ d.depth ≤ 10 ∧ wt d ≤ 10000 ∧ ∀ H', Same H H' → Dp K H' v d := by
  have ints0 : ∀ l : List Int, (∀ i ∈ l, i.natAbs.log2 < 1920) → okRA (l.map PyData.int) = true ∧ PyData.depthAll (l.map PyData.int) = 0 ∧ wtA (l.map PyData.int) ≤ 2010 * l.length := fun l h => by
    induction l with
    | nil => exact ⟨rfl, rfl, Nat.le_refl _⟩
    | cons a l ih =>
      obtain ⟨h1, h2, h3⟩ := ih fun i hi => h i (List.mem_cons_of_mem _ hi)
      refine ⟨?_, ?_, ?_⟩
      · simp only [List.map_cons, okRA, okR, h1, Bool.and_true]
        exact decide_eq_true (h a List.mem_cons_self)
      · simp only [List.map_cons, PyData.depthAll, PyData.depth, h2]
        rfl
      · simp only [List.map_cons, wtA, wt, List.length_cons]
        omega
  cases f with
  | non => exact ⟨.none, rfl, by decide, by decide, fun _ _ => .non⟩
  | bl b => exact ⟨.bool b, rfl, by simp [PyData.depth], by simp [wt], fun _ _ => .bl b⟩
  | int i hi => exact ⟨.int i, decide_eq_true hi, by simp [PyData.depth], by simp [wt], fun _ _ => .int i⟩
  | str y h1 h2 => exact ⟨.str y, h2, by simp [PyData.depth], by simp only [wt]; omega, fun _ _ => .str y⟩
  | tup a l h1 h2 h3 =>
    obtain ⟨q1, q2, q3⟩ := ints0 l h2
    exact ⟨.tuple (l.map .int), by simp only [okR]; exact q1, by simp only [PyData.depth]; omega, by simp only [wt]; omega, fun _ s => .tup (SqT.of (s _ _ h3)) (dp_ints l)⟩
  | lst a i l h1 h2 h3 =>
    obtain ⟨q1, q2, q3⟩ := ints0 (i :: l) h2
    refine ⟨.list ((i :: l).map .int), by simp only [okR]; exact q1, by simp only [PyData.depth]; omega, ?_, fun _ s => .lst (SqL.of (s _ _ h3)) (dp_ints (i :: l))⟩
    simp only [List.length_cons] at q3
    simp only [wt]
    omega
theorem err_data {K : PySem.W.Frag} {wd : Str} {v : V} {H : Hp} (f : Flat H v) (hw : okR (.str wd) = true) (hl : wd.length ≤ 20) : ∃ d, okR d = true ∧ d.depth ≤ 40 ∧ wt d ≤ 16777216 ∧ ∀ H' l, Same H H' → H' l = some (.lst [.str wd, v, .bl true]) → Dp K H' (.ref l) d := by
  obtain ⟨d, q1, q2, q3, q4⟩ := flat_data (K := K) f
  refine ⟨.list [.str wd, d, .bool true], ?_, ?_, ?_, fun H' l s h => .lst (SqL.of h) (.cons (.str _) (.cons (q4 H' s) (.cons (.bl true) .nil)))⟩
  · simp only [okR] at hw
    simp only [okR, okRA, Bool.and_true, Bool.and_eq_true]
    exact ⟨hw, q1⟩
  · simp only [PyData.depth, PyData.depthAll]
    omega
  · simp only [wt, wtA]
    omega
theorem Vals.rev {xs : List V} {us : List Value} (r : Vals xs us) : Vals xs.reverse us.reverse := by
  induction r with
  | nil => exact .nil
  | cons a _ ih =>
    rw [List.reverse_cons, List.reverse_cons]
    exact ih.append (.cons a .nil)
theorem Doing.bag {C : Cs} {T : List (Addr × Str)} {Hb H : Hp} {p x D U : Addr} {N turn : Int} (d : Doing C T Hb p x D U N turn H) : BagAt H p := by
  cases d with
  | mk W _ _ => exact W.bag
theorem Doing.draw {C : Cs} {T : List (Addr × Str)} {Hb H H' : Hp} {p x D U : Addr} {N turn : Int} (d : Doing C T Hb p x D U N turn H) (e : ∀ b, b ≠ p → H' b = H b) (bg : BagAt H' p) : Doing C T Hb p x D U N turn H' := by
  cases d with
  | mk W F eN => exact .mk (W.draw e bg) F eN
theorem Doing.same {C : Cs} {T : List (Addr × Str)} {Hb H H' : Hp} {p x D U : Addr} {N turn : Int} (d : Doing C T Hb p x D U N turn H) (s : Same H H') : Doing C T Hb p x D U N turn H' := by
  cases d with
  | mk W F eN => exact .mk (W.same s) F eN
theorem Doing.sq {K : PySem.W.Frag} {C : Cs} {T : List (Addr × Str)} {Hb H : Hp} {p x D U a : Addr} {N turn : Int} {xs : List V} (d : Doing C T Hb p x D U N turn H) (h : SqL K Hb a xs) : SqL K H a xs := by
  cases d with
  | mk W _ _ => exact W.sq h
theorem Doing.tab {C : Cs} {T : List (Addr × Str)} {Hb H : Hp} {p x D U : Addr} {N turn : Int} (d : Doing C T Hb p x D U N turn H) : Tabs T H := by
  cases d with
  | mk W _ _ => exact W.tab
theorem Doing.next {C : Cs} {T : List (Addr × Str)} {Hb H : Hp} {p x D U : Addr} {N turn : Int} (d : Doing C T Hb p x D U N turn H) : Doing C T Hb p x D U N (turn + 1) H := by
  cases d with
  | mk W F eN => exact .mk W F.next eN
/-- behind a copy onto something: what is told, before the law's table follows -/
inductive Found (C : Cs) (T : List (Addr × Str)) (Hb : Hp) (p x D U : Addr) (N turn n : Int) (v : V) : Hp → V → Prop
  | bad {H : Hp} {l : Addr} {S : Sys} {ad dx : Cell → Addr} {ks : List Int} {th tm : Int → Int} {us : List Int} {un : Int → Int} : LW C T Hb H p x D U S ad dx ks tm us un → Fit S ks th tm us un turn → S.N = N → n ∈ ks → inB v 0 (N - 1) = false → H l = some (.lst [.str "no number", v, .bl true]) → Flat H v → Found C T Hb p x D U N turn n v H (.ref l)
  | shut {H : Hp} {l : Addr} {S : Sys} {ad dx : Cell → Addr} {ks : List Int} {th tm : Int → Int} {us : List Int} {un : Int → Int} : LW C T Hb H p x D U S ad dx ks tm us un → Fit S ks th tm us un turn → S.N = N → n ∉ ks → H l = some (.lst [.str "not open", .int n, .bl true]) → Flat H v → Found C T Hb p x D U N turn n v H (.ref l)
  | ok {H : Hp} {m : Nat} {S : Sys} {ad dx : Cell → Addr} {ks : List Int} {th tm : Int → Int} {t : Int} {us : List Int} {un : Int → Int} : LW C T Hb H p x D U S ad dx ks tm us un → Fit S (addK ks m) (upF th m t) (upF tm m (tm n)) us un turn → S.N = N → ks.length ≤ 100 → n ∈ ks → v = .int (m : Int) → (m : Int) < N → N ≤ 8 → Found C T Hb p x D U N turn n v H v
theorem Flat.ext {H H' : Hp} {v : V} (f : Flat H v) (s : ∀ b o, H b = some o → (∀ ps, o ≠ .tbl ps) → H' b = some o) : Flat H' v := by
  cases f with
  | non => exact .non
  | bl b => exact .bl b
  | int i h => exact .int i h
  | str y h h2 => exact .str y h h2
  | tup a l h1 h2 h3 => exact .tup a l h1 h2 (s _ _ h3 fun ps z => by cases z)
  | lst a i l h1 h2 h3 => exact .lst a i l h1 h2 (s _ _ h3 fun ps z => by cases z)
/-- a new source that the law's table does not have yet -/
inductive Made (C : Cs) (T : List (Addr × Str)) (Hb : Hp) (p x D U : Addr) (N turn : Int) (m : Nat) : Hp → Prop
  | mk {H : Hp} {S : Sys} {ad dx : Cell → Addr} {ks : List Int} {th tm : Int → Int} {us : List Int} {un : Int → Int} : LW C T Hb H p x D U (newSource S 0 m) ad dx ks tm us un → Fit S ks th tm us un turn → S.N = N → IsLow ks S.N m → Made C T Hb p x D U N turn m H
/-- the same where the table has it, its k units to arrive -/
inductive Made2 (C : Cs) (T : List (Addr × Str)) (Hb : Hp) (p x D U : Addr) (N turn k : Int) (m : Nat) : Hp → Prop
  | mk {H : Hp} {S : Sys} {ad dx : Cell → Addr} {ks : List Int} {th tm : Int → Int} {us : List Int} {un : Int → Int} : LW C T Hb H p x D U (newSource S 0 m) ad dx (ks ++ [(m : Int)]) (upF tm m turn) (us ++ [turn]) (upF un turn k) → Fit S ks th tm us un turn → S.N = N → IsLow ks S.N m → Made2 C T Hb p x D U N turn k m H
section
variable {P : Program} {w : World} {K : PySem.W.Frag} {mg : Str → Option Value} {base : Heap} {C : Cs}
theorem scFullInit : FnScope ["self", "process"] ["self", "process"] (defScope sFullInit) := ⟨rfl, rfl, rfl, by decide +kernel, rfl, by decide +kernel, by decide +kernel⟩
theorem okFullInit {D fI : Addr} {fdI : FuncData} (F : Fun K "__init__" "Full.__init__" sFullInit fI fdI) (gB : mg "OverflowError" = none) (fB : PySem.W.findCls K (.type "OverflowError") (.type "type") "__init__" = some (.val (.builtin "OverflowError.__init__"))) (T : ErrF K mg "Full" "process" D fI fdI "OverflowError.__new__" (.type "OverflowError" :: .type "ArithmeticError" :: exT)) : FnOk P w K mg base CX0 1 fI fdI ["self", "process"] (spErrInit D "process") := by
  refine F.ok scFullInit (fun vs H Q E h => ?_) (fun cdv A outer s H vs Q E hr h => ?_)
  · obtain ⟨a, n, rfl, _⟩ := h
    rfl
  · obtain ⟨a, n, rfl, fl, ha, k⟩ := h
    refine ⟨_, pss_cons (ps_expr (pe_binit bxOverflow (by rfl) gB fB (pa_cons (pv 0) (pa_cons (pe_joined (.cons pe_str (.cons (pe_fmtO hr (pv 1)) (.cons pe_str .nil)))) pa_nil))))
      (pss_one (ps_osb (f := "process") bxOverflow (pv 0) (pv 1))), ?_⟩
    walk_at "wn"
    show tCons _ _ _ _ _
    walk_at "wn"
    show tJs _ _ _ _ _
    have e5 : (((" has no free number" : String) : Str)).length = 19 := rfl
    have e6 : (((("process " : String) : Str))).length = 8 := rfl
    refine ⟨"process ", rfl, by decide, ?_⟩
    refine ⟨_, rfl, fl, fun m hm => ?_⟩
    refine ⟨m, rfl, ?_, ?_⟩
    · rw [strLen_append, strLen_append, sizeLine_eq, e6]
      show 0 + 8 + _ ≤ _
      omega
    refine ⟨" has no free number", rfl, ?_, ?_⟩
    · rw [strLen_append, strLen_append, strLen_append, sizeLine_eq, e5, e6]
      show 0 + 8 + _ + _ ≤ _
      omega
    refine ⟨a, D, [_], rfl, by show 1 ≤ 1000; decide, T.ox, ha, ?_⟩
    refine ⟨_, rfl, _, rfl, ?_⟩
    exact ⟨a, D, rfl, T.ox, T.noN, ha, fun dx h1 h2 => k dx h1 h2⟩
def spLaw (K : PySem.W.Frag) (Pt : Addr) : Sp := fun vs H Q _ => ∃ (a : Addr) (ns : List Int), vs = [.ref a] ∧ SqL K H a (ns.map V.int) ∧ ns.length ≤ 63 ∧ H Pt = some (.tbl #[]) ∧ ∀ H', Q (.bl true) H'
theorem okLaw {c Pt D1 f1 D2 f2 D3 f fO fB fT fOf fDu fSh fI fN fC fA fL : Addr} {fd fd1 fd2 fdO fdB fdT fdOf fdDu fdSh fdI fdN fdC fdA fdL : FuncData} {g : List Value → List Value → List Value} (F : Fun K "law" "law" sLaw f fd) (hc : fd.code = .ref c) (X : LawTx mg) (T : ClsF K C.S sysF) (R : OutTxt K mg D1 f1 fd1 D2 f2 fd2 fO fdO) (TB : TabB base mg c Pt)
    (GB : DO P w K mg base 1 "_law_bag" ["_law_script", "_law_at"] (spBag K) fB fdB) (GT : DO P w K mg base 1 "_law_take" ["_law_bag_here", "_law_many"] spTake fT fdT) (GO : DO P w K mg base 2 "_law_of" ["_law_bag_here", "_law_some"] (spOf K) fOf fdOf) (GD : DO P w K mg base 1 "_law_due" ["_law_table", "_law_size", "_law_n", "_law_to"] spDue fDu fdDu)
    (GSh : DO P w K mg base 7 "_law_shows" ["_law_box", "_law_table", "_law_units"] (spShows C [(Pt, qLaw)]) fSh fdSh)
    (gS : mg "System" = some (.ref C.S)) (MS : Mk K C.S fI) (GI : FnOk P w K mg base CX0 3 fI fdI ["self", "processes", "numbers"] (spSysInit C)) (kI : KBn K fdI ["self", "processes", "numbers"] 1 ["numbers", "processes"] g (fun vs zs => vs ++ zs.reverse))
    (GN : ME P w K mg base 6 C.S "new_source" ["self", "process"] (spNewSource C D3) fN fdN) (gC : FnOk P w K mg base (L2.CX P w) 5 fC fdC ["self", "process", "number", "to"] (spCopy C D2 D1)) (mC : Meth K C.S "copy" fC) (bC : Binds K fdC ["self", "process", "number", "to"] [])
    (gA : FnOk P w K mg base CX0 6 fA fdA ["self", "process", "number", "many"] (spArrive C)) (mA : Meth K C.S "arrive" fA) (bA : Binds K fdA ["self", "process", "number", "many"] []) (GL : ME P w K mg base 5 C.S "close" ["self", "process", "number"] (spClose C D2) fL fdL) :
    FnG P w K mg base CX0 10 f fd ["_law_script"] (spLaw K Pt) := by
  refine okGC F hc scLaw (fun vs H Q E h => ?_) (fun A outer s H vs Q E hr hg h => ?_)
  · obtain ⟨x, _, rfl, _⟩ := h
    rfl
  · obtain ⟨a, ns, rfl, hS, hl, hP, k⟩ := h
    have hu := hr.units
    have hu1 := hu_of hr
    have hu0 : (A.deeper (envOfC "law" (defScope sLaw) s.heap.objs.size f (.ref c))).units < cLine := by omega
    have r1 : Room 1 _ := hr.mono (by decide)
    have r2 : Room 2 _ := hr.mono (by decide)
    have r4 : Room 4 _ := hr.mono (by decide)
    have r5 : Room 5 _ := hr.mono (by decide)
    have r6 : Room 6 _ := hr.mono (by decide)
    have r7 : Room 7 _ := hr.mono (by decide)
    have hg' : (A.deeper (envOfC "law" (defScope sLaw) s.heap.objs.size f (.ref c))).guards = some [] := hg
    refine ⟨_, PSs.nox (pss_cut (ps_for PassesOwn.never rfl (pi_range1 (by rfl) X.range (pa_cons (pe_callB (cMax2 rfl) (by rfl) X.max (by decide +kernel) (pa_cons pe_int (pa_cons (pe_callB (cMin2 rfl) (by rfl) X.min (by decide +kernel) (pa_cons pe_int (pa_cons (pe_callB cLenQ (by rfl) X.len PySem.boot_len (pa_cons (pv 0) pa_nil)) pa_nil))) pa_nil))) pa_nil)) (pg_name (i := 1) scLaw.nd rfl (Or.inl rfl))
      (pss_cut (ps_set (i := 2) scLaw.nd rfl (Or.inl rfl) (pe_call GB.g r1 (by rfl) GB.m GB.k GB.b .nil pass0 (pa_cons (pv 0) (pa_cons (pv 1) pa_nil))))
      (pss_cut (ps_set (i := 3) scLaw.nd rfl (Or.inl rfl) (pe_op op_add pe_int (pe_call GT.g r1 (by rfl) GT.m GT.k GT.b .nil pass0 (pa_cons (pv 2) (pa_cons pe_int pa_nil)))))
      (pss_cut (ps_asg (pe_tup (pa_cons (pe_makeK0 (ks := ["numbers", "processes"]) MS GI r4 (by rfl) gS kI pass0 (pk_cons (pv 3) (pk_cons pe_int pk_nil))) (pa_cons pe_dnewK (pa_cons pe_dnewK pa_nil)))) (pg_tup rfl (pgs_cons (pg_name (i := 4) scLaw.nd rfl (Or.inr rfl)) (pgs_cons (pg_name (i := 5) scLaw.nd rfl (Or.inl rfl)) (pgs_cons (pg_name (i := 6) scLaw.nd rfl (Or.inl rfl)) pgs_nil)))))
      (pss_one (ps_for PassesOwn.never rfl (pi_range1 (by rfl) X.range (pa_cons pe_int pa_nil)) (pg_name (i := 7) scLaw.nd rfl (Or.inl rfl))
        (pss_cut (ps_if (PW.pt (pw_and (pt_cmpR op_eq (pe_call GT.g r1 (by rfl) GT.m GT.k GT.b .nil pass0 (pa_cons (pv 2) (pa_cons pe_int pa_nil))) pe_int (nomark _)) (pw_and1 (pt_cmpR op_lt (pe_callB call_lenD (by rfl) X.len PySem.boot_len (pa_cons (pv 5) pa_nil)) (pv 3) (nomark _)))))
            (pss_cut (ps_set (i := 8) scLaw.nd rfl (Or.inr rfl) (pe_meth (E := fun _ _ _ => False) (pv 4) T.cl GN.m GN.g r6 GN.b .nil (passX takes0) (pa_cons pe_int pa_nil)))
            (pss_cut (ps_asg (pe_tup (pa_cons (pv 7) (pa_cons (pe_call GT.g r1 (by rfl) GT.m GT.k GT.b .nil pass0 (pa_cons (pv 2) (pa_cons pe_int pa_nil))) pa_nil))) (pg_tup rfl (pgs_cons (pg_sub (pv 5) (pv 8) (set_dict hu1)) (pgs_cons (pg_sub (pv 6) (pv 7) (set_dict hu1)) pgs_nil))))
            (pss_one (ps_if (pt_cmpR op_gt (pe_dget hu1 (pv 6) (pv 7) (fun _ _ => rfl)) pe_int (nomark _)) (pss_one (ps_expr (pe_meth (pv 4) T.cl mA gA r6 bA .nil pass0 (pa_cons pe_int (pa_cons (pv 8) (pa_cons (pe_dget hu1 (pv 6) (pv 7) (fun _ _ => rfl)) pa_nil)))))) pss_nil)))) pss_nil)
        (pss_cut (ps_asg (pe_tup (pa_cons (pe_call GT.g r1 (by rfl) GT.m GT.k GT.b .nil pass0 (pa_cons (pv 2) (pa_cons (pe_op op_add (pv 3) pe_int) pa_nil))) (pa_cons (pe_op op_sub (pe_call GT.g r1 (by rfl) GT.m GT.k GT.b .nil pass0 (pa_cons (pv 2) (pa_cons (pe_op op_add (pv 3) pe_int) pa_nil))) pe_int) pa_nil))) (pg_tup rfl (pgs_cons (pg_name (i := 8) scLaw.nd rfl (Or.inr rfl)) (pgs_cons (pg_name (i := 9) scLaw.nd rfl (Or.inr rfl)) pgs_nil))))
        (pss_cut (ps_set (i := 9) scLaw.nd rfl (Or.inr rfl) (pe_call GO.g r2 (by rfl) GO.m GO.k GO.b .nil pass0 (pa_cons (pv 2) (pa_cons (pe_lst (pa_cons (pv 9) (pa_cons (pv 9) (pa_cons (pv 9) (pa_cons pe_non (pa_cons pe_bl (pa_cons pe_str (pa_cons (pe_tup (pa_cons pe_int pa_nil)) (pa_cons (pe_lst (pa_cons pe_int pa_nil)) (pa_cons (pe_op op_pow pe_int pe_int) pa_nil)))))))))) pa_nil))))
        (pss_cut (ps_if (pt_cmpR oNotN (pv 9) pe_non (nomark _))
            (pss_cut (ps_set (i := 10) scLaw.nd rfl (Or.inl rfl) (pe_out (k := 5) (T := [(Pt, qLaw)]) (t := fun E => tMeth C.S "copy" (spCopy C D2 D1) [] E (tVar 4) (tCons (tC (.int 0)) (tCons (tVar 8) (tCons (tVar 9) tNil)))) R (by rfl) TB rfl (List.mem_singleton.mpr (by rfl)) (fun p hp _ => by rw [List.mem_singleton.mp hp]; rfl) r7 (lamS_by (sc := defScope sLaw) (by decide +kernel)) rfl (fun _ _ _ _ _ => rfl)
              (fun A outer s H E f c' hr2 => by exact pe_meth (pv 4) T.cl mC gC hr2 bC .nil (passX (takes_of rfl rfl rfl rfl)) (pa_cons pe_int (pa_cons (pv 8) (pa_cons (pv 9) pa_nil))))))
            (pss_one (ps_if (pt_cmpR op_ne (pe_callB (cRepr hg' hu) (by rfl) X.repr PyProof.Rows.boot_repr (pa_cons (pv 10) pa_nil)) (pe_callB (cRepr hg' hu) (by rfl) X.repr PyProof.Rows.boot_repr (pa_cons (pe_call GD.g r1 (by rfl) GD.m GD.k GD.b .nil pass0 (pa_cons (pv 5) (pa_cons (pv 3) (pa_cons (pv 8) (pa_cons (pv 9) pa_nil))))) pa_nil)) (nomark _)) (pss_one (ps_ret pe_bl)) pss_nil))) pss_nil)
        (pss_cut (ps_if (PW.pt (pw_and (pt_cmpR op_eq (pe_call GT.g r1 (by rfl) GT.m GT.k GT.b .nil pass0 (pa_cons (pv 2) (pa_cons pe_int pa_nil))) pe_int (nomark _)) (pw_and1 (pt_cmpR (op_neE hu0) (pv 5) pe_dnewK (nomark _)))))
            (pss_cut (ps_set (i := 8) scLaw.nd rfl (Or.inr rfl) (pe_call GO.g r2 (by rfl) GO.m GO.k GO.b .nil pass0 (pa_cons (pv 2) (pa_cons (pe_callB (call_sortedDI rfl) (by rfl) X.sorted (by decide +kernel) (pa_cons (pv 5) pa_nil)) pa_nil))))
            (pss_cons (ps_expr (pe_dpop1 (pv 5) (pv 8) ⟨rfl, rfl, rfl, rfl⟩))
            (pss_one (ps_expr (pe_meth (E := fun _ _ _ => False) (pv 4) T.cl GL.m GL.g r5 GL.b .nil (passX takes0) (pa_cons pe_int (pa_cons (pv 8) pa_nil))))))) pss_nil)
        (pss_one (ps_if (pt_not (pt_val (pe_call GSh.g r7 (by rfl) GSh.m GSh.k GSh.b .nil pass0 (pa_cons (pv 4) (pa_cons (pv 5) (pa_cons (pv 6) pa_nil)))))) (pss_one (ps_ret pe_bl)) pss_nil)))))))))))))
      (pss_one (ps_ret pe_bl))), ?_⟩
    generalize hTT : [(Pt, qLaw)] = TT at GSh
    have tb0 : Tabs TT H := fun x hx => by
      rw [← hTT] at hx
      obtain rfl := List.mem_singleton.mp hx
      exact TabS.nil hP
    refine ⟨fun σ' H' => Tabs TT H', ?_, fun σ' H' _ => ?_⟩
    · walk_at "wn"
      show iRng1 _ _ _ _
      show tCons _ _ _ _ _
      walk_at "wn"
      refine ⟨a, _, rfl, .inl hS, ?_⟩
      walk_at "wn"
      refine ⟨_, rfl, ?_, ?_, ?_⟩
      · split <;> split <;> omega
      · split <;> split <;> omega
      refine for_range (lo := 0) (fun i σ' H' => ∃ u1 u2 u3 u4 u5 u6 u7 u8 u9 u10 : Option V, σ' = [some (.ref a), u1, u2, u3, u4, u5, u6, u7, u8, u9, u10] ∧ SqL K H' a (ns.map V.int) ∧ Tabs TT H') ⟨_, _, _, _, _, _, _, _, _, _, rfl, hS, tb0⟩ ?_ (fun σ' H' ⟨_, _, _, _, _, _, _, _, _, _, _, _, h⟩ => h)
      rintro i σ' Hb hi ⟨u1, u2, u3, u4, u5, u6, u7, u8, u9, u10, rfl, hSb, tbb⟩
      have hi100 : i ≤ 100 := by revert hi; split <;> split <;> omega
      walk_at "wn"
      refine ⟨fun σ' H' => ∃ p : Addr, σ' = [some (.ref a), some (.int (0 + (i : Int))), some (.ref p), u3, u4, u5, u6, u7, u8, u9, u10] ∧ Hb p = none ∧ Same Hb H' ∧ BagAt H' p, ?_, ?_⟩
      · walk_at "wn"
        refine ⟨a, ns, i, by simp, hSb, hl, hi100, fun H1 p n0 s1 b1 => ?_⟩
        walk_at "wn"
        exact ⟨p, rfl, n0, s1, b1⟩
      rintro σ' H1 ⟨p, rfl, n0, s1, b1⟩
      refine ⟨fun σ' H' => ∃ N : Int, σ' = [some (.ref a), some (.int (0 + (i : Int))), some (.ref p), some (.int N), u4, u5, u6, u7, u8, u9, u10] ∧ 3 ≤ N ∧ N ≤ 8 ∧ Same Hb H' ∧ BagAt H' p, ?_, ?_⟩
      · walk_at "wn"
        refine ⟨p, 6, rfl, b1, by decide, by decide, fun kk H2 k0 k1 e2 b2 => ?_⟩
        walk_at "wn"
        exact ⟨_, rfl, by omega, by omega, fun b o h => (e2 b fun z => by rw [z, n0] at h; cases h).trans (s1 b o h), b2⟩
      rintro σ' H2 ⟨N, rfl, N3, N8, s2, b2⟩
      refine ⟨fun σ' H' => ∃ x D U : Addr, σ' = [some (.ref a), some (.int (0 + (i : Int))), some (.ref p), some (.int N), some (.ref x), some (.ref D), some (.ref U), u7, u8, u9, u10] ∧ Doing C TT Hb p x D U N 0 H', ?_, ?_⟩
      · walk_at "wn"
        refine ⟨_, rfl, rfl, rfl, fun x dx0 hx hd nd => ?_⟩
        refine ⟨x, dx0, 2, N, rfl, upd_same, by decide, by decide, N3, N8, fun H3 ad dx hbx A3 k3 n3 => ⟨rfl, ?_⟩⟩
        intro D hD
        intro U hU
        refine ⟨by show 3 ≤ sizeLine; decide, fun Tt hTt => ?_⟩
        walk_at "wn"
        refine ⟨Tt, _, rfl, SqT.of upd_same, rfl, _, _, rfl, ?_⟩
        walk_at "wn"
        refine ⟨_, _, rfl, ?_⟩
        walk_at "wn"
        refine ⟨_, _, rfl, ?_⟩
        walk_at "wn"
        refine ⟨rfl, ?_⟩
        have hx0 : hT Hb x = none := hT_none (Same.frees s2 hx)
        have sH2 : Same H2 H3 := fun b o e => k3 b o (ne_of_none e hx) (by rw [upd_ne (ne_of_none e hx), upd_ne (ne_of_none e hd)]; exact e)
        have sD : Same H3 (upd H3 D (.dK [])) := Same.new' hD
        have sU : Same (upd H3 D (.dK [])) (upd (upd H3 D (.dK [])) U (.dK [])) := Same.new' hU
        have sT := Same.new' (o := .tup [.ref x, .ref D, .ref U]) hTt
        have s3U := sD.trans (sU.trans sT)
        have sAll := sH2.trans s3U
        obtain ⟨b1a, b1b, hp1, hpr⟩ := b2
        have fresh : ∀ b, own (newSys 2 N) ad b → hT Hb b = none ∧ H2 b = none := fun b hb => by
          rcases n3 b hb with z | z
          · rw [z]
            exact ⟨hx0, hx⟩
          · by_cases e : b = x
            · rw [e]
              exact ⟨hx0, hx⟩
            · rw [upd_ne e] at z
              by_cases e2 : b = dx0
              · rw [e2]
                exact ⟨hT_none (Same.frees s2 hd), hd⟩
              · rw [upd_ne e2] at z
                exact ⟨hT_none (Same.frees s2 z), z⟩
        have hU3 : H3 U = none := Same.frees sD hU
        refine ⟨x, D, U, rfl, .mk (S := newSys 2 N) (ad := ad) (dx := dx) (ks := []) (th := fun _ => 0) (tm := fun _ => 0) (us := []) (un := fun _ => 0) ?_ (Fit.start N3 N8) rfl⟩
        refine ⟨A3.same s3U, hbx, tbb.ext fun b o h => sAll _ _ (s2 b o h), ⟨b1a, b1b, sAll _ _ hp1, hpr⟩, (sU.trans sT) _ _ upd_same, sT _ _ upd_same, ne_of_none upd_same hU, fun q o h => sAll _ _ (s2 _ _ (hT_of h).1), fun b hb => (fresh b hb).1, hT_none n0, hT_none (Same.frees s2 (Same.frees sH2 hD)), hT_none (Same.frees s2 (Same.frees sH2 hU3)), fun z => ?_, A3.not_own hD, A3.not_own hU3⟩
        rw [(fresh p z).2] at hp1
        cases hp1
      rintro σ' H3 ⟨x, D, U, rfl, d3⟩
      show iRng1 _ _ _ _
      show tCons _ _ _ _ _
      walk_at "wn"
      refine ⟨_, rfl, by decide, by decide, ?_⟩
      refine for_range (lo := 0) (fun j σ' H' => ∃ u7 u8 u9 u10, σ' = [some (.ref a), some (.int (0 + (i : Int))), some (.ref p), some (.int N), some (.ref x), some (.ref D), some (.ref U), u7, u8, u9, u10] ∧ Doing C TT Hb p x D U N (j : Int) H') ⟨_, _, _, _, rfl, d3⟩ ?_ (fun σ' H5 ⟨_, _, _, _, e, d⟩ => ⟨_, _, _, _, _, _, _, _, _, _, e, d.sq hSb, d.tab⟩)
      rintro j σ' H5 hj ⟨u7, u8, u9, u10, rfl, d5⟩
      have hj30 : j < 30 := hj
      walk_at "wn"
      refine ⟨fun σ' H' => ∃ u8, σ' = [some (.ref a), some (.int (0 + (i : Int))), some (.ref p), some (.int N), some (.ref x), some (.ref D), some (.ref U), some (.int (0 + (j : Int))), u8, u9, u10] ∧ Doing C TT Hb p x D U N ((j + 1 : Nat) : Int) H', ?_, ?_⟩
      · walk_at "wn"
        refine ⟨p, 5, rfl, d5.bag, by decide, by decide, fun kk H6 k0 k1 e6 b6 => ?_⟩
        have d6 := d5.draw e6 b6
        walk_at "wn"
        refine ite2 (fun c0 => ?_) (fun c0 => ?_)
        · cases d6 with
          | @mk S ad dx ks th tm us un W F eN =>
          walk_at "wn"
          refine ⟨D, _, rfl, W.dict, ?_⟩
          rw [v_len]
          walk_at "wn"
          refine ite2 (fun c1 => ?_) (fun c1 => ?_)
          · have hlt : (ks.length : Int) < N := of_decide_eq_true c1
            refine ⟨fun σ' H' => ∃ m : Nat, σ' = [some (.ref a), some (.int (0 + (i : Int))), some (.ref p), some (.int N), some (.ref x), some (.ref D), some (.ref U), some (.int (0 + (j : Int))), some (.int (m : Int)), u9, u10] ∧ Made C TT Hb p x D U N (j : Int) m H', ?_, ?_⟩
            · walk_at "wn"
              refine ⟨_, rfl, x, dx .box, _, rfl, W.hb, rfl, ?_⟩
              walk_at "wn"
              refine ⟨0, S, ad, dx, by rw [W.box]; rfl, W.at_, F.p0, by decide, by decide, by have := F.len8; omega, by have := F.l1; omega, fun z => absurd (F.nx _ z) (Int.lt_irrefl _), fun m hf H7 ad7 A7 st7 => ?_, fun hful => (F.notFull (by rw [eN]; exact hlt) hful).elim⟩
              walk_at "wn"
              exact ⟨m, rfl, .mk (W.step A7 st7) F eN (F.first hf)⟩
            clear W F eN c1 hlt
            rintro σ' H7 ⟨m, rfl, M⟩
            refine ⟨fun σ' H' => ∃ k : Int, σ' = [some (.ref a), some (.int (0 + (i : Int))), some (.ref p), some (.int N), some (.ref x), some (.ref D), some (.ref U), some (.int (0 + (j : Int))), some (.int (m : Int)), u9, u10] ∧ 0 ≤ k ∧ k < 4 ∧ Made2 C TT Hb p x D U N (j : Int) k m H', ?_, ?_⟩
            · cases M with
              | @mk S ad dx ks th tm us un W F eN lo =>
              walk_at "wn"
              refine ⟨p, 4, rfl, W.bag, by decide, by decide, fun k H8 k0 k1 e8 b8 => ?_⟩
              have W8 := W.draw e8 b8
              walk_at "wn"
              refine ⟨by show 2 ≤ sizeLine; decide, fun Tt hTt => ?_⟩
              have W9 := W8.same (Same.new' (o := .tup [.int (0 + (j : Int)), .int k]) hTt)
              walk_at "wn"
              refine ⟨Tt, _, rfl, SqT.of upd_same, rfl, _, _, rfl, ?_⟩
              have kl := F.kl
              have uz := F.uz
              walk_at "wn"
              refine ⟨D, _, rfl, DPut.k (k := Sum.inl (m : Int)) W9.dict (by rw [v_len, sizeLine_eq]; omega), ?_⟩
              have Wa : LW C TT Hb (upd (upd H8 Tt (.tup [.int (0 + (j : Int)), .int k])) D (.dK (putK (vKV ks (iv tm)) (Sum.inl (m : Int)) (.int (0 + (j : Int)))))) p x D U (newSource S 0 m) ad dx (ks ++ [(m : Int)]) (upF tm m (j : Int)) us un := W9.putD (by rw [upd_same, v_put, if_neg lo.2.1, iv_up, Int.zero_add]) fun q o nq h => by rw [upd_ne nq]; exact h
              refine ⟨_, _, rfl, ?_⟩
              walk_at "wn"
              refine ⟨U, _, rfl, DPut.k (k := Sum.inl (0 + (j : Int))) Wa.unit (by rw [v_len, sizeLine_eq]; omega), ?_⟩
              refine ⟨rfl, ?_⟩
              have nu : (j : Int) ∉ us := fun z => absurd (F.ul _ z) (Int.lt_irrefl _)
              exact ⟨k, rfl, k0, k1, .mk (Wa.putU (by rw [upd_same, Int.zero_add, v_put, if_neg nu, iv_up]) fun q o nq h => by rw [upd_ne nq]; exact h) F eN lo⟩
            clear M
            rintro σ' H8 ⟨k, rfl, k0, k4, M⟩
            cases M with
            | @mk S ad dx ks th tm us un W F eN lo =>
            have hj : (j : Int) ∈ us ++ [(j : Int)] := List.mem_append_right _ (List.mem_singleton.mpr rfl)
            have look : DGet H8 U (.int (0 + (j : Int))) (some (.int k)) := by
              have e := dget W.unit hj
              rw [upF_at] at e
              rw [Int.zero_add]
              exact e
            have e3 : (newSource S 0 m).tab 0 = (S.tab 0).set m (some S.next) := by
              show (if (0 : Int) = 0 then (S.tab 0).set m (some S.next) else S.tab 0) = _
              rw [if_pos rfl]
            have nn : ∀ t, t ≠ S.next → (newSource S 0 m).unit t = S.unit t := fun t h => if_neg h
            have n0 : (newSource S 0 m).unit S.next = (0, false) := if_pos rfl
            walk_at "wn"
            refine ⟨_, rfl, _, rfl, U, _, rfl, look, ?_⟩
            walk_at "wn"
            refine ite2 (fun c2 => ?_) (fun c2 => ?_)
            · have c3 : k > 0 := of_decide_eq_true c2
              walk_at "wn"
              refine ⟨_, rfl, x, dx .box, _, rfl, W.hb, rfl, ?_⟩
              walk_at "wn"
              refine ⟨_, rfl, _, rfl, U, _, rfl, look, ?_⟩
              have lo1 := lo.1
              have ln := F.len
              have l1 := F.l1
              refine ⟨0, (m : Int), S.next, k, newSource S 0 m, ad, dx, by rw [W.box]; rfl, W.at_, ⟨F.p0, by omega, by show (m : Int) ≤ S.N - 1; omega, by rw [Int.toNat_natCast, e3, set_at, if_pos ⟨rfl, by omega⟩]⟩, List.mem_append_right _ (List.mem_singleton.mpr rfl), by have := F.N8; omega, by omega, by omega, ?_, F.sets, by rw [n0], fun H9 ad9 A9 st9 => ?_⟩
              · show (S.srcs ++ [S.next]).length ≤ 900
                rw [List.length_append]
                show S.srcs.length + 1 ≤ 900
                omega
              walk_at "wn"
              refine ⟨_, rfl, .mk (W.step A9 st9) (F.new lo rfl rfl e3 rfl rfl rfl ?_ fun t h => ?_) eN⟩
              · show (if S.next = S.next then (((newSource S 0 m).unit S.next).1 + k, false) else _) = _
                rw [if_pos rfl, n0, Int.zero_add]
              · show (if t = S.next then (((newSource S 0 m).unit S.next).1 + k, false) else (newSource S 0 m).unit t) = _
                rw [if_neg h]
                exact nn t h
            · have c3 : k = 0 := by
                have : ¬ k > 0 := fun z => c2 (decide_eq_true z)
                omega
              walk_at "wn"
              exact ⟨_, rfl, .mk W (F.new lo rfl rfl e3 rfl rfl rfl (by rw [n0, c3]) nn) eN⟩
          · walk_at "wn"
            exact ⟨_, rfl, .mk W F.next eN⟩
        · walk_at "wn"
          exact ⟨_, rfl, d6.next⟩
      clear d5
      rintro σ' H6 ⟨u8, rfl, d6⟩
      refine ⟨fun σ' H' => ∃ n t : Int, σ' = [some (.ref a), some (.int (0 + (i : Int))), some (.ref p), some (.int N), some (.ref x), some (.ref D), some (.ref U), some (.int (0 + (j : Int))), some (.int n), some (.int t), u10] ∧ 0 ≤ n ∧ n ≤ N ∧ -1 ≤ t ∧ t ≤ N ∧ Doing C TT Hb p x D U N ((j + 1 : Nat) : Int) H', ?_, ?_⟩
      · walk_at "wn"
        refine ⟨p, N + 1, rfl, d6.bag, by omega, by omega, fun n H7 n0 n1 e7 b7 => ?_⟩
        have d7 := d6.draw e7 b7
        walk_at "wn"
        refine ⟨p, N + 2, rfl, d7.bag, by omega, by omega, fun t H8 t0 t1 e8 b8 => ?_⟩
        have d8 := d7.draw e8 b8
        walk_at "wn"
        refine ⟨by show 2 ≤ sizeLine; decide, fun tp htp => ?_⟩
        have d9 := d8.same (Same.new' (o := .tup [.int n, .int (t - 1)]) htp)
        walk_at "wn"
        refine ⟨tp, _, rfl, SqT.of upd_same, rfl, _, _, rfl, ?_⟩
        walk_at "wn"
        refine ⟨_, _, rfl, ?_⟩
        walk_at "wn"
        refine ⟨rfl, ?_⟩
        exact ⟨n, t - 1, rfl, n0, by omega, by omega, by omega, d9⟩
      clear d6
      rintro σ' H7 ⟨n, t, rfl, n0, n1, t0, t1, d7⟩
      refine ⟨fun σ' H' => ∃ v, σ' = [some (.ref a), some (.int (0 + (i : Int))), some (.ref p), some (.int N), some (.ref x), some (.ref D), some (.ref U), some (.int (0 + (j : Int))), some (.int n), some v, u10] ∧ Flat H' v ∧ Doing C TT Hb p x D U N ((j + 1 : Nat) : Int) H', ?_, ?_⟩
      · walk_at "wn"
        refine ⟨by show 1 ≤ sizeLine; decide, fun T1 hT1 => ?_⟩
        have s1 := Same.new' (o := .tup [.int 1]) hT1
        walk_at "wn"
        refine ⟨by show 1 ≤ sizeLine; decide, fun L1 hL1 => ?_⟩
        have s2' := Same.new' (o := .lst [.int 0]) hL1
        walk_at "wn"
        refine g_rI ⟨by decide, by decide, by decide⟩ ?_
        walk_at "wn"
        refine ⟨by show 9 ≤ sizeLine; decide, fun Ls hLs => ?_⟩
        have s3' := Same.new' (o := .lst [.int t, .int t, .int t, .non, .bl true, .str "1", .ref T1, .ref L1, .int 10000000000000000000]) hLs
        have d7b := ((d7.same s1).same s2').same s3'
        walk_at "wn"
        obtain ⟨bg, hbg⟩ := d7b.bag.lst
        refine ⟨p, Ls, _, rfl, d7b.bag, SqL.of upd_same, fun z => ?_, by show 0 < 9; decide, by show 9 ≤ 1000; decide, fun j v H' hv e b => ?_⟩
        · obtain ⟨_, hp⟩ := ((d7.same s1).same s2').bag.lst
          rw [← z, hLs] at hp
          cases hp
        have nT : T1 ≠ p := fun z => by
          obtain ⟨_, hp⟩ := d7.bag.lst
          rw [← z, hT1] at hp
          cases hp
        have nL : L1 ≠ p := fun z => by
          obtain ⟨_, hp⟩ := (d7.same s1).bag.lst
          rw [← z, hL1] at hp
          cases hp
        have aT := (e _ nT).trans (s3' _ _ (s2' _ _ upd_same))
        have aL := (e _ nL).trans (s3' _ _ upd_same)
        have ft : t.natAbs.log2 < 1920 := by
          rcases (show t = -1 ∨ 0 ≤ t by omega) with z | z
          · rw [z]
            decide +kernel
          · exact (small_int z (by omega)).1
        have fl : Flat H' v := by
          have hm := List.mem_of_getElem? hv
          simp only [List.mem_cons, List.not_mem_nil, or_false] at hm
          rcases hm with z | z | z | z | z | z | z | z | z <;> subst z
          · exact .int _ ft
          · exact .int _ ft
          · exact .int _ ft
          · exact .non
          · exact .bl true
          · exact .str _ (by decide) (by decide +kernel)
          · exact .tup _ [1] (by decide) (by decide +kernel) aT
          · exact .lst _ 0 [] (by decide) (by decide +kernel) aL
          · exact .int _ (by decide +kernel)
        walk_at "wn"
        exact ⟨v, rfl, fl, d7b.draw e b⟩
      clear d7
      rintro σ' H8 ⟨v, rfl, fl, d8⟩
      refine ⟨fun σ' H' => ∃ u10, σ' = [some (.ref a), some (.int (0 + (i : Int))), some (.ref p), some (.int N), some (.ref x), some (.ref D), some (.ref U), some (.int (0 + (j : Int))), some (.int n), some v, u10] ∧ Doing C TT Hb p x D U N ((j + 1 : Nat) : Int) H', ?_, ?_⟩
      · by_cases hv : v = .non
        · subst hv
          walk_at "wn"
          exact ⟨_, rfl, d8⟩
        have env : (!decide (v = .non)) = true := by rw [decide_eq_false hv]; rfl
        walk_at "wn"
        rw [env]
        refine iteT ?_
        refine ⟨fun σ' H' => ∃ vf, σ' = [some (.ref a), some (.int (0 + (i : Int))), some (.ref p), some (.int N), some (.ref x), some (.ref D), some (.ref U), some (.int (0 + (j : Int))), some (.int n), some v, some vf] ∧ Found C TT Hb p x D U N ((j + 1 : Nat) : Int) n v H' vf, ?_, ?_⟩
        · cases d8 with
          | @mk S ad dx ks th tm us un W F eN =>
          have box : ∀ {rest rest2 : List V} {H1 : Hp} {kk}, OnSys C (.ref x :: rest) H1 rest2 kk → ∃ dx1 S1 t1 s1 v1, H1 x = some (sysO C.S dx1 S1 t1 s1 v1) := fun {rest} {rest2} {H1} {kk} ⟨S1, ad1, dx1, e, A1, _⟩ => by
            cases e
            exact ⟨_, _, _, _, _, A1.at_ .box trivial⟩
          walk_at "wn"
          refine out_any (sp := spCopy C D2 D1) (vs := [.ref x, .int 0, .int n, v]) W (fun E H1 k h => ?_) (fun Hc E Wc ec kb ks' => ?_)
          · obtain ⟨dx1, S1, t1, s1, v1, hb1⟩ := box h.choose_spec.choose_spec.choose_spec.choose_spec
            walk_at "wn"
            refine ⟨_, rfl, x, dx1, _, rfl, hb1, rfl, ?_⟩
            walk_at "wn"
            exact h
          have flc := fl.ext ec
          have ln := F.len
          by_cases hn : n ∈ ks
          · refine ⟨0, n, some (th n), v, S, ad, dx, by rw [Wc.box], Wc.at_, (F.means hn).opn, by omega, by rw [F.procs]; decide, F.sets, fun q u e => ?_, ln, by omega, flc, hv, (fun z => nomatch z), fun t e hin => kb v fun Hd l sd Wd hd => ?_, fun t m y e ev hy Hd Ad std => ?_⟩
            · obtain ⟨h1, h2⟩ := F.all e
              rw [← h2]
              exact F.src _ h1
            · walk_at "wn"
              exact ⟨_, rfl, .bad Wd F eN hn (by rw [← eN]; exact hin) hd (flc.same sd)⟩
            · cases e
              subst ev
              have hm : m < (S.tab 0).length := (List.getElem?_eq_some_iff.mp hy).1
              obtain ⟨F2, eN2⟩ := F.copy hn (m := m) (by have := F.N3; omega) hy
              have kl := F.kl
              walk_at "wn"
              exact ⟨_, rfl, .ok (Wc.step Ad std) F2 (eN2.trans eN) (by omega) hn rfl (by have := F.N3; omega) N8⟩
          · refine ⟨0, n, none, v, S, ad, dx, by rw [Wc.box], Wc.at_, F.shut hn n0, by omega, by rw [F.procs]; decide, F.sets, fun q u e => ?_, ln, by omega, flc, hv, fun _ => ks' (.int n) fun Hd l sd Wd hd => ?_, (fun t e => nomatch e), (fun t m y e => nomatch e)⟩
            · obtain ⟨h1, h2⟩ := F.all e
              rw [← h2]
              exact F.src _ h1
            · walk_at "wn"
              exact ⟨_, rfl, .shut Wd F eN hn hd (flc.same sd)⟩
        clear d8 fl
        rintro σ' Hc ⟨vf, rfl, fo⟩
        have small : ∀ z : Int, 0 ≤ z → z ≤ 100 → z.natAbs.log2 < 1920 := fun z h0 h1 => (small_int h0 (by omega)).1
        cases fo with
        | @bad l S ad dx ks th tm us un W F eN hn hin hl fl =>
          obtain ⟨d, o1, o2, o3, o4⟩ := err_data (K := K) (wd := "no number") fl (by decide +kernel) (by decide)
          have kl := F.kl
          walk_at "wn"
          refine ⟨_, d, rfl, o4 _ _ (Same.refl _) hl, o1, o2, o3, ?_⟩
          walk_at "wn"
          refine ⟨D, N, n, v, ks, tm, rfl, W.dict, fl.ob, by omega, fun z => absurd hn z, fun _ _ Hd l2 s2 h2 => ?_, fun _ m e hm => ?_⟩
          · walk_at "wn"
            refine ⟨_, d, rfl, o4 _ _ s2 h2, o1, o2, o3, ?_⟩
            walk_at "wn"
            exact ⟨_, rfl, .mk (W.same s2) F eN⟩
          · rw [e] at hin
            have e2 : (decide ((0 : Int) ≤ (m : Int)) && decide ((m : Int) ≤ N - 1)) = false := hin
            rw [decide_eq_true (by omega), decide_eq_true (by omega)] at e2
            cases e2
        | @shut l S ad dx ks th tm us un W F eN hn hl fl =>
          obtain ⟨d, o1, o2, o3, o4⟩ := err_data (K := K) (H := Hc) (v := .int n) (wd := "not open") (.int n (small n n0 (by omega))) (by decide +kernel) (by decide)
          have kl := F.kl
          walk_at "wn"
          refine ⟨_, d, rfl, o4 _ _ (Same.refl _) hl, o1, o2, o3, ?_⟩
          walk_at "wn"
          refine ⟨D, N, n, v, ks, tm, rfl, W.dict, fl.ob, by omega, fun _ Hd l2 s2 h2 => ?_, fun z => absurd z hn, fun z => absurd z hn⟩
          walk_at "wn"
          refine ⟨_, d, rfl, o4 _ _ s2 h2, o1, o2, o3, ?_⟩
          walk_at "wn"
          exact ⟨_, rfl, .mk (W.same s2) F eN⟩
        | @ok m S ad dx ks th tm tt us un W F eN kl hn ev hm n8 =>
          subst ev
          have sm := small (m : Int) (by omega) (by omega)
          walk_at "wn"
          refine ⟨_, .int (m : Int), rfl, .int _, decide_eq_true sm, by simp [PyData.depth], by simp [wt], ?_⟩
          walk_at "wn"
          refine ⟨D, N, n, .int (m : Int), ks, tm, rfl, W.dict, .int _, kl, fun z => absurd hn z, fun _ e => ?_, fun _ m' e hm' Hd h2 k2 => ?_⟩
          · have e2 : (decide ((0 : Int) ≤ (m : Int)) && decide ((m : Int) ≤ N - 1)) = false := e
            rw [decide_eq_true (by omega), decide_eq_true (by omega)] at e2
            cases e2
          · obtain rfl : m' = m := by have := V.int.inj e; omega
            walk_at "wn"
            refine ⟨_, .int (m' : Int), rfl, .int _, decide_eq_true sm, by simp [PyData.depth], by simp [wt], ?_⟩
            walk_at "wn"
            exact ⟨_, rfl, .mk (W.putD h2 k2) F eN⟩
      clear d8 fl
      rintro σ' H9 ⟨u10, rfl, d9⟩
      refine ⟨fun σ' H' => ∃ u8, σ' = [some (.ref a), some (.int (0 + (i : Int))), some (.ref p), some (.int N), some (.ref x), some (.ref D), some (.ref U), some (.int (0 + (j : Int))), u8, some v, u10] ∧ Doing C TT Hb p x D U N ((j + 1 : Nat) : Int) H', ?_, ?_⟩
      · walk_at "wn"
        refine ⟨p, 6, rfl, d9.bag, by decide, by decide, fun kk Ha k0 k1 ea ba => ?_⟩
        have da := d9.draw ea ba
        walk_at "wn"
        refine ite2 (fun c0 => ?_) (fun c0 => ?_)
        · cases da with
          | @mk S ad dx ks th tm us un W F eN =>
          have kl := F.kl
          walk_at "wn"
          intro e0 he0
          have W1 := W.same (Same.new' (o := .dK []) he0)
          refine ⟨D, e0, _, rfl, rfl, W1.dict, upd_same, ?_⟩
          walk_at "wn"
          by_cases h0 : ks = []
          · rw [h0]
            refine iteF ?_
            exact ⟨_, rfl, .mk W1 F eN⟩
          have ne : (!(vKV ks (iv tm)).isEmpty) = true := by
            cases ks with
            | nil => exact absurd rfl h0
            | cons _ _ => rfl
          rw [ne]
          refine iteT ?_
          refine ⟨fun σ' H' => ∃ n : Int, σ' = [some (.ref a), some (.int (0 + (i : Int))), some (.ref p), some (.int N), some (.ref x), some (.ref D), some (.ref U), some (.int (0 + (j : Int))), some (.int n), some v, u10] ∧ n ∈ ks ∧ LW C TT Hb H' p x D U S ad dx ks tm us un, ?_, ?_⟩
          · walk_at "wn"
            refine ⟨D, _, ks, rfl, .inl W1.dict, by unfold vKV; rw [List.map_map]; rfl, by omega, fun ys q pm pw hq => ?_⟩
            have W2 := W1.same (Same.new' (o := .lst (ys.map V.int)) hq)
            have ly : ys.length = ks.length := pm.length_eq
            refine ⟨p, q, ys.map V.int, rfl, W2.bag, SqL.of upd_same, fun z => ?_, by rw [List.length_map, ly]; exact List.length_pos_iff.mpr h0, by rw [List.length_map]; omega, fun m y H2 hv e2 b2 => ?_⟩
            · obtain ⟨_, hp⟩ := W1.bag.lst
              rw [← z, hq] at hp
              cases hp
            rw [List.getElem?_map] at hv
            cases ey : ys[m]? with
            | none => rw [ey] at hv; cases hv
            | some n =>
              rw [ey] at hv
              cases hv
              walk_at "wn"
              exact ⟨n, rfl, pm.mem_iff.mp (List.mem_of_getElem? ey), W2.draw e2 b2⟩
          rintro σ' Hc ⟨n, rfl, hn, W2⟩
          walk_at "wn"
          refine ⟨_, rfl, D, rfl, .inl ⟨_, .inl W2.dict⟩, ?_⟩
          walk_at "wn"
          refine ⟨_, Sum.inl n, .int (tm n), W2.dict, rfl, by rw [v_val, if_pos hn], ?_⟩
          rw [v_drop]
          have W3 := W2.putD (H' := upd Hc D (.dK (vKV (without n ks) (iv tm)))) (ks' := without n ks) (tm' := tm) upd_same fun q o nq h => by rw [upd_ne nq]; exact h
          walk_at "wn"
          refine ⟨_, rfl, x, dx .box, _, rfl, W3.hb, rfl, ?_⟩
          walk_at "wn"
          refine ⟨0, n, some (th n), S, ad, dx, by rw [W3.box]; rfl, W3.at_, (F.means hn).opn, by have := F.N8; have := (F.bd n hn).2; omega, by rw [F.procs]; decide, (fun z => nomatch z), fun t e => ?_⟩
          cases e
          refine ⟨F.sets, F.src n hn, fun Hd A st => ?_⟩
          walk_at "wn"
          exact ⟨_, rfl, .mk (W3.step A st) (F.close hn).1 ((F.close hn).2.trans eN)⟩
        · walk_at "wn"
          exact ⟨_, rfl, da⟩
      clear d9
      rintro σ' Ha ⟨u8, rfl, da⟩
      walk_at "wn"
      refine ⟨p, x, D, U, N, _, Hb, rfl, da, by omega, fun Hc dc => ?_⟩
      walk_at "wn"
      exact ⟨_, _, _, _, rfl, dc⟩
    · walk_at "wn"
      exact k _
end

theorem Ln0 {α : Type} : ∀ {us : List α}, us.length = 0 → us = []
  | [], _ => rfl
theorem Ln1 {α : Type} : ∀ {us : List α}, us.length = 1 → ∃ a0, us = [a0]
  | [a0], _ => ⟨_, rfl⟩
theorem Ln2 {α : Type} : ∀ {us : List α}, us.length = 2 → ∃ a0 a1, us = [a0, a1]
  | [a0, a1], _ => ⟨_, _, rfl⟩
theorem Ln3 {α : Type} : ∀ {us : List α}, us.length = 3 → ∃ a0 a1 a2, us = [a0, a1, a2]
  | [a0, a1, a2], _ => ⟨_, _, _, rfl⟩
theorem Ln4 {α : Type} : ∀ {us : List α}, us.length = 4 → ∃ a0 a1 a2 a3, us = [a0, a1, a2, a3]
  | [a0, a1, a2, a3], _ => ⟨_, _, _, _, rfl⟩
theorem Ln5 {α : Type} : ∀ {us : List α}, us.length = 5 → ∃ a0 a1 a2 a3 a4, us = [a0, a1, a2, a3, a4]
  | [a0, a1, a2, a3, a4], _ => ⟨_, _, _, _, _, rfl⟩
theorem Ln6 {α : Type} : ∀ {us : List α}, us.length = 6 → ∃ a0 a1 a2 a3 a4 a5, us = [a0, a1, a2, a3, a4, a5]
  | [a0, a1, a2, a3, a4, a5], _ => ⟨_, _, _, _, _, _, rfl⟩
theorem Ln7 {α : Type} : ∀ {us : List α}, us.length = 7 → ∃ a0 a1 a2 a3 a4 a5 a6, us = [a0, a1, a2, a3, a4, a5, a6]
  | [a0, a1, a2, a3, a4, a5, a6], _ => ⟨_, _, _, _, _, _, _, rfl⟩
theorem isct {K : PySem.W.Frag} {h : Heap} {c P : Addr} (X : K.In h) (e : PySem.W.codeHdIn K c P = true) : isCodeTable h P := by
  obtain ⟨o, vs, _, _, _, _, _, _, _, e1, e2, e3, e4, _⟩ := PySem.W.codeHd_of_K X e
  exact ⟨c, o, vs, e1, e2, e3, e4⟩
theorem all_mk {P : Program} {w : World} {K : PySem.W.Frag} {h : Heap} {mg : Str → Option Value} {fa Pt : Addr} (X : K.In h) (G : h.Ns mainGlobals mg) (hfa : mg "law" = some (.ref fa))
    {CS : Addr}
    {COp NOp : Addr} {nmOp qOp : Str} {bsOp subOp : List Value} {snOp : List Str} {abOp : Bool} {colOp : Option Bool} {ddOp : Option Addr} {maOp mbOp mcOp mdOp meOp : Option Value}
    {CNu NNu : Addr} {nmNu qNu : Str} {bsNu subNu : List Value} {snNu : List Str} {abNu : Bool} {colNu : Option Bool} {ddNu : Option Addr} {maNu mbNu mcNu mdNu meNu : Option Value}
    {CFu NFu : Addr} {nmFu qFu : Str} {bsFu subFu : List Value} {snFu : List Str} {abFu : Bool} {colFu : Option Bool} {ddFu : Option Addr} {maFu mbFu mcFu mdFu meFu : Option Value}
    {f_int : Addr} {oc_int dc_int pm_int ct_int cd_int : Value} {od_int an_int : Option Addr} {sl_int : Array (Option Value)}
    {kV_int : Value}
    {f_bet : Addr} {oc_bet dc_bet pm_bet ct_bet cd_bet : Value} {od_bet an_bet : Option Addr} {sl_bet : Array (Option Value)}
    {kV_bet : Value}
    {f_cnt : Addr} {oc_cnt dc_cnt pm_cnt ct_cnt cd_cnt : Value} {od_cnt an_cnt : Option Addr} {sl_cnt : Array (Option Value)}
    {kV_cnt : Value}
    {f_bag : Addr} {oc_bag dc_bag pm_bag ct_bag cd_bag : Value} {od_bag an_bag : Option Addr} {sl_bag : Array (Option Value)}
    {kV_bag : Value}
    {f_take : Addr} {oc_take dc_take pm_take ct_take cd_take : Value} {od_take an_take : Option Addr} {sl_take : Array (Option Value)}
    {kV_take : Value}
    {f_of : Addr} {oc_of dc_of pm_of ct_of cd_of : Value} {od_of an_of : Option Addr} {sl_of : Array (Option Value)}
    {kV_of : Value}
    {f_out : Addr} {oc_out dc_out pm_out ct_out cd_out : Value} {od_out an_out : Option Addr} {sl_out : Array (Option Value)}
    {kV_out : Value}
    {f_due : Addr} {oc_due dc_due pm_due ct_due cd_due : Value} {od_due an_due : Option Addr} {sl_due : Array (Option Value)}
    {kV_due : Value}
    {f_shw : Addr} {oc_shw dc_shw pm_shw ct_shw cd_shw : Value} {od_shw an_shw : Option Addr} {sl_shw : Array (Option Value)}
    {kV_shw : Value}
    {f_law : Addr} {oc_law dc_law pm_law ct_law : Value} {od_law an_law : Option Addr} {sl_law : Array (Option Value)}
    {c_law : Addr}
    {kV_law : Value}
    {f_xop : Addr} {oc_xop dc_xop pm_xop ct_xop cd_xop : Value} {od_xop an_xop : Option Addr} {sl_xop : Array (Option Value)}
    {kV_xop : Value}
    {f_xnu : Addr} {oc_xnu dc_xnu pm_xnu ct_xnu cd_xnu : Value} {od_xnu an_xnu : Option Addr} {sl_xnu : Array (Option Value)}
    {kV_xnu : Value}
    {f_xfu : Addr} {oc_xfu dc_xfu pm_xfu ct_xfu cd_xfu : Value} {od_xfu an_xfu : Option Addr} {sl_xfu : Array (Option Value)}
    {kV_xfu : Value}
    {f_si : Addr} {oc_si dc_si pm_si ct_si cd_si : Value} {od_si an_si : Option Addr} {sl_si : Array (Option Value)}
    {D_si : Addr}
    {tw_si0 : Tok}
    {tw_si1 : Tok}
    {f_con : Addr} {oc_con dc_con pm_con ct_con cd_con : Value} {od_con an_con : Option Addr} {sl_con : Array (Option Value)}
    {kV_con : Value}
    {f_tof : Addr} {oc_tof dc_tof pm_tof ct_tof cd_tof : Value} {od_tof an_tof : Option Addr} {sl_tof : Array (Option Value)}
    {kV_tof : Value}
    {f_itn : Addr} {oc_itn dc_itn pm_itn ct_itn cd_itn : Value} {od_itn an_itn : Option Addr} {sl_itn : Array (Option Value)}
    {kV_itn : Value}
    {f_tha : Addr} {oc_tha dc_tha pm_tha ct_tha cd_tha : Value} {od_tha an_tha : Option Addr} {sl_tha : Array (Option Value)}
    {kV_tha : Value}
    {f_frn : Addr} {oc_frn dc_frn pm_frn ct_frn cd_frn : Value} {od_frn an_frn : Option Addr} {sl_frn : Array (Option Value)}
    {kV_frn : Value}
    {f_nth : Addr} {oc_nth dc_nth pm_nth ct_nth cd_nth : Value} {od_nth an_nth : Option Addr} {sl_nth : Array (Option Value)}
    {kV_nth : Value}
    {f_nso : Addr} {oc_nso dc_nso pm_nso ct_nso cd_nso : Value} {od_nso an_nso : Option Addr} {sl_nso : Array (Option Value)}
    {kV_nso : Value}
    {f_etg : Addr} {oc_etg dc_etg pm_etg ct_etg cd_etg : Value} {od_etg an_etg : Option Addr} {sl_etg : Array (Option Value)}
    {kV_etg : Value}
    {f_fre : Addr} {oc_fre dc_fre pm_fre ct_fre cd_fre : Value} {od_fre an_fre : Option Addr} {sl_fre : Array (Option Value)}
    {kV_fre : Value}
    {f_clo : Addr} {oc_clo dc_clo pm_clo ct_clo cd_clo : Value} {od_clo an_clo : Option Addr} {sl_clo : Array (Option Value)}
    {kV_clo : Value}
    {f_cpy : Addr} {oc_cpy dc_cpy pm_cpy ct_cpy cd_cpy : Value} {od_cpy an_cpy : Option Addr} {sl_cpy : Array (Option Value)}
    {T_cpy : Addr} {dd_cpy : Option Addr} {nd_cpy : Nat} {sd_cpy : Array (Option Value)}
    {kV_cpy : Value}
    {f_sat : Addr} {oc_sat dc_sat pm_sat ct_sat cd_sat : Value} {od_sat an_sat : Option Addr} {sl_sat : Array (Option Value)}
    {kV_sat : Value}
    {f_unf : Addr} {oc_unf dc_unf pm_unf ct_unf cd_unf : Value} {od_unf an_unf : Option Addr} {sl_unf : Array (Option Value)}
    {kV_unf : Value}
    {f_nty : Addr} {oc_nty dc_nty pm_nty ct_nty cd_nty : Value} {od_nty an_nty : Option Addr} {sl_nty : Array (Option Value)}
    {kV_nty : Value}
    {f_ari : Addr} {oc_ari dc_ari pm_ari ct_ari cd_ari : Value} {od_ari an_ari : Option Addr} {sl_ari : Array (Option Value)}
    {T_ari : Addr} {dd_ari : Option Addr} {nd_ari : Nat} {sd_ari : Array (Option Value)}
    {tv_ari0 : Tok}
    {kV_ari : Value}
    {f_uni : Addr} {oc_uni dc_uni pm_uni ct_uni cd_uni : Value} {od_uni an_uni : Option Addr} {sl_uni : Array (Option Value)}
    {kV_uni : Value}
    {f_num : Addr} {oc_num dc_num pm_num ct_num cd_num : Value} {od_num an_num : Option Addr} {sl_num : Array (Option Value)}
    {kV_num : Value}
    {f_sam : Addr} {oc_sam dc_sam pm_sam ct_sam cd_sam : Value} {od_sam an_sam : Option Addr} {sl_sam : Array (Option Value)}
    {kV_sam : Value}
    {tLP : Tok}
    {tLN : Tok}
    {tMC : Tok}
    {tMP : Tok}
    {tMN : Tok}
    (gCS : PySem.W.nsIn K mainGlobals "System" = some (some (.ref CS)))
    (pgS : PySem.W.plainGet K CS Str.empty = true)
    (hdS : PySem.W.hasDictIn K CS = true)
    (poS : PySem.W.plainOver K CS = true)
    (saS : PySem.W.findIn K (.ref CS) "__setattr__" = some (some (.builtin "object.__setattr__")))
    (mkS : PySem.W.makesIn K CS = true)
    (kcS : PySem.W.keepIn K (.ref CS) = true)
    (noS0 : PySem.W.findIn K (.ref CS) "process_limit" = some none)
    (noS1 : PySem.W.findIn K (.ref CS) "number_limit" = some none)
    (noS2 : PySem.W.findIn K (.ref CS) "tables" = some none)
    (noS3 : PySem.W.findIn K (.ref CS) "sources" = some none)
    (noS4 : PySem.W.findIn K (.ref CS) "sets" = some none)
    (noS5 : PySem.W.findIn K (.ref CS) "next_thing" = some none)
    (gCOp : PySem.W.nsIn K mainGlobals "NotOpen" = some (some (.ref COp)))
    (xLOp : K.lookup COp = some (excClassObj nmOp qOp COp NOp bsOp [.type "LookupError", .type "Exception", .type "BaseException", .type "object"] true snOp subOp abOp colOp ddOp maOp mbOp mcOp mdOp meOp "LookupError.__new__"))
    (xsaOp : PySem.W.findIn K (.ref COp) "__setattr__" = some (some (.builtin "object.__setattr__")))
    (xgaOp : PySem.W.findIn K (.ref COp) "__getattribute__" = some (some (.builtin "BaseException.__getattribute__")))
    (xggOp : PySem.W.findIn K (.ref COp) "__getattr__" = some none)
    (xnbOp0 : PySem.W.findIn K (.ref COp) "number" = some none)
    (xvVOp : PySem.W.findCls K (.type "LookupError") (.type "type") "__init__" = some (.val (.builtin "LookupError.__init__")))
    (xkCOp : PySem.W.keepIn K (.ref COp) = true)
    (xeCOp : PySem.W.subIn K (.ref COp) (.type "BaseException") = some true)
    (xtCOp : PySem.W.typeIn K (.ref COp) = some (.type "type"))
    (xhCOp : PySem.W.hasDictIn K COp = true)
    (xteOp : PySem.W.exmOne K (.ref COp) (.ref COp) = some true)
    (xC1Op : PySem.W.findIn K (.ref COp) "__class__" = some (some (.builtin "object.__class__")))
    (xC4Op : PySem.W.mroIn K COp (.type "object") = some true)
    (xC5Op : (PySem.W.clsIn K COp).isSome = true)
    (xkvOp : PySem.W.kitOne K (.ref COp) (.type "LookupError") = some true)
    (xC2 : PySem.W.specialIn K (.builtin "object.__class__") "__get__" = some (some (.builtin "getset_descriptor.__get__")))
    (xC3 : PySem.W.takesIn K (.builtin "object.__class__") = some true)
    (gCNu : PySem.W.nsIn K mainGlobals "NoNumber" = some (some (.ref CNu)))
    (xLNu : K.lookup CNu = some (excClassObj nmNu qNu CNu NNu bsNu [.type "LookupError", .type "Exception", .type "BaseException", .type "object"] true snNu subNu abNu colNu ddNu maNu mbNu mcNu mdNu meNu "LookupError.__new__"))
    (xsaNu : PySem.W.findIn K (.ref CNu) "__setattr__" = some (some (.builtin "object.__setattr__")))
    (xgaNu : PySem.W.findIn K (.ref CNu) "__getattribute__" = some (some (.builtin "BaseException.__getattribute__")))
    (xggNu : PySem.W.findIn K (.ref CNu) "__getattr__" = some none)
    (xnbNu0 : PySem.W.findIn K (.ref CNu) "number" = some none)
    (xvVNu : PySem.W.findCls K (.type "LookupError") (.type "type") "__init__" = some (.val (.builtin "LookupError.__init__")))
    (xkCNu : PySem.W.keepIn K (.ref CNu) = true)
    (xeCNu : PySem.W.subIn K (.ref CNu) (.type "BaseException") = some true)
    (xtCNu : PySem.W.typeIn K (.ref CNu) = some (.type "type"))
    (xhCNu : PySem.W.hasDictIn K CNu = true)
    (xteNu : PySem.W.exmOne K (.ref CNu) (.ref CNu) = some true)
    (xC1Nu : PySem.W.findIn K (.ref CNu) "__class__" = some (some (.builtin "object.__class__")))
    (xC4Nu : PySem.W.mroIn K CNu (.type "object") = some true)
    (xC5Nu : (PySem.W.clsIn K CNu).isSome = true)
    (xkvNu : PySem.W.kitOne K (.ref CNu) (.type "LookupError") = some true)
    (gCFu : PySem.W.nsIn K mainGlobals "Full" = some (some (.ref CFu)))
    (xLFu : K.lookup CFu = some (excClassObj nmFu qFu CFu NFu bsFu [.type "OverflowError", .type "ArithmeticError", .type "Exception", .type "BaseException", .type "object"] true snFu subFu abFu colFu ddFu maFu mbFu mcFu mdFu meFu "OverflowError.__new__"))
    (xsaFu : PySem.W.findIn K (.ref CFu) "__setattr__" = some (some (.builtin "object.__setattr__")))
    (xgaFu : PySem.W.findIn K (.ref CFu) "__getattribute__" = some (some (.builtin "BaseException.__getattribute__")))
    (xggFu : PySem.W.findIn K (.ref CFu) "__getattr__" = some none)
    (xnbFu0 : PySem.W.findIn K (.ref CFu) "process" = some none)
    (xvVFu : PySem.W.findCls K (.type "OverflowError") (.type "type") "__init__" = some (.val (.builtin "OverflowError.__init__")))
    (xkCFu : PySem.W.keepIn K (.ref CFu) = true)
    (xeCFu : PySem.W.subIn K (.ref CFu) (.type "BaseException") = some true)
    (xtCFu : PySem.W.typeIn K (.ref CFu) = some (.type "type"))
    (xhCFu : PySem.W.hasDictIn K CFu = true)
    (xteFu : PySem.W.exmOne K (.ref CFu) (.ref CFu) = some true)
    (xC1Fu : PySem.W.findIn K (.ref CFu) "__class__" = some (some (.builtin "object.__class__")))
    (xC4Fu : PySem.W.mroIn K CFu (.type "object") = some true)
    (xC5Fu : (PySem.W.clsIn K CFu).isSome = true)
    (xkvFu : PySem.W.kitOne K (.ref CFu) (.type "OverflowError") = some true)
    (aint : PySem.W.nsIn K mainGlobals "is_integer" = some (some (.ref f_int)))
    (lint : K.lookup f_int = some ⟨oc_int, od_int, .func (PySem.W.fnOf "is_integer" "is_integer" (defArgs sIsInteger) (defBody sIsInteger) (defScope sIsInteger) .none kV_int dc_int pm_int an_int cd_int ct_int), sl_int⟩)
    (cint : PySem.W.codeIn K cd_int "is_integer" = true)
    (kint : PySem.W.keepIn K (.ref f_int) = true)
    (abet : PySem.W.nsIn K mainGlobals "is_between" = some (some (.ref f_bet)))
    (lbet : K.lookup f_bet = some ⟨oc_bet, od_bet, .func (PySem.W.fnOf "is_between" "is_between" (defArgs sIsBetween) (defBody sIsBetween) (defScope sIsBetween) .none kV_bet dc_bet pm_bet an_bet cd_bet ct_bet), sl_bet⟩)
    (cbet : PySem.W.codeIn K cd_bet "is_between" = true)
    (kbet : PySem.W.keepIn K (.ref f_bet) = true)
    (acnt : PySem.W.nsIn K mainGlobals "is_count" = some (some (.ref f_cnt)))
    (lcnt : K.lookup f_cnt = some ⟨oc_cnt, od_cnt, .func (PySem.W.fnOf "is_count" "is_count" (defArgs sIsCount) (defBody sIsCount) (defScope sIsCount) .none kV_cnt dc_cnt pm_cnt an_cnt cd_cnt ct_cnt), sl_cnt⟩)
    (ccnt : PySem.W.codeIn K cd_cnt "is_count" = true)
    (kcnt : PySem.W.keepIn K (.ref f_cnt) = true)
    (abag : PySem.W.nsIn K mainGlobals "_law_bag" = some (some (.ref f_bag)))
    (lbag : K.lookup f_bag = some ⟨oc_bag, od_bag, .func (PySem.W.fnOf "_law_bag" "_law_bag" (defArgs sBag) (defBody sBag) (defScope sBag) .none kV_bag dc_bag pm_bag an_bag cd_bag ct_bag), sl_bag⟩)
    (cbag : PySem.W.codeIn K cd_bag "_law_bag" = true)
    (kbag : PySem.W.keepIn K (.ref f_bag) = true)
    (atake : PySem.W.nsIn K mainGlobals "_law_take" = some (some (.ref f_take)))
    (ltake : K.lookup f_take = some ⟨oc_take, od_take, .func (PySem.W.fnOf "_law_take" "_law_take" (defArgs sTake) (defBody sTake) (defScope sTake) .none kV_take dc_take pm_take an_take cd_take ct_take), sl_take⟩)
    (ctake : PySem.W.codeIn K cd_take "_law_take" = true)
    (ktake : PySem.W.keepIn K (.ref f_take) = true)
    (aof : PySem.W.nsIn K mainGlobals "_law_of" = some (some (.ref f_of)))
    (lof : K.lookup f_of = some ⟨oc_of, od_of, .func (PySem.W.fnOf "_law_of" "_law_of" (defArgs sOf) (defBody sOf) (defScope sOf) .none kV_of dc_of pm_of an_of cd_of ct_of), sl_of⟩)
    (cof : PySem.W.codeIn K cd_of "_law_of" = true)
    (kof : PySem.W.keepIn K (.ref f_of) = true)
    (aout : PySem.W.nsIn K mainGlobals "_law_outcome" = some (some (.ref f_out)))
    (lout : K.lookup f_out = some ⟨oc_out, od_out, .func (PySem.W.fnOf "_law_outcome" "_law_outcome" (defArgs sOutcome) (defBody sOutcome) (defScope sOutcome) .none kV_out dc_out pm_out an_out cd_out ct_out), sl_out⟩)
    (cout : PySem.W.codeIn K cd_out "_law_outcome" = true)
    (kout : PySem.W.keepIn K (.ref f_out) = true)
    (adue : PySem.W.nsIn K mainGlobals "_law_due" = some (some (.ref f_due)))
    (ldue : K.lookup f_due = some ⟨oc_due, od_due, .func (PySem.W.fnOf "_law_due" "_law_due" (defArgs sDue) (defBody sDue) (defScope sDue) .none kV_due dc_due pm_due an_due cd_due ct_due), sl_due⟩)
    (cdue : PySem.W.codeIn K cd_due "_law_due" = true)
    (kdue : PySem.W.keepIn K (.ref f_due) = true)
    (ashw : PySem.W.nsIn K mainGlobals "_law_shows" = some (some (.ref f_shw)))
    (lshw : K.lookup f_shw = some ⟨oc_shw, od_shw, .func (PySem.W.fnOf "_law_shows" "_law_shows" (defArgs sShows) (defBody sShows) (defScope sShows) .none kV_shw dc_shw pm_shw an_shw cd_shw ct_shw), sl_shw⟩)
    (cshw : PySem.W.codeIn K cd_shw "_law_shows" = true)
    (kshw : PySem.W.keepIn K (.ref f_shw) = true)
    (alaw : PySem.W.nsIn K mainGlobals "law" = some (some (.ref f_law)))
    (llaw : K.lookup f_law = some ⟨oc_law, od_law, .func (PySem.W.fnOf "law" "law" (defArgs sLaw) (defBody sLaw) (defScope sLaw) .none kV_law dc_law pm_law an_law (.ref c_law) ct_law), sl_law⟩)
    (claw : PySem.W.codeIn K (.ref c_law) "law" = true)
    (klaw : PySem.W.keepIn K (.ref f_law) = true)
    (axop : PySem.W.findIn K (.ref COp) "__init__" = some (some (.ref f_xop)))
    (ixop : PySem.W.isFn K (.ref f_xop) = true)
    (lxop : K.lookup f_xop = some ⟨oc_xop, od_xop, .func (PySem.W.fnOf "__init__" "NotOpen.__init__" (defArgs sOpenInit) (defBody sOpenInit) (defScope sOpenInit) .none kV_xop dc_xop pm_xop an_xop cd_xop ct_xop), sl_xop⟩)
    (cxop : PySem.W.codeIn K cd_xop "NotOpen.__init__" = true)
    (kxop : PySem.W.keepIn K (.ref f_xop) = true)
    (axnu : PySem.W.findIn K (.ref CNu) "__init__" = some (some (.ref f_xnu)))
    (ixnu : PySem.W.isFn K (.ref f_xnu) = true)
    (lxnu : K.lookup f_xnu = some ⟨oc_xnu, od_xnu, .func (PySem.W.fnOf "__init__" "NoNumber.__init__" (defArgs sNumInit) (defBody sNumInit) (defScope sNumInit) .none kV_xnu dc_xnu pm_xnu an_xnu cd_xnu ct_xnu), sl_xnu⟩)
    (cxnu : PySem.W.codeIn K cd_xnu "NoNumber.__init__" = true)
    (kxnu : PySem.W.keepIn K (.ref f_xnu) = true)
    (axfu : PySem.W.findIn K (.ref CFu) "__init__" = some (some (.ref f_xfu)))
    (ixfu : PySem.W.isFn K (.ref f_xfu) = true)
    (lxfu : K.lookup f_xfu = some ⟨oc_xfu, od_xfu, .func (PySem.W.fnOf "__init__" "Full.__init__" (defArgs sFullInit) (defBody sFullInit) (defScope sFullInit) .none kV_xfu dc_xfu pm_xfu an_xfu cd_xfu ct_xfu), sl_xfu⟩)
    (cxfu : PySem.W.codeIn K cd_xfu "Full.__init__" = true)
    (kxfu : PySem.W.keepIn K (.ref f_xfu) = true)
    (asi : PySem.W.findIn K (.ref CS) "__init__" = some (some (.ref f_si)))
    (isi : PySem.W.isFn K (.ref f_si) = true)
    (lsi : K.lookup f_si = some ⟨oc_si, od_si, .func (PySem.W.fnOf "__init__" "System.__init__" (defArgs sSysInit) (defBody sSysInit) (defScope sSysInit) .none (.ref D_si) dc_si pm_si an_si cd_si ct_si), sl_si⟩)
    (csi : PySem.W.codeIn K cd_si "System.__init__" = true)
    (ksi : PySem.W.keepIn K (.ref f_si) = true)
    (wsi0 : PySem.W.nsIn K D_si "processes" = some (some (.int 4 tw_si0)))
    (wsi1 : PySem.W.nsIn K D_si "numbers" = some (some (.int 8 tw_si1)))
    (acon : PySem.W.findIn K (.ref CS) "__contains__" = some (some (.ref f_con)))
    (icon : PySem.W.isFn K (.ref f_con) = true)
    (lcon : K.lookup f_con = some ⟨oc_con, od_con, .func (PySem.W.fnOf "__contains__" "System.__contains__" (defArgs sContains) (defBody sContains) (defScope sContains) .none kV_con dc_con pm_con an_con cd_con ct_con), sl_con⟩)
    (ccon : PySem.W.codeIn K cd_con "System.__contains__" = true)
    (kcon : PySem.W.keepIn K (.ref f_con) = true)
    (atof : PySem.W.findIn K (.ref CS) "table_of" = some (some (.ref f_tof)))
    (itof : PySem.W.isFn K (.ref f_tof) = true)
    (ltof : K.lookup f_tof = some ⟨oc_tof, od_tof, .func (PySem.W.fnOf "table_of" "System.table_of" (defArgs sTableOf) (defBody sTableOf) (defScope sTableOf) .none kV_tof dc_tof pm_tof an_tof cd_tof ct_tof), sl_tof⟩)
    (ctof : PySem.W.codeIn K cd_tof "System.table_of" = true)
    (ktof : PySem.W.keepIn K (.ref f_tof) = true)
    (aitn : PySem.W.findIn K (.ref CS) "is_table_number" = some (some (.ref f_itn)))
    (iitn : PySem.W.isFn K (.ref f_itn) = true)
    (litn : K.lookup f_itn = some ⟨oc_itn, od_itn, .func (PySem.W.fnOf "is_table_number" "System.is_table_number" (defArgs sIsTabNum) (defBody sIsTabNum) (defScope sIsTabNum) .none kV_itn dc_itn pm_itn an_itn cd_itn ct_itn), sl_itn⟩)
    (citn : PySem.W.codeIn K cd_itn "System.is_table_number" = true)
    (kitn : PySem.W.keepIn K (.ref f_itn) = true)
    (atha : PySem.W.findIn K (.ref CS) "thing_at" = some (some (.ref f_tha)))
    (itha : PySem.W.isFn K (.ref f_tha) = true)
    (ltha : K.lookup f_tha = some ⟨oc_tha, od_tha, .func (PySem.W.fnOf "thing_at" "System.thing_at" (defArgs sThingAt) (defBody sThingAt) (defScope sThingAt) .none kV_tha dc_tha pm_tha an_tha cd_tha ct_tha), sl_tha⟩)
    (ctha : PySem.W.codeIn K cd_tha "System.thing_at" = true)
    (ktha : PySem.W.keepIn K (.ref f_tha) = true)
    (afrn : PySem.W.findIn K (.ref CS) "free_number" = some (some (.ref f_frn)))
    (ifrn : PySem.W.isFn K (.ref f_frn) = true)
    (lfrn : K.lookup f_frn = some ⟨oc_frn, od_frn, .func (PySem.W.fnOf "free_number" "System.free_number" (defArgs sFreeNum) (defBody sFreeNum) (defScope sFreeNum) .none kV_frn dc_frn pm_frn an_frn cd_frn ct_frn), sl_frn⟩)
    (cfrn : PySem.W.codeIn K cd_frn "System.free_number" = true)
    (kfrn : PySem.W.keepIn K (.ref f_frn) = true)
    (anth : PySem.W.findIn K (.ref CS) "new_thing" = some (some (.ref f_nth)))
    (inth : PySem.W.isFn K (.ref f_nth) = true)
    (lnth : K.lookup f_nth = some ⟨oc_nth, od_nth, .func (PySem.W.fnOf "new_thing" "System.new_thing" (defArgs sNewThing) (defBody sNewThing) (defScope sNewThing) .none kV_nth dc_nth pm_nth an_nth cd_nth ct_nth), sl_nth⟩)
    (cnth : PySem.W.codeIn K cd_nth "System.new_thing" = true)
    (knth : PySem.W.keepIn K (.ref f_nth) = true)
    (anso : PySem.W.findIn K (.ref CS) "new_source" = some (some (.ref f_nso)))
    (inso : PySem.W.isFn K (.ref f_nso) = true)
    (lnso : K.lookup f_nso = some ⟨oc_nso, od_nso, .func (PySem.W.fnOf "new_source" "System.new_source" (defArgs sNewSource) (defBody sNewSource) (defScope sNewSource) .none kV_nso dc_nso pm_nso an_nso cd_nso ct_nso), sl_nso⟩)
    (cnso : PySem.W.codeIn K cd_nso "System.new_source" = true)
    (knso : PySem.W.keepIn K (.ref f_nso) = true)
    (aetg : PySem.W.findIn K (.ref CS) "end_thing" = some (some (.ref f_etg)))
    (ietg : PySem.W.isFn K (.ref f_etg) = true)
    (letg : K.lookup f_etg = some ⟨oc_etg, od_etg, .func (PySem.W.fnOf "end_thing" "System.end_thing" (defArgs sEndThing) (defBody sEndThing) (defScope sEndThing) .none kV_etg dc_etg pm_etg an_etg cd_etg ct_etg), sl_etg⟩)
    (cetg : PySem.W.codeIn K cd_etg "System.end_thing" = true)
    (ketg : PySem.W.keepIn K (.ref f_etg) = true)
    (afre : PySem.W.findIn K (.ref CS) "free" = some (some (.ref f_fre)))
    (ifre : PySem.W.isFn K (.ref f_fre) = true)
    (lfre : K.lookup f_fre = some ⟨oc_fre, od_fre, .func (PySem.W.fnOf "free" "System.free" (defArgs sFree) (defBody sFree) (defScope sFree) .none kV_fre dc_fre pm_fre an_fre cd_fre ct_fre), sl_fre⟩)
    (cfre : PySem.W.codeIn K cd_fre "System.free" = true)
    (kfre : PySem.W.keepIn K (.ref f_fre) = true)
    (aclo : PySem.W.findIn K (.ref CS) "close" = some (some (.ref f_clo)))
    (iclo : PySem.W.isFn K (.ref f_clo) = true)
    (lclo : K.lookup f_clo = some ⟨oc_clo, od_clo, .func (PySem.W.fnOf "close" "System.close" (defArgs sClose) (defBody sClose) (defScope sClose) .none kV_clo dc_clo pm_clo an_clo cd_clo ct_clo), sl_clo⟩)
    (cclo : PySem.W.codeIn K cd_clo "System.close" = true)
    (kclo : PySem.W.keepIn K (.ref f_clo) = true)
    (acpy : PySem.W.findIn K (.ref CS) "copy" = some (some (.ref f_cpy)))
    (icpy : PySem.W.isFn K (.ref f_cpy) = true)
    (lcpy : K.lookup f_cpy = some ⟨oc_cpy, od_cpy, .func (PySem.W.fnOf "copy" "System.copy" (defArgs sCopy) (defBody sCopy) (defScope sCopy) (.ref T_cpy) kV_cpy dc_cpy pm_cpy an_cpy cd_cpy ct_cpy), sl_cpy⟩)
    (ccpy : PySem.W.codeIn K cd_cpy "System.copy" = true)
    (kcpy : PySem.W.keepIn K (.ref f_cpy) = true)
    (Lcpy : K.lookup T_cpy = some ⟨.type "tuple", dd_cpy, .seq #[.none] nd_cpy, sd_cpy⟩)
    (asat : PySem.W.findIn K (.ref CS) "source_at" = some (some (.ref f_sat)))
    (isat : PySem.W.isFn K (.ref f_sat) = true)
    (lsat : K.lookup f_sat = some ⟨oc_sat, od_sat, .func (PySem.W.fnOf "source_at" "System.source_at" (defArgs sSourceAt) (defBody sSourceAt) (defScope sSourceAt) .none kV_sat dc_sat pm_sat an_sat cd_sat ct_sat), sl_sat⟩)
    (csat : PySem.W.codeIn K cd_sat "System.source_at" = true)
    (ksat : PySem.W.keepIn K (.ref f_sat) = true)
    (aunf : PySem.W.findIn K (.ref CS) "unread_of_unfinished" = some (some (.ref f_unf)))
    (iunf : PySem.W.isFn K (.ref f_unf) = true)
    (lunf : K.lookup f_unf = some ⟨oc_unf, od_unf, .func (PySem.W.fnOf "unread_of_unfinished" "System.unread_of_unfinished" (defArgs sUnfinished) (defBody sUnfinished) (defScope sUnfinished) .none kV_unf dc_unf pm_unf an_unf cd_unf ct_unf), sl_unf⟩)
    (cunf : PySem.W.codeIn K cd_unf "System.unread_of_unfinished" = true)
    (kunf : PySem.W.keepIn K (.ref f_unf) = true)
    (anty : PySem.W.findIn K (.ref CS) "notify" = some (some (.ref f_nty)))
    (inty : PySem.W.isFn K (.ref f_nty) = true)
    (lnty : K.lookup f_nty = some ⟨oc_nty, od_nty, .func (PySem.W.fnOf "notify" "System.notify" (defArgs sNotify) (defBody sNotify) (defScope sNotify) .none kV_nty dc_nty pm_nty an_nty cd_nty ct_nty), sl_nty⟩)
    (cnty : PySem.W.codeIn K cd_nty "System.notify" = true)
    (knty : PySem.W.keepIn K (.ref f_nty) = true)
    (aari : PySem.W.findIn K (.ref CS) "arrive" = some (some (.ref f_ari)))
    (iari : PySem.W.isFn K (.ref f_ari) = true)
    (lari : K.lookup f_ari = some ⟨oc_ari, od_ari, .func (PySem.W.fnOf "arrive" "System.arrive" (defArgs sArrive) (defBody sArrive) (defScope sArrive) (.ref T_ari) kV_ari dc_ari pm_ari an_ari cd_ari ct_ari), sl_ari⟩)
    (cari : PySem.W.codeIn K cd_ari "System.arrive" = true)
    (kari : PySem.W.keepIn K (.ref f_ari) = true)
    (Lari : K.lookup T_ari = some ⟨.type "tuple", dd_ari, .seq #[.int 1 tv_ari0] nd_ari, sd_ari⟩)
    (auni : PySem.W.findIn K (.ref CS) "units" = some (some (.ref f_uni)))
    (iuni : PySem.W.isFn K (.ref f_uni) = true)
    (luni : K.lookup f_uni = some ⟨oc_uni, od_uni, .func (PySem.W.fnOf "units" "System.units" (defArgs sUnits) (defBody sUnits) (defScope sUnits) .none kV_uni dc_uni pm_uni an_uni cd_uni ct_uni), sl_uni⟩)
    (cuni : PySem.W.codeIn K cd_uni "System.units" = true)
    (kuni : PySem.W.keepIn K (.ref f_uni) = true)
    (anum : PySem.W.findIn K (.ref CS) "numbers" = some (some (.ref f_num)))
    (inum : PySem.W.isFn K (.ref f_num) = true)
    (lnum : K.lookup f_num = some ⟨oc_num, od_num, .func (PySem.W.fnOf "numbers" "System.numbers" (defArgs sNumbers) (defBody sNumbers) (defScope sNumbers) .none kV_num dc_num pm_num an_num cd_num ct_num), sl_num⟩)
    (cnum : PySem.W.codeIn K cd_num "System.numbers" = true)
    (knum : PySem.W.keepIn K (.ref f_num) = true)
    (asam : PySem.W.findIn K (.ref CS) "same" = some (some (.ref f_sam)))
    (isam : PySem.W.isFn K (.ref f_sam) = true)
    (lsam : K.lookup f_sam = some ⟨oc_sam, od_sam, .func (PySem.W.fnOf "same" "System.same" (defArgs sSame) (defBody sSame) (defScope sSame) .none kV_sam dc_sam pm_sam an_sam cd_sam ct_sam), sl_sam⟩)
    (csam : PySem.W.codeIn K cd_sam "System.same" = true)
    (ksam : PySem.W.keepIn K (.ref f_sam) = true)
    (xtIOp : PySem.W.typeIn K (.ref f_xop) = some (.type "function"))
    (xtINu : PySem.W.typeIn K (.ref f_xnu) = some (.type "function"))
    (xtIFu : PySem.W.typeIn K (.ref f_xfu) = some (.type "function"))
    (xOpNu : PySem.W.exmOne K (.ref COp) (.ref CNu) = some false)
    (z_len : PySem.W.nsIn K mainGlobals "len" = some none)
    (z_enumerate : PySem.W.nsIn K mainGlobals "enumerate" = some none)
    (z_int : PySem.W.nsIn K mainGlobals "int" = some none)
    (z_abs : PySem.W.nsIn K mainGlobals "abs" = some none)
    (z_isinstance : PySem.W.nsIn K mainGlobals "isinstance" = some none)
    (z_bool : PySem.W.nsIn K mainGlobals "bool" = some none)
    (z_list : PySem.W.nsIn K mainGlobals "list" = some none)
    (z_min : PySem.W.nsIn K mainGlobals "min" = some none)
    (z_max : PySem.W.nsIn K mainGlobals "max" = some none)
    (z_range : PySem.W.nsIn K mainGlobals "range" = some none)
    (z_sorted : PySem.W.nsIn K mainGlobals "sorted" = some none)
    (z_repr : PySem.W.nsIn K mainGlobals "repr" = some none)
    (z_any : PySem.W.nsIn K mainGlobals "any" = some none)
    (z_LookupError : PySem.W.nsIn K mainGlobals "LookupError" = some none)
    (z_OverflowError : PySem.W.nsIn K mainGlobals "OverflowError" = some none)
    (gLP : PySem.W.nsIn K mainGlobals "LEAST_PROCESSES" = some (some (.int 2 tLP)))
    (gLN : PySem.W.nsIn K mainGlobals "LEAST_NUMBERS" = some (some (.int 3 tLN)))
    (gMC : PySem.W.nsIn K mainGlobals "MOST_COUNT" = some (some (.int 1000000 tMC)))
    (gMP : PySem.W.findIn K (.ref CS) "MOST_PROCESSES" = some (some (.int 6 tMP)))
    (sMP : PySem.W.specialIn K (.int 6 tMP) "__get__" = some none)
    (gMN : PySem.W.findIn K (.ref CS) "MOST_NUMBERS" = some (some (.int 8 tMN)))
    (sMN : PySem.W.specialIn K (.int 8 tMN) "__get__" = some none)
    (xhdlaw : PySem.W.codeHdIn K c_law Pt = true)
    (xb3 : mainGlobals ≠ Pt) :
    ∃ fd : FuncData, (∀ (s : Shared) (u : Value), BindsTo s fd ⟨[u], []⟩ [("_law_script", u)]) ∧ (∀ base : Heap, K.In base → base.Ns mainGlobals mg → base.BuiltinsAt mg Pt → FnG P w K mg base CX0 10 fa fd ["_law_script"] (spLaw K Pt)) ∧
      ∀ (H : Hp) (a : Addr) (ns : List Int), ns.length ≤ 63 → SqL K H a (ns.map V.int) → H Pt = some (.tbl #[]) → spLaw K Pt [.ref a] H (fun v _ => v = .bl true) fun _ _ _ => False := by
  have e := hfa.symm.trans (PySem.W.mg_of X G alaw)
  cases e
  have Fint := fun_mk (st := sIsInteger) lint cint kint
  have bint := Fint.binds (ps := ["x"]) fun _ _ _ _ _ _ us hl => by
    obtain ⟨_, rfl⟩ := Ln1 hl
    rfl
  have mint := PySem.W.mg_of X G aint
  have Fbet := fun_mk (st := sIsBetween) lbet cbet kbet
  have bbet := Fbet.binds (ps := ["x", "least", "most"]) fun _ _ _ _ _ _ us hl => by
    obtain ⟨_, _, _, rfl⟩ := Ln3 hl
    rfl
  have mbet := PySem.W.mg_of X G abet
  have Fcnt := fun_mk (st := sIsCount) lcnt ccnt kcnt
  have bcnt := Fcnt.binds (ps := ["x"]) fun _ _ _ _ _ _ us hl => by
    obtain ⟨_, rfl⟩ := Ln1 hl
    rfl
  have mcnt := PySem.W.mg_of X G acnt
  have Fbag := fun_mk (st := sBag) lbag cbag kbag
  have bbag := Fbag.binds (ps := ["_law_script", "_law_at"]) fun _ _ _ _ _ _ us hl => by
    obtain ⟨_, _, rfl⟩ := Ln2 hl
    rfl
  have mbag := PySem.W.mg_of X G abag
  have Ftake := fun_mk (st := sTake) ltake ctake ktake
  have btake := Ftake.binds (ps := ["_law_bag_here", "_law_many"]) fun _ _ _ _ _ _ us hl => by
    obtain ⟨_, _, rfl⟩ := Ln2 hl
    rfl
  have mtake := PySem.W.mg_of X G atake
  have Fof := fun_mk (st := sOf) lof cof kof
  have bof := Fof.binds (ps := ["_law_bag_here", "_law_some"]) fun _ _ _ _ _ _ us hl => by
    obtain ⟨_, _, rfl⟩ := Ln2 hl
    rfl
  have mof := PySem.W.mg_of X G aof
  have Fout := fun_mk (st := sOutcome) lout cout kout
  have bout := Fout.binds (ps := ["_law_deed"]) fun _ _ _ _ _ _ us hl => by
    obtain ⟨_, rfl⟩ := Ln1 hl
    rfl
  have mout := PySem.W.mg_of X G aout
  have Fdue := fun_mk (st := sDue) ldue cdue kdue
  have bdue := Fdue.binds (ps := ["_law_table", "_law_size", "_law_n", "_law_to"]) fun _ _ _ _ _ _ us hl => by
    obtain ⟨_, _, _, _, rfl⟩ := Ln4 hl
    rfl
  have mdue := PySem.W.mg_of X G adue
  have Fshw := fun_mk (st := sShows) lshw cshw kshw
  have bshw := Fshw.binds (ps := ["_law_box", "_law_table", "_law_units"]) fun _ _ _ _ _ _ us hl => by
    obtain ⟨_, _, _, rfl⟩ := Ln3 hl
    rfl
  have mshw := PySem.W.mg_of X G ashw
  have Flaw := fun_mk (st := sLaw) llaw claw klaw
  have blaw := Flaw.binds (ps := ["_law_script"]) fun _ _ _ _ _ _ us hl => by
    obtain ⟨_, rfl⟩ := Ln1 hl
    rfl
  have mlaw := PySem.W.mg_of X G alaw
  have Fxop := fun_mk (st := sOpenInit) lxop cxop kxop
  have bxop := Fxop.binds (ps := ["self", "number"]) fun _ _ _ _ _ _ us hl => by
    obtain ⟨_, _, rfl⟩ := Ln2 hl
    rfl
  have Fxnu := fun_mk (st := sNumInit) lxnu cxnu kxnu
  have bxnu := Fxnu.binds (ps := ["self", "number"]) fun _ _ _ _ _ _ us hl => by
    obtain ⟨_, _, rfl⟩ := Ln2 hl
    rfl
  have Fxfu := fun_mk (st := sFullInit) lxfu cxfu kxfu
  have bxfu := Fxfu.binds (ps := ["self", "process"]) fun _ _ _ _ _ _ us hl => by
    obtain ⟨_, _, rfl⟩ := Ln2 hl
    rfl
  have Fsi : FunD K "__init__" "System.__init__" (defArgs sSysInit) (defBody sSysInit) (defScope sSysInit) ([] : List V) ([("processes", V.int 4), ("numbers", V.int 8)] : List (Str × V)) f_si (PySem.W.fnOf "__init__" "System.__init__" (defArgs sSysInit) (defBody sSysInit) (defScope sSysInit) .none (.ref D_si) dc_si pm_si an_si cd_si ct_si) := ⟨⟨_, _, .none, (.ref D_si), _, _, _, _, _, _, rfl, lsi, csi, .inl ⟨rfl, rfl⟩, .inr ⟨D_si, rfl, fun q hq => by
    simp only [List.mem_cons, List.not_mem_nil, or_false] at hq
    rcases hq with rfl | rfl
    · exact ⟨_, wsi0, _, rfl⟩
    · exact ⟨_, wsi1, _, rfl⟩⟩⟩, ksi⟩
  have Fcon := fun_mk (st := sContains) lcon ccon kcon
  have bcon := Fcon.binds (ps := ["self", "x"]) fun _ _ _ _ _ _ us hl => by
    obtain ⟨_, _, rfl⟩ := Ln2 hl
    rfl
  have Ftof := fun_mk (st := sTableOf) ltof ctof ktof
  have btof := Ftof.binds (ps := ["self", "process"]) fun _ _ _ _ _ _ us hl => by
    obtain ⟨_, _, rfl⟩ := Ln2 hl
    rfl
  have Fitn := fun_mk (st := sIsTabNum) litn citn kitn
  have bitn := Fitn.binds (ps := ["self", "number"]) fun _ _ _ _ _ _ us hl => by
    obtain ⟨_, _, rfl⟩ := Ln2 hl
    rfl
  have Ftha := fun_mk (st := sThingAt) ltha ctha ktha
  have btha := Ftha.binds (ps := ["self", "process", "number"]) fun _ _ _ _ _ _ us hl => by
    obtain ⟨_, _, _, rfl⟩ := Ln3 hl
    rfl
  have Ffrn := fun_mk (st := sFreeNum) lfrn cfrn kfrn
  have bfrn := Ffrn.binds (ps := ["self", "process"]) fun _ _ _ _ _ _ us hl => by
    obtain ⟨_, _, rfl⟩ := Ln2 hl
    rfl
  have Fnth := fun_mk (st := sNewThing) lnth cnth knth
  have bnth := Fnth.binds (ps := ["self", "process"]) fun _ _ _ _ _ _ us hl => by
    obtain ⟨_, _, rfl⟩ := Ln2 hl
    rfl
  have Fnso := fun_mk (st := sNewSource) lnso cnso knso
  have bnso := Fnso.binds (ps := ["self", "process"]) fun _ _ _ _ _ _ us hl => by
    obtain ⟨_, _, rfl⟩ := Ln2 hl
    rfl
  have Fetg := fun_mk (st := sEndThing) letg cetg ketg
  have betg := Fetg.binds (ps := ["self", "thing"]) fun _ _ _ _ _ _ us hl => by
    obtain ⟨_, _, rfl⟩ := Ln2 hl
    rfl
  have Ffre := fun_mk (st := sFree) lfre cfre kfre
  have bfre := Ffre.binds (ps := ["self", "process", "number"]) fun _ _ _ _ _ _ us hl => by
    obtain ⟨_, _, _, rfl⟩ := Ln3 hl
    rfl
  have Fclo := fun_mk (st := sClose) lclo cclo kclo
  have bclo := Fclo.binds (ps := ["self", "process", "number"]) fun _ _ _ _ _ _ us hl => by
    obtain ⟨_, _, _, rfl⟩ := Ln3 hl
    rfl
  have Fcpy : FunD K "copy" "System.copy" (defArgs sCopy) (defBody sCopy) (defScope sCopy) ([V.non] : List V) ([] : List (Str × V)) f_cpy (PySem.W.fnOf "copy" "System.copy" (defArgs sCopy) (defBody sCopy) (defScope sCopy) (.ref T_cpy) kV_cpy dc_cpy pm_cpy an_cpy cd_cpy ct_cpy) := ⟨⟨_, _, (.ref T_cpy), kV_cpy, _, _, _, _, _, _, rfl, lcpy, ccpy, .inr ⟨(by intro z; cases z), T_cpy, _, [.none], nd_cpy, rfl, Lcpy, rfl, (.cons rfl .nil)⟩, .inl rfl⟩, kcpy⟩
  obtain ⟨dscpy, vcpy, bcpy⟩ := Fcpy.binds1 (ps := ["self", "process", "number", "to"]) 3 0 (by intro z; cases z) rfl fun _ _ _ _ _ _ _ us its hu hi => by
    obtain ⟨_, _, _, rfl⟩ := Ln3 hu
    obtain ⟨_, rfl⟩ := Ln1 hi
    exact ⟨_, rfl, rfl⟩
  have Bcpy : Binds K (PySem.W.fnOf "copy" "System.copy" (defArgs sCopy) (defBody sCopy) (defScope sCopy) (.ref T_cpy) kV_cpy dc_cpy pm_cpy an_cpy cd_cpy ct_cpy) (["self", "process", "number", "to"] : List Str) [] := by
    obtain ⟨ds, v, b⟩ := Fcpy.binds1 (ps := ["self", "process", "number", "to"]) 4 1 (by intro z; cases z) rfl fun _ _ _ _ _ _ _ us its hu hi => by
      obtain ⟨_, _, _, _, rfl⟩ := Ln4 hu
      obtain ⟨_, rfl⟩ := Ln1 hi
      exact ⟨_, rfl, rfl⟩
    cases v
    exact b
  have Fsat := fun_mk (st := sSourceAt) lsat csat ksat
  have bsat := Fsat.binds (ps := ["self", "process", "number"]) fun _ _ _ _ _ _ us hl => by
    obtain ⟨_, _, _, rfl⟩ := Ln3 hl
    rfl
  have Funf := fun_mk (st := sUnfinished) lunf cunf kunf
  have bunf := Funf.binds (ps := ["self", "source", "number"]) fun _ _ _ _ _ _ us hl => by
    obtain ⟨_, _, _, rfl⟩ := Ln3 hl
    rfl
  have Fnty := fun_mk (st := sNotify) lnty cnty knty
  have bnty := Fnty.binds (ps := ["self", "source"]) fun _ _ _ _ _ _ us hl => by
    obtain ⟨_, _, rfl⟩ := Ln2 hl
    rfl
  have Fari : FunD K "arrive" "System.arrive" (defArgs sArrive) (defBody sArrive) (defScope sArrive) ([V.int 1] : List V) ([] : List (Str × V)) f_ari (PySem.W.fnOf "arrive" "System.arrive" (defArgs sArrive) (defBody sArrive) (defScope sArrive) (.ref T_ari) kV_ari dc_ari pm_ari an_ari cd_ari ct_ari) := ⟨⟨_, _, (.ref T_ari), kV_ari, _, _, _, _, _, _, rfl, lari, cari, .inr ⟨(by intro z; cases z), T_ari, _, [.int 1 tv_ari0], nd_ari, rfl, Lari, rfl, (.cons ⟨_, rfl⟩ .nil)⟩, .inl rfl⟩, kari⟩
  obtain ⟨dsari, vari, bari⟩ := Fari.binds1 (ps := ["self", "process", "number", "many"]) 3 0 (by intro z; cases z) rfl fun _ _ _ _ _ _ _ us its hu hi => by
    obtain ⟨_, _, _, rfl⟩ := Ln3 hu
    obtain ⟨_, rfl⟩ := Ln1 hi
    exact ⟨_, rfl, rfl⟩
  have Bari : Binds K (PySem.W.fnOf "arrive" "System.arrive" (defArgs sArrive) (defBody sArrive) (defScope sArrive) (.ref T_ari) kV_ari dc_ari pm_ari an_ari cd_ari ct_ari) (["self", "process", "number", "many"] : List Str) [] := by
    obtain ⟨ds, v, b⟩ := Fari.binds1 (ps := ["self", "process", "number", "many"]) 4 1 (by intro z; cases z) rfl fun _ _ _ _ _ _ _ us its hu hi => by
      obtain ⟨_, _, _, _, rfl⟩ := Ln4 hu
      obtain ⟨_, rfl⟩ := Ln1 hi
      exact ⟨_, rfl, rfl⟩
    cases v
    exact b
  have Funi := fun_mk (st := sUnits) luni cuni kuni
  have buni := Funi.binds (ps := ["self", "process", "number"]) fun _ _ _ _ _ _ us hl => by
    obtain ⟨_, _, _, rfl⟩ := Ln3 hl
    rfl
  have Fnum := fun_mk (st := sNumbers) lnum cnum knum
  have bnum := Fnum.binds (ps := ["self", "process"]) fun _ _ _ _ _ _ us hl => by
    obtain ⟨_, _, rfl⟩ := Ln2 hl
    rfl
  have Fsam := fun_mk (st := sSame) lsam csam ksam
  have bsam := Fsam.binds (ps := ["self", "process", "number", "other", "other_number"]) fun _ _ _ _ _ _ us hl => by
    obtain ⟨_, _, _, _, _, rfl⟩ := Ln5 hl
    rfl
  obtain ⟨mvkbsi, kbsi⟩ := Fsi.kbinds0 (ps := ["self", "processes", "numbers"]) 1 ["numbers", "processes"] [] (fun us mv ws => us ++ ws.reverse) (by intro z; cases z) (fun q hq => absurd hq List.not_mem_nil) (fun a b c => a.append (Vals.rev c)) fun _ _ _ _ _ _ us mv ws hu hm hw => by
    obtain ⟨_, rfl⟩ := Ln1 hu
    obtain ⟨rfl⟩ := Ln0 hm
    obtain ⟨_, _, rfl⟩ := Ln2 hw
    exact rfl
  have DT : DrawTxt mg := ⟨(PySem.W.mg_none_of X G z_len), (PySem.W.mg_none_of X G z_enumerate), (PySem.W.mg_none_of X G z_int), (PySem.W.mg_none_of X G z_abs)⟩
  have CT : ChkTxt K mg := ⟨(PySem.W.mg_none_of X G z_isinstance), (PySem.W.mg_none_of X G z_int), (PySem.W.mg_none_of X G z_bool)⟩
  have YT : SysTxt mg := ⟨(PySem.W.mg_none_of X G z_enumerate), (PySem.W.mg_none_of X G z_list), (PySem.W.mg_none_of X G z_min)⟩
  have LX : LawTx mg := ⟨(PySem.W.mg_none_of X G z_range), (PySem.W.mg_none_of X G z_max), (PySem.W.mg_none_of X G z_min), (PySem.W.mg_none_of X G z_len), (PySem.W.mg_none_of X G z_sorted), (PySem.W.mg_none_of X G z_repr), (PySem.W.mg_none_of X G z_isinstance), (PySem.W.mg_none_of X G z_int), (PySem.W.mg_none_of X G z_bool)⟩
  have TS : ClsF K CS sysF := ⟨⟨pgS, hdS, poS, saS⟩, fun f hf => by
    simp only [sysF, List.mem_cons, List.not_mem_nil, or_false] at hf
    rcases hf with rfl | rfl | rfl | rfl | rfl | rfl
    · exact noS0
    · exact noS1
    · exact noS2
    · exact noS3
    · exact noS4
    · exact noS5⟩
  have LT : LimTxt K mg CS := ⟨⟨tLP, PySem.W.mg_of X G gLP⟩, ⟨tLN, PySem.W.mg_of X G gLN⟩, ⟨_, gMP, ⟨_, rfl⟩, sMP, by decide⟩, ⟨_, gMN, ⟨_, rfl⟩, sMN, by decide⟩⟩
  have KS : Mk K CS f_si := ⟨mkS, asi, isi, kcS⟩
  have gmS := PySem.W.mg_of X G gCS
  have TO : OpenE K mg COp f_xop _ := { gC := PySem.W.mg_of X G gCOp, ox := ⟨⟨nmOp, qOp, NOp, bsOp, snOp, subOp, abOp, colOp, ddOp, maOp, mbOp, mcOp, mdOp, meOp, xLOp⟩, xsaOp, xeCOp, xtCOp, xkCOp⟩, noN := xnbOp0, iC := axop, tI := xtIOp, bI := bxop, te := xteOp, xf := ⟨xgaOp, xggOp, xeCOp, xhCOp⟩ }
  have TN : NumE K mg CNu f_xnu _ := { gC := PySem.W.mg_of X G gCNu, ox := ⟨⟨nmNu, qNu, NNu, bsNu, snNu, subNu, abNu, colNu, ddNu, maNu, mbNu, mcNu, mdNu, meNu, xLNu⟩, xsaNu, xeCNu, xtCNu, xkCNu⟩, noN := xnbNu0, iC := axnu, tI := xtINu, bI := bxnu, te := xteNu, xf := ⟨xgaNu, xggNu, xeCNu, xhCNu⟩ }
  have TF : FullE K mg CFu f_xfu _ := { gC := PySem.W.mg_of X G gCFu, ox := ⟨⟨nmFu, qFu, NFu, bsFu, snFu, subFu, abFu, colFu, ddFu, maFu, mbFu, mcFu, mdFu, meFu, xLFu⟩, xsaFu, xeCFu, xtCFu, xkCFu⟩, noN := xnbFu0, iC := axfu, tI := xtIFu, bI := bxfu, te := xteFu, xf := ⟨xgaFu, xggFu, xeCFu, xhCFu⟩ }
  have R : OutTxt K mg CNu f_xnu _ COp f_xop _ f_out _ := ⟨Fout, mout, bout, TN, TO, (PySem.W.mg_none_of X G z_LookupError), (PySem.W.mg_none_of X G z_LookupError), (PySem.W.mg_none_of X G z_isinstance), ⟨xgaNu, xggNu, xeCNu, xhCNu, xC1Nu, xC2, xC3, xC4Nu⟩, xC5Nu, xkvNu, ⟨xgaOp, xggOp, xeCOp, xhCOp, xC1Op, xC2, xC3, xC4Op⟩, xC5Op, xkvOp, xOpNu⟩
  refine ⟨PySem.W.fnOf "law" "law" (defArgs sLaw) (defBody sLaw) (defScope sLaw) .none kV_law dc_law pm_law an_law (.ref c_law) ct_law, fun s u => .of_eq rfl, fun base KB _ BM => ?_, fun H a ns hl hS hP => ⟨a, ns, rfl, hS, hl, hP, fun _ => rfl⟩⟩
  have TB : LamX.TabB base mg c_law Pt := ⟨PySem.W.codeHd_of_K KB xhdlaw, BM, xb3⟩
  have Gint := okIsInteger (P := P) (w := w) (K := K) (mg := mg) (base := base) Fint CT
  have Gbet := okIsBetween (P := P) (w := w) (K := K) (mg := mg) (base := base) Fbet Gint kint mint bint
  have Gcnt := okIsCount (P := P) (w := w) (K := K) (mg := mg) (base := base) Fcnt ⟨tMC, PySem.W.mg_of X G gMC⟩ Gbet kbet mbet bbet
  have Gbag := okBag (P := P) (w := w) (K := K) (mg := mg) (base := base) Fbag DT
  have Gtake := okTake (P := P) (w := w) (K := K) (mg := mg) (base := base) Ftake DT
  have Gof := okOf (P := P) (w := w) (K := K) (mg := mg) (base := base) Fof DT Ftake mtake btake
  have Gxop := okOpenInit (P := P) (w := w) (K := K) (mg := mg) (base := base) Fxop (PySem.W.mg_none_of X G z_LookupError) xvVOp TO
  have Gxnu := okNumInit (P := P) (w := w) (K := K) (mg := mg) (base := base) Fxnu (PySem.W.mg_none_of X G z_LookupError) xvVNu TN
  have Gxfu := okFullInit (P := P) (w := w) (K := K) (mg := mg) (base := base) Fxfu (PySem.W.mg_none_of X G z_OverflowError) xvVFu TF
  have Gdue := okDue (P := P) (w := w) (K := K) (mg := mg) (base := base) Fdue LX
  have Gsi := okSysInit (P := P) (w := w) (K := K) (mg := mg) (base := base) (C := ⟨CS, CS⟩) Fsi TS LT ⟨Gbet, kbet, mbet, bbet⟩
  have Gcon := okContains (P := P) (w := w) (K := K) (mg := mg) (base := base) (C := ⟨CS, CS⟩) Fcon TS ⟨Gint, kint, mint, bint⟩
  have Gtof := okTableOf (P := P) (w := w) (K := K) (mg := mg) (base := base) (C := ⟨CS, CS⟩) Ftof TS ⟨Gcon, ⟨acon, icon, kcon⟩, bcon⟩
  have Gitn := okIsTabNum (P := P) (w := w) (K := K) (mg := mg) (base := base) (C := ⟨CS, CS⟩) Fitn TS ⟨Gbet, kbet, mbet, bbet⟩
  have Gtha := okThingAt (P := P) (w := w) (K := K) (mg := mg) (base := base) (C := ⟨CS, CS⟩) Ftha TS TO Gxop ⟨Gtof, ⟨atof, itof, ktof⟩, btof⟩ ⟨Gitn, ⟨aitn, iitn, kitn⟩, bitn⟩
  have Gfrn := okFreeNum (P := P) (w := w) (K := K) (mg := mg) (base := base) (C := ⟨CS, CS⟩) Ffrn YT TS TF Gxfu ⟨Gtof, ⟨atof, itof, ktof⟩, btof⟩
  have Gnth := okNewThing (P := P) (w := w) (K := K) (mg := mg) (base := base) (C := ⟨CS, CS⟩) Fnth TS ⟨Gfrn, ⟨afrn, ifrn, kfrn⟩, bfrn⟩
  have Gnso := okNewSource (P := P) (w := w) (K := K) (mg := mg) (base := base) (C := ⟨CS, CS⟩) Fnso TS ⟨Gnth, ⟨anth, inth, knth⟩, bnth⟩
  have Getg := okEndThing (P := P) (w := w) (K := K) (mg := mg) (base := base) (C := ⟨CS, CS⟩) Fetg TS
  have Gfre := okFree (P := P) (w := w) (K := K) (mg := mg) (base := base) (C := ⟨CS, CS⟩) Ffre (PySem.W.mg_none_of X G z_any) TS ⟨Getg, ⟨aetg, ietg, ketg⟩, betg⟩
  have Gclo := okClose (P := P) (w := w) (K := K) (mg := mg) (base := base) (C := ⟨CS, CS⟩) Fclo TS ⟨Gtha, ⟨atha, itha, ktha⟩, btha⟩ ⟨Gfre, ⟨afre, ifre, kfre⟩, bfre⟩
  have Gcpy := okCopy (P := P) (w := w) (K := K) (mg := mg) (base := base) (C := ⟨CS, CS⟩) Fcpy TS TN Gxnu ⟨Gtha, ⟨atha, itha, ktha⟩, btha⟩ ⟨Gitn, ⟨aitn, iitn, kitn⟩, bitn⟩ ⟨Gfrn, ⟨afrn, ifrn, kfrn⟩, bfrn⟩ ⟨Gfre, ⟨afre, ifre, kfre⟩, bfre⟩
  have Gsat := okSourceAt (P := P) (w := w) (K := K) (mg := mg) (base := base) (C := ⟨CS, CS⟩) Fsat TS ⟨Gtha, ⟨atha, itha, ktha⟩, btha⟩
  have Gunf := okUnfinished (P := P) (w := w) (K := K) (mg := mg) (base := base) (C := ⟨CS, CS⟩) Funf TS
  have Gnty := okNotify (P := P) (w := w) (K := K) (mg := mg) (base := base) (C := ⟨CS, CS⟩) Fnty TS
  have Gari := okArrive (P := P) (w := w) (K := K) (mg := mg) (base := base) (C := ⟨CS, CS⟩) Fari TS ⟨Gsat, ⟨asat, isat, ksat⟩, bsat⟩ ⟨Gunf, ⟨aunf, iunf, kunf⟩, bunf⟩ ⟨Gnty, ⟨anty, inty, knty⟩, bnty⟩ ⟨Gcnt, kcnt, mcnt, bcnt⟩
  have Guni := okUnits (P := P) (w := w) (K := K) (mg := mg) (base := base) (C := ⟨CS, CS⟩) Funi TS ⟨Gsat, ⟨asat, isat, ksat⟩, bsat⟩
  have Gnum := okNumbers (P := P) (w := w) (K := K) (mg := mg) (base := base) (C := ⟨CS, CS⟩) Fnum YT TS ⟨Gtof, ⟨atof, itof, ktof⟩, btof⟩
  have Gsam := okSame (P := P) (w := w) (K := K) (mg := mg) (base := base) (C := ⟨CS, CS⟩) Fsam TS ⟨Gtha, ⟨atha, itha, ktha⟩, btha⟩
  have Gshw := okShows (T0 := [(Pt, qLaw)]) (P := P) (w := w) (K := K) (mg := mg) (base := base) (C := ⟨CS, CS⟩) Fshw LX TS ⟨Gnum, ⟨anum, inum, knum⟩, bnum⟩ ⟨Gsam, ⟨asam, isam, ksam⟩, bsam⟩ ⟨Guni, ⟨auni, iuni, kuni⟩, buni⟩
  exact okLaw (C := ⟨CS, CS⟩) Flaw rfl LX TS R TB ⟨Gbag, kbag, mbag, bbag⟩ ⟨Gtake, ktake, mtake, btake⟩ ⟨Gof, kof, mof, bof⟩ ⟨Gdue, kdue, mdue, bdue⟩ ⟨Gshw, kshw, mshw, bshw⟩ gmS KS Gsi kbsi ⟨Gnso, ⟨anso, inso, knso⟩, bnso⟩ Gcpy ⟨acpy, icpy, kcpy⟩ Bcpy Gari ⟨aari, iari, kari⟩ Bari ⟨Gclo, ⟨aclo, iclo, kclo⟩, bclo⟩

end Wn
open PySem PySem.W PyProof.Rows in
set_option maxRecDepth 100000 in
set_option maxHeartbeats 0 in
theorem PySem.Challenge.cw_waitnumbers_k02_copies_onto_numbers_holds : PySem.Challenge.rw_waitnumbers_k02_copies_onto_numbers.Holds := by
  w_on; o_law; k_head; (case hw => w_witness2)
  k_fill
  refine Wn.walkT (l := PySem.Challenge.rw_waitnumbers_k02_copies_onto_numbers) (n := 63) (k := 10) (x := "_law_script") (Pt := 608) (sp := fun K _ => Wn.spLaw K 608) rfl (by decide) rfl ⟨rfl, by decide, by decide⟩ (fun w h Y => PySem.W.km_in_of Y) (fun w h Y => PySem.W.km_tabs_of Y 608 (List.mem_singleton.mpr rfl)) ?nT ?tT ?F
  case F =>
    intro w mg fa h KX G hmg
    refine' Wn.all_mk (w := w) KX G hmg ?gCS ?pgS ?hdS ?poS ?saS ?mkS ?kcS ?noS0 ?noS1 ?noS2 ?noS3 ?noS4 ?noS5 ?gCOp ?xLOp ?xsaOp ?xgaOp ?xggOp ?xnbOp0 ?xvVOp ?xkCOp ?xeCOp ?xtCOp ?xhCOp ?xteOp ?xC1Op ?xC4Op ?xC5Op ?xkvOp ?xC2 ?xC3 ?gCNu ?xLNu ?xsaNu ?xgaNu ?xggNu ?xnbNu0 ?xvVNu ?xkCNu ?xeCNu ?xtCNu ?xhCNu ?xteNu ?xC1Nu ?xC4Nu ?xC5Nu ?xkvNu ?gCFu ?xLFu ?xsaFu ?xgaFu ?xggFu ?xnbFu0 ?xvVFu ?xkCFu ?xeCFu ?xtCFu ?xhCFu ?xteFu ?xC1Fu ?xC4Fu ?xC5Fu ?xkvFu ?aint ?lint ?cint ?kint ?abet ?lbet ?cbet ?kbet ?acnt ?lcnt ?ccnt ?kcnt ?abag ?lbag ?cbag ?kbag ?atake ?ltake ?ctake ?ktake ?aof ?lof ?cof ?kof ?aout ?lout ?cout ?kout ?adue ?ldue ?cdue ?kdue ?ashw ?lshw ?cshw ?kshw ?alaw ?llaw ?claw ?klaw ?axop ?ixop ?lxop ?cxop ?kxop ?axnu ?ixnu ?lxnu ?cxnu ?kxnu ?axfu ?ixfu ?lxfu ?cxfu ?kxfu ?asi ?isi ?lsi ?csi ?ksi ?wsi0 ?wsi1 ?acon ?icon ?lcon ?ccon ?kcon ?atof ?itof ?ltof ?ctof ?ktof ?aitn ?iitn ?litn ?citn ?kitn ?atha ?itha ?ltha ?ctha ?ktha ?afrn ?ifrn ?lfrn ?cfrn ?kfrn ?anth ?inth ?lnth ?cnth ?knth ?anso ?inso ?lnso ?cnso ?knso ?aetg ?ietg ?letg ?cetg ?ketg ?afre ?ifre ?lfre ?cfre ?kfre ?aclo ?iclo ?lclo ?cclo ?kclo ?acpy ?icpy ?lcpy ?ccpy ?kcpy ?Lcpy ?asat ?isat ?lsat ?csat ?ksat ?aunf ?iunf ?lunf ?cunf ?kunf ?anty ?inty ?lnty ?cnty ?knty ?aari ?iari ?lari ?cari ?kari ?Lari ?auni ?iuni ?luni ?cuni ?kuni ?anum ?inum ?lnum ?cnum ?knum ?asam ?isam ?lsam ?csam ?ksam ?xtIOp ?xtINu ?xtIFu ?xOpNu ?z_len ?z_enumerate ?z_int ?z_abs ?z_isinstance ?z_bool ?z_list ?z_min ?z_max ?z_range ?z_sorted ?z_repr ?z_any ?z_LookupError ?z_OverflowError ?gLP ?gLN ?gMC ?gMP ?sMP ?gMN ?sMN ?xhdlaw ?xb3
    (case gCS => first | k_is | rfl)
    (case pgS => first | k_is | rfl)
    (case hdS => first | k_is | rfl)
    (case poS => first | k_is | rfl)
    (case saS => first | k_is | rfl)
    (case mkS => first | k_is | rfl)
    (case kcS => first | k_is | rfl)
    (case noS0 => first | k_is | rfl)
    (case noS1 => first | k_is | rfl)
    (case noS2 => first | k_is | rfl)
    (case noS3 => first | k_is | rfl)
    (case noS4 => first | k_is | rfl)
    (case noS5 => first | k_is | rfl)
    (case gCOp => first | k_is | rfl)
    (case xLOp => first | k_is | rfl)
    (case xsaOp => first | k_is | rfl)
    (case xgaOp => first | k_is | rfl)
    (case xggOp => first | k_is | rfl)
    (case xnbOp0 => first | k_is | rfl)
    (case xvVOp => first | k_is | rfl)
    (case xkCOp => first | k_is | rfl)
    (case xeCOp => first | k_is | rfl)
    (case xtCOp => first | k_is | rfl)
    (case xhCOp => first | k_is | rfl)
    (case xteOp => first | k_is | rfl)
    (case xC1Op => first | k_is | rfl)
    (case xC4Op => first | k_is | rfl)
    (case xC5Op => first | k_is | rfl)
    (case xkvOp => first | k_is | rfl)
    (case xC2 => first | k_is | rfl)
    (case xC3 => first | k_is | rfl)
    (case gCNu => first | k_is | rfl)
    (case xLNu => first | k_is | rfl)
    (case xsaNu => first | k_is | rfl)
    (case xgaNu => first | k_is | rfl)
    (case xggNu => first | k_is | rfl)
    (case xnbNu0 => first | k_is | rfl)
    (case xvVNu => first | k_is | rfl)
    (case xkCNu => first | k_is | rfl)
    (case xeCNu => first | k_is | rfl)
    (case xtCNu => first | k_is | rfl)
    (case xhCNu => first | k_is | rfl)
    (case xteNu => first | k_is | rfl)
    (case xC1Nu => first | k_is | rfl)
    (case xC4Nu => first | k_is | rfl)
    (case xC5Nu => first | k_is | rfl)
    (case xkvNu => first | k_is | rfl)
    (case gCFu => first | k_is | rfl)
    (case xLFu => first | k_is | rfl)
    (case xsaFu => first | k_is | rfl)
    (case xgaFu => first | k_is | rfl)
    (case xggFu => first | k_is | rfl)
    (case xnbFu0 => first | k_is | rfl)
    (case xvVFu => first | k_is | rfl)
    (case xkCFu => first | k_is | rfl)
    (case xeCFu => first | k_is | rfl)
    (case xtCFu => first | k_is | rfl)
    (case xhCFu => first | k_is | rfl)
    (case xteFu => first | k_is | rfl)
    (case xC1Fu => first | k_is | rfl)
    (case xC4Fu => first | k_is | rfl)
    (case xC5Fu => first | k_is | rfl)
    (case xkvFu => first | k_is | rfl)
    (case aint => first | k_is | rfl)
    (case lint => first | k_is | rfl)
    (case cint => first | k_is | rfl)
    (case kint => first | k_is | rfl)
    (case abet => first | k_is | rfl)
    (case lbet => first | k_is | rfl)
    (case cbet => first | k_is | rfl)
    (case kbet => first | k_is | rfl)
    (case acnt => first | k_is | rfl)
    (case lcnt => first | k_is | rfl)
    (case ccnt => first | k_is | rfl)
    (case kcnt => first | k_is | rfl)
    (case abag => first | k_is | rfl)
    (case lbag => first | k_is | rfl)
    (case cbag => first | k_is | rfl)
    (case kbag => first | k_is | rfl)
    (case atake => first | k_is | rfl)
    (case ltake => first | k_is | rfl)
    (case ctake => first | k_is | rfl)
    (case ktake => first | k_is | rfl)
    (case aof => first | k_is | rfl)
    (case lof => first | k_is | rfl)
    (case cof => first | k_is | rfl)
    (case kof => first | k_is | rfl)
    (case aout => first | k_is | rfl)
    (case lout => first | k_is | rfl)
    (case cout => first | k_is | rfl)
    (case kout => first | k_is | rfl)
    (case adue => first | k_is | rfl)
    (case ldue => first | k_is | rfl)
    (case cdue => first | k_is | rfl)
    (case kdue => first | k_is | rfl)
    (case ashw => first | k_is | rfl)
    (case lshw => first | k_is | rfl)
    (case cshw => first | k_is | rfl)
    (case kshw => first | k_is | rfl)
    (case alaw => first | k_is | rfl)
    (case llaw => first | k_is | rfl)
    (case claw => first | k_is | rfl)
    (case klaw => first | k_is | rfl)
    (case axop => first | k_is | rfl)
    (case ixop => first | k_is | rfl)
    (case lxop => first | k_is | rfl)
    (case cxop => first | k_is | rfl)
    (case kxop => first | k_is | rfl)
    (case axnu => first | k_is | rfl)
    (case ixnu => first | k_is | rfl)
    (case lxnu => first | k_is | rfl)
    (case cxnu => first | k_is | rfl)
    (case kxnu => first | k_is | rfl)
    (case axfu => first | k_is | rfl)
    (case ixfu => first | k_is | rfl)
    (case lxfu => first | k_is | rfl)
    (case cxfu => first | k_is | rfl)
    (case kxfu => first | k_is | rfl)
    (case asi => first | k_is | rfl)
    (case isi => first | k_is | rfl)
    (case lsi => first | k_is | rfl)
    (case csi => first | k_is | rfl)
    (case ksi => first | k_is | rfl)
    (case wsi0 => first | k_is | rfl)
    (case wsi1 => first | k_is | rfl)
    (case acon => first | k_is | rfl)
    (case icon => first | k_is | rfl)
    (case lcon => first | k_is | rfl)
    (case ccon => first | k_is | rfl)
    (case kcon => first | k_is | rfl)
    (case atof => first | k_is | rfl)
    (case itof => first | k_is | rfl)
    (case ltof => first | k_is | rfl)
    (case ctof => first | k_is | rfl)
    (case ktof => first | k_is | rfl)
    (case aitn => first | k_is | rfl)
    (case iitn => first | k_is | rfl)
    (case litn => first | k_is | rfl)
    (case citn => first | k_is | rfl)
    (case kitn => first | k_is | rfl)
    (case atha => first | k_is | rfl)
    (case itha => first | k_is | rfl)
    (case ltha => first | k_is | rfl)
    (case ctha => first | k_is | rfl)
    (case ktha => first | k_is | rfl)
    (case afrn => first | k_is | rfl)
    (case ifrn => first | k_is | rfl)
    (case lfrn => first | k_is | rfl)
    (case cfrn => first | k_is | rfl)
    (case kfrn => first | k_is | rfl)
    (case anth => first | k_is | rfl)
    (case inth => first | k_is | rfl)
    (case lnth => first | k_is | rfl)
    (case cnth => first | k_is | rfl)
    (case knth => first | k_is | rfl)
    (case anso => first | k_is | rfl)
    (case inso => first | k_is | rfl)
    (case lnso => first | k_is | rfl)
    (case cnso => first | k_is | rfl)
    (case knso => first | k_is | rfl)
    (case aetg => first | k_is | rfl)
    (case ietg => first | k_is | rfl)
    (case letg => first | k_is | rfl)
    (case cetg => first | k_is | rfl)
    (case ketg => first | k_is | rfl)
    (case afre => first | k_is | rfl)
    (case ifre => first | k_is | rfl)
    (case lfre => first | k_is | rfl)
    (case cfre => first | k_is | rfl)
    (case kfre => first | k_is | rfl)
    (case aclo => first | k_is | rfl)
    (case iclo => first | k_is | rfl)
    (case lclo => first | k_is | rfl)
    (case cclo => first | k_is | rfl)
    (case kclo => first | k_is | rfl)
    (case acpy => first | k_is | rfl)
    (case icpy => first | k_is | rfl)
    (case lcpy => first | k_is | rfl)
    (case ccpy => first | k_is | rfl)
    (case kcpy => first | k_is | rfl)
    (case Lcpy => first | k_is | rfl)
    (case asat => first | k_is | rfl)
    (case isat => first | k_is | rfl)
    (case lsat => first | k_is | rfl)
    (case csat => first | k_is | rfl)
    (case ksat => first | k_is | rfl)
    (case aunf => first | k_is | rfl)
    (case iunf => first | k_is | rfl)
    (case lunf => first | k_is | rfl)
    (case cunf => first | k_is | rfl)
    (case kunf => first | k_is | rfl)
    (case anty => first | k_is | rfl)
    (case inty => first | k_is | rfl)
    (case lnty => first | k_is | rfl)
    (case cnty => first | k_is | rfl)
    (case knty => first | k_is | rfl)
    (case aari => first | k_is | rfl)
    (case iari => first | k_is | rfl)
    (case lari => first | k_is | rfl)
    (case cari => first | k_is | rfl)
    (case kari => first | k_is | rfl)
    (case Lari => first | k_is | rfl)
    (case auni => first | k_is | rfl)
    (case iuni => first | k_is | rfl)
    (case luni => first | k_is | rfl)
    (case cuni => first | k_is | rfl)
    (case kuni => first | k_is | rfl)
    (case anum => first | k_is | rfl)
    (case inum => first | k_is | rfl)
    (case lnum => first | k_is | rfl)
    (case cnum => first | k_is | rfl)
    (case knum => first | k_is | rfl)
    (case asam => first | k_is | rfl)
    (case isam => first | k_is | rfl)
    (case lsam => first | k_is | rfl)
    (case csam => first | k_is | rfl)
    (case ksam => first | k_is | rfl)
    (case xtIOp => first | k_is | rfl)
    (case xtINu => first | k_is | rfl)
    (case xtIFu => first | k_is | rfl)
    (case xOpNu => first | k_is | rfl)
    (case z_len => first | k_is | rfl)
    (case z_enumerate => first | k_is | rfl)
    (case z_int => first | k_is | rfl)
    (case z_abs => first | k_is | rfl)
    (case z_isinstance => first | k_is | rfl)
    (case z_bool => first | k_is | rfl)
    (case z_list => first | k_is | rfl)
    (case z_min => first | k_is | rfl)
    (case z_max => first | k_is | rfl)
    (case z_range => first | k_is | rfl)
    (case z_sorted => first | k_is | rfl)
    (case z_repr => first | k_is | rfl)
    (case z_any => first | k_is | rfl)
    (case z_LookupError => first | k_is | rfl)
    (case z_OverflowError => first | k_is | rfl)
    (case gLP => first | k_is | rfl)
    (case gLN => first | k_is | rfl)
    (case gMC => first | k_is | rfl)
    (case gMP => first | k_is | rfl)
    (case sMP => first | k_is | rfl)
    (case gMN => first | k_is | rfl)
    (case sMN => first | k_is | rfl)
    (case xhdlaw => first | k_is | rfl)
    (case xb3 => decide)
  case nT => exact fun w => rfl
  case tT => exact fun w h KX => by first
    | exact Wn.isct KX (c := 610) (by first | k_is | rfl)
    | exact Wn.isct KX (c := 612) (by first | k_is | rfl)
    | exact Wn.isct KX (c := 611) (by first | k_is | rfl)
    | exact Wn.isct KX (c := 613) (by first | k_is | rfl)
    | exact Wn.isct KX (c := 609) (by first | k_is | rfl)
    | exact Wn.isct KX (c := 614) (by first | k_is | rfl)
    | exact Wn.isct KX (c := 615) (by first | k_is | rfl)
    | exact Wn.isct KX (c := 616) (by first | k_is | rfl)
    | exact Wn.isct KX (c := 606) (by first | k_is | rfl)
    | exact Wn.isct KX (c := 607) (by first | k_is | rfl)

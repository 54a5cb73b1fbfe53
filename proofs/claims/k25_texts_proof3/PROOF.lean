import PyProof.Rows.All
import Wide.All
import OpenK.AllK
import Wide.FinOn
import HandS.ForMost
import HandS.Wide
import HandS.Evl
import HandS.Walk
import HandS.NoneIn
import HandS.FStrTup
import HandS.RaiseMore
import PyProof.ReprLen
import PyProof.FitsInt
import HandS.IsInst
import KE.KUnpackStar
import KE.GoesMore
import KE.GoesEnum
import KE.GoesNew
import HandS.Star
import HandS.More
import HandS.StrMore
import KE.KIntText
import PyProof.Rows.StrAscii
import PyProof.Rows.StrJoinMade
import PyProof.P3Eq
import HandS.Defaults
import HandS.Conv
import PySem.Challenge.RW_waitnumbers_k25_texts_of_calls
set_option Elab.async false
set_option linter.all false
set_option maxRecDepth 100000
set_option maxHeartbeats 4000000
namespace Wn
open PySem PySem.Spec PyProof.Rows L2 Evl
def top (i : Nat) : Stmt := PySem.Challenge.pw_waitnumbers_k25_texts_of_calls.main.body.getD i (.Pass ⟨0, 0, 0, 0⟩)
abbrev sBag : Stmt := top 19
abbrev sTake : Stmt := top 20
abbrev sOf : Stmt := top 21
/-! readings with names -/
def rInt1 : List V → Hp → VK → Prop := fun xs H Q => (∃ i, xs = [.int i] ∧ Q (.int i) H) ∨ ∃ k, xs = [.bl k] ∧ Q (.int (if k = true then 1 else 0)) H
def rAbs : List V → Hp → VK → Prop := fun xs H Q => ∃ i, xs = [.int i] ∧ Q (.int (if i < 0 then -i else i)) H
theorem cInt1 {X : Cx} : CallR X (.type "int") rInt1 := call_int1
theorem cAbs {X : Cx} : CallR X (.builtin "abs") rAbs := call_abs
def rIsN : R2 := fun x y H Q => y = .non ∧ Q (.bl (decide (x = .non))) H
def rNotN : R2 := fun x y H Q => y = .non ∧ Q (.bl (!decide (x = .non))) H
def rAddS : R2 := fun x y H Q => ∃ i j, x = .str i ∧ y = .str j ∧ i.length + j.length ≤ sizeLine ∧ Q (.str (i ++ j)) H
def rLenQ (K : PySem.W.Frag) : List V → Hp → VK → Prop := fun xs H Q => ∃ p ys, xs = [.ref p] ∧ (SqL K H p ys ∨ SqT K H p ys) ∧ Q (.int ys.length) H
def rLenS : List V → Hp → VK → Prop := fun xs H Q => ∃ z, xs = [.str z] ∧ z.length ≤ sizeLine ∧ Q (.int z.length) H
def rMax2 : List V → Hp → VK → Prop := fun xs H Q => ∃ i j, xs = [.int i, .int j] ∧ Q (.int (if j > i then j else i)) H
def rMin2 : List V → Hp → VK → Prop := fun xs H Q => ∃ i j, xs = [.int i, .int j] ∧ Q (.int (if j < i then j else i)) H
theorem oIsN {X : Cx} : OpR X (compareOp .Is) rIsN := op_isN
theorem oNotN {X : Cx} : OpR X (compareOp .IsNot) rNotN := op_notN
theorem oAddS {X : Cx} : OpR X (binaryOp .Add) rAddS := op_add_str
theorem cLenQ {X : Cx} : CallR X (.builtin "len") (rLenQ X.K) := call_len_seq
theorem cLenS {X : Cx} : CallR X (.builtin "len") rLenS := call_len_str
theorem cMax2 {X : Cx} (hc : X.calm = true) : CallR X (.builtin "max") rMax2 := call_max2 hc
theorem cMin2 {X : Cx} (hc : X.calm = true) : CallR X (.builtin "min") rMin2 := call_min2 hc
/-! one step of a reading -/
section
variable {σ : L2.St} {H : Hp} {Q : VK} {ta tb te : TE} {tl : TA} {t u : TS} {D : Ends} {c : TT} {r : R2} {v : V} {i : Nat}
theorem g_var (h : σ[i]? = some (some v)) (q : Q v H) : tVar i σ H Q := ⟨v, h, q⟩
theorem g_c (q : Q v H) : tC v σ H Q := q
theorem g_op (q : ta σ H fun x H1 => tb σ H1 fun y H2 => r x y H2 Q) : tOp r ta tb σ H Q := q
theorem g_un {r : V → Hp → VK → Prop} (q : ta σ H fun x H1 => r x H1 Q) : tUn r ta σ H Q := q
theorem g_rI0 {g : Int → Int → V} {a b : Int} (q : Q (g a b) H) : rI0 g (.int a) (.int b) H Q := ⟨a, b, rfl, rfl, q⟩
theorem g_rI {C : Int → Int → Prop} {g : Int → Int → V} {a b : Int} (hc : C a b) (q : Q (g a b) H) : rI C g (.int a) (.int b) H Q := ⟨a, b, rfl, rfl, hc, q⟩
theorem g_mul {a b : Int} (h : (-(2 ^ 64) < a ∧ a < 2 ^ 64) ∨ (-(2 ^ 64) < b ∧ b < 2 ^ 64)) (q : Q (.int (a * b)) H) : rI CMul (fun i j => .int (i * j)) (.int a) (.int b) H Q := ⟨a, b, rfl, rfl, h, q⟩
theorem g_mod {a b : Int} (h : 0 < b) (q : Q (.int (a % b)) H) : rI (fun _ j => 0 < j) (fun i j => .int (i % j)) (.int a) (.int b) H Q := ⟨a, b, rfl, rfl, h, q⟩
theorem g_rEq {x y : V} (h : scal x y = true) (q : Q (.bl (decide (x = y))) H) : rEq x y H Q := ⟨h, q⟩
theorem g_rNe {x y : V} (h : scal x y = true) (q : Q (.bl (!decide (x = y))) H) : rNe x y H Q := ⟨h, q⟩
theorem g_asg {g : TG} (q : te σ H fun x H1 => g x σ H1 D.nx) : tAsg te g D σ H := q
theorem g_name {k : L2.St → Hp → Prop} (q : k (σ.set i (some v)) H) : gName i v σ H k := q
theorem g_seq (q : t { D with nx := u D } σ H) : tSeq t u D σ H := q
theorem g_ret (q : te σ H D.rt) : tRet te D σ H := q
theorem g_retN (q : D.rt .non H) : tRetN D σ H := q
theorem g_next (q : D.nx σ H) : tNext D σ H := q
theorem g_drop (q : te σ H fun _ H1 => D.nx σ H1) : tDrop te D σ H := q
theorem g_nil {k : List V → Hp → Prop} (q : k [] H) : tNil σ H k := q
theorem g_cons {k : List V → Hp → Prop} (q : ta σ H fun x H1 => tl σ H1 fun xs H2 => k (x :: xs) H2) : tCons ta tl σ H k := q
theorem g_cb {r : List V → Hp → VK → Prop} (q : tl σ H fun vs H1 => r vs H1 Q) : tCB r tl σ H Q := q
theorem g_test {k : Bool → Hp → Prop} (q : te σ H fun x H1 => ∃ b, x = .bl b ∧ k b H1) : tTest te σ H k := q
theorem g_tB {k : Bool → Hp → Prop} (q : te σ H fun x H1 => ∃ b, x = .bl b ∧ k b H1) : tB te σ H k := q
theorem g_bl {b : Bool} {k : Bool → Prop} (q : k b) : ∃ z, V.bl b = .bl z ∧ k z := ⟨b, rfl, q⟩
theorem g_if (q : c σ H fun b H1 => if b = true then ta σ H1 Q else tb σ H1 Q) : tIf c ta tb σ H Q := q
theorem g_ifs (q : c σ H fun b H1 => if b = true then t D σ H1 else u D σ H1) : tIfS c t u D σ H := q
theorem g_not {k : Bool → Hp → Prop} (q : c σ H fun b H1 => k (!b) H1) : tNot c σ H k := q
theorem g_part {k : Option Int → Hp → Prop} (q : te σ H fun x H1 => ∃ z, x = .int z ∧ k (some z) H1) : tPart te σ H k := q
theorem g_pint {z : Int} {k : Int → Prop} (q : k z) : ∃ y, V.int z = .int y ∧ k y := ⟨z, rfl, q⟩
theorem g_lst (q : tl σ H fun xs H1 => xs.length ≤ sizeLine ∧ ∀ p, H1 p = none → Q (.ref p) (upd H1 p (.lst xs))) : tLst tl σ H Q := q
theorem g_tup (q : tl σ H fun xs H1 => xs.length ≤ sizeLine ∧ ∀ p, H1 p = none → Q (.ref p) (upd H1 p (.tup xs))) : tTup tl σ H Q := q
theorem g_ixL {K : PySem.W.Frag} {p : Addr} {xs : List V} {z : Int} (h : H p = some (.lst xs)) (a : atI xs z = some v) (q : Q v H) : rIxL K (.ref p) (.int z) H Q := ⟨p, xs, z, v, rfl, rfl, SqL.of h, a, q⟩
theorem cdivw_of {a b : Int} (h0 : 0 < b) (h1 : b < 4611686018427387904) : CDivW a b := wide_div (b := 62) h0 (by omega) (by decide) (by decide)
theorem g_div {a b : Int} (h0 : 0 < b) (h1 : b < 4611686018427387904) (q : Q (.int (a / b)) H) : rI CDivW (fun i j => .int (i / j)) (.int a) (.int b) H Q := ⟨a, b, rfl, rfl, cdivw_of h0 h1, q⟩
theorem g_sub {to ti : TE} {ts : TSet} {k : L2.St → Hp → Prop} (q : to σ H fun o H1 => ti σ H1 fun i H2 => ts o i v H2 fun H3 => k σ H3) : gSub to ti ts v σ H k := q
theorem g_setL {p : Addr} {xs : List V} {z : Int} {j : Nat} {k : Hp → Prop} (h : H p = some (.lst xs)) (a : ixN xs.length z = some j) (q : k (upd H p (.lst (xs.set j v)))) : rSetL (.ref p) (.int z) v H k := ⟨p, xs, z, j, rfl, rfl, h, a, q⟩
theorem g_nopart {k : Option Int → Hp → Prop} (q : k none H) : tNoPart σ H k := q
theorem g_call {sp : Sp} {dvs : List V} {E : XK} (q : tl σ H fun vs H1 => sp (vs ++ dvs) H1 Q E) : tCall sp dvs E tl σ H Q := q
theorem g_rint (z : Int) (q : Q (.int z) H) : rInt1 [.int z] H Q := .inl ⟨z, rfl, q⟩
theorem g_rabs {z : Int} (q : Q (.int (if z < 0 then -z else z)) H) : rAbs [.int z] H Q := ⟨z, rfl, q⟩
theorem g_sl {r : V → Option Int → Option Int → Hp → VK → Prop} {a b : TO} (q : te σ H fun x H1 => a σ H1 fun l H2 => b σ H2 fun h H3 => r x l h H3 Q) : tSl r te a b σ H Q := q
theorem g_rIsN {x : V} (q : Q (.bl (decide (x = .non))) H) : rIsN x .non H Q := ⟨rfl, q⟩
theorem g_rNotN {x : V} (q : Q (.bl (!decide (x = .non))) H) : rNotN x .non H Q := ⟨rfl, q⟩
theorem g_lenL {K : PySem.W.Frag} {p : Addr} {xs : List V} (h : H p = some (.lst xs)) (q : Q (.int xs.length) H) : rLenQ K [.ref p] H Q := ⟨p, xs, rfl, .inl (SqL.of h), q⟩
theorem g_max2 {a b : Int} (q : Q (.int (if b > a then b else a)) H) : rMax2 [.int a, .int b] H Q := ⟨a, b, rfl, q⟩
theorem g_min2 {a b : Int} (q : Q (.int (if b < a then b else a)) H) : rMin2 [.int a, .int b] H Q := ⟨a, b, rfl, q⟩
theorem g_and {t u : TT} {k : Bool → Hp → Prop} (q : t σ H fun b H1 => if b = true then u σ H1 k else k false H1) : tAnd t u σ H k := q
theorem g_or {t u : TT} {k : Bool → Hp → Prop} (q : t σ H fun b H1 => if b = true then k true H1 else u σ H1 k) : tOr t u σ H k := q
theorem g_orV (q : ta σ H fun x H1 => ∃ b, x = .bl b ∧ if b = true then Q (.bl true) H1 else tb σ H1 Q) : tOrV ta tb σ H Q := q
theorem g_andV (q : ta σ H fun x H1 => ∃ b, x = .bl b ∧ if b = true then tb σ H1 Q else Q (.bl false) H1) : tAndV ta tb σ H Q := q
theorem g_notV (q : ta σ H fun x H1 => ∃ b, x = .bl b ∧ Q (.bl (!b)) H1) : tNotV ta σ H Q := q
theorem g_m0 {r : V → List V → Hp → VK → Prop} (q : ta σ H fun x H1 => (∃ a, x = .str a) ∧ r x [] H1 Q) : tM0 r ta σ H Q := q
theorem g_m1 {r : V → List V → Hp → VK → Prop} (q : ta σ H fun x H1 => (∃ a, x = .str a) ∧ tb σ H1 fun y H2 => r x [y] H2 Q) : tM1 r ta tb σ H Q := q
theorem g_isS {z : Str} {c : Prop} (q : c) : (∃ a, V.str z = .str a) ∧ c := ⟨⟨z, rfl⟩, q⟩
theorem g_bT {A B : Prop} (q : A) : if true = true then A else B := iteT q
theorem g_bF {A B : Prop} (q : B) : if false = true then A else B := iteF q
theorem g_bNT {A B : Prop} (q : B) : if (!true) = true then A else B := iteF q
theorem g_bNF {A B : Prop} (q : A) : if (!false) = true then A else B := iteT q
theorem g_bm {K : PySem.W.Frag} {T : String} {r : V → List V → Hp → VK → Prop} (q : ta σ H fun x H1 => tyV K T x H1 ∧ tl σ H1 fun xs H2 => r x xs H2 Q) : tBM K T r ta tl σ H Q := q
theorem g_bm0 {K : PySem.W.Frag} {T : String} {r : V → List V → Hp → VK → Prop} (q : ta σ H fun x H1 => tyV K T x H1 ∧ r x [] H1 Q) : tBM0 K T r ta σ H Q := q
theorem g_tyL {K : PySem.W.Frag} {p : Addr} {xs : List V} {c : Prop} (h : H p = some (.lst xs)) (q : c) : tyV K "list" (.ref p) H ∧ c := ⟨.inl ⟨rfl, _, SqL.of h⟩, q⟩
theorem g_lit {L : List V} {n : Nat} (h : L.length ≤ n) (z : n ≤ 100) : L.length ≤ 100 := Nat.le_trans h z
theorem g_yes {k : Bool → Hp → Prop} (q : k true H) : tYes σ H k := q
theorem g_nes {x : V} {A B : Prop} (q : B) : if (!decide (x = x)) = true then A else B := by
  rw [decide_eq_true rfl]
  exact iteF q
theorem g_es {x : V} {A B : Prop} (q : A) : if decide (x = x) = true then A else B := by
  rw [decide_eq_true rfl]
  exact iteT q
theorem g_callK {sp : Sp} {gV : List V → List V → List V} {E : XK} {tk : TA} (q : tl σ H fun vs H1 => tk σ H1 fun zs H2 => sp (gV vs zs) H2 Q E) : tCallK sp gV E tl tk σ H Q := q
theorem g_isN {x : V} (q : ta σ H fun x H1 => Q (.bl (decide (x = .non))) H1) : tIsN ta σ H Q := q
end
local macro_rules | `(tactic| walk_at "wn1") => `(tactic| first | ((with_reducible show (if (!decide _) = true then _ else _)); refine' g_nes ?_) | ((with_reducible show (if (decide _) = true then _ else _)); refine' g_es ?_) | with_reducible first
  | (refine' g_var ?h ?q; (case h => with_unfolding_all rfl))
  | refine' g_c ?_ | refine' g_op ?_ | refine' g_rI0 ?_ | refine' g_asg ?_ | refine' g_name ?_ | refine' g_seq ?_ | refine' g_ret ?_ | refine' g_retN ?_ | refine' g_next ?_ | refine' g_drop ?_
  | refine' g_nil ?_ | refine' g_cons ?_ | refine' g_cb ?_ | refine' g_test ?_ | refine' g_bl ?_ | refine' g_if ?_ | refine' g_ifs ?_ | refine' g_not ?_ | refine' g_part ?_ | refine' g_pint ?_ | refine' g_nopart ?_ | refine' g_call ?_
  | (refine' g_mul ?h ?q; (case h => with_unfolding_all first | exact Or.inl ⟨by decide, by decide⟩ | exact Or.inr ⟨by decide, by decide⟩ | exact Or.inl ⟨by omega, by omega⟩ | exact Or.inr ⟨by omega, by omega⟩))
  | (refine' g_mod ?h ?q; (case h => with_unfolding_all first | decide | omega))
  | refine' g_rIsN ?_ | refine' g_rNotN ?_ | refine' g_max2 ?_ | refine' g_min2 ?_ | refine' g_and ?_ | refine' g_or ?_ | refine' g_orV ?_ | refine' g_andV ?_ | refine' g_notV ?_ | refine' g_m1 ?_ | refine' g_yes ?_ | refine' g_bm ?_ | refine' g_bm0 ?_
  | (refine' g_tyL ?h ?q; (case h => first | assumption | exact upd_same))
  | refine' g_m0 ?_ | refine' g_tB ?_ | refine' g_isS ?_ | refine' g_bT ?_ | refine' g_bF ?_ | refine' g_bNT ?_ | refine' g_callK ?_ | refine' g_bNF ?_
  | (refine' g_lenL ?h ?q; (case h => first | assumption | exact upd_same))
  | refine' g_un ?_ | refine' g_rint _ ?_ | refine' g_rabs ?_ | refine' g_sl ?_ 
  | (refine' g_ixL ?h ?a ?q; (case h => first | assumption | exact upd_same); (case a => with_unfolding_all rfl))
  | (refine' g_div ?h0 ?h1 ?q; (case h0 => with_unfolding_all first | decide | omega); (case h1 => with_unfolding_all first | decide | omega))
  | refine' g_sub ?_
  | (refine' g_setL ?h ?a ?q; (case h => first | assumption | exact upd_same); (case a => with_unfolding_all rfl))
  | refine' g_lst ?_ | refine' g_tup ?_
  | (refine' g_rEq ?h ?q; (case h => with_unfolding_all rfl)) | (refine' g_rNe ?h ?q; (case h => with_unfolding_all rfl)))
local macro_rules | `(tactic| walk_at "wn") => `(tactic| repeat walk_at "wn1")

/-! the bag of draws: two numbers that are not negative, the second one below 2 ^ 31 -/
def BagAt (H : Hp) (p : Addr) : Prop := ∃ a b : Int, H p = some (.lst [.int a, .int b]) ∧ 0 ≤ a ∧ 0 ≤ b ∧ b < 2147483648
/-- what was tracked stands, but for the bag at p, which is a bag still -/
def Dr (p : Addr) (H H' : Hp) : Prop := (∀ a o, a ≠ p → H a = some o → H' a = some o) ∧ BagAt H' p
theorem Dr.refl {p : Addr} {H : Hp} (b : BagAt H p) : Dr p H H := ⟨fun _ _ _ h => h, b⟩
theorem Dr.trans {p : Addr} {H H1 H2 : Hp} (a : Dr p H H1) (b : Dr p H1 H2) : Dr p H H2 := ⟨fun x o n h => b.1 x o n (a.1 x o n h), b.2⟩
theorem Dr.ex {p : Addr} {H H1 : Hp} (b : BagAt H p) (e : Ex H H1) : Dr p H H1 := ⟨fun x o _ h => e x o h, by
  obtain ⟨u, v, h, r⟩ := b
  exact ⟨u, v, e _ _ h, r⟩⟩
theorem seq_at {K : PySem.W.Frag} {H H' : Hp} {l : Addr} {xs : List V} (e : H' l = H l) (h : SqL K H l xs) : SqL K H' l xs := by
  rcases h with (h | ⟨o, h⟩) | h
  · exact .inl (.inl (e.trans h))
  · exact .inl (.inr ⟨o, e.trans h⟩)
  · exact .inr h
theorem seqT_at {K : PySem.W.Frag} {H H' : Hp} {l : Addr} {xs : List V} (e : H' l = H l) (h : SqT K H l xs) : SqT K H' l xs := by
  rcases h with (h | ⟨o, h⟩) | h
  · exact .inl (.inl (e.trans h))
  · exact .inl (.inr ⟨o, e.trans h⟩)
  · exact .inr h
structure DrawTxt (mg : Str → Option Value) : Prop where
  len : mg "len" = none
  enum : mg "enumerate" = none
  int : mg "int" = none
  abs : mg "abs" = none
def spBag (K : PySem.W.Frag) : Sp := fun vs H Q _ => ∃ (a : Addr) (ns : List Int) (i : Nat), vs = [.ref a, .int i] ∧ SqL K H a (ns.map V.int) ∧ ns.length ≤ 63 ∧ i ≤ 100 ∧
  ∀ (H' : Hp) (p : Addr), H p = none → Same H H' → BagAt H' p → Q (.ref p) H'
def spTake : Sp := fun vs H Q _ => ∃ (p : Addr) (m : Int), vs = [.ref p, .int m] ∧ BagAt H p ∧ 0 < m ∧ m < 4611686018427387904 ∧
  ∀ (k : Int) (H' : Hp), 0 ≤ k → k < m → (∀ b, b ≠ p → H' b = H b) → BagAt H' p → Q (.int k) H'
def spOf (K : PySem.W.Frag) : Sp := fun vs H Q _ => ∃ (p l : Addr) (xs : List V), vs = [.ref p, .ref l] ∧ BagAt H p ∧ SqL K H l xs ∧ l ≠ p ∧ 0 < xs.length ∧ xs.length ≤ 1000 ∧
  ∀ (k : Nat) (v : V) (H' : Hp), xs[k]? = some v → (∀ b, b ≠ p → H' b = H b) → BagAt H' p → Q v H'
section
variable {P : Program} {w : World} {K : PySem.W.Frag} {mg : Str → Option Value} {base : Heap}
theorem scBag : FnScope ["_law_script", "_law_at", "_law_cell", "_law_blend", "_law_k", "_law_each"] ["_law_script", "_law_at"] (defScope sBag) := ⟨rfl, rfl, rfl, by decide +kernel, rfl, by decide +kernel, by decide +kernel⟩
theorem okBag {f : Addr} {fd : FuncData} (F : Fun K "_law_bag" "_law_bag" sBag f fd) (T : DrawTxt mg) : FnOk P w K mg base CX0 1 f fd ["_law_script", "_law_at"] (spBag K) := by
  refine F.ok scBag (fun vs H Q E h => ?_) (fun cdv A outer s H vs Q E hr h => ?_)
  · obtain ⟨a, ns, i, rfl, _⟩ := h
    rfl
  · obtain ⟨a, ns, i, rfl, hS, hl, hi, k⟩ := h
    refine ⟨_, pss_cut (ps_set (i := 2) scBag.nd rfl (Or.inl rfl) (pe_ifExp (pt_cmpR op_lt (pv 1) (pe_callB cLenQ (by rfl) T.len PySem.boot_len (pa_cons (pv 0) pa_nil)) (nomark _)) (pe_ix ix_list (pv 0) (pv 1) (fun _ _ => rfl)) pe_int))
      (pss_cons (ps_set (i := 3) scBag.nd rfl (Or.inl rfl) (pe_op op_add (pe_op op_mul pe_int (pv 1)) pe_int))
      (pss_cut (ps_for PassesOwn.never rfl (pi_enum (by rfl) T.enum (pa_cons (pe_slice sl_list (pv 0) po_none (po_some pe_int)) pa_nil)) (pg_tup rfl (pgs_cons (pg_name (i := 4) scBag.nd rfl (Or.inl rfl)) (pgs_cons (pg_name (i := 5) scBag.nd rfl (Or.inl rfl)) pgs_nil)))
        (pss_one (ps_set (i := 3) scBag.nd rfl (Or.inl rfl) (pe_op op_mod (pe_callTy cInt1 (by rfl) T.int PyProof.Rows.boot_int (pa_cons (pe_op op_add (pe_op op_add (pe_op op_add (pe_op op_mul (pv 3) pe_int) (pe_op op_mod (pe_callTy cInt1 (by rfl) T.int PyProof.Rows.boot_int (pa_cons (pv 5) pa_nil)) pe_int)) (pe_op op_mul pe_int (pv 4))) pe_int) pa_nil)) pe_int))))
      (pss_one (ps_ret (pe_lst (pa_cons (pe_ifExp (pt_cmpR op_ge (pe_callB cAbs (by rfl) T.abs (by decide +kernel) (pa_cons (pv 2) pa_nil)) (pe_op op_pow pe_int pe_int) (nomark _)) (pe_callB cAbs (by rfl) T.abs (by decide +kernel) (pa_cons (pv 2) pa_nil)) pe_int) (pa_cons (pv 3) pa_nil))))))), ?_⟩
    refine ⟨fun σ' H' => ∃ c : Int, σ' = [some (.ref a), some (.int i), some (.int c), none, none, none] ∧ H' = H, ?_, ?_⟩
    · walk_at "wn"
      refine ⟨a, _, rfl, .inl hS, ?_⟩
      walk_at "wn"
      refine ite2 (fun hc => ?_) (fun hc => ?_)
      · have hlt : i < (ns.map V.int).length := by have := of_decide_eq_true hc; omega
        rw [List.length_map] at hlt
        walk_at "wn"
        refine ⟨a, _, _, _, rfl, rfl, hS, atI_nat (v := V.int (ns[i])) (by rw [List.getElem?_map, List.getElem?_eq_getElem hlt]; rfl), ?_⟩
        exact ⟨_, rfl, rfl⟩
      · exact ⟨0, rfl, rfl⟩
    · rintro σ' H' ⟨c, rfl, rfl⟩
      walk_at "wn"
      refine ⟨fun σ' H2 => ∃ (b : Int) (u v : Option V), 0 ≤ b ∧ b < 2147483648 ∧ σ' = [some (.ref a), some (.int i), some (.int c), some (.int b), u, v] ∧ Same H' H2, ?_, ?_⟩
      · show tSl _ _ _ _ _ _ _
        walk_at "wn"
        refine ⟨a, _, rfl, hS, fun p hp => ?_⟩
        walk_at "wn"
        refine ⟨p, _, rfl, SqL.of upd_same, ?_⟩
        refine for_it (walk_enum (xs := cutV (ns.map V.int) none (some 40))) (fun j σ' H3 => ∃ (b : Int) (u v : Option V), 0 ≤ b ∧ b < 2147483648 ∧ σ' = [some (.ref a), some (.int i), some (.int c), some (.int b), u, v] ∧ Same (upd H' p (.lst (cutV (ns.map V.int) none (some 40)))) H3) ?_ ?_ ?_ ?_
        · exact ⟨_, none, none, by omega, by omega, rfl, Same.refl _⟩
        · rintro j σ' H3 hj ⟨b, u, v, b0, b1, rfl, sm⟩
          exact sm.seq (SqL.of upd_same)
        · rintro j x σ' H3 H4 hj ⟨b, u, v, b0, b1, rfl, sm⟩ ⟨T1, x1, y1, rfl, nT, rfl, hx, hy⟩
          obtain rfl := Option.some.inj hx
          obtain ⟨z, rfl⟩ : ∃ z, y1 = V.int z := by
            have q : y1 ∈ ns.map V.int := List.mem_of_mem_drop (List.mem_of_mem_take (List.mem_of_getElem? hy))
            obtain ⟨z, _, e⟩ := List.mem_map.mp q
            exact ⟨z, e.symm⟩
          refine ⟨T1, _, rfl, SqT.of upd_same, rfl, _, _, rfl, ?_⟩
          walk_at "wn"
          refine ⟨_, _, rfl, ?_⟩
          walk_at "wn"
          refine ⟨rfl, ?_⟩
          walk_at "wn"
          refine ⟨_, _, _, by omega, by omega, rfl, fun x o hx => ?_⟩
          rw [upd_ne (ne_of_none (sm _ _ hx) nT)]
          exact sm _ _ hx
        · rintro σ' H3 ⟨b, u, v, b0, b1, rfl, sm⟩
          exact ⟨b, u, v, b0, b1, rfl, fun x o hx => sm _ _ (by rw [upd_ne (ne_of_none hx hp)]; exact hx)⟩
      · rintro σ' H2 ⟨b, u, v, b0, b1, rfl, sm⟩
        walk_at "wn"
        refine g_rI ⟨by decide, by decide, by decide⟩ ?_
        walk_at "wn"
        have fin : ∀ z : Int, 0 ≤ z → ([V.int z, V.int b].length ≤ sizeLine ∧ ∀ p, H2 p = none → Q (V.ref p) (upd H2 p (HO.lst [V.int z, V.int b]))) := fun z hz => ⟨by show 2 ≤ sizeLine; decide, fun p hp => k _ p (sm.free hp) (fun x o hx => by
          rw [upd_ne (ne_of_none (sm _ _ hx) hp)]
          exact sm _ _ hx) ⟨z, b, upd_same, hz, b0, b1⟩⟩
        refine ite2 (fun hc => ?_) (fun hc => ?_)
        · walk_at "wn"
          exact fin _ (by split <;> omega)
        · walk_at "wn"
          exact fin 0 (by decide)
theorem scTake : FnScope ["_law_bag_here", "_law_many", "_law_digit"] ["_law_bag_here", "_law_many"] (defScope sTake) := ⟨rfl, rfl, rfl, by decide +kernel, rfl, by decide +kernel, by decide +kernel⟩
theorem okTake {f : Addr} {fd : FuncData} (F : Fun K "_law_take" "_law_take" sTake f fd) (T : DrawTxt mg) : FnOk P w K mg base CX0 1 f fd ["_law_bag_here", "_law_many"] spTake := by
  refine F.ok scTake (fun vs H Q E h => ?_) (fun cdv A outer s H vs Q E hr h => ?_)
  · obtain ⟨a, m, rfl, _⟩ := h
    rfl
  · obtain ⟨p, m, rfl, ⟨a, b, hp, a0, b0, b1⟩, m0, m1, k⟩ := h
    refine ⟨_, pss_cons (ps_if (pt_cmpR op_gt (pe_ix ix_list (pv 0) pe_int (fun _ _ => rfl)) pe_int (nomark _))
        (pss_cons (ps_set (i := 2) scTake.nd rfl (Or.inl rfl) (pe_op op_mod (pe_callTy cInt1 (by rfl) T.int PyProof.Rows.boot_int (pa_cons (pe_ix ix_list (pv 0) pe_int (fun _ _ => rfl)) pa_nil)) (pv 1)))
        (pss_cons (ps_asg (pe_op op_fdivW (pe_ix ix_list (pv 0) pe_int (fun _ _ => rfl)) (pv 1)) (pg_sub (pv 0) pe_int set_list))
        (pss_one (ps_ret (pv 2))))) pss_nil)
      (pss_cons (ps_asg (pe_op op_mod (pe_callTy cInt1 (by rfl) T.int PyProof.Rows.boot_int (pa_cons (pe_op op_add (pe_op op_mul (pe_ix ix_list (pv 0) pe_int (fun _ _ => rfl)) pe_int) pe_int) pa_nil)) pe_int) (pg_sub (pv 0) pe_int set_list))
      (pss_one (ps_ret (pe_op op_mod (pe_op op_fdivW (pe_op op_mod (pe_callTy cInt1 (by rfl) T.int PyProof.Rows.boot_int (pa_cons (pe_op op_mul (pe_op op_fdivW (pe_ix ix_list (pv 0) pe_int (fun _ _ => rfl)) pe_int) pe_int) pa_nil)) pe_int) pe_int) (pv 1))))), ?_⟩
    walk_at "wn"
    refine ite2 (fun hc => ?_) (fun hc => ?_)
    · walk_at "wn"
      refine k _ _ (Int.emod_nonneg _ (by omega)) (Int.emod_lt_of_pos _ m0) (fun x hx => upd_ne hx) ⟨_, _, upd_same, Int.ediv_nonneg a0 (by omega), b0, b1⟩
    · walk_at "wn"
      refine k _ _ (Int.emod_nonneg _ (by omega)) (Int.emod_lt_of_pos _ m0) (fun x hx => upd_ne hx) ⟨_, _, upd_same, a0, by omega, by omega⟩
theorem scOf : FnScope ["_law_bag_here", "_law_some"] ["_law_bag_here", "_law_some"] (defScope sOf) := ⟨rfl, rfl, rfl, by decide +kernel, rfl, by decide +kernel, by decide +kernel⟩
theorem okOf {f fT : Addr} {fd fdT : FuncData} (F : Fun K "_law_of" "_law_of" sOf f fd) (T : DrawTxt mg) (FT : Fun K "_law_take" "_law_take" sTake fT fdT) (gT : mg "_law_take" = some (.ref fT)) (bT : Binds K fdT ["_law_bag_here", "_law_many"] []) : FnOk P w K mg base CX0 2 f fd ["_law_bag_here", "_law_some"] (spOf K) := by
  have GT : FnOk P w K mg base CX0 1 fT fdT ["_law_bag_here", "_law_many"] spTake := okTake FT T
  refine F.ok scOf (fun vs H Q E h => ?_) (fun cdv A outer s H vs Q E hr h => ?_)
  · obtain ⟨a, l, xs, rfl, _⟩ := h
    rfl
  · obtain ⟨p, l, xs, rfl, hb, hx, hl, l0, l1, k⟩ := h
    refine ⟨_, pss_one (ps_ret (pe_ix ix_seq (pv 1) (pe_call GT hr (by rfl) gT FT.kp bT .nil pass0 (pa_cons (pv 0) (pa_cons (pe_callB cLenQ (by rfl) T.len PySem.boot_len (pa_cons (pv 1) pa_nil)) pa_nil))) (fun _ _ => rfl))), ?_⟩
    walk_at "wn"
    refine ⟨l, xs, rfl, .inl hx, ?_⟩
    walk_at "wn"
    refine ⟨p, _, rfl, hb, by omega, by omega, fun i H1 i0 i1 he hb1 => ?_⟩
    obtain ⟨j, rfl⟩ := Int.eq_ofNat_of_zero_le i0
    have hj : j < xs.length := by omega
    exact .inl ⟨l, xs, _, xs[j], rfl, rfl, seq_at (he l hl) hx, atI_nat (List.getElem?_eq_getElem hj), k j _ H1 (List.getElem?_eq_getElem hj) he hb1⟩
end
end Wn

/-! A def that runs where no repr is under way. -/
namespace Wn
open PySem PySem.Spec PyProof.Rows L2 Evl
structure FnG (P : Program) (w : World) (K : PySem.W.Frag) (mg : Str → Option Value) (base : Heap) (CX : CXT) (k : Nat) (f : Addr) (fd : FuncData) (ps : List Str) (sp : Sp) : Prop where
  size : ∀ vs H Q E, sp vs H Q E → vs.length = ps.length
  go : ∀ (A : Around), Room k A → A.guards = some [] → ∀ (outer : List Env) (s : Shared) (H : Hp), Env0 P w K mg base A outer s H → ∀ (args : Args) (us : List Value) (vs : List V), BindsTo s fd args (ps.zip us) → Vals vs us →
    ∀ (Q : VK) (E : XK), sp vs H Q E → codeAny (model P w) A (.call (.ref f) args) (CR CX outer P w H s Q E) s
section
variable {P : Program} {w : World} {K : PySem.W.Frag} {mg : Str → Option Value} {base : Heap} {CX : CXT} {k : Nat} {f : Addr} {fd : FuncData} {ps : List Str} {sp : Sp}
theorem FnG.of (F : FnOk P w K mg base CX k f fd ps sp) : FnG P w K mg base CX k f fd ps sp :=
  ⟨F.len, fun A hr _ outer s H e args us vs hb r Q E h => F.run A outer s H args us vs Q E hr e hb r h⟩
/-- the body, from «no repr is under way» -/
theorem okG {x qual : Str} {st : Stmt} {N : List Str} (F : Fun K x qual st f fd) (S : FnScope N ps (defScope st)) (len : ∀ vs H Q E, sp vs H Q E → vs.length = ps.length)
    (body : ∀ (cdv : Value) (A : Around) (outer : List Env) (s : Shared) (H : Hp) (vs : List V) (Q : VK) (E : XK), Room k (A.deeper (envOfC qual (defScope st) s.heap.objs.size f cdv)) → A.guards = some [] → sp vs H Q E →
      ∃ t, PSs (cxOf CX P w K mg base N qual (defScope st) f cdv A outer s H E) (defBody st) t ∧ t { nx := fun _ H' => Q .non H', rt := Q } (start N vs) H) : FnG P w K mg base CX (k + 1) f fd ps sp := by
  refine ⟨len, fun A hr hg outer s H e args us vs hb r Q E h => ?_⟩
  obtain ⟨oc, od, kV, doc, pm, an, cdv, ct, osl, rfl, lk, hcd⟩ := F.ex
  have hl := len _ _ _ _ h
  have KX : K.In s.heap := e.mod.kin.keeps fun b o z => (e.bs b o z).1
  have lim : s.heap.NoLimit := e.mod.nolimit.keeps fun b o z => (e.bs b o z).1
  have kinds : ∀ y ∈ ps.zip us, (defScope st).names.lookup y.1 = some .local ∨ ((defScope st).names.lookup y.1 = some .cell ∧ ((cellsFrom (s.heap.objs.size + 1) (defScope st).names []).lookup y.1).isSome = true) := by
    rintro ⟨n, v⟩ hy
    rcases S.par n (List.of_mem_zip hy).1 with q | q
    · exact Or.inl q
    · exact Or.inr ⟨q, PySem.W.cellsFrom_some _ _ _ (Or.inl q)⟩
  refine codeAny_call_function hr.depth (KX _ _ lk) rfl S.co S.gen rfl (PySem.W.codeRec_of KX hcd) (hb _ _ _ _ ?_)
  refine wpAny_newFunctionEnv_cells S.kind kinds fun env henv s1 ic => ?_
  cases henv
  refine ⟨lim.keeps ic.toInCall.keep, codeAny_func ?_⟩
  obtain ⟨t, ht, q⟩ := body cdv A outer s H vs Q E (hr.deeper _) hg h
  have I := inv_start (E := E) (CX := CX) S hr.hd e hl r ic
  refine wpAny_mono (ht.run [] s1 _ H _ I q) (fun fl s' z => ?_) fun _ _ z => z
  cases fl with
  | next =>
    obtain ⟨_, H', J, z⟩ := z
    exact ⟨V.non, H', J.os, J.bare, J.base, J.hok, rfl, z⟩
  | ret u =>
    obtain ⟨v, _, H', J, rv, z⟩ := z
    exact ⟨v, H', J.os, J.bare, J.base, J.hok, rv, z⟩
  | brk =>
    obtain ⟨_, _, _, z⟩ := z
    exact False.elim z
  | cont =>
    obtain ⟨_, _, _, z⟩ := z
    exact False.elim z
end
section
variable {X : Cx} {CX : CXT} {k : Nat} {f : Addr} {fd : FuncData} {ps : List Str} {sp : Sp} {dvs : List V} {ds : List Value} {E : XK} {x : Str} {p pos : Pos} {e : Expr} {es : List Expr} {t : TA}
theorem pe_callG (F : FnG X.prog X.w X.K X.mg X.base CX k f fd ps sp) (hr : Room k X.A) (gd : X.A.guards = some []) (hg : Gl X x) (hm : X.mg x = some (.ref f)) (hk : PySem.W.keepIn X.K (.ref f) = true) (hb : Binds X.K fd ps ds) (hd : Vals dvs ds) (hx : Passes CX X E)
    (ha : PA X (e :: es) t) (hdb : (x == ("__debug__" : Str)) = false := by decide) (he : starEach (e :: es) X.env = (false, eval e X.env) :: starEach es X.env := by rfl) (hpl : (backTo pos (starEach es X.env)).any (·.1) = false := by rfl) :
    PE X (.Call (.Name x p) (e :: es) [] pos) (tCall sp dvs E t) := by
  constructor
  intro pins s σ H Q I h
  refine wpAny_Call_Name_kw (ld_glob I hg hm (PySem.W.callWith_K (h₀ := X.base) I.ok.mod.kin hk (thn (ha.run pos pins s σ H _ I h) ?_) he hpl) hdb)
  rintro us s1 ⟨vs, H1, I1, r, q⟩
  refine ⟨I1.kIn, ?_⟩
  have r2 : Vals (vs ++ dvs) (us ++ ds) := r.append hd
  have hl : (us ++ ds).length = ps.length := r2.length.symm.trans (F.size _ _ _ _ q)
  refine wpAny_call (codeAny_mono (F.go X.A hr gd X.stack s1 H1 I1.env0 ⟨us, []⟩ _ _ (hb s1 us I1.kIn hl) r2 Q E q) ?_)
  rintro (er | fl) s' z
  · exact hx pins σ H1 s1 er s' I1 z
  · cases fl with
    | ret u => exact I1.after z
    | next => exact z.elim
    | brk => exact z.elim
    | cont => exact z.elim
end
/-! the law's call -/
theorem law_G {P : Program} {w : World} {K : PySem.W.Frag} {mg mb : Str → Option Value} {k : Nat} {fa a : Addr} {fd : FuncData} {x : Str} {sp : Sp} {s : Shared} {vs : List Value} {ns : List Int}
    (KX : K.In s.heap) (hns : s.heap.Ns mainGlobals mg) (hb : s.heap.Ns builtinsNs mb) (hbb : ∀ x : Str, x ≠ "__name__" → mb x = bootBuiltins x) (hlim : s.heap.NoLimit) (hg : s.gens = #[])
    (ha : s.heap.get? a = some { cls := .type "list", data := .seq vs.toArray }) (hi : IntsAre vs ns) (hl : ns.length ≤ sizeLine) (hr : Room k callerA)
    (F : ∀ base : Heap, K.In base → base.Ns mainGlobals mg → FnG P w K mg base CX0 k fa fd [x] sp) (hbind : ∀ (s : Shared) (u : Value), BindsTo s fd ⟨[u], []⟩ [(x, u)])
    (hsp : ∀ H : Hp, SqL K H a (ns.map V.int) → sp [.ref a] H (fun v _ => v = .bl true) fun _ _ _ => False) :
    codeAny (model P w) callerA (.call (.ref fa) ⟨[.ref a], []⟩) (fun r s' => r = .ok (.ret (.bool true)) ∧ OldK s.heap s'.heap ∧ s'.os = s.os ∧ AllBare s'.gens) s := by
  have rv := vals_ints hi
  -- what may be tracked: the script alone
  have run : ∀ H : Hp, (∀ b u, H b = some u → b = a ∧ ∃ o ys, u = .frz o (.lst ys)) → (∀ u, H a = some u → K.lookup a = none) → HOk P w H s.heap → SqL K H a (ns.map V.int) →
      codeAny (model P w) callerA (.call (.ref fa) ⟨[.ref a], []⟩) (fun r s' => r = .ok (.ret (.bool true)) ∧ OldK s.heap s'.heap ∧ s'.os = s.os ∧ AllBare s'.gens) s := by
    intro H only noK ok hS
    have free : ∀ {b : Addr} {o : Obj}, s.heap.get? b = some o → b ≠ a → H b = none := fun {b o} _ n => by
      cases e : H b with
      | none => rfl
      | some u => exact absurd (only b u e).1 n
    have old : ∀ {b : Addr} {o : Obj}, s.heap.get? b = some o → H b = none → (hidT s.heap H).get? b = some o := fun e n => hidT_get e n
    have spaces : ∀ {b : Addr} {m : Str → Option Value}, s.heap.Ns b m → (hidT s.heap H).Ns b m := by
      rintro b m ⟨o, es, ep, e, d, r⟩
      refine ⟨o, es, ep, old e (free e fun z => ?_), d, r⟩
      subst z
      rw [ha] at e
      cases e
      cases d
    have kb : K.In (hidT s.heap H) := fun b o e => by
      refine old (KX b o e) ?_
      cases q : H b with
      | none => rfl
      | some u =>
        obtain rfl := (only b u q).1
        rw [noK u q] at e
        cases e
    have md : Mod K mg (hidT s.heap H) := ⟨kb, spaces hns, ⟨mb, spaces hb, hbb⟩, hlim.elim fun mc z => ⟨mc, spaces z.1, z.2⟩⟩
    have e0 : Env0 P w K mg (hidT s.heap H) callerA [] s H := ⟨rfl, md, fun b o e => of_hidT e, Nat.le_of_eq (hidT_size _ _), trivial, fun b hb => (nomatch (show b ∈ ([] : List Addr) from hb)), ok, .of_eq hg⟩
    refine codeAny_mono ((F _ kb (spaces hns)).go callerA hr rfl [] s H e0 ⟨[.ref a], []⟩ [.ref a] [.ref a] (hbind s _) (.cons rfl .nil) _ _ (hsp H hS)) ?_
    rintro (er | fl) s' z
    · exact z.elim
    cases fl with
    | next => exact z.elim
    | brk => exact z.elim
    | cont => exact z.elim
    | ret u =>
      obtain ⟨v, H', os, bare, un, ok', rv', rfl⟩ := z
      obtain rfl : u = Value.bool true := rv'
      refine ⟨rfl, OldK.of_keep fun b o e => ?_, os, bare⟩
      cases q : H b with
      | none => exact un.keep b o e q (fun z => nomatch z) (by simp)
      | some u =>
        obtain ⟨rfl, ob, ys, rfl⟩ := only b u q
        have e1 := (ok _ _ q).1
        have e2 := (ok' _ _ (un.frzs _ _ _ q)).1
        rw [e] at e1
        cases e1
        exact e2
  have lenV := hi.length
  cases hk : K.lookup a with
  | some o =>
    have e := KX a o hk
    rw [ha] at e
    cases e
    exact run (fun _ => none) (fun b u z => nomatch z) (fun u z => nomatch z) (fun b u z => nomatch z) (.inr ⟨_, vs.toArray, _, hk, rfl, rfl, rfl, by rw [List.size_toArray, lenV]; exact hl, by simpa using rv⟩)
  | none =>
    refine run (fun b => if b = a then some (.frz { cls := .type "list", data := .seq vs.toArray } (.lst (ns.map V.int))) else none) ?_ (fun _ _ => hk) ?_ (.inl (.inr ⟨_, if_pos rfl⟩))
    · intro b u z
      try dsimp only at z
      by_cases hb : b = a
      · rw [if_pos hb] at z
        cases z
        exact ⟨hb, _, _, rfl⟩
      · rw [if_neg hb] at z
        cases z
    · intro b u z
      try dsimp only at z
      by_cases hb : b = a
      · rw [if_pos hb] at z
        cases z
        subst hb
        exact ⟨ha, by rw [List.length_map]; exact hl, vs, _, rv, ha⟩
      · rw [if_neg hb] at z
        cases z
theorem walkG {l : PySem.W.OpenLaw} {n k : Nat} {q : Program} {loose : List Str} {XP : (Str → Option Value) → Heap → Prop} {YP : World → Heap → Prop} {d : DefRec} {K : Params → PySem.W.Frag} {sp : PySem.W.Frag → Sp} {x : Str}
    (hn : l.most = some n) (hn2 : n ≤ sizeLine) (hdf : d.params.defaults = []) (hr : Room k callerA) (hY : ∀ (w : World) (h : Heap), YP w h → (K w.params).In h)
    (F : ∀ (w : World) (mg : Str → Option Value) (fa : Addr) (h : Heap), (K w.params).In h → h.Ns mainGlobals mg → mg d.name = some (.ref fa) →
      ∃ fd : FuncData, (∀ (s : Shared) (u : Value), BindsTo s fd ⟨[u], []⟩ [(x, u)]) ∧ ∀ base : Heap, (K w.params).In base → base.Ns mainGlobals mg → FnG l.prog w (K w.params) mg base CX0 k fa fd [x] (sp (K w.params)))
    (hsp : ∀ (K : PySem.W.Frag) (H : Hp) (a : Addr) (ns : List Int), ns.length ≤ n → SqL K H a (ns.map V.int) → sp K [.ref a] H (fun v _ => v = .bl true) fun _ _ _ => False) :
    PySem.W.WalkO q loose XP YP l.row.toRowW d [] (fun f vs => PySem.call f vs) := by
  refine Att.attach_call hn hdf fun w s₀ s₁ mg mb fa o pm cd doc a vs ns G Y ho hd hcd hmg hobj hints hlen hg => ?_
  obtain ⟨fd, hb, hF⟩ := F w mg fa _ (hY w _ Y) G.T.g hmg
  exact law_G (hY w _ Y) G.T.g G.T.b G.T.builtins G.T.nolimit hg hobj hints (Nat.le_trans hlen hn2) hr hF hb fun H hS => hsp _ H a ns hlen hS
end Wn

namespace Wn
open PySem PySem.Spec PyProof.Rows L2 Evl
/-! how long a datum's repr may be -/
mutual
def wt : PyData → Nat
  | .none => 4
  | .bool _ => 5
  | .int _ => 2000
  | .str x => 10 * x.length + 2
  | .list xs => wtA xs + 3
  | .tuple xs => wtA xs + 3
  | .dict _ => 0
def wtA : List PyData → Nat
  | [] => 0
  | x :: xs => wt x + 2 + wtA xs
end
mutual
def okR : PyData → Bool
  | .none => true
  | .bool _ => true
  | .int i => decide (i.natAbs.log2 < 1920)
  | .str x => x.cps.toList.all fun c => decide (c < 16 ^ 8)
  | .list xs => okRA xs
  | .tuple xs => okRA xs
  | .dict _ => false
def okRA : List PyData → Bool
  | [] => true
  | x :: xs => okR x && okRA xs
end
mutual
theorem okR_show : ∀ d : PyData, okR d = true → d.showable = true ∧ d.hasDict = false
  | .none, _ => by simp [PyData.showable, PyData.hasDict]
  | .bool _, _ => by simp [PyData.showable, PyData.hasDict]
  | .str _, _ => by simp [PyData.showable, PyData.hasDict]
  | .int i, h => by
    simp only [okR] at h
    simp only [PyData.showable, PyData.hasDict]
    exact ⟨h, trivial⟩
  | .list xs, h => by
    simp only [okR] at h
    simp only [PyData.showable, PyData.hasDict]
    exact okRA_show xs h
  | .tuple xs, h => by
    simp only [okR] at h
    simp only [PyData.showable, PyData.hasDict]
    exact okRA_show xs h
  | .dict _, h => by simp only [okR] at h; cases h
theorem okRA_show : ∀ ds : List PyData, okRA ds = true → PyData.showableAll ds = true ∧ PyData.hasDictAll ds = false
  | [], _ => by simp [PyData.showableAll, PyData.hasDictAll]
  | d :: ds, h => by
    simp only [okRA, Bool.and_eq_true] at h
    have h1 := okR_show d h.1
    have h2 := okRA_show ds h.2
    simp only [PyData.showableAll, PyData.hasDictAll, h1.1, h1.2, h2.1, h2.2, Bool.and_self, Bool.or_self, and_self]
end
theorem shownAll_length : ∀ ds : List PyData, (PyData.shownAll ds).length = ds.length
  | [] => rfl
  | d :: ds => by simp only [PyData.shownAll, List.length_cons, shownAll_length ds]
mutual
theorem shown_le : ∀ d : PyData, okR d = true → d.shown.length ≤ wt d
  | .none, _ => by simp only [PyData.shown, wt]; decide +kernel
  | .bool b, _ => by cases b <;> (simp only [PyData.shown, wt]; decide +kernel)
  | .int i, h => by
    simp only [okR] at h
    have e := int_text_length_le (k := 1920) (by decide) (of_decide_eq_true h)
    simp only [PyData.shown, wt]
    rw [PySem.ofString_length]
    omega
  | .str x, h => by
    simp only [okR, List.all_eq_true, decide_eq_true_eq] at h
    simp only [PyData.shown, wt]
    exact StrLaws.reprText_len x h
  | .list xs, h => by
    simp only [okR] at h
    have e := listText_len_le (PyData.shownAll xs)
    have f := shownAll_le xs h
    rw [shownAll_length] at e
    simp only [PyData.shown, wt]
    omega
  | .tuple xs, h => by
    simp only [okR] at h
    have e := fmt_text (PyData.shownAll xs)
    have f := shownAll_le xs h
    have g : piled (PyData.shownAll xs) = ((PyData.shownAll xs).map (·.length)).sum + 2 * xs.length := by
      rw [← shownAll_length xs]
      unfold piled
      generalize PyData.shownAll xs = l
      induction l with
      | nil => rfl
      | cons a l ih => simp only [List.map_cons, List.sum_cons, List.length_cons] at ih ⊢; omega
    simp only [PyData.shown, wt]
    omega
  | .dict _, h => by simp only [okR] at h; cases h
theorem shownAll_le : ∀ ds : List PyData, okRA ds = true → ((PyData.shownAll ds).map (·.length)).sum + 2 * ds.length ≤ wtA ds
  | [], _ => by simp [PyData.shownAll, wtA]
  | d :: ds, h => by
    simp only [okRA, Bool.and_eq_true] at h
    have h1 := shown_le d h.1
    have h2 := shownAll_le ds h.2
    simp only [PyData.shownAll, wtA, List.map_cons, List.sum_cons, List.length_cons]
    omega
end
/-- repr(x), x data -/
def rRepr (K : PySem.W.Frag) : List V → Hp → VK → Prop := fun xs H Q => ∃ x d, xs = [x] ∧ Dp K H x d ∧ okR d = true ∧ d.depth ≤ 40 ∧ wt d ≤ 16777216 ∧ Q (.str d.shown) H
section
variable {X : Cx}
theorem cRepr (gd : X.A.guards = some []) (hu : X.A.units + 64 < cLine) : CallR X (.builtin "repr") (rRepr X.K) := by
  intro pins s σ H xs us Q I r h
  obtain ⟨x, d, rfl, dp, ok, dd, dz, q⟩ := h
  obtain ⟨u, rfl, rx⟩ := vals1 r
  obtain ⟨as, rd⟩ := Dp.reads I d x u dp rx
  have sh := okR_show d ok
  have sz : d.shown.length ≤ sizeLine := Nat.le_trans (shown_le d ok) (by rw [sizeLine_eq]; exact dz)
  cases rd with
  | none => exact PySem.P.repr_of_none ⟨.str _, H, I.tok _, ⟨_, rfl⟩, q⟩
  | bool b => exact PySem.P.repr_of_bool ⟨.str _, H, I.tok _, ⟨_, rfl⟩, q⟩
  | int i t => exact PySem.P.repr_of_int (by simpa [okR] using ok) ⟨.str _, H, I.tok _, ⟨_, rfl⟩, q⟩
  | str z t => exact PySem.P.repr_of_str ⟨.str _, H, I.tok _, ⟨_, rfl⟩, q⟩ sz
  | list h1 h2 h3 h4 => exact repr_of_reads' (.list h1 h2 h3 h4) sh.1 (PyData.noDict_hsm sh.2) gd (by omega) (fun _ _ e => e) (fun h' u tk hk => ⟨.str _, H, I.kept hk, ⟨_, rfl⟩, q⟩) sz
  | tuple h1 h2 h3 h4 => exact repr_of_reads' (.tuple h1 h2 h3 h4) sh.1 (PyData.noDict_hsm sh.2) gd (by omega) (fun _ _ e => e) (fun h' u tk hk => ⟨.str _, H, I.kept hk, ⟨_, rfl⟩, q⟩) sz
  | dict => simp only [okR] at ok; cases ok
end
end Wn

namespace Wn
open PySem PySem.Spec PyProof.Rows L2 Evl
section
variable {X : Cx}
/-- *e among targets -/
theorem pgs_star {e : Expr} {es : List Expr} {p : Pos} {t : TG} {u : TGs} (h1 : PG X e t) (h2 : PGs X es u)
    (hs : (assignEach (.Starred e p :: es) X.env).map (·.2) = assign e X.env :: (assignEach es X.env).map (·.2) := by rfl) : PGs X (.Starred e p :: es) (gCons t u) := by
  constructor
  rintro pins s σ H vs us Q I r ⟨v, vr, rfl, h⟩
  cases r with
  | cons r rr =>
    rw [hs]
    exact assignInOrder_cons (thn (h1.run pins s σ H _ _ _ I r h) fun _ s1 z => z.elim fun σ1 z => z.elim fun H1 z => h2.run pins s1 σ1 H1 _ _ Q z.1 rr z.2)
/-- x, *rest = a list that is not empty -/
def gHead (K : PySem.W.Frag) (t : TGs) : TG := fun v σ H Q => ∃ (a : Addr) (x : V) (xs : List V), v = .ref a ∧ SqL K H a (x :: xs) ∧ xs.length ≤ 16000 ∧ ∀ p, H p = none → t [x, .ref p] σ (upd H p (.lst xs)) Q
theorem head_items {prog : Program} {w : World} {A : Around} {E : Value → Shared → Prop} {s : Shared} {l : Addr} {u : Value} {us : List Value} {Q : List Value → Shared → Prop} (hl : s.heap.IsList l (u :: us).toArray) (hh : A.handled = none) (hz : us.length ≤ 16000)
    (h : ∀ (h' : Heap) (tk : Nat), (∀ b o, s.heap.get? b = some o → h'.get? b = some o) → Q [u, .ref h'.objs.size] { s with heap := h'.push { cls := .type "list", data := .seq us.toArray }, toks := tk }) : wpAny (model prog w) A (unpackItems (.ref l) 2 (some 1)) Q E s := by
  have ne : l ≠ s.heap.objs.size := hl.elim fun o z => Nat.ne_of_lt (Heap.lt_size z.1)
  unfold unpackItems notIterableAtAll
  refine wpAny_bind (wpAny_bind (wpAny_specialOf hl.typeIs slot_list_iter.lookup (wpAny_pure ?_)))
  simp only [Bool.false_eq_true, if_false]
  refine wpAny_bind (wpAny_holding (wpAny_pyIter_list hl (wpAny_bind (wpAny_holding (PySem.W.kun_draw ne 1 0 _ _ ⟨_, Heap.get?_push_size _ rfl, rfl, rfl⟩ (hl.push _) (by simp) fun h₁ hit hs => ?_)))))
  have hl₁ : h₁.IsList l (u :: us).toArray := (hl.push _).extBut hs.extBut ne
  obtain ⟨oi, hoi, _⟩ := id hit
  obtain ⟨ol, hol, _⟩ := id hl₁
  show wpAny _ _ (if [u].length < 1 then _ else _) _ _ _
  rw [if_neg (by simp)]
  refine wpAny_bind (wpAny_holding (PySem.W.kun_collect (s := { s with heap := h₁ }) (T := "list_iterator") (.inr (.inr (.inl rfl))) (Walks.list (A := A.in1) hh s.heap.objs.size l ne (u :: us).toArray) (fun j z st => st.1.typeIs) (k := 1) (by simp) ⟨hit, hl₁⟩ (Heap.lt_size hoi) (Heap.lt_size hol) (fun h₂ tk hk => ?_) (by rw [sizeLine_eq, List.size_toArray, List.length_cons]; omega)))
  show wpAny _ _ (if us.length < 2 - 1 - 1 then _ else _) _ _ _
  rw [if_neg (by omega)]
  show wpAny _ _ (newList (us.take (us.length - 0)) >>= fun d => pure ([u] ++ [d] ++ us.drop (us.length - 0))) _ _ _
  rw [Nat.sub_zero, List.take_length, List.drop_length]
  refine wpAny_bind (wpAny_newList (wpAny_pure (h h₂ tk fun b o e => hk b o (Nat.ne_of_lt (Heap.lt_size e)) (hs.extBut b o (Nat.ne_of_lt (Heap.lt_size e)) (Heap.get?_push_of_some _ e)))) (by rw [sizeLine_eq]; omega))
theorem pg_head {es : List Expr} {k : Nat} {pos : Pos} {t : TGs} (hc : X.calm = true) (h : PGs X es t) (hn : (assignEach es X.env).length = 2 := by rfl) (hst : (assignEach es X.env).findIdx? (·.1) = some 1 := by rfl) : PG X (.Tuple es k pos) (gHead X.K t) := by
  constructor
  rintro pins s σ H v u Q I r ⟨a, x, xs, rfl, hq, hz, hw⟩
  cases r
  obtain ⟨its, rv, pl, _⟩ := I.list hq
  cases rv with
  | @cons _ y _ ys ry rs =>
    rw [PyProof.Rows.assign_Tuple]
    refine wpAny_bind (wpAny_standAt ?_)
    unfold unpack
    rw [hn, hst]
    refine wpAny_bind (wpAny_holding (head_items pl.isList (I.ok.hd hc) (by rw [← rs.length]; exact hz) fun h' tk hk => ?_))
    have I1 : Inv X pins σ H { s with heap := h' } := I.kept (t' := s.toks) hk
    have nw : H h'.objs.size = none := I1.hok.fresh (Nat.le_refl _)
    have I2 : Inv X pins σ (upd H h'.objs.size (.lst xs)) { s with heap := h'.push { cls := .type "list", data := .seq ys.toArray }, toks := tk } :=
      I1.laid (t' := tk) (fun b o e => Heap.get?_push_of_some _ e) (Nat.le_refl _) ⟨by rw [sizeLine_eq]; omega, ys, 0, rs, Heap.get?_push_size _ rfl⟩
    exact h.run pins _ σ _ [x, .ref h'.objs.size] _ Q I2 (.cons ry (.cons rfl .nil)) (hw _ nw)
end
/-! zip(a tuple, a list) to two names -/
def Ztl (K : PySem.W.Frag) (a b : Addr) : It :=
  ⟨fun i H => ∃ (xs ys : List V), SqT K H a xs ∧ SqL K H b ys ∧ i < xs.length ∧ i < ys.length,
    fun i H v H' => ∃ T x y, v = .ref T ∧ H T = none ∧ H' = upd H T (.tup [x, y]) ∧ (∀ xs, SqT K H a xs → xs[i]? = some x) ∧ ∀ ys, SqL K H b ys → ys[i]? = some y,
    fun i H => ∃ xs ys : List V, SqT K H a xs ∧ SqL K H b ys ∧ i = min xs.length ys.length⟩
theorem walk_ztl {K : PySem.W.Frag} {a b : Addr} {xs ys : List V} {n : Nat} (hn : n = min xs.length ys.length) :
    Walk (Ztl K a b) n (fun H => SqT K H a xs ∧ SqL K H b ys) (YPair (fun i => xs[i]?) (fun i => ys[i]?)) where
  goes := fun i H hi h => ⟨xs, ys, h.1, h.2, by omega, by omega⟩
  stops := fun H h => ⟨xs, ys, h.1, h.2, hn⟩
  yields := fun i H x H' _ h ⟨T, y, z, e1, e2, e3, e4, e5⟩ => ⟨T, y, z, e1, e2, e3, e4 _ h.1, e5 _ h.2⟩
abbrev ztlSt (a b z TI TO i1 i2 : Addr) (i : Nat) (h : Heap) : Prop := IsZip h z TI TO .none ∧ IsTupOf2 h TI (.ref i1) (.ref i2) ∧ (∃ x y, IsTupOf2 h TO x y) ∧ h.IsTupleIter i1 a i ∧ h.IsListIter i2 b i
theorem istup {h : Heap} {a : Addr} {xs : Array Value} (p : IsTup h a xs) : h.IsTuple a xs := by
  obtain ⟨o, e, c, n, d⟩ := p
  exact ⟨o, e, c, n, d⟩
theorem turn_ztl {P : Program} {w : World} {K : PySem.W.Frag} {elts : List Expr} {kk : Nat} {tpos : Pos} {a b z TI TO i1 i2 : Addr} (S : ZipSep2 z TI TO i1 i2 [i1, a] [i2, b]) (n1 : a ≠ i1) (n2 : b ≠ i2) :
    Turn P w K (.Tuple elts kk tpos) (Ztl K a b) [z, TI, TO, i1, i2] z (ztlSt a b z TI TO i1 i2) where
  mem := List.mem_cons_self ..
  obj := by
    rintro i h ⟨hz, hTI, ⟨x, y, hTO⟩, ⟨o1, e1, _, d1⟩, ⟨o2, e2, _, d2⟩⟩ c hc
    simp only [List.mem_cons, List.not_mem_nil, or_false] at hc
    rcases hc with rfl | rfl | rfl | rfl | rfl
    · exact ⟨_, hz, fun v q => nomatch q⟩
    · exact ⟨_, hTI, fun v q => nomatch q⟩
    · exact ⟨_, hTO, fun v q => nomatch q⟩
    · exact ⟨o1, e1, fun v q => by rw [d1] at q; cases q⟩
    · exact ⟨o2, e2, fun v q => by rw [d2] at q; cases q⟩
  keep := by
    rintro i h h' ⟨hz, hTI, ⟨x, y, hTO⟩, h1, h2⟩ k
    exact ⟨k z (by simp) _ hz, k TI (by simp) _ hTI, ⟨x, y, k TO (by simp) _ hTO⟩, h1.at fun o q => k i1 (by simp) o q, h2.at fun o q => k i2 (by simp) o q⟩
  item := by
    intro X hP hw hK hc i pins s σ H E I hf st hg
    subst hP hw hK
    obtain ⟨xs, ys, hqx, hqy, hx, hy⟩ := hg
    obtain ⟨its, rv, p1, _⟩ := I.tuple hqx
    obtain ⟨its2, rv2, p2, _⟩ := I.list hqy
    have l1 := rv.length
    have l2 := rv2.length
    have G := GoesN.zip2 (prog := X.prog) (w := X.w) (A := X.A) (elts := elts) (x1 := kk) (pos := tpos) S (Draws.tuple (A := X.A.in1) (I.ok.hd hc) i1 a n1 its.toArray) (Draws.list (A := X.A.in1) (I.ok.hd hc) i2 b n2 its2.toArray)
    obtain ⟨s1, s2, s3, s4, s5⟩ := st
    refine wpAny_mono (G.goes i s (fun v s2 => ∃ x H', Inv X pins σ H' s2 ∧ RelV x v ∧ (Ztl X.K a b).yld i H x H' ∧ ztlSt a b z TI TO i1 i2 (i + 1) s2.heap ∧ ∀ c ∈ [z, TI, TO, i1, i2], H' c = none) E (by simp; omega) ⟨s1, s2, s3, ⟨s4, (istup p1)⟩, ⟨s5, p2.isList⟩⟩ ?_) (fun r s1 ⟨v, e, q⟩ => ⟨v, e, wpAny_mono q (fun _ _ z => z) fun _ _ z => z⟩) fun _ _ z => z
    rintro v h' tk ⟨T, u, u2, rfl, nT, hu, hu2, hT⟩ ⟨t1, t2, t3, t4, t5⟩ hk _
    have hu' : its[i]? = some u := by simpa using hu
    have hu2' : its2[i]? = some u2 := by simpa using hu2
    obtain ⟨x, ex⟩ : ∃ x, xs[i]? = some x := ⟨_, List.getElem?_eq_getElem hx⟩
    obtain ⟨y, ey⟩ : ∃ y, ys[i]? = some y := ⟨_, List.getElem?_eq_getElem hy⟩
    obtain ⟨v1, ev1, r1⟩ := rv.get ex
    obtain ⟨v2, ev2, r2⟩ := rv2.get ey
    rw [hu'] at ev1
    rw [hu2'] at ev2
    cases ev1
    cases ev2
    obtain ⟨oT, eT, cT, nn, dT⟩ := hT
    have new : ObjOk X.prog X.w (upd H T (.tup [x, y])) h' T (.tup [x, y]) := ⟨by show 2 ≤ sizeLine; decide, [u, u2], .cons r1 (.cons r2 .nil), ⟨oT, eT, cT, nn, dT⟩⟩
    have I1 := I.turnedNew (t' := tk) (ch := [z, TO, i1, i2]) hk (fun c hcm => hf c (by simp only [List.mem_cons, List.not_mem_nil, or_false] at hcm ⊢; rcases hcm with q | q | q | q <;> simp [q])) nT new
    refine ⟨.ref T, _, I1, rfl, ⟨T, x, y, rfl, I.hok.fresh nT, rfl, fun l hl => by rw [I.tuple_inj hl hqx]; exact ex, fun l hl => by rw [I.list_inj hl hqy]; exact ey⟩, ⟨t1, t2, t3, t4.1, t5.1⟩, fun c hcm => ?_⟩
    have hlt : c < s.heap.objs.size := by
      obtain ⟨x0, y0, hTO⟩ := s3
      obtain ⟨_, e4, _⟩ := s4
      obtain ⟨_, e5, _⟩ := s5
      simp only [List.mem_cons, List.not_mem_nil, or_false] at hcm
      rcases hcm with rfl | rfl | rfl | rfl | rfl
      · exact Heap.lt_size s1
      · exact Heap.lt_size s2
      · exact Heap.lt_size hTO
      · exact Heap.lt_size e4
      · exact Heap.lt_size e5
    rw [upd_ne (Nat.ne_of_lt (Nat.lt_of_lt_of_le hlt nT))]
    exact (hf c hcm).1
  done := by
    intro X hP hw hK hc i pins s σ H E I hf st hg
    subst hP hw hK
    obtain ⟨xs, ys, hqx, hqy, hend⟩ := hg
    obtain ⟨its, rv, p1, _⟩ := I.tuple hqx
    obtain ⟨its2, rv2, p2, _⟩ := I.list hqy
    have l1 := rv.length
    have l2 := rv2.length
    have G := GoesN.zip2 (prog := X.prog) (w := X.w) (A := X.A) (elts := elts) (x1 := kk) (pos := tpos) S (Draws.tuple (A := X.A.in1) (I.ok.hd hc) i1 a n1 its.toArray) (Draws.list (A := X.A.in1) (I.ok.hd hc) i2 b n2 its2.toArray)
    obtain ⟨s1, s2, s3, s4, s5⟩ := st
    have hn : i = min its.toArray.size its2.toArray.size := by simp; omega
    refine G.stops s (fun s1 => Inv X pins σ H s1) E (by rw [← hn]; exact ⟨s1, s2, s3, ⟨s4, (istup p1)⟩, ⟨s5, p2.isList⟩⟩) fun h' tk hk _ => ?_
    exact I.turnedL (t' := tk) (ch := [z, TO, i1, i2]) hk fun c hcm => hf c (by simp only [List.mem_cons, List.not_mem_nil, or_false] at hcm ⊢; rcases hcm with q | q | q | q <;> simp [q])
  self := fun A i s Q E st h => wpAny_pyIter_zip st.1 h
def iZtl (K : PySem.W.Frag) (ta : TA) : TI := fun σ H R => ta σ H fun vs H1 => ∃ a b xs ys, vs = [.ref a, .ref b] ∧ SqT K H1 a xs ∧ SqL K H1 b ys ∧ R (Ztl K a b) H1
theorem pi_ztl {X : Cx} {e e2 : Expr} {ta : TA} {p pos tpos : Pos} {elts : List Expr} {kk : Nat} (hg : Gl X "zip") (hm : X.mg "zip" = none) (ha : PA X [e, e2] ta)
    (hs : starEach [e, e2] X.env = (false, eval e X.env) :: starEach [e2] X.env := by rfl) (hpl : (backTo pos (starEach [e2] X.env)).any (·.1) = false := by rfl) :
    PI X (.Tuple elts kk tpos) (.Call (.Name "zip" p) [e, e2] [] pos) (iZtl X.K ta) := by
  constructor
  intro pins s σ H R I h
  refine Call_ (ld_blt I hg hm PyProof.Rows.boot_zip (PyProof.Rows.callWith_type1 (thn (ha.run pos pins s σ H _ I h) ?_) hs hpl))
  rintro us s1 ⟨vs, H1, I1, r1, a, b, xs, ys, rfl, hqx, hqy, q⟩
  obtain ⟨u1, u2, rfl, ra, rb⟩ := vals2 r1
  obtain rfl : u1 = Value.ref a := ra
  obtain rfl : u2 = Value.ref b := rb
  obtain ⟨its, rv, p1, _⟩ := I1.tuple hqx
  obtain ⟨its2, rv2, p2, _⟩ := I1.list hqy
  have la : a < s1.heap.objs.size := p1.elim fun o z => Heap.lt_size z.1
  have lb : b < s1.heap.objs.size := p2.lt
  refine zip_begins2 (begins_tuple a its.toArray) (begins_list b its2.toArray) (istup p1) p2.isList fun h' hz hTI hTO e1 e2 hsz hk => wpAny_pyIter_zip hz ?_
  have I2 : Inv X pins σ H1 { s1 with heap := h' } := I1.kept (t' := s1.toks) hk
  refine ⟨s1.heap.objs.size + 4, [s1.heap.objs.size + 4, s1.heap.objs.size + 2, s1.heap.objs.size + 3, s1.heap.objs.size, s1.heap.objs.size + 1], _, _, H1, rfl, I2, turn_ztl (zip_sep2 (fp1 := [a]) (fp2 := [b]) (by simpa using la) (by simpa using lb)) (Nat.ne_of_lt la) (Nat.ne_of_lt (Nat.lt_succ_of_lt lb)), ⟨hz, hTI, ⟨_, _, hTO⟩, ⟨_, e1, rfl, rfl⟩, ⟨_, e2, rfl, rfl⟩⟩, fun c hcm => ?_, q⟩
  have hle : s1.heap.objs.size ≤ c := by
    simp only [List.mem_cons, List.not_mem_nil, or_false] at hcm
    rcases hcm with rfl | rfl | rfl | rfl | rfl
    · exact Nat.le_add_right _ _
    · exact Nat.le_add_right _ _
    · exact Nat.le_add_right _ _
    · exact Nat.le_refl _
    · exact Nat.le_add_right _ _
  exact I1.fpOk hle (I1.hok.fresh hle)
end Wn

namespace Wn
open PySem PySem.Spec PyProof.Rows L2 Evl
local macro_rules | `(tactic| walk_at "wn1") => `(tactic| first | ((with_reducible show (if (!decide _) = true then _ else _)); refine' g_nes ?_) | ((with_reducible show (if (decide _) = true then _ else _)); refine' g_es ?_) | with_reducible first
  | (refine' g_var ?h ?q; (case h => with_unfolding_all rfl))
  | refine' g_c ?_ | refine' g_op ?_ | refine' g_rI0 ?_ | refine' g_asg ?_ | refine' g_name ?_ | refine' g_seq ?_ | refine' g_ret ?_ | refine' g_retN ?_ | refine' g_next ?_ | refine' g_drop ?_
  | refine' g_nil ?_ | refine' g_cons ?_ | refine' g_cb ?_ | refine' g_test ?_ | refine' g_bl ?_ | refine' g_if ?_ | refine' g_ifs ?_ | refine' g_not ?_ | refine' g_part ?_ | refine' g_pint ?_ | refine' g_nopart ?_ | refine' g_call ?_
  | (refine' g_mul ?h ?q; (case h => with_unfolding_all first | exact Or.inl ⟨by decide, by decide⟩ | exact Or.inr ⟨by decide, by decide⟩ | exact Or.inl ⟨by omega, by omega⟩ | exact Or.inr ⟨by omega, by omega⟩))
  | (refine' g_mod ?h ?q; (case h => with_unfolding_all first | decide | omega))
  | refine' g_rIsN ?_ | refine' g_rNotN ?_ | refine' g_max2 ?_ | refine' g_min2 ?_ | refine' g_and ?_ | refine' g_or ?_ | refine' g_orV ?_ | refine' g_andV ?_ | refine' g_notV ?_ | refine' g_m1 ?_ | refine' g_yes ?_ | refine' g_bm ?_ | refine' g_bm0 ?_
  | (refine' g_tyL ?h ?q; (case h => first | assumption | exact upd_same))
  | refine' g_m0 ?_ | refine' g_tB ?_ | refine' g_isS ?_ | refine' g_bT ?_ | refine' g_bF ?_ | refine' g_bNT ?_ | refine' g_callK ?_ | refine' g_bNF ?_
  | (refine' g_lenL ?h ?q; (case h => first | assumption | exact upd_same))
  | refine' g_un ?_ | refine' g_rint _ ?_ | refine' g_rabs ?_ | refine' g_sl ?_ 
  | (refine' g_ixL ?h ?a ?q; (case h => first | assumption | exact upd_same); (case a => with_unfolding_all rfl))
  | (refine' g_div ?h0 ?h1 ?q; (case h0 => with_unfolding_all first | decide | omega); (case h1 => with_unfolding_all first | decide | omega))
  | refine' g_sub ?_
  | (refine' g_setL ?h ?a ?q; (case h => first | assumption | exact upd_same); (case a => with_unfolding_all rfl))
  | refine' g_lst ?_ | refine' g_tup ?_
  | (refine' g_rEq ?h ?q; (case h => with_unfolding_all rfl)) | (refine' g_rNe ?h ?q; (case h => with_unfolding_all rfl)))
local macro_rules | `(tactic| walk_at "wn") => `(tactic| repeat walk_at "wn1")

abbrev sIsWord : Stmt := top 5
abbrev sShowPart : Stmt := top 9
abbrev sShowCall : Stmt := top 10
abbrev sShowCalls : Stmt := top 11
abbrev sIsInt : Stmt := top 12
abbrev sIsArg : Stmt := top 13
abbrev sReadArg : Stmt := top 14
abbrev sCallOrNone : Stmt := top 15
abbrev sReadCall : Stmt := top 16
abbrev sReadCalls : Stmt := top 17
/-! str(x), x an int or a text -/
def rStr1 : List V → Hp → VK → Prop := fun xs H Q => (∃ i : Int, xs = [.int i] ∧ i.natAbs.log2 < 1920 ∧ Q (.str (toString i)) H) ∨ ∃ a, xs = [.str a] ∧ Q (.str a) H
theorem cStr1 {X : Cx} : CallR X (.type "str") rStr1 := by
  rintro pins s σ H xs us Q I r (h | h)
  · exact call_str_int pins s σ H xs us Q I r h
  · exact SkE.call_str_str pins s σ H xs us Q I r h
/-! walked: the list or tuple at a name -/
def iSeqV (K : PySem.W.Frag) (i : Nat) : TI := fun σ H R => ∃ a, σ[i]? = some (some (.ref a)) ∧ ((∃ xs, SqL K H a xs ∧ R (Itl K a) H) ∨ ∃ xs, SqT K H a xs ∧ R (Itt K a) H)
theorem pi_seqV {X : Cx} {tg e : Expr} {i : Nat} (h : PE X e (tVar i)) : PI X tg e (iSeqV X.K i) := by
  constructor
  rintro pins s σ H R I ⟨a, e1, h1 | h1⟩
  · exact (pi_list (tg := tg) h).run pins s σ H R I ⟨_, e1, a, rfl, ⟨_, h1.choose_spec.1⟩, h1.choose_spec.2⟩
  · exact (pi_tup (tg := tg) h).run pins s σ H R I ⟨_, e1, a, rfl, ⟨_, h1.choose_spec.1⟩, h1.choose_spec.2⟩
/-! what the top holds -/
def kindsL : List (Str × List Str) := [("new_source", ["integer"]), ("new_set", ["integer"]), ("copy", ["integer", "integer", "optional"]), ("close", ["integer", "integer"]), ("fork", ["integer"]), ("end", ["integer"]), ("arrive", ["integer", "integer", "integer"]), ("finish", ["integer", "integer"]),
  ("read", ["integer", "integer", "optional"]), ("add", ["integer", "integer", "integer", "integer", "word"]), ("change", ["integer", "integer", "integer", "word"]), ("remove", ["integer", "integer", "integer"]), ("wait", ["integer", "integer", "integer"]), ("numbers", ["integer"]), ("same", ["integer", "integer", "integer", "integer"]), ("units", ["integer", "integer"])]
def wordsL : List Str := ["level", "edge", "once"]
structure CallTxt (K : PySem.W.Frag) (w : World) (mg : Str → Option Value) : Prop where
  words : ∃ a, mg "WORDS" = some (.ref a) ∧ ∀ H, SqT K H a (wordsL.map V.str)
  args : ∃ d es n, mg "ARGUMENTS" = some (.ref d) ∧ KDict K w d es n ∧ ∀ p ∈ kindsL, ∃ t, PySem.W.nsIn K d p.1 = some (some (.ref t)) ∧ ∀ H, SqT K H t (p.2.map V.str)
  dash : ∃ t, mg "NONE_TEXT" = some (.str "-" t)
  nine : ∃ t, mg "MOST_DIGITS" = some (.int 9 t)
  len : mg "len" = none
  str : mg "str" = none
  int : mg "int" = none
  all : mg "all" = none
  zip : mg "zip" = none
  enum : mg "enumerate" = none
  isin : mg "isinstance" = none
section
variable {P : Program} {w : World} {K : PySem.W.Frag} {mg : Str → Option Value} {base : Heap}
def spIsWord : Sp := fun vs H Q _ => ∃ x : Str, vs = [.str x] ∧ Q (.bl (inV (.str x) (wordsL.map V.str))) H
theorem scIsWord : FnScope ["x"] ["x"] (defScope sIsWord) := ⟨rfl, rfl, rfl, by decide +kernel, rfl, by decide +kernel, by decide +kernel⟩
theorem okIsWord {f : Addr} {fd : FuncData} (F : Fun K "is_word" "is_word" sIsWord f fd) (T : CallTxt K w mg) : FnOk P w K mg base CX0 1 f fd ["x"] spIsWord := by
  refine F.ok scIsWord (fun vs H Q E h => ?_) (fun cdv A outer s H vs Q E hr h => ?_)
  · obtain ⟨x, rfl, _⟩ := h
    rfl
  · obtain ⟨x, rfl, k⟩ := h
    obtain ⟨aW, gW, sW⟩ := T.words
    refine ⟨_, pss_one (ps_ret (pe_cmpR op_in_seq (pv 0) (pe_glob (v := .ref aW) (by rfl) gW rfl) (by rfl))), ?_⟩
    walk_at "wn"
    exact ⟨aW, _, rfl, .inr (sW _), rfl, by decide, k⟩
theorem log_small {n : Nat} (h : n ≤ 999999999) : ((n : Nat) : Int).natAbs.log2 < 1920 := by
  rw [Int.natAbs_natCast]
  by_cases z : n = 0
  · rw [z]
    decide
  · have : n.log2 < 30 := (Nat.log2_lt z).mpr (Nat.lt_of_le_of_lt h (by decide))
    omega
/-- an argument's text -/
def pt : V → Str
  | .int i => toString i
  | .str x => x
  | _ => "-"
def Part (v : V) : Prop := v = .non ∨ (∃ n : Nat, v = .int n ∧ n ≤ 999999999) ∨ ∃ x : Str, v = .str x ∧ x.length ≤ 20
def spShowPart : Sp := fun vs H Q _ => ∃ v : V, vs = [v] ∧ Part v ∧ Q (.str (pt v)) H
theorem scShowPart : FnScope ["part"] ["part"] (defScope sShowPart) := ⟨rfl, rfl, rfl, by decide +kernel, rfl, by decide +kernel, by decide +kernel⟩
theorem okShowPart {f : Addr} {fd : FuncData} (F : Fun K "show_part" "show_part" sShowPart f fd) (T : CallTxt K w mg) : FnOk P w K mg base CX0 1 f fd ["part"] spShowPart := by
  refine F.ok scShowPart (fun vs H Q E h => ?_) (fun cdv A outer s H vs Q E hr h => ?_)
  · obtain ⟨x, rfl, _⟩ := h
    rfl
  · obtain ⟨v, rfl, hv, k⟩ := h
    obtain ⟨tD, gD⟩ := T.dash
    refine ⟨_, pss_cons (ps_if (pt_cmpR oIsN (pv 0) pe_non (nomark _)) (pss_one (ps_ret (pe_glob (v := .str "-") (by rfl) gD ⟨_, rfl⟩))) pss_nil)
      (pss_one (ps_ret (pe_callTy cStr1 (by rfl) T.str PyProof.Rows.boot_str (pa_cons (pv 0) pa_nil)))), ?_⟩
    walk_at "wn"
    refine ite2 (fun hc => ?_) (fun hc => ?_)
    · obtain rfl : v = .non := of_decide_eq_true hc
      walk_at "wn"
      exact k
    · walk_at "wn"
      rcases hv with rfl | ⟨n, rfl, hn⟩ | ⟨x, rfl, hx⟩
      · exact absurd (decide_eq_true rfl) hc
      · exact .inl ⟨_, rfl, log_small hn, k⟩
      · exact .inr ⟨x, rfl, k⟩
/-! a comprehension that calls a def which leaves what stood: the texts one after another -/
theorem lc_texts {J : It} {G : Hp → Prop} {xs : List V} {j : Nat} {te : TE} {vs : List Nat} {σ : L2.St} {H1 : Hp} {D : Addr} {Qd : Hp → Prop} {f : V → Str} (wk : Walk J xs.length G (YAt xs)) (nw : H1 D = none) (hz : xs.length ≤ 10000) (hG : ∀ H, Same H1 H → G H)
    (hw : ∀ x, wipe ((wipe σ vs).set j (some x)) vs = wipe σ vs) (he : ∀ x ∈ xs, ∀ H (Q : VK), Same H1 H → (∀ H', Same H H' → Q (.str (f x)) H') → te ((wipe σ vs).set j (some x)) H Q)
    (hd : ∀ H, Same H1 H → H D = some (.lst ((xs.map f).map V.str)) → Qd H) :
    ∃ W : Nat → Nat → Hp → Prop, (∃ m, W 0 m (upd H1 D (.lst []))) ∧ ∀ i m H, W i m H →
      (J.stop i H ∧ Qd H) ∨ (J.go i H ∧ ∃ Nx : Hp → Prop, (∀ H', Nx H' → ∃ m', m' < m ∧ W (i + 1) m' H') ∧ ∀ x H', J.yld i H x H' → gName j x (wipe σ vs) H' fun σ2 H2 => wipe σ2 vs = wipe σ vs ∧ tYes σ2 H2 fun b H3 =>
        if b = true then te σ2 H3 fun y H4 => ∃ acc, H4 D = some (.lst acc) ∧ acc.length < sizeLine ∧ Nx (upd H4 D (.lst (acc ++ [y]))) else Nx H3) := by
  refine lc_it wk (fun i H => Same H1 H ∧ H D = some (.lst (((xs.take i).map f).map V.str))) ⟨fun a o e => by rw [upd_ne (ne_of_none e nw)]; exact e, upd_same⟩ (fun i H _ h => hG H h.1) ?_ fun H h => hd H h.1 (by rw [List.take_length] at h; exact h.2)
  rintro i x H H' hi ⟨sm, hD⟩ ⟨rfl, hx⟩
  refine ⟨hw x, ?_⟩
  show te _ _ _
  refine he x (List.mem_of_getElem? hx) _ _ sm fun H' sm' => ⟨_, sm' _ _ hD, ?_, ?_, ?_⟩
  · rw [List.length_map, List.length_map, List.length_take, sizeLine_eq]
    omega
  · intro a o e
    rw [upd_ne (ne_of_none e nw)]
    exact sm' _ _ (sm _ _ e)
  · rw [upd_same]
    congr 2
    rw [List.take_add_one, hx]
    simp
def spShowCall (K : PySem.W.Frag) : Sp := fun vs H Q _ => ∃ (a : Addr) (xs : List V), vs = [.ref a] ∧ SqT K H a xs ∧ xs.length ≤ 1000 ∧ (∀ x ∈ xs, Part x) ∧ ∀ H', Same H H' → Q (.str (Str.join " " (xs.map pt))) H'
theorem pt_len {v : V} (h : Part v) : (pt v).length ≤ 20 := by
  rcases h with rfl | ⟨n, rfl, hn⟩ | ⟨x, rfl, hx⟩
  · decide +kernel
  · have e := int_text_length_le10 (a := (n : Int)) (k := 10) (by decide) (by omega)
    show (Str.ofString (toString (n : Int))).length ≤ 20
    rw [PySem.ofString_length]
    omega
  · exact hx
theorem sum_len : ∀ (xs : List V), (∀ x ∈ xs, Part x) → ((xs.map pt).map (·.length)).sum ≤ 20 * xs.length
  | [], _ => Nat.zero_le _
  | x :: xs, h => by
    have h1 := pt_len (h x List.mem_cons_self)
    have h2 := sum_len xs fun z hz => h z (List.mem_cons_of_mem _ hz)
    simp only [List.map_cons, List.sum_cons, List.length_cons] at h2 ⊢
    omega
theorem Same.tup {H H' : Hp} {a : Addr} {xs : List V} (e : Same H H') (h : SqT K H a xs) : SqT K H' a xs := by
  rcases h with (h | ⟨o, h⟩) | h
  · exact .inl (.inl (e _ _ h))
  · exact .inl (.inr ⟨o, e _ _ h⟩)
  · exact .inr h
theorem scShowCall : FnScope ["call", "part"] ["call"] (defScope sShowCall) := ⟨rfl, rfl, rfl, by decide +kernel, rfl, by decide +kernel, by decide +kernel⟩
theorem okShowCall {f fP : Addr} {fd fdP : FuncData} (F : Fun K "show_call" "show_call" sShowCall f fd) (T : CallTxt K w mg) (FP : Fun K "show_part" "show_part" sShowPart fP fdP) (gP : mg "show_part" = some (.ref fP)) (bP : Binds K fdP ["part"] []) : FnOk P w K mg base CX0 2 f fd ["call"] (spShowCall K) := by
  have GP : FnOk P w K mg base CX0 1 fP fdP ["part"] spShowPart := okShowPart FP T
  refine F.ok scShowCall (fun vs H Q E h => ?_) (fun cdv A outer s H vs Q E hr h => ?_)
  · obtain ⟨x, _, rfl, _⟩ := h
    rfl
  · obtain ⟨a, xs, rfl, hx, hl, hp, k⟩ := h
    refine ⟨_, pss_one (ps_ret (pe_join pe_str (pe_lc (own := [("part", 1)]) (g := gName 1) (tt := tYes) rfl scShowCall.nd (pi_tup (pv 0)) (blkOk_by (N := ["call", "part"]) (sc := defScope sShowCall) (by decide +kernel)) (fun _ _ _ _ _ => pg_name (i := 1) scShowCall.nd rfl (Or.inl rfl)) (fun _ _ _ _ _ => pts_nil)
      (fun _ _ _ _ _ => pe_call GP hr (by rfl) gP FP.kp bP .nil pass0 (pa_cons (pv 1) pa_nil))))), ?_⟩
    walk_at "wn"
    refine ⟨_, rfl, a, rfl, ⟨xs, hx⟩, fun D hD => lc_texts (f := pt) walk_tup hD (by omega) (fun H' e => Same.tup e hx) (fun _ => rfl) (fun x hm H' Q' sm q => ?_) (fun H' sm hD' => ?_)⟩
    · walk_at "wn"
      exact ⟨x, rfl, hp x hm, q H' (Same.refl H')⟩
    · refine ⟨" ", D, xs.map pt, rfl, rfl, .inl (SqL.of hD'), ?_, ?_⟩
      · have := sum_len xs hp
        have e1 : (((" " : String) : Str)).length = 1 := rfl
        rw [e1, List.length_map]
        omega
      · rw [TL.join_eq]
        exact k H' sm
end
end Wn

namespace Wn
open PySem PySem.Spec PyProof.Rows L2 Evl
local macro_rules | `(tactic| walk_at "wn1") => `(tactic| first | ((with_reducible show (if (!decide _) = true then _ else _)); refine' g_nes ?_) | ((with_reducible show (if (decide _) = true then _ else _)); refine' g_es ?_) | with_reducible first
  | (refine' g_var ?h ?q; (case h => with_unfolding_all rfl))
  | refine' g_c ?_ | refine' g_op ?_ | refine' g_rI0 ?_ | refine' g_asg ?_ | refine' g_name ?_ | refine' g_seq ?_ | refine' g_ret ?_ | refine' g_retN ?_ | refine' g_next ?_ | refine' g_drop ?_
  | refine' g_nil ?_ | refine' g_cons ?_ | refine' g_cb ?_ | refine' g_test ?_ | refine' g_bl ?_ | refine' g_if ?_ | refine' g_ifs ?_ | refine' g_not ?_ | refine' g_part ?_ | refine' g_pint ?_ | refine' g_nopart ?_ | refine' g_call ?_
  | (refine' g_mul ?h ?q; (case h => with_unfolding_all first | exact Or.inl ⟨by decide, by decide⟩ | exact Or.inr ⟨by decide, by decide⟩ | exact Or.inl ⟨by omega, by omega⟩ | exact Or.inr ⟨by omega, by omega⟩))
  | (refine' g_mod ?h ?q; (case h => with_unfolding_all first | decide | omega))
  | refine' g_rIsN ?_ | refine' g_rNotN ?_ | refine' g_max2 ?_ | refine' g_min2 ?_ | refine' g_and ?_ | refine' g_or ?_ | refine' g_orV ?_ | refine' g_andV ?_ | refine' g_notV ?_ | refine' g_m1 ?_ | refine' g_yes ?_ | refine' g_bm ?_ | refine' g_bm0 ?_
  | (refine' g_tyL ?h ?q; (case h => first | assumption | exact upd_same))
  | refine' g_m0 ?_ | refine' g_tB ?_ | refine' g_isS ?_ | refine' g_bT ?_ | refine' g_bF ?_ | refine' g_bNT ?_ | refine' g_callK ?_ | refine' g_bNF ?_
  | (refine' g_lenL ?h ?q; (case h => first | assumption | exact upd_same))
  | refine' g_un ?_ | refine' g_rint _ ?_ | refine' g_rabs ?_ | refine' g_sl ?_ 
  | (refine' g_ixL ?h ?a ?q; (case h => first | assumption | exact upd_same); (case a => with_unfolding_all rfl))
  | (refine' g_div ?h0 ?h1 ?q; (case h0 => with_unfolding_all first | decide | omega); (case h1 => with_unfolding_all first | decide | omega))
  | refine' g_sub ?_
  | (refine' g_setL ?h ?a ?q; (case h => first | assumption | exact upd_same); (case a => with_unfolding_all rfl))
  | refine' g_lst ?_ | refine' g_tup ?_
  | (refine' g_rEq ?h ?q; (case h => with_unfolding_all rfl)) | (refine' g_rNe ?h ?q; (case h => with_unfolding_all rfl)))
local macro_rules | `(tactic| walk_at "wn") => `(tactic| repeat walk_at "wn1")

section
variable {P : Program} {w : World} {K : PySem.W.Frag} {mg : Str → Option Value} {base : Heap}
/-- at x: a call, as a tuple of parts -/
def CallAt (K : PySem.W.Frag) (H : Hp) (x : V) (xs : List V) : Prop := ∃ a, x = .ref a ∧ SqT K H a xs ∧ xs.length ≤ 6 ∧ ∀ y ∈ xs, Part y
theorem CallAt.same {H H' : Hp} {x : V} {xs : List V} (e : Same H H') (h : CallAt K H x xs) : CallAt K H' x xs := by
  obtain ⟨a, rfl, h1, h2⟩ := h
  exact ⟨a, rfl, Same.tup e h1, h2⟩
def ctext (xs : List V) : Str := Str.join " " (xs.map pt)
theorem join_len (sep : Str) : ∀ l : List Str, (Str.join sep l).length ≤ (l.map (·.length)).sum + l.length * sep.length
  | [] => Nat.zero_le _
  | [x] => by show x.length ≤ x.length + 0 + 1 * sep.length; omega
  | x :: y :: r => by
    have ih := join_len sep (y :: r)
    show (x ++ sep ++ Str.join sep (y :: r)).length ≤ _
    rw [strLen_append, strLen_append]
    simp only [List.map_cons, List.sum_cons, List.length_cons, Nat.add_mul, Nat.one_mul] at ih ⊢
    omega
theorem ctext_len {xs : List V} (h : xs.length ≤ 6) (hp : ∀ y ∈ xs, Part y) : (ctext xs).length ≤ 126 := by
  have e := join_len " " (xs.map pt)
  have f := sum_len xs hp
  have e1 : (((" " : String) : Str)).length = 1 := rfl
  rw [e1, List.length_map] at e
  unfold ctext
  omega
/-- show_calls(a list or a tuple of calls) -/
def spShowCalls (K : PySem.W.Frag) : Sp := fun vs H Q _ => ∃ (a : Addr) (cs : List V) (xss : List (List V)), vs = [.ref a] ∧ (SqL K H a cs ∨ SqT K H a cs) ∧ cs.length ≤ 1000 ∧ Paired (CallAt K H) cs xss ∧ ∀ H', Same H H' → Q (.str (Str.join "\n" (xss.map ctext))) H'
/-- as lc_texts, what each item shows told beside -/
theorem lc_texts2 {J : It} {G : Hp → Prop} {xs : List V} {ts : List Str} {j : Nat} {te : TE} {vs : List Nat} {σ : L2.St} {H1 : Hp} {D : Addr} {Qd : Hp → Prop} (wk : Walk J xs.length G (YAt xs)) (nw : H1 D = none) (hz : xs.length ≤ 10000) (hl : ts.length = xs.length) (hG : ∀ H, Same H1 H → G H)
    (hw : ∀ x, wipe ((wipe σ vs).set j (some x)) vs = wipe σ vs) (he : ∀ (i : Nat) x t, xs[i]? = some x → ts[i]? = some t → ∀ H (Q : VK), Same H1 H → (∀ H', Same H H' → Q (.str t) H') → te ((wipe σ vs).set j (some x)) H Q)
    (hd : ∀ H, Same H1 H → H D = some (.lst (ts.map V.str)) → Qd H) :
    ∃ W : Nat → Nat → Hp → Prop, (∃ m, W 0 m (upd H1 D (.lst []))) ∧ ∀ i m H, W i m H →
      (J.stop i H ∧ Qd H) ∨ (J.go i H ∧ ∃ Nx : Hp → Prop, (∀ H', Nx H' → ∃ m', m' < m ∧ W (i + 1) m' H') ∧ ∀ x H', J.yld i H x H' → gName j x (wipe σ vs) H' fun σ2 H2 => wipe σ2 vs = wipe σ vs ∧ tYes σ2 H2 fun b H3 =>
        if b = true then te σ2 H3 fun y H4 => ∃ acc, H4 D = some (.lst acc) ∧ acc.length < sizeLine ∧ Nx (upd H4 D (.lst (acc ++ [y]))) else Nx H3) := by
  refine lc_it wk (fun i H => Same H1 H ∧ H D = some (.lst ((ts.take i).map V.str))) ⟨fun a o e => by rw [upd_ne (ne_of_none e nw)]; exact e, upd_same⟩ (fun i H _ h => hG H h.1) ?_ fun H h => hd H h.1 (by rw [← hl, List.take_length] at h; exact h.2)
  rintro i x H H' hi ⟨sm, hD⟩ ⟨rfl, hx⟩
  refine ⟨hw x, ?_⟩
  have hti : i < ts.length := by omega
  show te _ _ _
  refine he i x ts[i] hx (List.getElem?_eq_getElem hti) _ _ sm fun H' sm' => ⟨_, sm' _ _ hD, ?_, ?_, ?_⟩
  · rw [List.length_map, List.length_take, sizeLine_eq]
    omega
  · intro a o e
    rw [upd_ne (ne_of_none e nw)]
    exact sm' _ _ (sm _ _ e)
  · rw [upd_same]
    congr 2
    rw [List.take_add_one, List.getElem?_eq_getElem hti, List.map_append]
    rfl
theorem Paired.get? {α β : Type} {R : α → β → Prop} {xs : List α} {ys : List β} (h : Paired R xs ys) : ∀ {i : Nat} {x : α}, xs[i]? = some x → ∃ y, ys[i]? = some y ∧ R x y := by
  induction h with
  | nil => intro i x e; simp at e
  | cons r _ ih =>
    intro i x e
    cases i with
    | zero =>
      cases e
      exact ⟨_, rfl, r⟩
    | succ i => exact ih (i := i) e
theorem calls_len {H : Hp} {cs : List V} {xss : List (List V)} (hp : Paired (CallAt K H) cs xss) : ((xss.map ctext).map (·.length)).sum ≤ 126 * xss.length := by
  induction hp with
  | nil => exact Nat.zero_le _
  | @cons x y xs ys r _ ih =>
    obtain ⟨b, _, _, h2, h3⟩ := r
    have := ctext_len h2 h3
    simp only [List.map_cons, List.sum_cons, List.length_cons] at ih ⊢
    omega
theorem scShowCalls : FnScope ["calls", "call"] ["calls"] (defScope sShowCalls) := ⟨rfl, rfl, rfl, by decide +kernel, rfl, by decide +kernel, by decide +kernel⟩
theorem okShowCalls {f fP : Addr} {fd fdP : FuncData} (F : Fun K "show_calls" "show_calls" sShowCalls f fd) (GP : FnOk P w K mg base CX0 2 fP fdP ["call"] (spShowCall K)) (kP : PySem.W.keepIn K (.ref fP) = true) (gP : mg "show_call" = some (.ref fP)) (bP : Binds K fdP ["call"] []) : FnOk P w K mg base CX0 3 f fd ["calls"] (spShowCalls K) := by
  refine F.ok scShowCalls (fun vs H Q E h => ?_) (fun cdv A outer s H vs Q E hr h => ?_)
  · obtain ⟨x, _, _, rfl, _⟩ := h
    rfl
  · obtain ⟨a, cs, xss, rfl, hx, hl, hp, k⟩ := h
    refine ⟨_, pss_one (ps_ret (pe_join pe_str (pe_lc (own := [("call", 1)]) (g := gName 1) (tt := tYes) rfl scShowCalls.nd (pi_seqV (pv 0)) (blkOk_by (N := ["calls", "call"]) (sc := defScope sShowCalls) (by decide +kernel)) (fun _ _ _ _ _ => pg_name (i := 1) scShowCalls.nd rfl (Or.inl rfl)) (fun _ _ _ _ _ => pts_nil)
      (fun _ _ _ _ _ => pe_call GP hr (by rfl) gP kP bP .nil pass0 (pa_cons (pv 1) pa_nil))))), ?_⟩
    have hlen : xss.length = cs.length := hp.length.symm
    have item : ∀ (i : Nat) (x : V) (t : Str), cs[i]? = some x → (xss.map ctext)[i]? = some t → ∀ H1 (Q1 : VK), Same H H1 → (∀ H2, Same H1 H2 → Q1 (.str t) H2) → tCall (spShowCall K) [] E0 (tCons (tVar 1) tNil) ((wipe (start ["calls", "call"] [V.ref a]) [1]).set 1 (some x)) H1 Q1 := by
      intro i x t hx ht H1 Q1 sm q
      obtain ⟨y, ey, b, rfl, h1, h2, h3⟩ := Paired.get? hp hx
      rw [List.getElem?_map, ey] at ht
      cases ht
      walk_at "wn"
      exact ⟨b, y, rfl, Same.tup sm h1, by omega, h3, q⟩
    have fin : ∀ (D : Addr) (H' : Hp), Same H H' → H' D = some (.lst ((xss.map ctext).map V.str)) → (∃ a p, ∃ ys : List Str, V.str "\n" = .str a ∧ [V.ref D] = [.ref p] ∧ (SqL K H' p (ys.map V.str) ∨ SqT K H' p (ys.map V.str)) ∧ (ys.map (·.length)).sum + ys.length * a.length ≤ 16777216 ∧ Q (.str (Txt.join a ys)) H') := by
      intro D H' sm hD
      refine ⟨"\n", D, xss.map ctext, rfl, rfl, .inl (SqL.of hD), ?_, ?_⟩
      · have e1 : ((("\n" : String) : Str)).length = 1 := rfl
        have := calls_len hp
        rw [e1, List.length_map]
        omega
      · rw [TL.join_eq]
        exact k H' sm
    walk_at "wn"
    refine ⟨a, rfl, ?_⟩
    rcases hx with hx | hx
    · exact .inl ⟨cs, hx, fun D hD => lc_texts2 walk_list hD (by omega) (by rw [List.length_map, hlen]) (fun H' e => Same.seq e hx) (fun _ => rfl) item (fin D)⟩
    · exact .inr ⟨cs, hx, fun D hD => lc_texts2 walk_tup hD (by omega) (by rw [List.length_map, hlen]) (fun H' e => Same.tup e hx) (fun _ => rfl) item (fin D)⟩
end
end Wn

namespace Wn
open PySem PySem.Spec PyProof.Rows L2 Evl
local macro_rules | `(tactic| walk_at "wn1") => `(tactic| first | ((with_reducible show (if (!decide _) = true then _ else _)); refine' g_nes ?_) | ((with_reducible show (if (decide _) = true then _ else _)); refine' g_es ?_) | with_reducible first
  | (refine' g_var ?h ?q; (case h => with_unfolding_all rfl))
  | refine' g_c ?_ | refine' g_op ?_ | refine' g_rI0 ?_ | refine' g_asg ?_ | refine' g_name ?_ | refine' g_seq ?_ | refine' g_ret ?_ | refine' g_retN ?_ | refine' g_next ?_ | refine' g_drop ?_
  | refine' g_nil ?_ | refine' g_cons ?_ | refine' g_cb ?_ | refine' g_test ?_ | refine' g_bl ?_ | refine' g_if ?_ | refine' g_ifs ?_ | refine' g_not ?_ | refine' g_part ?_ | refine' g_pint ?_ | refine' g_nopart ?_ | refine' g_call ?_
  | (refine' g_mul ?h ?q; (case h => with_unfolding_all first | exact Or.inl ⟨by decide, by decide⟩ | exact Or.inr ⟨by decide, by decide⟩ | exact Or.inl ⟨by omega, by omega⟩ | exact Or.inr ⟨by omega, by omega⟩))
  | (refine' g_mod ?h ?q; (case h => with_unfolding_all first | decide | omega))
  | refine' g_rIsN ?_ | refine' g_rNotN ?_ | refine' g_max2 ?_ | refine' g_min2 ?_ | refine' g_and ?_ | refine' g_or ?_ | refine' g_orV ?_ | refine' g_andV ?_ | refine' g_notV ?_ | refine' g_m1 ?_ | refine' g_yes ?_ | refine' g_bm ?_ | refine' g_bm0 ?_
  | (refine' g_tyL ?h ?q; (case h => first | assumption | exact upd_same))
  | refine' g_m0 ?_ | refine' g_tB ?_ | refine' g_isS ?_ | refine' g_bT ?_ | refine' g_bF ?_ | refine' g_bNT ?_ | refine' g_callK ?_ | refine' g_bNF ?_
  | (refine' g_lenL ?h ?q; (case h => first | assumption | exact upd_same))
  | refine' g_un ?_ | refine' g_rint _ ?_ | refine' g_rabs ?_ | refine' g_sl ?_ 
  | (refine' g_ixL ?h ?a ?q; (case h => first | assumption | exact upd_same); (case a => with_unfolding_all rfl))
  | (refine' g_div ?h0 ?h1 ?q; (case h0 => with_unfolding_all first | decide | omega); (case h1 => with_unfolding_all first | decide | omega))
  | refine' g_sub ?_
  | (refine' g_setL ?h ?a ?q; (case h => first | assumption | exact upd_same); (case a => with_unfolding_all rfl))
  | refine' g_lst ?_ | refine' g_tup ?_
  | (refine' g_rEq ?h ?q; (case h => with_unfolding_all rfl)) | (refine' g_rNe ?h ?q; (case h => with_unfolding_all rfl)))
local macro_rules | `(tactic| walk_at "wn") => `(tactic| repeat walk_at "wn1")

def rAscii : V → List V → Hp → VK → Prop := fun x xs H Q => ∃ a, x = .str a ∧ xs = [] ∧ True ∧ Q (.bl (Txt.isascii a)) H
def rDigit : V → List V → Hp → VK → Prop := fun x xs H Q => ∃ a, x = .str a ∧ xs = [] ∧ True ∧ Q (.bl (Txt.isdigit a)) H
section
variable {X : Cx} {o : Expr} {to : TE} {apos pos : Pos}
theorem pe_ascii (ho : PE X o to) (hbase : attributeBase o "isascii" X.env (eval o X.env) = eval o X.env := by rfl) (hline : (apos.endLine == pos.line) = true := by rfl) : PE X (.Call (.Attribute o "isascii" apos) [] [] pos) (tM0 rAscii to) :=
  pe_m0 F.slot_str_isascii F.type_str_isascii mt_isascii ho hbase hline
theorem pe_digit (ho : PE X o to) (hbase : attributeBase o "isdigit" X.env (eval o X.env) = eval o X.env := by rfl) (hline : (apos.endLine == pos.line) = true := by rfl) : PE X (.Call (.Attribute o "isdigit" apos) [] [] pos) (tM0 rDigit to) :=
  pe_m0 F.slot_str_isdigit F.type_str_isdigit mt_isdigit ho hbase hline
end
def first0 (t : Str) : Nat := t.cps.toList.getD 0 0
def isIntT (t : Str) : Bool := Txt.isascii t && Txt.isdigit t && !decide ((9 : Int) < (t.length : Int)) && (decide (V.str t = V.str "0") || !decide (V.str ⟨#[first0 t]⟩ = V.str "0"))
section
variable {P : Program} {w : World} {K : PySem.W.Frag} {mg : Str → Option Value} {base : Heap}
def spIsInt : Sp := fun vs H Q _ => ∃ t : Str, vs = [.str t] ∧ t.length ≤ 100000 ∧ Q (.bl (isIntT t)) H
theorem scIsInt : FnScope ["text"] ["text"] (defScope sIsInt) := ⟨rfl, rfl, rfl, by decide +kernel, rfl, by decide +kernel, by decide +kernel⟩
theorem okIsInt {f : Addr} {fd : FuncData} (F : Fun K "is_integer_text" "is_integer_text" sIsInt f fd) (T : CallTxt K w mg) : FnOk P w K mg base CX0 1 f fd ["text"] spIsInt := by
  refine F.ok scIsInt (fun vs H Q E h => ?_) (fun cdv A outer s H vs Q E hr h => ?_)
  · obtain ⟨x, rfl, _⟩ := h
    rfl
  · obtain ⟨t, rfl, hl, k⟩ := h
    obtain ⟨t9, g9⟩ := T.nine
    refine ⟨_, pss_cons (ps_if (PW.pt (pw_or (pt_not (pt_val (pe_ascii (pv 0)))) (pw_or (pt_not (pt_val (pe_digit (pv 0)))) (pw_or1 (pt_cmpR op_gt (pe_callB cLenS (by rfl) T.len PySem.boot_len (pa_cons (pv 0) pa_nil)) (pe_glob (v := .int 9) (by rfl) g9 ⟨_, rfl⟩) (nomark _))))))
        (pss_one (ps_ret pe_bl)) pss_nil)
      (pss_one (ps_ret (pe_or (pe_cmpR op_eq (pv 0) pe_str (nomark _)) (pe_one (pe_cmpR op_ne (pe_ix ix_str (pv 0) pe_int (fun _ _ => rfl)) pe_str (nomark _)))))), ?_⟩
    have e0 : isIntT t = (Txt.isascii t && Txt.isdigit t && !decide ((9 : Int) < (t.length : Int)) && (decide (V.str t = V.str "0") || !decide (V.str ⟨#[first0 t]⟩ = V.str "0"))) := rfl
    rw [e0] at k
    walk_at "wn"
    refine ⟨t, rfl, rfl, trivial, ?_⟩
    walk_at "wn"
    cases ha : Txt.isascii t with
    | false =>
      rw [ha] at k
      exact k
    | true =>
    rw [ha] at k
    walk_at "wn"
    refine ⟨t, rfl, rfl, trivial, ?_⟩
    walk_at "wn"
    cases hd : Txt.isdigit t with
    | false =>
      rw [hd] at k
      exact k
    | true =>
    rw [hd] at k
    walk_at "wn"
    refine ⟨t, rfl, by rw [sizeLine_eq]; omega, ?_⟩
    walk_at "wn"
    by_cases h9 : (9 : Int) < (t.length : Int)
    · rw [decide_eq_true h9] at k ⊢
      walk_at "wn"
      exact k
    rw [decide_eq_false h9] at k ⊢
    walk_at "wn"
    by_cases hz : V.str t = V.str "0"
    · rw [decide_eq_true hz] at k ⊢
      walk_at "wn"
      exact k
    rw [decide_eq_false hz] at k ⊢
    walk_at "wn"
    have hpos : 0 < t.cps.size := by
      unfold Txt.isdigit at hd
      simp only [Bool.and_eq_true, decide_eq_true_eq] at hd
      exact hd.1
    have hpos' : 0 < t.cps.toList.length := by rw [Array.length_toList]; exact hpos
    have e1 : t.cps.toList[0]? = some (first0 t) := by
      unfold first0
      rw [List.getD_eq_getElem?_getD, List.getElem?_eq_getElem hpos']
      rfl
    refine ⟨t, _, first0 t, rfl, rfl, by rw [sizeLine_eq]; omega, atI_nat (j := 0) e1, ?_⟩
    walk_at "wn"
    exact k
def isArgT (k t : Str) : Bool := if k = "word" then inV (.str t) (wordsL.map V.str) else if k = "optional" ∧ t = "-" then true else isIntT t
def spIsArg : Sp := fun vs H Q _ => ∃ k t : Str, vs = [.str k, .str t] ∧ t.length ≤ 100000 ∧ Q (.bl (isArgT k t)) H
theorem scIsArg : FnScope ["kind", "text"] ["kind", "text"] (defScope sIsArg) := ⟨rfl, rfl, rfl, by decide +kernel, rfl, by decide +kernel, by decide +kernel⟩
theorem str_inj {a b : Str} : V.str a = V.str b ↔ a = b := ⟨fun h => by cases h; rfl, fun h => by rw [h]⟩
theorem okIsArg {f fW fI : Addr} {fd fdW fdI : FuncData} (F : Fun K "is_argument_text" "is_argument_text" sIsArg f fd) (T : CallTxt K w mg) (FW : Fun K "is_word" "is_word" sIsWord fW fdW) (gW : mg "is_word" = some (.ref fW)) (bW : Binds K fdW ["x"] [])
    (FI : Fun K "is_integer_text" "is_integer_text" sIsInt fI fdI) (gI : mg "is_integer_text" = some (.ref fI)) (bI : Binds K fdI ["text"] []) : FnOk P w K mg base CX0 2 f fd ["kind", "text"] spIsArg := by
  have GW : FnOk P w K mg base CX0 1 fW fdW ["x"] spIsWord := okIsWord FW T
  have GI : FnOk P w K mg base CX0 1 fI fdI ["text"] spIsInt := okIsInt FI T
  refine F.ok scIsArg (fun vs H Q E h => ?_) (fun cdv A outer s H vs Q E hr h => ?_)
  · obtain ⟨x, y, rfl, _⟩ := h
    rfl
  · obtain ⟨kd, t, rfl, hl, k⟩ := h
    obtain ⟨tD, gD⟩ := T.dash
    refine ⟨_, pss_cons (ps_if (pt_cmpR op_eq (pv 0) pe_str (nomark _)) (pss_one (ps_ret (pe_call GW hr (by rfl) gW FW.kp bW .nil pass0 (pa_cons (pv 1) pa_nil)))) pss_nil)
      (pss_cons (ps_if (PW.pt (pw_and (pt_cmpR op_eq (pv 0) pe_str (nomark _)) (pw_and1 (pt_cmpR op_eq (pv 1) (pe_glob (v := .str "-") (by rfl) gD ⟨_, rfl⟩) (nomark _))))) (pss_one (ps_ret pe_bl)) pss_nil)
      (pss_one (ps_ret (pe_call GI hr (by rfl) gI FI.kp bI .nil pass0 (pa_cons (pv 1) pa_nil))))), ?_⟩
    walk_at "wn"
    unfold isArgT at k
    by_cases h1 : kd = "word"
    · rw [decide_eq_true (str_inj.mpr h1)]
      rw [if_pos h1] at k
      walk_at "wn"
      exact ⟨t, rfl, k⟩
    rw [decide_eq_false (fun z => h1 (str_inj.mp z))]
    rw [if_neg h1] at k
    walk_at "wn"
    by_cases h2 : kd = "optional"
    · rw [decide_eq_true (str_inj.mpr h2)]
      walk_at "wn"
      by_cases h3 : t = "-"
      · rw [decide_eq_true (str_inj.mpr h3)]
        rw [if_pos ⟨h2, h3⟩] at k
        walk_at "wn"
        exact k
      · rw [decide_eq_false (fun z => h3 (str_inj.mp z))]
        rw [if_neg (fun z => h3 z.2)] at k
        walk_at "wn"
        exact ⟨t, rfl, hl, k⟩
    · rw [decide_eq_false (fun z => h2 (str_inj.mp z))]
      rw [if_neg (fun z => h2 z.1)] at k
      walk_at "wn"
      exact ⟨t, rfl, hl, k⟩
/-- what a text of a kind is read as -/
def ReadsTo (k t : Str) (v : V) : Prop := (k = "word" ∧ v = .str t) ∨ (k ≠ "word" ∧ t = "-" ∧ v = .non) ∨ (k ≠ "word" ∧ t ≠ "-" ∧ ∃ n, PySem.intText? t = some n ∧ t.length ≤ 640 ∧ v = .int n)
def spReadArg : Sp := fun vs H Q _ => ∃ (k t : Str) (v : V), vs = [.str k, .str t] ∧ ReadsTo k t v ∧ Q v H
theorem scReadArg : FnScope ["kind", "text"] ["kind", "text"] (defScope sReadArg) := ⟨rfl, rfl, rfl, by decide +kernel, rfl, by decide +kernel, by decide +kernel⟩
theorem okReadArg {f : Addr} {fd : FuncData} (F : Fun K "read_argument" "read_argument" sReadArg f fd) (T : CallTxt K w mg) : FnOk P w K mg base CX0 1 f fd ["kind", "text"] spReadArg := by
  refine F.ok scReadArg (fun vs H Q E h => ?_) (fun cdv A outer s H vs Q E hr h => ?_)
  · obtain ⟨x, y, _, rfl, _⟩ := h
    rfl
  · obtain ⟨kd, t, v, rfl, hv, k⟩ := h
    obtain ⟨tD, gD⟩ := T.dash
    refine ⟨_, pss_cons (ps_if (pt_cmpR op_eq (pv 0) pe_str (nomark _)) (pss_one (ps_ret (pv 1))) pss_nil)
      (pss_cons (ps_if (pt_cmpR op_eq (pv 1) (pe_glob (v := .str "-") (by rfl) gD ⟨_, rfl⟩) (nomark _)) (pss_one (ps_ret pe_non)) pss_nil)
      (pss_one (ps_ret (pe_callTy call_int_str (by rfl) T.int PyProof.Rows.boot_int (pa_cons (pv 1) pa_nil))))), ?_⟩
    walk_at "wn"
    rcases hv with ⟨h1, rfl⟩ | ⟨h1, h2, rfl⟩ | ⟨h1, h2, n, h3, h4, rfl⟩
    · rw [decide_eq_true (str_inj.mpr h1)]
      walk_at "wn"
      exact k
    · rw [decide_eq_false (fun z => h1 (str_inj.mp z))]
      walk_at "wn"
      rw [decide_eq_true (str_inj.mpr h2)]
      walk_at "wn"
      exact k
    · rw [decide_eq_false (fun z => h1 (str_inj.mp z))]
      walk_at "wn"
      rw [decide_eq_false (fun z => h2 (str_inj.mp z))]
      walk_at "wn"
      exact ⟨t, n, rfl, h3, h4, k⟩
end
end Wn

namespace Wn
open PySem PySem.Spec PyProof.Rows L2 Evl
local macro_rules | `(tactic| walk_at "wn1") => `(tactic| first | ((with_reducible show (if (!decide _) = true then _ else _)); refine' g_nes ?_) | ((with_reducible show (if (decide _) = true then _ else _)); refine' g_es ?_) | with_reducible first
  | (refine' g_var ?h ?q; (case h => with_unfolding_all rfl))
  | refine' g_c ?_ | refine' g_op ?_ | refine' g_rI0 ?_ | refine' g_asg ?_ | refine' g_name ?_ | refine' g_seq ?_ | refine' g_ret ?_ | refine' g_retN ?_ | refine' g_next ?_ | refine' g_drop ?_
  | refine' g_nil ?_ | refine' g_cons ?_ | refine' g_cb ?_ | refine' g_test ?_ | refine' g_bl ?_ | refine' g_if ?_ | refine' g_ifs ?_ | refine' g_not ?_ | refine' g_part ?_ | refine' g_pint ?_ | refine' g_nopart ?_ | refine' g_call ?_
  | (refine' g_mul ?h ?q; (case h => with_unfolding_all first | exact Or.inl ⟨by decide, by decide⟩ | exact Or.inr ⟨by decide, by decide⟩ | exact Or.inl ⟨by omega, by omega⟩ | exact Or.inr ⟨by omega, by omega⟩))
  | (refine' g_mod ?h ?q; (case h => with_unfolding_all first | decide | omega))
  | refine' g_rIsN ?_ | refine' g_rNotN ?_ | refine' g_max2 ?_ | refine' g_min2 ?_ | refine' g_and ?_ | refine' g_or ?_ | refine' g_orV ?_ | refine' g_andV ?_ | refine' g_notV ?_ | refine' g_m1 ?_ | refine' g_yes ?_ | refine' g_bm ?_ | refine' g_bm0 ?_
  | (refine' g_tyL ?h ?q; (case h => first | assumption | exact upd_same))
  | refine' g_m0 ?_ | refine' g_tB ?_ | refine' g_isS ?_ | refine' g_bT ?_ | refine' g_bF ?_ | refine' g_bNT ?_ | refine' g_callK ?_ | refine' g_bNF ?_
  | (refine' g_lenL ?h ?q; (case h => first | assumption | exact upd_same))
  | refine' g_un ?_ | refine' g_rint _ ?_ | refine' g_rabs ?_ | refine' g_sl ?_ 
  | (refine' g_ixL ?h ?a ?q; (case h => first | assumption | exact upd_same); (case a => with_unfolding_all rfl))
  | (refine' g_div ?h0 ?h1 ?q; (case h0 => with_unfolding_all first | decide | omega); (case h1 => with_unfolding_all first | decide | omega))
  | refine' g_sub ?_
  | (refine' g_setL ?h ?a ?q; (case h => first | assumption | exact upd_same); (case a => with_unfolding_all rfl))
  | refine' g_lst ?_ | refine' g_tup ?_
  | (refine' g_rEq ?h ?q; (case h => with_unfolding_all rfl)) | (refine' g_rNe ?h ?q; (case h => with_unfolding_all rfl)))
local macro_rules | `(tactic| walk_at "wn") => `(tactic| repeat walk_at "wn1")

section
variable {P : Program} {w : World} {K : PySem.W.Frag} {mg : Str → Option Value} {base : Heap}
theorem Paired.length' {α β : Type} {R : α → β → Prop} {xs : List α} {ys : List β} (h : Paired R xs ys) : xs.length = ys.length := h.length
theorem join_len_eq (sep : Str) : ∀ l : List Str, l ≠ [] → (Str.join sep l).length + sep.length = (l.map fun x => x.length + sep.length).sum
  | [], h => absurd rfl h
  | [x], _ => by show x.length + sep.length = x.length + sep.length + 0; omega
  | x :: y :: r, _ => by
    have ih := join_len_eq sep (y :: r) (by simp)
    show (x ++ sep ++ Str.join sep (y :: r)).length + sep.length = _
    rw [strLen_append, strLen_append, List.map_cons, List.sum_cons, ← ih]
    omega
theorem sum_mem {l : List Nat} {x : Nat} (h : x ∈ l) : x ≤ l.sum := by
  induction l with
  | nil => cases h
  | cons a l ih =>
    rw [List.sum_cons]
    rcases List.mem_cons.mp h with rfl | h
    · omega
    · have := ih h
      omega
theorem sum_ge {α : Type} (l : List α) (f : α → Nat) (h : ∀ x ∈ l, 1 ≤ f x) : l.length ≤ (l.map f).sum := by
  induction l with
  | nil => exact Nat.zero_le _
  | cons a l ih =>
    have h1 := h a List.mem_cons_self
    have h2 := ih fun x hx => h x (List.mem_cons_of_mem _ hx)
    rw [List.map_cons, List.sum_cons, List.length_cons]
    omega
/-- the parts of a split text are few and short -/
theorem split_le {t sep : Str} (hs : sep.length = 1) : (Txt.split t sep).length ≤ t.length + 1 ∧ ∀ p ∈ Txt.split t sep, p.length ≤ t.length := by
  by_cases h : Txt.split t sep = []
  · rw [h]
    exact ⟨Nat.zero_le _, fun p hp => nomatch hp⟩
  have e := join_len_eq sep _ h
  rw [StrLaws.join_split, hs] at e
  refine ⟨?_, fun p hp => ?_⟩
  · have := sum_ge (Txt.split t sep) (fun x => x.length + 1) fun x _ => by omega
    omega
  · have := sum_mem (List.mem_map.mpr ⟨p, hp, rfl⟩ : p.length + 1 ∈ (Txt.split t sep).map fun x => x.length + 1)
    omega
/-- [e for a, b in zip(a tuple, a list)], e calling defs that leave what stood -/
theorem lc_zip {a b : Addr} {xs zs ys : List V} {i1 i2 : Nat} {te : TE} {vs : List Nat} {σ : L2.St} {H1 : Hp} {D : Addr} {Qd : Hp → Prop} (hx : SqT K H1 a xs) (hz : SqL K H1 b zs) (l1 : xs.length = ys.length) (l2 : zs.length = ys.length) (nw : H1 D = none) (hn : ys.length ≤ 10000)
    (hw : ∀ x z, wipe (((wipe σ vs).set i1 (some x)).set i2 (some z)) vs = wipe σ vs)
    (he : ∀ (i : Nat) x z y, xs[i]? = some x → zs[i]? = some z → ys[i]? = some y → ∀ H (Q : VK), Same H1 H → (∀ H', Same H H' → Q y H') → te (((wipe σ vs).set i1 (some x)).set i2 (some z)) H Q)
    (hd : ∀ H, Same H1 H → H D = some (.lst ys) → Qd H) :
    ∃ W : Nat → Nat → Hp → Prop, (∃ m, W 0 m (upd H1 D (.lst []))) ∧ ∀ i m H, W i m H →
      ((Ztl K a b).stop i H ∧ Qd H) ∨ ((Ztl K a b).go i H ∧ ∃ Nx : Hp → Prop, (∀ H', Nx H' → ∃ m', m' < m ∧ W (i + 1) m' H') ∧ ∀ x H', (Ztl K a b).yld i H x H' → gTup K 2 (gCons (gName i1) (gCons (gName i2) gNil)) x (wipe σ vs) H' fun σ2 H2 => wipe σ2 vs = wipe σ vs ∧ tYes σ2 H2 fun b H3 =>
        if b = true then te σ2 H3 fun y H4 => ∃ acc, H4 D = some (.lst acc) ∧ acc.length < sizeLine ∧ Nx (upd H4 D (.lst (acc ++ [y]))) else Nx H3) := by
  refine lc_it (walk_ztl (xs := xs) (ys := zs) (n := ys.length) (by omega)) (fun i H => Same H1 H ∧ H D = some (.lst (ys.take i))) ⟨fun a o e => by rw [upd_ne (ne_of_none e nw)]; exact e, upd_same⟩ (fun i H _ h => ⟨Same.tup h.1 hx, Same.seq h.1 hz⟩) ?_ fun H h => hd H h.1 (by rw [List.take_length] at h; exact h.2)
  rintro i x H H' hi ⟨sm, hD⟩ ⟨T, u, v, rfl, nT, rfl, hu, hv⟩
  have hyi : i < ys.length := hi
  have sm1 : Same H1 (upd H T (.tup [u, v])) := fun c o e => by rw [upd_ne (ne_of_none (sm _ _ e) nT)]; exact sm _ _ e
  refine ⟨T, [u, v], rfl, SqT.of upd_same, rfl, u, [v], rfl, v, [], rfl, rfl, hw u v, ?_⟩
  show te _ _ _
  refine he i u v ys[i] hu hv (List.getElem?_eq_getElem hyi) _ _ sm1 fun H' sm' => ⟨_, sm' _ _ (by rw [upd_ne (ne_of_none hD nT)]; exact hD), ?_, ?_, ?_⟩
  · rw [List.length_take, sizeLine_eq]
    omega
  · intro c o e
    rw [upd_ne (ne_of_none e nw)]
    exact sm' _ _ (sm1 _ _ e)
  · rw [upd_same]
    congr 2
    rw [List.take_add_one, List.getElem?_eq_getElem hyi]
    rfl
/-- what a line is: the call's parts, or none -/
inductive Line (K : PySem.W.Frag) (mg : Str → Option Value) (t : Str) : Option (List V) → Prop
  | word {name : Str} {parts : List Str} (h : Txt.split t " " = name :: parts) (n : ∀ d, mg "ARGUMENTS" = some (.ref d) → PySem.W.nsIn K d name = some none) : Line K mg t none
  | count {name : Str} {parts ks : List Str} (h : Txt.split t " " = name :: parts) (m : (name, ks) ∈ kindsL) (n : parts.length ≠ ks.length) : Line K mg t none
  | part {name : Str} {parts ks : List Str} (h : Txt.split t " " = name :: parts) (m : (name, ks) ∈ kindsL) (n : parts.length = ks.length) (b : (List.zipWith isArgT ks parts).all id = false) : Line K mg t none
  | call {name : Str} {parts ks : List Str} {vs : List V} (h : Txt.split t " " = name :: parts) (m : (name, ks) ∈ kindsL) (n : parts.length = ks.length) (b : (List.zipWith isArgT ks parts).all id = true) (l : vs.length = ks.length)
      (r : ∀ (i : Nat) (k p : Str) (v : V), ks[i]? = some k → parts[i]? = some p → vs[i]? = some v → ReadsTo k p v) : Line K mg t (some (.str name :: vs))
def spLine (K : PySem.W.Frag) (mg : Str → Option Value) : Sp := fun vs H Q _ => ∃ (t : Str) (c : Option (List V)), vs = [.str t] ∧ t.length ≤ 10000 ∧ Line K mg t c ∧ match c with
  | none => ∀ H', Same H H' → Q .non H'
  | some xs => ∀ H' p, H p = none → Same H H' → H' p = some (.tup xs) → Q (.ref p) H'
theorem isarg {ks parts : List Str} {H0 : Hp} {a0 a1 a2 a3 : V} {a4 a5 a6 : Option V} (ne : parts.length = ks.length) (hshort : ∀ q ∈ parts, q.length ≤ 10000) : ∀ (i : Nat) (x z y : V), (ks.map V.str)[i]? = some x → (parts.map V.str)[i]? = some z → ((List.zipWith isArgT ks parts).map V.bl)[i]? = some y →
    ∀ H (Q : VK), Same H0 H → (∀ H', Same H H' → Q y H') → tCall spIsArg [] E0 (tCons (tVar 5) (tCons (tVar 6) tNil)) (((wipe [some a0, some a1, some a2, some a3, a4, a5, a6] [5, 6]).set 5 (some x)).set 6 (some z)) H Q := by
  intro i x z y hx hz hy H Q _ q
  rw [List.getElem?_map] at hx hz hy
  cases ek : ks[i]? with
  | none => rw [ek] at hx; cases hx
  | some kd =>
  cases ep : parts[i]? with
  | none => rw [ep] at hz; cases hz
  | some pp =>
  rw [ek] at hx
  rw [ep] at hz
  rw [List.getElem?_zipWith, ek, ep] at hy
  cases hx
  cases hz
  cases hy
  walk_at "wn"
  exact ⟨kd, pp, rfl, Nat.le_trans (hshort pp (List.mem_of_getElem? ep)) (by decide), q H (Same.refl H)⟩
theorem scLine : FnScope ["text", "name", "parts", "kinds", "arguments", "kind", "part"] ["text"] (defScope sCallOrNone) := ⟨rfl, rfl, rfl, by decide +kernel, rfl, by decide +kernel, by decide +kernel⟩
theorem okLine {f fA fR : Addr} {fd fdA fdR : FuncData} (F : Fun K "call_or_none" "call_or_none" sCallOrNone f fd) (T : CallTxt K w mg) (GA : FnOk P w K mg base CX0 2 fA fdA ["kind", "text"] spIsArg) (kA : PySem.W.keepIn K (.ref fA) = true) (gA : mg "is_argument_text" = some (.ref fA)) (bA : Binds K fdA ["kind", "text"] [])
    (GR : FnOk P w K mg base CX0 1 fR fdR ["kind", "text"] spReadArg) (kR : PySem.W.keepIn K (.ref fR) = true) (gR : mg "read_argument" = some (.ref fR)) (bR : Binds K fdR ["kind", "text"] []) : FnOk P w K mg base CX0 3 f fd ["text"] (spLine K mg) := by
  refine F.ok scLine (fun vs H Q E h => ?_) (fun cdv A outer s H vs Q E hr h => ?_)
  · obtain ⟨x, _, rfl, _⟩ := h
    rfl
  · obtain ⟨t, c, rfl, hl, ln, k⟩ := h
    obtain ⟨d, es, n, gD, D, hD⟩ := T.args
    have hr1 : Room 1 _ := hr.mono (by decide)
    refine ⟨_, pss_cut (ps_asg (pe_split (pv 0) pe_str) (pg_head rfl (pgs_cons (pg_name (i := 1) scLine.nd rfl (Or.inl rfl)) (pgs_star (pg_name (i := 2) scLine.nd rfl (Or.inl rfl)) pgs_nil))))
      (pss_cons (ps_if (pt_cmpR (op_notIn_kd D) (pv 1) (pe_glob (v := .ref d) (by rfl) gD rfl) (by rfl)) (pss_one (ps_ret pe_non)) pss_nil)
      (pss_cons (ps_set (i := 3) scLine.nd rfl (Or.inl rfl) (pe_ix ix_kdict (pe_glob (v := .ref d) (by rfl) gD rfl) (pv 1) (fun _ _ => rfl)))
      (pss_cons (ps_if (pt_cmpR op_ne (pe_callB cLenQ (by rfl) T.len PySem.boot_len (pa_cons (pv 2) pa_nil)) (pe_callB cLenQ (by rfl) T.len PySem.boot_len (pa_cons (pv 3) pa_nil)) (nomark _)) (pss_one (ps_ret pe_non)) pss_nil)
      (pss_cons (ps_if (pt_not (pt_val (pe_callB (cr_all rfl) (by rfl) T.all (by decide +kernel) (pa_cons (pe_lc (own := [("kind", 5), ("part", 6)]) (g := gTup K 2 (gCons (gName 5) (gCons (gName 6) gNil))) (tt := tYes) rfl scLine.nd (pi_ztl (by rfl) T.zip (pa_cons (pv 3) (pa_cons (pv 2) pa_nil)))
          (blkOk_by (N := ["text", "name", "parts", "kinds", "arguments", "kind", "part"]) (sc := defScope sCallOrNone) (by decide +kernel)) (fun _ _ _ _ _ => pg_tup rfl (pgs_cons (pg_name (i := 5) scLine.nd rfl (Or.inl rfl)) (pgs_cons (pg_name (i := 6) scLine.nd rfl (Or.inl rfl)) pgs_nil))) (fun _ _ _ _ _ => pts_nil)
          (fun _ _ _ _ _ => pe_call GA hr (by rfl) gA kA bA .nil pass0 (pa_cons (pv 5) (pa_cons (pv 6) pa_nil)))) pa_nil)))) (pss_one (ps_ret pe_non)) pss_nil)
      (pss_cons (ps_setLc (i := 4) (own := [("kind", 5), ("part", 6)]) (g := gTup K 2 (gCons (gName 5) (gCons (gName 6) gNil))) (tt := tYes) rfl scLine.nd rfl rfl (sw_true rfl rfl rfl (by decide +kernel)) (pi_ztl (by rfl) T.zip (pa_cons (pv 3) (pa_cons (pv 2) pa_nil)))
          (blkOk_by (N := ["text", "name", "parts", "kinds", "arguments", "kind", "part"]) (sc := defScope sCallOrNone) (by decide +kernel)) (fun _ _ _ _ _ => pg_tup rfl (pgs_cons (pg_name (i := 5) scLine.nd rfl (Or.inl rfl)) (pgs_cons (pg_name (i := 6) scLine.nd rfl (Or.inl rfl)) pgs_nil))) (fun _ _ _ _ _ => pts_nil)
          (fun _ _ _ _ _ => pe_call GR hr1 (by rfl) gR kR bR .nil pass0 (pa_cons (pv 5) (pa_cons (pv 6) pa_nil))))
      (pss_one (ps_ret (pe_tup (pa_cons (pv 1) (StX.pa_star (pv 4) pa_nil)))))))))), ?_⟩
    have hnm : ∃ (name : Str) (parts : List Str), Txt.split t " " = name :: parts := by cases ln <;> exact ⟨_, _, by assumption⟩
    obtain ⟨name, parts, hsp⟩ := hnm
    have sle := split_le (t := t) (sep := " ") rfl
    rw [hsp] at sle
    have hparts : parts.length ≤ 16000 := by have := sle.1; rw [List.length_cons] at this; omega
    have hp10 : parts.length ≤ 10000 := by have := sle.1; rw [List.length_cons] at this; omega
    have hshort : ∀ q ∈ parts, q.length ≤ 10000 := fun q hq => Nat.le_trans (sle.2 q (List.mem_cons_of_mem _ hq)) hl
    refine ⟨fun σ' H' => ∃ p, σ' = [some (.str t), some (.str name), some (.ref p), none, none, none, none] ∧ Same H H' ∧ H' p = some (.lst (parts.map V.str)), ?_, ?_⟩
    · walk_at "wn"
      refine ⟨t, " ", rfl, rfl, rfl, by rw [sizeLine_eq]; omega, fun p hp => ?_⟩
      rw [hsp]
      walk_at "wn"
      refine ⟨p, _, _, rfl, SqL.of upd_same, by rw [List.length_map]; exact hparts, fun q hq => ?_⟩
      refine ⟨_, _, rfl, _, _, rfl, rfl, q, rfl, fun x o hx => ?_, upd_same⟩
      have e1 : upd H p (.lst (V.str name :: parts.map V.str)) x = some o := by rw [upd_ne (ne_of_none hx hp)]; exact hx
      rw [upd_ne (ne_of_none e1 hq)]
      exact e1
    rintro σ' H1 ⟨p, rfl, sm, hp⟩
    walk_at "wn"
    cases ln with
    | word h nk =>
      rw [hsp] at h
      cases h
      refine ⟨_, _, rfl, rfl, nk d gD, ?_⟩
      walk_at "wn"
      exact k H1 sm
    | count h m ne =>
      rename_i ks
      rw [hsp] at h
      cases h
      obtain ⟨tk, hk, sk⟩ := hD _ m
      refine ⟨_, _, rfl, rfl, hk, _, rfl, iteF ?_⟩
      walk_at "wn"
      refine ⟨d, name, .ref tk, rfl, rfl, ⟨es, n, _, D.at_, D.lit, hk, rfl⟩, ?_⟩
      walk_at "wn"
      refine ⟨tk, _, rfl, .inr (sk _), ?_⟩
      walk_at "wn"
      have e : decide (V.int ((parts.map V.str).length : Int) = V.int ((ks.map V.str).length : Int)) = false := decide_eq_false fun z => ne (by
        have z' := V.int.inj z
        rw [List.length_map, List.length_map] at z'
        omega)
      rw [e]
      walk_at "wn"
      exact k H1 sm
    | part h m ne b =>
      rename_i ks
      rw [hsp] at h
      cases h
      obtain ⟨tk, hk, sk⟩ := hD _ m
      refine ⟨_, _, rfl, rfl, hk, _, rfl, iteF ?_⟩
      walk_at "wn"
      refine ⟨d, name, .ref tk, rfl, rfl, ⟨es, n, _, D.at_, D.lit, hk, rfl⟩, ?_⟩
      walk_at "wn"
      refine ⟨tk, _, rfl, .inr (sk _), ?_⟩
      walk_at "wn"
      have e : decide (V.int ((parts.map V.str).length : Int) = V.int ((ks.map V.str).length : Int)) = true := decide_eq_true (by rw [List.length_map, List.length_map, ne])
      rw [e]
      walk_at "wn"
      refine ⟨_, rfl, _, rfl, tk, p, _, _, rfl, sk _, SqL.of hp, fun D hD0 => lc_zip (ys := (List.zipWith isArgT ks parts).map V.bl) (sk _) (SqL.of hp) (by simp [ne]) (by simp [ne]) hD0 (by simp; omega) (fun _ _ => rfl) (isarg ne hshort) (fun H2 sm2 hD2 => ?_)⟩
      refine ⟨D, _, rfl, SqL.of hD2, ?_⟩
      rw [b]
      walk_at "wn"
      exact k H2 (sm.trans sm2)
    | call h m ne b l r =>
      rename_i ks vs
      rw [hsp] at h
      cases h
      obtain ⟨tk, hk, sk⟩ := hD _ m
      refine ⟨_, _, rfl, rfl, hk, _, rfl, iteF ?_⟩
      walk_at "wn"
      refine ⟨d, name, .ref tk, rfl, rfl, ⟨es, n, _, D.at_, D.lit, hk, rfl⟩, ?_⟩
      walk_at "wn"
      refine ⟨tk, _, rfl, .inr (sk _), ?_⟩
      walk_at "wn"
      have e : decide (V.int ((parts.map V.str).length : Int) = V.int ((ks.map V.str).length : Int)) = true := decide_eq_true (by rw [List.length_map, List.length_map, ne])
      rw [e]
      walk_at "wn"
      refine ⟨_, rfl, _, rfl, tk, p, _, _, rfl, sk _, SqL.of hp, fun D hD0 => lc_zip (ys := (List.zipWith isArgT ks parts).map V.bl) (sk _) (SqL.of hp) (by simp [ne]) (by simp [ne]) hD0 (by simp; omega) (fun _ _ => rfl) (isarg ne hshort) (fun H2 sm2 hD2 => ?_)⟩
      refine ⟨D, _, rfl, SqL.of hD2, ?_⟩
      rw [b]
      walk_at "wn"
      refine ⟨_, rfl, _, rfl, tk, p, _, _, rfl, sk _, SqL.of (sm2 _ _ hp), fun D3 hD3 => lc_zip (ys := vs) (sk _) (SqL.of (sm2 _ _ hp)) (by simp [l]) (by simp [ne, l]) hD3 (by omega) (fun _ _ => rfl) ?_ (fun H3 sm3 hD4 => ?_)⟩
      · intro i x z y hx hz hy H' Q' _ q
        rw [List.getElem?_map] at hx hz
        cases ek : ks[i]? with
        | none => rw [ek] at hx; cases hx
        | some kd =>
        cases ep : parts[i]? with
        | none => rw [ep] at hz; cases hz
        | some pp =>
        rw [ek] at hx
        rw [ep] at hz
        cases hx
        cases hz
        walk_at "wn"
        exact ⟨kd, pp, y, rfl, r i kd pp y ek ep hy, q H' (Same.refl H')⟩
      · walk_at "wn"
        refine ⟨_, rfl, D3, vs, rfl, .inr (SqL.of hD4), ?_⟩
        walk_at "wn"
        rw [List.append_nil]
        refine ⟨by rw [sizeLine_eq, List.length_cons]; omega, fun q hq => ?_⟩
        have sm5 : Same H H3 := (sm.trans sm2).trans sm3
        exact k _ q (sm5.free hq) (fun x o hx => by rw [upd_ne (ne_of_none (sm5 _ _ hx) hq)]; exact sm5 _ _ hx) upd_same
end
end Wn

namespace Wn
open PySem PySem.Spec PyProof.Rows L2 Evl
local macro_rules | `(tactic| walk_at "wn1") => `(tactic| first | ((with_reducible show (if (!decide _) = true then _ else _)); refine' g_nes ?_) | ((with_reducible show (if (decide _) = true then _ else _)); refine' g_es ?_) | with_reducible first
  | (refine' g_var ?h ?q; (case h => with_unfolding_all rfl))
  | refine' g_c ?_ | refine' g_op ?_ | refine' g_rI0 ?_ | refine' g_asg ?_ | refine' g_name ?_ | refine' g_seq ?_ | refine' g_ret ?_ | refine' g_retN ?_ | refine' g_next ?_ | refine' g_drop ?_
  | refine' g_nil ?_ | refine' g_cons ?_ | refine' g_cb ?_ | refine' g_test ?_ | refine' g_bl ?_ | refine' g_if ?_ | refine' g_ifs ?_ | refine' g_not ?_ | refine' g_part ?_ | refine' g_pint ?_ | refine' g_nopart ?_ | refine' g_call ?_
  | (refine' g_mul ?h ?q; (case h => with_unfolding_all first | exact Or.inl ⟨by decide, by decide⟩ | exact Or.inr ⟨by decide, by decide⟩ | exact Or.inl ⟨by omega, by omega⟩ | exact Or.inr ⟨by omega, by omega⟩))
  | (refine' g_mod ?h ?q; (case h => with_unfolding_all first | decide | omega))
  | refine' g_rIsN ?_ | refine' g_rNotN ?_ | refine' g_max2 ?_ | refine' g_min2 ?_ | refine' g_and ?_ | refine' g_or ?_ | refine' g_orV ?_ | refine' g_andV ?_ | refine' g_notV ?_ | refine' g_m1 ?_ | refine' g_yes ?_ | refine' g_bm ?_ | refine' g_bm0 ?_
  | (refine' g_tyL ?h ?q; (case h => first | assumption | exact upd_same))
  | refine' g_m0 ?_ | refine' g_tB ?_ | refine' g_isS ?_ | refine' g_bT ?_ | refine' g_bF ?_ | refine' g_bNT ?_ | refine' g_callK ?_ | refine' g_bNF ?_
  | (refine' g_lenL ?h ?q; (case h => first | assumption | exact upd_same))
  | refine' g_un ?_ | refine' g_rint _ ?_ | refine' g_rabs ?_ | refine' g_sl ?_ 
  | (refine' g_ixL ?h ?a ?q; (case h => first | assumption | exact upd_same); (case a => with_unfolding_all rfl))
  | (refine' g_div ?h0 ?h1 ?q; (case h0 => with_unfolding_all first | decide | omega); (case h1 => with_unfolding_all first | decide | omega))
  | refine' g_sub ?_
  | (refine' g_setL ?h ?a ?q; (case h => first | assumption | exact upd_same); (case a => with_unfolding_all rfl))
  | refine' g_lst ?_ | refine' g_tup ?_
  | (refine' g_rEq ?h ?q; (case h => with_unfolding_all rfl)) | (refine' g_rNe ?h ?q; (case h => with_unfolding_all rfl)))
local macro_rules | `(tactic| walk_at "wn") => `(tactic| repeat walk_at "wn1")

section
variable {P : Program} {w : World} {K : PySem.W.Frag} {mg : Str → Option Value} {base : Heap}
def spReadCall (K : PySem.W.Frag) (mg : Str → Option Value) : Sp := fun vs H Q _ => ∃ (t : Str) (xs : List V), vs = [.str t] ∧ t.length ≤ 10000 ∧ Line K mg t (some xs) ∧ ∀ H' p, H p = none → Same H H' → H' p = some (.tup xs) → Q (.ref p) H'
theorem scReadCall : FnScope ["text", "call"] ["text"] (defScope sReadCall) := ⟨rfl, rfl, rfl, by decide +kernel, rfl, by decide +kernel, by decide +kernel⟩
theorem okReadCall {f fL : Addr} {fd fdL : FuncData} (F : Fun K "read_call" "read_call" sReadCall f fd) (T : CallTxt K w mg) (GL : FnOk P w K mg base CX0 3 fL fdL ["text"] (spLine K mg)) (kL : PySem.W.keepIn K (.ref fL) = true) (gL : mg "call_or_none" = some (.ref fL)) (bL : Binds K fdL ["text"] []) : FnOk P w K mg base CX0 4 f fd ["text"] (spReadCall K mg) := by
  refine F.ok scReadCall (fun vs H Q E h => ?_) (fun cdv A outer s H vs Q E hr h => ?_)
  · obtain ⟨x, _, rfl, _⟩ := h
    rfl
  · obtain ⟨t, xs, rfl, hl, ln, k⟩ := h
    refine ⟨_, pss_cons (ps_if (pt_not (pt_val (pe_callB call_isi (by rfl) T.isin PyProof.Rows.boot_isinstance (pa_cons (pv 0) (pa_cons (pe_bltn (v := .ty "str") (by rfl) T.str PyProof.Rows.boot_str rfl) pa_nil))))) pss_never pss_nil)
      (pss_cons (ps_set (i := 1) scReadCall.nd rfl (Or.inl rfl) (pe_call GL hr (by rfl) gL kL bL .nil pass0 (pa_cons (pv 0) pa_nil)))
      (pss_cons (ps_if (pt_cmpR oIsN (pv 1) pe_non (nomark _)) pss_never pss_nil)
      (pss_one (ps_ret (pv 1))))), ?_⟩
    walk_at "wn"
    refine ⟨_, _, _, _, true, rfl, .ty "str", .base (.str t), kit_ty (by decide +kernel), ?_⟩
    walk_at "wn"
    refine ⟨t, some xs, rfl, hl, ln, fun H' p hp sm hx => ?_⟩
    walk_at "wn"
    have e : decide (V.ref p = V.non) = false := decide_eq_false fun z => nomatch z
    rw [e]
    walk_at "wn"
    exact k H' p hp sm hx
def AtTup (H : Hp) (c : V) (xs : List V) : Prop := ∃ p, c = .ref p ∧ H p = some (.tup xs)
theorem AtTup.same {H H' : Hp} {c : V} {xs : List V} (e : Same H H') (h : AtTup H c xs) : AtTup H' c xs := by
  obtain ⟨p, rfl, h⟩ := h
  exact ⟨p, rfl, e _ _ h⟩
theorem Paired.mono' {α β : Type} {R S : α → β → Prop} (m : ∀ a b, R a b → S a b) {xs : List α} {ys : List β} (h : Paired R xs ys) : Paired S xs ys := by
  induction h with
  | nil => exact .nil
  | cons r _ ih => exact .cons (m _ _ r) ih
theorem Paired.snoc {α β : Type} {R : α → β → Prop} {xs : List α} {ys : List β} (h : Paired R xs ys) {a : α} {b : β} (r : R a b) : Paired R (xs ++ [a]) (ys ++ [b]) := by
  induction h with
  | nil => exact .cons r .nil
  | cons r1 _ ih => exact .cons r1 ih
def spReadCalls (K : PySem.W.Frag) (mg : Str → Option Value) : Sp := fun vs H Q _ => ∃ (t : Str) (xss : List (List V)), vs = [.str t] ∧ t.length ≤ 9000 ∧ ((t = "" ∧ xss = []) ∨ (t ≠ "" ∧ Paired (fun l xs => Line K mg l (some xs)) (Txt.split t "\n") xss)) ∧
  ∀ H' l cs, H l = none → Same H H' → H' l = some (.lst cs) → Paired (AtTup H') cs xss → Q (.ref l) H'
theorem scReadCalls : FnScope ["text", "calls", "at", "line", "call"] ["text"] (defScope sReadCalls) := ⟨rfl, rfl, rfl, by decide +kernel, rfl, by decide +kernel, by decide +kernel⟩
theorem okReadCalls {f fL : Addr} {fd fdL : FuncData} (F : Fun K "read_calls" "read_calls" sReadCalls f fd) (T : CallTxt K w mg) (GL : FnOk P w K mg base CX0 3 fL fdL ["text"] (spLine K mg)) (kL : PySem.W.keepIn K (.ref fL) = true) (gL : mg "call_or_none" = some (.ref fL)) (bL : Binds K fdL ["text"] []) : FnOk P w K mg base CX0 4 f fd ["text"] (spReadCalls K mg) := by
  refine F.ok scReadCalls (fun vs H Q E h => ?_) (fun cdv A outer s H vs Q E hr h => ?_)
  · obtain ⟨x, _, rfl, _⟩ := h
    rfl
  · obtain ⟨t, xss, rfl, hl, hx, k⟩ := h
    refine ⟨_, pss_cons (ps_if (pt_not (pt_val (pe_callB call_isi (by rfl) T.isin PyProof.Rows.boot_isinstance (pa_cons (pv 0) (pa_cons (pe_bltn (v := .ty "str") (by rfl) T.str PyProof.Rows.boot_str rfl) pa_nil))))) pss_never pss_nil)
      (pss_cons (ps_set (i := 1) scReadCalls.nd rfl (Or.inl rfl) (pe_lst pa_nil))
      (pss_cons (ps_if (pt_cmpR op_eq (pv 0) pe_str (nomark _)) (pss_one (ps_ret (pv 1))) pss_nil)
      (pss_cons (ps_for PassesOwn.never rfl (pi_enum (by rfl) T.enum (pa_cons (pe_split (pv 0) pe_str) pa_nil)) (pg_tup rfl (pgs_cons (pg_name (i := 2) scReadCalls.nd rfl (Or.inl rfl)) (pgs_cons (pg_name (i := 3) scReadCalls.nd rfl (Or.inl rfl)) pgs_nil)))
        (pss_cons (ps_set (i := 4) scReadCalls.nd rfl (Or.inl rfl) (pe_call GL hr (by rfl) gL kL bL .nil pass0 (pa_cons (pv 3) pa_nil)))
        (pss_cons (ps_if (pt_cmpR oIsN (pv 4) pe_non (nomark _)) pss_never pss_nil)
        (pss_one (ps_expr (pe_bm PySem.F.plainAttrs_list PySem.F.slot_list_append PySem.F.type_list_append mt_append (pv 1) (pa_cons (pv 4) pa_nil)))))))
      (pss_one (ps_ret (pv 1)))))), ?_⟩
    walk_at "wn"
    refine ⟨_, _, _, _, true, rfl, .ty "str", .base (.str t), kit_ty (by decide +kernel), ?_⟩
    walk_at "wn"
    refine ⟨Nat.zero_le _, fun p hp => ?_⟩
    walk_at "wn"
    rcases hx with ⟨rfl, rfl⟩ | ⟨ht, hx⟩
    · have e : decide (V.str "" = V.str "") = true := decide_eq_true rfl
      rw [e]
      walk_at "wn"
      exact k _ p [] hp (fun x o h => by rw [upd_ne (ne_of_none h hp)]; exact h) upd_same .nil
    have e : decide (V.str t = V.str "") = false := decide_eq_false fun z => ht (str_inj.mp z)
    rw [e]
    walk_at "wn"
    have sle := split_le (t := t) (sep := "\n") rfl
    refine ⟨_, rfl, ⟨_, rfl⟩, t, "\n", rfl, rfl, rfl, by rw [sizeLine_eq]; omega, fun q hq => ?_⟩
    have nqp : p ≠ q := fun z => by
      rw [← z, upd_same] at hq
      cases hq
    have smH : Same H (upd H p (.lst [])) := fun x o h => by rw [upd_ne (ne_of_none h hp)]; exact h
    walk_at "wn"
    refine ⟨q, _, rfl, SqL.of upd_same, ?_⟩
    refine for_it (walk_enum (xs := (Txt.split t "\n").map V.str)) (fun j σ' H3 => ∃ (cs : List V) (u v w : Option V), σ' = [some (.str t), some (.ref p), u, v, w] ∧ Same H H3 ∧ H3 q = some (.lst ((Txt.split t "\n").map V.str)) ∧ H3 p = some (.lst cs) ∧ Paired (AtTup H3) cs (xss.take j)) ?_ ?_ ?_ ?_
    · refine ⟨[], none, none, none, rfl, fun x o h => ?_, upd_same, ?_, .nil⟩
      · rw [upd_ne (ne_of_none (smH _ _ h) hq)]
        exact smH _ _ h
      · rw [upd_ne nqp, upd_same]
    · rintro j σ' H3 hj ⟨cs, u, v, w, rfl, sm, h1, h2, h3⟩
      exact SqL.of h1
    · rintro j x σ' H3 H4 hj ⟨cs, u, v, w, rfl, sm, h1, h2, h3⟩ ⟨T1, x1, y1, rfl, nT, rfl, ex, ey⟩
      obtain rfl := Option.some.inj ex
      have ey : ((Txt.split t "\n").map V.str)[j]? = some y1 := ey
      rw [List.getElem?_map] at ey
      cases el : (Txt.split t "\n")[j]? with
      | none => rw [el] at ey; cases ey
      | some line =>
      rw [el] at ey
      cases ey
      obtain ⟨xs, exs, ln⟩ := Paired.get? hx el
      have smT : Same H3 (upd H3 T1 (.tup [V.int (j : Int), V.str line])) := fun c o e => by rw [upd_ne (ne_of_none e nT)]; exact e
      refine ⟨T1, _, rfl, SqT.of upd_same, rfl, _, _, rfl, ?_⟩
      walk_at "wn"
      refine ⟨_, _, rfl, ?_⟩
      walk_at "wn"
      refine ⟨rfl, ?_⟩
      walk_at "wn"
      refine ⟨line, some xs, rfl, Nat.le_trans (sle.2 line (List.mem_of_getElem? el)) (by omega), ln, fun H5 r hr0 sm5 hr1 => ?_⟩
      walk_at "wn"
      have e : decide (V.ref r = V.non) = false := decide_eq_false fun z => nomatch z
      rw [e]
      walk_at "wn"
      have sm6 := smT.trans sm5
      have hp5 := sm6 _ _ h2
      have hlen : cs.length ≤ 9001 := by
        have := h3.length
        rw [List.length_take] at this
        have := hx.length
        have := sle.1
        omega
      walk_at "wn"
      refine ⟨p, cs, _, rfl, rfl, hp5, by rw [sizeLine_eq]; omega, ?_⟩
      have keep : ∀ {c : Addr} {o : HO}, c ≠ p → H5 c = some o → upd H5 p (.lst (cs ++ [V.ref r])) c = some o := fun n e => by rw [upd_ne n]; exact e
      have nrp : r ≠ p := fun z => by rw [z, hp5] at hr1; cases hr1
      refine ⟨cs ++ [V.ref r], _, _, _, rfl, fun c o e => keep (ne_of_none e hp) (sm6 _ _ (sm _ _ e)), keep nqp.symm (sm6 _ _ h1), upd_same, ?_⟩
      rw [List.take_add_one, exs]
      exact Paired.snoc (Paired.mono' (fun c xs ⟨z, e1, e2⟩ => ⟨z, e1, keep (fun y => by rw [y, h2] at e2; cases e2) (sm6 _ _ e2)⟩) h3) ⟨r, rfl, keep nrp hr1⟩
    · rintro σ' H3 ⟨cs, u, v, w, rfl, sm, h1, h2, h3⟩
      walk_at "wn"
      rw [List.length_map, hx.length, List.take_length] at h3
      exact k H3 p cs hp sm h2 h3
end
end Wn

namespace Wn
open PySem PySem.Spec PyProof.Rows L2 Evl
local macro_rules | `(tactic| walk_at "wn1") => `(tactic| first | ((with_reducible show (if (!decide _) = true then _ else _)); refine' g_nes ?_) | ((with_reducible show (if (decide _) = true then _ else _)); refine' g_es ?_) | with_reducible first
  | (refine' g_var ?h ?q; (case h => with_unfolding_all rfl))
  | refine' g_c ?_ | refine' g_op ?_ | refine' g_rI0 ?_ | refine' g_asg ?_ | refine' g_name ?_ | refine' g_seq ?_ | refine' g_ret ?_ | refine' g_retN ?_ | refine' g_next ?_ | refine' g_drop ?_
  | refine' g_nil ?_ | refine' g_cons ?_ | refine' g_cb ?_ | refine' g_test ?_ | refine' g_bl ?_ | refine' g_if ?_ | refine' g_ifs ?_ | refine' g_not ?_ | refine' g_part ?_ | refine' g_pint ?_ | refine' g_nopart ?_ | refine' g_call ?_
  | (refine' g_mul ?h ?q; (case h => with_unfolding_all first | exact Or.inl ⟨by decide, by decide⟩ | exact Or.inr ⟨by decide, by decide⟩ | exact Or.inl ⟨by omega, by omega⟩ | exact Or.inr ⟨by omega, by omega⟩))
  | (refine' g_mod ?h ?q; (case h => with_unfolding_all first | decide | omega))
  | refine' g_rIsN ?_ | refine' g_rNotN ?_ | refine' g_max2 ?_ | refine' g_min2 ?_ | refine' g_and ?_ | refine' g_or ?_ | refine' g_orV ?_ | refine' g_andV ?_ | refine' g_notV ?_ | refine' g_m1 ?_ | refine' g_yes ?_ | refine' g_bm ?_ | refine' g_bm0 ?_
  | (refine' g_tyL ?h ?q; (case h => first | assumption | exact upd_same))
  | refine' g_m0 ?_ | refine' g_tB ?_ | refine' g_isS ?_ | refine' g_bT ?_ | refine' g_bF ?_ | refine' g_bNT ?_ | refine' g_callK ?_ | refine' g_bNF ?_
  | (refine' g_lenL ?h ?q; (case h => first | assumption | exact upd_same))
  | refine' g_un ?_ | refine' g_rint _ ?_ | refine' g_rabs ?_ | refine' g_sl ?_ 
  | (refine' g_ixL ?h ?a ?q; (case h => first | assumption | exact upd_same); (case a => with_unfolding_all rfl))
  | (refine' g_div ?h0 ?h1 ?q; (case h0 => with_unfolding_all first | decide | omega); (case h1 => with_unfolding_all first | decide | omega))
  | refine' g_sub ?_
  | (refine' g_setL ?h ?a ?q; (case h => first | assumption | exact upd_same); (case a => with_unfolding_all rfl))
  | refine' g_lst ?_ | refine' g_tup ?_
  | (refine' g_rEq ?h ?q; (case h => with_unfolding_all rfl)) | (refine' g_rNe ?h ?q; (case h => with_unfolding_all rfl)))
local macro_rules | `(tactic| walk_at "wn") => `(tactic| repeat walk_at "wn1")

abbrev sNumber : Stmt := top 22
abbrev sCall : Stmt := top 23
abbrev sText : Stmt := top 24
abbrev sLaw : Stmt := top 25
theorem Dr.new {p l : Addr} {H : Hp} {o : HO} (b : BagAt H p) (h : H l = none) : Dr p H (upd H l o) := Dr.ex b (Ex.new h)
theorem Dr.draw {p : Addr} {H H' : Hp} (e : ∀ b, b ≠ p → H' b = H b) (b : BagAt H' p) : Dr p H H' := ⟨fun a o n h => (e a n).trans h, b⟩
theorem BagAt.ne {H : Hp} {p l : Addr} (b : BagAt H p) (h : H l = none) : l ≠ p := fun z => by
  obtain ⟨x, y, e, _⟩ := b
  rw [← z, h] at e
  cases e
section
variable {P : Program} {w : World} {K : PySem.W.Frag} {mg : Str → Option Value} {base : Heap}
def spNumber : Sp := fun vs H Q _ => ∃ p : Addr, vs = [.ref p] ∧ BagAt H p ∧ ∀ (n : Nat) (H' : Hp), n ≤ 999999999 → Dr p H H' → Q (.int n) H'
theorem scNumber : FnScope ["_law_bag_here", "_law_way"] ["_law_bag_here"] (defScope sNumber) := ⟨rfl, rfl, rfl, by decide +kernel, rfl, by decide +kernel, by decide +kernel⟩
theorem okNumber {f fT fO : Addr} {fd fdT fdO : FuncData} (F : Fun K "_law_number" "_law_number" sNumber f fd) (GT : FnOk P w K mg base CX0 1 fT fdT ["_law_bag_here", "_law_many"] spTake) (kT : PySem.W.keepIn K (.ref fT) = true) (gT : mg "_law_take" = some (.ref fT)) (bT : Binds K fdT ["_law_bag_here", "_law_many"] [])
    (GO : FnOk P w K mg base CX0 2 fO fdO ["_law_bag_here", "_law_some"] (spOf K)) (kO : PySem.W.keepIn K (.ref fO) = true) (gO : mg "_law_of" = some (.ref fO)) (bO : Binds K fdO ["_law_bag_here", "_law_some"] []) : FnOk P w K mg base CX0 3 f fd ["_law_bag_here"] spNumber := by
  refine F.ok scNumber (fun vs H Q E h => ?_) (fun cdv A outer s H vs Q E hr h => ?_)
  · obtain ⟨x, rfl, _⟩ := h
    rfl
  · obtain ⟨p, rfl, hb, k⟩ := h
    have hr1 : Room 1 _ := hr.mono (by decide)
    refine ⟨_, pss_cons (ps_set (i := 1) scNumber.nd rfl (Or.inl rfl) (pe_call GT hr1 (by rfl) gT kT bT .nil pass0 (pa_cons (pv 0) (pa_cons pe_int pa_nil))))
      (pss_cons (ps_if (pt_cmpR op_eq (pv 1) pe_int (nomark _)) (pss_one (ps_ret (pe_call GO hr (by rfl) gO kO bO .nil pass0 (pa_cons (pv 0) (pa_cons (pe_lst (pa_cons pe_int (pa_cons pe_int (pa_cons pe_int (pa_cons pe_int (pa_cons pe_int (pa_cons pe_int (pa_cons pe_int (pa_cons pe_int pa_nil))))))))) pa_nil))))) pss_nil)
      (pss_one (ps_ret (pe_call GT hr1 (by rfl) gT kT bT .nil pass0 (pa_cons (pv 0) (pa_cons (pe_ix ix_list (pe_lst (pa_cons pe_int (pa_cons pe_int (pa_cons pe_int pa_nil)))) (pv 1) (fun _ _ => rfl)) pa_nil)))))), ?_⟩
    walk_at "wn"
    refine ⟨p, 4, rfl, hb, by decide, by decide, fun i H1 i0 i1 e1 b1 => ?_⟩
    have d1 := Dr.draw e1 b1
    walk_at "wn"
    by_cases h3 : i = 3
    · rw [decide_eq_true (by rw [h3] : V.int i = V.int 3)]
      walk_at "wn"
      refine ⟨by show 8 ≤ sizeLine; decide, fun l hl => ?_⟩
      walk_at "wn"
      refine ⟨p, l, _, rfl, (Dr.new b1 hl).2, SqL.of upd_same, BagAt.ne b1 hl, by decide, by decide, fun j v H2 hv e2 b2 => ?_⟩
      obtain ⟨n, rfl, hn⟩ : ∃ n : Nat, v = .int n ∧ n ≤ 999999999 := by
        have hm := List.mem_of_getElem? hv
        simp only [List.mem_cons, List.not_mem_nil, or_false] at hm
        rcases hm with rfl | rfl | rfl | rfl | rfl | rfl | rfl | rfl
        · exact ⟨0, rfl, by decide⟩
        · exact ⟨9, rfl, by decide⟩
        · exact ⟨10, rfl, by decide⟩
        · exact ⟨99, rfl, by decide⟩
        · exact ⟨100, rfl, by decide⟩
        · exact ⟨999999999, rfl, by decide⟩
        · exact ⟨100000000, rfl, by decide⟩
        · exact ⟨1000000, rfl, by decide⟩
      exact k n H2 hn ((d1.trans (Dr.new b1 hl)).trans (Dr.draw e2 b2))
    · rw [decide_eq_false (fun z => h3 (V.int.inj z))]
      walk_at "wn"
      refine ⟨by show 3 ≤ sizeLine; decide, fun l hl => ?_⟩
      obtain ⟨m, hm, m0, m1⟩ : ∃ m : Int, atI [V.int 8, V.int 100, V.int 1000000000] i = some (V.int m) ∧ 0 < m ∧ m ≤ 1000000000 := by
        have : i = 0 ∨ i = 1 ∨ i = 2 := by omega
        rcases this with rfl | rfl | rfl
        · exact ⟨8, rfl, by decide, by decide⟩
        · exact ⟨100, rfl, by decide, by decide⟩
        · exact ⟨1000000000, rfl, by decide, by decide⟩
      walk_at "wn"
      refine ⟨l, _, i, _, rfl, rfl, SqL.of upd_same, hm, ?_⟩
      walk_at "wn"
      refine ⟨p, m, rfl, (Dr.new b1 hl).2, m0, by omega, fun j H2 j0 j1 e2 b2 => ?_⟩
      obtain ⟨n, rfl⟩ := Int.eq_ofNat_of_zero_le j0
      exact k n H2 (by omega) ((d1.trans (Dr.new b1 hl)).trans (Dr.draw e2 b2))
end
end Wn

namespace Wn
open PySem PySem.Spec PyProof.Rows L2 Evl
local macro_rules | `(tactic| walk_at "wn1") => `(tactic| first | ((with_reducible show (if (!decide _) = true then _ else _)); refine' g_nes ?_) | ((with_reducible show (if (decide _) = true then _ else _)); refine' g_es ?_) | with_reducible first
  | (refine' g_var ?h ?q; (case h => with_unfolding_all rfl))
  | refine' g_c ?_ | refine' g_op ?_ | refine' g_rI0 ?_ | refine' g_asg ?_ | refine' g_name ?_ | refine' g_seq ?_ | refine' g_ret ?_ | refine' g_retN ?_ | refine' g_next ?_ | refine' g_drop ?_
  | refine' g_nil ?_ | refine' g_cons ?_ | refine' g_cb ?_ | refine' g_test ?_ | refine' g_bl ?_ | refine' g_if ?_ | refine' g_ifs ?_ | refine' g_not ?_ | refine' g_part ?_ | refine' g_pint ?_ | refine' g_nopart ?_ | refine' g_call ?_
  | (refine' g_mul ?h ?q; (case h => with_unfolding_all first | exact Or.inl ⟨by decide, by decide⟩ | exact Or.inr ⟨by decide, by decide⟩ | exact Or.inl ⟨by omega, by omega⟩ | exact Or.inr ⟨by omega, by omega⟩))
  | (refine' g_mod ?h ?q; (case h => with_unfolding_all first | decide | omega))
  | refine' g_rIsN ?_ | refine' g_rNotN ?_ | refine' g_max2 ?_ | refine' g_min2 ?_ | refine' g_and ?_ | refine' g_or ?_ | refine' g_orV ?_ | refine' g_andV ?_ | refine' g_notV ?_ | refine' g_m1 ?_ | refine' g_yes ?_ | refine' g_bm ?_ | refine' g_bm0 ?_
  | (refine' g_tyL ?h ?q; (case h => first | assumption | exact upd_same))
  | refine' g_m0 ?_ | refine' g_tB ?_ | refine' g_isS ?_ | refine' g_bT ?_ | refine' g_bF ?_ | refine' g_bNT ?_ | refine' g_callK ?_ | refine' g_bNF ?_
  | (refine' g_lenL ?h ?q; (case h => first | assumption | exact upd_same))
  | refine' g_un ?_ | refine' g_rint _ ?_ | refine' g_rabs ?_ | refine' g_sl ?_ 
  | (refine' g_ixL ?h ?a ?q; (case h => first | assumption | exact upd_same); (case a => with_unfolding_all rfl))
  | (refine' g_div ?h0 ?h1 ?q; (case h0 => with_unfolding_all first | decide | omega); (case h1 => with_unfolding_all first | decide | omega))
  | refine' g_sub ?_
  | (refine' g_setL ?h ?a ?q; (case h => first | assumption | exact upd_same); (case a => with_unfolding_all rfl))
  | refine' g_lst ?_ | refine' g_tup ?_
  | (refine' g_rEq ?h ?q; (case h => with_unfolding_all rfl)) | (refine' g_rNe ?h ?q; (case h => with_unfolding_all rfl)))
local macro_rules | `(tactic| walk_at "wn") => `(tactic| repeat walk_at "wn1")

/-! the calls that the law makes -/
def ArgV (k : Str) (v : V) : Prop := (k = "word" ∧ ∃ x ∈ wordsL, v = .str x) ∨ (k = "optional" ∧ v = .non) ∨ (k ≠ "word" ∧ ∃ n : Nat, v = .int n ∧ n ≤ 999999999)
def ValidCall (xs : List V) : Prop := ∃ (name : Str) (args : List V) (ks : List Str), xs = .str name :: args ∧ (name, ks) ∈ kindsL ∧ Paired ArgV ks args
/-- displays of tuples whose parts ask nothing of the heap -/
def Laid (σ : L2.St) (ta : TA) (xss : List (List V)) : Prop := ∀ (H : Hp) (Q : List V → Hp → Prop), (∀ H' vs, Same H H' → Paired (AtTup H') vs xss → Q vs H') → ta σ H Q
theorem laid_nil {σ : L2.St} : Laid σ tNil [] := fun H Q h => h H [] (Same.refl H) .nil
theorem laid_cons {σ : L2.St} {tr ta : TA} {xs : List V} {xss : List (List V)} (h1 : ∀ (H : Hp) (Q : List V → Hp → Prop), Q xs H → tr σ H Q) (hz : xs.length ≤ 100) (h2 : Laid σ ta xss) : Laid σ (tCons (tTup tr) ta) (xs :: xss) := by
  intro H Q h
  refine g_cons (g_tup (h1 H _ ⟨by rw [sizeLine_eq]; omega, fun p hp => h2 _ _ fun H' vs sm pr => h H' _ (fun a o e => sm a o ?_) (.cons ⟨p, rfl, sm _ _ upd_same⟩ pr)⟩))
  rw [upd_ne (ne_of_none e hp)]
  exact e
theorem Paired.app {α β : Type} {R : α → β → Prop} {xs xs' : List α} {ys ys' : List β} (h : Paired R xs ys) (h' : Paired R xs' ys') : Paired R (xs ++ xs') (ys ++ ys') := by
  induction h with
  | nil => exact h'
  | cons r _ ih => exact .cons r ih
theorem Dr.same {p : Addr} {H H' : Hp} (b : BagAt H p) (e : Same H H') : Dr p H H' := ⟨fun a o _ h => e a o h, by
  obtain ⟨x, y, h, r⟩ := b
  exact ⟨x, y, e _ _ h, r⟩⟩
theorem Dr.upd {p l : Addr} {H H' : Hp} {o : HO} (d : Dr p H H') (h : H l = none) (n : l ≠ p) : Dr p H (upd H' l o) := ⟨fun a u na e => by
    rw [upd_ne (ne_of_none e h)]
    exact d.1 a u na e, by
  obtain ⟨x, y, e, r⟩ := d.2
  exact ⟨x, y, (upd_ne (Ne.symm n)).trans e, r⟩⟩
theorem Dr.free {p l : Addr} {H H' : Hp} (b : BagAt H p) (d : Dr p H H') (h : H' l = none) : H l = none := by
  have n := BagAt.ne d.2 h
  cases e : H l with
  | none => rfl
  | some o =>
    rw [d.1 l o n e] at h
    cases h
section
variable {P : Program} {w : World} {K : PySem.W.Frag} {mg : Str → Option Value} {base : Heap}
def spCall : Sp := fun vs H Q _ => ∃ p : Addr, vs = [.ref p] ∧ BagAt H p ∧ ∀ (c : Addr) (xs : List V) (H' : Hp), ValidCall xs → H' c = some (.tup xs) → Dr p H H' → Q (.ref c) H'
abbrev nCall : List Str := ["_law_bag_here", "_law_p", "_law_n", "_law_m", "_law_q", "_law_word", "_law_maybe", "_law_some", "_law_k"]
theorem scCall : FnScope nCall ["_law_bag_here"] (defScope sCall) := ⟨rfl, rfl, rfl, by decide +kernel, rfl, by decide +kernel, by decide +kernel⟩
theorem okCall {f fT fO fN : Addr} {fd fdT fdO fdN : FuncData} (F : Fun K "_law_call" "_law_call" sCall f fd) (range : mg "range" = none) (GT : FnOk P w K mg base CX0 1 fT fdT ["_law_bag_here", "_law_many"] spTake) (kT : PySem.W.keepIn K (.ref fT) = true) (gT : mg "_law_take" = some (.ref fT)) (bT : Binds K fdT ["_law_bag_here", "_law_many"] [])
    (GO : FnOk P w K mg base CX0 2 fO fdO ["_law_bag_here", "_law_some"] (spOf K)) (kO : PySem.W.keepIn K (.ref fO) = true) (gO : mg "_law_of" = some (.ref fO)) (bO : Binds K fdO ["_law_bag_here", "_law_some"] [])
    (GN : FnOk P w K mg base CX0 3 fN fdN ["_law_bag_here"] spNumber) (kN : PySem.W.keepIn K (.ref fN) = true) (gN : mg "_law_number" = some (.ref fN)) (bN : Binds K fdN ["_law_bag_here"] []) : FnOk P w K mg base CX0 4 f fd ["_law_bag_here"] spCall := by
  refine F.ok scCall (fun vs H Q E h => ?_) (fun cdv A outer s H vs Q E hr h => ?_)
  · obtain ⟨x, rfl, _⟩ := h
    rfl
  · obtain ⟨p, rfl, hb, k⟩ := h
    have hr1 : Room 1 _ := hr.mono (by decide)
    have hr2 : Room 2 _ := hr.mono (by decide)
    refine ⟨_, pss_cut (ps_asg (pe_lc (own := [("_law_k", 8)]) (g := gName 8) (tt := tYes) rfl scCall.nd (pi_range1 (by rfl) range (pa_cons pe_int pa_nil)) (blkOk_by (N := nCall) (sc := defScope sCall) (by decide +kernel)) (fun _ _ _ _ _ => pg_name (i := 8) scCall.nd rfl (Or.inl rfl)) (fun _ _ _ _ _ => pts_nil) (fun _ _ _ _ _ => pe_call GN hr (by rfl) gN kN bN .nil pass0 (pa_cons (pv 0) pa_nil)))
        (pg_unl rfl (pgs_cons (pg_name (i := 1) scCall.nd rfl (Or.inl rfl)) (pgs_cons (pg_name (i := 2) scCall.nd rfl (Or.inl rfl)) (pgs_cons (pg_name (i := 3) scCall.nd rfl (Or.inl rfl)) (pgs_cons (pg_name (i := 4) scCall.nd rfl (Or.inl rfl)) pgs_nil))))))
      (pss_cut (ps_par (i := 5) (j := 6) (by rfl) scCall.nd rfl rfl (by decide) rfl rfl (pa_cons (pe_call GO hr2 (by rfl) gO kO bO .nil pass0 (pa_cons (pv 0) (pa_cons (pe_lst (pa_cons pe_str (pa_cons pe_str (pa_cons pe_str pa_nil)))) pa_nil))) (pa_cons (pe_call GO hr2 (by rfl) gO kO bO .nil pass0 (pa_cons (pv 0) (pa_cons (pe_lst (pa_cons pe_non (pa_cons (pv 3) pa_nil))) pa_nil))) pa_nil)) (by rfl))
      (pss_cut (ps_set (i := 7) scCall.nd rfl (Or.inl rfl) (pe_lst (pa_cons (pe_tup (pa_cons pe_str (pa_cons (pv 1) pa_nil))) (pa_cons (pe_tup (pa_cons pe_str (pa_cons (pv 1) pa_nil))) (pa_cons (pe_tup (pa_cons pe_str (pa_cons (pv 1) pa_nil))) (pa_cons (pe_tup (pa_cons pe_str (pa_cons (pv 1) pa_nil))) (pa_cons (pe_tup (pa_cons pe_str (pa_cons (pv 1) pa_nil))) (pa_cons (pe_tup (pa_cons pe_str (pa_cons (pv 1) (pa_cons (pv 2) pa_nil)))) pa_nil))))))))
      (pss_cut (ps_set (i := 7) scCall.nd rfl (Or.inl rfl) (pe_op op_cat (pv 7) (pe_lst (pa_cons (pe_tup (pa_cons pe_str (pa_cons (pv 1) (pa_cons (pv 2) pa_nil)))) (pa_cons (pe_tup (pa_cons pe_str (pa_cons (pv 1) (pa_cons (pv 2) pa_nil)))) (pa_cons (pe_tup (pa_cons pe_str (pa_cons (pv 1) (pa_cons (pv 2) (pa_cons (pv 6) pa_nil))))) (pa_cons (pe_tup (pa_cons pe_str (pa_cons (pv 1) (pa_cons (pv 2) (pa_cons (pv 6) pa_nil))))) pa_nil)))))))
      (pss_cut (ps_set (i := 7) scCall.nd rfl (Or.inl rfl) (pe_op op_cat (pv 7) (pe_lst (pa_cons (pe_tup (pa_cons pe_str (pa_cons (pv 1) (pa_cons (pv 2) (pa_cons (pv 3) pa_nil))))) (pa_cons (pe_tup (pa_cons pe_str (pa_cons (pv 1) (pa_cons (pv 2) (pa_cons (pv 3) pa_nil))))) (pa_cons (pe_tup (pa_cons pe_str (pa_cons (pv 1) (pa_cons (pv 2) (pa_cons (pv 3) pa_nil))))) (pa_cons (pe_tup (pa_cons pe_str (pa_cons (pv 1) (pa_cons (pv 2) (pa_cons (pv 3) (pa_cons (pv 4) pa_nil)))))) pa_nil)))))))
      (pss_cut (ps_set (i := 7) scCall.nd rfl (Or.inl rfl) (pe_op op_cat (pv 7) (pe_lst (pa_cons (pe_tup (pa_cons pe_str (pa_cons (pv 1) (pa_cons (pv 2) (pa_cons (pv 3) (pa_cons (pv 4) (pa_cons (pv 5) pa_nil))))))) (pa_cons (pe_tup (pa_cons pe_str (pa_cons (pv 1) (pa_cons (pv 2) (pa_cons (pv 3) (pa_cons (pv 5) pa_nil)))))) pa_nil)))))
      (pss_one (ps_ret (pe_ix ix_list (pv 7) (pe_call GT hr1 (by rfl) gT kT bT .nil pass0 (pa_cons (pv 0) (pa_cons pe_int pa_nil))) (fun _ _ => rfl))))))))), ?_⟩
    refine ⟨fun σ' H' => ∃ a b c d : Nat, (a ≤ 999999999 ∧ b ≤ 999999999 ∧ c ≤ 999999999 ∧ d ≤ 999999999) ∧ σ' = [some (.ref p), some (.int a), some (.int b), some (.int c), some (.int d), none, none, none, none] ∧ Dr p H H', ?_, ?_⟩
    · walk_at "wn"
      refine ⟨4, rfl, by decide, by decide, fun D hD => lc_range (lo := 0) (n := 4) (fun i H' => Dr p H H' ∧ ∃ ns : List Nat, ns.length = i ∧ (∀ n ∈ ns, n ≤ 999999999) ∧ H' D = some (.lst (ns.map fun n : Nat => V.int (n : Int)))) ⟨Dr.new hb hD, [], rfl, (fun _ z => nomatch z), upd_same⟩ ?_ ?_⟩
      · rintro i H' hi ⟨dr, ns, l1, l2, l3⟩
        refine ⟨rfl, ?_⟩
        walk_at "wn"
        refine ⟨p, rfl, dr.2, fun n H2 hn d2 => ?_⟩
        have nDp : D ≠ p := BagAt.ne hb hD
        refine ⟨_, d2.1 D _ nDp l3, by rw [List.length_map, sizeLine_eq]; omega, Dr.upd (dr.trans d2) hD nDp, ns ++ [n], by simp [l1], fun m hm => ?_, by rw [upd_same]; simp⟩
        rcases List.mem_append.mp hm with hm | hm
        · exact l2 m hm
        · rw [List.mem_singleton.mp hm]
          exact hn
      · rintro H' ⟨dr, ns, l1, l2, l3⟩
        rcases ns with _ | ⟨a, _ | ⟨b, _ | ⟨c, _ | ⟨d, _ | ⟨e, r⟩⟩⟩⟩⟩ <;> simp at l1
        refine ⟨D, _, rfl, SqL.of l3, rfl, _, _, rfl, _, _, rfl, _, _, rfl, _, _, rfl, rfl, ?_⟩
        exact ⟨a, b, c, d, ⟨l2 a (by simp), l2 b (by simp), l2 c (by simp), l2 d (by simp)⟩, rfl, dr⟩
    rintro σ' H1 ⟨a, b, c, d, ⟨ha, hbb, hc, hd⟩, rfl, d1⟩
    refine ⟨fun σ' H' => ∃ (wd : Str) (mb : V), wd ∈ wordsL ∧ (mb = .non ∨ mb = .int c) ∧ σ' = [some (.ref p), some (.int a), some (.int b), some (.int c), some (.int d), some (.str wd), some mb, none, none] ∧ Dr p H H', ?_, ?_⟩
    · show tCons _ _ _ _ _
      walk_at "wn"
      refine ⟨by show 3 ≤ sizeLine; decide, fun l hl => ?_⟩
      walk_at "wn"
      refine ⟨p, l, _, rfl, (Dr.new d1.2 hl).2, SqL.of upd_same, BagAt.ne d1.2 hl, by decide, by decide, fun j v H2 hv e2 b2 => ?_⟩
      obtain ⟨wd, hw, rfl⟩ : ∃ wd ∈ wordsL, v = .str wd := by
        have hm := List.mem_of_getElem? hv
        simp only [List.mem_cons, List.not_mem_nil, or_false] at hm
        rcases hm with rfl | rfl | rfl
        · exact ⟨"level", by decide +kernel, rfl⟩
        · exact ⟨"edge", by decide +kernel, rfl⟩
        · exact ⟨"once", by decide +kernel, rfl⟩
      have d2 := (d1.trans (Dr.new d1.2 hl)).trans (Dr.draw e2 b2)
      walk_at "wn"
      refine ⟨by show 2 ≤ sizeLine; decide, fun l2 hl2 => ?_⟩
      walk_at "wn"
      refine ⟨p, l2, _, rfl, (Dr.new d2.2 hl2).2, SqL.of upd_same, BagAt.ne d2.2 hl2, by show 0 < 2; decide, by show 2 ≤ 1000; decide, fun j v H3 hv e3 b3 => ?_⟩
      have hmb : v = .non ∨ v = .int c := by
        have hm := List.mem_of_getElem? hv
        simpa only [List.mem_cons, List.not_mem_nil, or_false] using hm
      have d3 := (d2.trans (Dr.new d2.2 hl2)).trans (Dr.draw e3 b3)
      walk_at "wn"
      exact ⟨_, _, rfl, wd, v, hw, hmb, rfl, d3⟩
    rintro σ' H2 ⟨wd, mb, hwd, hmb, rfl, d2⟩
    refine ⟨fun σ' H' => ∃ (l : Addr) (vs : List V), σ' = [some (.ref p), some (.int a), some (.int b), some (.int c), some (.int d), some (.str wd), some mb, some (.ref l), none] ∧ H l = none ∧ H' l = some (.lst vs) ∧ Paired (AtTup H') vs ([[V.str "new_source", .int (a : Int)], [V.str "new_set", .int (a : Int)], [V.str "fork", .int (a : Int)], [V.str "end", .int (a : Int)], [V.str "numbers", .int (a : Int)], [V.str "close", .int (a : Int), .int (b : Int)]]) ∧ Dr p H H', ?_, ?_⟩
    · refine g_asg (g_lst ((show Laid _ _ [[V.str "new_source", .int (a : Int)], [V.str "new_set", .int (a : Int)], [V.str "fork", .int (a : Int)], [V.str "end", .int (a : Int)], [V.str "numbers", .int (a : Int)], [V.str "close", .int (a : Int), .int (b : Int)]] from (laid_cons (fun H Q h => by walk_at "wn"; exact h) (by simp) (laid_cons (fun H Q h => by walk_at "wn"; exact h) (by simp) (laid_cons (fun H Q h => by walk_at "wn"; exact h) (by simp) (laid_cons (fun H Q h => by walk_at "wn"; exact h) (by simp) (laid_cons (fun H Q h => by walk_at "wn"; exact h) (by simp) (laid_cons (fun H Q h => by walk_at "wn"; exact h) (by simp) laid_nil))))))) _ _ fun H' vs sm pr => ⟨?_, fun l hl => ?_⟩))
      · rw [pr.length, sizeLine_eq]
        simp
      · walk_at "wn"
        have d3 := d2.trans (Dr.same d2.2 sm)
        have e3 : Same H' (upd H' l (.lst vs)) := fun x o e => by rw [upd_ne (ne_of_none e hl)]; exact e
        exact ⟨l, vs, rfl, Dr.free hb d3 hl, upd_same, Paired.mono' (fun _ _ z => AtTup.same e3 z) pr, d3.trans (Dr.same d3.2 e3)⟩
    rintro σ' H3 ⟨l0, vs0, rfl, n0, h0, p0, d3⟩
    refine ⟨fun σ' H' => ∃ (l : Addr) (vs : List V), σ' = [some (.ref p), some (.int a), some (.int b), some (.int c), some (.int d), some (.str wd), some mb, some (.ref l), none] ∧ H l = none ∧ H' l = some (.lst vs) ∧ Paired (AtTup H') vs ([[V.str "new_source", .int (a : Int)], [V.str "new_set", .int (a : Int)], [V.str "fork", .int (a : Int)], [V.str "end", .int (a : Int)], [V.str "numbers", .int (a : Int)], [V.str "close", .int (a : Int), .int (b : Int)]] ++ [[V.str "finish", .int (a : Int), .int (b : Int)], [V.str "units", .int (a : Int), .int (b : Int)], [V.str "copy", .int (a : Int), .int (b : Int), mb], [V.str "read", .int (a : Int), .int (b : Int), mb]]) ∧ Dr p H H', ?_, ?_⟩
    · refine g_asg (g_op (g_var rfl (g_lst ((show Laid _ _ [[V.str "finish", .int (a : Int), .int (b : Int)], [V.str "units", .int (a : Int), .int (b : Int)], [V.str "copy", .int (a : Int), .int (b : Int), mb], [V.str "read", .int (a : Int), .int (b : Int), mb]] from (laid_cons (fun H Q h => by walk_at "wn"; exact h) (by simp) (laid_cons (fun H Q h => by walk_at "wn"; exact h) (by simp) (laid_cons (fun H Q h => by walk_at "wn"; exact h) (by simp) (laid_cons (fun H Q h => by walk_at "wn"; exact h) (by simp) laid_nil))))) _ _ fun H' vs sm pr => ⟨?_, fun l1 hl1 => ?_⟩))))
      · rw [pr.length, sizeLine_eq]
        simp
      · have d5 := d3.trans (Dr.same d3.2 sm)
        have e3 : Same H' (upd H' l1 (.lst vs)) := fun x o e => by rw [upd_ne (ne_of_none e hl1)]; exact e
        have d6 := d5.trans (Dr.same d5.2 e3)
        refine ⟨l0, l1, _, _, rfl, rfl, e3 _ _ (sm _ _ h0), upd_same, ?_, fun l hl => ?_⟩
        · rw [p0.length, pr.length, sizeLine_eq]
          simp
        · walk_at "wn"
          have e4 : Same (upd H' l1 (.lst vs)) (upd (upd H' l1 (.lst vs)) l (.lst (vs0 ++ vs))) := fun x o e => by rw [upd_ne (ne_of_none e hl)]; exact e
          exact ⟨l, _, rfl, Dr.free hb d6 hl, upd_same, Paired.app (Paired.mono' (fun _ _ z => AtTup.same (sm.trans (e3.trans e4)) z) p0) (Paired.mono' (fun _ _ z => AtTup.same (e3.trans e4) z) pr), d6.trans (Dr.same d6.2 e4)⟩
    rintro σ' H4 ⟨l0, vs0, rfl, n0, h0, p0, d4⟩
    refine ⟨fun σ' H' => ∃ (l : Addr) (vs : List V), σ' = [some (.ref p), some (.int a), some (.int b), some (.int c), some (.int d), some (.str wd), some mb, some (.ref l), none] ∧ H l = none ∧ H' l = some (.lst vs) ∧ Paired (AtTup H') vs (([[V.str "new_source", .int (a : Int)], [V.str "new_set", .int (a : Int)], [V.str "fork", .int (a : Int)], [V.str "end", .int (a : Int)], [V.str "numbers", .int (a : Int)], [V.str "close", .int (a : Int), .int (b : Int)]] ++ [[V.str "finish", .int (a : Int), .int (b : Int)], [V.str "units", .int (a : Int), .int (b : Int)], [V.str "copy", .int (a : Int), .int (b : Int), mb], [V.str "read", .int (a : Int), .int (b : Int), mb]]) ++ [[V.str "arrive", .int (a : Int), .int (b : Int), .int (c : Int)], [V.str "remove", .int (a : Int), .int (b : Int), .int (c : Int)], [V.str "wait", .int (a : Int), .int (b : Int), .int (c : Int)], [V.str "same", .int (a : Int), .int (b : Int), .int (c : Int), .int (d : Int)]]) ∧ Dr p H H', ?_, ?_⟩
    · refine g_asg (g_op (g_var rfl (g_lst ((show Laid _ _ [[V.str "arrive", .int (a : Int), .int (b : Int), .int (c : Int)], [V.str "remove", .int (a : Int), .int (b : Int), .int (c : Int)], [V.str "wait", .int (a : Int), .int (b : Int), .int (c : Int)], [V.str "same", .int (a : Int), .int (b : Int), .int (c : Int), .int (d : Int)]] from (laid_cons (fun H Q h => by walk_at "wn"; exact h) (by simp) (laid_cons (fun H Q h => by walk_at "wn"; exact h) (by simp) (laid_cons (fun H Q h => by walk_at "wn"; exact h) (by simp) (laid_cons (fun H Q h => by walk_at "wn"; exact h) (by simp) laid_nil))))) _ _ fun H' vs sm pr => ⟨?_, fun l1 hl1 => ?_⟩))))
      · rw [pr.length, sizeLine_eq]
        simp
      · have d5 := d4.trans (Dr.same d4.2 sm)
        have e3 : Same H' (upd H' l1 (.lst vs)) := fun x o e => by rw [upd_ne (ne_of_none e hl1)]; exact e
        have d6 := d5.trans (Dr.same d5.2 e3)
        refine ⟨l0, l1, _, _, rfl, rfl, e3 _ _ (sm _ _ h0), upd_same, ?_, fun l hl => ?_⟩
        · rw [p0.length, pr.length, sizeLine_eq]
          simp
        · walk_at "wn"
          have e4 : Same (upd H' l1 (.lst vs)) (upd (upd H' l1 (.lst vs)) l (.lst (vs0 ++ vs))) := fun x o e => by rw [upd_ne (ne_of_none e hl)]; exact e
          exact ⟨l, _, rfl, Dr.free hb d6 hl, upd_same, Paired.app (Paired.mono' (fun _ _ z => AtTup.same (sm.trans (e3.trans e4)) z) p0) (Paired.mono' (fun _ _ z => AtTup.same (e3.trans e4) z) pr), d6.trans (Dr.same d6.2 e4)⟩
    rintro σ' H5 ⟨l0, vs0, rfl, n0, h0, p0, d5⟩
    refine ⟨fun σ' H' => ∃ (l : Addr) (vs : List V), σ' = [some (.ref p), some (.int a), some (.int b), some (.int c), some (.int d), some (.str wd), some mb, some (.ref l), none] ∧ H l = none ∧ H' l = some (.lst vs) ∧ Paired (AtTup H') vs ((([[V.str "new_source", .int (a : Int)], [V.str "new_set", .int (a : Int)], [V.str "fork", .int (a : Int)], [V.str "end", .int (a : Int)], [V.str "numbers", .int (a : Int)], [V.str "close", .int (a : Int), .int (b : Int)]] ++ [[V.str "finish", .int (a : Int), .int (b : Int)], [V.str "units", .int (a : Int), .int (b : Int)], [V.str "copy", .int (a : Int), .int (b : Int), mb], [V.str "read", .int (a : Int), .int (b : Int), mb]]) ++ [[V.str "arrive", .int (a : Int), .int (b : Int), .int (c : Int)], [V.str "remove", .int (a : Int), .int (b : Int), .int (c : Int)], [V.str "wait", .int (a : Int), .int (b : Int), .int (c : Int)], [V.str "same", .int (a : Int), .int (b : Int), .int (c : Int), .int (d : Int)]]) ++ [[V.str "add", .int (a : Int), .int (b : Int), .int (c : Int), .int (d : Int), .str wd], [V.str "change", .int (a : Int), .int (b : Int), .int (c : Int), .str wd]]) ∧ Dr p H H', ?_, ?_⟩
    · refine g_asg (g_op (g_var rfl (g_lst ((show Laid _ _ [[V.str "add", .int (a : Int), .int (b : Int), .int (c : Int), .int (d : Int), .str wd], [V.str "change", .int (a : Int), .int (b : Int), .int (c : Int), .str wd]] from (laid_cons (fun H Q h => by walk_at "wn"; exact h) (by simp) (laid_cons (fun H Q h => by walk_at "wn"; exact h) (by simp) laid_nil))) _ _ fun H' vs sm pr => ⟨?_, fun l1 hl1 => ?_⟩))))
      · rw [pr.length, sizeLine_eq]
        simp
      · have d5 := d5.trans (Dr.same d5.2 sm)
        have e3 : Same H' (upd H' l1 (.lst vs)) := fun x o e => by rw [upd_ne (ne_of_none e hl1)]; exact e
        have d6 := d5.trans (Dr.same d5.2 e3)
        refine ⟨l0, l1, _, _, rfl, rfl, e3 _ _ (sm _ _ h0), upd_same, ?_, fun l hl => ?_⟩
        · rw [p0.length, pr.length, sizeLine_eq]
          simp
        · walk_at "wn"
          have e4 : Same (upd H' l1 (.lst vs)) (upd (upd H' l1 (.lst vs)) l (.lst (vs0 ++ vs))) := fun x o e => by rw [upd_ne (ne_of_none e hl)]; exact e
          exact ⟨l, _, rfl, Dr.free hb d6 hl, upd_same, Paired.app (Paired.mono' (fun _ _ z => AtTup.same (sm.trans (e3.trans e4)) z) p0) (Paired.mono' (fun _ _ z => AtTup.same (e3.trans e4) z) pr), d6.trans (Dr.same d6.2 e4)⟩
    rintro σ' H6 ⟨l0, vs0, rfl, n0, h0, p0, d6⟩
    have hopt : ArgV "optional" mb := by
      rcases hmb with rfl | rfl
      · exact .inr (.inl ⟨rfl, rfl⟩)
      · exact .inr (.inr ⟨by decide +kernel, _, rfl, hc⟩)
    walk_at "wn"
    refine ⟨p, 16, rfl, d6.2, by decide, by decide, fun i H7 i0 i1 e7 b7 => ?_⟩
    obtain ⟨j, rfl⟩ := Int.eq_ofNat_of_zero_le i0
    have hlen := p0.length
    simp only [List.length_append, List.length_cons, List.length_nil] at hlen
    have hj : j < vs0.length := by omega
    obtain ⟨xs, hxs, q, eq, hq⟩ := Paired.get? p0 (List.getElem?_eq_getElem hj)
    have n1 : ∀ {x : Addr} {o : HO}, H6 x = some o → (∀ y z, o ≠ .lst [.int y, .int z]) → x ≠ p := fun {x o} e n z => by
      obtain ⟨y, u, e2, _⟩ := d6.2
      rw [z, e2] at e
      exact n y u (Option.some.inj e).symm
    have hl0 : H7 l0 = some (.lst vs0) := (e7 l0 (n1 h0 fun y z e => by
      have e' := HO.lst.inj e
      rw [e'] at hlen
      simp at hlen)).trans h0
    refine ⟨l0, vs0, _, _, rfl, rfl, SqL.of hl0, atI_nat (List.getElem?_eq_getElem hj), ?_⟩
    rw [eq]
    refine k q xs H7 ?_ ((e7 q (n1 hq fun y z e => nomatch e)).trans hq) (d6.trans (Dr.draw e7 b7))
    have hm := List.mem_of_getElem? hxs
    simp only [List.cons_append, List.nil_append, List.mem_cons, List.not_mem_nil, or_false] at hm
    rcases hm with rfl | rfl | rfl | rfl | rfl | rfl | rfl | rfl | rfl | rfl | rfl | rfl | rfl | rfl | rfl | rfl
    · exact ⟨_, _, ["integer"], rfl, (by decide +kernel), (.cons (.inr (.inr ⟨by decide +kernel, _, rfl, ha⟩)) .nil)⟩
    · exact ⟨_, _, ["integer"], rfl, (by decide +kernel), (.cons (.inr (.inr ⟨by decide +kernel, _, rfl, ha⟩)) .nil)⟩
    · exact ⟨_, _, ["integer"], rfl, (by decide +kernel), (.cons (.inr (.inr ⟨by decide +kernel, _, rfl, ha⟩)) .nil)⟩
    · exact ⟨_, _, ["integer"], rfl, (by decide +kernel), (.cons (.inr (.inr ⟨by decide +kernel, _, rfl, ha⟩)) .nil)⟩
    · exact ⟨_, _, ["integer"], rfl, (by decide +kernel), (.cons (.inr (.inr ⟨by decide +kernel, _, rfl, ha⟩)) .nil)⟩
    · exact ⟨_, _, ["integer", "integer"], rfl, (by decide +kernel), (.cons (.inr (.inr ⟨by decide +kernel, _, rfl, ha⟩)) (.cons (.inr (.inr ⟨by decide +kernel, _, rfl, hbb⟩)) .nil))⟩
    · exact ⟨_, _, ["integer", "integer"], rfl, (by decide +kernel), (.cons (.inr (.inr ⟨by decide +kernel, _, rfl, ha⟩)) (.cons (.inr (.inr ⟨by decide +kernel, _, rfl, hbb⟩)) .nil))⟩
    · exact ⟨_, _, ["integer", "integer"], rfl, (by decide +kernel), (.cons (.inr (.inr ⟨by decide +kernel, _, rfl, ha⟩)) (.cons (.inr (.inr ⟨by decide +kernel, _, rfl, hbb⟩)) .nil))⟩
    · exact ⟨_, _, ["integer", "integer", "optional"], rfl, (by decide +kernel), (.cons (.inr (.inr ⟨by decide +kernel, _, rfl, ha⟩)) (.cons (.inr (.inr ⟨by decide +kernel, _, rfl, hbb⟩)) (.cons hopt .nil)))⟩
    · exact ⟨_, _, ["integer", "integer", "optional"], rfl, (by decide +kernel), (.cons (.inr (.inr ⟨by decide +kernel, _, rfl, ha⟩)) (.cons (.inr (.inr ⟨by decide +kernel, _, rfl, hbb⟩)) (.cons hopt .nil)))⟩
    · exact ⟨_, _, ["integer", "integer", "integer"], rfl, (by decide +kernel), (.cons (.inr (.inr ⟨by decide +kernel, _, rfl, ha⟩)) (.cons (.inr (.inr ⟨by decide +kernel, _, rfl, hbb⟩)) (.cons (.inr (.inr ⟨by decide +kernel, _, rfl, hc⟩)) .nil)))⟩
    · exact ⟨_, _, ["integer", "integer", "integer"], rfl, (by decide +kernel), (.cons (.inr (.inr ⟨by decide +kernel, _, rfl, ha⟩)) (.cons (.inr (.inr ⟨by decide +kernel, _, rfl, hbb⟩)) (.cons (.inr (.inr ⟨by decide +kernel, _, rfl, hc⟩)) .nil)))⟩
    · exact ⟨_, _, ["integer", "integer", "integer"], rfl, (by decide +kernel), (.cons (.inr (.inr ⟨by decide +kernel, _, rfl, ha⟩)) (.cons (.inr (.inr ⟨by decide +kernel, _, rfl, hbb⟩)) (.cons (.inr (.inr ⟨by decide +kernel, _, rfl, hc⟩)) .nil)))⟩
    · exact ⟨_, _, ["integer", "integer", "integer", "integer"], rfl, (by decide +kernel), (.cons (.inr (.inr ⟨by decide +kernel, _, rfl, ha⟩)) (.cons (.inr (.inr ⟨by decide +kernel, _, rfl, hbb⟩)) (.cons (.inr (.inr ⟨by decide +kernel, _, rfl, hc⟩)) (.cons (.inr (.inr ⟨by decide +kernel, _, rfl, hd⟩)) .nil))))⟩
    · exact ⟨_, _, ["integer", "integer", "integer", "integer", "word"], rfl, (by decide +kernel), (.cons (.inr (.inr ⟨by decide +kernel, _, rfl, ha⟩)) (.cons (.inr (.inr ⟨by decide +kernel, _, rfl, hbb⟩)) (.cons (.inr (.inr ⟨by decide +kernel, _, rfl, hc⟩)) (.cons (.inr (.inr ⟨by decide +kernel, _, rfl, hd⟩)) (.cons (.inl ⟨rfl, wd, hwd, rfl⟩) .nil)))))⟩
    · exact ⟨_, _, ["integer", "integer", "integer", "word"], rfl, (by decide +kernel), (.cons (.inr (.inr ⟨by decide +kernel, _, rfl, ha⟩)) (.cons (.inr (.inr ⟨by decide +kernel, _, rfl, hbb⟩)) (.cons (.inr (.inr ⟨by decide +kernel, _, rfl, hc⟩)) (.cons (.inl ⟨rfl, wd, hwd, rfl⟩) .nil))))⟩
end
end Wn

namespace Wn
open PySem PySem.Spec PyProof.Rows L2 Evl
local macro_rules | `(tactic| walk_at "wn1") => `(tactic| first | ((with_reducible show (if (!decide _) = true then _ else _)); refine' g_nes ?_) | ((with_reducible show (if (decide _) = true then _ else _)); refine' g_es ?_) | with_reducible first
  | (refine' g_var ?h ?q; (case h => with_unfolding_all rfl))
  | refine' g_c ?_ | refine' g_op ?_ | refine' g_rI0 ?_ | refine' g_asg ?_ | refine' g_name ?_ | refine' g_seq ?_ | refine' g_ret ?_ | refine' g_retN ?_ | refine' g_next ?_ | refine' g_drop ?_
  | refine' g_nil ?_ | refine' g_cons ?_ | refine' g_cb ?_ | refine' g_test ?_ | refine' g_bl ?_ | refine' g_if ?_ | refine' g_ifs ?_ | refine' g_not ?_ | refine' g_part ?_ | refine' g_pint ?_ | refine' g_nopart ?_ | refine' g_call ?_
  | (refine' g_mul ?h ?q; (case h => with_unfolding_all first | exact Or.inl ⟨by decide, by decide⟩ | exact Or.inr ⟨by decide, by decide⟩ | exact Or.inl ⟨by omega, by omega⟩ | exact Or.inr ⟨by omega, by omega⟩))
  | (refine' g_mod ?h ?q; (case h => with_unfolding_all first | decide | omega))
  | refine' g_rIsN ?_ | refine' g_rNotN ?_ | refine' g_max2 ?_ | refine' g_min2 ?_ | refine' g_and ?_ | refine' g_or ?_ | refine' g_orV ?_ | refine' g_andV ?_ | refine' g_notV ?_ | refine' g_m1 ?_ | refine' g_yes ?_ | refine' g_bm ?_ | refine' g_bm0 ?_
  | (refine' g_tyL ?h ?q; (case h => first | assumption | exact upd_same))
  | refine' g_m0 ?_ | refine' g_tB ?_ | refine' g_isS ?_ | refine' g_bT ?_ | refine' g_bF ?_ | refine' g_bNT ?_ | refine' g_callK ?_ | refine' g_bNF ?_
  | (refine' g_lenL ?h ?q; (case h => first | assumption | exact upd_same))
  | refine' g_un ?_ | refine' g_rint _ ?_ | refine' g_rabs ?_ | refine' g_sl ?_ 
  | (refine' g_ixL ?h ?a ?q; (case h => first | assumption | exact upd_same); (case a => with_unfolding_all rfl))
  | (refine' g_div ?h0 ?h1 ?q; (case h0 => with_unfolding_all first | decide | omega); (case h1 => with_unfolding_all first | decide | omega))
  | refine' g_sub ?_
  | (refine' g_setL ?h ?a ?q; (case h => first | assumption | exact upd_same); (case a => with_unfolding_all rfl))
  | refine' g_lst ?_ | refine' g_tup ?_
  | (refine' g_rEq ?h ?q; (case h => with_unfolding_all rfl)) | (refine' g_rNe ?h ?q; (case h => with_unfolding_all rfl)))
local macro_rules | `(tactic| walk_at "wn") => `(tactic| repeat walk_at "wn1")

theorem join_snoc (sep : Str) : ∀ (l : List Str) (y : Str), l ≠ [] → Str.join sep (l ++ [y]) = Str.join sep l ++ sep ++ y
  | [], _, h => absurd rfl h
  | [x], y, _ => rfl
  | x :: z :: r, y, _ => by
    have ih := join_snoc sep (z :: r) y (by simp)
    show x ++ sep ++ Str.join sep (z :: r ++ [y]) = (x ++ sep ++ Str.join sep (z :: r)) ++ sep ++ y
    rw [ih]
    simp only [Str.append_assoc]
theorem sIx_one {α : Type} {v : α} {xs : List α} : HT.sIx (v :: xs).length 0 (some 1) = 1 := by
  unfold HT.sIx
  simp
theorem cut_tail {v : V} {xs : List V} : cutV (v :: xs) (some 1) none = xs := by
  unfold cutV
  rw [sIx_one]
  unfold HT.sIx
  simp
section
variable {P : Program} {w : World} {K : PySem.W.Frag} {mg : Str → Option Value} {base : Heap}
def spText (K : PySem.W.Frag) : Sp := fun vs H Q _ => ∃ (a : Addr) (x : Str) (xs : List V), vs = [.ref a] ∧ SqT K H a (.str x :: xs) ∧ xs.length ≤ 5 ∧ 0 < xs.length ∧ x.length ≤ 20 ∧ (∀ y ∈ xs, Part y) ∧ ∀ H', Same H H' → Q (.str (ctext (.str x :: xs))) H'
theorem scText : FnScope ["_law_deed", "_law_shown", "_law_part"] ["_law_deed"] (defScope sText) := ⟨rfl, rfl, rfl, by decide +kernel, rfl, by decide +kernel, by decide +kernel⟩
theorem okText {f : Addr} {fd : FuncData} (F : Fun K "_law_text" "_law_text" sText f fd) (str : mg "str" = none) : FnOk P w K mg base CX0 1 f fd ["_law_deed"] (spText K) := by
  refine F.ok scText (fun vs H Q E h => ?_) (fun cdv A outer s H vs Q E hr h => ?_)
  · obtain ⟨x, _, _, rfl, _⟩ := h
    rfl
  · obtain ⟨a, x, xs, rfl, hx, hl, hl0, hn, hp', k⟩ := h
    refine ⟨_, pss_cons (ps_set (i := 1) scText.nd rfl (Or.inl rfl) (pe_ix ix_tup (pv 0) pe_int (fun _ _ => rfl)))
      (pss_cons (ps_for PassesOwn.never rfl (pi_tup (pe_slice sl_tup (pv 0) (po_some pe_int) po_none)) (pg_name (i := 2) scText.nd rfl (Or.inl rfl))
        (pss_one (ps_set (i := 1) scText.nd rfl (Or.inl rfl) (pe_op oAddS (pe_op oAddS (pv 1) pe_str) (pe_ifExp (pt_cmpR oIsN (pv 2) pe_non (nomark _)) pe_str (pe_callTy cStr1 (by rfl) str PyProof.Rows.boot_str (pa_cons (pv 2) pa_nil)))))))
      (pss_one (ps_ret (pv 1)))), ?_⟩
    walk_at "wn"
    refine ⟨a, _, 0, .str x, rfl, rfl, hx, atI_nat (j := 0) rfl, ?_⟩
    walk_at "wn"
    show tSl _ _ _ _ _ _ _
    walk_at "wn"
    refine ⟨a, _, rfl, hx, ?_, fun p hp => ?_⟩
    · rintro ⟨z, _⟩
      rw [sIx_one] at z
      exact absurd z (by decide)
    rw [cut_tail]
    refine ⟨p, rfl, ⟨xs, SqT.of upd_same⟩, for_tup (xs := xs) (fun i σ' H' => ∃ v : Option V, σ' = [some (.ref a), some (.str (ctext (.str x :: xs.take i))), v] ∧ Same H H' ∧ H' p = some (.tup xs)) ?_ ?_ ?_ ?_⟩
    · refine ⟨none, rfl, fun c o e => ?_, upd_same⟩
      rw [upd_ne (ne_of_none e hp)]
      exact e
    · rintro i σ' H' hi ⟨v, rfl, sm, h1⟩
      exact SqT.of h1
    · rintro i y σ' H' hi ⟨v, rfl, sm, h1⟩
      have hy := hp' y (List.mem_of_getElem? hi)
      have hlt : i < xs.length := (List.getElem?_eq_some_iff.mp hi).1
      have tk : xs.take (i + 1) = xs.take i ++ [y] := by rw [List.take_add_one, hi]; rfl
      have e1 : ctext (.str x :: xs.take (i + 1)) = ctext (.str x :: xs.take i) ++ " " ++ pt y := by
        unfold ctext
        rw [tk, List.map_cons, List.map_append, ← List.cons_append]
        exact join_snoc _ _ _ (by simp)
      have l1 : (ctext (.str x :: xs.take i)).length ≤ 126 := ctext_len (by simp; omega) fun z hz => by
        rcases List.mem_cons.mp hz with rfl | hz
        · exact .inr (.inr ⟨x, rfl, hn⟩)
        · exact hp' z (List.mem_of_mem_take hz)
      have l2 := pt_len hy
      have l3 : (((" " : String) : Str)).length = 1 := rfl
      walk_at "wn"
      refine ⟨_, _, rfl, rfl, by rw [sizeLine_eq, l3]; omega, ?_⟩
      walk_at "wn"
      have fin : ∀ t : Str, t = pt y → rAddS (V.str (ctext (V.str x :: xs.take i) ++ " ")) (V.str t) H' fun x1 H1 => gName 1 x1 [some (V.ref a), some (V.str (ctext (V.str x :: xs.take i))), some y] H1 fun σ' H' => ∃ v, σ' = [some (V.ref a), some (V.str (ctext (V.str x :: xs.take (i + 1)))), v] ∧ Same H H' ∧ H' p = some (HO.tup xs) := by
        rintro t rfl
        refine ⟨_, _, rfl, rfl, by rw [strLen_append, sizeLine_eq, l3]; omega, ?_⟩
        walk_at "wn"
        exact ⟨_, by rw [e1]; rfl, sm, h1⟩
      refine ite2 (fun hc => ?_) (fun hc => ?_)
      · obtain rfl : y = .non := of_decide_eq_true hc
        walk_at "wn"
        exact fin _ rfl
      · walk_at "wn"
        rcases hy with rfl | ⟨n, rfl, hn⟩ | ⟨z, rfl, hz⟩
        · exact absurd (decide_eq_true rfl) hc
        · exact .inl ⟨_, rfl, log_small hn, fin _ rfl⟩
        · exact .inr ⟨z, rfl, fin _ rfl⟩
    · rintro σ' H' ⟨v, rfl, sm, h1⟩
      walk_at "wn"
      rw [List.take_length]
      exact k H' sm
end
end Wn

namespace Wn
open PySem PySem.Spec PyProof.Rows L2 Evl
theorem num_digits : ∀ n : Nat, ∀ c ∈ TL.numL n, 48 ≤ c ∧ c ≤ 57 := by
  intro n
  induction n using Nat.strongRecOn with
  | ind n ih =>
    intro c hc
    by_cases h : n < 10
    · rw [TL.numL_lt h, List.mem_singleton] at hc
      omega
    · rw [TL.numL_step (by omega)] at hc
      rcases List.mem_append.mp hc with hc | hc
      · exact ih (n / 10) (by omega) c hc
      · rw [List.mem_singleton] at hc
        omega
theorem num_head : ∀ n : Nat, 0 < n → ∃ c r, TL.numL n = c :: r ∧ c ≠ 48 := by
  intro n
  induction n using Nat.strongRecOn with
  | ind n ih =>
    intro hn
    by_cases h : n < 10
    · exact ⟨48 + n, [], TL.numL_lt h, by omega⟩
    · obtain ⟨c, r, e, hc⟩ := ih (n / 10) (by omega) (by omega)
      exact ⟨c, r ++ [48 + n % 10], by rw [TL.numL_step (by omega), e]; rfl, hc⟩
theorem tl_int (n : Nat) : TL.tl (Str.ofString (toString (n : Int))) = TL.numL n := TL.tl_num n
example (x : Str) : TL.tl x = x.cps.toList := rfl
theorem digit_all : ∀ c, c < 58 → 48 ≤ c → Unicode.isDigit c = true := by decide +kernel
theorem cps_int (n : Nat) : (Str.ofString (toString (n : Int))).cps.toList = TL.numL n := tl_int n
theorem len_int {n : Nat} (h : n ≤ 999999999) : (Str.ofString (toString (n : Int))).length ≤ 9 := toString_length_le (by omega) (by decide) (by show (n : Int) < 10 ^ 9; omega)
theorem num_isInt {n : Nat} (h : n ≤ 999999999) : isIntT (Str.ofString (toString (n : Int))) = true := by
  have e := cps_int n
  have hl := len_int h
  have hne : TL.numL n ≠ [] := by
    by_cases z : n < 10
    · rw [TL.numL_lt z]
      simp
    · rw [TL.numL_step (by omega)]
      simp
  have hpos : 0 < (Str.ofString (toString (n : Int))).length := by
    show 0 < (Str.ofString (toString (n : Int))).cps.size
    rw [← Array.length_toList, e]
    exact List.length_pos_iff.mpr hne
  have a1 : Txt.isascii (Str.ofString (toString (n : Int))) = true := by
    unfold Txt.isascii
    rw [← Array.all_toList, e, List.all_eq_true]
    intro c hc
    have := num_digits n c hc
    exact decide_eq_true (by omega)
  have a2 : Txt.isdigit (Str.ofString (toString (n : Int))) = true := by
    unfold Txt.isdigit
    rw [← Array.all_toList, e, Bool.and_eq_true]
    refine ⟨decide_eq_true hpos, List.all_eq_true.mpr fun c hc => ?_⟩
    have := num_digits n c hc
    exact digit_all c (by omega) (by omega)
  have a3 : decide ((9 : Int) < ((Str.ofString (toString (n : Int))).length : Int)) = false := decide_eq_false (by omega)
  unfold isIntT
  rw [a1, a2, a3]
  by_cases z : n = 0
  · subst z
    decide +kernel
  · obtain ⟨c, r, e2, hc⟩ := num_head n (by omega)
    have f0 : first0 (Str.ofString (toString (n : Int))) = c := by
      unfold first0
      rw [e, e2]
      rfl
    have ne : decide (V.str ⟨#[c]⟩ = V.str "0") = false := decide_eq_false fun q => by
      have q' := congrArg (fun x : Str => x.cps.toList) (str_inj.mp q)
      have q2 : [c] = [48] := q'
      exact hc (List.cons.inj q2).1
    rw [f0, ne]
    simp
theorem num_dash (n : Nat) : Str.ofString (toString (n : Int)) ≠ "-" := fun h => by
  have e := cps_int n
  rw [h] at e
  have e2 : [45] = TL.numL n := e
  have := num_digits n 45 (by rw [← e2]; exact List.mem_singleton.mpr rfl)
  omega
/-! a valid call's text -/
theorem arg_part {k : Str} {v : V} (h : ArgV k v) : Part v := by
  rcases h with ⟨_, x, hx, rfl⟩ | ⟨_, rfl⟩ | ⟨_, n, rfl, hn⟩
  · exact .inr (.inr ⟨x, rfl, by
      have : ∀ y ∈ wordsL, y.length ≤ 20 := by decide +kernel
      exact this x hx⟩)
  · exact .inl rfl
  · exact .inr (.inl ⟨n, rfl, hn⟩)
theorem arg_free {k : Str} {v : V} (h : ArgV k v) {c : Nat} (hc : c = 32 ∨ c = 10) : c ∉ TL.tl (pt v) := by
  rcases h with ⟨_, x, hx, rfl⟩ | ⟨_, rfl⟩ | ⟨_, n, rfl, hn⟩
  · have : ∀ y ∈ wordsL, ∀ c ∈ [32, 10], c ∉ TL.tl y := by decide +kernel
    exact this x hx c (by rcases hc with rfl | rfl <;> simp)
  · have : ∀ c ∈ [32, 10], c ∉ TL.tl (pt .non) := by decide +kernel
    exact this c (by rcases hc with rfl | rfl <;> simp)
  · intro hm
    have hm' : c ∈ TL.numL n := by rw [← tl_int]; exact hm
    have := num_digits n c hm'
    omega
theorem arg_is {k : Str} {v : V} (h : ArgV k v) : isArgT k (pt v) = true := by
  unfold isArgT
  rcases h with ⟨rfl, x, hx, rfl⟩ | ⟨rfl, rfl⟩ | ⟨hk, n, rfl, hn⟩
  · rw [if_pos rfl]
    have : ∀ y ∈ wordsL, inV (.str y) (wordsL.map V.str) = true := by decide +kernel
    exact this x hx
  · rw [if_neg (by decide +kernel), if_pos ⟨rfl, rfl⟩]
  · rw [if_neg hk]
    split
    · rfl
    · exact num_isInt hn
theorem arg_reads {k : Str} {v : V} (h : ArgV k v) : ReadsTo k (pt v) v := by
  rcases h with ⟨rfl, x, hx, rfl⟩ | ⟨rfl, rfl⟩ | ⟨hk, n, rfl, hn⟩
  · exact .inl ⟨rfl, rfl⟩
  · exact .inr (.inl ⟨by decide +kernel, rfl, rfl⟩)
  · exact .inr (.inr ⟨hk, num_dash n, n, PySem.W.KIN.num_reads (by omega) (by omega), Nat.le_trans (len_int hn) (by decide), rfl⟩)
theorem names_free : ∀ p ∈ kindsL, p.1.length ≤ 20 ∧ 32 ∉ TL.tl p.1 ∧ 10 ∉ TL.tl p.1 ∧ p.2.length ≤ 5 ∧ 0 < p.2.length := by decide +kernel
theorem valid_parts {xs : List V} (h : ValidCall xs) : ∀ y ∈ xs, Part y := by
  obtain ⟨name, args, ks, rfl, hm, ha⟩ := h
  intro y hy
  rcases List.mem_cons.mp hy with rfl | hy
  · exact .inr (.inr ⟨name, rfl, (names_free _ hm).1⟩)
  · clear hm
    induction ha with
    | nil => cases hy
    | cons r _ ih =>
      rcases List.mem_cons.mp hy with rfl | hy
      · exact arg_part r
      · exact ih (List.mem_cons_of_mem _ hy) hy
theorem valid_len {xs : List V} (h : ValidCall xs) : xs.length ≤ 6 := by
  obtain ⟨name, args, ks, rfl, hm, ha⟩ := h
  have h1 : ks.length ≤ 5 := (names_free _ hm).2.2.2.1
  have h2 := ha.length
  rw [List.length_cons]
  omega
theorem args_free {ks : List Str} {args : List V} (ha : Paired ArgV ks args) {c : Nat} (hc : c = 32 ∨ c = 10) : ∀ p ∈ args.map pt, c ∉ TL.tl p := by
  induction ha with
  | nil => intro p hp; cases hp
  | cons r _ ih =>
    intro p hp
    rcases List.mem_cons.mp hp with rfl | hp
    · exact arg_free r hc
    · exact ih p hp
theorem args_is {ks : List Str} {args : List V} (ha : Paired ArgV ks args) : (List.zipWith isArgT ks (args.map pt)).all id = true := by
  induction ha with
  | nil => rfl
  | cons r _ ih =>
    rw [List.map_cons, List.zipWith_cons_cons, List.all_cons, ih, arg_is r]
    rfl
theorem args_reads {ks : List Str} {args : List V} (ha : Paired ArgV ks args) : ∀ (i : Nat) (k p : Str) (v : V), ks[i]? = some k → (args.map pt)[i]? = some p → args[i]? = some v → ReadsTo k p v := by
  intro i k p v h1 h2 h3
  obtain ⟨y, e, r⟩ := Paired.get? ha h1
  rw [h3] at e
  cases e
  rw [List.getElem?_map, h3] at h2
  cases h2
  exact arg_reads r
theorem line_of {K : PySem.W.Frag} {mg : Str → Option Value} {xs : List V} (h : ValidCall xs) : Line K mg (ctext xs) (some xs) := by
  obtain ⟨name, args, ks, rfl, hm, ha⟩ := h
  have nf := names_free _ hm
  have sp : Txt.split (ctext (.str name :: args)) " " = name :: args.map pt := by
    unfold ctext
    rw [← TL.join_eq]
    refine TL.split_join (s := 32) (S := []) rfl (by decide +kernel) (by simp) fun p hp => ?_
    rcases List.mem_cons.mp hp with rfl | hp
    · exact nf.2.1
    · exact args_free ha (.inl rfl) p hp
  exact .call sp hm (by rw [List.length_map, ha.length]) (args_is ha) ha.length.symm (args_reads ha)
theorem tl_ctext {xs : List V} (h : ValidCall xs) : 10 ∉ TL.tl (ctext xs) ∧ ctext xs ≠ "" := by
  obtain ⟨name, args, ks, rfl, hm, ha⟩ := h
  have nf := names_free _ hm
  have e : TL.tl (ctext (.str name :: args)) = TL.joinL (TL.tl " ") ((name :: args.map pt).map TL.tl) := TL.tl_join _ _
  have free : ∀ (l : List (List Nat)), (∀ p ∈ l, 10 ∉ p) → 10 ∉ TL.joinL (TL.tl " ") l := by
    intro l
    induction l with
    | nil => intro _ z; cases z
    | cons p l ih =>
      intro hp
      cases l with
      | nil => exact hp p List.mem_cons_self
      | cons q r =>
        have h1 := hp p List.mem_cons_self
        have h2 := ih fun z hz => hp z (List.mem_cons_of_mem _ hz)
        intro z
        rcases List.mem_append.mp (show 10 ∈ p ++ (TL.tl " " ++ TL.joinL (TL.tl " ") (q :: r)) from z) with z | z
        · exact h1 z
        · rcases List.mem_append.mp z with z | z
          · exact absurd z (by decide +kernel)
          · exact h2 z
  refine ⟨?_, fun z => ?_⟩
  · rw [e]
    refine free _ fun p hp => ?_
    obtain ⟨q, hq, rfl⟩ := List.mem_map.mp hp
    rcases List.mem_cons.mp hq with rfl | hq
    · exact nf.2.2.1
    · exact args_free ha (.inr rfl) q hq
  · have hl := join_len_eq " " (name :: args.map pt) (by simp)
    have z' : Str.join " " (name :: args.map pt) = "" := z
    rw [z'] at hl
    have e1 : (((" " : String) : Str)).length = 1 := rfl
    have e2 : ((("" : String) : Str)).length = 0 := rfl
    rw [e1, e2] at hl
    have la : args.length = ks.length := ha.length.symm
    have := nf.2.2.2.2
    simp only [List.map_cons, List.sum_cons] at hl
    have : 0 < name.length := by
      have : ∀ p ∈ kindsL, 0 < p.1.length := by decide +kernel
      exact this _ hm
    omega
end Wn

namespace Wn
open PySem PySem.Spec PyProof.Rows L2 Evl
def dat : V → PyData
  | .int i => .int i
  | .str x => .str x
  | _ => .none
theorem Same.dr {p : Addr} {H H1 H2 : Hp} (n : H p = none) (s : Same H H1) (d : Dr p H1 H2) : Same H H2 := fun a o e => d.1 a o (fun z => by rw [z, n] at e; cases e) (s a o e)
theorem dat_dp {K : PySem.W.Frag} {H : Hp} {v : V} (h : Part v) : Dp K H v (dat v) := by
  rcases h with rfl | ⟨n, rfl, _⟩ | ⟨x, rfl, _⟩
  · exact .non
  · exact .int _
  · exact .str _
theorem dats_dp {K : PySem.W.Frag} {H : Hp} : ∀ {xs : List V}, (∀ y ∈ xs, Part y) → DpAll K H xs (xs.map dat)
  | [], _ => .nil
  | x :: xs, h => .cons (dat_dp (h x List.mem_cons_self)) (dats_dp fun y hy => h y (List.mem_cons_of_mem _ hy))
theorem part_ok {k : Str} {v : V} (h : ArgV k v) : okR (dat v) = true ∧ wt (dat v) ≤ 2000 ∧ (dat v).canLay0 = true ∧ (dat v).depth = 0 := by
  rcases h with ⟨_, x, hx, rfl⟩ | ⟨_, rfl⟩ | ⟨_, n, rfl, hn⟩
  · have : ∀ y ∈ wordsL, okR (.str y) = true ∧ wt (.str y) ≤ 2000 ∧ (PyData.str y).canLay0 = true := by decide +kernel
    exact ⟨(this x hx).1, (this x hx).2.1, (this x hx).2.2, by simp [dat, PyData.depth]⟩
  · exact ⟨rfl, by decide +kernel, by simp [dat, PyData.canLay0], by simp [dat, PyData.depth]⟩
  · refine ⟨?_, ?_, by simp [dat, PyData.canLay0], by simp [dat, PyData.depth]⟩
    · show decide _ = true
      exact decide_eq_true (log_small hn)
    · show wt (.int (n : Int)) ≤ 2000
      simp only [wt]
      omega
theorem valid_ok {xs : List V} (h : ValidCall xs) : okR (.tuple (xs.map dat)) = true ∧ wt (.tuple (xs.map dat)) ≤ 14000 ∧ (PyData.tuple (xs.map dat)).canLay0 = true ∧ (PyData.tuple (xs.map dat)).depth = 1 := by
  obtain ⟨name, args, ks, rfl, hm, ha⟩ := h
  have n1 : ∀ p ∈ kindsL, okR (.str p.1) = true ∧ wt (.str p.1) ≤ 2000 ∧ (PyData.str p.1).canLay0 = true := by decide +kernel
  have h5 : ks.length ≤ 5 := (names_free _ hm).2.2.2.1
  have hl : args.length ≤ 5 := by have := ha.length; omega
  have all : okRA (args.map dat) = true ∧ wtA (args.map dat) ≤ 2002 * args.length ∧ PyData.depthAll (args.map dat) = 0 ∧ PyData.canLayAll0 (args.map dat) = true := by
    clear hm h5 hl
    induction ha with
    | nil => exact ⟨rfl, Nat.le_refl _, by simp [PyData.depthAll], by simp [PyData.canLayAll0]⟩
    | cons r _ ih =>
      have q := part_ok r
      refine ⟨?_, ?_, ?_, ?_⟩
      · simp only [List.map_cons, okRA, q.1, ih.1, Bool.and_self]
      · simp only [List.map_cons, wtA, List.length_cons]
        have := ih.2.1
        have := q.2.1
        omega
      · simp only [List.map_cons, PyData.depthAll, q.2.2.2, ih.2.2.1, Nat.max_self]
      · simp only [List.map_cons, PyData.canLayAll0, q.2.2.1, ih.2.2.2, Bool.and_self]
  have q := n1 _ hm
  have e : dat (.str name) = .str name := rfl
  refine ⟨?_, ?_, ?_, ?_⟩
  · simp only [okR, List.map_cons, okRA, e]
    have := q.1
    simp only [okR] at this
    rw [this, all.1]
    rfl
  · simp only [wt, List.map_cons, wtA, e]
    have h1 := q.2.1
    have h2 := all.2.1
    simp only [wt] at h1
    omega
  · have h3 := q.2.2
    simp only [PyData.canLay0] at h3
    simp only [PyData.canLay0, List.map_cons, PyData.canLayAll0, e, all.2.2.2, h3, Bool.and_self]
  · simp only [PyData.depth, List.map_cons, PyData.depthAll, e, all.2.2.1, Nat.max_self]
/-- the calls as data -/
def datC (xss : List (List V)) : PyData := .list (xss.map fun xs => .tuple (xs.map dat))
theorem calls_dp {K : PySem.W.Frag} {H : Hp} {l : Addr} {cs : List V} {xss : List (List V)} (h : H l = some (.lst cs)) (p : Paired (AtTup H) cs xss) (v : ∀ xs ∈ xss, ValidCall xs) : Dp K H (.ref l) (datC xss) := by
  refine .lst (SqL.of h) ?_
  clear h
  induction p with
  | nil => exact .nil
  | @cons c xs cs xss r _ ih =>
    obtain ⟨q, rfl, hq⟩ := r
    exact .cons (.tup (SqT.of hq) (dats_dp (valid_parts (v xs List.mem_cons_self)))) (ih fun y hy => v y (List.mem_cons_of_mem _ hy))
theorem calls_ok : ∀ {xss : List (List V)}, (∀ xs ∈ xss, ValidCall xs) → okRA (xss.map fun xs => PyData.tuple (xs.map dat)) = true ∧ wtA (xss.map fun xs => PyData.tuple (xs.map dat)) ≤ 14002 * xss.length ∧ PyData.depthAll (xss.map fun xs => PyData.tuple (xs.map dat)) ≤ 1 ∧ PyData.canLayAll0 (xss.map fun xs => PyData.tuple (xs.map dat)) = true
  | [], _ => ⟨rfl, Nat.le_refl _, by simp [PyData.depthAll], by simp [PyData.canLayAll0]⟩
  | xs :: xss, h => by
    have q := valid_ok (h xs List.mem_cons_self)
    have ih := calls_ok fun y hy => h y (List.mem_cons_of_mem _ hy)
    refine ⟨?_, ?_, ?_, ?_⟩
    · simp only [List.map_cons, okRA, q.1, ih.1, Bool.and_self]
    · simp only [List.map_cons, wtA, List.length_cons]
      have := ih.2.1
      have := q.2.1
      omega
    · simp only [List.map_cons, PyData.depthAll, q.2.2.2]
      have := ih.2.2.1
      omega
    · simp only [List.map_cons, PyData.canLayAll0, q.2.2.1, ih.2.2.2, Bool.and_self]
theorem datC_ok {xss : List (List V)} (h : ∀ xs ∈ xss, ValidCall xs) (hl : xss.length ≤ 30) : okR (datC xss) = true ∧ (datC xss).depth ≤ 40 ∧ wt (datC xss) ≤ 16777216 ∧ SeqAt.shaped (datC xss) = true := by
  have q := calls_ok h
  refine ⟨?_, ?_, ?_, ?_⟩
  · simp only [datC, okR, q.1]
  · simp only [datC, PyData.depth]
    have := q.2.2.1
    omega
  · simp only [datC, wt]
    have := q.2.1
    omega
  · unfold SeqAt.shaped
    rw [Bool.and_eq_true]
    refine ⟨?_, decide_eq_true ?_⟩
    · simp only [datC, PyData.canLay0, q.2.2.2]
    · simp only [datC, PyData.depth]
      have := q.2.2.1
      omega
end Wn

namespace Wn
open PySem PySem.Spec PyProof.Rows L2 Evl
/-! the signs of a repr stay within the code space -/
def LOk (x : Str) : Prop := ∀ c ∈ x.cps.toList, c < 1114112
theorem lok_app {x y : Str} (h1 : LOk x) (h2 : LOk y) : LOk (x ++ y) := by
  intro c hc
  have e : (x ++ y).cps.toList = x.cps.toList ++ y.cps.toList := TL.tl_append x y
  rw [e] at hc
  rcases List.mem_append.mp hc with h | h
  · exact h1 c h
  · exact h2 c h
theorem lok_of (s : String) : LOk (Str.ofString s) := by
  intro c hc
  rw [Str.ofString_eq_toList] at hc
  obtain ⟨k, _, rfl⟩ := List.mem_map.mp (by simpa using hc)
  have hv : k.toNat < 0xd800 ∨ (0xdfff < k.toNat ∧ k.toNat < 0x110000) := k.valid
  omega
theorem lok_join {sep : Str} (hs : LOk sep) : ∀ {l : List Str}, (∀ x ∈ l, LOk x) → LOk (Str.join sep l)
  | [], _ => lok_of ""
  | [x], h => h x List.mem_cons_self
  | x :: y :: r, h => lok_app (lok_app (h x List.mem_cons_self) hs) (lok_join hs fun z hz => h z (List.mem_cons_of_mem _ hz))
theorem repr_quote (x : Str) : reprQuote x < 1114112 := by
  unfold reprQuote
  split <;> decide
theorem repr_char {q c : Nat} (hq : q < 1114112) (hc : c < 1114112) : ∀ d ∈ Builtin.Str.reprChar q c, d < 1114112 := by
  have dig : ∀ (w : Nat), ∀ d ∈ List.replicate (w - ((Nat.toDigits 16 c).map Char.toNat).length) 48 ++ (Nat.toDigits 16 c).map Char.toNat, d < 1114112 := by
    intro w d hd
    rcases List.mem_append.mp hd with h | h
    · rw [List.eq_of_mem_replicate h]
      decide
    · obtain ⟨k, _, rfl⟩ := List.mem_map.mp h
      have hv : k.toNat < 0xd800 ∨ (0xdfff < k.toNat ∧ k.toNat < 0x110000) := k.valid
      omega
  unfold Builtin.Str.reprChar
  intro d hd
  dsimp only at hd
  repeat' split at hd
  all_goals first
    | (simp only [List.mem_cons, List.not_mem_nil, or_false] at hd; omega)
    | (rcases List.mem_append.mp hd with h | h
       · simp only [List.mem_cons, List.not_mem_nil, or_false] at h; omega
       · exact dig _ d h)
theorem lt_of_eq' {a b c : Nat} (e : a = b) (h : b < c) : a < c := e ▸ h
theorem lok_repr {x : Str} (h : LOk x) : LOk (reprText x) := by
  have hq := repr_quote x
  have fold : ∀ (l : List Nat) (acc : Array Nat), (∀ c ∈ l, c < 1114112) → (∀ c ∈ acc.toList, c < 1114112) → ∀ c ∈ (l.foldl (fun out c => out ++ (Builtin.Str.reprChar (reprQuote x) c).toArray) acc).toList, c < 1114112 := by
    intro l
    induction l with
    | nil => intro acc _ h2; exact h2
    | cons a l ih =>
      intro acc h1 h2
      refine ih _ (fun c hc => h1 c (List.mem_cons_of_mem _ hc)) fun c hc => ?_
      rw [Array.toList_append] at hc
      rcases List.mem_append.mp hc with h | h
      · exact h2 c h
      · exact repr_char hq (h1 a List.mem_cons_self) c (by simpa using h)
  intro c hc
  unfold reprText at hc
  rw [Array.toList_push] at hc
  rcases List.mem_append.mp hc with hc | hc
  · rw [← Array.foldl_toList] at hc
    exact fold x.cps.toList #[reprQuote x] h (fun d hd => lt_of_eq' (show d = reprQuote x by simpa using hd) hq) c hc
  · rw [List.mem_singleton.mp hc]
    exact hq
mutual
theorem lok_shown : ∀ d : PyData, d.canLay0 = true → LOk d.shown
  | .none, _ => by simp only [PyData.shown]; exact lok_of _
  | .bool b, _ => by simp only [PyData.shown]; split <;> exact lok_of _
  | .int i, _ => by simp only [PyData.shown]; exact lok_of _
  | .str x, h => by
    simp only [PyData.canLay0, PyData.strOk] at h
    simp only [PyData.shown]
    refine lok_repr fun c hc => ?_
    rw [← Array.all_toList, List.all_eq_true] at h
    exact of_decide_eq_true (h c hc)
  | .list xs, h => by
    simp only [PyData.canLay0] at h
    simp only [PyData.shown]
    rw [listText_eq_join]
    exact lok_app (lok_app (lok_of _) (lok_join (lok_of _) (lok_shownAll xs h))) (lok_of _)
  | .tuple xs, h => by
    simp only [PyData.canLay0] at h
    simp only [PyData.shown]
    unfold tupleText
    refine lok_app (lok_app (lok_of _) (lok_join (lok_of _) (lok_shownAll xs h))) ?_
    split <;> exact lok_of _
  | .dict _, h => by simp only [PyData.canLay0] at h; cases h
theorem lok_shownAll : ∀ ds : List PyData, PyData.canLayAll0 ds = true → ∀ t ∈ PyData.shownAll ds, LOk t
  | [], _, t, ht => by simp only [PyData.shownAll] at ht; cases ht
  | d :: ds, h, t, ht => by
    simp only [PyData.canLayAll0, Bool.and_eq_true] at h
    simp only [PyData.shownAll] at ht
    rcases List.mem_cons.mp ht with rfl | ht
    · exact lok_shown d h.1
    · exact lok_shownAll ds h.2 t ht
end
theorem shown_strOk {d : PyData} (h : d.canLay0 = true) : (PyData.str d.shown).canLay0 = true := by
  simp only [PyData.canLay0, PyData.strOk]
  rw [← Array.all_toList, List.all_eq_true]
  exact fun c hc => decide_eq_true (lok_shown d h c hc)
theorem two_shaped {d e : PyData} (h : d.canLay0 = true) (h' : e.canLay0 = true) : SeqAt.shaped (.list [.str d.shown, .str e.shown]) = true := by
  have h1 := shown_strOk h
  have h2 := shown_strOk h'
  unfold SeqAt.shaped
  rw [Bool.and_eq_true]
  refine ⟨by simp only [PyData.canLay0] at h1 h2; simp only [PyData.canLay0, PyData.canLayAll0, h1, h2, Bool.and_self], decide_eq_true ?_⟩
  simp only [PyData.depth, PyData.depthAll]
  decide
end Wn

namespace Wn
open PySem PySem.Spec PyProof.Rows L2 Evl
local macro_rules | `(tactic| walk_at "wn1") => `(tactic| first | ((with_reducible show (if (!decide _) = true then _ else _)); refine' g_nes ?_) | ((with_reducible show (if (decide _) = true then _ else _)); refine' g_es ?_) | with_reducible first
  | (refine' g_var ?h ?q; (case h => with_unfolding_all rfl))
  | refine' g_c ?_ | refine' g_op ?_ | refine' g_rI0 ?_ | refine' g_asg ?_ | refine' g_name ?_ | refine' g_seq ?_ | refine' g_ret ?_ | refine' g_retN ?_ | refine' g_next ?_ | refine' g_drop ?_
  | refine' g_nil ?_ | refine' g_cons ?_ | refine' g_cb ?_ | refine' g_test ?_ | refine' g_bl ?_ | refine' g_if ?_ | refine' g_ifs ?_ | refine' g_not ?_ | refine' g_part ?_ | refine' g_pint ?_ | refine' g_nopart ?_ | refine' g_call ?_
  | (refine' g_mul ?h ?q; (case h => with_unfolding_all first | exact Or.inl ⟨by decide, by decide⟩ | exact Or.inr ⟨by decide, by decide⟩ | exact Or.inl ⟨by omega, by omega⟩ | exact Or.inr ⟨by omega, by omega⟩))
  | (refine' g_mod ?h ?q; (case h => with_unfolding_all first | decide | omega))
  | refine' g_rIsN ?_ | refine' g_rNotN ?_ | refine' g_max2 ?_ | refine' g_min2 ?_ | refine' g_and ?_ | refine' g_or ?_ | refine' g_orV ?_ | refine' g_andV ?_ | refine' g_notV ?_ | refine' g_m1 ?_ | refine' g_yes ?_ | refine' g_bm ?_ | refine' g_bm0 ?_
  | (refine' g_tyL ?h ?q; (case h => first | assumption | exact upd_same))
  | refine' g_m0 ?_ | refine' g_tB ?_ | refine' g_isS ?_ | refine' g_bT ?_ | refine' g_bF ?_ | refine' g_bNT ?_ | refine' g_callK ?_ | refine' g_bNF ?_
  | (refine' g_lenL ?h ?q; (case h => first | assumption | exact upd_same))
  | refine' g_un ?_ | refine' g_rint _ ?_ | refine' g_rabs ?_ | refine' g_sl ?_ 
  | (refine' g_ixL ?h ?a ?q; (case h => first | assumption | exact upd_same); (case a => with_unfolding_all rfl))
  | (refine' g_div ?h0 ?h1 ?q; (case h0 => with_unfolding_all first | decide | omega); (case h1 => with_unfolding_all first | decide | omega))
  | refine' g_sub ?_
  | (refine' g_setL ?h ?a ?q; (case h => first | assumption | exact upd_same); (case a => with_unfolding_all rfl))
  | refine' g_lst ?_ | refine' g_tup ?_
  | (refine' g_rEq ?h ?q; (case h => with_unfolding_all rfl)) | (refine' g_rNe ?h ?q; (case h => with_unfolding_all rfl)))
local macro_rules | `(tactic| walk_at "wn") => `(tactic| repeat walk_at "wn1")

section
variable {X : Cx} {CX : CXT} {k : Nat} {f : Addr} {fd : FuncData} {ps ks : List Str} {sp : Sp} {E : XK} {x : Str} {p pos : Pos} {kws : List Keyword} {tk : TA} {g : List Value → List Value → List Value} {gV : List V → List V → List V}
/-- f(k = v, ..) -/
theorem pe_callK0 (F : FnOk X.prog X.w X.K X.mg X.base CX k f fd ps sp) (hr : Room k X.A) (hg : Gl X x) (hm : X.mg x = some (.ref f)) (hk : PySem.W.keepIn X.K (.ref f) = true) (hb : KBinds X.K fd ps ks g gV) (hx : Passes CX X E)
    (hkw : PK X kws tk) (hall : (backToKw pos (keywordEach kws X.env)).all (·.1.isSome) = true := by rfl) (hks : (backToKw pos (keywordEach kws X.env)).filterMap (·.1) = ks := by rfl) (hdb : (x == ("__debug__" : Str)) = false := by decide)
    (hpl : ((backTo pos (starEach [] X.env)).any (·.1) || (backToKw pos (keywordEach kws X.env)).any (·.1.isNone)) = false := by rfl) :
    PE X (.Call (.Name x p) [] kws pos) (tCallK sp gV E tNil tk) := by
  constructor
  intro pins s σ H Q I h
  refine wpAny_Call_Name_kw (ld_glob I hg hm (PySem.W.callWith_KW0 (h₀ := X.base) I.ok.mod.kin hk hall (thn (hkw.run pos pins s σ H _ I h) ?_) hpl) hdb)
  rintro ws s2 ⟨zs, H2, I2, rz, q⟩
  refine ⟨I2.kIn, ?_⟩
  rw [hks]
  exact run_fnk F hr hb hx I2 .nil rz q
end
abbrev nLaw : List Str := ["_law_script", "_law_at", "_law_bag_here", "_law_calls", "_law_deed", "_law_texts", "_law_shown", "_law_whole", "_law_found", "_law_turn"]
section
variable {P : Program} {w : World} {K : PySem.W.Frag} {mg : Str → Option Value} {base : Heap}
/-- the defs that the law calls -/
structure Defs (P : Program) (w : World) (K : PySem.W.Frag) (mg : Str → Option Value) (base : Heap) (x : Str) (k : Nat) (ps : List Str) (sp : Sp) : Prop where
  ex : ∃ f fd, FnOk P w K mg base CX0 k f fd ps sp ∧ mg x = some (.ref f) ∧ PySem.W.keepIn K (.ref f) = true ∧ Binds K fd ps [] ∧ (∀ y, ps = [y] → KBinds K fd ps [y] (fun us ws => us ++ ws) fun vs zs => vs ++ zs)
structure Frees (mg : Str → Option Value) : Prop where
  range : mg "range" = none
  max : mg "max" = none
  min : mg "min" = none
  len : mg "len" = none
  zip : mg "zip" = none
  repr : mg "repr" = none
  tuple : mg "tuple" = none
def spLaw (K : PySem.W.Frag) : Sp := fun vs H Q _ => ∃ (a : Addr) (ns : List Int), vs = [.ref a] ∧ SqL K H a (ns.map V.int) ∧ ns.length ≤ 63 ∧ ∀ H', Q (.bl true) H'
theorem callat_of {H : Hp} {cs : List V} {xss : List (List V)} (q : Paired (AtTup H) cs xss) (vc : ∀ xs ∈ xss, ValidCall xs) : Paired (CallAt K H) cs xss := by
  induction q with
  | nil => exact .nil
  | @cons c xs cs xss r _ ih =>
    obtain ⟨q, rfl, hq⟩ := r
    have v := vc xs List.mem_cons_self
    exact .cons ⟨q, rfl, SqT.of hq, valid_len v, valid_parts v⟩ (ih fun y hy => vc y (List.mem_cons_of_mem _ hy))
theorem scLaw : FnScope nLaw ["_law_script"] (defScope sLaw) := ⟨rfl, rfl, rfl, by decide +kernel, rfl, by decide +kernel, by decide +kernel⟩
theorem okLaw {f : Addr} {fd : FuncData} (F : Fun K "law" "law" sLaw f fd) (T : Frees mg) (bag : Defs P w K mg base "_law_bag" 1 ["_law_script", "_law_at"] (spBag K)) (take : Defs P w K mg base "_law_take" 1 ["_law_bag_here", "_law_many"] spTake) (call : Defs P w K mg base "_law_call" 4 ["_law_bag_here"] spCall)
    (text : Defs P w K mg base "_law_text" 1 ["_law_deed"] (spText K)) (show1 : Defs P w K mg base "show_call" 2 ["call"] (spShowCall K)) (shows : Defs P w K mg base "show_calls" 3 ["calls"] (spShowCalls K)) (read1 : Defs P w K mg base "read_call" 4 ["text"] (spReadCall K mg)) (reads : Defs P w K mg base "read_calls" 4 ["text"] (spReadCalls K mg)) :
    FnG P w K mg base CX0 5 f fd ["_law_script"] (spLaw K) := by
  obtain ⟨fB, fdB, GB, mB, kB, bB, _⟩ := bag.ex
  obtain ⟨fT, fdT, GT, mT, kT, bT, _⟩ := take.ex
  obtain ⟨fC, fdC, GC, mC, kC, bC, _⟩ := call.ex
  obtain ⟨fX, fdX, GX, mX, kX, bX, _⟩ := text.ex
  obtain ⟨f1, fd1, G1, m1, k1, b1, kb1⟩ := show1.ex
  obtain ⟨f2, fd2, G2, m2, k2, b2, kb2⟩ := shows.ex
  obtain ⟨f3, fd3, G3, m3, k3, b3, kb3⟩ := read1.ex
  obtain ⟨f4, fd4, G4, m4, k4, b4, kb4⟩ := reads.ex
  refine okG F scLaw (fun vs H Q E h => ?_) (fun cdv A outer s H vs Q E hr hg h => ?_)
  · obtain ⟨x, _, rfl, _⟩ := h
    rfl
  · obtain ⟨a, ns, rfl, hS, hl, k⟩ := h
    have r1 : Room 1 _ := hr.mono (by decide)
    have r2 : Room 2 _ := hr.mono (by decide)
    have r3 : Room 3 _ := hr.mono (by decide)
    have hu := hr.units
    refine ⟨_, PSs.nox
      (pss_cut (ps_for PassesOwn.never rfl (pi_range1 (by rfl) T.range (pa_cons (pe_callB (cMax2 rfl) (by rfl) T.max (by decide +kernel) (pa_cons pe_int (pa_cons (pe_callB (cMin2 rfl) (by rfl) T.min (by decide +kernel) (pa_cons pe_int (pa_cons (pe_callB cLenQ (by rfl) T.len PySem.boot_len (pa_cons (pv 0) pa_nil)) pa_nil))) pa_nil))) pa_nil)) (pg_name (i := 1) scLaw.nd rfl (Or.inl rfl))
      (pss_cons (ps_set (i := 2) scLaw.nd rfl (Or.inr rfl) (pe_call GB r1 (by rfl) mB kB bB .nil pass0 (pa_cons (pv 0) (pa_cons (pv 1) pa_nil))))
      (pss_cut (ps_setLc (i := 3) (own := [("_law_turn", 9)]) (g := gName 9) (tt := tYes) rfl scLaw.nd rfl rfl (sw_true rfl rfl rfl (by decide +kernel)) (pi_range1 (by rfl) T.range (pa_cons (pe_call GT r1 (by rfl) mT kT bT .nil pass0 (pa_cons (pv 2) (pa_cons pe_int pa_nil))) pa_nil)) (blkOk_by (N := nLaw) (sc := defScope sLaw) (by decide +kernel)) (fun _ _ _ _ _ => (pg_name (i := 9) scLaw.nd rfl (Or.inl rfl))) (fun _ _ _ _ _ => pts_nil) (fun _ _ _ _ _ => (pe_call GC hr (by rfl) mC kC bC .nil pass0 (pa_cons (pv 2) pa_nil))))
      (pss_cut (ps_setLc (i := 5) (own := [("_law_deed", 4)]) (g := gName 4) (tt := tYes) rfl scLaw.nd rfl rfl (sw_true rfl rfl rfl (by decide +kernel)) (pi_list (pv 3)) (blkOk_by (N := nLaw) (sc := defScope sLaw) (by decide +kernel)) (fun _ _ _ _ _ => (pg_name (i := 4) scLaw.nd rfl (Or.inl rfl))) (fun _ _ _ _ _ => pts_nil) (fun _ _ _ _ _ => (pe_call GX r1 (by rfl) mX kX bX .nil pass0 (pa_cons (pv 4) pa_nil))))
      (pss_cut (ps_for PassesOwn.never rfl (pi_zip (by rfl) T.zip (pa_cons (pv 3) (pa_cons (pv 5) pa_nil))) (pg_tup rfl (pgs_cons (pg_name (i := 4) scLaw.nd rfl (Or.inl rfl)) (pgs_cons (pg_name (i := 6) scLaw.nd rfl (Or.inl rfl)) pgs_nil))) (pss_cut (ps_if (PW.pt (pw_or (pt_cmpR op_ne (pe_call G1 r2 (by rfl) m1 k1 b1 .nil pass0 (pa_cons (pv 4) pa_nil)) (pv 6) (nomark _)) (pw_or1 (pt_cmpR op_ne (pe_callK0 G1 r2 (by rfl) m1 k1 (kb1 _ rfl) pass0 (pk_cons (pv 4) pk_nil)) (pv 6) (nomark _))))) (pss_one (ps_ret pe_bl)) pss_nil)
      (pss_one (ps_if (pt_cmpR (op_neD hu) (pe_lst (pa_cons (pe_callB (cRepr hg hu) (by rfl) T.repr PyProof.Rows.boot_repr (pa_cons (pe_call G3 hr (by rfl) m3 k3 b3 .nil pass0 (pa_cons (pv 6) pa_nil)) pa_nil)) (pa_cons (pe_callB (cRepr hg hu) (by rfl) T.repr PyProof.Rows.boot_repr (pa_cons (pe_callK0 G3 hr (by rfl) m3 k3 (kb3 _ rfl) pass0 (pk_cons (pv 6) pk_nil)) pa_nil)) pa_nil))) (pe_lst (pa_cons (pe_callB (cRepr hg hu) (by rfl) T.repr PyProof.Rows.boot_repr (pa_cons (pv 4) pa_nil)) (pa_cons (pe_callB (cRepr hg hu) (by rfl) T.repr PyProof.Rows.boot_repr (pa_cons (pv 4) pa_nil)) pa_nil))) (nomark _)) (pss_one (ps_ret pe_bl)) pss_nil))))
      (pss_cut (ps_set (i := 7) scLaw.nd rfl (Or.inl rfl) (pe_join pe_str (pv 5)))
      (pss_cut (ps_set (i := 8) scLaw.nd rfl (Or.inl rfl) (pe_call G4 hr (by rfl) m4 k4 b4 .nil pass0 (pa_cons (pv 7) pa_nil)))
      (pss_cut (ps_if (PW.pt (pw_or (pt_cmpR op_ne (pe_call G2 r3 (by rfl) m2 k2 b2 .nil pass0 (pa_cons (pv 3) pa_nil)) (pv 7) (nomark _)) (pw_or (pt_cmpR op_ne (pe_call G2 r3 (by rfl) m2 k2 b2 .nil pass0 (pa_cons (pe_callTy call_tuple_of (by rfl) T.tuple PyProof.Rows.boot_tuple (pa_cons (pv 3) pa_nil)) pa_nil)) (pv 7) (nomark _)) (pw_or1 (pt_cmpR op_ne (pe_callB (cRepr hg hu) (by rfl) T.repr PyProof.Rows.boot_repr (pa_cons (pv 8) pa_nil)) (pe_callB (cRepr hg hu) (by rfl) T.repr PyProof.Rows.boot_repr (pa_cons (pv 3) pa_nil)) (nomark _)))))) (pss_one (ps_ret pe_bl)) pss_nil)
      (pss_cut (ps_expr (pe_bm PySem.F.plainAttrs_list PySem.F.slot_list_append PySem.F.type_list_append mt_append (pv 8) (pa_cons pe_non pa_nil)))
      (pss_one (ps_if (pt_cmpR (op_neD hu) (pe_callK0 G4 hr (by rfl) m4 k4 (kb4 _ rfl) pass0 (pk_cons (pv 7) pk_nil)) (pv 3) (nomark _)) (pss_one (ps_ret pe_bl)) pss_nil)))))))))))
      (pss_one (ps_ret (pe_and (pe_cmpR op_eq (pe_call G2 r3 (by rfl) m2 k2 b2 .nil pass0 (pa_cons (pe_lst pa_nil) pa_nil)) pe_str (nomark _)) (pe_one (pe_cmpR (op_eqD hu) (pe_call G4 hr (by rfl) m4 k4 b4 .nil pass0 (pa_cons pe_str pa_nil)) (pe_lst pa_nil) (nomark _))))))), ?_⟩
    refine ⟨fun _ _ => True, ?_, ?_⟩
    · walk_at "wn"
      show iRng1 _ _ _ _
      show tCons _ _ _ _ _
      walk_at "wn"
      refine ⟨a, _, rfl, .inl hS, ?_⟩
      walk_at "wn"
      refine ⟨_, rfl, ?_, ?_, ?_⟩
      · split <;> split <;> omega
      · split <;> split <;> omega
      refine for_range (lo := 0) (fun i σ' H' => ∃ u1 u2 u3 u4 u5 u6 u7 u8 u9 : Option V, σ' = [some (.ref a), u1, u2, u3, u4, u5, u6, u7, u8, u9] ∧ SqL K H' a (ns.map V.int)) ⟨_, _, _, _, _, _, _, _, _, rfl, hS⟩ ?_ (fun _ _ _ => trivial)
      rintro i σ' Hb hi ⟨u1, u2, u3, u4, u5, u6, u7, u8, u9, rfl, hSb⟩
      walk_at "wn"
      refine ⟨a, ns, i, by simp, hSb, hl, by revert hi; split <;> split <;> omega, fun H1 p n0 s1 b1 => ?_⟩
      walk_at "wn"
      -- the calls
      refine ⟨fun σ' H' => ∃ (l : Addr) (cs : List V) (xss : List (List V)), σ' = [some (.ref a), some (.int (0 + (i : Int))), some (.ref p), some (.ref l), u4, u5, u6, u7, u8, u9] ∧ Same Hb H' ∧ H' l = some (.lst cs) ∧ Paired (AtTup H') cs xss ∧ cs.length ≤ 30 ∧ ∀ xs ∈ xss, ValidCall xs, ?_, ?_⟩
      · walk_at "wn"
        show iRng1 _ _ _ _
        show tCons _ _ _ _ _
        walk_at "wn"
        refine ⟨p, 31, rfl, b1, by decide, by decide, fun kk H2 k0 k1 e2 b2 => ?_⟩
        walk_at "wn"
        refine ⟨kk, rfl, by omega, by omega, fun D hD => lc_range (lo := 0) (n := kk.toNat) (fun j H' => Dr p H2 H' ∧ ∃ (cs : List V) (xss : List (List V)), cs.length = j ∧ H' D = some (.lst cs) ∧ Paired (AtTup H') cs xss ∧ ∀ xs ∈ xss, ValidCall xs) ⟨Dr.new b2 hD, [], [], rfl, upd_same, .nil, (fun _ z => nomatch z)⟩ ?_ ?_⟩
        · rintro j H' hj ⟨dr, cs, xss, l1, l2, l3, l4⟩
          refine ⟨rfl, ?_⟩
          walk_at "wn"
          refine ⟨p, rfl, dr.2, fun c xs H3 vc hc d3 => ?_⟩
          have nDp : D ≠ p := BagAt.ne b2 hD
          have hD3 := d3.1 D _ nDp l2
          have keep : ∀ {q : Addr} {ys : List V}, H' q = some (.tup ys) → upd H3 D (.lst (cs ++ [V.ref c])) q = some (.tup ys) := fun {q ys} e => by
            have n1 : q ≠ p := fun z => by
              obtain ⟨y, u, e2, _⟩ := dr.2
              rw [z, e2] at e
              cases e
            have e3 := d3.1 q _ n1 e
            rw [upd_ne (fun z => by rw [z, hD3] at e3; cases e3)]
            exact e3
          have ncD : c ≠ D := fun z => by rw [z, hD3] at hc; cases hc
          refine ⟨cs, hD3, by rw [sizeLine_eq]; omega, Dr.upd (dr.trans d3) hD nDp, cs ++ [V.ref c], xss ++ [xs], by simp [l1], upd_same, Paired.snoc (Paired.mono' (fun x ys ⟨q, e1, e2⟩ => ⟨q, e1, keep e2⟩) l3) ⟨c, rfl, by rw [upd_ne ncD]; exact hc⟩, fun ys hy => ?_⟩
          rcases List.mem_append.mp hy with hy | hy
          · exact l4 ys hy
          · rw [List.mem_singleton.mp hy]
            exact vc
        · rintro H' ⟨dr, cs, xss, l1, l2, l3, l4⟩
          have s2 : Same Hb H2 := Same.dr n0 s1 (Dr.draw e2 b2)
          exact ⟨D, cs, xss, rfl, Same.dr n0 s2 dr, l2, l3, by omega, l4⟩
      rintro σ' H2 ⟨l, cs, xss, rfl, s2, hl2, pr2, lc2, vc⟩
      have lx : xss.length = cs.length := pr2.length.symm
      -- the texts
      refine ⟨fun σ' H' => ∃ t : Addr, σ' = [some (.ref a), some (.int (0 + (i : Int))), some (.ref p), some (.ref l), u4, some (.ref t), u6, u7, u8, u9] ∧ Same H2 H' ∧ H' t = some (.lst ((xss.map ctext).map V.str)), ?_, ?_⟩
      · walk_at "wn"
        show iList _ _ _ _ _
        show tVar _ _ _ _
        walk_at "wn"
        refine ⟨l, rfl, ⟨_, SqL.of hl2⟩, fun D hD => lc_texts2 (ts := xss.map ctext) walk_list hD (by omega) (by rw [List.length_map, lx]) (fun H' e => SqL.of (e _ _ hl2)) (fun _ => rfl) (fun j x t hx ht H' Q' sm q => ?_) (fun H' sm hD' => ⟨D, rfl, sm, hD'⟩)⟩
        obtain ⟨xs, ex, q1, rfl, hq⟩ := Paired.get? pr2 hx
        rw [List.getElem?_map, ex] at ht
        cases ht
        have vx := vc xs (List.mem_of_getElem? ex)
        obtain ⟨nm, as, ks, rfl, hm, ha⟩ := vx
        have nf := names_free _ hm
        have hks : as.length = ks.length := ha.length.symm
        have h5 : ks.length ≤ 5 := nf.2.2.2.1
        have h0 : 0 < ks.length := nf.2.2.2.2
        walk_at "wn"
        exact ⟨q1, nm, as, rfl, SqT.of (sm _ _ hq), by omega, by omega, nf.1, fun y hy => valid_parts ⟨nm, as, ks, rfl, hm, ha⟩ y (List.mem_cons_of_mem _ hy), q⟩
      rintro σ' H3 ⟨t, rfl, s3, ht3⟩
      have hl3 := s3 _ _ hl2
      have pr3 : Paired (AtTup H3) cs xss := Paired.mono' (fun _ _ z => AtTup.same s3 z) pr2
      have atc : ∀ {H'}, Same H3 H' → Paired (AtTup H') cs xss := fun e => Paired.mono' (fun _ _ z => AtTup.same e z) pr3
      -- one call after another
      refine ⟨fun σ' H' => ∃ v4 v6 : Option V, σ' = [some (.ref a), some (.int (0 + (i : Int))), some (.ref p), some (.ref l), v4, some (.ref t), v6, u7, u8, u9] ∧ Same H3 H', ?_, ?_⟩
      · walk_at "wn"
        show iZip _ _ _ _ _
        show tCons _ _ _ _ _
        walk_at "wn"
        refine ⟨l, t, _, _, rfl, SqL.of hl3, SqL.of ht3, ?_⟩
        refine for_it (walk_zip (xs := cs) (ys := (xss.map ctext).map V.str) (n := cs.length) (by simp [lx])) (fun j σ' H' => ∃ v4 v6 : Option V, σ' = [some (.ref a), some (.int (0 + (i : Int))), some (.ref p), some (.ref l), v4, some (.ref t), v6, u7, u8, u9] ∧ Same H3 H') ⟨u4, u6, rfl, Same.refl _⟩ (fun j σ' H' _ ⟨_, _, _, e⟩ => ⟨SqL.of (e _ _ hl3), SqL.of (e _ _ ht3)⟩) ?_ (fun σ' H' h => h)
        rintro j x σ' H4 H5 hj ⟨v4, v6, rfl, s4⟩ ⟨T1, x1, y1, rfl, nT, rfl, ex, ey⟩
        have ex : cs[j]? = some x1 := ex
        have ey : ((xss.map ctext).map V.str)[j]? = some y1 := ey
        obtain ⟨xs, exs, q1, rfl, hq⟩ := Paired.get? pr3 ex
        rw [List.getElem?_map, List.getElem?_map, exs] at ey
        cases ey
        have vx := vc xs (List.mem_of_getElem? exs)
        have s5 : Same H3 (upd H4 T1 (.tup [V.ref q1, V.str (ctext xs)])) := fun c o e => by rw [upd_ne (ne_of_none (s4 _ _ e) nT)]; exact s4 _ _ e
        refine ⟨T1, _, rfl, SqT.of upd_same, rfl, _, _, rfl, ?_⟩
        walk_at "wn"
        refine ⟨_, _, rfl, ?_⟩
        walk_at "wn"
        refine ⟨rfl, ?_⟩
        have vl := valid_len vx
        have vp := valid_parts vx
        have eqs : (!decide (V.str (ctext xs) = V.str (ctext xs))) = false := by rw [decide_eq_true rfl]; rfl
        refine ⟨fun σ' H' => σ' = [some (.ref a), some (.int (0 + (i : Int))), some (.ref p), some (.ref l), some (.ref q1), some (.ref t), some (.str (ctext xs)), u7, u8, u9] ∧ Same H3 H', ?_, ?_⟩
        · walk_at "wn"
          refine ⟨q1, xs, rfl, SqT.of (s5 _ _ hq), by omega, vp, fun H6 s6 => ?_⟩
          walk_at "wn"
          refine ⟨q1, xs, rfl, SqT.of (s6 _ _ (s5 _ _ hq)), by omega, vp, fun H7 s7 => ?_⟩
          walk_at "wn"
          exact ⟨rfl, s5.trans (s6.trans s7)⟩
        rintro σ' H6 ⟨rfl, s6⟩
        have ln : Line K mg (ctext xs) (some xs) := line_of vx
        have lt : (ctext xs).length ≤ 126 := ctext_len vl vp
        have vo := valid_ok vx
        have dq : ∀ {H'}, Same H3 H' → Dp K H' (.ref q1) (.tuple (xs.map dat)) := fun e => .tup (SqT.of (e _ _ hq)) (dats_dp vp)
        walk_at "wn"
        refine ⟨ctext xs, xs, rfl, by omega, ln, fun H7 r1 hr1 s7 hx1 => ?_⟩
        walk_at "wn"
        refine ⟨.ref r1, .tuple (xs.map dat), rfl, .tup (SqT.of hx1) (dats_dp vp), vo.1, by rw [vo.2.2.2]; decide, by omega, ?_⟩
        walk_at "wn"
        refine ⟨ctext xs, xs, rfl, by omega, ln, fun H8 r2 hr2 s8 hx2 => ?_⟩
        walk_at "wn"
        refine ⟨.ref r2, .tuple (xs.map dat), rfl, .tup (SqT.of hx2) (dats_dp vp), vo.1, by rw [vo.2.2.2]; decide, by omega, ?_⟩
        walk_at "wn"
        refine ⟨by show 2 ≤ sizeLine; decide, fun la hla => ?_⟩
        walk_at "wn"
        have s9 : Same H3 H8 := s6.trans (s7.trans s8)
        have sa : Same H8 (upd H8 la (.lst [V.str (PyData.tuple (xs.map dat)).shown, V.str (PyData.tuple (xs.map dat)).shown])) := fun c o e => by rw [upd_ne (ne_of_none e hla)]; exact e
        refine ⟨.ref q1, .tuple (xs.map dat), rfl, dq (s9.trans sa), vo.1, by rw [vo.2.2.2]; decide, by omega, ?_⟩
        walk_at "wn"
        refine ⟨.ref q1, .tuple (xs.map dat), rfl, dq (s9.trans sa), vo.1, by rw [vo.2.2.2]; decide, by omega, ?_⟩
        walk_at "wn"
        refine ⟨by show 2 ≤ sizeLine; decide, fun lb hlb => ?_⟩
        walk_at "wn"
        have two : ∀ {H' : Hp} {ll : Addr}, H' ll = some (.lst [V.str (PyData.tuple (xs.map dat)).shown, V.str (PyData.tuple (xs.map dat)).shown]) → Dp K H' (.ref ll) (.list [.str (PyData.tuple (xs.map dat)).shown, .str (PyData.tuple (xs.map dat)).shown]) := fun e => .lst (SqL.of e) (.cons (.str _) (.cons (.str _) .nil))
        have nab : la ≠ lb := fun z => by rw [← z, upd_same] at hlb; cases hlb
        have sh2 := two_shaped vo.2.2.1 vo.2.2.1
        refine ⟨_, _, two (by rw [upd_ne nab, upd_same]), two upd_same, sh2, sh2, ?_⟩
        rw [PySem.SeqAt.eqv_refl _ (SeqAt.canLay_of_shaped sh2)]
        walk_at "wn"
        refine ⟨_, _, rfl, fun c o e => ?_⟩
        have e8 := sa _ _ (s9 _ _ e)
        rw [upd_ne (ne_of_none e8 hlb)]
        exact e8
      rintro σ' H4 ⟨v4, v6, rfl, s4⟩
      have hl4 := s4 _ _ hl3
      have ht4 := s4 _ _ ht3
      have pr4 := atc s4
      have tlen : ((xss.map ctext).map (·.length)).sum ≤ 126 * xss.length := by
        have : ∀ ys : List (List V), (∀ xs ∈ ys, ValidCall xs) → ((ys.map ctext).map (·.length)).sum ≤ 126 * ys.length := by
          intro ys
          induction ys with
          | nil => intro _; exact Nat.le_refl _
          | cons x ys ih =>
            intro h
            have := ctext_len (valid_len (h x List.mem_cons_self)) (valid_parts (h x List.mem_cons_self))
            have := ih fun z hz => h z (List.mem_cons_of_mem _ hz)
            simp only [List.map_cons, List.sum_cons, List.length_cons] at this ⊢
            omega
        exact this xss vc
      have e1 : ((("\n" : String) : Str)).length = 1 := rfl
      -- the whole text
      refine ⟨fun σ' H' => σ' = [some (.ref a), some (.int (0 + (i : Int))), some (.ref p), some (.ref l), v4, some (.ref t), v6, some (.str (Str.join "\n" (xss.map ctext))), u8, u9] ∧ H' = H4, ?_, ?_⟩
      · walk_at "wn"
        refine ⟨"\n", t, xss.map ctext, rfl, rfl, .inl (SqL.of ht4), by rw [e1, List.length_map]; omega, ?_⟩
        rw [TL.join_eq]
        walk_at "wn"
        exact ⟨rfl, rfl⟩
      rintro σ' H4' ⟨rfl, rfl⟩
      have wl : (Str.join "\n" (xss.map ctext)).length ≤ 9000 := by
        have := join_len "\n" (xss.map ctext)
        rw [e1, List.length_map] at this
        omega
      have wr : (Str.join "\n" (xss.map ctext) = "" ∧ xss = []) ∨ (Str.join "\n" (xss.map ctext) ≠ "" ∧ Paired (fun l xs => Line K mg l (some xs)) (Txt.split (Str.join "\n" (xss.map ctext)) "\n") xss) := by
        cases hx : xss with
        | nil => exact .inl ⟨rfl, rfl⟩
        | cons x ys =>
          rw [← hx]
          have ne : xss.map ctext ≠ [] := by rw [hx]; simp
          refine .inr ⟨fun z => ?_, ?_⟩
          · have q := join_len_eq "\n" (xss.map ctext) ne
            have e2 : ((("" : String) : Str)).length = 0 := rfl
            rw [z, e1, e2, hx] at q
            simp only [List.map_cons, List.sum_cons] at q
            have c0 : (ctext x).length = 0 := by omega
            have : ctext x = "" := by
              have e3 : (ctext x).cps = #[] := Array.eq_empty_of_size_eq_zero c0
              cases hc : ctext x with
              | mk cps =>
                rw [hc] at e3
                have e4 : cps = #[] := e3
                rw [e4]
                rfl
            exact (tl_ctext (vc x (by rw [hx]; exact List.mem_cons_self))).2 this
          · rw [← TL.join_eq, TL.split_join (s := 10) (S := []) rfl (by decide +kernel) ne fun q hq => by
              obtain ⟨xs, hxs, rfl⟩ := List.mem_map.mp hq
              exact (tl_ctext (vc xs hxs)).1]
            have lines : ∀ ys : List (List V), (∀ xs ∈ ys, ValidCall xs) → Paired (fun l xs => Line K mg l (some xs)) (ys.map ctext) ys := by
              intro ys
              induction ys with
              | nil => intro _; exact .nil
              | cons x ys ih => exact fun h => .cons (line_of (h x List.mem_cons_self)) (ih fun z hz => h z (List.mem_cons_of_mem _ hz))
            exact lines xss vc
      have dok := datC_ok vc (by omega)
      -- what is read
      refine ⟨fun σ' H' => ∃ (l2 : Addr) (cs2 : List V), σ' = [some (.ref a), some (.int (0 + (i : Int))), some (.ref p), some (.ref l), v4, some (.ref t), v6, some (.str (Str.join "\n" (xss.map ctext))), some (.ref l2), u9] ∧ H4' l2 = none ∧ Same H4' H' ∧ H' l2 = some (.lst cs2) ∧ Paired (AtTup H') cs2 xss, ?_, ?_⟩
      · walk_at "wn"
        refine ⟨_, xss, rfl, wl, wr, fun H5 l2 cs2 n2 s5 h2 p2 => ?_⟩
        walk_at "wn"
        exact ⟨l2, cs2, rfl, n2, s5, h2, p2⟩
      rintro σ' H5 ⟨l2, cs2, rfl, n2, s5, h25, p25⟩
      have s35 : Same H3 H5 := s4.trans s5
      have hl5 := s35 _ _ hl3
      have pr5 := atc s35
      have lc5 : cs2.length ≤ 30 := by have := p25.length; omega
      have callat : ∀ {H'}, Same H3 H' → Paired (CallAt K H') cs xss := fun e => callat_of (atc e) vc
      refine ⟨fun σ' H' => σ' = [some (.ref a), some (.int (0 + (i : Int))), some (.ref p), some (.ref l), v4, some (.ref t), v6, some (.str (Str.join "\n" (xss.map ctext))), some (.ref l2), u9] ∧ Same H5 H', ?_, ?_⟩
      · walk_at "wn"
        refine ⟨l, cs, xss, rfl, .inl (SqL.of hl5), by omega, callat s35, fun H6 s6 => ?_⟩
        walk_at "wn"
        refine ⟨l, _, rfl, .inl ⟨SqL.of (s6 _ _ hl5), fun tt htt => ?_⟩⟩
        walk_at "wn"
        have s7 : Same H6 (upd H6 tt (.tup cs)) := fun c o e => by rw [upd_ne (ne_of_none e htt)]; exact e
        refine ⟨tt, cs, xss, rfl, .inr (SqT.of upd_same), by omega, callat (s35.trans (s6.trans s7)), fun H8 s8 => ?_⟩
        walk_at "wn"
        have s58 : Same H5 H8 := s6.trans (s7.trans s8)
        refine ⟨.ref l2, datC xss, rfl, calls_dp (s58 _ _ h25) (Paired.mono' (fun _ _ z => AtTup.same s58 z) p25) vc, dok.1, dok.2.1, dok.2.2.1, ?_⟩
        walk_at "wn"
        refine ⟨.ref l, datC xss, rfl, calls_dp (s58 _ _ hl5) (Paired.mono' (fun _ _ z => AtTup.same s58 z) pr5) vc, dok.1, dok.2.1, dok.2.2.1, ?_⟩
        walk_at "wn"
        exact ⟨rfl, s58⟩
      rintro σ' H6 ⟨rfl, s6⟩
      have h26 := s6 _ _ h25
      have nl : l ≠ l2 := fun z => by rw [← z, hl4] at n2; cases n2
      refine ⟨fun σ' H' => σ' = [some (.ref a), some (.int (0 + (i : Int))), some (.ref p), some (.ref l), v4, some (.ref t), v6, some (.str (Str.join "\n" (xss.map ctext))), some (.ref l2), u9] ∧ Same Hb H' ∧ H' l = some (.lst cs) ∧ Paired (AtTup H') cs xss, ?_, ?_⟩
      · walk_at "wn"
        refine ⟨l2, cs2, _, rfl, rfl, h26, by rw [sizeLine_eq]; omega, ?_⟩
        walk_at "wn"
        have keep : ∀ {c : Addr} {o : HO}, H4' c = some o → upd H6 l2 (.lst (cs2 ++ [V.non])) c = some o := fun {c o} e => by
          rw [upd_ne (ne_of_none e n2)]
          exact s6 _ _ (s5 _ _ e)
        exact ⟨rfl, fun c o e => keep (s4 _ _ (s3 _ _ (s2 _ _ e))), keep hl4, Paired.mono' (fun _ _ ⟨q, e, h⟩ => ⟨q, e, keep h⟩) pr4⟩
      rintro σ' H7 ⟨rfl, sb7, hl7, pr7⟩
      walk_at "wn"
      refine ⟨_, xss, rfl, wl, wr, fun H8 l3 cs3 n3 s8 h3 p3 => ?_⟩
      walk_at "wn"
      refine ⟨datC xss, datC xss, calls_dp h3 p3 vc, calls_dp (s8 _ _ hl7) (Paired.mono' (fun _ _ z => AtTup.same s8 z) pr7) vc, dok.2.2.2, dok.2.2.2, ?_⟩
      rw [PySem.SeqAt.eqv_refl _ (SeqAt.canLay_of_shaped dok.2.2.2)]
      walk_at "wn"
      exact ⟨_, _, _, _, _, _, _, _, _, rfl, Same.seq s8 (Same.seq sb7 hSb)⟩
    · rintro σ' H' _
      walk_at "wn"
      refine ⟨Nat.zero_le _, fun p1 hp1 => ?_⟩
      walk_at "wn"
      refine ⟨p1, [], [], rfl, .inl (SqL.of upd_same), Nat.zero_le _, .nil, fun H2 s2 => ?_⟩
      walk_at "wn"
      refine ⟨"", [], rfl, Nat.zero_le _, .inl ⟨rfl, rfl⟩, fun H3 l3 cs3 n3 s3 h3 p3 => ?_⟩
      walk_at "wn"
      refine ⟨Nat.zero_le _, fun p4 hp4 => ?_⟩
      have e3 : cs3 = [] := by
        have := p3.length
        exact List.eq_nil_of_length_eq_zero this
      subst e3
      have n34 : l3 ≠ p4 := fun z => by rw [z, hp4] at h3; cases h3
      walk_at "wn"
      refine ⟨.list [], .list [], .lst (SqL.of (by rw [upd_ne n34]; exact h3)) .nil, .lst (SqL.of upd_same) .nil, by decide +kernel, by decide +kernel, ?_⟩
      rw [PySem.SeqAt.eqv_refl _ (by decide +kernel)]
      exact k _
end
end Wn

namespace Wn
open PySem PySem.Spec PyProof.Rows L2 Evl
/-- f(x = v), f(v), one parameter -/
theorem kb_one {K : PySem.W.Frag} {x : Str} {st : Stmt} {f : Addr} {fd : FuncData} {p : Str} (F : Fun K x x st f fd)
    (h1 : ∀ (kV doc pm : Value) (an : Option Addr) (cdv ct : Value) (u : Value), bindArgs (PySem.W.fnOf x x (defArgs st) (defBody st) (defScope st) .none kV doc pm an cdv ct) ⟨[u], []⟩ = pure [(p, u)])
    (h2 : ∀ (kV doc pm : Value) (an : Option Addr) (cdv ct : Value) (u : Value), bindArgs (PySem.W.fnOf x x (defArgs st) (defBody st) (defScope st) .none kV doc pm an cdv ct) ⟨[], [(p, u)]⟩ = pure [(p, u)]) :
    KBinds K fd [p] [p] (fun us ws => us ++ ws) fun vs zs => vs ++ zs := by
  obtain ⟨oc, od, kV, doc, pm, an, cdv, ct, osl, rfl, lk, hcd⟩ := F.ex
  refine ⟨fun s us ws _ hl => ?_, fun r1 r2 => r1.append r2⟩
  match us, ws, hl with
  | [u], [], _ => exact .of_eq (h1 kV doc pm an cdv ct u)
  | [], [u], _ => exact .of_eq (h2 kV doc pm an cdv ct u)
theorem all_mk {P : Program} {w : World} {K : PySem.W.Frag} {h : Heap} {mg : Str → Option Value} {fa : Addr} (X : K.In h) (G : h.Ns mainGlobals mg) (hfa : mg "law" = some (.ref fa))
    {wW dD : Addr} {tD t9 : Tok} {es : Array DictEntry} {nD : Nat}
    {f1 : Addr} {oc1 kV1 dc1 pm1 cd1 ct1 : Value} {od1 an1 : Option Addr} {sl1 : Array (Option Value)}
    {f2 : Addr} {oc2 kV2 dc2 pm2 cd2 ct2 : Value} {od2 an2 : Option Addr} {sl2 : Array (Option Value)}
    {f3 : Addr} {oc3 kV3 dc3 pm3 cd3 ct3 : Value} {od3 an3 : Option Addr} {sl3 : Array (Option Value)}
    {f4 : Addr} {oc4 kV4 dc4 pm4 cd4 ct4 : Value} {od4 an4 : Option Addr} {sl4 : Array (Option Value)}
    {f5 : Addr} {oc5 kV5 dc5 pm5 cd5 ct5 : Value} {od5 an5 : Option Addr} {sl5 : Array (Option Value)}
    {f6 : Addr} {oc6 kV6 dc6 pm6 cd6 ct6 : Value} {od6 an6 : Option Addr} {sl6 : Array (Option Value)}
    {f7 : Addr} {oc7 kV7 dc7 pm7 cd7 ct7 : Value} {od7 an7 : Option Addr} {sl7 : Array (Option Value)}
    {f8 : Addr} {oc8 kV8 dc8 pm8 cd8 ct8 : Value} {od8 an8 : Option Addr} {sl8 : Array (Option Value)}
    {f9 : Addr} {oc9 kV9 dc9 pm9 cd9 ct9 : Value} {od9 an9 : Option Addr} {sl9 : Array (Option Value)}
    {f10 : Addr} {oc10 kV10 dc10 pm10 cd10 ct10 : Value} {od10 an10 : Option Addr} {sl10 : Array (Option Value)}
    {f11 : Addr} {oc11 kV11 dc11 pm11 cd11 ct11 : Value} {od11 an11 : Option Addr} {sl11 : Array (Option Value)}
    {f12 : Addr} {oc12 kV12 dc12 pm12 cd12 ct12 : Value} {od12 an12 : Option Addr} {sl12 : Array (Option Value)}
    {f13 : Addr} {oc13 kV13 dc13 pm13 cd13 ct13 : Value} {od13 an13 : Option Addr} {sl13 : Array (Option Value)}
    {f14 : Addr} {oc14 kV14 dc14 pm14 cd14 ct14 : Value} {od14 an14 : Option Addr} {sl14 : Array (Option Value)}
    {f15 : Addr} {oc15 kV15 dc15 pm15 cd15 ct15 : Value} {od15 an15 : Option Addr} {sl15 : Array (Option Value)}
    {f16 : Addr} {oc16 kV16 dc16 pm16 cd16 ct16 : Value} {od16 an16 : Option Addr} {sl16 : Array (Option Value)}
    {f17 : Addr} {oc17 kV17 dc17 pm17 cd17 ct17 : Value} {od17 an17 : Option Addr} {sl17 : Array (Option Value)}
    {dW : Option Addr} {nW : Nat} {sW : Array (Option Value)} {tW0 tW1 tW2 : Tok}
    {q0 : Addr}
    {dA0 : Option Addr} {nA0 : Nat} {sA0 : Array (Option Value)} {tA0_0 : Tok}
    {q1 : Addr}
    {dA1 : Option Addr} {nA1 : Nat} {sA1 : Array (Option Value)} {tA1_0 : Tok}
    {q2 : Addr}
    {dA2 : Option Addr} {nA2 : Nat} {sA2 : Array (Option Value)} {tA2_0 : Tok} {tA2_1 : Tok} {tA2_2 : Tok}
    {q3 : Addr}
    {dA3 : Option Addr} {nA3 : Nat} {sA3 : Array (Option Value)} {tA3_0 : Tok} {tA3_1 : Tok}
    {q4 : Addr}
    {dA4 : Option Addr} {nA4 : Nat} {sA4 : Array (Option Value)} {tA4_0 : Tok}
    {q5 : Addr}
    {dA5 : Option Addr} {nA5 : Nat} {sA5 : Array (Option Value)} {tA5_0 : Tok}
    {q6 : Addr}
    {dA6 : Option Addr} {nA6 : Nat} {sA6 : Array (Option Value)} {tA6_0 : Tok} {tA6_1 : Tok} {tA6_2 : Tok}
    {q7 : Addr}
    {dA7 : Option Addr} {nA7 : Nat} {sA7 : Array (Option Value)} {tA7_0 : Tok} {tA7_1 : Tok}
    {q8 : Addr}
    {dA8 : Option Addr} {nA8 : Nat} {sA8 : Array (Option Value)} {tA8_0 : Tok} {tA8_1 : Tok} {tA8_2 : Tok}
    {q9 : Addr}
    {dA9 : Option Addr} {nA9 : Nat} {sA9 : Array (Option Value)} {tA9_0 : Tok} {tA9_1 : Tok} {tA9_2 : Tok} {tA9_3 : Tok} {tA9_4 : Tok}
    {q10 : Addr}
    {dA10 : Option Addr} {nA10 : Nat} {sA10 : Array (Option Value)} {tA10_0 : Tok} {tA10_1 : Tok} {tA10_2 : Tok} {tA10_3 : Tok}
    {q11 : Addr}
    {dA11 : Option Addr} {nA11 : Nat} {sA11 : Array (Option Value)} {tA11_0 : Tok} {tA11_1 : Tok} {tA11_2 : Tok}
    {q12 : Addr}
    {dA12 : Option Addr} {nA12 : Nat} {sA12 : Array (Option Value)} {tA12_0 : Tok} {tA12_1 : Tok} {tA12_2 : Tok}
    {q13 : Addr}
    {dA13 : Option Addr} {nA13 : Nat} {sA13 : Array (Option Value)} {tA13_0 : Tok}
    {q14 : Addr}
    {dA14 : Option Addr} {nA14 : Nat} {sA14 : Array (Option Value)} {tA14_0 : Tok} {tA14_1 : Tok} {tA14_2 : Tok} {tA14_3 : Tok}
    {q15 : Addr}
    {dA15 : Option Addr} {nA15 : Nat} {sA15 : Array (Option Value)} {tA15_0 : Tok} {tA15_1 : Tok}
    (a1 : PySem.W.nsIn K mainGlobals "is_word" = some (some (.ref f1))) (l1 : K.lookup f1 = some ⟨oc1, od1, .func (PySem.W.fnOf "is_word" "is_word" (defArgs sIsWord) (defBody sIsWord) (defScope sIsWord) .none kV1 dc1 pm1 an1 cd1 ct1), sl1⟩) (c1 : PySem.W.codeIn K cd1 "is_word" = true) (k1 : PySem.W.keepIn K (.ref f1) = true)
    (a2 : PySem.W.nsIn K mainGlobals "show_part" = some (some (.ref f2))) (l2 : K.lookup f2 = some ⟨oc2, od2, .func (PySem.W.fnOf "show_part" "show_part" (defArgs sShowPart) (defBody sShowPart) (defScope sShowPart) .none kV2 dc2 pm2 an2 cd2 ct2), sl2⟩) (c2 : PySem.W.codeIn K cd2 "show_part" = true) (k2 : PySem.W.keepIn K (.ref f2) = true)
    (a3 : PySem.W.nsIn K mainGlobals "show_call" = some (some (.ref f3))) (l3 : K.lookup f3 = some ⟨oc3, od3, .func (PySem.W.fnOf "show_call" "show_call" (defArgs sShowCall) (defBody sShowCall) (defScope sShowCall) .none kV3 dc3 pm3 an3 cd3 ct3), sl3⟩) (c3 : PySem.W.codeIn K cd3 "show_call" = true) (k3 : PySem.W.keepIn K (.ref f3) = true)
    (a4 : PySem.W.nsIn K mainGlobals "show_calls" = some (some (.ref f4))) (l4 : K.lookup f4 = some ⟨oc4, od4, .func (PySem.W.fnOf "show_calls" "show_calls" (defArgs sShowCalls) (defBody sShowCalls) (defScope sShowCalls) .none kV4 dc4 pm4 an4 cd4 ct4), sl4⟩) (c4 : PySem.W.codeIn K cd4 "show_calls" = true) (k4 : PySem.W.keepIn K (.ref f4) = true)
    (a5 : PySem.W.nsIn K mainGlobals "is_integer_text" = some (some (.ref f5))) (l5 : K.lookup f5 = some ⟨oc5, od5, .func (PySem.W.fnOf "is_integer_text" "is_integer_text" (defArgs sIsInt) (defBody sIsInt) (defScope sIsInt) .none kV5 dc5 pm5 an5 cd5 ct5), sl5⟩) (c5 : PySem.W.codeIn K cd5 "is_integer_text" = true) (k5 : PySem.W.keepIn K (.ref f5) = true)
    (a6 : PySem.W.nsIn K mainGlobals "is_argument_text" = some (some (.ref f6))) (l6 : K.lookup f6 = some ⟨oc6, od6, .func (PySem.W.fnOf "is_argument_text" "is_argument_text" (defArgs sIsArg) (defBody sIsArg) (defScope sIsArg) .none kV6 dc6 pm6 an6 cd6 ct6), sl6⟩) (c6 : PySem.W.codeIn K cd6 "is_argument_text" = true) (k6 : PySem.W.keepIn K (.ref f6) = true)
    (a7 : PySem.W.nsIn K mainGlobals "read_argument" = some (some (.ref f7))) (l7 : K.lookup f7 = some ⟨oc7, od7, .func (PySem.W.fnOf "read_argument" "read_argument" (defArgs sReadArg) (defBody sReadArg) (defScope sReadArg) .none kV7 dc7 pm7 an7 cd7 ct7), sl7⟩) (c7 : PySem.W.codeIn K cd7 "read_argument" = true) (k7 : PySem.W.keepIn K (.ref f7) = true)
    (a8 : PySem.W.nsIn K mainGlobals "call_or_none" = some (some (.ref f8))) (l8 : K.lookup f8 = some ⟨oc8, od8, .func (PySem.W.fnOf "call_or_none" "call_or_none" (defArgs sCallOrNone) (defBody sCallOrNone) (defScope sCallOrNone) .none kV8 dc8 pm8 an8 cd8 ct8), sl8⟩) (c8 : PySem.W.codeIn K cd8 "call_or_none" = true) (k8 : PySem.W.keepIn K (.ref f8) = true)
    (a9 : PySem.W.nsIn K mainGlobals "read_call" = some (some (.ref f9))) (l9 : K.lookup f9 = some ⟨oc9, od9, .func (PySem.W.fnOf "read_call" "read_call" (defArgs sReadCall) (defBody sReadCall) (defScope sReadCall) .none kV9 dc9 pm9 an9 cd9 ct9), sl9⟩) (c9 : PySem.W.codeIn K cd9 "read_call" = true) (k9 : PySem.W.keepIn K (.ref f9) = true)
    (a10 : PySem.W.nsIn K mainGlobals "read_calls" = some (some (.ref f10))) (l10 : K.lookup f10 = some ⟨oc10, od10, .func (PySem.W.fnOf "read_calls" "read_calls" (defArgs sReadCalls) (defBody sReadCalls) (defScope sReadCalls) .none kV10 dc10 pm10 an10 cd10 ct10), sl10⟩) (c10 : PySem.W.codeIn K cd10 "read_calls" = true) (k10 : PySem.W.keepIn K (.ref f10) = true)
    (a11 : PySem.W.nsIn K mainGlobals "_law_bag" = some (some (.ref f11))) (l11 : K.lookup f11 = some ⟨oc11, od11, .func (PySem.W.fnOf "_law_bag" "_law_bag" (defArgs sBag) (defBody sBag) (defScope sBag) .none kV11 dc11 pm11 an11 cd11 ct11), sl11⟩) (c11 : PySem.W.codeIn K cd11 "_law_bag" = true) (k11 : PySem.W.keepIn K (.ref f11) = true)
    (a12 : PySem.W.nsIn K mainGlobals "_law_take" = some (some (.ref f12))) (l12 : K.lookup f12 = some ⟨oc12, od12, .func (PySem.W.fnOf "_law_take" "_law_take" (defArgs sTake) (defBody sTake) (defScope sTake) .none kV12 dc12 pm12 an12 cd12 ct12), sl12⟩) (c12 : PySem.W.codeIn K cd12 "_law_take" = true) (k12 : PySem.W.keepIn K (.ref f12) = true)
    (a13 : PySem.W.nsIn K mainGlobals "_law_of" = some (some (.ref f13))) (l13 : K.lookup f13 = some ⟨oc13, od13, .func (PySem.W.fnOf "_law_of" "_law_of" (defArgs sOf) (defBody sOf) (defScope sOf) .none kV13 dc13 pm13 an13 cd13 ct13), sl13⟩) (c13 : PySem.W.codeIn K cd13 "_law_of" = true) (k13 : PySem.W.keepIn K (.ref f13) = true)
    (a14 : PySem.W.nsIn K mainGlobals "_law_number" = some (some (.ref f14))) (l14 : K.lookup f14 = some ⟨oc14, od14, .func (PySem.W.fnOf "_law_number" "_law_number" (defArgs sNumber) (defBody sNumber) (defScope sNumber) .none kV14 dc14 pm14 an14 cd14 ct14), sl14⟩) (c14 : PySem.W.codeIn K cd14 "_law_number" = true) (k14 : PySem.W.keepIn K (.ref f14) = true)
    (a15 : PySem.W.nsIn K mainGlobals "_law_call" = some (some (.ref f15))) (l15 : K.lookup f15 = some ⟨oc15, od15, .func (PySem.W.fnOf "_law_call" "_law_call" (defArgs sCall) (defBody sCall) (defScope sCall) .none kV15 dc15 pm15 an15 cd15 ct15), sl15⟩) (c15 : PySem.W.codeIn K cd15 "_law_call" = true) (k15 : PySem.W.keepIn K (.ref f15) = true)
    (a16 : PySem.W.nsIn K mainGlobals "_law_text" = some (some (.ref f16))) (l16 : K.lookup f16 = some ⟨oc16, od16, .func (PySem.W.fnOf "_law_text" "_law_text" (defArgs sText) (defBody sText) (defScope sText) .none kV16 dc16 pm16 an16 cd16 ct16), sl16⟩) (c16 : PySem.W.codeIn K cd16 "_law_text" = true) (k16 : PySem.W.keepIn K (.ref f16) = true)
    (a17 : PySem.W.nsIn K mainGlobals "law" = some (some (.ref f17))) (l17 : K.lookup f17 = some ⟨oc17, od17, .func (PySem.W.fnOf "law" "law" (defArgs sLaw) (defBody sLaw) (defScope sLaw) .none kV17 dc17 pm17 an17 cd17 ct17), sl17⟩) (c17 : PySem.W.codeIn K cd17 "law" = true) (k17 : PySem.W.keepIn K (.ref f17) = true)
    (z0 : PySem.W.nsIn K mainGlobals "len" = some none)
    (z1 : PySem.W.nsIn K mainGlobals "enumerate" = some none)
    (z2 : PySem.W.nsIn K mainGlobals "int" = some none)
    (z3 : PySem.W.nsIn K mainGlobals "abs" = some none)
    (z4 : PySem.W.nsIn K mainGlobals "str" = some none)
    (z5 : PySem.W.nsIn K mainGlobals "all" = some none)
    (z6 : PySem.W.nsIn K mainGlobals "zip" = some none)
    (z7 : PySem.W.nsIn K mainGlobals "isinstance" = some none)
    (z8 : PySem.W.nsIn K mainGlobals "range" = some none)
    (z9 : PySem.W.nsIn K mainGlobals "max" = some none)
    (z10 : PySem.W.nsIn K mainGlobals "min" = some none)
    (z11 : PySem.W.nsIn K mainGlobals "repr" = some none)
    (z12 : PySem.W.nsIn K mainGlobals "tuple" = some none)
    (wA : PySem.W.nsIn K mainGlobals "WORDS" = some (some (.ref wW)))
    (gA : PySem.W.nsIn K mainGlobals "ARGUMENTS" = some (some (.ref dD)))
    (gL : K.lookup dD = some ⟨.type "dict", none, .dict es nD, #[]⟩)
    (gK : PySem.W.KeysLit w.params es.toList)
    (gS : (dD == sysModules) = false)
    (gD : PySem.W.nsIn K mainGlobals "NONE_TEXT" = some (some (.str "-" tD)))
    (g9 : PySem.W.nsIn K mainGlobals "MOST_DIGITS" = some (some (.int 9 t9)))
    (LW : K.lookup wW = some ⟨.type "tuple", dW, .seq #[.str "level" tW0, .str "edge" tW1, .str "once" tW2] nW, sW⟩)
    (E0 : PySem.W.nsIn K dD "new_source" = some (some (.ref q0)))
    (LA0 : K.lookup q0 = some ⟨.type "tuple", dA0, .seq #[.str "integer" tA0_0] nA0, sA0⟩)
    (E1 : PySem.W.nsIn K dD "new_set" = some (some (.ref q1)))
    (LA1 : K.lookup q1 = some ⟨.type "tuple", dA1, .seq #[.str "integer" tA1_0] nA1, sA1⟩)
    (E2 : PySem.W.nsIn K dD "copy" = some (some (.ref q2)))
    (LA2 : K.lookup q2 = some ⟨.type "tuple", dA2, .seq #[.str "integer" tA2_0, .str "integer" tA2_1, .str "optional" tA2_2] nA2, sA2⟩)
    (E3 : PySem.W.nsIn K dD "close" = some (some (.ref q3)))
    (LA3 : K.lookup q3 = some ⟨.type "tuple", dA3, .seq #[.str "integer" tA3_0, .str "integer" tA3_1] nA3, sA3⟩)
    (E4 : PySem.W.nsIn K dD "fork" = some (some (.ref q4)))
    (LA4 : K.lookup q4 = some ⟨.type "tuple", dA4, .seq #[.str "integer" tA4_0] nA4, sA4⟩)
    (E5 : PySem.W.nsIn K dD "end" = some (some (.ref q5)))
    (LA5 : K.lookup q5 = some ⟨.type "tuple", dA5, .seq #[.str "integer" tA5_0] nA5, sA5⟩)
    (E6 : PySem.W.nsIn K dD "arrive" = some (some (.ref q6)))
    (LA6 : K.lookup q6 = some ⟨.type "tuple", dA6, .seq #[.str "integer" tA6_0, .str "integer" tA6_1, .str "integer" tA6_2] nA6, sA6⟩)
    (E7 : PySem.W.nsIn K dD "finish" = some (some (.ref q7)))
    (LA7 : K.lookup q7 = some ⟨.type "tuple", dA7, .seq #[.str "integer" tA7_0, .str "integer" tA7_1] nA7, sA7⟩)
    (E8 : PySem.W.nsIn K dD "read" = some (some (.ref q8)))
    (LA8 : K.lookup q8 = some ⟨.type "tuple", dA8, .seq #[.str "integer" tA8_0, .str "integer" tA8_1, .str "optional" tA8_2] nA8, sA8⟩)
    (E9 : PySem.W.nsIn K dD "add" = some (some (.ref q9)))
    (LA9 : K.lookup q9 = some ⟨.type "tuple", dA9, .seq #[.str "integer" tA9_0, .str "integer" tA9_1, .str "integer" tA9_2, .str "integer" tA9_3, .str "word" tA9_4] nA9, sA9⟩)
    (E10 : PySem.W.nsIn K dD "change" = some (some (.ref q10)))
    (LA10 : K.lookup q10 = some ⟨.type "tuple", dA10, .seq #[.str "integer" tA10_0, .str "integer" tA10_1, .str "integer" tA10_2, .str "word" tA10_3] nA10, sA10⟩)
    (E11 : PySem.W.nsIn K dD "remove" = some (some (.ref q11)))
    (LA11 : K.lookup q11 = some ⟨.type "tuple", dA11, .seq #[.str "integer" tA11_0, .str "integer" tA11_1, .str "integer" tA11_2] nA11, sA11⟩)
    (E12 : PySem.W.nsIn K dD "wait" = some (some (.ref q12)))
    (LA12 : K.lookup q12 = some ⟨.type "tuple", dA12, .seq #[.str "integer" tA12_0, .str "integer" tA12_1, .str "integer" tA12_2] nA12, sA12⟩)
    (E13 : PySem.W.nsIn K dD "numbers" = some (some (.ref q13)))
    (LA13 : K.lookup q13 = some ⟨.type "tuple", dA13, .seq #[.str "integer" tA13_0] nA13, sA13⟩)
    (E14 : PySem.W.nsIn K dD "same" = some (some (.ref q14)))
    (LA14 : K.lookup q14 = some ⟨.type "tuple", dA14, .seq #[.str "integer" tA14_0, .str "integer" tA14_1, .str "integer" tA14_2, .str "integer" tA14_3] nA14, sA14⟩)
    (E15 : PySem.W.nsIn K dD "units" = some (some (.ref q15)))
    (LA15 : K.lookup q15 = some ⟨.type "tuple", dA15, .seq #[.str "integer" tA15_0, .str "integer" tA15_1] nA15, sA15⟩) :
    ∃ fd : FuncData, (∀ (s : Shared) (u : Value), BindsTo s fd ⟨[u], []⟩ [("_law_script", u)]) ∧ ∀ base : Heap, K.In base → base.Ns mainGlobals mg → FnG P w K mg base CX0 5 fa fd ["_law_script"] (spLaw K) := by
  have e := hfa.symm.trans (PySem.W.mg_of X G a17)
  cases e
  have F1 := fun_mk (st := sIsWord) l1 c1 k1
  have m1 := PySem.W.mg_of X G a1
  have b1 := F1.binds (ps := ["x"]) fun _ _ _ _ _ _ us hl => match us, hl with | [_], _ => rfl
  have F2 := fun_mk (st := sShowPart) l2 c2 k2
  have m2 := PySem.W.mg_of X G a2
  have b2 := F2.binds (ps := ["part"]) fun _ _ _ _ _ _ us hl => match us, hl with | [_], _ => rfl
  have F3 := fun_mk (st := sShowCall) l3 c3 k3
  have m3 := PySem.W.mg_of X G a3
  have b3 := F3.binds (ps := ["call"]) fun _ _ _ _ _ _ us hl => match us, hl with | [_], _ => rfl
  have F4 := fun_mk (st := sShowCalls) l4 c4 k4
  have m4 := PySem.W.mg_of X G a4
  have b4 := F4.binds (ps := ["calls"]) fun _ _ _ _ _ _ us hl => match us, hl with | [_], _ => rfl
  have F5 := fun_mk (st := sIsInt) l5 c5 k5
  have m5 := PySem.W.mg_of X G a5
  have b5 := F5.binds (ps := ["text"]) fun _ _ _ _ _ _ us hl => match us, hl with | [_], _ => rfl
  have F6 := fun_mk (st := sIsArg) l6 c6 k6
  have m6 := PySem.W.mg_of X G a6
  have b6 := F6.binds (ps := ["kind", "text"]) fun _ _ _ _ _ _ us hl => match us, hl with | [_, _], _ => rfl
  have F7 := fun_mk (st := sReadArg) l7 c7 k7
  have m7 := PySem.W.mg_of X G a7
  have b7 := F7.binds (ps := ["kind", "text"]) fun _ _ _ _ _ _ us hl => match us, hl with | [_, _], _ => rfl
  have F8 := fun_mk (st := sCallOrNone) l8 c8 k8
  have m8 := PySem.W.mg_of X G a8
  have b8 := F8.binds (ps := ["text"]) fun _ _ _ _ _ _ us hl => match us, hl with | [_], _ => rfl
  have F9 := fun_mk (st := sReadCall) l9 c9 k9
  have m9 := PySem.W.mg_of X G a9
  have b9 := F9.binds (ps := ["text"]) fun _ _ _ _ _ _ us hl => match us, hl with | [_], _ => rfl
  have F10 := fun_mk (st := sReadCalls) l10 c10 k10
  have m10 := PySem.W.mg_of X G a10
  have b10 := F10.binds (ps := ["text"]) fun _ _ _ _ _ _ us hl => match us, hl with | [_], _ => rfl
  have F11 := fun_mk (st := sBag) l11 c11 k11
  have m11 := PySem.W.mg_of X G a11
  have b11 := F11.binds (ps := ["_law_script", "_law_at"]) fun _ _ _ _ _ _ us hl => match us, hl with | [_, _], _ => rfl
  have F12 := fun_mk (st := sTake) l12 c12 k12
  have m12 := PySem.W.mg_of X G a12
  have b12 := F12.binds (ps := ["_law_bag_here", "_law_many"]) fun _ _ _ _ _ _ us hl => match us, hl with | [_, _], _ => rfl
  have F13 := fun_mk (st := sOf) l13 c13 k13
  have m13 := PySem.W.mg_of X G a13
  have b13 := F13.binds (ps := ["_law_bag_here", "_law_some"]) fun _ _ _ _ _ _ us hl => match us, hl with | [_, _], _ => rfl
  have F14 := fun_mk (st := sNumber) l14 c14 k14
  have m14 := PySem.W.mg_of X G a14
  have b14 := F14.binds (ps := ["_law_bag_here"]) fun _ _ _ _ _ _ us hl => match us, hl with | [_], _ => rfl
  have F15 := fun_mk (st := sCall) l15 c15 k15
  have m15 := PySem.W.mg_of X G a15
  have b15 := F15.binds (ps := ["_law_bag_here"]) fun _ _ _ _ _ _ us hl => match us, hl with | [_], _ => rfl
  have F16 := fun_mk (st := sText) l16 c16 k16
  have m16 := PySem.W.mg_of X G a16
  have b16 := F16.binds (ps := ["_law_deed"]) fun _ _ _ _ _ _ us hl => match us, hl with | [_], _ => rfl
  have F17 := fun_mk (st := sLaw) l17 c17 k17
  have m17 := PySem.W.mg_of X G a17
  have b17 := F17.binds (ps := ["_law_script"]) fun _ _ _ _ _ _ us hl => match us, hl with | [_], _ => rfl
  have DT : DrawTxt mg := ⟨(PySem.W.mg_none_of X G z0), (PySem.W.mg_none_of X G z1), (PySem.W.mg_none_of X G z2), (PySem.W.mg_none_of X G z3)⟩
  have FR : Frees mg := ⟨(PySem.W.mg_none_of X G z8), (PySem.W.mg_none_of X G z9), (PySem.W.mg_none_of X G z10), (PySem.W.mg_none_of X G z0), (PySem.W.mg_none_of X G z6), (PySem.W.mg_none_of X G z11), (PySem.W.mg_none_of X G z12)⟩
  have tup : ∀ {q : Addr} {dd : Option Addr} {its : Array Value} {n : Nat} {sl : Array (Option Value)} {xs : List Str}, K.lookup q = some ⟨.type "tuple", dd, .seq its n, sl⟩ → its.size ≤ sizeLine → Vals (xs.map V.str) its.toList → ∀ H, SqT K H q (xs.map V.str) := fun e hz hv H => .inr ⟨_, _, _, e, rfl, rfl, hz, hv⟩
  have CT : CallTxt K w mg := by
    refine ⟨⟨wW, PySem.W.mg_of X G wA, tup (xs := wordsL) LW (by show 3 ≤ sizeLine; decide) (.cons ⟨_, rfl⟩ (.cons ⟨_, rfl⟩ (.cons ⟨_, rfl⟩ .nil)))⟩, ⟨dD, es, nD, PySem.W.mg_of X G gA, ⟨gL, gK, gS⟩, fun p hp => ?_⟩, ⟨tD, PySem.W.mg_of X G gD⟩, ⟨t9, PySem.W.mg_of X G g9⟩, (PySem.W.mg_none_of X G z0), (PySem.W.mg_none_of X G z4), (PySem.W.mg_none_of X G z2), (PySem.W.mg_none_of X G z5), (PySem.W.mg_none_of X G z6), (PySem.W.mg_none_of X G z1), (PySem.W.mg_none_of X G z7)⟩
    simp only [kindsL, List.mem_cons, List.not_mem_nil, or_false] at hp
    rcases hp with rfl | rfl | rfl | rfl | rfl | rfl | rfl | rfl | rfl | rfl | rfl | rfl | rfl | rfl | rfl | rfl
    · exact ⟨q0, E0, tup (xs := ["integer"]) LA0 (by show 1 ≤ sizeLine; decide) (.cons ⟨_, rfl⟩ .nil)⟩
    · exact ⟨q1, E1, tup (xs := ["integer"]) LA1 (by show 1 ≤ sizeLine; decide) (.cons ⟨_, rfl⟩ .nil)⟩
    · exact ⟨q2, E2, tup (xs := ["integer", "integer", "optional"]) LA2 (by show 3 ≤ sizeLine; decide) (.cons ⟨_, rfl⟩ (.cons ⟨_, rfl⟩ (.cons ⟨_, rfl⟩ .nil)))⟩
    · exact ⟨q3, E3, tup (xs := ["integer", "integer"]) LA3 (by show 2 ≤ sizeLine; decide) (.cons ⟨_, rfl⟩ (.cons ⟨_, rfl⟩ .nil))⟩
    · exact ⟨q4, E4, tup (xs := ["integer"]) LA4 (by show 1 ≤ sizeLine; decide) (.cons ⟨_, rfl⟩ .nil)⟩
    · exact ⟨q5, E5, tup (xs := ["integer"]) LA5 (by show 1 ≤ sizeLine; decide) (.cons ⟨_, rfl⟩ .nil)⟩
    · exact ⟨q6, E6, tup (xs := ["integer", "integer", "integer"]) LA6 (by show 3 ≤ sizeLine; decide) (.cons ⟨_, rfl⟩ (.cons ⟨_, rfl⟩ (.cons ⟨_, rfl⟩ .nil)))⟩
    · exact ⟨q7, E7, tup (xs := ["integer", "integer"]) LA7 (by show 2 ≤ sizeLine; decide) (.cons ⟨_, rfl⟩ (.cons ⟨_, rfl⟩ .nil))⟩
    · exact ⟨q8, E8, tup (xs := ["integer", "integer", "optional"]) LA8 (by show 3 ≤ sizeLine; decide) (.cons ⟨_, rfl⟩ (.cons ⟨_, rfl⟩ (.cons ⟨_, rfl⟩ .nil)))⟩
    · exact ⟨q9, E9, tup (xs := ["integer", "integer", "integer", "integer", "word"]) LA9 (by show 5 ≤ sizeLine; decide) (.cons ⟨_, rfl⟩ (.cons ⟨_, rfl⟩ (.cons ⟨_, rfl⟩ (.cons ⟨_, rfl⟩ (.cons ⟨_, rfl⟩ .nil)))))⟩
    · exact ⟨q10, E10, tup (xs := ["integer", "integer", "integer", "word"]) LA10 (by show 4 ≤ sizeLine; decide) (.cons ⟨_, rfl⟩ (.cons ⟨_, rfl⟩ (.cons ⟨_, rfl⟩ (.cons ⟨_, rfl⟩ .nil))))⟩
    · exact ⟨q11, E11, tup (xs := ["integer", "integer", "integer"]) LA11 (by show 3 ≤ sizeLine; decide) (.cons ⟨_, rfl⟩ (.cons ⟨_, rfl⟩ (.cons ⟨_, rfl⟩ .nil)))⟩
    · exact ⟨q12, E12, tup (xs := ["integer", "integer", "integer"]) LA12 (by show 3 ≤ sizeLine; decide) (.cons ⟨_, rfl⟩ (.cons ⟨_, rfl⟩ (.cons ⟨_, rfl⟩ .nil)))⟩
    · exact ⟨q13, E13, tup (xs := ["integer"]) LA13 (by show 1 ≤ sizeLine; decide) (.cons ⟨_, rfl⟩ .nil)⟩
    · exact ⟨q14, E14, tup (xs := ["integer", "integer", "integer", "integer"]) LA14 (by show 4 ≤ sizeLine; decide) (.cons ⟨_, rfl⟩ (.cons ⟨_, rfl⟩ (.cons ⟨_, rfl⟩ (.cons ⟨_, rfl⟩ .nil))))⟩
    · exact ⟨q15, E15, tup (xs := ["integer", "integer"]) LA15 (by show 2 ≤ sizeLine; decide) (.cons ⟨_, rfl⟩ (.cons ⟨_, rfl⟩ .nil))⟩
  refine ⟨PySem.W.fnOf "law" "law" (defArgs sLaw) (defBody sLaw) (defScope sLaw) .none kV17 dc17 pm17 an17 cd17 ct17, fun s u => .of_eq rfl, fun base _ _ => ?_⟩
  have GB := okBag (P := P) (w := w) (base := base) F11 DT
  have GT := okTake (P := P) (w := w) (K := K) (base := base) F12 DT
  have GO := okOf (P := P) (w := w) (base := base) F13 DT F12 m12 b12
  have GN := okNumber (P := P) (w := w) (base := base) F14 GT k12 m12 b12 GO k13 m13 b13
  have GC := okCall (P := P) (w := w) (base := base) F15 (PySem.W.mg_none_of X G z8) GT k12 m12 b12 GO k13 m13 b13 GN k14 m14 b14
  have GX := okText (P := P) (w := w) (base := base) F16 (PySem.W.mg_none_of X G z4)
  have G1 := okShowCall (P := P) (w := w) (base := base) F3 CT F2 m2 b2
  have G2 := okShowCalls (P := P) (w := w) (base := base) F4 G1 k3 m3 b3
  have GA := okIsArg (P := P) (w := w) (base := base) F6 CT F1 m1 b1 F5 m5 b5
  have GR := okReadArg (P := P) (w := w) (base := base) F7 CT
  have GL := okLine (P := P) (w := w) (base := base) F8 CT GA k6 m6 b6 GR k7 m7 b7
  have G3 := okReadCall (P := P) (w := w) (base := base) F9 CT GL k8 m8 b8
  have G4 := okReadCalls (P := P) (w := w) (base := base) F10 CT GL k8 m8 b8
  exact okLaw F17 FR ⟨⟨f11, _, GB, m11, k11, b11, (fun y e => by cases e)⟩⟩ ⟨⟨f12, _, GT, m12, k12, b12, (fun y e => by cases e)⟩⟩ ⟨⟨f15, _, GC, m15, k15, b15, (fun y e => by cases e; exact kb_one F15 (fun _ _ _ _ _ _ u => rfl) (fun _ _ _ _ _ _ u => rfl))⟩⟩ ⟨⟨f16, _, GX, m16, k16, b16, (fun y e => by cases e; exact kb_one F16 (fun _ _ _ _ _ _ u => rfl) (fun _ _ _ _ _ _ u => rfl))⟩⟩ ⟨⟨f3, _, G1, m3, k3, b3, (fun y e => by cases e; exact kb_one F3 (fun _ _ _ _ _ _ u => rfl) (fun _ _ _ _ _ _ u => rfl))⟩⟩ ⟨⟨f4, _, G2, m4, k4, b4, (fun y e => by cases e; exact kb_one F4 (fun _ _ _ _ _ _ u => rfl) (fun _ _ _ _ _ _ u => rfl))⟩⟩ ⟨⟨f9, _, G3, m9, k9, b9, (fun y e => by cases e; exact kb_one F9 (fun _ _ _ _ _ _ u => rfl) (fun _ _ _ _ _ _ u => rfl))⟩⟩ ⟨⟨f10, _, G4, m10, k10, b10, (fun y e => by cases e; exact kb_one F10 (fun _ _ _ _ _ _ u => rfl) (fun _ _ _ _ _ _ u => rfl))⟩⟩
end Wn

open PySem PySem.W PyProof.Rows in
set_option maxRecDepth 100000 in
set_option maxHeartbeats 0 in
theorem PySem.Challenge.cw_waitnumbers_k25_texts_of_calls_holds : PySem.Challenge.rw_waitnumbers_k25_texts_of_calls.Holds := by
  w_on; o_law; k_head; (case hw => w_witness2)
  k_fill
  refine Wn.walkG (l := PySem.Challenge.rw_waitnumbers_k25_texts_of_calls) (n := 63) (k := 5) (x := "_law_script") (sp := Wn.spLaw) rfl (by decide) rfl ⟨rfl, by decide, by decide⟩ (fun w h Y => PySem.W.kIn_of Y) ?F (fun K H a ns hl hS => ⟨a, ns, rfl, hS, hl, fun _ => rfl⟩)
  case F =>
    intro w mg fa h KX G hmg
    refine' Wn.all_mk (w := w) KX G hmg ?a1 ?l1 ?c1 ?k1 ?a2 ?l2 ?c2 ?k2 ?a3 ?l3 ?c3 ?k3 ?a4 ?l4 ?c4 ?k4 ?a5 ?l5 ?c5 ?k5 ?a6 ?l6 ?c6 ?k6 ?a7 ?l7 ?c7 ?k7 ?a8 ?l8 ?c8 ?k8 ?a9 ?l9 ?c9 ?k9 ?a10 ?l10 ?c10 ?k10 ?a11 ?l11 ?c11 ?k11 ?a12 ?l12 ?c12 ?k12 ?a13 ?l13 ?c13 ?k13 ?a14 ?l14 ?c14 ?k14 ?a15 ?l15 ?c15 ?k15 ?a16 ?l16 ?c16 ?k16 ?a17 ?l17 ?c17 ?k17 ?z0 ?z1 ?z2 ?z3 ?z4 ?z5 ?z6 ?z7 ?z8 ?z9 ?z10 ?z11 ?z12 ?wA ?gA ?gL ?gK ?gS ?gD ?g9 ?LW ?E0 ?LA0 ?E1 ?LA1 ?E2 ?LA2 ?E3 ?LA3 ?E4 ?LA4 ?E5 ?LA5 ?E6 ?LA6 ?E7 ?LA7 ?E8 ?LA8 ?E9 ?LA9 ?E10 ?LA10 ?E11 ?LA11 ?E12 ?LA12 ?E13 ?LA13 ?E14 ?LA14 ?E15 ?LA15
    (case a1 => k_is)
    (case l1 => k_is)
    (case c1 => k_is)
    (case k1 => k_is)
    (case a2 => k_is)
    (case l2 => k_is)
    (case c2 => k_is)
    (case k2 => k_is)
    (case a3 => k_is)
    (case l3 => k_is)
    (case c3 => k_is)
    (case k3 => k_is)
    (case a4 => k_is)
    (case l4 => k_is)
    (case c4 => k_is)
    (case k4 => k_is)
    (case a5 => k_is)
    (case l5 => k_is)
    (case c5 => k_is)
    (case k5 => k_is)
    (case a6 => k_is)
    (case l6 => k_is)
    (case c6 => k_is)
    (case k6 => k_is)
    (case a7 => k_is)
    (case l7 => k_is)
    (case c7 => k_is)
    (case k7 => k_is)
    (case a8 => k_is)
    (case l8 => k_is)
    (case c8 => k_is)
    (case k8 => k_is)
    (case a9 => k_is)
    (case l9 => k_is)
    (case c9 => k_is)
    (case k9 => k_is)
    (case a10 => k_is)
    (case l10 => k_is)
    (case c10 => k_is)
    (case k10 => k_is)
    (case a11 => k_is)
    (case l11 => k_is)
    (case c11 => k_is)
    (case k11 => k_is)
    (case a12 => k_is)
    (case l12 => k_is)
    (case c12 => k_is)
    (case k12 => k_is)
    (case a13 => k_is)
    (case l13 => k_is)
    (case c13 => k_is)
    (case k13 => k_is)
    (case a14 => k_is)
    (case l14 => k_is)
    (case c14 => k_is)
    (case k14 => k_is)
    (case a15 => k_is)
    (case l15 => k_is)
    (case c15 => k_is)
    (case k15 => k_is)
    (case a16 => k_is)
    (case l16 => k_is)
    (case c16 => k_is)
    (case k16 => k_is)
    (case a17 => k_is)
    (case l17 => k_is)
    (case c17 => k_is)
    (case k17 => k_is)
    (case z0 => k_is)
    (case z1 => k_is)
    (case z2 => k_is)
    (case z3 => k_is)
    (case z4 => k_is)
    (case z5 => k_is)
    (case z6 => k_is)
    (case z7 => k_is)
    (case z8 => k_is)
    (case z9 => k_is)
    (case z10 => k_is)
    (case z11 => k_is)
    (case z12 => k_is)
    (case wA => k_is)
    (case gA => k_is)
    (case gL => k_is)
    (case gK => simp only [PySem.W.KeysLit]; repeat' (first | exact trivial | refine ⟨⟨_, _, rfl, rfl⟩, ?_⟩))
    (case gS => exact rfl)
    (case gD => k_is)
    (case g9 => k_is)
    (case LW => k_is)
    (case E0 => k_is)
    (case LA0 => k_is)
    (case E1 => k_is)
    (case LA1 => k_is)
    (case E2 => k_is)
    (case LA2 => k_is)
    (case E3 => k_is)
    (case LA3 => k_is)
    (case E4 => k_is)
    (case LA4 => k_is)
    (case E5 => k_is)
    (case LA5 => k_is)
    (case E6 => k_is)
    (case LA6 => k_is)
    (case E7 => k_is)
    (case LA7 => k_is)
    (case E8 => k_is)
    (case LA8 => k_is)
    (case E9 => k_is)
    (case LA9 => k_is)
    (case E10 => k_is)
    (case LA10 => k_is)
    (case E11 => k_is)
    (case LA11 => k_is)
    (case E12 => k_is)
    (case LA12 => k_is)
    (case E13 => k_is)
    (case LA13 => k_is)
    (case E14 => k_is)
    (case LA14 => k_is)
    (case E15 => k_is)
    (case LA15 => k_is)

import PyProof.Rows.All
import Wide.All
import OpenK.AllK
import Wide.FinOn
import HandS.ForMost
import HandS.Wide
import HandS.Evl
import HandS.Walk
import HandS.NoneIn
import HandS.FStrTup
import HandS.RaiseMore
import PyProof.ReprLen
import PyProof.FitsInt
import HandS.IsInst
import KE.KUnpackStar
import KE.GoesMore
import KE.GoesEnum
import KE.GoesNew
import HandS.Star
import HandS.More
import HandS.StrMore
import HandS.ExcInit
import HandS.ExcIs
import HandS.Lambda
import KE.KIntText
import PyProof.Rows.StrAscii
import PyProof.Rows.StrJoinMade
import HandS.Defaults
import HandS.Conv
import HandS.FStr
import HandS.ExcField
import HandS.WordsExc
import KE.KExcIs
import PyProof.P3Eq
import HandS.Dict
import PySem.Challenge.RW_waitnumbers_k26_texts_refused
set_option Elab.async false
set_option linter.all false
set_option maxRecDepth 100000
set_option maxHeartbeats 4000000
namespace Wn
open PySem PySem.Spec PyProof.Rows L2 Evl
def top (i : Nat) : Stmt := PySem.Challenge.pw_waitnumbers_k26_texts_refused.main.body.getD i (.Pass ⟨0, 0, 0, 0⟩)
abbrev sBag : Stmt := top 16
abbrev sTake : Stmt := top 17
abbrev sOf : Stmt := top 18
/-! readings with names -/
def rInt1 : List V → Hp → VK → Prop := fun xs H Q => (∃ i, xs = [.int i] ∧ Q (.int i) H) ∨ ∃ k, xs = [.bl k] ∧ Q (.int (if k = true then 1 else 0)) H
def rAbs : List V → Hp → VK → Prop := fun xs H Q => ∃ i, xs = [.int i] ∧ Q (.int (if i < 0 then -i else i)) H
theorem cInt1 {X : Cx} : CallR X (.type "int") rInt1 := call_int1
theorem cAbs {X : Cx} : CallR X (.builtin "abs") rAbs := call_abs
def rIsN : R2 := fun x y H Q => y = .non ∧ Q (.bl (decide (x = .non))) H
def rNotN : R2 := fun x y H Q => y = .non ∧ Q (.bl (!decide (x = .non))) H
def rAddS : R2 := fun x y H Q => ∃ i j, x = .str i ∧ y = .str j ∧ i.length + j.length ≤ sizeLine ∧ Q (.str (i ++ j)) H
def rLenQ (K : PySem.W.Frag) : List V → Hp → VK → Prop := fun xs H Q => ∃ p ys, xs = [.ref p] ∧ (SqL K H p ys ∨ SqT K H p ys) ∧ Q (.int ys.length) H
def rLenS : List V → Hp → VK → Prop := fun xs H Q => ∃ z, xs = [.str z] ∧ z.length ≤ sizeLine ∧ Q (.int z.length) H
def rMax2 : List V → Hp → VK → Prop := fun xs H Q => ∃ i j, xs = [.int i, .int j] ∧ Q (.int (if j > i then j else i)) H
def rMin2 : List V → Hp → VK → Prop := fun xs H Q => ∃ i j, xs = [.int i, .int j] ∧ Q (.int (if j < i then j else i)) H
theorem oIsN {X : Cx} : OpR X (compareOp .Is) rIsN := op_isN
theorem oNotN {X : Cx} : OpR X (compareOp .IsNot) rNotN := op_notN
theorem oAddS {X : Cx} : OpR X (binaryOp .Add) rAddS := op_add_str
theorem cLenQ {X : Cx} : CallR X (.builtin "len") (rLenQ X.K) := call_len_seq
theorem cLenS {X : Cx} : CallR X (.builtin "len") rLenS := call_len_str
theorem cMax2 {X : Cx} (hc : X.calm = true) : CallR X (.builtin "max") rMax2 := call_max2 hc
theorem cMin2 {X : Cx} (hc : X.calm = true) : CallR X (.builtin "min") rMin2 := call_min2 hc
/-! one step of a reading -/
section
variable {σ : L2.St} {H : Hp} {Q : VK} {ta tb te : TE} {tl : TA} {t u : TS} {D : Ends} {c : TT} {r : R2} {v : V} {i : Nat}
theorem g_var (h : σ[i]? = some (some v)) (q : Q v H) : tVar i σ H Q := ⟨v, h, q⟩
theorem g_c (q : Q v H) : tC v σ H Q := q
theorem g_op (q : ta σ H fun x H1 => tb σ H1 fun y H2 => r x y H2 Q) : tOp r ta tb σ H Q := q
theorem g_un {r : V → Hp → VK → Prop} (q : ta σ H fun x H1 => r x H1 Q) : tUn r ta σ H Q := q
theorem g_rI0 {g : Int → Int → V} {a b : Int} (q : Q (g a b) H) : rI0 g (.int a) (.int b) H Q := ⟨a, b, rfl, rfl, q⟩
theorem g_rI {C : Int → Int → Prop} {g : Int → Int → V} {a b : Int} (hc : C a b) (q : Q (g a b) H) : rI C g (.int a) (.int b) H Q := ⟨a, b, rfl, rfl, hc, q⟩
theorem g_mul {a b : Int} (h : (-(2 ^ 64) < a ∧ a < 2 ^ 64) ∨ (-(2 ^ 64) < b ∧ b < 2 ^ 64)) (q : Q (.int (a * b)) H) : rI CMul (fun i j => .int (i * j)) (.int a) (.int b) H Q := ⟨a, b, rfl, rfl, h, q⟩
theorem g_mod {a b : Int} (h : 0 < b) (q : Q (.int (a % b)) H) : rI (fun _ j => 0 < j) (fun i j => .int (i % j)) (.int a) (.int b) H Q := ⟨a, b, rfl, rfl, h, q⟩
theorem g_rEq {x y : V} (h : scal x y = true) (q : Q (.bl (decide (x = y))) H) : rEq x y H Q := ⟨h, q⟩
theorem g_rNe {x y : V} (h : scal x y = true) (q : Q (.bl (!decide (x = y))) H) : rNe x y H Q := ⟨h, q⟩
theorem g_asg {g : TG} (q : te σ H fun x H1 => g x σ H1 D.nx) : tAsg te g D σ H := q
theorem g_name {k : L2.St → Hp → Prop} (q : k (σ.set i (some v)) H) : gName i v σ H k := q
theorem g_seq (q : t { D with nx := u D } σ H) : tSeq t u D σ H := q
theorem g_ret (q : te σ H D.rt) : tRet te D σ H := q
theorem g_retN (q : D.rt .non H) : tRetN D σ H := q
theorem g_next (q : D.nx σ H) : tNext D σ H := q
theorem g_drop (q : te σ H fun _ H1 => D.nx σ H1) : tDrop te D σ H := q
theorem g_nil {k : List V → Hp → Prop} (q : k [] H) : tNil σ H k := q
theorem g_cons {k : List V → Hp → Prop} (q : ta σ H fun x H1 => tl σ H1 fun xs H2 => k (x :: xs) H2) : tCons ta tl σ H k := q
theorem g_cb {r : List V → Hp → VK → Prop} (q : tl σ H fun vs H1 => r vs H1 Q) : tCB r tl σ H Q := q
theorem g_test {k : Bool → Hp → Prop} (q : te σ H fun x H1 => ∃ b, x = .bl b ∧ k b H1) : tTest te σ H k := q
theorem g_tB {k : Bool → Hp → Prop} (q : te σ H fun x H1 => ∃ b, x = .bl b ∧ k b H1) : tB te σ H k := q
theorem g_bl {b : Bool} {k : Bool → Prop} (q : k b) : ∃ z, V.bl b = .bl z ∧ k z := ⟨b, rfl, q⟩
theorem g_if (q : c σ H fun b H1 => if b = true then ta σ H1 Q else tb σ H1 Q) : tIf c ta tb σ H Q := q
theorem g_ifs (q : c σ H fun b H1 => if b = true then t D σ H1 else u D σ H1) : tIfS c t u D σ H := q
theorem g_not {k : Bool → Hp → Prop} (q : c σ H fun b H1 => k (!b) H1) : tNot c σ H k := q
theorem g_part {k : Option Int → Hp → Prop} (q : te σ H fun x H1 => ∃ z, x = .int z ∧ k (some z) H1) : tPart te σ H k := q
theorem g_pint {z : Int} {k : Int → Prop} (q : k z) : ∃ y, V.int z = .int y ∧ k y := ⟨z, rfl, q⟩
theorem g_lst (q : tl σ H fun xs H1 => xs.length ≤ sizeLine ∧ ∀ p, H1 p = none → Q (.ref p) (upd H1 p (.lst xs))) : tLst tl σ H Q := q
theorem g_tup (q : tl σ H fun xs H1 => xs.length ≤ sizeLine ∧ ∀ p, H1 p = none → Q (.ref p) (upd H1 p (.tup xs))) : tTup tl σ H Q := q
theorem g_ixL {K : PySem.W.Frag} {p : Addr} {xs : List V} {z : Int} (h : H p = some (.lst xs)) (a : atI xs z = some v) (q : Q v H) : rIxL K (.ref p) (.int z) H Q := ⟨p, xs, z, v, rfl, rfl, SqL.of h, a, q⟩
theorem cdivw_of {a b : Int} (h0 : 0 < b) (h1 : b < 4611686018427387904) : CDivW a b := wide_div (b := 62) h0 (by omega) (by decide) (by decide)
theorem g_div {a b : Int} (h0 : 0 < b) (h1 : b < 4611686018427387904) (q : Q (.int (a / b)) H) : rI CDivW (fun i j => .int (i / j)) (.int a) (.int b) H Q := ⟨a, b, rfl, rfl, cdivw_of h0 h1, q⟩
theorem g_sub {to ti : TE} {ts : TSet} {k : L2.St → Hp → Prop} (q : to σ H fun o H1 => ti σ H1 fun i H2 => ts o i v H2 fun H3 => k σ H3) : gSub to ti ts v σ H k := q
theorem g_setL {p : Addr} {xs : List V} {z : Int} {j : Nat} {k : Hp → Prop} (h : H p = some (.lst xs)) (a : ixN xs.length z = some j) (q : k (upd H p (.lst (xs.set j v)))) : rSetL (.ref p) (.int z) v H k := ⟨p, xs, z, j, rfl, rfl, h, a, q⟩
theorem g_nopart {k : Option Int → Hp → Prop} (q : k none H) : tNoPart σ H k := q
theorem g_call {sp : Sp} {dvs : List V} {E : XK} (q : tl σ H fun vs H1 => sp (vs ++ dvs) H1 Q E) : tCall sp dvs E tl σ H Q := q
theorem g_rint (z : Int) (q : Q (.int z) H) : rInt1 [.int z] H Q := .inl ⟨z, rfl, q⟩
theorem g_rabs {z : Int} (q : Q (.int (if z < 0 then -z else z)) H) : rAbs [.int z] H Q := ⟨z, rfl, q⟩
theorem g_sl {r : V → Option Int → Option Int → Hp → VK → Prop} {a b : TO} (q : te σ H fun x H1 => a σ H1 fun l H2 => b σ H2 fun h H3 => r x l h H3 Q) : tSl r te a b σ H Q := q
theorem g_rIsN {x : V} (q : Q (.bl (decide (x = .non))) H) : rIsN x .non H Q := ⟨rfl, q⟩
theorem g_rNotN {x : V} (q : Q (.bl (!decide (x = .non))) H) : rNotN x .non H Q := ⟨rfl, q⟩
theorem g_lenL {K : PySem.W.Frag} {p : Addr} {xs : List V} (h : H p = some (.lst xs)) (q : Q (.int xs.length) H) : rLenQ K [.ref p] H Q := ⟨p, xs, rfl, .inl (SqL.of h), q⟩
theorem g_max2 {a b : Int} (q : Q (.int (if b > a then b else a)) H) : rMax2 [.int a, .int b] H Q := ⟨a, b, rfl, q⟩
theorem g_min2 {a b : Int} (q : Q (.int (if b < a then b else a)) H) : rMin2 [.int a, .int b] H Q := ⟨a, b, rfl, q⟩
theorem g_and {t u : TT} {k : Bool → Hp → Prop} (q : t σ H fun b H1 => if b = true then u σ H1 k else k false H1) : tAnd t u σ H k := q
theorem g_or {t u : TT} {k : Bool → Hp → Prop} (q : t σ H fun b H1 => if b = true then k true H1 else u σ H1 k) : tOr t u σ H k := q
theorem g_orV (q : ta σ H fun x H1 => ∃ b, x = .bl b ∧ if b = true then Q (.bl true) H1 else tb σ H1 Q) : tOrV ta tb σ H Q := q
theorem g_andV (q : ta σ H fun x H1 => ∃ b, x = .bl b ∧ if b = true then tb σ H1 Q else Q (.bl false) H1) : tAndV ta tb σ H Q := q
theorem g_notV (q : ta σ H fun x H1 => ∃ b, x = .bl b ∧ Q (.bl (!b)) H1) : tNotV ta σ H Q := q
theorem g_m0 {r : V → List V → Hp → VK → Prop} (q : ta σ H fun x H1 => (∃ a, x = .str a) ∧ r x [] H1 Q) : tM0 r ta σ H Q := q
theorem g_m1 {r : V → List V → Hp → VK → Prop} (q : ta σ H fun x H1 => (∃ a, x = .str a) ∧ tb σ H1 fun y H2 => r x [y] H2 Q) : tM1 r ta tb σ H Q := q
theorem g_isS {z : Str} {c : Prop} (q : c) : (∃ a, V.str z = .str a) ∧ c := ⟨⟨z, rfl⟩, q⟩
theorem g_bT {A B : Prop} (q : A) : if true = true then A else B := iteT q
theorem g_bF {A B : Prop} (q : B) : if false = true then A else B := iteF q
theorem g_bNT {A B : Prop} (q : B) : if (!true) = true then A else B := iteF q
theorem g_bNF {A B : Prop} (q : A) : if (!false) = true then A else B := iteT q
theorem g_bm {K : PySem.W.Frag} {T : String} {r : V → List V → Hp → VK → Prop} (q : ta σ H fun x H1 => tyV K T x H1 ∧ tl σ H1 fun xs H2 => r x xs H2 Q) : tBM K T r ta tl σ H Q := q
theorem g_bm0 {K : PySem.W.Frag} {T : String} {r : V → List V → Hp → VK → Prop} (q : ta σ H fun x H1 => tyV K T x H1 ∧ r x [] H1 Q) : tBM0 K T r ta σ H Q := q
theorem g_tyL {K : PySem.W.Frag} {p : Addr} {xs : List V} {c : Prop} (h : H p = some (.lst xs)) (q : c) : tyV K "list" (.ref p) H ∧ c := ⟨.inl ⟨rfl, _, SqL.of h⟩, q⟩
theorem g_lit {L : List V} {n : Nat} (h : L.length ≤ n) (z : n ≤ 100) : L.length ≤ 100 := Nat.le_trans h z
theorem g_yes {k : Bool → Hp → Prop} (q : k true H) : tYes σ H k := q
theorem g_nes {x : V} {A B : Prop} (q : B) : if (!decide (x = x)) = true then A else B := by
  rw [decide_eq_true rfl]
  exact iteF q
theorem g_es {x : V} {A B : Prop} (q : A) : if decide (x = x) = true then A else B := by
  rw [decide_eq_true rfl]
  exact iteT q
theorem g_callK {sp : Sp} {gV : List V → List V → List V} {E : XK} {tk : TA} (q : tl σ H fun vs H1 => tk σ H1 fun zs H2 => sp (gV vs zs) H2 Q E) : tCallK sp gV E tl tk σ H Q := q
theorem g_isN {x : V} (q : ta σ H fun x H1 => Q (.bl (decide (x = .non))) H1) : tIsN ta σ H Q := q
end
local macro_rules | `(tactic| walk_at "wn1") => `(tactic| first | ((with_reducible show (if (!decide _) = true then _ else _)); refine' g_nes ?_) | ((with_reducible show (if (decide _) = true then _ else _)); refine' g_es ?_) | with_reducible first
  | (refine' g_var ?h ?q; (case h => with_unfolding_all rfl))
  | refine' g_c ?_ | refine' g_op ?_ | refine' g_rI0 ?_ | refine' g_asg ?_ | refine' g_name ?_ | refine' g_seq ?_ | refine' g_ret ?_ | refine' g_retN ?_ | refine' g_next ?_ | refine' g_drop ?_
  | refine' g_nil ?_ | refine' g_cons ?_ | refine' g_cb ?_ | refine' g_test ?_ | refine' g_bl ?_ | refine' g_if ?_ | refine' g_ifs ?_ | refine' g_not ?_ | refine' g_part ?_ | refine' g_pint ?_ | refine' g_nopart ?_ | refine' g_call ?_
  | (refine' g_mul ?h ?q; (case h => with_unfolding_all first | exact Or.inl ⟨by decide, by decide⟩ | exact Or.inr ⟨by decide, by decide⟩ | exact Or.inl ⟨by omega, by omega⟩ | exact Or.inr ⟨by omega, by omega⟩))
  | (refine' g_mod ?h ?q; (case h => with_unfolding_all first | decide | omega))
  | refine' g_rIsN ?_ | refine' g_rNotN ?_ | refine' g_max2 ?_ | refine' g_min2 ?_ | refine' g_and ?_ | refine' g_or ?_ | refine' g_orV ?_ | refine' g_andV ?_ | refine' g_notV ?_ | refine' g_m1 ?_ | refine' g_yes ?_ | refine' g_bm ?_ | refine' g_bm0 ?_
  | (refine' g_tyL ?h ?q; (case h => first | assumption | exact upd_same))
  | refine' g_m0 ?_ | refine' g_tB ?_ | refine' g_isS ?_ | refine' g_bT ?_ | refine' g_bF ?_ | refine' g_bNT ?_ | refine' g_callK ?_ | refine' g_bNF ?_
  | (refine' g_lenL ?h ?q; (case h => first | assumption | exact upd_same))
  | refine' g_un ?_ | refine' g_rint _ ?_ | refine' g_rabs ?_ | refine' g_sl ?_ 
  | (refine' g_ixL ?h ?a ?q; (case h => first | assumption | exact upd_same); (case a => with_unfolding_all rfl))
  | (refine' g_div ?h0 ?h1 ?q; (case h0 => with_unfolding_all first | decide | omega); (case h1 => with_unfolding_all first | decide | omega))
  | refine' g_sub ?_
  | (refine' g_setL ?h ?a ?q; (case h => first | assumption | exact upd_same); (case a => with_unfolding_all rfl))
  | refine' g_lst ?_ | refine' g_tup ?_
  | (refine' g_rEq ?h ?q; (case h => with_unfolding_all rfl)) | (refine' g_rNe ?h ?q; (case h => with_unfolding_all rfl)))
local macro_rules | `(tactic| walk_at "wn") => `(tactic| repeat walk_at "wn1")

/-! the bag of draws: two numbers that are not negative, the second one below 2 ^ 31 -/
def BagAt (H : Hp) (p : Addr) : Prop := ∃ a b : Int, H p = some (.lst [.int a, .int b]) ∧ 0 ≤ a ∧ 0 ≤ b ∧ b < 2147483648
def Dr (p : Addr) (H H' : Hp) : Prop := (∀ a o, a ≠ p → H a = some o → H' a = some o) ∧ BagAt H' p
theorem Dr.refl {p : Addr} {H : Hp} (b : BagAt H p) : Dr p H H := ⟨fun _ _ _ h => h, b⟩
theorem Dr.trans {p : Addr} {H H1 H2 : Hp} (a : Dr p H H1) (b : Dr p H1 H2) : Dr p H H2 := ⟨fun x o n h => b.1 x o n (a.1 x o n h), b.2⟩
theorem Dr.ex {p : Addr} {H H1 : Hp} (b : BagAt H p) (e : Ex H H1) : Dr p H H1 := ⟨fun x o _ h => e x o h, by
  obtain ⟨u, v, h, r⟩ := b
  exact ⟨u, v, e _ _ h, r⟩⟩
theorem seq_at {K : PySem.W.Frag} {H H' : Hp} {l : Addr} {xs : List V} (e : H' l = H l) (h : SqL K H l xs) : SqL K H' l xs := by
  rcases h with (h | ⟨o, h⟩) | h
  · exact .inl (.inl (e.trans h))
  · exact .inl (.inr ⟨o, e.trans h⟩)
  · exact .inr h
theorem seqT_at {K : PySem.W.Frag} {H H' : Hp} {l : Addr} {xs : List V} (e : H' l = H l) (h : SqT K H l xs) : SqT K H' l xs := by
  rcases h with (h | ⟨o, h⟩) | h
  · exact .inl (.inl (e.trans h))
  · exact .inl (.inr ⟨o, e.trans h⟩)
  · exact .inr h
structure DrawTxt (mg : Str → Option Value) : Prop where
  len : mg "len" = none
  enum : mg "enumerate" = none
  int : mg "int" = none
  abs : mg "abs" = none
def spBag (K : PySem.W.Frag) : Sp := fun vs H Q _ => ∃ (a : Addr) (ns : List Int) (i : Nat), vs = [.ref a, .int i] ∧ SqL K H a (ns.map V.int) ∧ ns.length ≤ 63 ∧ i ≤ 100 ∧
  ∀ (H' : Hp) (p : Addr), H p = none → Same H H' → BagAt H' p → Q (.ref p) H'
def spTake : Sp := fun vs H Q _ => ∃ (p : Addr) (m : Int), vs = [.ref p, .int m] ∧ BagAt H p ∧ 0 < m ∧ m < 4611686018427387904 ∧
  ∀ (k : Int) (H' : Hp), 0 ≤ k → k < m → (∀ b, b ≠ p → H' b = H b) → BagAt H' p → Q (.int k) H'
def spOf (K : PySem.W.Frag) : Sp := fun vs H Q _ => ∃ (p l : Addr) (xs : List V), vs = [.ref p, .ref l] ∧ BagAt H p ∧ SqL K H l xs ∧ l ≠ p ∧ 0 < xs.length ∧ xs.length ≤ 1000 ∧
  ∀ (k : Nat) (v : V) (H' : Hp), xs[k]? = some v → (∀ b, b ≠ p → H' b = H b) → BagAt H' p → Q v H'
section
variable {P : Program} {w : World} {K : PySem.W.Frag} {mg : Str → Option Value} {base : Heap}
theorem scBag : FnScope ["_law_script", "_law_at", "_law_cell", "_law_blend", "_law_k", "_law_each"] ["_law_script", "_law_at"] (defScope sBag) := ⟨rfl, rfl, rfl, by decide +kernel, rfl, by decide +kernel, by decide +kernel⟩
theorem okBag {f : Addr} {fd : FuncData} (F : Fun K "_law_bag" "_law_bag" sBag f fd) (T : DrawTxt mg) : FnOk P w K mg base CX0 1 f fd ["_law_script", "_law_at"] (spBag K) := by
  refine F.ok scBag (fun vs H Q E h => ?_) (fun cdv A outer s H vs Q E hr h => ?_)
  · obtain ⟨a, ns, i, rfl, _⟩ := h
    rfl
  · obtain ⟨a, ns, i, rfl, hS, hl, hi, k⟩ := h
    refine ⟨_, pss_cut (ps_set (i := 2) scBag.nd rfl (Or.inl rfl) (pe_ifExp (pt_cmpR op_lt (pv 1) (pe_callB cLenQ (by rfl) T.len PySem.boot_len (pa_cons (pv 0) pa_nil)) (nomark _)) (pe_ix ix_list (pv 0) (pv 1) (fun _ _ => rfl)) pe_int))
      (pss_cons (ps_set (i := 3) scBag.nd rfl (Or.inl rfl) (pe_op op_add (pe_op op_mul pe_int (pv 1)) pe_int))
      (pss_cut (ps_for PassesOwn.never rfl (pi_enum (by rfl) T.enum (pa_cons (pe_slice sl_list (pv 0) po_none (po_some pe_int)) pa_nil)) (pg_tup rfl (pgs_cons (pg_name (i := 4) scBag.nd rfl (Or.inl rfl)) (pgs_cons (pg_name (i := 5) scBag.nd rfl (Or.inl rfl)) pgs_nil)))
        (pss_one (ps_set (i := 3) scBag.nd rfl (Or.inl rfl) (pe_op op_mod (pe_callTy cInt1 (by rfl) T.int PyProof.Rows.boot_int (pa_cons (pe_op op_add (pe_op op_add (pe_op op_add (pe_op op_mul (pv 3) pe_int) (pe_op op_mod (pe_callTy cInt1 (by rfl) T.int PyProof.Rows.boot_int (pa_cons (pv 5) pa_nil)) pe_int)) (pe_op op_mul pe_int (pv 4))) pe_int) pa_nil)) pe_int))))
      (pss_one (ps_ret (pe_lst (pa_cons (pe_ifExp (pt_cmpR op_ge (pe_callB cAbs (by rfl) T.abs (by decide +kernel) (pa_cons (pv 2) pa_nil)) (pe_op op_pow pe_int pe_int) (nomark _)) (pe_callB cAbs (by rfl) T.abs (by decide +kernel) (pa_cons (pv 2) pa_nil)) pe_int) (pa_cons (pv 3) pa_nil))))))), ?_⟩
    refine ⟨fun σ' H' => ∃ c : Int, σ' = [some (.ref a), some (.int i), some (.int c), none, none, none] ∧ H' = H, ?_, ?_⟩
    · walk_at "wn"
      refine ⟨a, _, rfl, .inl hS, ?_⟩
      walk_at "wn"
      refine ite2 (fun hc => ?_) (fun hc => ?_)
      · have hlt : i < (ns.map V.int).length := by have := of_decide_eq_true hc; omega
        rw [List.length_map] at hlt
        walk_at "wn"
        refine ⟨a, _, _, _, rfl, rfl, hS, atI_nat (v := V.int (ns[i])) (by rw [List.getElem?_map, List.getElem?_eq_getElem hlt]; rfl), ?_⟩
        exact ⟨_, rfl, rfl⟩
      · exact ⟨0, rfl, rfl⟩
    · rintro σ' H' ⟨c, rfl, rfl⟩
      walk_at "wn"
      refine ⟨fun σ' H2 => ∃ (b : Int) (u v : Option V), 0 ≤ b ∧ b < 2147483648 ∧ σ' = [some (.ref a), some (.int i), some (.int c), some (.int b), u, v] ∧ Same H' H2, ?_, ?_⟩
      · show tSl _ _ _ _ _ _ _
        walk_at "wn"
        refine ⟨a, _, rfl, hS, fun p hp => ?_⟩
        walk_at "wn"
        refine ⟨p, _, rfl, SqL.of upd_same, ?_⟩
        refine for_it (walk_enum (xs := cutV (ns.map V.int) none (some 40))) (fun j σ' H3 => ∃ (b : Int) (u v : Option V), 0 ≤ b ∧ b < 2147483648 ∧ σ' = [some (.ref a), some (.int i), some (.int c), some (.int b), u, v] ∧ Same (upd H' p (.lst (cutV (ns.map V.int) none (some 40)))) H3) ?_ ?_ ?_ ?_
        · exact ⟨_, none, none, by omega, by omega, rfl, Same.refl _⟩
        · rintro j σ' H3 hj ⟨b, u, v, b0, b1, rfl, sm⟩
          exact sm.seq (SqL.of upd_same)
        · rintro j x σ' H3 H4 hj ⟨b, u, v, b0, b1, rfl, sm⟩ ⟨T1, x1, y1, rfl, nT, rfl, hx, hy⟩
          obtain rfl := Option.some.inj hx
          obtain ⟨z, rfl⟩ : ∃ z, y1 = V.int z := by
            have q : y1 ∈ ns.map V.int := List.mem_of_mem_drop (List.mem_of_mem_take (List.mem_of_getElem? hy))
            obtain ⟨z, _, e⟩ := List.mem_map.mp q
            exact ⟨z, e.symm⟩
          refine ⟨T1, _, rfl, SqT.of upd_same, rfl, _, _, rfl, ?_⟩
          walk_at "wn"
          refine ⟨_, _, rfl, ?_⟩
          walk_at "wn"
          refine ⟨rfl, ?_⟩
          walk_at "wn"
          refine ⟨_, _, _, by omega, by omega, rfl, fun x o hx => ?_⟩
          rw [upd_ne (ne_of_none (sm _ _ hx) nT)]
          exact sm _ _ hx
        · rintro σ' H3 ⟨b, u, v, b0, b1, rfl, sm⟩
          exact ⟨b, u, v, b0, b1, rfl, fun x o hx => sm _ _ (by rw [upd_ne (ne_of_none hx hp)]; exact hx)⟩
      · rintro σ' H2 ⟨b, u, v, b0, b1, rfl, sm⟩
        walk_at "wn"
        refine g_rI ⟨by decide, by decide, by decide⟩ ?_
        walk_at "wn"
        have fin : ∀ z : Int, 0 ≤ z → ([V.int z, V.int b].length ≤ sizeLine ∧ ∀ p, H2 p = none → Q (V.ref p) (upd H2 p (HO.lst [V.int z, V.int b]))) := fun z hz => ⟨by show 2 ≤ sizeLine; decide, fun p hp => k _ p (sm.free hp) (fun x o hx => by
          rw [upd_ne (ne_of_none (sm _ _ hx) hp)]
          exact sm _ _ hx) ⟨z, b, upd_same, hz, b0, b1⟩⟩
        refine ite2 (fun hc => ?_) (fun hc => ?_)
        · walk_at "wn"
          exact fin _ (by split <;> omega)
        · walk_at "wn"
          exact fin 0 (by decide)
theorem scTake : FnScope ["_law_bag_here", "_law_many", "_law_digit"] ["_law_bag_here", "_law_many"] (defScope sTake) := ⟨rfl, rfl, rfl, by decide +kernel, rfl, by decide +kernel, by decide +kernel⟩
theorem okTake {f : Addr} {fd : FuncData} (F : Fun K "_law_take" "_law_take" sTake f fd) (T : DrawTxt mg) : FnOk P w K mg base CX0 1 f fd ["_law_bag_here", "_law_many"] spTake := by
  refine F.ok scTake (fun vs H Q E h => ?_) (fun cdv A outer s H vs Q E hr h => ?_)
  · obtain ⟨a, m, rfl, _⟩ := h
    rfl
  · obtain ⟨p, m, rfl, ⟨a, b, hp, a0, b0, b1⟩, m0, m1, k⟩ := h
    refine ⟨_, pss_cons (ps_if (pt_cmpR op_gt (pe_ix ix_list (pv 0) pe_int (fun _ _ => rfl)) pe_int (nomark _))
        (pss_cons (ps_set (i := 2) scTake.nd rfl (Or.inl rfl) (pe_op op_mod (pe_callTy cInt1 (by rfl) T.int PyProof.Rows.boot_int (pa_cons (pe_ix ix_list (pv 0) pe_int (fun _ _ => rfl)) pa_nil)) (pv 1)))
        (pss_cons (ps_asg (pe_op op_fdivW (pe_ix ix_list (pv 0) pe_int (fun _ _ => rfl)) (pv 1)) (pg_sub (pv 0) pe_int set_list))
        (pss_one (ps_ret (pv 2))))) pss_nil)
      (pss_cons (ps_asg (pe_op op_mod (pe_callTy cInt1 (by rfl) T.int PyProof.Rows.boot_int (pa_cons (pe_op op_add (pe_op op_mul (pe_ix ix_list (pv 0) pe_int (fun _ _ => rfl)) pe_int) pe_int) pa_nil)) pe_int) (pg_sub (pv 0) pe_int set_list))
      (pss_one (ps_ret (pe_op op_mod (pe_op op_fdivW (pe_op op_mod (pe_callTy cInt1 (by rfl) T.int PyProof.Rows.boot_int (pa_cons (pe_op op_mul (pe_op op_fdivW (pe_ix ix_list (pv 0) pe_int (fun _ _ => rfl)) pe_int) pe_int) pa_nil)) pe_int) pe_int) (pv 1))))), ?_⟩
    walk_at "wn"
    refine ite2 (fun hc => ?_) (fun hc => ?_)
    · walk_at "wn"
      refine k _ _ (Int.emod_nonneg _ (by omega)) (Int.emod_lt_of_pos _ m0) (fun x hx => upd_ne hx) ⟨_, _, upd_same, Int.ediv_nonneg a0 (by omega), b0, b1⟩
    · walk_at "wn"
      refine k _ _ (Int.emod_nonneg _ (by omega)) (Int.emod_lt_of_pos _ m0) (fun x hx => upd_ne hx) ⟨_, _, upd_same, a0, by omega, by omega⟩
theorem scOf : FnScope ["_law_bag_here", "_law_some"] ["_law_bag_here", "_law_some"] (defScope sOf) := ⟨rfl, rfl, rfl, by decide +kernel, rfl, by decide +kernel, by decide +kernel⟩
theorem okOf {f fT : Addr} {fd fdT : FuncData} (F : Fun K "_law_of" "_law_of" sOf f fd) (T : DrawTxt mg) (FT : Fun K "_law_take" "_law_take" sTake fT fdT) (gT : mg "_law_take" = some (.ref fT)) (bT : Binds K fdT ["_law_bag_here", "_law_many"] []) : FnOk P w K mg base CX0 2 f fd ["_law_bag_here", "_law_some"] (spOf K) := by
  have GT : FnOk P w K mg base CX0 1 fT fdT ["_law_bag_here", "_law_many"] spTake := okTake FT T
  refine F.ok scOf (fun vs H Q E h => ?_) (fun cdv A outer s H vs Q E hr h => ?_)
  · obtain ⟨a, l, xs, rfl, _⟩ := h
    rfl
  · obtain ⟨p, l, xs, rfl, hb, hx, hl, l0, l1, k⟩ := h
    refine ⟨_, pss_one (ps_ret (pe_ix ix_seq (pv 1) (pe_call GT hr (by rfl) gT FT.kp bT .nil pass0 (pa_cons (pv 0) (pa_cons (pe_callB cLenQ (by rfl) T.len PySem.boot_len (pa_cons (pv 1) pa_nil)) pa_nil))) (fun _ _ => rfl))), ?_⟩
    walk_at "wn"
    refine ⟨l, xs, rfl, .inl hx, ?_⟩
    walk_at "wn"
    refine ⟨p, _, rfl, hb, by omega, by omega, fun i H1 i0 i1 he hb1 => ?_⟩
    obtain ⟨j, rfl⟩ := Int.eq_ofNat_of_zero_le i0
    have hj : j < xs.length := by omega
    exact .inl ⟨l, xs, _, xs[j], rfl, rfl, seq_at (he l hl) hx, atI_nat (List.getElem?_eq_getElem hj), k j _ H1 (List.getElem?_eq_getElem hj) he hb1⟩
end
end Wn

namespace Wn
open PySem PySem.Spec PyProof.Rows L2 Evl
section
variable {X : Cx}
theorem pgs_star {e : Expr} {es : List Expr} {p : Pos} {t : TG} {u : TGs} (h1 : PG X e t) (h2 : PGs X es u)
    (hs : (assignEach (.Starred e p :: es) X.env).map (·.2) = assign e X.env :: (assignEach es X.env).map (·.2) := by rfl) : PGs X (.Starred e p :: es) (gCons t u) := by
  constructor
  rintro pins s σ H vs us Q I r ⟨v, vr, rfl, h⟩
  cases r with
  | cons r rr =>
    rw [hs]
    exact assignInOrder_cons (thn (h1.run pins s σ H _ _ _ I r h) fun _ s1 z => z.elim fun σ1 z => z.elim fun H1 z => h2.run pins s1 σ1 H1 _ _ Q z.1 rr z.2)
def gHead (K : PySem.W.Frag) (t : TGs) : TG := fun v σ H Q => ∃ (a : Addr) (x : V) (xs : List V), v = .ref a ∧ SqL K H a (x :: xs) ∧ xs.length ≤ 16000 ∧ ∀ p, H p = none → t [x, .ref p] σ (upd H p (.lst xs)) Q
theorem head_items {prog : Program} {w : World} {A : Around} {E : Value → Shared → Prop} {s : Shared} {l : Addr} {u : Value} {us : List Value} {Q : List Value → Shared → Prop} (hl : s.heap.IsList l (u :: us).toArray) (hh : A.handled = none) (hz : us.length ≤ 16000)
    (h : ∀ (h' : Heap) (tk : Nat), (∀ b o, s.heap.get? b = some o → h'.get? b = some o) → Q [u, .ref h'.objs.size] { s with heap := h'.push { cls := .type "list", data := .seq us.toArray }, toks := tk }) : wpAny (model prog w) A (unpackItems (.ref l) 2 (some 1)) Q E s := by
  have ne : l ≠ s.heap.objs.size := hl.elim fun o z => Nat.ne_of_lt (Heap.lt_size z.1)
  unfold unpackItems notIterableAtAll
  refine wpAny_bind (wpAny_bind (wpAny_specialOf hl.typeIs slot_list_iter.lookup (wpAny_pure ?_)))
  simp only [Bool.false_eq_true, if_false]
  refine wpAny_bind (wpAny_holding (wpAny_pyIter_list hl (wpAny_bind (wpAny_holding (PySem.W.kun_draw ne 1 0 _ _ ⟨_, Heap.get?_push_size _ rfl, rfl, rfl⟩ (hl.push _) (by simp) fun h₁ hit hs => ?_)))))
  have hl₁ : h₁.IsList l (u :: us).toArray := (hl.push _).extBut hs.extBut ne
  obtain ⟨oi, hoi, _⟩ := id hit
  obtain ⟨ol, hol, _⟩ := id hl₁
  show wpAny _ _ (if [u].length < 1 then _ else _) _ _ _
  rw [if_neg (by simp)]
  refine wpAny_bind (wpAny_holding (PySem.W.kun_collect (s := { s with heap := h₁ }) (T := "list_iterator") (.inr (.inr (.inl rfl))) (Walks.list (A := A.in1) hh s.heap.objs.size l ne (u :: us).toArray) (fun j z st => st.1.typeIs) (k := 1) (by simp) ⟨hit, hl₁⟩ (Heap.lt_size hoi) (Heap.lt_size hol) (fun h₂ tk hk => ?_) (by rw [sizeLine_eq, List.size_toArray, List.length_cons]; omega)))
  show wpAny _ _ (if us.length < 2 - 1 - 1 then _ else _) _ _ _
  rw [if_neg (by omega)]
  show wpAny _ _ (newList (us.take (us.length - 0)) >>= fun d => pure ([u] ++ [d] ++ us.drop (us.length - 0))) _ _ _
  rw [Nat.sub_zero, List.take_length, List.drop_length]
  refine wpAny_bind (wpAny_newList (wpAny_pure (h h₂ tk fun b o e => hk b o (Nat.ne_of_lt (Heap.lt_size e)) (hs.extBut b o (Nat.ne_of_lt (Heap.lt_size e)) (Heap.get?_push_of_some _ e)))) (by rw [sizeLine_eq]; omega))
theorem pg_head {es : List Expr} {k : Nat} {pos : Pos} {t : TGs} (hc : X.calm = true) (h : PGs X es t) (hn : (assignEach es X.env).length = 2 := by rfl) (hst : (assignEach es X.env).findIdx? (·.1) = some 1 := by rfl) : PG X (.Tuple es k pos) (gHead X.K t) := by
  constructor
  rintro pins s σ H v u Q I r ⟨a, x, xs, rfl, hq, hz, hw⟩
  cases r
  obtain ⟨its, rv, pl, _⟩ := I.list hq
  cases rv with
  | @cons _ y _ ys ry rs =>
    rw [PyProof.Rows.assign_Tuple]
    refine wpAny_bind (wpAny_standAt ?_)
    unfold unpack
    rw [hn, hst]
    refine wpAny_bind (wpAny_holding (head_items pl.isList (I.ok.hd hc) (by rw [← rs.length]; exact hz) fun h' tk hk => ?_))
    have I1 : Inv X pins σ H { s with heap := h' } := I.kept (t' := s.toks) hk
    have nw : H h'.objs.size = none := I1.hok.fresh (Nat.le_refl _)
    have I2 : Inv X pins σ (upd H h'.objs.size (.lst xs)) { s with heap := h'.push { cls := .type "list", data := .seq ys.toArray }, toks := tk } :=
      I1.laid (t' := tk) (fun b o e => Heap.get?_push_of_some _ e) (Nat.le_refl _) ⟨by rw [sizeLine_eq]; omega, ys, 0, rs, Heap.get?_push_size _ rfl⟩
    exact h.run pins _ σ _ [x, .ref h'.objs.size] _ Q I2 (.cons ry (.cons rfl .nil)) (hw _ nw)
end
/-! zip(a tuple, a list) to two names -/
def Ztl (K : PySem.W.Frag) (a b : Addr) : It :=
  ⟨fun i H => ∃ (xs ys : List V), SqT K H a xs ∧ SqL K H b ys ∧ i < xs.length ∧ i < ys.length,
    fun i H v H' => ∃ T x y, v = .ref T ∧ H T = none ∧ H' = upd H T (.tup [x, y]) ∧ (∀ xs, SqT K H a xs → xs[i]? = some x) ∧ ∀ ys, SqL K H b ys → ys[i]? = some y,
    fun i H => ∃ xs ys : List V, SqT K H a xs ∧ SqL K H b ys ∧ i = min xs.length ys.length⟩
theorem walk_ztl {K : PySem.W.Frag} {a b : Addr} {xs ys : List V} {n : Nat} (hn : n = min xs.length ys.length) :
    Walk (Ztl K a b) n (fun H => SqT K H a xs ∧ SqL K H b ys) (YPair (fun i => xs[i]?) (fun i => ys[i]?)) where
  goes := fun i H hi h => ⟨xs, ys, h.1, h.2, by omega, by omega⟩
  stops := fun H h => ⟨xs, ys, h.1, h.2, hn⟩
  yields := fun i H x H' _ h ⟨T, y, z, e1, e2, e3, e4, e5⟩ => ⟨T, y, z, e1, e2, e3, e4 _ h.1, e5 _ h.2⟩
abbrev ztlSt (a b z TI TO i1 i2 : Addr) (i : Nat) (h : Heap) : Prop := IsZip h z TI TO .none ∧ IsTupOf2 h TI (.ref i1) (.ref i2) ∧ (∃ x y, IsTupOf2 h TO x y) ∧ h.IsTupleIter i1 a i ∧ h.IsListIter i2 b i
theorem istup {h : Heap} {a : Addr} {xs : Array Value} (p : IsTup h a xs) : h.IsTuple a xs := by
  obtain ⟨o, e, c, n, d⟩ := p
  exact ⟨o, e, c, n, d⟩
theorem turn_ztl {P : Program} {w : World} {K : PySem.W.Frag} {elts : List Expr} {kk : Nat} {tpos : Pos} {a b z TI TO i1 i2 : Addr} (S : ZipSep2 z TI TO i1 i2 [i1, a] [i2, b]) (n1 : a ≠ i1) (n2 : b ≠ i2) :
    Turn P w K (.Tuple elts kk tpos) (Ztl K a b) [z, TI, TO, i1, i2] z (ztlSt a b z TI TO i1 i2) where
  mem := List.mem_cons_self ..
  obj := by
    rintro i h ⟨hz, hTI, ⟨x, y, hTO⟩, ⟨o1, e1, _, d1⟩, ⟨o2, e2, _, d2⟩⟩ c hc
    simp only [List.mem_cons, List.not_mem_nil, or_false] at hc
    rcases hc with rfl | rfl | rfl | rfl | rfl
    · exact ⟨_, hz, fun v q => nomatch q⟩
    · exact ⟨_, hTI, fun v q => nomatch q⟩
    · exact ⟨_, hTO, fun v q => nomatch q⟩
    · exact ⟨o1, e1, fun v q => by rw [d1] at q; cases q⟩
    · exact ⟨o2, e2, fun v q => by rw [d2] at q; cases q⟩
  keep := by
    rintro i h h' ⟨hz, hTI, ⟨x, y, hTO⟩, h1, h2⟩ k
    exact ⟨k z (by simp) _ hz, k TI (by simp) _ hTI, ⟨x, y, k TO (by simp) _ hTO⟩, h1.at fun o q => k i1 (by simp) o q, h2.at fun o q => k i2 (by simp) o q⟩
  item := by
    intro X hP hw hK hc i pins s σ H E I hf st hg
    subst hP hw hK
    obtain ⟨xs, ys, hqx, hqy, hx, hy⟩ := hg
    obtain ⟨its, rv, p1, _⟩ := I.tuple hqx
    obtain ⟨its2, rv2, p2, _⟩ := I.list hqy
    have l1 := rv.length
    have l2 := rv2.length
    have G := GoesN.zip2 (prog := X.prog) (w := X.w) (A := X.A) (elts := elts) (x1 := kk) (pos := tpos) S (Draws.tuple (A := X.A.in1) (I.ok.hd hc) i1 a n1 its.toArray) (Draws.list (A := X.A.in1) (I.ok.hd hc) i2 b n2 its2.toArray)
    obtain ⟨s1, s2, s3, s4, s5⟩ := st
    refine wpAny_mono (G.goes i s (fun v s2 => ∃ x H', Inv X pins σ H' s2 ∧ RelV x v ∧ (Ztl X.K a b).yld i H x H' ∧ ztlSt a b z TI TO i1 i2 (i + 1) s2.heap ∧ ∀ c ∈ [z, TI, TO, i1, i2], H' c = none) E (by simp; omega) ⟨s1, s2, s3, ⟨s4, (istup p1)⟩, ⟨s5, p2.isList⟩⟩ ?_) (fun r s1 ⟨v, e, q⟩ => ⟨v, e, wpAny_mono q (fun _ _ z => z) fun _ _ z => z⟩) fun _ _ z => z
    rintro v h' tk ⟨T, u, u2, rfl, nT, hu, hu2, hT⟩ ⟨t1, t2, t3, t4, t5⟩ hk _
    have hu' : its[i]? = some u := by simpa using hu
    have hu2' : its2[i]? = some u2 := by simpa using hu2
    obtain ⟨x, ex⟩ : ∃ x, xs[i]? = some x := ⟨_, List.getElem?_eq_getElem hx⟩
    obtain ⟨y, ey⟩ : ∃ y, ys[i]? = some y := ⟨_, List.getElem?_eq_getElem hy⟩
    obtain ⟨v1, ev1, r1⟩ := rv.get ex
    obtain ⟨v2, ev2, r2⟩ := rv2.get ey
    rw [hu'] at ev1
    rw [hu2'] at ev2
    cases ev1
    cases ev2
    obtain ⟨oT, eT, cT, nn, dT⟩ := hT
    have new : ObjOk X.prog X.w (upd H T (.tup [x, y])) h' T (.tup [x, y]) := ⟨by show 2 ≤ sizeLine; decide, [u, u2], .cons r1 (.cons r2 .nil), ⟨oT, eT, cT, nn, dT⟩⟩
    have I1 := I.turnedNew (t' := tk) (ch := [z, TO, i1, i2]) hk (fun c hcm => hf c (by simp only [List.mem_cons, List.not_mem_nil, or_false] at hcm ⊢; rcases hcm with q | q | q | q <;> simp [q])) nT new
    refine ⟨.ref T, _, I1, rfl, ⟨T, x, y, rfl, I.hok.fresh nT, rfl, fun l hl => by rw [I.tuple_inj hl hqx]; exact ex, fun l hl => by rw [I.list_inj hl hqy]; exact ey⟩, ⟨t1, t2, t3, t4.1, t5.1⟩, fun c hcm => ?_⟩
    have hlt : c < s.heap.objs.size := by
      obtain ⟨x0, y0, hTO⟩ := s3
      obtain ⟨_, e4, _⟩ := s4
      obtain ⟨_, e5, _⟩ := s5
      simp only [List.mem_cons, List.not_mem_nil, or_false] at hcm
      rcases hcm with rfl | rfl | rfl | rfl | rfl
      · exact Heap.lt_size s1
      · exact Heap.lt_size s2
      · exact Heap.lt_size hTO
      · exact Heap.lt_size e4
      · exact Heap.lt_size e5
    rw [upd_ne (Nat.ne_of_lt (Nat.lt_of_lt_of_le hlt nT))]
    exact (hf c hcm).1
  done := by
    intro X hP hw hK hc i pins s σ H E I hf st hg
    subst hP hw hK
    obtain ⟨xs, ys, hqx, hqy, hend⟩ := hg
    obtain ⟨its, rv, p1, _⟩ := I.tuple hqx
    obtain ⟨its2, rv2, p2, _⟩ := I.list hqy
    have l1 := rv.length
    have l2 := rv2.length
    have G := GoesN.zip2 (prog := X.prog) (w := X.w) (A := X.A) (elts := elts) (x1 := kk) (pos := tpos) S (Draws.tuple (A := X.A.in1) (I.ok.hd hc) i1 a n1 its.toArray) (Draws.list (A := X.A.in1) (I.ok.hd hc) i2 b n2 its2.toArray)
    obtain ⟨s1, s2, s3, s4, s5⟩ := st
    have hn : i = min its.toArray.size its2.toArray.size := by simp; omega
    refine G.stops s (fun s1 => Inv X pins σ H s1) E (by rw [← hn]; exact ⟨s1, s2, s3, ⟨s4, (istup p1)⟩, ⟨s5, p2.isList⟩⟩) fun h' tk hk _ => ?_
    exact I.turnedL (t' := tk) (ch := [z, TO, i1, i2]) hk fun c hcm => hf c (by simp only [List.mem_cons, List.not_mem_nil, or_false] at hcm ⊢; rcases hcm with q | q | q | q <;> simp [q])
  self := fun A i s Q E st h => wpAny_pyIter_zip st.1 h
def iZtl (K : PySem.W.Frag) (ta : TA) : TI := fun σ H R => ta σ H fun vs H1 => ∃ a b xs ys, vs = [.ref a, .ref b] ∧ SqT K H1 a xs ∧ SqL K H1 b ys ∧ R (Ztl K a b) H1
theorem pi_ztl {X : Cx} {e e2 : Expr} {ta : TA} {p pos tpos : Pos} {elts : List Expr} {kk : Nat} (hg : Gl X "zip") (hm : X.mg "zip" = none) (ha : PA X [e, e2] ta)
    (hs : starEach [e, e2] X.env = (false, eval e X.env) :: starEach [e2] X.env := by rfl) (hpl : (backTo pos (starEach [e2] X.env)).any (·.1) = false := by rfl) :
    PI X (.Tuple elts kk tpos) (.Call (.Name "zip" p) [e, e2] [] pos) (iZtl X.K ta) := by
  constructor
  intro pins s σ H R I h
  refine Call_ (ld_blt I hg hm PyProof.Rows.boot_zip (PyProof.Rows.callWith_type1 (thn (ha.run pos pins s σ H _ I h) ?_) hs hpl))
  rintro us s1 ⟨vs, H1, I1, r1, a, b, xs, ys, rfl, hqx, hqy, q⟩
  obtain ⟨u1, u2, rfl, ra, rb⟩ := vals2 r1
  obtain rfl : u1 = Value.ref a := ra
  obtain rfl : u2 = Value.ref b := rb
  obtain ⟨its, rv, p1, _⟩ := I1.tuple hqx
  obtain ⟨its2, rv2, p2, _⟩ := I1.list hqy
  have la : a < s1.heap.objs.size := p1.elim fun o z => Heap.lt_size z.1
  have lb : b < s1.heap.objs.size := p2.lt
  refine zip_begins2 (begins_tuple a its.toArray) (begins_list b its2.toArray) (istup p1) p2.isList fun h' hz hTI hTO e1 e2 hsz hk => wpAny_pyIter_zip hz ?_
  have I2 : Inv X pins σ H1 { s1 with heap := h' } := I1.kept (t' := s1.toks) hk
  refine ⟨s1.heap.objs.size + 4, [s1.heap.objs.size + 4, s1.heap.objs.size + 2, s1.heap.objs.size + 3, s1.heap.objs.size, s1.heap.objs.size + 1], _, _, H1, rfl, I2, turn_ztl (zip_sep2 (fp1 := [a]) (fp2 := [b]) (by simpa using la) (by simpa using lb)) (Nat.ne_of_lt la) (Nat.ne_of_lt (Nat.lt_succ_of_lt lb)), ⟨hz, hTI, ⟨_, _, hTO⟩, ⟨_, e1, rfl, rfl⟩, ⟨_, e2, rfl, rfl⟩⟩, fun c hcm => ?_, q⟩
  have hle : s1.heap.objs.size ≤ c := by
    simp only [List.mem_cons, List.not_mem_nil, or_false] at hcm
    rcases hcm with rfl | rfl | rfl | rfl | rfl
    · exact Nat.le_add_right _ _
    · exact Nat.le_add_right _ _
    · exact Nat.le_add_right _ _
    · exact Nat.le_refl _
    · exact Nat.le_add_right _ _
  exact I1.fpOk hle (I1.hok.fresh hle)
end Wn

namespace Wn
open PySem PySem.Spec PyProof.Rows L2 Evl
local macro_rules | `(tactic| walk_at "wn1") => `(tactic| first | ((with_reducible show (if (!decide _) = true then _ else _)); refine' g_nes ?_) | ((with_reducible show (if (decide _) = true then _ else _)); refine' g_es ?_) | with_reducible first
  | (refine' g_var ?h ?q; (case h => with_unfolding_all rfl))
  | refine' g_c ?_ | refine' g_op ?_ | refine' g_rI0 ?_ | refine' g_asg ?_ | refine' g_name ?_ | refine' g_seq ?_ | refine' g_ret ?_ | refine' g_retN ?_ | refine' g_next ?_ | refine' g_drop ?_
  | refine' g_nil ?_ | refine' g_cons ?_ | refine' g_cb ?_ | refine' g_test ?_ | refine' g_bl ?_ | refine' g_if ?_ | refine' g_ifs ?_ | refine' g_not ?_ | refine' g_part ?_ | refine' g_pint ?_ | refine' g_nopart ?_ | refine' g_call ?_
  | (refine' g_mul ?h ?q; (case h => with_unfolding_all first | exact Or.inl ⟨by decide, by decide⟩ | exact Or.inr ⟨by decide, by decide⟩ | exact Or.inl ⟨by omega, by omega⟩ | exact Or.inr ⟨by omega, by omega⟩))
  | (refine' g_mod ?h ?q; (case h => with_unfolding_all first | decide | omega))
  | refine' g_rIsN ?_ | refine' g_rNotN ?_ | refine' g_max2 ?_ | refine' g_min2 ?_ | refine' g_and ?_ | refine' g_or ?_ | refine' g_orV ?_ | refine' g_andV ?_ | refine' g_notV ?_ | refine' g_m1 ?_ | refine' g_yes ?_ | refine' g_bm ?_ | refine' g_bm0 ?_
  | (refine' g_tyL ?h ?q; (case h => first | assumption | exact upd_same))
  | refine' g_m0 ?_ | refine' g_tB ?_ | refine' g_isS ?_ | refine' g_bT ?_ | refine' g_bF ?_ | refine' g_bNT ?_ | refine' g_callK ?_ | refine' g_bNF ?_
  | (refine' g_lenL ?h ?q; (case h => first | assumption | exact upd_same))
  | refine' g_un ?_ | refine' g_rint _ ?_ | refine' g_rabs ?_ | refine' g_sl ?_ 
  | (refine' g_ixL ?h ?a ?q; (case h => first | assumption | exact upd_same); (case a => with_unfolding_all rfl))
  | (refine' g_div ?h0 ?h1 ?q; (case h0 => with_unfolding_all first | decide | omega); (case h1 => with_unfolding_all first | decide | omega))
  | refine' g_sub ?_
  | (refine' g_setL ?h ?a ?q; (case h => first | assumption | exact upd_same); (case a => with_unfolding_all rfl))
  | refine' g_lst ?_ | refine' g_tup ?_
  | (refine' g_rEq ?h ?q; (case h => with_unfolding_all rfl)) | (refine' g_rNe ?h ?q; (case h => with_unfolding_all rfl)))
local macro_rules | `(tactic| walk_at "wn") => `(tactic| repeat walk_at "wn1")

abbrev sIsWord : Stmt := top 5



abbrev sIsInt : Stmt := top 9
abbrev sIsArg : Stmt := top 10
abbrev sReadArg : Stmt := top 11
abbrev sCallOrNone : Stmt := top 12
abbrev sReadCall : Stmt := top 13
abbrev sReadCalls : Stmt := top 14
/-! str(x), x an int or a text -/
def rStr1 : List V → Hp → VK → Prop := fun xs H Q => (∃ i : Int, xs = [.int i] ∧ i.natAbs.log2 < 1920 ∧ Q (.str (toString i)) H) ∨ ∃ a, xs = [.str a] ∧ Q (.str a) H
theorem cStr1 {X : Cx} : CallR X (.type "str") rStr1 := by
  rintro pins s σ H xs us Q I r (h | h)
  · exact call_str_int pins s σ H xs us Q I r h
  · exact SkE.call_str_str pins s σ H xs us Q I r h
/-! walked: the list or tuple at a name -/
def iSeqV (K : PySem.W.Frag) (i : Nat) : TI := fun σ H R => ∃ a, σ[i]? = some (some (.ref a)) ∧ ((∃ xs, SqL K H a xs ∧ R (Itl K a) H) ∨ ∃ xs, SqT K H a xs ∧ R (Itt K a) H)
theorem pi_seqV {X : Cx} {tg e : Expr} {i : Nat} (h : PE X e (tVar i)) : PI X tg e (iSeqV X.K i) := by
  constructor
  rintro pins s σ H R I ⟨a, e1, h1 | h1⟩
  · exact (pi_list (tg := tg) h).run pins s σ H R I ⟨_, e1, a, rfl, ⟨_, h1.choose_spec.1⟩, h1.choose_spec.2⟩
  · exact (pi_tup (tg := tg) h).run pins s σ H R I ⟨_, e1, a, rfl, ⟨_, h1.choose_spec.1⟩, h1.choose_spec.2⟩
/-! what the top holds -/
def kindsL : List (Str × List Str) := [("new_source", ["integer"]), ("new_set", ["integer"]), ("copy", ["integer", "integer", "optional"]), ("close", ["integer", "integer"]), ("fork", ["integer"]), ("end", ["integer"]), ("arrive", ["integer", "integer", "integer"]), ("finish", ["integer", "integer"]),
  ("read", ["integer", "integer", "optional"]), ("add", ["integer", "integer", "integer", "integer", "word"]), ("change", ["integer", "integer", "integer", "word"]), ("remove", ["integer", "integer", "integer"]), ("wait", ["integer", "integer", "integer"]), ("numbers", ["integer"]), ("same", ["integer", "integer", "integer", "integer"]), ("units", ["integer", "integer"])]
def wordsL : List Str := ["level", "edge", "once"]
structure CallTxt (K : PySem.W.Frag) (w : World) (mg : Str → Option Value) : Prop where
  words : ∃ a, mg "WORDS" = some (.ref a) ∧ ∀ H, SqT K H a (wordsL.map V.str)
  args : ∃ d es n, mg "ARGUMENTS" = some (.ref d) ∧ KDict K w d es n ∧ ∀ p ∈ kindsL, ∃ t, PySem.W.nsIn K d p.1 = some (some (.ref t)) ∧ ∀ H, SqT K H t (p.2.map V.str)
  dash : ∃ t, mg "NONE_TEXT" = some (.str "-" t)
  nine : ∃ t, mg "MOST_DIGITS" = some (.int 9 t)
  len : mg "len" = none
  str : mg "str" = none
  int : mg "int" = none
  all : mg "all" = none
  zip : mg "zip" = none
  enum : mg "enumerate" = none
  isin : mg "isinstance" = none
section
variable {P : Program} {w : World} {K : PySem.W.Frag} {mg : Str → Option Value} {base : Heap}
def spIsWord : Sp := fun vs H Q _ => ∃ x : Str, vs = [.str x] ∧ Q (.bl (inV (.str x) (wordsL.map V.str))) H
theorem scIsWord : FnScope ["x"] ["x"] (defScope sIsWord) := ⟨rfl, rfl, rfl, by decide +kernel, rfl, by decide +kernel, by decide +kernel⟩
theorem okIsWord {f : Addr} {fd : FuncData} (F : Fun K "is_word" "is_word" sIsWord f fd) (T : CallTxt K w mg) : FnOk P w K mg base CX0 1 f fd ["x"] spIsWord := by
  refine F.ok scIsWord (fun vs H Q E h => ?_) (fun cdv A outer s H vs Q E hr h => ?_)
  · obtain ⟨x, rfl, _⟩ := h
    rfl
  · obtain ⟨x, rfl, k⟩ := h
    obtain ⟨aW, gW, sW⟩ := T.words
    refine ⟨_, pss_one (ps_ret (pe_cmpR op_in_seq (pv 0) (pe_glob (v := .ref aW) (by rfl) gW rfl) (by rfl))), ?_⟩
    walk_at "wn"
    exact ⟨aW, _, rfl, .inr (sW _), rfl, by decide, k⟩
theorem log_small {n : Nat} (h : n ≤ 999999999) : ((n : Nat) : Int).natAbs.log2 < 1920 := by
  rw [Int.natAbs_natCast]
  by_cases z : n = 0
  · rw [z]
    decide
  · have : n.log2 < 30 := (Nat.log2_lt z).mpr (Nat.lt_of_le_of_lt h (by decide))
    omega
def pt : V → Str
  | .int i => toString i
  | .str x => x
  | _ => "-"
def Part (v : V) : Prop := v = .non ∨ (∃ n : Nat, v = .int n ∧ n ≤ 999999999) ∨ ∃ x : Str, v = .str x ∧ x.length ≤ 20
/-! a comprehension that calls a def which leaves what stood: the texts one after another -/
theorem lc_texts {J : It} {G : Hp → Prop} {xs : List V} {j : Nat} {te : TE} {vs : List Nat} {σ : L2.St} {H1 : Hp} {D : Addr} {Qd : Hp → Prop} {f : V → Str} (wk : Walk J xs.length G (YAt xs)) (nw : H1 D = none) (hz : xs.length ≤ 10000) (hG : ∀ H, Same H1 H → G H)
    (hw : ∀ x, wipe ((wipe σ vs).set j (some x)) vs = wipe σ vs) (he : ∀ x ∈ xs, ∀ H (Q : VK), Same H1 H → (∀ H', Same H H' → Q (.str (f x)) H') → te ((wipe σ vs).set j (some x)) H Q)
    (hd : ∀ H, Same H1 H → H D = some (.lst ((xs.map f).map V.str)) → Qd H) :
    ∃ W : Nat → Nat → Hp → Prop, (∃ m, W 0 m (upd H1 D (.lst []))) ∧ ∀ i m H, W i m H →
      (J.stop i H ∧ Qd H) ∨ (J.go i H ∧ ∃ Nx : Hp → Prop, (∀ H', Nx H' → ∃ m', m' < m ∧ W (i + 1) m' H') ∧ ∀ x H', J.yld i H x H' → gName j x (wipe σ vs) H' fun σ2 H2 => wipe σ2 vs = wipe σ vs ∧ tYes σ2 H2 fun b H3 =>
        if b = true then te σ2 H3 fun y H4 => ∃ acc, H4 D = some (.lst acc) ∧ acc.length < sizeLine ∧ Nx (upd H4 D (.lst (acc ++ [y]))) else Nx H3) := by
  refine lc_it wk (fun i H => Same H1 H ∧ H D = some (.lst (((xs.take i).map f).map V.str))) ⟨fun a o e => by rw [upd_ne (ne_of_none e nw)]; exact e, upd_same⟩ (fun i H _ h => hG H h.1) ?_ fun H h => hd H h.1 (by rw [List.take_length] at h; exact h.2)
  rintro i x H H' hi ⟨sm, hD⟩ ⟨rfl, hx⟩
  refine ⟨hw x, ?_⟩
  show te _ _ _
  refine he x (List.mem_of_getElem? hx) _ _ sm fun H' sm' => ⟨_, sm' _ _ hD, ?_, ?_, ?_⟩
  · rw [List.length_map, List.length_map, List.length_take, sizeLine_eq]
    omega
  · intro a o e
    rw [upd_ne (ne_of_none e nw)]
    exact sm' _ _ (sm _ _ e)
  · rw [upd_same]
    congr 2
    rw [List.take_add_one, hx]
    simp
theorem pt_len {v : V} (h : Part v) : (pt v).length ≤ 20 := by
  rcases h with rfl | ⟨n, rfl, hn⟩ | ⟨x, rfl, hx⟩
  · decide +kernel
  · have e := int_text_length_le10 (a := (n : Int)) (k := 10) (by decide) (by omega)
    show (Str.ofString (toString (n : Int))).length ≤ 20
    rw [PySem.ofString_length]
    omega
  · exact hx
theorem sum_len : ∀ (xs : List V), (∀ x ∈ xs, Part x) → ((xs.map pt).map (·.length)).sum ≤ 20 * xs.length
  | [], _ => Nat.zero_le _
  | x :: xs, h => by
    have h1 := pt_len (h x List.mem_cons_self)
    have h2 := sum_len xs fun z hz => h z (List.mem_cons_of_mem _ hz)
    simp only [List.map_cons, List.sum_cons, List.length_cons] at h2 ⊢
    omega
theorem Same.tup {H H' : Hp} {a : Addr} {xs : List V} (e : Same H H') (h : SqT K H a xs) : SqT K H' a xs := by
  rcases h with (h | ⟨o, h⟩) | h
  · exact .inl (.inl (e _ _ h))
  · exact .inl (.inr ⟨o, e _ _ h⟩)
  · exact .inr h
end
end Wn

namespace Wn
open PySem PySem.Spec PyProof.Rows L2 Evl
local macro_rules | `(tactic| walk_at "wn1") => `(tactic| first | ((with_reducible show (if (!decide _) = true then _ else _)); refine' g_nes ?_) | ((with_reducible show (if (decide _) = true then _ else _)); refine' g_es ?_) | with_reducible first
  | (refine' g_var ?h ?q; (case h => with_unfolding_all rfl))
  | refine' g_c ?_ | refine' g_op ?_ | refine' g_rI0 ?_ | refine' g_asg ?_ | refine' g_name ?_ | refine' g_seq ?_ | refine' g_ret ?_ | refine' g_retN ?_ | refine' g_next ?_ | refine' g_drop ?_
  | refine' g_nil ?_ | refine' g_cons ?_ | refine' g_cb ?_ | refine' g_test ?_ | refine' g_bl ?_ | refine' g_if ?_ | refine' g_ifs ?_ | refine' g_not ?_ | refine' g_part ?_ | refine' g_pint ?_ | refine' g_nopart ?_ | refine' g_call ?_
  | (refine' g_mul ?h ?q; (case h => with_unfolding_all first | exact Or.inl ⟨by decide, by decide⟩ | exact Or.inr ⟨by decide, by decide⟩ | exact Or.inl ⟨by omega, by omega⟩ | exact Or.inr ⟨by omega, by omega⟩))
  | (refine' g_mod ?h ?q; (case h => with_unfolding_all first | decide | omega))
  | refine' g_rIsN ?_ | refine' g_rNotN ?_ | refine' g_max2 ?_ | refine' g_min2 ?_ | refine' g_and ?_ | refine' g_or ?_ | refine' g_orV ?_ | refine' g_andV ?_ | refine' g_notV ?_ | refine' g_m1 ?_ | refine' g_yes ?_ | refine' g_bm ?_ | refine' g_bm0 ?_
  | (refine' g_tyL ?h ?q; (case h => first | assumption | exact upd_same))
  | refine' g_m0 ?_ | refine' g_tB ?_ | refine' g_isS ?_ | refine' g_bT ?_ | refine' g_bF ?_ | refine' g_bNT ?_ | refine' g_callK ?_ | refine' g_bNF ?_
  | (refine' g_lenL ?h ?q; (case h => first | assumption | exact upd_same))
  | refine' g_un ?_ | refine' g_rint _ ?_ | refine' g_rabs ?_ | refine' g_sl ?_ 
  | (refine' g_ixL ?h ?a ?q; (case h => first | assumption | exact upd_same); (case a => with_unfolding_all rfl))
  | (refine' g_div ?h0 ?h1 ?q; (case h0 => with_unfolding_all first | decide | omega); (case h1 => with_unfolding_all first | decide | omega))
  | refine' g_sub ?_
  | (refine' g_setL ?h ?a ?q; (case h => first | assumption | exact upd_same); (case a => with_unfolding_all rfl))
  | refine' g_lst ?_ | refine' g_tup ?_
  | (refine' g_rEq ?h ?q; (case h => with_unfolding_all rfl)) | (refine' g_rNe ?h ?q; (case h => with_unfolding_all rfl)))
local macro_rules | `(tactic| walk_at "wn") => `(tactic| repeat walk_at "wn1")

section
variable {P : Program} {w : World} {K : PySem.W.Frag} {mg : Str → Option Value} {base : Heap}
def ctext (xs : List V) : Str := Str.join " " (xs.map pt)
theorem join_len (sep : Str) : ∀ l : List Str, (Str.join sep l).length ≤ (l.map (·.length)).sum + l.length * sep.length
  | [] => Nat.zero_le _
  | [x] => by show x.length ≤ x.length + 0 + 1 * sep.length; omega
  | x :: y :: r => by
    have ih := join_len sep (y :: r)
    show (x ++ sep ++ Str.join sep (y :: r)).length ≤ _
    rw [strLen_append, strLen_append]
    simp only [List.map_cons, List.sum_cons, List.length_cons, Nat.add_mul, Nat.one_mul] at ih ⊢
    omega
theorem ctext_len {xs : List V} (h : xs.length ≤ 6) (hp : ∀ y ∈ xs, Part y) : (ctext xs).length ≤ 126 := by
  have e := join_len " " (xs.map pt)
  have f := sum_len xs hp
  have e1 : (((" " : String) : Str)).length = 1 := rfl
  rw [e1, List.length_map] at e
  unfold ctext
  omega
theorem lc_texts2 {J : It} {G : Hp → Prop} {xs : List V} {ts : List Str} {j : Nat} {te : TE} {vs : List Nat} {σ : L2.St} {H1 : Hp} {D : Addr} {Qd : Hp → Prop} (wk : Walk J xs.length G (YAt xs)) (nw : H1 D = none) (hz : xs.length ≤ 10000) (hl : ts.length = xs.length) (hG : ∀ H, Same H1 H → G H)
    (hw : ∀ x, wipe ((wipe σ vs).set j (some x)) vs = wipe σ vs) (he : ∀ (i : Nat) x t, xs[i]? = some x → ts[i]? = some t → ∀ H (Q : VK), Same H1 H → (∀ H', Same H H' → Q (.str t) H') → te ((wipe σ vs).set j (some x)) H Q)
    (hd : ∀ H, Same H1 H → H D = some (.lst (ts.map V.str)) → Qd H) :
    ∃ W : Nat → Nat → Hp → Prop, (∃ m, W 0 m (upd H1 D (.lst []))) ∧ ∀ i m H, W i m H →
      (J.stop i H ∧ Qd H) ∨ (J.go i H ∧ ∃ Nx : Hp → Prop, (∀ H', Nx H' → ∃ m', m' < m ∧ W (i + 1) m' H') ∧ ∀ x H', J.yld i H x H' → gName j x (wipe σ vs) H' fun σ2 H2 => wipe σ2 vs = wipe σ vs ∧ tYes σ2 H2 fun b H3 =>
        if b = true then te σ2 H3 fun y H4 => ∃ acc, H4 D = some (.lst acc) ∧ acc.length < sizeLine ∧ Nx (upd H4 D (.lst (acc ++ [y]))) else Nx H3) := by
  refine lc_it wk (fun i H => Same H1 H ∧ H D = some (.lst ((ts.take i).map V.str))) ⟨fun a o e => by rw [upd_ne (ne_of_none e nw)]; exact e, upd_same⟩ (fun i H _ h => hG H h.1) ?_ fun H h => hd H h.1 (by rw [← hl, List.take_length] at h; exact h.2)
  rintro i x H H' hi ⟨sm, hD⟩ ⟨rfl, hx⟩
  refine ⟨hw x, ?_⟩
  have hti : i < ts.length := by omega
  show te _ _ _
  refine he i x ts[i] hx (List.getElem?_eq_getElem hti) _ _ sm fun H' sm' => ⟨_, sm' _ _ hD, ?_, ?_, ?_⟩
  · rw [List.length_map, List.length_take, sizeLine_eq]
    omega
  · intro a o e
    rw [upd_ne (ne_of_none e nw)]
    exact sm' _ _ (sm _ _ e)
  · rw [upd_same]
    congr 2
    rw [List.take_add_one, List.getElem?_eq_getElem hti, List.map_append]
    rfl
theorem Paired.get? {α β : Type} {R : α → β → Prop} {xs : List α} {ys : List β} (h : Paired R xs ys) : ∀ {i : Nat} {x : α}, xs[i]? = some x → ∃ y, ys[i]? = some y ∧ R x y := by
  induction h with
  | nil => intro i x e; simp at e
  | cons r _ ih =>
    intro i x e
    cases i with
    | zero =>
      cases e
      exact ⟨_, rfl, r⟩
    | succ i => exact ih (i := i) e
end
end Wn

namespace Wn
open PySem PySem.Spec PyProof.Rows L2 Evl
local macro_rules | `(tactic| walk_at "wn1") => `(tactic| first | ((with_reducible show (if (!decide _) = true then _ else _)); refine' g_nes ?_) | ((with_reducible show (if (decide _) = true then _ else _)); refine' g_es ?_) | with_reducible first
  | (refine' g_var ?h ?q; (case h => with_unfolding_all rfl))
  | refine' g_c ?_ | refine' g_op ?_ | refine' g_rI0 ?_ | refine' g_asg ?_ | refine' g_name ?_ | refine' g_seq ?_ | refine' g_ret ?_ | refine' g_retN ?_ | refine' g_next ?_ | refine' g_drop ?_
  | refine' g_nil ?_ | refine' g_cons ?_ | refine' g_cb ?_ | refine' g_test ?_ | refine' g_bl ?_ | refine' g_if ?_ | refine' g_ifs ?_ | refine' g_not ?_ | refine' g_part ?_ | refine' g_pint ?_ | refine' g_nopart ?_ | refine' g_call ?_
  | (refine' g_mul ?h ?q; (case h => with_unfolding_all first | exact Or.inl ⟨by decide, by decide⟩ | exact Or.inr ⟨by decide, by decide⟩ | exact Or.inl ⟨by omega, by omega⟩ | exact Or.inr ⟨by omega, by omega⟩))
  | (refine' g_mod ?h ?q; (case h => with_unfolding_all first | decide | omega))
  | refine' g_rIsN ?_ | refine' g_rNotN ?_ | refine' g_max2 ?_ | refine' g_min2 ?_ | refine' g_and ?_ | refine' g_or ?_ | refine' g_orV ?_ | refine' g_andV ?_ | refine' g_notV ?_ | refine' g_m1 ?_ | refine' g_yes ?_ | refine' g_bm ?_ | refine' g_bm0 ?_
  | (refine' g_tyL ?h ?q; (case h => first | assumption | exact upd_same))
  | refine' g_m0 ?_ | refine' g_tB ?_ | refine' g_isS ?_ | refine' g_bT ?_ | refine' g_bF ?_ | refine' g_bNT ?_ | refine' g_callK ?_ | refine' g_bNF ?_
  | (refine' g_lenL ?h ?q; (case h => first | assumption | exact upd_same))
  | refine' g_un ?_ | refine' g_rint _ ?_ | refine' g_rabs ?_ | refine' g_sl ?_ 
  | (refine' g_ixL ?h ?a ?q; (case h => first | assumption | exact upd_same); (case a => with_unfolding_all rfl))
  | (refine' g_div ?h0 ?h1 ?q; (case h0 => with_unfolding_all first | decide | omega); (case h1 => with_unfolding_all first | decide | omega))
  | refine' g_sub ?_
  | (refine' g_setL ?h ?a ?q; (case h => first | assumption | exact upd_same); (case a => with_unfolding_all rfl))
  | refine' g_lst ?_ | refine' g_tup ?_
  | (refine' g_rEq ?h ?q; (case h => with_unfolding_all rfl)) | (refine' g_rNe ?h ?q; (case h => with_unfolding_all rfl)))
local macro_rules | `(tactic| walk_at "wn") => `(tactic| repeat walk_at "wn1")

def rAscii : V → List V → Hp → VK → Prop := fun x xs H Q => ∃ a, x = .str a ∧ xs = [] ∧ True ∧ Q (.bl (Txt.isascii a)) H
def rDigit : V → List V → Hp → VK → Prop := fun x xs H Q => ∃ a, x = .str a ∧ xs = [] ∧ True ∧ Q (.bl (Txt.isdigit a)) H
section
variable {X : Cx} {o : Expr} {to : TE} {apos pos : Pos}
theorem pe_ascii (ho : PE X o to) (hbase : attributeBase o "isascii" X.env (eval o X.env) = eval o X.env := by rfl) (hline : (apos.endLine == pos.line) = true := by rfl) : PE X (.Call (.Attribute o "isascii" apos) [] [] pos) (tM0 rAscii to) :=
  pe_m0 F.slot_str_isascii F.type_str_isascii mt_isascii ho hbase hline
theorem pe_digit (ho : PE X o to) (hbase : attributeBase o "isdigit" X.env (eval o X.env) = eval o X.env := by rfl) (hline : (apos.endLine == pos.line) = true := by rfl) : PE X (.Call (.Attribute o "isdigit" apos) [] [] pos) (tM0 rDigit to) :=
  pe_m0 F.slot_str_isdigit F.type_str_isdigit mt_isdigit ho hbase hline
end
def first0 (t : Str) : Nat := t.cps.toList.getD 0 0
def isIntT (t : Str) : Bool := Txt.isascii t && Txt.isdigit t && !decide ((9 : Int) < (t.length : Int)) && (decide (V.str t = V.str "0") || !decide (V.str ⟨#[first0 t]⟩ = V.str "0"))
section
variable {P : Program} {w : World} {K : PySem.W.Frag} {mg : Str → Option Value} {base : Heap}
def spIsInt : Sp := fun vs H Q _ => ∃ t : Str, vs = [.str t] ∧ t.length ≤ 100000 ∧ Q (.bl (isIntT t)) H
theorem scIsInt : FnScope ["text"] ["text"] (defScope sIsInt) := ⟨rfl, rfl, rfl, by decide +kernel, rfl, by decide +kernel, by decide +kernel⟩
theorem okIsInt {f : Addr} {fd : FuncData} (F : Fun K "is_integer_text" "is_integer_text" sIsInt f fd) (T : CallTxt K w mg) : FnOk P w K mg base CX0 1 f fd ["text"] spIsInt := by
  refine F.ok scIsInt (fun vs H Q E h => ?_) (fun cdv A outer s H vs Q E hr h => ?_)
  · obtain ⟨x, rfl, _⟩ := h
    rfl
  · obtain ⟨t, rfl, hl, k⟩ := h
    obtain ⟨t9, g9⟩ := T.nine
    refine ⟨_, pss_cons (ps_if (PW.pt (pw_or (pt_not (pt_val (pe_ascii (pv 0)))) (pw_or (pt_not (pt_val (pe_digit (pv 0)))) (pw_or1 (pt_cmpR op_gt (pe_callB cLenS (by rfl) T.len PySem.boot_len (pa_cons (pv 0) pa_nil)) (pe_glob (v := .int 9) (by rfl) g9 ⟨_, rfl⟩) (nomark _))))))
        (pss_one (ps_ret pe_bl)) pss_nil)
      (pss_one (ps_ret (pe_or (pe_cmpR op_eq (pv 0) pe_str (nomark _)) (pe_one (pe_cmpR op_ne (pe_ix ix_str (pv 0) pe_int (fun _ _ => rfl)) pe_str (nomark _)))))), ?_⟩
    have e0 : isIntT t = (Txt.isascii t && Txt.isdigit t && !decide ((9 : Int) < (t.length : Int)) && (decide (V.str t = V.str "0") || !decide (V.str ⟨#[first0 t]⟩ = V.str "0"))) := rfl
    rw [e0] at k
    walk_at "wn"
    refine ⟨t, rfl, rfl, trivial, ?_⟩
    walk_at "wn"
    cases ha : Txt.isascii t with
    | false =>
      rw [ha] at k
      exact k
    | true =>
    rw [ha] at k
    walk_at "wn"
    refine ⟨t, rfl, rfl, trivial, ?_⟩
    walk_at "wn"
    cases hd : Txt.isdigit t with
    | false =>
      rw [hd] at k
      exact k
    | true =>
    rw [hd] at k
    walk_at "wn"
    refine ⟨t, rfl, by rw [sizeLine_eq]; omega, ?_⟩
    walk_at "wn"
    by_cases h9 : (9 : Int) < (t.length : Int)
    · rw [decide_eq_true h9] at k ⊢
      walk_at "wn"
      exact k
    rw [decide_eq_false h9] at k ⊢
    walk_at "wn"
    by_cases hz : V.str t = V.str "0"
    · rw [decide_eq_true hz] at k ⊢
      walk_at "wn"
      exact k
    rw [decide_eq_false hz] at k ⊢
    walk_at "wn"
    have hpos : 0 < t.cps.size := by
      unfold Txt.isdigit at hd
      simp only [Bool.and_eq_true, decide_eq_true_eq] at hd
      exact hd.1
    have hpos' : 0 < t.cps.toList.length := by rw [Array.length_toList]; exact hpos
    have e1 : t.cps.toList[0]? = some (first0 t) := by
      unfold first0
      rw [List.getD_eq_getElem?_getD, List.getElem?_eq_getElem hpos']
      rfl
    refine ⟨t, _, first0 t, rfl, rfl, by rw [sizeLine_eq]; omega, atI_nat (j := 0) e1, ?_⟩
    walk_at "wn"
    exact k
def isArgT (k t : Str) : Bool := if k = "word" then inV (.str t) (wordsL.map V.str) else if k = "optional" ∧ t = "-" then true else isIntT t
def spIsArg : Sp := fun vs H Q _ => ∃ k t : Str, vs = [.str k, .str t] ∧ t.length ≤ 100000 ∧ Q (.bl (isArgT k t)) H
theorem scIsArg : FnScope ["kind", "text"] ["kind", "text"] (defScope sIsArg) := ⟨rfl, rfl, rfl, by decide +kernel, rfl, by decide +kernel, by decide +kernel⟩
theorem str_inj {a b : Str} : V.str a = V.str b ↔ a = b := ⟨fun h => by cases h; rfl, fun h => by rw [h]⟩
theorem okIsArg {f fW fI : Addr} {fd fdW fdI : FuncData} (F : Fun K "is_argument_text" "is_argument_text" sIsArg f fd) (T : CallTxt K w mg) (FW : Fun K "is_word" "is_word" sIsWord fW fdW) (gW : mg "is_word" = some (.ref fW)) (bW : Binds K fdW ["x"] [])
    (FI : Fun K "is_integer_text" "is_integer_text" sIsInt fI fdI) (gI : mg "is_integer_text" = some (.ref fI)) (bI : Binds K fdI ["text"] []) : FnOk P w K mg base CX0 2 f fd ["kind", "text"] spIsArg := by
  have GW : FnOk P w K mg base CX0 1 fW fdW ["x"] spIsWord := okIsWord FW T
  have GI : FnOk P w K mg base CX0 1 fI fdI ["text"] spIsInt := okIsInt FI T
  refine F.ok scIsArg (fun vs H Q E h => ?_) (fun cdv A outer s H vs Q E hr h => ?_)
  · obtain ⟨x, y, rfl, _⟩ := h
    rfl
  · obtain ⟨kd, t, rfl, hl, k⟩ := h
    obtain ⟨tD, gD⟩ := T.dash
    refine ⟨_, pss_cons (ps_if (pt_cmpR op_eq (pv 0) pe_str (nomark _)) (pss_one (ps_ret (pe_call GW hr (by rfl) gW FW.kp bW .nil pass0 (pa_cons (pv 1) pa_nil)))) pss_nil)
      (pss_cons (ps_if (PW.pt (pw_and (pt_cmpR op_eq (pv 0) pe_str (nomark _)) (pw_and1 (pt_cmpR op_eq (pv 1) (pe_glob (v := .str "-") (by rfl) gD ⟨_, rfl⟩) (nomark _))))) (pss_one (ps_ret pe_bl)) pss_nil)
      (pss_one (ps_ret (pe_call GI hr (by rfl) gI FI.kp bI .nil pass0 (pa_cons (pv 1) pa_nil))))), ?_⟩
    walk_at "wn"
    unfold isArgT at k
    by_cases h1 : kd = "word"
    · rw [decide_eq_true (str_inj.mpr h1)]
      rw [if_pos h1] at k
      walk_at "wn"
      exact ⟨t, rfl, k⟩
    rw [decide_eq_false (fun z => h1 (str_inj.mp z))]
    rw [if_neg h1] at k
    walk_at "wn"
    by_cases h2 : kd = "optional"
    · rw [decide_eq_true (str_inj.mpr h2)]
      walk_at "wn"
      by_cases h3 : t = "-"
      · rw [decide_eq_true (str_inj.mpr h3)]
        rw [if_pos ⟨h2, h3⟩] at k
        walk_at "wn"
        exact k
      · rw [decide_eq_false (fun z => h3 (str_inj.mp z))]
        rw [if_neg (fun z => h3 z.2)] at k
        walk_at "wn"
        exact ⟨t, rfl, hl, k⟩
    · rw [decide_eq_false (fun z => h2 (str_inj.mp z))]
      rw [if_neg (fun z => h2 z.1)] at k
      walk_at "wn"
      exact ⟨t, rfl, hl, k⟩
def ReadsTo (k t : Str) (v : V) : Prop := (k = "word" ∧ v = .str t) ∨ (k ≠ "word" ∧ t = "-" ∧ v = .non) ∨ (k ≠ "word" ∧ t ≠ "-" ∧ ∃ n, PySem.intText? t = some n ∧ t.length ≤ 640 ∧ v = .int n)
def spReadArg : Sp := fun vs H Q _ => ∃ (k t : Str) (v : V), vs = [.str k, .str t] ∧ ReadsTo k t v ∧ Q v H
theorem scReadArg : FnScope ["kind", "text"] ["kind", "text"] (defScope sReadArg) := ⟨rfl, rfl, rfl, by decide +kernel, rfl, by decide +kernel, by decide +kernel⟩
theorem okReadArg {f : Addr} {fd : FuncData} (F : Fun K "read_argument" "read_argument" sReadArg f fd) (T : CallTxt K w mg) : FnOk P w K mg base CX0 1 f fd ["kind", "text"] spReadArg := by
  refine F.ok scReadArg (fun vs H Q E h => ?_) (fun cdv A outer s H vs Q E hr h => ?_)
  · obtain ⟨x, y, _, rfl, _⟩ := h
    rfl
  · obtain ⟨kd, t, v, rfl, hv, k⟩ := h
    obtain ⟨tD, gD⟩ := T.dash
    refine ⟨_, pss_cons (ps_if (pt_cmpR op_eq (pv 0) pe_str (nomark _)) (pss_one (ps_ret (pv 1))) pss_nil)
      (pss_cons (ps_if (pt_cmpR op_eq (pv 1) (pe_glob (v := .str "-") (by rfl) gD ⟨_, rfl⟩) (nomark _)) (pss_one (ps_ret pe_non)) pss_nil)
      (pss_one (ps_ret (pe_callTy call_int_str (by rfl) T.int PyProof.Rows.boot_int (pa_cons (pv 1) pa_nil))))), ?_⟩
    walk_at "wn"
    rcases hv with ⟨h1, rfl⟩ | ⟨h1, h2, rfl⟩ | ⟨h1, h2, n, h3, h4, rfl⟩
    · rw [decide_eq_true (str_inj.mpr h1)]
      walk_at "wn"
      exact k
    · rw [decide_eq_false (fun z => h1 (str_inj.mp z))]
      walk_at "wn"
      rw [decide_eq_true (str_inj.mpr h2)]
      walk_at "wn"
      exact k
    · rw [decide_eq_false (fun z => h1 (str_inj.mp z))]
      walk_at "wn"
      rw [decide_eq_false (fun z => h2 (str_inj.mp z))]
      walk_at "wn"
      exact ⟨t, n, rfl, h3, h4, k⟩
end
end Wn

namespace Wn
open PySem PySem.Spec PyProof.Rows L2 Evl
local macro_rules | `(tactic| walk_at "wn1") => `(tactic| first | ((with_reducible show (if (!decide _) = true then _ else _)); refine' g_nes ?_) | ((with_reducible show (if (decide _) = true then _ else _)); refine' g_es ?_) | with_reducible first
  | (refine' g_var ?h ?q; (case h => with_unfolding_all rfl))
  | refine' g_c ?_ | refine' g_op ?_ | refine' g_rI0 ?_ | refine' g_asg ?_ | refine' g_name ?_ | refine' g_seq ?_ | refine' g_ret ?_ | refine' g_retN ?_ | refine' g_next ?_ | refine' g_drop ?_
  | refine' g_nil ?_ | refine' g_cons ?_ | refine' g_cb ?_ | refine' g_test ?_ | refine' g_bl ?_ | refine' g_if ?_ | refine' g_ifs ?_ | refine' g_not ?_ | refine' g_part ?_ | refine' g_pint ?_ | refine' g_nopart ?_ | refine' g_call ?_
  | (refine' g_mul ?h ?q; (case h => with_unfolding_all first | exact Or.inl ⟨by decide, by decide⟩ | exact Or.inr ⟨by decide, by decide⟩ | exact Or.inl ⟨by omega, by omega⟩ | exact Or.inr ⟨by omega, by omega⟩))
  | (refine' g_mod ?h ?q; (case h => with_unfolding_all first | decide | omega))
  | refine' g_rIsN ?_ | refine' g_rNotN ?_ | refine' g_max2 ?_ | refine' g_min2 ?_ | refine' g_and ?_ | refine' g_or ?_ | refine' g_orV ?_ | refine' g_andV ?_ | refine' g_notV ?_ | refine' g_m1 ?_ | refine' g_yes ?_ | refine' g_bm ?_ | refine' g_bm0 ?_
  | (refine' g_tyL ?h ?q; (case h => first | assumption | exact upd_same))
  | refine' g_m0 ?_ | refine' g_tB ?_ | refine' g_isS ?_ | refine' g_bT ?_ | refine' g_bF ?_ | refine' g_bNT ?_ | refine' g_callK ?_ | refine' g_bNF ?_
  | (refine' g_lenL ?h ?q; (case h => first | assumption | exact upd_same))
  | refine' g_un ?_ | refine' g_rint _ ?_ | refine' g_rabs ?_ | refine' g_sl ?_ 
  | (refine' g_ixL ?h ?a ?q; (case h => first | assumption | exact upd_same); (case a => with_unfolding_all rfl))
  | (refine' g_div ?h0 ?h1 ?q; (case h0 => with_unfolding_all first | decide | omega); (case h1 => with_unfolding_all first | decide | omega))
  | refine' g_sub ?_
  | (refine' g_setL ?h ?a ?q; (case h => first | assumption | exact upd_same); (case a => with_unfolding_all rfl))
  | refine' g_lst ?_ | refine' g_tup ?_
  | (refine' g_rEq ?h ?q; (case h => with_unfolding_all rfl)) | (refine' g_rNe ?h ?q; (case h => with_unfolding_all rfl)))
local macro_rules | `(tactic| walk_at "wn") => `(tactic| repeat walk_at "wn1")

section
variable {P : Program} {w : World} {K : PySem.W.Frag} {mg : Str → Option Value} {base : Heap}
theorem Paired.length' {α β : Type} {R : α → β → Prop} {xs : List α} {ys : List β} (h : Paired R xs ys) : xs.length = ys.length := h.length
theorem join_len_eq (sep : Str) : ∀ l : List Str, l ≠ [] → (Str.join sep l).length + sep.length = (l.map fun x => x.length + sep.length).sum
  | [], h => absurd rfl h
  | [x], _ => by show x.length + sep.length = x.length + sep.length + 0; omega
  | x :: y :: r, _ => by
    have ih := join_len_eq sep (y :: r) (by simp)
    show (x ++ sep ++ Str.join sep (y :: r)).length + sep.length = _
    rw [strLen_append, strLen_append, List.map_cons, List.sum_cons, ← ih]
    omega
theorem sum_mem {l : List Nat} {x : Nat} (h : x ∈ l) : x ≤ l.sum := by
  induction l with
  | nil => cases h
  | cons a l ih =>
    rw [List.sum_cons]
    rcases List.mem_cons.mp h with rfl | h
    · omega
    · have := ih h
      omega
theorem sum_ge {α : Type} (l : List α) (f : α → Nat) (h : ∀ x ∈ l, 1 ≤ f x) : l.length ≤ (l.map f).sum := by
  induction l with
  | nil => exact Nat.zero_le _
  | cons a l ih =>
    have h1 := h a List.mem_cons_self
    have h2 := ih fun x hx => h x (List.mem_cons_of_mem _ hx)
    rw [List.map_cons, List.sum_cons, List.length_cons]
    omega
theorem split_le {t sep : Str} (hs : sep.length = 1) : (Txt.split t sep).length ≤ t.length + 1 ∧ ∀ p ∈ Txt.split t sep, p.length ≤ t.length := by
  by_cases h : Txt.split t sep = []
  · rw [h]
    exact ⟨Nat.zero_le _, fun p hp => nomatch hp⟩
  have e := join_len_eq sep _ h
  rw [StrLaws.join_split, hs] at e
  refine ⟨?_, fun p hp => ?_⟩
  · have := sum_ge (Txt.split t sep) (fun x => x.length + 1) fun x _ => by omega
    omega
  · have := sum_mem (List.mem_map.mpr ⟨p, hp, rfl⟩ : p.length + 1 ∈ (Txt.split t sep).map fun x => x.length + 1)
    omega
theorem lc_zip {a b : Addr} {xs zs ys : List V} {i1 i2 : Nat} {te : TE} {vs : List Nat} {σ : L2.St} {H1 : Hp} {D : Addr} {Qd : Hp → Prop} (hx : SqT K H1 a xs) (hz : SqL K H1 b zs) (l1 : xs.length = ys.length) (l2 : zs.length = ys.length) (nw : H1 D = none) (hn : ys.length ≤ 10000)
    (hw : ∀ x z, wipe (((wipe σ vs).set i1 (some x)).set i2 (some z)) vs = wipe σ vs)
    (he : ∀ (i : Nat) x z y, xs[i]? = some x → zs[i]? = some z → ys[i]? = some y → ∀ H (Q : VK), Same H1 H → (∀ H', Same H H' → Q y H') → te (((wipe σ vs).set i1 (some x)).set i2 (some z)) H Q)
    (hd : ∀ H, Same H1 H → H D = some (.lst ys) → Qd H) :
    ∃ W : Nat → Nat → Hp → Prop, (∃ m, W 0 m (upd H1 D (.lst []))) ∧ ∀ i m H, W i m H →
      ((Ztl K a b).stop i H ∧ Qd H) ∨ ((Ztl K a b).go i H ∧ ∃ Nx : Hp → Prop, (∀ H', Nx H' → ∃ m', m' < m ∧ W (i + 1) m' H') ∧ ∀ x H', (Ztl K a b).yld i H x H' → gTup K 2 (gCons (gName i1) (gCons (gName i2) gNil)) x (wipe σ vs) H' fun σ2 H2 => wipe σ2 vs = wipe σ vs ∧ tYes σ2 H2 fun b H3 =>
        if b = true then te σ2 H3 fun y H4 => ∃ acc, H4 D = some (.lst acc) ∧ acc.length < sizeLine ∧ Nx (upd H4 D (.lst (acc ++ [y]))) else Nx H3) := by
  refine lc_it (walk_ztl (xs := xs) (ys := zs) (n := ys.length) (by omega)) (fun i H => Same H1 H ∧ H D = some (.lst (ys.take i))) ⟨fun a o e => by rw [upd_ne (ne_of_none e nw)]; exact e, upd_same⟩ (fun i H _ h => ⟨Same.tup h.1 hx, Same.seq h.1 hz⟩) ?_ fun H h => hd H h.1 (by rw [List.take_length] at h; exact h.2)
  rintro i x H H' hi ⟨sm, hD⟩ ⟨T, u, v, rfl, nT, rfl, hu, hv⟩
  have hyi : i < ys.length := hi
  have sm1 : Same H1 (upd H T (.tup [u, v])) := fun c o e => by rw [upd_ne (ne_of_none (sm _ _ e) nT)]; exact sm _ _ e
  refine ⟨T, [u, v], rfl, SqT.of upd_same, rfl, u, [v], rfl, v, [], rfl, rfl, hw u v, ?_⟩
  show te _ _ _
  refine he i u v ys[i] hu hv (List.getElem?_eq_getElem hyi) _ _ sm1 fun H' sm' => ⟨_, sm' _ _ (by rw [upd_ne (ne_of_none hD nT)]; exact hD), ?_, ?_, ?_⟩
  · rw [List.length_take, sizeLine_eq]
    omega
  · intro c o e
    rw [upd_ne (ne_of_none e nw)]
    exact sm' _ _ (sm1 _ _ e)
  · rw [upd_same]
    congr 2
    rw [List.take_add_one, List.getElem?_eq_getElem hyi]
    rfl
inductive Line (K : PySem.W.Frag) (mg : Str → Option Value) (t : Str) : Option (List V) → Prop
  | word {name : Str} {parts : List Str} (h : Txt.split t " " = name :: parts) (n : ∀ d, mg "ARGUMENTS" = some (.ref d) → PySem.W.nsIn K d name = some none) : Line K mg t none
  | count {name : Str} {parts ks : List Str} (h : Txt.split t " " = name :: parts) (m : (name, ks) ∈ kindsL) (n : parts.length ≠ ks.length) : Line K mg t none
  | part {name : Str} {parts ks : List Str} (h : Txt.split t " " = name :: parts) (m : (name, ks) ∈ kindsL) (n : parts.length = ks.length) (b : (List.zipWith isArgT ks parts).all id = false) : Line K mg t none
  | call {name : Str} {parts ks : List Str} {vs : List V} (h : Txt.split t " " = name :: parts) (m : (name, ks) ∈ kindsL) (n : parts.length = ks.length) (b : (List.zipWith isArgT ks parts).all id = true) (l : vs.length = ks.length)
      (r : ∀ (i : Nat) (k p : Str) (v : V), ks[i]? = some k → parts[i]? = some p → vs[i]? = some v → ReadsTo k p v) : Line K mg t (some (.str name :: vs))
def spLine (K : PySem.W.Frag) (mg : Str → Option Value) : Sp := fun vs H Q _ => ∃ (t : Str) (c : Option (List V)), vs = [.str t] ∧ t.length ≤ 10000 ∧ Line K mg t c ∧ match c with
  | none => ∀ H', Same H H' → Q .non H'
  | some xs => ∀ H' p, H p = none → Same H H' → H' p = some (.tup xs) → Q (.ref p) H'
theorem isarg {ks parts : List Str} {H0 : Hp} {a0 a1 a2 a3 : V} {a4 a5 a6 : Option V} (ne : parts.length = ks.length) (hshort : ∀ q ∈ parts, q.length ≤ 10000) : ∀ (i : Nat) (x z y : V), (ks.map V.str)[i]? = some x → (parts.map V.str)[i]? = some z → ((List.zipWith isArgT ks parts).map V.bl)[i]? = some y →
    ∀ H (Q : VK), Same H0 H → (∀ H', Same H H' → Q y H') → tCall spIsArg [] E0 (tCons (tVar 5) (tCons (tVar 6) tNil)) (((wipe [some a0, some a1, some a2, some a3, a4, a5, a6] [5, 6]).set 5 (some x)).set 6 (some z)) H Q := by
  intro i x z y hx hz hy H Q _ q
  rw [List.getElem?_map] at hx hz hy
  cases ek : ks[i]? with
  | none => rw [ek] at hx; cases hx
  | some kd =>
  cases ep : parts[i]? with
  | none => rw [ep] at hz; cases hz
  | some pp =>
  rw [ek] at hx
  rw [ep] at hz
  rw [List.getElem?_zipWith, ek, ep] at hy
  cases hx
  cases hz
  cases hy
  walk_at "wn"
  exact ⟨kd, pp, rfl, Nat.le_trans (hshort pp (List.mem_of_getElem? ep)) (by decide), q H (Same.refl H)⟩
theorem scLine : FnScope ["text", "name", "parts", "kinds", "arguments", "kind", "part"] ["text"] (defScope sCallOrNone) := ⟨rfl, rfl, rfl, by decide +kernel, rfl, by decide +kernel, by decide +kernel⟩
theorem okLine {f fA fR : Addr} {fd fdA fdR : FuncData} (F : Fun K "call_or_none" "call_or_none" sCallOrNone f fd) (T : CallTxt K w mg) (GA : FnOk P w K mg base CX0 2 fA fdA ["kind", "text"] spIsArg) (kA : PySem.W.keepIn K (.ref fA) = true) (gA : mg "is_argument_text" = some (.ref fA)) (bA : Binds K fdA ["kind", "text"] [])
    (GR : FnOk P w K mg base CX0 1 fR fdR ["kind", "text"] spReadArg) (kR : PySem.W.keepIn K (.ref fR) = true) (gR : mg "read_argument" = some (.ref fR)) (bR : Binds K fdR ["kind", "text"] []) : FnOk P w K mg base CX0 3 f fd ["text"] (spLine K mg) := by
  refine F.ok scLine (fun vs H Q E h => ?_) (fun cdv A outer s H vs Q E hr h => ?_)
  · obtain ⟨x, _, rfl, _⟩ := h
    rfl
  · obtain ⟨t, c, rfl, hl, ln, k⟩ := h
    obtain ⟨d, es, n, gD, D, hD⟩ := T.args
    have hr1 : Room 1 _ := hr.mono (by decide)
    refine ⟨_, pss_cut (ps_asg (pe_split (pv 0) pe_str) (pg_head rfl (pgs_cons (pg_name (i := 1) scLine.nd rfl (Or.inl rfl)) (pgs_star (pg_name (i := 2) scLine.nd rfl (Or.inl rfl)) pgs_nil))))
      (pss_cons (ps_if (pt_cmpR (op_notIn_kd D) (pv 1) (pe_glob (v := .ref d) (by rfl) gD rfl) (by rfl)) (pss_one (ps_ret pe_non)) pss_nil)
      (pss_cons (ps_set (i := 3) scLine.nd rfl (Or.inl rfl) (pe_ix ix_kdict (pe_glob (v := .ref d) (by rfl) gD rfl) (pv 1) (fun _ _ => rfl)))
      (pss_cons (ps_if (pt_cmpR op_ne (pe_callB cLenQ (by rfl) T.len PySem.boot_len (pa_cons (pv 2) pa_nil)) (pe_callB cLenQ (by rfl) T.len PySem.boot_len (pa_cons (pv 3) pa_nil)) (nomark _)) (pss_one (ps_ret pe_non)) pss_nil)
      (pss_cons (ps_if (pt_not (pt_val (pe_callB (cr_all rfl) (by rfl) T.all (by decide +kernel) (pa_cons (pe_lc (own := [("kind", 5), ("part", 6)]) (g := gTup K 2 (gCons (gName 5) (gCons (gName 6) gNil))) (tt := tYes) rfl scLine.nd (pi_ztl (by rfl) T.zip (pa_cons (pv 3) (pa_cons (pv 2) pa_nil)))
          (blkOk_by (N := ["text", "name", "parts", "kinds", "arguments", "kind", "part"]) (sc := defScope sCallOrNone) (by decide +kernel)) (fun _ _ _ _ _ => pg_tup rfl (pgs_cons (pg_name (i := 5) scLine.nd rfl (Or.inl rfl)) (pgs_cons (pg_name (i := 6) scLine.nd rfl (Or.inl rfl)) pgs_nil))) (fun _ _ _ _ _ => pts_nil)
          (fun _ _ _ _ _ => pe_call GA hr (by rfl) gA kA bA .nil pass0 (pa_cons (pv 5) (pa_cons (pv 6) pa_nil)))) pa_nil)))) (pss_one (ps_ret pe_non)) pss_nil)
      (pss_cons (ps_setLc (i := 4) (own := [("kind", 5), ("part", 6)]) (g := gTup K 2 (gCons (gName 5) (gCons (gName 6) gNil))) (tt := tYes) rfl scLine.nd rfl rfl (sw_true rfl rfl rfl (by decide +kernel)) (pi_ztl (by rfl) T.zip (pa_cons (pv 3) (pa_cons (pv 2) pa_nil)))
          (blkOk_by (N := ["text", "name", "parts", "kinds", "arguments", "kind", "part"]) (sc := defScope sCallOrNone) (by decide +kernel)) (fun _ _ _ _ _ => pg_tup rfl (pgs_cons (pg_name (i := 5) scLine.nd rfl (Or.inl rfl)) (pgs_cons (pg_name (i := 6) scLine.nd rfl (Or.inl rfl)) pgs_nil))) (fun _ _ _ _ _ => pts_nil)
          (fun _ _ _ _ _ => pe_call GR hr1 (by rfl) gR kR bR .nil pass0 (pa_cons (pv 5) (pa_cons (pv 6) pa_nil))))
      (pss_one (ps_ret (pe_tup (pa_cons (pv 1) (StX.pa_star (pv 4) pa_nil)))))))))), ?_⟩
    have hnm : ∃ (name : Str) (parts : List Str), Txt.split t " " = name :: parts := by cases ln <;> exact ⟨_, _, by assumption⟩
    obtain ⟨name, parts, hsp⟩ := hnm
    have sle := split_le (t := t) (sep := " ") rfl
    rw [hsp] at sle
    have hparts : parts.length ≤ 16000 := by have := sle.1; rw [List.length_cons] at this; omega
    have hp10 : parts.length ≤ 10000 := by have := sle.1; rw [List.length_cons] at this; omega
    have hshort : ∀ q ∈ parts, q.length ≤ 10000 := fun q hq => Nat.le_trans (sle.2 q (List.mem_cons_of_mem _ hq)) hl
    refine ⟨fun σ' H' => ∃ p, σ' = [some (.str t), some (.str name), some (.ref p), none, none, none, none] ∧ Same H H' ∧ H' p = some (.lst (parts.map V.str)), ?_, ?_⟩
    · walk_at "wn"
      refine ⟨t, " ", rfl, rfl, rfl, by rw [sizeLine_eq]; omega, fun p hp => ?_⟩
      rw [hsp]
      walk_at "wn"
      refine ⟨p, _, _, rfl, SqL.of upd_same, by rw [List.length_map]; exact hparts, fun q hq => ?_⟩
      refine ⟨_, _, rfl, _, _, rfl, rfl, q, rfl, fun x o hx => ?_, upd_same⟩
      have e1 : upd H p (.lst (V.str name :: parts.map V.str)) x = some o := by rw [upd_ne (ne_of_none hx hp)]; exact hx
      rw [upd_ne (ne_of_none e1 hq)]
      exact e1
    rintro σ' H1 ⟨p, rfl, sm, hp⟩
    walk_at "wn"
    cases ln with
    | word h nk =>
      rw [hsp] at h
      cases h
      refine ⟨_, _, rfl, rfl, nk d gD, ?_⟩
      walk_at "wn"
      exact k H1 sm
    | count h m ne =>
      rename_i ks
      rw [hsp] at h
      cases h
      obtain ⟨tk, hk, sk⟩ := hD _ m
      refine ⟨_, _, rfl, rfl, hk, _, rfl, iteF ?_⟩
      walk_at "wn"
      refine ⟨d, name, .ref tk, rfl, rfl, ⟨es, n, _, D.at_, D.lit, hk, rfl⟩, ?_⟩
      walk_at "wn"
      refine ⟨tk, _, rfl, .inr (sk _), ?_⟩
      walk_at "wn"
      have e : decide (V.int ((parts.map V.str).length : Int) = V.int ((ks.map V.str).length : Int)) = false := decide_eq_false fun z => ne (by
        have z' := V.int.inj z
        rw [List.length_map, List.length_map] at z'
        omega)
      rw [e]
      walk_at "wn"
      exact k H1 sm
    | part h m ne b =>
      rename_i ks
      rw [hsp] at h
      cases h
      obtain ⟨tk, hk, sk⟩ := hD _ m
      refine ⟨_, _, rfl, rfl, hk, _, rfl, iteF ?_⟩
      walk_at "wn"
      refine ⟨d, name, .ref tk, rfl, rfl, ⟨es, n, _, D.at_, D.lit, hk, rfl⟩, ?_⟩
      walk_at "wn"
      refine ⟨tk, _, rfl, .inr (sk _), ?_⟩
      walk_at "wn"
      have e : decide (V.int ((parts.map V.str).length : Int) = V.int ((ks.map V.str).length : Int)) = true := decide_eq_true (by rw [List.length_map, List.length_map, ne])
      rw [e]
      walk_at "wn"
      refine ⟨_, rfl, _, rfl, tk, p, _, _, rfl, sk _, SqL.of hp, fun D hD0 => lc_zip (ys := (List.zipWith isArgT ks parts).map V.bl) (sk _) (SqL.of hp) (by simp [ne]) (by simp [ne]) hD0 (by simp; omega) (fun _ _ => rfl) (isarg ne hshort) (fun H2 sm2 hD2 => ?_)⟩
      refine ⟨D, _, rfl, SqL.of hD2, ?_⟩
      rw [b]
      walk_at "wn"
      exact k H2 (sm.trans sm2)
    | call h m ne b l r =>
      rename_i ks vs
      rw [hsp] at h
      cases h
      obtain ⟨tk, hk, sk⟩ := hD _ m
      refine ⟨_, _, rfl, rfl, hk, _, rfl, iteF ?_⟩
      walk_at "wn"
      refine ⟨d, name, .ref tk, rfl, rfl, ⟨es, n, _, D.at_, D.lit, hk, rfl⟩, ?_⟩
      walk_at "wn"
      refine ⟨tk, _, rfl, .inr (sk _), ?_⟩
      walk_at "wn"
      have e : decide (V.int ((parts.map V.str).length : Int) = V.int ((ks.map V.str).length : Int)) = true := decide_eq_true (by rw [List.length_map, List.length_map, ne])
      rw [e]
      walk_at "wn"
      refine ⟨_, rfl, _, rfl, tk, p, _, _, rfl, sk _, SqL.of hp, fun D hD0 => lc_zip (ys := (List.zipWith isArgT ks parts).map V.bl) (sk _) (SqL.of hp) (by simp [ne]) (by simp [ne]) hD0 (by simp; omega) (fun _ _ => rfl) (isarg ne hshort) (fun H2 sm2 hD2 => ?_)⟩
      refine ⟨D, _, rfl, SqL.of hD2, ?_⟩
      rw [b]
      walk_at "wn"
      refine ⟨_, rfl, _, rfl, tk, p, _, _, rfl, sk _, SqL.of (sm2 _ _ hp), fun D3 hD3 => lc_zip (ys := vs) (sk _) (SqL.of (sm2 _ _ hp)) (by simp [l]) (by simp [ne, l]) hD3 (by omega) (fun _ _ => rfl) ?_ (fun H3 sm3 hD4 => ?_)⟩
      · intro i x z y hx hz hy H' Q' _ q
        rw [List.getElem?_map] at hx hz
        cases ek : ks[i]? with
        | none => rw [ek] at hx; cases hx
        | some kd =>
        cases ep : parts[i]? with
        | none => rw [ep] at hz; cases hz
        | some pp =>
        rw [ek] at hx
        rw [ep] at hz
        cases hx
        cases hz
        walk_at "wn"
        exact ⟨kd, pp, y, rfl, r i kd pp y ek ep hy, q H' (Same.refl H')⟩
      · walk_at "wn"
        refine ⟨_, rfl, D3, vs, rfl, .inr (SqL.of hD4), ?_⟩
        walk_at "wn"
        rw [List.append_nil]
        refine ⟨by rw [sizeLine_eq, List.length_cons]; omega, fun q hq => ?_⟩
        have sm5 : Same H H3 := (sm.trans sm2).trans sm3
        exact k _ q (sm5.free hq) (fun x o hx => by rw [upd_ne (ne_of_none (sm5 _ _ hx) hq)]; exact sm5 _ _ hx) upd_same
end
end Wn

namespace Wn
open PySem PySem.Spec PyProof.Rows L2 Evl
local macro_rules | `(tactic| walk_at "wn1") => `(tactic| first | ((with_reducible show (if (!decide _) = true then _ else _)); refine' g_nes ?_) | ((with_reducible show (if (decide _) = true then _ else _)); refine' g_es ?_) | with_reducible first
  | (refine' g_var ?h ?q; (case h => with_unfolding_all rfl))
  | refine' g_c ?_ | refine' g_op ?_ | refine' g_rI0 ?_ | refine' g_asg ?_ | refine' g_name ?_ | refine' g_seq ?_ | refine' g_ret ?_ | refine' g_retN ?_ | refine' g_next ?_ | refine' g_drop ?_
  | refine' g_nil ?_ | refine' g_cons ?_ | refine' g_cb ?_ | refine' g_test ?_ | refine' g_bl ?_ | refine' g_if ?_ | refine' g_ifs ?_ | refine' g_not ?_ | refine' g_part ?_ | refine' g_pint ?_ | refine' g_nopart ?_ | refine' g_call ?_
  | (refine' g_mul ?h ?q; (case h => with_unfolding_all first | exact Or.inl ⟨by decide, by decide⟩ | exact Or.inr ⟨by decide, by decide⟩ | exact Or.inl ⟨by omega, by omega⟩ | exact Or.inr ⟨by omega, by omega⟩))
  | (refine' g_mod ?h ?q; (case h => with_unfolding_all first | decide | omega))
  | refine' g_rIsN ?_ | refine' g_rNotN ?_ | refine' g_max2 ?_ | refine' g_min2 ?_ | refine' g_and ?_ | refine' g_or ?_ | refine' g_orV ?_ | refine' g_andV ?_ | refine' g_notV ?_ | refine' g_m1 ?_ | refine' g_yes ?_ | refine' g_bm ?_ | refine' g_bm0 ?_
  | (refine' g_tyL ?h ?q; (case h => first | assumption | exact upd_same))
  | refine' g_m0 ?_ | refine' g_tB ?_ | refine' g_isS ?_ | refine' g_bT ?_ | refine' g_bF ?_ | refine' g_bNT ?_ | refine' g_callK ?_ | refine' g_bNF ?_
  | (refine' g_lenL ?h ?q; (case h => first | assumption | exact upd_same))
  | refine' g_un ?_ | refine' g_rint _ ?_ | refine' g_rabs ?_ | refine' g_sl ?_ 
  | (refine' g_ixL ?h ?a ?q; (case h => first | assumption | exact upd_same); (case a => with_unfolding_all rfl))
  | (refine' g_div ?h0 ?h1 ?q; (case h0 => with_unfolding_all first | decide | omega); (case h1 => with_unfolding_all first | decide | omega))
  | refine' g_sub ?_
  | (refine' g_setL ?h ?a ?q; (case h => first | assumption | exact upd_same); (case a => with_unfolding_all rfl))
  | refine' g_lst ?_ | refine' g_tup ?_
  | (refine' g_rEq ?h ?q; (case h => with_unfolding_all rfl)) | (refine' g_rNe ?h ?q; (case h => with_unfolding_all rfl)))
local macro_rules | `(tactic| walk_at "wn") => `(tactic| repeat walk_at "wn1")

abbrev clsSt : Stmt := top 1
def clsBody : Stmt → List Stmt
  | .ClassDef _ _ _ b _ _ _ _ _ _ _ => b
  | _ => []
abbrev sInit : Stmt := (clsBody clsSt).getD 0 (.Pass ⟨0, 0, 0, 0⟩)
/-! an error of the class at C that carries a line -/
structure ErrTxt (K : PySem.W.Frag) (mg : Str → Option Value) (C fI : Addr) (fdI : FuncData) : Prop where
  gC : mg "BadText" = some (.ref C)
  oex : OexC K C
  noN : PySem.W.findIn K (.ref C) "line" = some none
  gV : mg "ValueError" = none
  vV : PySem.W.findCls K (.type "ValueError") (.type "type") "__init__" = some (.val (.builtin "ValueError.__init__"))
  iC : PySem.W.findIn K (.ref C) "__init__" = some (some (.ref fI))
  tI : PySem.W.typeIn K (.ref fI) = some (.type "function")
  fn : Fun K "__init__" "BadText.__init__" sInit fI fdI
  bI : Binds K fdI ["self", "line"] []
  te : PySem.W.exmOne K (.ref C) (.ref C) = some true
  xf : XfC K C
section
variable {P : Program} {w : World} {K : PySem.W.Frag} {mg : Str → Option Value} {base : Heap} {C fI : Addr} {fdI : FuncData}
def spInit (K : PySem.W.Frag) (C : Addr) : Sp := fun vs H Q _ => ∃ (a : Addr) (n : Int), vs = [.ref a, .int n] ∧ n.natAbs.log2 < 1920 ∧ (Str.ofString (toString n)).length ≤ 700 ∧ H a = some (exo a C none) ∧
  ∀ d, H d = none → d ≠ a → Q .non (upd (upd H d (exd d [(("line" : Str), .int n)])) a (exo a C (some d)))
theorem scInit : FnScope ["self", "line"] ["self", "line"] (defScope sInit) := ⟨rfl, rfl, rfl, by decide +kernel, rfl, by decide +kernel, by decide +kernel⟩
theorem okInit (T : ErrTxt K mg C fI fdI) : FnOk P w K mg base CX0 1 fI fdI ["self", "line"] (spInit K C) := by
  refine T.fn.ok scInit (fun vs H Q E h => ?_) (fun cdv A outer s H vs Q E hr h => ?_)
  · obtain ⟨a, n, rfl, _⟩ := h
    rfl
  · obtain ⟨a, n, rfl, h1, h2, ha, k⟩ := h
    refine ⟨_, pss_cons (ps_expr (pe_veinit (by rfl) T.gV T.vV (pa_cons (pv 0) (pa_cons (pe_joined (.cons pe_str (.cons (pe_fmtR (pv 1)) (.cons pe_str .nil)))) pa_nil))))
      (pss_one (ps_ost (f := "line") (pv 0) (pv 1))), ?_⟩
    walk_at "wn"
    show tCons _ _ _ _ _
    walk_at "wn"
    show tJs _ _ _ _ _
    have e5 : (((" is no text of a call" : String) : Str)).length = 21 := rfl
    have e6 : (((("line " : String) : Str))).length = 5 := rfl
    refine ⟨"line ", rfl, by decide, ?_⟩
    refine ⟨_, rfl, ?_⟩
    refine Or.inr ⟨n, rfl, h1, toString n, rfl, ?_, ?_⟩
    · rw [strLen_append, strLen_append, sizeLine_eq, e6]
      show 0 + 5 + _ ≤ _
      omega
    refine ⟨" is no text of a call", rfl, ?_, ?_⟩
    · rw [strLen_append, strLen_append, strLen_append, sizeLine_eq, e5, e6]
      show 0 + 5 + _ + _ ≤ _
      omega
    refine ⟨a, C, [_], rfl, by show 1 ≤ 1000; decide, T.oex, ha, ?_⟩
    refine ⟨_, rfl, _, rfl, ?_⟩
    exact ⟨a, C, rfl, T.oex, T.noN, .inl ⟨ha, fun dx h1 h2 => k dx h1 h2⟩⟩
end
end Wn

namespace Wn
open PySem PySem.Spec PyProof.Rows L2 Evl
local macro_rules | `(tactic| walk_at "wn1") => `(tactic| first | ((with_reducible show (if (!decide _) = true then _ else _)); refine' g_nes ?_) | ((with_reducible show (if (decide _) = true then _ else _)); refine' g_es ?_) | with_reducible first
  | (refine' g_var ?h ?q; (case h => with_unfolding_all rfl))
  | refine' g_c ?_ | refine' g_op ?_ | refine' g_rI0 ?_ | refine' g_asg ?_ | refine' g_name ?_ | refine' g_seq ?_ | refine' g_ret ?_ | refine' g_retN ?_ | refine' g_next ?_ | refine' g_drop ?_
  | refine' g_nil ?_ | refine' g_cons ?_ | refine' g_cb ?_ | refine' g_test ?_ | refine' g_bl ?_ | refine' g_if ?_ | refine' g_ifs ?_ | refine' g_not ?_ | refine' g_part ?_ | refine' g_pint ?_ | refine' g_nopart ?_ | refine' g_call ?_
  | (refine' g_mul ?h ?q; (case h => with_unfolding_all first | exact Or.inl ⟨by decide, by decide⟩ | exact Or.inr ⟨by decide, by decide⟩ | exact Or.inl ⟨by omega, by omega⟩ | exact Or.inr ⟨by omega, by omega⟩))
  | (refine' g_mod ?h ?q; (case h => with_unfolding_all first | decide | omega))
  | refine' g_rIsN ?_ | refine' g_rNotN ?_ | refine' g_max2 ?_ | refine' g_min2 ?_ | refine' g_and ?_ | refine' g_or ?_ | refine' g_orV ?_ | refine' g_andV ?_ | refine' g_notV ?_ | refine' g_m1 ?_ | refine' g_yes ?_ | refine' g_bm ?_ | refine' g_bm0 ?_
  | (refine' g_tyL ?h ?q; (case h => first | assumption | exact upd_same))
  | refine' g_m0 ?_ | refine' g_tB ?_ | refine' g_isS ?_ | refine' g_bT ?_ | refine' g_bF ?_ | refine' g_bNT ?_ | refine' g_callK ?_ | refine' g_bNF ?_
  | (refine' g_lenL ?h ?q; (case h => first | assumption | exact upd_same))
  | refine' g_un ?_ | refine' g_rint _ ?_ | refine' g_rabs ?_ | refine' g_sl ?_ 
  | (refine' g_ixL ?h ?a ?q; (case h => first | assumption | exact upd_same); (case a => with_unfolding_all rfl))
  | (refine' g_div ?h0 ?h1 ?q; (case h0 => with_unfolding_all first | decide | omega); (case h1 => with_unfolding_all first | decide | omega))
  | refine' g_sub ?_
  | (refine' g_setL ?h ?a ?q; (case h => first | assumption | exact upd_same); (case a => with_unfolding_all rfl))
  | refine' g_lst ?_ | refine' g_tup ?_
  | (refine' g_rEq ?h ?q; (case h => with_unfolding_all rfl)) | (refine' g_rNe ?h ?q; (case h => with_unfolding_all rfl)))
local macro_rules | `(tactic| walk_at "wn") => `(tactic| repeat walk_at "wn1")

section
variable {P : Program} {w : World} {K : PySem.W.Frag} {mg : Str → Option Value} {base : Heap} {C fI : Addr} {fdI : FuncData}
/-- the way out with an error whose line is n -/
def Rz (C : Addr) (n : Int) (H : Hp) (E : XK) : Prop := ∀ d H', H d = none → Same H H' → H' d = some (.xd [(("line" : Str), .int n)]) → E (.ref C) (some d) H'
def NoStr (K : PySem.W.Frag) (H : Hp) (v : V) : Prop := ∃ T : String, TyX K H v (.type T) ∧ PySem.W.kitOne K (.type T) (.type "str") = some false
theorem err_made (T : ErrTxt K mg C fI fdI) {n : Int} {H : Hp} {Q : XK} (h1 : n.natAbs.log2 < 1920) (h2 : (Str.ofString (toString n)).length ≤ 700) (k : Rz C n H Q) :
    ([V.int n].length ≤ 1000 ∧ ∀ a, H a = none → spInit K C (.ref a :: ([V.int n] ++ [])) (upd H a (exo a C none)) (fun v H2 => v = .non ∧ ∃ (d : Addr) (fs : List (Str × V)), H2 a = some (exo a C (some d)) ∧ H2 d = some (exd d fs) ∧ H d = none ∧ Q (.ref C) (some d) (upd (del H2 a) d (.xd fs))) fun _ _ _ => False) := by
  refine ⟨by show 1 ≤ 1000; decide, fun a ha => ⟨a, n, rfl, h1, h2, upd_same, fun d hd nd => ⟨rfl, d, [(("line" : Str), .int n)], upd_same, ?_, ?_, ?_⟩⟩⟩
  · rw [upd_ne nd, upd_same]
  · rw [upd_ne nd] at hd
    exact hd
  · rw [upd_ne nd] at hd
    refine k d _ hd (fun b o e => ?_) upd_same
    have n1 : b ≠ d := fun z => by rw [z, hd] at e; cases e
    have n2 : b ≠ a := fun z => by rw [z, ha] at e; cases e
    rw [upd_ne n1]
    show (if b = a then none else _) = _
    rw [if_neg n2, upd_ne n2, upd_ne n1, upd_ne n2]
    exact e
def spRdCall (K : PySem.W.Frag) (mg : Str → Option Value) (C : Addr) : Sp := fun vs H Q E => ∃ v : V, vs = [v] ∧ ((NoStr K H v ∧ Rz C (-1) H E) ∨ ∃ (t : Str) (c : Option (List V)), v = .str t ∧ t.length ≤ 10000 ∧ Line K mg t c ∧ match c with
  | none => Rz C 0 H E
  | some xs => ∀ H' p, H p = none → Same H H' → H' p = some (.tup xs) → Q (.ref p) H')
theorem scReadCall : FnScope ["text", "call"] ["text"] (defScope sReadCall) := ⟨rfl, rfl, rfl, by decide +kernel, rfl, by decide +kernel, by decide +kernel⟩
theorem okReadCall {f fL : Addr} {fd fdL : FuncData} (F : Fun K "read_call" "read_call" sReadCall f fd) (T : CallTxt K w mg) (TE : ErrTxt K mg C fI fdI) (GL : FnOk P w K mg base CX0 3 fL fdL ["text"] (spLine K mg)) (kL : PySem.W.keepIn K (.ref fL) = true) (gL : mg "call_or_none" = some (.ref fL)) (bL : Binds K fdL ["text"] []) : FnOk P w K mg base (L2.CX P w) 4 f fd ["text"] (spRdCall K mg C) := by
  have GI : FnOk P w K mg base CX0 1 fI fdI ["self", "line"] (spInit K C) := okInit TE
  refine F.okX scReadCall (fun vs H Q E h => ?_) (fun cdv A outer s H vs Q E hr h => ?_)
  · obtain ⟨x, rfl, _⟩ := h
    rfl
  · obtain ⟨v, rfl, h⟩ := h
    have hr2 : Room 2 _ := hr.mono (by decide)
    refine ⟨_, pss_cons (ps_if (pt_not (pt_val (pe_callB call_isi (by rfl) T.isin PyProof.Rows.boot_isinstance (pa_cons (pv 0) (pa_cons (pe_bltn (v := .ty "str") (by rfl) T.str PyProof.Rows.boot_str rfl) pa_nil))))) (pss_one (ps_raise rfl (takes_of rfl rfl rfl rfl) (pmk_oex TE.oex TE.iC TE.tI GI hr2 TE.bI .nil pass0 (by rfl) TE.gC (pa_cons (pe_un un_neg pe_int) pa_nil)))) pss_nil)
      (pss_cons (ps_set (i := 1) scReadCall.nd rfl (Or.inl rfl) (pe_call GL hr (by rfl) gL kL bL .nil pass0 (pa_cons (pv 0) pa_nil)))
      (pss_cons (ps_if (pt_cmpR oIsN (pv 1) pe_non (nomark _)) (pss_one (ps_raise rfl (takes_of rfl rfl rfl rfl) (pmk_oex TE.oex TE.iC TE.tI GI hr2 TE.bI .nil pass0 (by rfl) TE.gC (pa_cons pe_int pa_nil)))) pss_nil)
      (pss_one (ps_ret (pv 1))))), ?_⟩
    walk_at "wn"
    rcases h with ⟨⟨ty, ht, hk⟩, k⟩ | ⟨t, c, rfl, hl, ln, k⟩
    · refine ⟨_, _, _, _, false, rfl, .ty "str", ht, hk, ?_⟩
      walk_at "wn"
      show tCons _ _ _ _ _
      show tUn _ _ _ _ _
      refine ⟨1, rfl, ?_⟩
      show _ ∧ _
      exact err_made TE (by decide) (by decide) k
    · refine ⟨_, _, _, _, true, rfl, .ty "str", .base (.str t), kit_ty (by decide +kernel), ?_⟩
      walk_at "wn"
      refine ⟨t, c, rfl, hl, ln, ?_⟩
      cases c with
      | none =>
        intro H' sm
        walk_at "wn"
        show tCons _ _ _ _ _
        walk_at "wn"
        exact err_made TE (by decide) (by decide) (fun d H2 hd s2 h2 => k d H2 (sm.free hd) (sm.trans s2) h2)
      | some xs =>
        intro H' p hp sm hx
        walk_at "wn"
        have e : decide (V.ref p = V.non) = false := decide_eq_false fun z => nomatch z
        rw [e]
        walk_at "wn"
        exact k H' p hp sm hx
end
end Wn

namespace Wn
open PySem PySem.Spec PyProof.Rows L2 Evl
local macro_rules | `(tactic| walk_at "wn1") => `(tactic| first | ((with_reducible show (if (!decide _) = true then _ else _)); refine' g_nes ?_) | ((with_reducible show (if (decide _) = true then _ else _)); refine' g_es ?_) | with_reducible first
  | (refine' g_var ?h ?q; (case h => with_unfolding_all rfl))
  | refine' g_c ?_ | refine' g_op ?_ | refine' g_rI0 ?_ | refine' g_asg ?_ | refine' g_name ?_ | refine' g_seq ?_ | refine' g_ret ?_ | refine' g_retN ?_ | refine' g_next ?_ | refine' g_drop ?_
  | refine' g_nil ?_ | refine' g_cons ?_ | refine' g_cb ?_ | refine' g_test ?_ | refine' g_bl ?_ | refine' g_if ?_ | refine' g_ifs ?_ | refine' g_not ?_ | refine' g_part ?_ | refine' g_pint ?_ | refine' g_nopart ?_ | refine' g_call ?_
  | (refine' g_mul ?h ?q; (case h => with_unfolding_all first | exact Or.inl ⟨by decide, by decide⟩ | exact Or.inr ⟨by decide, by decide⟩ | exact Or.inl ⟨by omega, by omega⟩ | exact Or.inr ⟨by omega, by omega⟩))
  | (refine' g_mod ?h ?q; (case h => with_unfolding_all first | decide | omega))
  | refine' g_rIsN ?_ | refine' g_rNotN ?_ | refine' g_max2 ?_ | refine' g_min2 ?_ | refine' g_and ?_ | refine' g_or ?_ | refine' g_orV ?_ | refine' g_andV ?_ | refine' g_notV ?_ | refine' g_m1 ?_ | refine' g_yes ?_ | refine' g_bm ?_ | refine' g_bm0 ?_
  | (refine' g_tyL ?h ?q; (case h => first | assumption | exact upd_same))
  | refine' g_m0 ?_ | refine' g_tB ?_ | refine' g_isS ?_ | refine' g_bT ?_ | refine' g_bF ?_ | refine' g_bNT ?_ | refine' g_callK ?_ | refine' g_bNF ?_
  | (refine' g_lenL ?h ?q; (case h => first | assumption | exact upd_same))
  | refine' g_un ?_ | refine' g_rint _ ?_ | refine' g_rabs ?_ | refine' g_sl ?_ 
  | (refine' g_ixL ?h ?a ?q; (case h => first | assumption | exact upd_same); (case a => with_unfolding_all rfl))
  | (refine' g_div ?h0 ?h1 ?q; (case h0 => with_unfolding_all first | decide | omega); (case h1 => with_unfolding_all first | decide | omega))
  | refine' g_sub ?_
  | (refine' g_setL ?h ?a ?q; (case h => first | assumption | exact upd_same); (case a => with_unfolding_all rfl))
  | refine' g_lst ?_ | refine' g_tup ?_
  | (refine' g_rEq ?h ?q; (case h => with_unfolding_all rfl)) | (refine' g_rNe ?h ?q; (case h => with_unfolding_all rfl)))
local macro_rules | `(tactic| walk_at "wn") => `(tactic| repeat walk_at "wn1")

section
variable {P : Program} {w : World} {K : PySem.W.Frag} {mg : Str → Option Value} {base : Heap} {C fI : Addr} {fdI : FuncData}
def spRdCalls (K : PySem.W.Frag) (mg : Str → Option Value) (C : Addr) : Sp := fun vs H Q E => ∃ v : V, vs = [v] ∧ ((NoStr K H v ∧ Rz C (-1) H E) ∨ ∃ t : Str, v = .str t ∧ t.length ≤ 9000 ∧ ((t = "" ∧ ∀ v H', Same H H' → Q v H') ∨
  (t ≠ "" ∧ ∃ cs : List (Option (List V)), Paired (fun l c => Line K mg l c) (Txt.split t "\n") cs ∧ (((∀ c ∈ cs, c ≠ none) ∧ ∀ v H', Same H H' → Q v H') ∨ ∃ j : Nat, cs[j]? = some none ∧ (∀ i, i < j → cs[i]? ≠ some none) ∧ Rz C (j : Int) H E))))
theorem scReadCalls : FnScope ["text", "calls", "at", "line", "call"] ["text"] (defScope sReadCalls) := ⟨rfl, rfl, rfl, by decide +kernel, rfl, by decide +kernel, by decide +kernel⟩
theorem nat_small {j : Nat} (h : j ≤ 9001) : ((j : Int)).natAbs.log2 < 1920 ∧ (Str.ofString (toString (j : Int))).length ≤ 700 := by
  refine ⟨log_small (by omega), ?_⟩
  have := toString_length_le (v := (j : Int)) (by omega) (k := 9) (by decide) (by show (j : Int) < 10 ^ 9; omega)
  omega
theorem okReadCalls {f fL : Addr} {fd fdL : FuncData} (F : Fun K "read_calls" "read_calls" sReadCalls f fd) (T : CallTxt K w mg) (TE : ErrTxt K mg C fI fdI) (GL : FnOk P w K mg base CX0 3 fL fdL ["text"] (spLine K mg)) (kL : PySem.W.keepIn K (.ref fL) = true) (gL : mg "call_or_none" = some (.ref fL)) (bL : Binds K fdL ["text"] []) : FnOk P w K mg base (L2.CX P w) 4 f fd ["text"] (spRdCalls K mg C) := by
  have GI : FnOk P w K mg base CX0 1 fI fdI ["self", "line"] (spInit K C) := okInit TE
  refine F.okX scReadCalls (fun vs H Q E h => ?_) (fun cdv A outer s H vs Q E hr h => ?_)
  · obtain ⟨x, rfl, _⟩ := h
    rfl
  · obtain ⟨v, rfl, h⟩ := h
    have hr2 : Room 2 _ := hr.mono (by decide)
    refine ⟨_, pss_cons (ps_if (pt_not (pt_val (pe_callB call_isi (by rfl) T.isin PyProof.Rows.boot_isinstance (pa_cons (pv 0) (pa_cons (pe_bltn (v := .ty "str") (by rfl) T.str PyProof.Rows.boot_str rfl) pa_nil))))) (pss_one (ps_raise rfl (takes_of rfl rfl rfl rfl) (pmk_oex TE.oex TE.iC TE.tI GI hr2 TE.bI .nil pass0 (by rfl) TE.gC (pa_cons (pe_un un_neg pe_int) pa_nil)))) pss_nil)
      (pss_cons (ps_set (i := 1) scReadCalls.nd rfl (Or.inl rfl) (pe_lst pa_nil))
      (pss_cons (ps_if (pt_cmpR op_eq (pv 0) pe_str (nomark _)) (pss_one (ps_ret (pv 1))) pss_nil)
      (pss_cons (ps_for PassesOwn.leaving rfl (pi_enum (by rfl) T.enum (pa_cons (pe_split (pv 0) pe_str) pa_nil)) (pg_tup rfl (pgs_cons (pg_name (i := 2) scReadCalls.nd rfl (Or.inl rfl)) (pgs_cons (pg_name (i := 3) scReadCalls.nd rfl (Or.inl rfl)) pgs_nil)))
        (pss_cons (ps_set (i := 4) scReadCalls.nd rfl (Or.inl rfl) (pe_call GL hr (by rfl) gL kL bL .nil pass0 (pa_cons (pv 3) pa_nil)))
        (pss_cons (ps_if (pt_cmpR oIsN (pv 4) pe_non (nomark _)) (pss_one (ps_raise rfl (takes_of rfl rfl rfl rfl) (pmk_oex TE.oex TE.iC TE.tI GI hr2 TE.bI .nil pass0 (by rfl) TE.gC (pa_cons (pv 2) pa_nil)))) pss_nil)
        (pss_one (ps_expr (pe_bm PySem.F.plainAttrs_list PySem.F.slot_list_append PySem.F.type_list_append mt_append (pv 1) (pa_cons (pv 4) pa_nil)))))))
      (pss_one (ps_ret (pv 1)))))), ?_⟩
    walk_at "wn"
    rcases h with ⟨⟨ty, ht, hk⟩, k⟩ | ⟨t, rfl, hl, h⟩
    · refine ⟨_, _, _, _, false, rfl, .ty "str", ht, hk, ?_⟩
      walk_at "wn"
      show tCons _ _ _ _ _
      show tUn _ _ _ _ _
      refine ⟨1, rfl, ?_⟩
      show _ ∧ _
      exact err_made TE (by decide) (by decide) k
    refine ⟨_, _, _, _, true, rfl, .ty "str", .base (.str t), kit_ty (by decide +kernel), ?_⟩
    walk_at "wn"
    refine ⟨Nat.zero_le _, fun p hp => ?_⟩
    walk_at "wn"
    have smH : Same H (upd H p (.lst [])) := fun x o h => by rw [upd_ne (ne_of_none h hp)]; exact h
    rcases h with ⟨rfl, k⟩ | ⟨ht, cs, hx, hw⟩
    · have e : decide (V.str "" = V.str "") = true := decide_eq_true rfl
      rw [e]
      walk_at "wn"
      exact k _ _ smH
    have e : decide (V.str t = V.str "") = false := decide_eq_false fun z => ht (str_inj.mp z)
    rw [e]
    walk_at "wn"
    have sle := split_le (t := t) (sep := "\n") rfl
    refine ⟨_, rfl, ⟨_, rfl⟩, t, "\n", rfl, rfl, rfl, by rw [sizeLine_eq]; omega, fun q hq => ?_⟩
    have nqp : p ≠ q := fun z => by
      rw [← z, upd_same] at hq
      cases hq
    walk_at "wn"
    refine ⟨q, _, rfl, SqL.of upd_same, ?_⟩
    refine for_it (walk_enum (xs := (Txt.split t "\n").map V.str)) (fun j σ' H3 => ∃ (acc : List V) (u v w : Option V), σ' = [some (.str t), some (.ref p), u, v, w] ∧ Same H H3 ∧ H3 q = some (.lst ((Txt.split t "\n").map V.str)) ∧ H3 p = some (.lst acc) ∧ acc.length = j ∧ ∀ i, i < j → cs[i]? ≠ some none) ?_ ?_ ?_ ?_
    · refine ⟨[], none, none, none, rfl, fun x o h => ?_, upd_same, ?_, rfl, fun i hi => absurd hi (Nat.not_lt_zero i)⟩
      · rw [upd_ne (ne_of_none (smH _ _ h) hq)]
        exact smH _ _ h
      · rw [upd_ne nqp, upd_same]
    · rintro j σ' H3 hj ⟨acc, u, v, w, rfl, sm, h1, h2, h3, h4⟩
      exact SqL.of h1
    · rintro j x σ' H3 H4 hj ⟨acc, u, v, w, rfl, sm, h1, h2, h3, h4⟩ ⟨T1, x1, y1, rfl, nT, rfl, ex, ey⟩
      obtain rfl := Option.some.inj ex
      have ey : ((Txt.split t "\n").map V.str)[j]? = some y1 := ey
      rw [List.getElem?_map] at ey
      cases el : (Txt.split t "\n")[j]? with
      | none => rw [el] at ey; cases ey
      | some line =>
      rw [el] at ey
      cases ey
      obtain ⟨c, exs, ln⟩ := Paired.get? hx el
      have hjl : j ≤ 9001 := by
        rw [List.length_map] at hj
        have := sle.1
        omega
      have smT : Same H3 (upd H3 T1 (.tup [V.int (j : Int), V.str line])) := fun c o e => by rw [upd_ne (ne_of_none e nT)]; exact e
      refine ⟨T1, _, rfl, SqT.of upd_same, rfl, _, _, rfl, ?_⟩
      walk_at "wn"
      refine ⟨_, _, rfl, ?_⟩
      walk_at "wn"
      refine ⟨rfl, ?_⟩
      walk_at "wn"
      refine ⟨line, c, rfl, Nat.le_trans (sle.2 line (List.mem_of_getElem? el)) (by omega), ln, ?_⟩
      cases c with
      | none =>
        intro H5 sm5
        walk_at "wn"
        show tCons _ _ _ _ _
        walk_at "wn"
        refine err_made TE (nat_small hjl).1 (nat_small hjl).2 ?_
        rcases hw with ⟨hw, _⟩ | ⟨m, hm, hm2, k⟩
        · exact absurd rfl (hw _ (List.mem_of_getElem? exs))
        · obtain rfl : m = j := by
            rcases Nat.lt_trichotomy m j with z | z | z
            · exact absurd hm (h4 m z)
            · exact z
            · exact absurd exs (hm2 j z)
          have s3 := sm.trans (smT.trans sm5)
          exact fun d H2 hd s2 h2 => k d H2 (s3.free hd) (s3.trans s2) h2
      | some xs =>
        intro H5 r hr0 sm5 hr1
        walk_at "wn"
        have e : decide (V.ref r = V.non) = false := decide_eq_false fun z => nomatch z
        rw [e]
        walk_at "wn"
        have sm6 := smT.trans sm5
        have hp5 := sm6 _ _ h2
        walk_at "wn"
        refine ⟨p, acc, _, rfl, rfl, hp5, by rw [sizeLine_eq]; omega, ?_⟩
        have keep : ∀ {c : Addr} {o : HO}, c ≠ p → H5 c = some o → upd H5 p (.lst (acc ++ [V.ref r])) c = some o := fun n e => by rw [upd_ne n]; exact e
        refine ⟨acc ++ [V.ref r], _, _, _, rfl, fun c o e => keep (ne_of_none e hp) (sm6 _ _ (sm _ _ e)), keep nqp.symm (sm6 _ _ h1), upd_same, by rw [List.length_append, h3]; rfl, fun i hi => ?_⟩
        rcases Nat.lt_or_ge i j with z | z
        · exact h4 i z
        · obtain rfl : i = j := by omega
          rw [exs]
          exact fun z => nomatch z
    · rintro σ' H3 ⟨acc, u, v, w, rfl, sm, h1, h2, h3, h4⟩
      walk_at "wn"
      rcases hw with ⟨_, k⟩ | ⟨m, hm, hm2, k⟩
      · exact k _ _ sm
      · refine absurd hm (h4 m ?_)
        rw [List.length_map, hx.length]
        exact (List.getElem?_eq_some_iff.mp hm).1
end
end Wn

namespace Wn
open PySem PySem.Spec PyProof.Rows L2 Evl
local macro_rules | `(tactic| walk_at "wn1") => `(tactic| first | ((with_reducible show (if (!decide _) = true then _ else _)); refine' g_nes ?_) | ((with_reducible show (if (decide _) = true then _ else _)); refine' g_es ?_) | with_reducible first
  | (refine' g_var ?h ?q; (case h => with_unfolding_all rfl))
  | refine' g_c ?_ | refine' g_op ?_ | refine' g_rI0 ?_ | refine' g_asg ?_ | refine' g_name ?_ | refine' g_seq ?_ | refine' g_ret ?_ | refine' g_retN ?_ | refine' g_next ?_ | refine' g_drop ?_
  | refine' g_nil ?_ | refine' g_cons ?_ | refine' g_cb ?_ | refine' g_test ?_ | refine' g_bl ?_ | refine' g_if ?_ | refine' g_ifs ?_ | refine' g_not ?_ | refine' g_part ?_ | refine' g_pint ?_ | refine' g_nopart ?_ | refine' g_call ?_
  | (refine' g_mul ?h ?q; (case h => with_unfolding_all first | exact Or.inl ⟨by decide, by decide⟩ | exact Or.inr ⟨by decide, by decide⟩ | exact Or.inl ⟨by omega, by omega⟩ | exact Or.inr ⟨by omega, by omega⟩))
  | (refine' g_mod ?h ?q; (case h => with_unfolding_all first | decide | omega))
  | refine' g_rIsN ?_ | refine' g_rNotN ?_ | refine' g_max2 ?_ | refine' g_min2 ?_ | refine' g_and ?_ | refine' g_or ?_ | refine' g_orV ?_ | refine' g_andV ?_ | refine' g_notV ?_ | refine' g_m1 ?_ | refine' g_yes ?_ | refine' g_bm ?_ | refine' g_bm0 ?_
  | (refine' g_tyL ?h ?q; (case h => first | assumption | exact upd_same))
  | refine' g_m0 ?_ | refine' g_tB ?_ | refine' g_isS ?_ | refine' g_bT ?_ | refine' g_bF ?_ | refine' g_bNT ?_ | refine' g_callK ?_ | refine' g_bNF ?_
  | (refine' g_lenL ?h ?q; (case h => first | assumption | exact upd_same))
  | refine' g_un ?_ | refine' g_rint _ ?_ | refine' g_rabs ?_ | refine' g_sl ?_ 
  | (refine' g_ixL ?h ?a ?q; (case h => first | assumption | exact upd_same); (case a => with_unfolding_all rfl))
  | (refine' g_div ?h0 ?h1 ?q; (case h0 => with_unfolding_all first | decide | omega); (case h1 => with_unfolding_all first | decide | omega))
  | refine' g_sub ?_
  | (refine' g_setL ?h ?a ?q; (case h => first | assumption | exact upd_same); (case a => with_unfolding_all rfl))
  | refine' g_lst ?_ | refine' g_tup ?_
  | (refine' g_rEq ?h ?q; (case h => with_unfolding_all rfl)) | (refine' g_rNe ?h ?q; (case h => with_unfolding_all rfl)))
local macro_rules | `(tactic| walk_at "wn") => `(tactic| repeat walk_at "wn1")

abbrev sIsNum : Stmt := top 19
abbrev sIsCall : Stmt := top 20
abbrev sLine : Stmt := top 21
abbrev sBent : Stmt := top 22
abbrev sRefused : Stmt := top 23
abbrev sLaw : Stmt := top 24
def signs (t : Str) : List V := t.cps.toList.map fun c => V.str ⟨#[c]⟩
/-! list(a text) -/
def rListS : List V → Hp → VK → Prop := fun xs H Q => ∃ t : Str, xs = [.str t] ∧ t.length ≤ 10000 ∧ ∀ l, H l = none → Q (.ref l) (upd H l (.lst (signs t)))
theorem pairedOf {α β : Type} {R : α → β → Prop} : ∀ {xs : List α} {ys : List β}, xs.length = ys.length → (∀ (i : Nat) x y, xs[i]? = some x → ys[i]? = some y → R x y) → Paired R xs ys
  | [], [], _, _ => .nil
  | [], _ :: _, h, _ => by cases h
  | _ :: _, [], h, _ => by cases h
  | x :: xs, y :: ys, h, k => .cons (k 0 x y rfl rfl) (pairedOf (Nat.succ.inj h) fun i a b e1 e2 => k (i + 1) a b e1 e2)
theorem vals_signs {t : Str} {acc : Array Value} (h : ItemsOf (SignAt t) acc t.cps.size) : Vals (signs t) acc.toList := by
  obtain ⟨hs, hi⟩ := h
  refine pairedOf (by rw [signs, List.length_map, Array.length_toList, Array.length_toList, hs]) fun i x v hx hv => ?_
  rw [signs, List.getElem?_map] at hx
  rw [Array.getElem?_toList] at hv
  obtain ⟨c, u, e1, rfl⟩ := hi i v hv
  rw [Array.getElem?_toList, e1] at hx
  cases hx
  exact ⟨u, rfl⟩
theorem cListS {X : Cx} (hc : X.calm = true) : CallR X (.type "list") rListS := by
  rintro pins s σ H xs us Q I r ⟨t, rfl, hl, k⟩
  cases r with
  | cons r rr =>
    cases rr
    obtain ⟨u, rfl⟩ := r
    have hz : t.cps.size ≤ sizeLine := by rw [sizeLine_eq]; exact Nat.le_trans hl (by decide)
    refine call_list_str (I.ok.hd hc) t u (fun h' tk acc c' hk hS hi => ?_) hz
    have nw : H s.heap.objs.size = none := I.hok.fresh (Nat.le_refl _)
    exact ⟨.ref s.heap.objs.size, _, I.laid (o := .lst (signs t)) (t' := tk) hk (Nat.le_refl _) ⟨by rw [signs, List.length_map, Array.length_toList]; exact hz, acc.toList, c', vals_signs hi, hS⟩, rfl, k _ nw⟩
end Wn

namespace Wn
open PySem PySem.Spec PyProof.Rows L2 Evl
local macro_rules | `(tactic| walk_at "wn1") => `(tactic| first | ((with_reducible show (if (!decide _) = true then _ else _)); refine' g_nes ?_) | ((with_reducible show (if (decide _) = true then _ else _)); refine' g_es ?_) | with_reducible first
  | (refine' g_var ?h ?q; (case h => with_unfolding_all rfl))
  | refine' g_c ?_ | refine' g_op ?_ | refine' g_rI0 ?_ | refine' g_asg ?_ | refine' g_name ?_ | refine' g_seq ?_ | refine' g_ret ?_ | refine' g_retN ?_ | refine' g_next ?_ | refine' g_drop ?_
  | refine' g_nil ?_ | refine' g_cons ?_ | refine' g_cb ?_ | refine' g_test ?_ | refine' g_bl ?_ | refine' g_if ?_ | refine' g_ifs ?_ | refine' g_not ?_ | refine' g_part ?_ | refine' g_pint ?_ | refine' g_nopart ?_ | refine' g_call ?_
  | (refine' g_mul ?h ?q; (case h => with_unfolding_all first | exact Or.inl ⟨by decide, by decide⟩ | exact Or.inr ⟨by decide, by decide⟩ | exact Or.inl ⟨by omega, by omega⟩ | exact Or.inr ⟨by omega, by omega⟩))
  | (refine' g_mod ?h ?q; (case h => with_unfolding_all first | decide | omega))
  | refine' g_rIsN ?_ | refine' g_rNotN ?_ | refine' g_max2 ?_ | refine' g_min2 ?_ | refine' g_and ?_ | refine' g_or ?_ | refine' g_orV ?_ | refine' g_andV ?_ | refine' g_notV ?_ | refine' g_m1 ?_ | refine' g_yes ?_ | refine' g_bm ?_ | refine' g_bm0 ?_
  | (refine' g_tyL ?h ?q; (case h => first | assumption | exact upd_same))
  | refine' g_m0 ?_ | refine' g_tB ?_ | refine' g_isS ?_ | refine' g_bT ?_ | refine' g_bF ?_ | refine' g_bNT ?_ | refine' g_callK ?_ | refine' g_bNF ?_
  | (refine' g_lenL ?h ?q; (case h => first | assumption | exact upd_same))
  | refine' g_un ?_ | refine' g_rint _ ?_ | refine' g_rabs ?_ | refine' g_sl ?_ 
  | (refine' g_ixL ?h ?a ?q; (case h => first | assumption | exact upd_same); (case a => with_unfolding_all rfl))
  | (refine' g_div ?h0 ?h1 ?q; (case h0 => with_unfolding_all first | decide | omega); (case h1 => with_unfolding_all first | decide | omega))
  | refine' g_sub ?_
  | (refine' g_setL ?h ?a ?q; (case h => first | assumption | exact upd_same); (case a => with_unfolding_all rfl))
  | refine' g_lst ?_ | refine' g_tup ?_
  | (refine' g_rEq ?h ?q; (case h => with_unfolding_all rfl)) | (refine' g_rNe ?h ?q; (case h => with_unfolding_all rfl)))
local macro_rules | `(tactic| walk_at "wn") => `(tactic| repeat walk_at "wn1")

/-- a text of signs below 128 that are no line feeds -/
def Asc (t : Str) : Prop := ∀ c ∈ t.cps.toList, c < 128 ∧ c ≠ 10
structure LawTxt (mg : Str → Option Value) : Prop where
  list : mg "list" = none
  len : mg "len" = none
  str : mg "str" = none
section
variable {P : Program} {w : World} {K : PySem.W.Frag} {mg : Str → Option Value} {base : Heap}
def badS (c : Nat) : Bool := !inV (.str ⟨#[c]⟩) (signs "0123456789")
def numT (t : Str) : Bool := !(decide (V.str t = V.str "")) && (t.cps.toList.filter badS).isEmpty && decide ((t.length : Int) < 10) && (decide (V.str t = V.str "0") || !decide (V.str ⟨#[first0 t]⟩ = V.str "0"))
def spIsNum : Sp := fun vs H Q _ => ∃ t : Str, vs = [.str t] ∧ t.length ≤ 10000 ∧ Asc t ∧ ∀ H', Same H H' → Q (.bl (numT t)) H'
theorem scIsNum : FnScope ["_law_word", "_law_sign"] ["_law_word"] (defScope sIsNum) := ⟨rfl, rfl, rfl, by decide +kernel, rfl, by decide +kernel, by decide +kernel⟩
theorem flat_signs (t : Str) : (signs t).all flatV = true := by
  rw [signs, List.all_map, List.all_eq_true]
  intro c _
  rfl
theorem filt_signs (l : List Nat) : (l.filter badS).map (fun c => V.str ⟨#[c]⟩) = ((l.map fun c => V.str ⟨#[c]⟩)).filter (fun v => !inV v (signs "0123456789")) := by
  rw [List.filter_map]
  rfl
theorem dp_signs {H : Hp} (l : List Nat) : DpAll K H (l.map fun c => V.str ⟨#[c]⟩) (l.map fun c => PyData.str ⟨#[c]⟩) := by
  induction l with
  | nil => exact .nil
  | cons c l ih => exact .cons (.str _) ih
theorem signs_shaped {l : List Nat} (h : ∀ c ∈ l, c < 1114112) : SeqAt.shaped (.list (l.map fun c => PyData.str ⟨#[c]⟩)) = true := by
  have h1 : ∀ l : List Nat, (∀ c ∈ l, c < 1114112) → PyData.canLayAll0 (l.map fun c => PyData.str ⟨#[c]⟩) = true ∧ PyData.depthAll (l.map fun c => PyData.str ⟨#[c]⟩) = 0 := by
    intro l
    induction l with
    | nil => intro _; exact ⟨rfl, rfl⟩
    | cons c l ih =>
      intro h
      obtain ⟨a, b⟩ := ih fun d hd => h d (List.mem_cons_of_mem _ hd)
      refine ⟨?_, ?_⟩
      · simp only [List.map_cons, PyData.canLayAll0, a, Bool.and_true, PyData.canLay0, PyData.strOk]
        rw [← Array.all_toList]
        simpa using h c (List.mem_cons_self ..)
      · simp only [List.map_cons, PyData.depthAll, b, PyData.depth]
        rfl
  obtain ⟨a, b⟩ := h1 l h
  unfold SeqAt.shaped
  rw [Bool.and_eq_true]
  refine ⟨by simp only [PyData.canLay0]; exact a, decide_eq_true ?_⟩
  simp only [PyData.depth, b]
  decide
theorem okIsNum {f : Addr} {fd : FuncData} (F : Fun K "_law_is_number" "_law_is_number" sIsNum f fd) (T : LawTxt mg) : FnOk P w K mg base CX0 1 f fd ["_law_word"] spIsNum := by
  refine F.ok scIsNum (fun vs H Q E h => ?_) (fun cdv A outer s H vs Q E hr h => ?_)
  · obtain ⟨x, rfl, _⟩ := h
    rfl
  · obtain ⟨t, rfl, hl, ha, k⟩ := h
    have hu := hr.units
    refine ⟨_, pss_cons (ps_if (PW.pt (pw_or (pt_cmpR op_eq (pv 0) pe_str (nomark _)) (pw_or1 (pt_cmpR (op_neD hu) (pe_lc (own := [("_law_sign", 1)]) (g := gName 1) (tt := tTest (tOp (rIn K true) (tVar 1) (tCB rListS (tCons (tC (.str "0123456789")) tNil)))) rfl scIsNum.nd (pi_str (pv 0)) (blkOk_by (N := ["_law_word", "_law_sign"]) (sc := defScope sIsNum) (by decide +kernel)) (fun _ _ _ _ _ => pg_name (i := 1) scIsNum.nd rfl (Or.inl rfl))
        (fun _ _ _ _ _ => pts_one (pt_cmpR op_notIn_seq (pv 1) (pe_callTy (cListS rfl) (by rfl) T.list PyProof.Rows.boot_list (pa_cons pe_str pa_nil)) (by rfl))) (fun _ _ _ _ _ => pv 1)) (pe_lst pa_nil) (nomark _))))) (pss_one (ps_ret pe_bl)) pss_nil)
      (pss_one (ps_ret (pe_and (pe_cmpR op_lt (pe_callB cLenS (by rfl) T.len PySem.boot_len (pa_cons (pv 0) pa_nil)) pe_int (nomark _)) (pe_one (pe_or (pe_cmpR op_eq (pv 0) pe_str (nomark _)) (pe_one (pe_cmpR op_ne (pe_ix ix_str (pv 0) pe_int (fun _ _ => rfl)) pe_str (nomark _)))))))), ?_⟩
    walk_at "wn"
    by_cases hz : V.str t = V.str ""
    · rw [decide_eq_true hz]
      walk_at "wn"
      have e : numT t = false := by unfold numT; rw [decide_eq_true hz]; rfl
      have z := k H (Same.refl H)
      rw [e] at z
      exact z
    rw [decide_eq_false hz]
    walk_at "wn"
    show iStr _ _ _ _
    show tVar 0 _ _ _
    refine ⟨_, rfl, t, rfl, fun D hD => ?_⟩
    refine lc_it walk_str (fun i H' => Same H H' ∧ H' D = some (.lst (((t.cps.toList.take i).filter badS).map fun c => V.str ⟨#[c]⟩))) ⟨fun a o e => by rw [upd_ne (ne_of_none e hD)]; exact e, upd_same⟩ (fun _ _ _ _ => trivial) ?_ ?_
    · rintro i x H1 H2 hi ⟨sm, h1⟩ ⟨rfl, c, ec, rfl⟩
      refine ⟨rfl, ?_⟩
      show tTest _ _ _ _
      walk_at "wn"
      refine ⟨"0123456789", rfl, by decide, fun l hl => ?_⟩
      walk_at "wn"
      refine ⟨l, signs "0123456789", rfl, .inl (SqL.of upd_same), rfl, flat_signs _, ?_⟩
      refine ⟨badS c, rfl, ?_⟩
      have et : (t.cps.toList.take (i + 1)).filter badS = (t.cps.toList.take i).filter badS ++ (if badS c = true then [c] else []) := by
        have e1 : t.cps.toList[i]? = some c := by rw [Array.getElem?_toList]; exact ec
        rw [List.take_add_one, e1, List.filter_append]
        congr 1
        show List.filter badS [c] = _
        rw [List.filter_cons]
        rfl
      have sm1 : Same H2 (upd H2 l (.lst (signs "0123456789"))) := fun a o e => by rw [upd_ne (ne_of_none e hl)]; exact e
      rw [et]
      refine ite2 (fun hb => ?_) (fun hb => ?_)
      · rw [if_pos hb, List.map_append]
        refine ⟨_, rfl, _, sm1 _ _ h1, ?_, fun a o e => ?_, upd_same⟩
        · rw [List.length_map]
          have f1 := List.length_filter_le badS (t.cps.toList.take i)
          have f2 := List.length_take (i := i) (l := t.cps.toList)
          have f3 : t.cps.toList.length = t.length := Array.length_toList
          rw [sizeLine_eq]
          omega
        · rw [upd_ne (ne_of_none e hD)]
          exact sm1 _ _ (sm _ _ e)
      · rw [if_neg hb, List.append_nil]
        exact ⟨sm.trans sm1, sm1 _ _ h1⟩
    · rintro H1 ⟨sm, h1⟩
      have f3 : t.cps.toList.length = t.cps.size := Array.length_toList
      rw [← f3, List.take_length] at h1
      walk_at "wn"
      refine ⟨Nat.zero_le _, fun p hp => ?_⟩
      have sm1 : Same H1 (upd H1 p (.lst [])) := fun a o e => by rw [upd_ne (ne_of_none e hp)]; exact e
      have sm2 := sm.trans sm1
      walk_at "wn"
      refine ⟨_, .list [], .lst (SqL.of (sm1 _ _ h1)) (dp_signs _), .lst (SqL.of upd_same) .nil, signs_shaped (fun c hc => ?_), by decide, ?_⟩
      · have := (ha c (List.mem_filter.mp hc).1).1
        omega
      have z := k _ sm2
      unfold numT at z
      rw [decide_eq_false hz] at z
      cases hf : t.cps.toList.filter badS with
      | cons c r =>
        rw [hf] at z
        walk_at "wn"
        exact z
      | nil =>
        rw [hf] at z
        have e9 : (!PyData.eqv (.list (([] : List Nat).map fun c => PyData.str ⟨#[c]⟩)) (.list [])) = false := by decide
        rw [e9]
        walk_at "wn"
        refine ⟨t, rfl, by rw [sizeLine_eq]; omega, ?_⟩
        walk_at "wn"
        by_cases h9 : (t.length : Int) < 10
        · rw [decide_eq_true h9] at z ⊢
          walk_at "wn"
          by_cases h0 : V.str t = V.str "0"
          · rw [decide_eq_true h0] at z ⊢
            walk_at "wn"
            exact z
          rw [decide_eq_false h0] at z ⊢
          walk_at "wn"
          have hpos : 0 < t.cps.toList.length := by
            rcases Nat.eq_zero_or_pos t.cps.toList.length with q | q
            · exfalso
              apply hz
              have q1 : t.cps = #[] := by
                apply Array.toList_inj.mp
                exact List.length_eq_zero_iff.mp q
              cases t
              cases q1
              rfl
            · exact q
          have e1 : t.cps.toList[0]? = some (first0 t) := by
            unfold first0
            rw [List.getD_eq_getElem?_getD, List.getElem?_eq_getElem hpos]
            rfl
          refine ⟨t, _, first0 t, rfl, rfl, by rw [sizeLine_eq]; omega, atI_nat (j := 0) e1, ?_⟩
          walk_at "wn"
          exact z
        · rw [decide_eq_false h9] at z ⊢
          walk_at "wn"
          exact z
end
end Wn

namespace Wn
open PySem PySem.Spec PyProof.Rows L2 Evl
theorem split_ne (x y : Str) : Txt.split x y ≠ [] := by
  unfold Txt.split
  split
  · simp
  split
  · simp
  unfold Builtin.Str.partsBetween
  simp
theorem bad_digit : ∀ c, c < 128 → badS c = !Unicode.isDigit c := by decide +kernel
theorem empty_iff (t : Str) : (V.str t = V.str "") ↔ t.cps.size = 0 := by
  refine ⟨fun h => ?_, fun h => ?_⟩
  · cases h
    rfl
  · have : t.cps = #[] := Array.eq_empty_of_size_eq_zero h
    cases t
    cases this
    rfl
theorem num_is {t : Str} (h : Asc t) : numT t = isIntT t := by
  have ea : Txt.isascii t = true := by
    unfold Txt.isascii
    rw [← Array.all_toList, List.all_eq_true]
    intro c hc
    exact decide_eq_true (h c hc).1
  have ed : Txt.isdigit t = (!(decide (V.str t = V.str "")) && (t.cps.toList.filter badS).isEmpty) := by
    unfold Txt.isdigit
    have e1 : (t.cps.toList.filter badS).isEmpty = t.cps.all Unicode.isDigit := by
      rw [← Array.all_toList]
      have : ∀ l : List Nat, (∀ c ∈ l, c < 128) → (l.filter badS).isEmpty = l.all Unicode.isDigit := by
        intro l
        induction l with
        | nil => intro _; rfl
        | cons c l ih =>
          intro hl
          have i := ih fun d hd => hl d (List.mem_cons_of_mem _ hd)
          have b := bad_digit c (hl c (List.mem_cons_self ..))
          rw [List.filter_cons, List.all_cons]
          cases hc : Unicode.isDigit c with
          | true =>
            rw [hc] at b
            rw [b, Bool.true_and]
            exact i
          | false =>
            rw [hc] at b
            rw [b]
            rfl
      exact this _ fun c hc => (h c hc).1
    rw [e1]
    have e2 : decide (0 < t.cps.size) = !(decide (V.str t = V.str "")) := by
      by_cases z : t.cps.size = 0
      · rw [decide_eq_true ((empty_iff t).mpr z), z]
        rfl
      · rw [decide_eq_false fun q => z ((empty_iff t).mp q), decide_eq_true (Nat.pos_of_ne_zero z)]
        rfl
    have e3 : decide (t.length > 0) = !(decide (V.str t = V.str "")) := e2
    rw [e3]
  have el : decide ((t.length : Int) < 10) = !decide ((9 : Int) < (t.length : Int)) := by
    by_cases z : (9 : Int) < (t.length : Int)
    · rw [decide_eq_true z, decide_eq_false (by omega)]
      rfl
    · rw [decide_eq_false z, decide_eq_true (by omega)]
      rfl
  unfold numT isIntT
  rw [ea, ed, el, Bool.true_and]
end Wn

namespace Wn
open PySem PySem.Spec PyProof.Rows L2 Evl
def manyK : List (Key × V) := [(.inr "new_source", .int 1), (.inr "new_set", .int 1), (.inr "fork", .int 1), (.inr "end", .int 1), (.inr "numbers", .int 1), (.inr "close", .int 2), (.inr "finish", .int 2), (.inr "units", .int 2)]
def moreK : List (Key × V) := [(.inr "copy", .int 3), (.inr "read", .int 3), (.inr "arrive", .int 3), (.inr "remove", .int 3), (.inr "wait", .int 3), (.inr "same", .int 4), (.inr "add", .int 5), (.inr "change", .int 4)]
def countV (n : Str) : V := (valV (mergeK [] manyK) (.inr n)).getD ((valV (mergeK [] moreK) (.inr n)).getD (.int (-1)))
def okP (name : Str) (parts : List Str) : Bool := match kindsL.lookup name with
  | none => false
  | some ks => decide (parts.length = ks.length) && (List.zipWith isArgT ks parts).all id
def okT (t : Str) : Bool := match Txt.split t " " with
  | name :: parts => okP name parts
  | [] => false
theorem merge_many : mergeK [] manyK = manyK := by rfl
theorem merge_more : mergeK [] moreK = moreK := by rfl
theorem lookup_mem : ∀ {l : List (Str × List Str)} {n : Str} {ks : List Str}, l.lookup n = some ks → (n, ks) ∈ l
  | [], _, _, h => by cases h
  | (a, b) :: l, n, ks, h => by
    rw [List.lookup_cons] at h
    by_cases e : (n == a) = true
    · rw [e] at h
      cases h
      obtain rfl := eq_of_beq e
      exact List.mem_cons_self ..
    · rw [Bool.eq_false_iff.mpr e] at h
      exact List.mem_cons_of_mem _ (lookup_mem h)
theorem lookup_none : ∀ {l : List (Str × List Str)} {n : Str}, l.lookup n = none → ∀ ks, (n, ks) ∉ l
  | [], _, _, _ => by simp
  | (a, b) :: l, n, h, ks => by
    rw [List.lookup_cons] at h
    by_cases e : (n == a) = true
    · rw [e] at h
      cases h
    · rw [Bool.eq_false_iff.mpr e] at h
      intro m
      rcases List.mem_cons.mp m with q | q
      · cases q
        exact e (beq_self_eq_true _)
      · exact lookup_none h ks q
inductive KShape (name : Str) (ks : List Str) : Prop
  | kI (n : Nat) (h0 : 0 < n) (h : ks = List.replicate n ("integer" : Str)) (a : inV (.str name) [.str "add", .str "change"] = false) (c : inV (.str name) [.str "copy", .str "read"] = false)
  | kW (n : Nat) (h0 : 0 < n) (h : ks = List.replicate n ("integer" : Str) ++ [("word" : Str)]) (a : inV (.str name) [.str "add", .str "change"] = true) (c : inV (.str name) [.str "copy", .str "read"] = false)
  | kO (n : Nat) (h0 : 0 < n) (h : ks = List.replicate n ("integer" : Str) ++ [("optional" : Str)]) (a : inV (.str name) [.str "add", .str "change"] = false) (c : inV (.str name) [.str "copy", .str "read"] = true)
theorem kinds_shape {name : Str} {ks : List Str} (m : (name, ks) ∈ kindsL) : countV name = .int ks.length ∧ KShape name ks := by
  simp only [kindsL, List.mem_cons, List.not_mem_nil, or_false] at m
  rcases m with h | h | h | h | h | h | h | h | h | h | h | h | h | h | h | h <;> cases h
  · exact ⟨rfl, .kI 1 (by decide) rfl (by decide) (by decide)⟩
  · exact ⟨rfl, .kI 1 (by decide) rfl (by decide) (by decide)⟩
  · exact ⟨rfl, .kO 2 (by decide) rfl (by decide) (by decide)⟩
  · exact ⟨rfl, .kI 2 (by decide) rfl (by decide) (by decide)⟩
  · exact ⟨rfl, .kI 1 (by decide) rfl (by decide) (by decide)⟩
  · exact ⟨rfl, .kI 1 (by decide) rfl (by decide) (by decide)⟩
  · exact ⟨rfl, .kI 3 (by decide) rfl (by decide) (by decide)⟩
  · exact ⟨rfl, .kI 2 (by decide) rfl (by decide) (by decide)⟩
  · exact ⟨rfl, .kO 2 (by decide) rfl (by decide) (by decide)⟩
  · exact ⟨rfl, .kW 4 (by decide) rfl (by decide) (by decide)⟩
  · exact ⟨rfl, .kW 3 (by decide) rfl (by decide) (by decide)⟩
  · exact ⟨rfl, .kI 3 (by decide) rfl (by decide) (by decide)⟩
  · exact ⟨rfl, .kI 3 (by decide) rfl (by decide) (by decide)⟩
  · exact ⟨rfl, .kI 1 (by decide) rfl (by decide) (by decide)⟩
  · exact ⟨rfl, .kI 4 (by decide) rfl (by decide) (by decide)⟩
  · exact ⟨rfl, .kI 2 (by decide) rfl (by decide) (by decide)⟩
theorem find_none {l : List (Key × V)} {n : Str} (h : ∀ kv ∈ l, kv.1 ≠ .inr n) : valV l (.inr n : Key) = none := by
  unfold valV
  rw [List.find?_eq_none.mpr fun kv hkv => by simpa using h kv hkv]
  rfl
theorem count_none {name : Str} (m : ∀ ks, (name, ks) ∉ kindsL) : countV name = .int (-1) := by
  have key : ∀ k : Str, (kindsL.lookup k).isSome = true → (Sum.inr k : Key) ≠ Sum.inr name := fun k hk e => by
    cases e
    obtain ⟨ks, hk⟩ := Option.isSome_iff_exists.mp hk
    exact m ks (lookup_mem hk)
  have a1 : valV manyK (.inr name : Key) = none := find_none (by
    intro kv hkv
    simp only [manyK, List.mem_cons, List.not_mem_nil, or_false] at hkv
    rcases hkv with rfl | rfl | rfl | rfl | rfl | rfl | rfl | rfl <;> exact key _ (by decide +kernel))
  have a2 : valV moreK (.inr name : Key) = none := find_none (by
    intro kv hkv
    simp only [moreK, List.mem_cons, List.not_mem_nil, or_false] at hkv
    rcases hkv with rfl | rfl | rfl | rfl | rfl | rfl | rfl | rfl <;> exact key _ (by decide +kernel))
  unfold countV
  rw [merge_many, merge_more, a1, a2]
  rfl
theorem all_ints : ∀ (n : Nat) (parts : List Str), parts.length = n → (List.zipWith isArgT (List.replicate n ("integer" : Str)) parts).all id = parts.all isIntT
  | 0, [], _ => rfl
  | 0, _ :: _, h => by cases h
  | _ + 1, [], h => by cases h
  | n + 1, p :: ps, h => by
    rw [List.replicate_succ, List.zipWith_cons_cons, List.all_cons, List.all_cons, all_ints n ps (Nat.succ.inj h)]
    rfl
theorem cut_tail (v : V) (l : List V) : cutV (v :: l) (some 1) none = l := by
  unfold cutV HT.sIx
  simp
theorem cut_init (v : V) (l : List V) : cutV (l ++ [v]) none (some (-1)) = l := by
  unfold cutV HT.sIx
  simp
  rw [show (-1 + ((l.length : Int) + 1)).toNat = l.length by omega, List.take_left']
  rfl
theorem all_last (k : Str) {n : Nat} {init : List Str} {last : Str} (h : init.length = n) : (List.zipWith isArgT (List.replicate n ("integer" : Str) ++ [k]) (init ++ [last])).all id = (init.all isIntT && isArgT k last) := by
  rw [List.zipWith_append (by rw [List.length_replicate, h]), List.all_append, all_ints n init h]
  simp
theorem arg_word (p : Str) : isArgT "word" p = inV (.str p) (wordsL.map V.str) := by
  unfold isArgT
  rw [if_pos rfl]
theorem arg_opt (p : Str) : isArgT "optional" p = (decide (V.str p = V.str "-") || isIntT p) := by
  unfold isArgT
  rw [if_neg (by decide)]
  by_cases h : p = "-"
  · rw [if_pos ⟨rfl, h⟩, decide_eq_true (str_inj.mpr h)]
    rfl
  · rw [if_neg fun z => h z.2, decide_eq_false fun z => h (str_inj.mp z)]
    rfl
theorem last_of {n : Nat} {parts : List Str} (h : parts.length = n + 1) : ∃ init last, parts = init ++ [last] ∧ init.length = n := by
  have ne : parts ≠ [] := fun z => by rw [z] at h; cases h
  refine ⟨parts.dropLast, parts.getLast ne, (List.dropLast_concat_getLast ne).symm, ?_⟩
  rw [List.length_dropLast, h]
  rfl
theorem cps_app (x y : Str) : (x ++ y).cps.toList = x.cps.toList ++ y.cps.toList := by
  show (x.cps ++ y.cps).toList = _
  rw [Array.toList_append]
theorem mem_join (sep : Str) : ∀ (l : List Str) (p : Str), p ∈ l → ∀ c ∈ p.cps.toList, c ∈ (Str.join sep l).cps.toList
  | [], _, h, _, _ => nomatch h
  | [x], p, h, c, hc => by
    obtain rfl := List.mem_singleton.mp h
    exact hc
  | x :: y :: r, p, h, c, hc => by
    show c ∈ (x ++ sep ++ Str.join sep (y :: r)).cps.toList
    rw [cps_app, cps_app]
    rcases List.mem_cons.mp h with rfl | h
    · exact List.mem_append.mpr (.inl (List.mem_append.mpr (.inl hc)))
    · exact List.mem_append.mpr (.inr (mem_join sep (y :: r) p h c hc))
theorem asc_split {t : Str} (h : Asc t) : ∀ p ∈ Txt.split t " ", Asc p := by
  intro p hp c hc
  have m := mem_join " " _ p hp c hc
  rw [StrLaws.join_split] at m
  exact h c m
theorem last_at (l : List V) (v : V) : atI (l ++ [v]) (-1) = some v := by
  have e : ixN (l ++ [v]).length (-1) = some l.length := by
    unfold ixN
    rw [if_neg (by decide), List.length_append, if_pos (by simp; omega)]
    simp
    omega
  unfold atI
  rw [e]
  show (l ++ [v])[l.length]? = some v
  rw [List.getElem?_append_right (Nat.le_refl _), Nat.sub_self]
  rfl
end Wn

namespace Wn
open PySem PySem.Spec PyProof.Rows L2 Evl
local macro_rules | `(tactic| walk_at "wn1") => `(tactic| first | ((with_reducible show (if (!decide _) = true then _ else _)); refine' g_nes ?_) | ((with_reducible show (if (decide _) = true then _ else _)); refine' g_es ?_) | with_reducible first
  | (refine' g_var ?h ?q; (case h => with_unfolding_all rfl))
  | refine' g_c ?_ | refine' g_op ?_ | refine' g_rI0 ?_ | refine' g_asg ?_ | refine' g_name ?_ | refine' g_seq ?_ | refine' g_ret ?_ | refine' g_retN ?_ | refine' g_next ?_ | refine' g_drop ?_
  | refine' g_nil ?_ | refine' g_cons ?_ | refine' g_cb ?_ | refine' g_test ?_ | refine' g_bl ?_ | refine' g_if ?_ | refine' g_ifs ?_ | refine' g_not ?_ | refine' g_part ?_ | refine' g_pint ?_ | refine' g_nopart ?_ | refine' g_call ?_
  | (refine' g_mul ?h ?q; (case h => with_unfolding_all first | exact Or.inl ⟨by decide, by decide⟩ | exact Or.inr ⟨by decide, by decide⟩ | exact Or.inl ⟨by omega, by omega⟩ | exact Or.inr ⟨by omega, by omega⟩))
  | (refine' g_mod ?h ?q; (case h => with_unfolding_all first | decide | omega))
  | refine' g_rIsN ?_ | refine' g_rNotN ?_ | refine' g_max2 ?_ | refine' g_min2 ?_ | refine' g_and ?_ | refine' g_or ?_ | refine' g_orV ?_ | refine' g_andV ?_ | refine' g_notV ?_ | refine' g_m1 ?_ | refine' g_yes ?_ | refine' g_bm ?_ | refine' g_bm0 ?_
  | (refine' g_tyL ?h ?q; (case h => first | assumption | exact upd_same))
  | refine' g_m0 ?_ | refine' g_tB ?_ | refine' g_isS ?_ | refine' g_bT ?_ | refine' g_bF ?_ | refine' g_bNT ?_ | refine' g_callK ?_ | refine' g_bNF ?_
  | (refine' g_lenL ?h ?q; (case h => first | assumption | exact upd_same))
  | refine' g_un ?_ | refine' g_rint _ ?_ | refine' g_rabs ?_ | refine' g_sl ?_ 
  | (refine' g_ixL ?h ?a ?q; (case h => first | assumption | exact upd_same); (case a => with_unfolding_all rfl))
  | (refine' g_div ?h0 ?h1 ?q; (case h0 => with_unfolding_all first | decide | omega); (case h1 => with_unfolding_all first | decide | omega))
  | refine' g_sub ?_
  | (refine' g_setL ?h ?a ?q; (case h => first | assumption | exact upd_same); (case a => with_unfolding_all rfl))
  | refine' g_lst ?_ | refine' g_tup ?_
  | (refine' g_rEq ?h ?q; (case h => with_unfolding_all rfl)) | (refine' g_rNe ?h ?q; (case h => with_unfolding_all rfl)))
local macro_rules | `(tactic| walk_at "wn") => `(tactic| repeat walk_at "wn1")

section
variable {P : Program} {w : World} {K : PySem.W.Frag} {mg : Str → Option Value} {base : Heap}
def spIsCall : Sp := fun vs H Q _ => ∃ t : Str, vs = [.str t] ∧ t.length ≤ 5000 ∧ Asc t ∧ ∀ H', Same H H' → Q (.bl (okT t)) H'
theorem dp_strs {H : Hp} (l : List Str) : DpAll K H (l.map V.str) (l.map PyData.str) := by
  induction l with
  | nil => exact .nil
  | cons c l ih => exact .cons (.str _) ih
theorem strs_shaped {l : List Str} (h : ∀ x ∈ l, Asc x) : SeqAt.shaped (.list (l.map PyData.str)) = true := by
  have h1 : ∀ l : List Str, (∀ x ∈ l, Asc x) → PyData.canLayAll0 (l.map PyData.str) = true ∧ PyData.depthAll (l.map PyData.str) = 0 := by
    intro l
    induction l with
    | nil => intro _; exact ⟨rfl, rfl⟩
    | cons c l ih =>
      intro h
      obtain ⟨a, b⟩ := ih fun d hd => h d (List.mem_cons_of_mem _ hd)
      refine ⟨?_, ?_⟩
      · simp only [List.map_cons, PyData.canLayAll0, a, Bool.and_true, PyData.canLay0, PyData.strOk]
        rw [← Array.all_toList, List.all_eq_true]
        intro d hd
        have := (h c (List.mem_cons_self ..) d hd).1
        exact decide_eq_true (by omega)
      · simp only [List.map_cons, PyData.depthAll, b, PyData.depth]
        rfl
  obtain ⟨a, b⟩ := h1 l h
  unfold SeqAt.shaped
  rw [Bool.and_eq_true]
  refine ⟨by simp only [PyData.canLay0]; exact a, decide_eq_true ?_⟩
  simp only [PyData.depth, b]
  decide
theorem all_num : ∀ {l : List Str}, (∀ x ∈ l, Asc x) → (l.filter fun x => !numT x).isEmpty = l.all isIntT
  | [], _ => rfl
  | x :: l, h => by
    have e := num_is (h x (List.mem_cons_self ..))
    have ih := all_num (l := l) fun d hd => h d (List.mem_cons_of_mem _ hd)
    rw [List.filter_cons, List.all_cons, ← e]
    cases hx : numT x with
    | true =>
      rw [Bool.true_and]
      exact ih
    | false => rfl
theorem iteF' {b : Bool} {A B : Prop} (h : b = false) (q : B) : if b = true then A else B := by
  rw [h]
  exact iteF q
theorem iteT' {b : Bool} {A B : Prop} (h : b = true) (q : A) : if b = true then A else B := by
  rw [h]
  exact iteT q
theorem scIsCall : FnScope ["_law_line_here", "_law_words", "_law_many", "_law_more", "_law_count", "_law_parts", "_law_part"] ["_law_line_here"] (defScope sIsCall) := ⟨rfl, rfl, rfl, by decide +kernel, rfl, by decide +kernel, by decide +kernel⟩
theorem okIsCall {f fN : Addr} {fd fdN : FuncData} (F : Fun K "_law_is_call" "_law_is_call" sIsCall f fd) (T : LawTxt mg) (GN : FnOk P w K mg base CX0 1 fN fdN ["_law_word"] spIsNum) (kN : PySem.W.keepIn K (.ref fN) = true) (gN : mg "_law_is_number" = some (.ref fN)) (bN : Binds K fdN ["_law_word"] []) : FnOk P w K mg base CX0 2 f fd ["_law_line_here"] spIsCall := by
  refine F.ok scIsCall (fun vs H Q E h => ?_) (fun cdv A outer s H vs Q E hr h => ?_)
  · obtain ⟨x, rfl, _⟩ := h
    rfl
  · obtain ⟨t, rfl, hl, ha, k⟩ := h
    have hu := hr.units
    have hu1 : (A.deeper (envOfC "_law_is_call" (defScope sIsCall) s.heap.objs.size f cdv)).units + 1 < cLine := by omega
    refine ⟨_, pss_cons (ps_set (i := 1) scIsCall.nd rfl (Or.inl rfl) (pe_split (pv 0) pe_str))
      (pss_cons (ps_set (i := 2) scIsCall.nd rfl (Or.inl rfl) (pe_disp (pps_cons pe_str pe_int (pps_cons pe_str pe_int (pps_cons pe_str pe_int (pps_cons pe_str pe_int (pps_cons pe_str pe_int (pps_cons pe_str pe_int (pps_cons pe_str pe_int (pps_cons pe_str pe_int pps_nil)))))))) (by rfl) (by rfl) (fun z => by cases z) (by decide)))
      (pss_cons (ps_set (i := 3) scIsCall.nd rfl (Or.inl rfl) (pe_disp (pps_cons pe_str pe_int (pps_cons pe_str pe_int (pps_cons pe_str pe_int (pps_cons pe_str pe_int (pps_cons pe_str pe_int (pps_cons pe_str pe_int (pps_cons pe_str pe_int (pps_cons pe_str pe_int pps_nil)))))))) (by rfl) (by rfl) (fun z => by cases z) (by decide)))
      (pss_cons (ps_set (i := 4) scIsCall.nd rfl (Or.inl rfl) (pe_dget2 hu1 (pv 2) (pe_ix ix_list (pv 1) pe_int (fun _ _ => rfl)) (pe_dget2 hu1 (pv 3) (pe_ix ix_list (pv 1) pe_int (fun _ _ => rfl)) (pe_un un_neg pe_int) ⟨by rfl, by rfl, by rfl, by rfl⟩) ⟨by rfl, by rfl, by rfl, by rfl⟩))
      (pss_cons (ps_set (i := 5) scIsCall.nd rfl (Or.inl rfl) (pe_slice sl_list (pv 1) (po_some pe_int) po_none))
      (pss_cons (ps_if (pt_cmpR op_ne (pe_callB cLenQ (by rfl) T.len PySem.boot_len (pa_cons (pv 5) pa_nil)) (pv 4) (nomark _)) (pss_one (ps_ret pe_bl)) pss_nil)
      (pss_cut (ps_if (pt_cmpR op_in_seq (pe_ix ix_list (pv 1) pe_int (fun _ _ => rfl)) (pe_lst (pa_cons pe_str (pa_cons pe_str pa_nil))) (by rfl))
        (pss_cons (ps_if (pt_cmpR op_notIn_seq (pe_ix ix_list (pv 5) (pe_un un_neg pe_int) (fun _ _ => rfl)) (pe_lst (pa_cons pe_str (pa_cons pe_str (pa_cons pe_str pa_nil)))) (by rfl)) (pss_one (ps_ret pe_bl)) pss_nil)
        (pss_one (ps_set (i := 5) scIsCall.nd rfl (Or.inl rfl) (pe_slice sl_list (pv 5) po_none (po_some (pe_un un_neg pe_int)))))) pss_nil)
      (pss_cut (ps_if (PW.pt (pw_and (pt_cmpR op_in_seq (pe_ix ix_list (pv 1) pe_int (fun _ _ => rfl)) (pe_lst (pa_cons pe_str (pa_cons pe_str pa_nil))) (by rfl)) (pw_and1 (pt_cmpR op_eq (pe_ix ix_list (pv 5) (pe_un un_neg pe_int) (fun _ _ => rfl)) pe_str (nomark _)))))
        (pss_one (ps_set (i := 5) scIsCall.nd rfl (Or.inl rfl) (pe_slice sl_list (pv 5) po_none (po_some (pe_un un_neg pe_int))))) pss_nil)
      (pss_one (ps_ret (pe_cmpR (op_eqD hu) (pe_lc (own := [("_law_part", 6)]) (g := gName 6) (tt := tNot (tTest (tCall spIsNum [] E0 (tCons (tVar 6) tNil)))) rfl scIsCall.nd (pi_list (pv 5)) (blkOk_by (N := ["_law_line_here", "_law_words", "_law_many", "_law_more", "_law_count", "_law_parts", "_law_part"]) (sc := defScope sIsCall) (by decide +kernel)) (fun _ _ _ _ _ => pg_name (i := 6) scIsCall.nd rfl (Or.inl rfl))
        (fun _ _ _ _ _ => pts_one (pt_not (pt_val (pe_call GN hr (by rfl) gN kN bN .nil pass0 (pa_cons (pv 6) pa_nil))))) (fun _ _ _ _ _ => pv 6)) (pe_lst pa_nil) (nomark _))))))))))), ?_⟩
    walk_at "wn"
    have hnm : ∃ (name : Str) (parts : List Str), Txt.split t " " = name :: parts := by
      cases e : Txt.split t " " with
      | nil => exact absurd e (split_ne _ _)
      | cons a b => exact ⟨a, b, rfl⟩
    obtain ⟨name, parts, hsp⟩ := hnm
    have eok : okT t = okP name parts := by unfold okT; rw [hsp]
    rw [eok] at k
    refine ⟨t, " ", rfl, rfl, rfl, by rw [sizeLine_eq]; omega, fun p hp => ?_⟩
    rw [hsp]
    have smp : Same H (upd H p (.lst ((name :: parts).map V.str))) := fun a o e => by rw [upd_ne (ne_of_none e hp)]; exact e
    have atp : upd H p (.lst ((name :: parts).map V.str)) p = some (.lst ((name :: parts).map V.str)) := upd_same
    generalize upd H p (.lst ((name :: parts).map V.str)) = H1 at smp atp
    walk_at "wn"
    show tDisp _ _ _ _
    intro d1 hd1
    refine ⟨upd_same, manyK, rfl, by decide, ?_⟩
    have sm1 : Same H1 (upd (upd H1 d1 (.dK [])) d1 (.dK (mergeK [] manyK))) := fun a o e => by rw [upd_ne (ne_of_none e hd1), upd_ne (ne_of_none e hd1)]; exact e
    have at1 : upd (upd H1 d1 (.dK [])) d1 (.dK (mergeK [] manyK)) d1 = some (.dK (mergeK [] manyK)) := upd_same
    generalize upd (upd H1 d1 (.dK [])) d1 (.dK (mergeK [] manyK)) = H2 at sm1 at1
    walk_at "wn"
    show tDisp _ _ _ _
    intro d2 hd2
    refine ⟨upd_same, moreK, rfl, by decide, ?_⟩
    have sm2 : Same H2 (upd (upd H2 d2 (.dK [])) d2 (.dK (mergeK [] moreK))) := fun a o e => by rw [upd_ne (ne_of_none e hd2), upd_ne (ne_of_none e hd2)]; exact e
    have at2 : upd (upd H2 d2 (.dK [])) d2 (.dK (mergeK [] moreK)) d2 = some (.dK (mergeK [] moreK)) := upd_same
    generalize upd (upd H2 d2 (.dK [])) d2 (.dK (mergeK [] moreK)) = H3 at sm2 at2
    have s3 : Same H H3 := (smp.trans sm1).trans sm2
    have atp3 := sm2 _ _ (sm1 _ _ atp)
    have at13 := sm2 _ _ at1
    walk_at "wn"
    show tDGet2 _ _ _ _ _ _
    refine ⟨_, rfl, d1, rfl, .inl ⟨_, .inl at13⟩, ?_⟩
    walk_at "wn"
    refine ⟨p, _, 0, V.str name, rfl, rfl, SqL.of atp3, atI_nat (j := 0) rfl, ?_⟩
    show tDGet2 _ _ _ _ _ _
    refine ⟨_, rfl, d2, rfl, .inl ⟨_, .inl at2⟩, ?_⟩
    walk_at "wn"
    refine ⟨p, _, 0, V.str name, rfl, rfl, SqL.of atp3, atI_nat (j := 0) rfl, ?_⟩
    show tUn _ _ _ _ _
    refine ⟨1, rfl, ?_⟩
    refine ⟨_, .inl ⟨_, .inr name, .inl at2, rfl, rfl⟩, ?_⟩
    refine ⟨_, .inl ⟨_, .inr name, .inl at13, rfl, rfl⟩, ?_⟩
    show gName 4 (countV name) _ _ _
    walk_at "wn"
    refine ⟨p, _, rfl, SqL.of atp3, fun q hq => ?_⟩
    have ec : cutV ((name :: parts).map V.str) (some 1) none = parts.map V.str := cut_tail _ _
    rw [ec]
    have smq : Same H3 (upd H3 q (.lst (parts.map V.str))) := fun a o e => by rw [upd_ne (ne_of_none e hq)]; exact e
    have atq : upd H3 q (.lst (parts.map V.str)) q = some (.lst (parts.map V.str)) := upd_same
    have atp4 := smq _ _ atp3
    have s4 := s3.trans smq
    generalize upd H3 q (.lst (parts.map V.str)) = H4 at smq atq atp4 s4
    walk_at "wn"
    rw [List.length_map]
    cases hlk : kindsL.lookup name with
    | none =>
      rw [count_none (lookup_none hlk)]
      have eo : okP name parts = false := by unfold okP; rw [hlk]
      rw [eo] at k
      walk_at "wn"
      have e : decide (V.int (parts.length : Int) = V.int (-1)) = false := decide_eq_false fun z => by have := V.int.inj z; omega
      rw [e]
      walk_at "wn"
      exact k H4 s4
    | some ks =>
      obtain ⟨hc, sh⟩ := kinds_shape (lookup_mem hlk)
      rw [hc]
      have eo : okP name parts = (decide (parts.length = ks.length) && (List.zipWith isArgT ks parts).all id) := by unfold okP; rw [hlk]
      rw [eo] at k
      walk_at "wn"
      by_cases hn : parts.length = ks.length
      · have e : decide (V.int (parts.length : Int) = V.int (ks.length : Int)) = true := decide_eq_true (by rw [hn])
        rw [e]
        rw [decide_eq_true hn, Bool.true_and] at k
        walk_at "wn"
        generalize hB : (List.zipWith isArgT ks parts).all id = B at k
        have hasc : ∀ x ∈ parts, Asc x := fun x hx => asc_split ha x (by rw [hsp]; exact List.mem_cons_of_mem _ hx)
        obtain ⟨fl, hfl⟩ : ∃ fl, fl = inV (V.str name) [V.str "copy", V.str "read"] := ⟨_, rfl⟩
        refine ⟨fun σ' H' => ∃ (q' : Addr) (rest : List Str), σ' = [some (.str t), some (.ref p), some (.ref d1), some (.ref d2), some (.int ks.length), some (.ref q'), none] ∧ Same H H' ∧ H' p = some (.lst ((name :: parts).map V.str)) ∧ H' q' = some (.lst (rest.map V.str)) ∧ (∀ x ∈ rest, x ∈ parts) ∧ rest.length ≤ parts.length ∧
          ((fl = false ∧ B = rest.all isIntT) ∨ (fl = true ∧ ∃ init last, rest = init ++ [last] ∧ B = (init.all isIntT && isArgT "optional" last))), ?_, ?_⟩
        · walk_at "wn"
          refine ⟨p, _, 0, V.str name, rfl, rfl, SqL.of atp4, atI_nat (j := 0) rfl, ?_⟩
          walk_at "wn"
          refine ⟨by show 2 ≤ sizeLine; decide, fun l1 hl1 => ?_⟩
          walk_at "wn"
          refine ⟨l1, [V.str "add", V.str "change"], rfl, .inl (SqL.of upd_same), rfl, rfl, ?_⟩
          have sm5 : Same H4 (upd H4 l1 (.lst [V.str "add", V.str "change"])) := fun a o e => by rw [upd_ne (ne_of_none e hl1)]; exact e
          have atp5 := sm5 _ _ atp4
          have atq5 := sm5 _ _ atq
          have s5 := s4.trans sm5
          generalize upd H4 l1 (.lst [V.str "add", V.str "change"]) = H5 at sm5 atp5 atq5 s5
          refine ⟨_, rfl, ?_⟩
          cases sh with
          | kI n h0 h a c =>
            refine iteF' (by show inV _ _ = false; exact a) ?_
            walk_at "wn"
            refine ⟨q, parts, rfl, s5, atp5, atq5, fun x hx => hx, Nat.le_refl _, .inl ⟨hfl.trans c, ?_⟩⟩
            rw [← hB, h, all_ints n parts (by rw [hn, h, List.length_replicate])]
          | kO n h0 h a c =>
            refine iteF' (by show inV _ _ = false; exact a) ?_
            walk_at "wn"
            obtain ⟨init, last, rfl, hi⟩ := last_of (parts := parts) (n := n) (by rw [hn, h, List.length_append, List.length_replicate]; rfl)
            refine ⟨q, _, rfl, s5, atp5, atq5, fun x hx => hx, Nat.le_refl _, .inr ⟨hfl.trans c, init, last, rfl, ?_⟩⟩
            rw [← hB, h, all_last _ hi]
          | kW n h0 h a c =>
            refine iteT' (by show inV _ _ = true; exact a) ?_
            obtain ⟨init, last, rfl, hi⟩ := last_of (parts := parts) (n := n) (by rw [hn, h, List.length_append, List.length_replicate]; rfl)
            have hB2 : B = (init.all isIntT && inV (.str last) (wordsL.map V.str)) := by rw [← hB, h, all_last _ hi, arg_word]
            have hat : atI ((init ++ [last]).map V.str) (-1) = some (V.str last) := by rw [List.map_append]; exact last_at _ _
            have hci : cutV ((init ++ [last]).map V.str) none (some (-1)) = init.map V.str := by rw [List.map_append]; exact cut_init _ _
            walk_at "wn"
            refine ⟨1, rfl, ?_⟩
            refine ⟨q, _, -1, V.str last, rfl, rfl, SqL.of atq5, hat, ?_⟩
            walk_at "wn"
            refine ⟨by show 3 ≤ sizeLine; decide, fun l2 hl2 => ?_⟩
            walk_at "wn"
            refine ⟨l2, [V.str "level", V.str "edge", V.str "once"], rfl, .inl (SqL.of upd_same), rfl, rfl, ?_⟩
            have sm6 : Same H5 (upd H5 l2 (.lst [V.str "level", V.str "edge", V.str "once"])) := fun a o e => by rw [upd_ne (ne_of_none e hl2)]; exact e
            have atp6 := sm6 _ _ atp5
            have atq6 := sm6 _ _ atq5
            have s6 := s5.trans sm6
            generalize upd H5 l2 (.lst [V.str "level", V.str "edge", V.str "once"]) = H6 at sm6 atp6 atq6 s6
            refine ⟨_, rfl, ?_⟩
            cases hw : inV (.str last) (wordsL.map V.str) with
            | false =>
              refine iteT' (by show (!inV _ _) = true; exact congrArg (!·) hw) ?_
              walk_at "wn"
              rw [hB2, hw, Bool.and_false] at k
              exact k H6 s6
            | true =>
              refine iteF' (by show (!inV _ _) = false; exact congrArg (!·) hw) ?_
              walk_at "wn"
              refine ⟨1, rfl, ?_⟩
              walk_at "wn"
              refine ⟨q, _, rfl, SqL.of atq6, fun q2 hq2 => ?_⟩
              have smq2 : Same H6 (upd H6 q2 (.lst (cutV ((init ++ [last]).map V.str) none (some (-1))))) := fun a o e => by rw [upd_ne (ne_of_none e hq2)]; exact e
              refine ⟨q2, init, rfl, s6.trans smq2, smq2 _ _ atp6, by rw [hci]; exact upd_same, fun x hx => List.mem_append.mpr (.inl hx), by rw [List.length_append]; omega, .inl ⟨hfl.trans c, by rw [hB2, hw, Bool.and_true]⟩⟩
        · rintro σ' H6 ⟨q', rest, rfl, s6, atp6, atq6, hsub, hlen, hcase⟩
          refine ⟨fun σ' H' => ∃ (q' : Addr) (rest : List Str), σ' = [some (.str t), some (.ref p), some (.ref d1), some (.ref d2), some (.int ks.length), some (.ref q'), none] ∧ Same H H' ∧ H' q' = some (.lst (rest.map V.str)) ∧ (∀ x ∈ rest, x ∈ parts) ∧ rest.length ≤ parts.length ∧ B = rest.all isIntT, ?_, ?_⟩
          · walk_at "wn"
            refine ⟨p, _, 0, V.str name, rfl, rfl, SqL.of atp6, atI_nat (j := 0) rfl, ?_⟩
            walk_at "wn"
            refine ⟨by show 2 ≤ sizeLine; decide, fun l1 hl1 => ?_⟩
            walk_at "wn"
            refine ⟨l1, [V.str "copy", V.str "read"], rfl, .inl (SqL.of upd_same), rfl, rfl, ?_⟩
            have sm7 : Same H6 (upd H6 l1 (.lst [V.str "copy", V.str "read"])) := fun a o e => by rw [upd_ne (ne_of_none e hl1)]; exact e
            have atq7 := sm7 _ _ atq6
            have s7 := s6.trans sm7
            generalize upd H6 l1 (.lst [V.str "copy", V.str "read"]) = H7 at sm7 atq7 s7
            refine ⟨_, rfl, ?_⟩
            rcases hcase with ⟨hf, hb⟩ | ⟨hf, init, last, rfl, hb⟩
            · refine iteF' (by show inV _ _ = false; exact hfl.symm.trans hf) ?_
              walk_at "wn"
              exact ⟨q', rest, rfl, s7, atq7, hsub, hlen, hb⟩
            · refine iteT' (by show inV _ _ = true; exact hfl.symm.trans hf) ?_
              have hat : atI ((init ++ [last]).map V.str) (-1) = some (V.str last) := by rw [List.map_append]; exact last_at _ _
              have hci : cutV ((init ++ [last]).map V.str) none (some (-1)) = init.map V.str := by rw [List.map_append]; exact cut_init _ _
              rw [arg_opt] at hb
              show tTest _ _ _ _
              walk_at "wn"
              refine ⟨1, rfl, ?_⟩
              refine ⟨q', _, -1, V.str last, rfl, rfl, SqL.of atq7, hat, ?_⟩
              walk_at "wn"
              by_cases hd : V.str last = V.str "-"
              · rw [decide_eq_true hd] at hb ⊢
                rw [Bool.true_or, Bool.and_true] at hb
                walk_at "wn"
                refine ⟨1, rfl, ?_⟩
                walk_at "wn"
                refine ⟨q', _, rfl, SqL.of atq7, fun q2 hq2 => ?_⟩
                have smq2 : Same H7 (upd H7 q2 (.lst (cutV ((init ++ [last]).map V.str) none (some (-1))))) := fun a o e => by rw [upd_ne (ne_of_none e hq2)]; exact e
                exact ⟨q2, init, rfl, s7.trans smq2, by rw [hci]; exact upd_same, fun x hx => hsub x (List.mem_append.mpr (.inl hx)), by rw [List.length_append] at hlen; omega, hb⟩
              · rw [decide_eq_false hd] at hb ⊢
                rw [Bool.false_or] at hb
                walk_at "wn"
                exact ⟨q', _, rfl, s7, atq7, hsub, hlen, by rw [hb, List.all_append]; simp⟩
          · rintro σ' H7 ⟨q5, rest5, rfl, s7, atq7, hsub7, hlen7, hb⟩
            walk_at "wn"
            have sle := split_le (t := t) (sep := " ") rfl
            rw [hsp] at sle
            have hxl : ∀ x ∈ rest5, x.length ≤ 5000 := fun x hx => Nat.le_trans (sle.2 x (List.mem_cons_of_mem _ (hsub7 x hx))) hl
            have hxa : ∀ x ∈ rest5, Asc x := fun x hx => hasc x (hsub7 x hx)
            have hrl : rest5.length ≤ 5001 := by have := sle.1; rw [List.length_cons] at this; omega
            refine ⟨_, rfl, q5, rfl, ⟨_, SqL.of atq7⟩, fun D hD => ?_⟩
            refine lc_list (xs := rest5.map V.str) (fun i H' => Same H7 H' ∧ H' D = some (.lst (((rest5.take i).filter fun x => !numT x).map V.str))) ⟨fun a o e => by rw [upd_ne (ne_of_none e hD)]; exact e, upd_same⟩ (fun i H' _ h => SqL.of (h.1 _ _ atq7)) ?_ ?_
            · rintro i x H8 hx ⟨sm8, h8⟩
              rw [List.getElem?_map] at hx
              cases ex : rest5[i]? with
              | none => rw [ex] at hx; cases hx
              | some y =>
              rw [ex] at hx
              cases hx
              refine ⟨rfl, ?_⟩
              show tNot _ _ _ _
              walk_at "wn"
              have hy := List.mem_of_getElem? ex
              refine ⟨y, rfl, Nat.le_trans (hxl y hy) (by decide), hxa y hy, fun H9 sm9 => ?_⟩
              refine ⟨_, rfl, ?_⟩
              have et : (rest5.take (i + 1)).filter (fun x => !numT x) = (rest5.take i).filter (fun x => !numT x) ++ (if (!numT y) = true then [y] else []) := by
                rw [List.take_add_one, ex, List.filter_append]
                congr 1
                show List.filter _ [y] = _
                rw [List.filter_cons]
                rfl
              rw [et]
              refine ite2 (fun hb1 => ?_) (fun hb1 => ?_)
              · rw [if_pos hb1, List.map_append]
                refine ⟨_, rfl, _, sm9 _ _ h8, ?_, fun a o e => ?_, upd_same⟩
                · rw [List.length_map]
                  have f1 := List.length_filter_le (fun x => !numT x) (rest5.take i)
                  have f2 := List.length_take (i := i) (l := rest5)
                  rw [sizeLine_eq]
                  omega
                · rw [upd_ne (ne_of_none e hD)]
                  exact sm9 _ _ (sm8 _ _ e)
              · rw [if_neg hb1, List.append_nil]
                exact ⟨sm8.trans sm9, sm9 _ _ h8⟩
            · rintro H8 ⟨sm8, h8⟩
              rw [List.length_map, List.take_length] at h8
              walk_at "wn"
              refine ⟨Nat.zero_le _, fun z hz => ?_⟩
              have sm9 : Same H8 (upd H8 z (.lst [])) := fun a o e => by rw [upd_ne (ne_of_none e hz)]; exact e
              refine ⟨.list ((rest5.filter fun x => !numT x).map PyData.str), .list [], .lst (SqL.of (sm9 _ _ h8)) (dp_strs _), .lst (SqL.of upd_same) .nil, strs_shaped (fun x hx => hxa x (List.mem_filter.mp hx).1), by decide, ?_⟩
              have z := k _ (s7.trans (sm8.trans sm9))
              have e9 : PyData.eqv (.list ((rest5.filter fun x => !numT x).map PyData.str)) (.list []) = B := by
                rw [hb, ← all_num hxa]
                cases rest5.filter fun x => !numT x with
                | nil => rfl
                | cons a b => rfl
              rw [e9]
              exact z
      · have e : decide (V.int (parts.length : Int) = V.int (ks.length : Int)) = false := decide_eq_false fun z => hn (by have := V.int.inj z; omega)
        rw [e]
        rw [decide_eq_false hn, Bool.false_and] at k
        walk_at "wn"
        exact k H4 s4
end
end Wn

namespace Wn
open PySem PySem.Spec PyProof.Rows L2 Evl
theorem digit_range : ∀ c, c < 128 → Unicode.isDigit c = true → 48 ≤ c ∧ c ≤ 57 := by decide +kernel
theorem int_reads {t : Str} (h : isIntT t = true) (ha : Asc t) : ∃ n, PySem.intText? t = some n ∧ t.length ≤ 640 := by
  unfold isIntT at h
  simp only [Bool.and_eq_true] at h
  obtain ⟨⟨⟨_, hd⟩, hl⟩, _⟩ := h
  have hl9 : t.length ≤ 9 := by
    have := of_decide_eq_false (by simpa using hl : decide ((9 : Int) < (t.length : Int)) = false)
    omega
  unfold Txt.isdigit at hd
  simp only [Bool.and_eq_true, decide_eq_true_eq] at hd
  obtain ⟨h0, h1⟩ := hd
  rw [← Array.all_toList, List.all_eq_true] at h1
  refine ⟨_, PySem.intText_digits (fun c hc => digit_range c (ha c hc).1 (h1 c hc)) (fun z => ?_) (by omega), by omega⟩
  have : t.cps.size = 0 := by rw [← Array.length_toList, z]; rfl
  have h0' : 0 < t.cps.size := h0
  omega
def valOf (k p : Str) : V := if k = "word" then .str p else if p = "-" then .non else .int ((PySem.intText? p).getD 0)
theorem val_reads {k p : Str} (h : isArgT k p = true) (ha : Asc p) : ReadsTo k p (valOf k p) := by
  unfold valOf
  by_cases h1 : k = "word"
  · rw [if_pos h1]
    exact .inl ⟨h1, rfl⟩
  rw [if_neg h1]
  by_cases h2 : p = "-"
  · rw [if_pos h2]
    exact .inr (.inl ⟨h1, h2, rfl⟩)
  rw [if_neg h2]
  unfold isArgT at h
  rw [if_neg h1, if_neg (fun z => h2 z.2)] at h
  obtain ⟨n, e, l⟩ := int_reads h ha
  exact .inr (.inr ⟨h1, h2, n, e, l, by rw [e]; rfl⟩)
theorem line_ok {K : PySem.W.Frag} {mg : Str → Option Value} {t : Str} (ha : Asc t) (U : ∀ d, mg "ARGUMENTS" = some (.ref d) → ∀ name, (∀ ks, (name, ks) ∉ kindsL) → PySem.W.nsIn K d name = some none) : ∃ c, Line K mg t c ∧ okT t = c.isSome := by
  have pa := asc_split ha
  unfold okT
  cases hsp : Txt.split t " " with
  | nil => exact absurd hsp (split_ne _ _)
  | cons name parts =>
  rw [hsp] at pa
  show ∃ c, Line K mg t c ∧ okP name parts = c.isSome
  unfold okP
  cases hlk : kindsL.lookup name with
  | none => exact ⟨none, .word hsp fun d hd => U d hd name (lookup_none hlk), rfl⟩
  | some ks =>
    have m := lookup_mem hlk
    show ∃ c, Line K mg t c ∧ (decide (parts.length = ks.length) && (List.zipWith isArgT ks parts).all id) = c.isSome
    by_cases hn : parts.length = ks.length
    · rw [decide_eq_true hn, Bool.true_and]
      cases hB : (List.zipWith isArgT ks parts).all id with
      | false => exact ⟨none, .part hsp m hn hB, rfl⟩
      | true =>
        refine ⟨some _, .call (vs := List.zipWith valOf ks parts) hsp m hn hB (by rw [List.length_zipWith, hn]; omega) (fun i k p v ek ep ev => ?_), rfl⟩
        rw [List.getElem?_zipWith, ek, ep] at ev
        cases ev
        refine val_reads ?_ (pa p (List.mem_cons_of_mem _ (List.mem_of_getElem? ep)))
        have hz : (List.zipWith isArgT ks parts)[i]? = some (isArgT k p) := by rw [List.getElem?_zipWith, ek, ep]
        exact List.all_eq_true.mp hB _ (List.mem_of_getElem? hz)
    · rw [decide_eq_false hn, Bool.false_and]
      exact ⟨none, .count hsp m hn, rfl⟩
end Wn

namespace Wn
open PySem PySem.Spec PyProof.Rows L2 Evl
local macro_rules | `(tactic| walk_at "wn1") => `(tactic| first | ((with_reducible show (if (!decide _) = true then _ else _)); refine' g_nes ?_) | ((with_reducible show (if (decide _) = true then _ else _)); refine' g_es ?_) | with_reducible first
  | (refine' g_var ?h ?q; (case h => with_unfolding_all rfl))
  | refine' g_c ?_ | refine' g_op ?_ | refine' g_rI0 ?_ | refine' g_asg ?_ | refine' g_name ?_ | refine' g_seq ?_ | refine' g_ret ?_ | refine' g_retN ?_ | refine' g_next ?_ | refine' g_drop ?_
  | refine' g_nil ?_ | refine' g_cons ?_ | refine' g_cb ?_ | refine' g_test ?_ | refine' g_bl ?_ | refine' g_if ?_ | refine' g_ifs ?_ | refine' g_not ?_ | refine' g_part ?_ | refine' g_pint ?_ | refine' g_nopart ?_ | refine' g_call ?_
  | (refine' g_mul ?h ?q; (case h => with_unfolding_all first | exact Or.inl ⟨by decide, by decide⟩ | exact Or.inr ⟨by decide, by decide⟩ | exact Or.inl ⟨by omega, by omega⟩ | exact Or.inr ⟨by omega, by omega⟩))
  | (refine' g_mod ?h ?q; (case h => with_unfolding_all first | decide | omega))
  | refine' g_rIsN ?_ | refine' g_rNotN ?_ | refine' g_max2 ?_ | refine' g_min2 ?_ | refine' g_and ?_ | refine' g_or ?_ | refine' g_orV ?_ | refine' g_andV ?_ | refine' g_notV ?_ | refine' g_m1 ?_ | refine' g_yes ?_ | refine' g_bm ?_ | refine' g_bm0 ?_
  | (refine' g_tyL ?h ?q; (case h => first | assumption | exact upd_same))
  | refine' g_m0 ?_ | refine' g_tB ?_ | refine' g_isS ?_ | refine' g_bT ?_ | refine' g_bF ?_ | refine' g_bNT ?_ | refine' g_callK ?_ | refine' g_bNF ?_
  | (refine' g_lenL ?h ?q; (case h => first | assumption | exact upd_same))
  | refine' g_un ?_ | refine' g_rint _ ?_ | refine' g_rabs ?_ | refine' g_sl ?_ 
  | (refine' g_ixL ?h ?a ?q; (case h => first | assumption | exact upd_same); (case a => with_unfolding_all rfl))
  | (refine' g_div ?h0 ?h1 ?q; (case h0 => with_unfolding_all first | decide | omega); (case h1 => with_unfolding_all first | decide | omega))
  | refine' g_sub ?_
  | (refine' g_setL ?h ?a ?q; (case h => first | assumption | exact upd_same); (case a => with_unfolding_all rfl))
  | refine' g_lst ?_ | refine' g_tup ?_
  | (refine' g_rEq ?h ?q; (case h => with_unfolding_all rfl)) | (refine' g_rNe ?h ?q; (case h => with_unfolding_all rfl)))
local macro_rules | `(tactic| walk_at "wn") => `(tactic| repeat walk_at "wn1")

theorem Dr.new {p l : Addr} {H : Hp} {o : HO} (b : BagAt H p) (h : H l = none) : Dr p H (upd H l o) := Dr.ex b (Ex.new h)
theorem Dr.draw {p : Addr} {H H' : Hp} (e : ∀ b, b ≠ p → H' b = H b) (b : BagAt H' p) : Dr p H H' := ⟨fun a o n h => (e a n).trans h, b⟩
theorem BagAt.ne {H : Hp} {p l : Addr} (b : BagAt H p) (h : H l = none) : l ≠ p := fun z => by
  obtain ⟨x, y, e, _⟩ := b
  rw [← z, h] at e
  cases e
theorem Dr.same {p : Addr} {H H' : Hp} (b : BagAt H p) (e : Same H H') : Dr p H H' := ⟨fun a o _ h => e a o h, by
  obtain ⟨x, y, h, r⟩ := b
  exact ⟨x, y, e _ _ h, r⟩⟩
theorem Dr.upd {p l : Addr} {H H' : Hp} {o : HO} (d : Dr p H H') (h : H l = none) (n : l ≠ p) : Dr p H (upd H' l o) := ⟨fun a u na e => by
    rw [upd_ne (ne_of_none e h)]
    exact d.1 a u na e, by
  obtain ⟨x, y, e, r⟩ := d.2
  exact ⟨x, y, (upd_ne (Ne.symm n)).trans e, r⟩⟩
theorem Dr.free {p l : Addr} {H H' : Hp} (b : BagAt H p) (d : Dr p H H') (h : H' l = none) : H l = none := by
  have n := BagAt.ne d.2 h
  cases e : H l with
  | none => rfl
  | some o =>
    rw [d.1 l o n e] at h
    cases h
theorem asc_app {x y : Str} (h1 : Asc x) (h2 : Asc y) : Asc (x ++ y) := by
  intro c hc
  rw [cps_app] at hc
  rcases List.mem_append.mp hc with h | h
  · exact h1 c h
  · exact h2 c h
theorem num_digits : ∀ n : Nat, ∀ c ∈ TL.numL n, 48 ≤ c ∧ c ≤ 57 := by
  intro n
  induction n using Nat.strongRecOn with
  | ind n ih =>
    intro c hc
    by_cases h : n < 10
    · rw [TL.numL_lt h, List.mem_singleton] at hc
      omega
    · rw [TL.numL_step (by omega)] at hc
      rcases List.mem_append.mp hc with hc | hc
      · exact ih (n / 10) (by omega) c hc
      · rw [List.mem_singleton] at hc
        omega
theorem tl_int (n : Nat) : TL.tl (Str.ofString (toString (n : Int))) = TL.numL n := TL.tl_num n
example (x : Str) : TL.tl x = x.cps.toList := rfl
theorem cps_int (n : Nat) : (Str.ofString (toString (n : Int))).cps.toList = TL.numL n := tl_int n
theorem len_int {n : Nat} (h : n ≤ 999999999) : (Str.ofString (toString (n : Int))).length ≤ 9 := toString_length_le (by omega) (by decide) (by show (n : Int) < 10 ^ 9; omega)
theorem asc_int (n : Nat) : Asc (Str.ofString (toString (n : Int))) := by
  intro c hc
  rw [cps_int] at hc
  have := num_digits n c hc
  omega
/-! displays of texts that ask nothing of the heap -/
def Txt1 (σ : L2.St) (m : Nat) (te : TE) : Prop := ∀ (H : Hp) (Q : VK), (∀ t : Str, Asc t → t.length ≤ m → Q (.str t) H) → te σ H Q
def Txts (σ : L2.St) (n : Nat) (ta : TA) : Prop := ∀ (H : Hp) (Q : List V → Hp → Prop), (∀ ts : List Str, ts.length = n → (∀ t ∈ ts, Asc t ∧ t.length ≤ 60) → Q (ts.map V.str) H) → ta σ H Q
theorem t1_lit {σ : L2.St} {z : Str} (h : (∀ c ∈ z.cps.toList, c < 128 ∧ c ≠ 10) ∧ z.length ≤ 20) : Txt1 σ 20 (tC (.str z)) := fun H Q k => k z h.1 h.2
theorem t1_var {σ : L2.St} {i : Nat} {z : Str} {m : Nat} (e : σ[i]? = some (some (.str z))) (h : Asc z) (l : z.length ≤ m) : Txt1 σ m (tVar i) := fun H Q k => ⟨_, e, k z h l⟩
theorem t1_add {σ : L2.St} {a b : Nat} {ta tb : TE} (h1 : Txt1 σ a ta) (h2 : Txt1 σ b tb) (hz : a + b ≤ 10000) : Txt1 σ (a + b) (tOp rAddS ta tb) := fun H Q k => h1 H _ fun x hx lx => h2 H _ fun y hy ly => ⟨x, y, rfl, rfl, by rw [sizeLine_eq]; omega, k _ (asc_app hx hy) (by rw [strLen_append]; omega)⟩
theorem tl_nil {σ : L2.St} : Txts σ 0 tNil := fun H Q k => k [] rfl (fun _ h => nomatch h)
theorem tl_cons {σ : L2.St} {n m : Nat} {te : TE} {ta : TA} (h1 : Txt1 σ m te) (h2 : Txts σ n ta) (hm : m ≤ 60) : Txts σ (n + 1) (tCons te ta) := fun H Q k => h1 H _ fun x hx lx => h2 H _ fun ts hl ht => k (x :: ts) (by rw [List.length_cons, hl]) fun t hm2 => by
  rcases List.mem_cons.mp hm2 with rfl | h
  · exact ⟨hx, Nat.le_trans lx hm⟩
  · exact ht t h
theorem g_txts {σ : L2.St} {n : Nat} {ta : TA} {H : Hp} {Q : VK} (hn : n ≤ 100) (h : Txts σ n ta) (k : ∀ ts : List Str, ts.length = n → (∀ t ∈ ts, Asc t ∧ t.length ≤ 60) → ∀ l, H l = none → Q (.ref l) (upd H l (.lst (ts.map V.str)))) : tLst ta σ H Q :=
  g_lst (h H _ fun ts hl ht => ⟨by rw [List.length_map, hl, sizeLine_eq]; omega, k ts hl ht⟩)
section
variable {P : Program} {w : World} {K : PySem.W.Frag} {mg : Str → Option Value} {base : Heap}
def spLn : Sp := fun vs H Q _ => ∃ p : Addr, vs = [.ref p] ∧ BagAt H p ∧ ∀ (t : Str) (H' : Hp), Asc t → t.length ≤ 60 → Dr p H H' → Q (.str t) H'
theorem scLn : FnScope ["_law_bag_here", "_law_n", "_law_some"] ["_law_bag_here"] (defScope sLine) := ⟨rfl, rfl, rfl, by decide +kernel, rfl, by decide +kernel, by decide +kernel⟩
theorem okLn {f fT fO : Addr} {fd fdT fdO : FuncData} (F : Fun K "_law_line" "_law_line" sLine f fd) (T : LawTxt mg) (GT : FnOk P w K mg base CX0 1 fT fdT ["_law_bag_here", "_law_many"] spTake) (kT : PySem.W.keepIn K (.ref fT) = true) (gT : mg "_law_take" = some (.ref fT)) (bT : Binds K fdT ["_law_bag_here", "_law_many"] [])
    (GO : FnOk P w K mg base CX0 2 fO fdO ["_law_bag_here", "_law_some"] (spOf K)) (kO : PySem.W.keepIn K (.ref fO) = true) (gO : mg "_law_of" = some (.ref fO)) (bO : Binds K fdO ["_law_bag_here", "_law_some"] []) : FnOk P w K mg base CX0 3 f fd ["_law_bag_here"] spLn := by
  refine F.ok scLn (fun vs H Q E h => ?_) (fun cdv A outer s H vs Q E hr h => ?_)
  · obtain ⟨x, rfl, _⟩ := h
    rfl
  · obtain ⟨p, rfl, hb, k⟩ := h
    have hr1 : Room 1 _ := hr.mono (by decide)
    refine ⟨_, pss_cons (ps_set (i := 1) scLn.nd rfl (Or.inl rfl) (pe_callTy cStr1 (by rfl) T.str PyProof.Rows.boot_str (pa_cons (pe_call GT hr1 (by rfl) gT kT bT .nil pass0 (pa_cons (pv 0) (pa_cons pe_int pa_nil))) pa_nil)))
      (pss_cons (ps_set (i := 2) scLn.nd rfl (Or.inl rfl) (pe_lst (pa_cons (pe_op oAddS pe_str (pv 1)) (pa_cons (pe_op oAddS (pe_op oAddS pe_str (pv 1)) pe_str) (pa_cons (pe_op oAddS pe_str (pv 1)) (pa_cons (pe_op oAddS pe_str (pv 1)) (pa_cons pe_str (pa_cons pe_str pa_nil))))))))
      (pss_cons (ps_set (i := 2) scLn.nd rfl (Or.inl rfl) (pe_op op_cat (pv 2) (pe_lst (pa_cons (pe_op oAddS (pe_op oAddS pe_str (pv 1)) pe_str) (pa_cons (pe_op oAddS (pe_op oAddS pe_str (pv 1)) pe_str) (pa_cons (pe_op oAddS (pe_op oAddS pe_str (pv 1)) pe_str) (pa_cons (pe_op oAddS pe_str (pv 1)) pa_nil)))))))
      (pss_one (ps_ret (pe_call GO hr (by rfl) gO kO bO .nil pass0 (pa_cons (pv 0) (pa_cons (pe_op op_cat (pv 2) (pe_lst (pa_cons pe_str (pa_cons (pe_op oAddS pe_str (pv 1)) (pa_cons (pe_op oAddS pe_str (pv 1)) (pa_cons pe_str (pa_cons pe_str pa_nil))))))) pa_nil))))))), ?_⟩
    walk_at "wn"
    refine ⟨p, 10, rfl, hb, by decide, by decide, fun i H1 i0 i1 e1 b1 => ?_⟩
    have d1 := Dr.draw e1 b1
    obtain ⟨n, rfl⟩ := Int.eq_ofNat_of_zero_le i0
    have hz1 := asc_int n
    have hz2 := len_int (n := n) (by omega)
    walk_at "wn"
    refine .inl ⟨n, rfl, log_small (by omega), ?_⟩
    generalize Str.ofString (toString (n : Int)) = z at hz1 hz2
    with_reducible refine' g_name ?_
    with_reducible refine' g_seq ?_
    with_reducible refine' g_asg ?_
    have hv : ∀ u : Option V, Txt1 [some (.ref p), some (.str z), u] 9 (tVar 1) := fun u => t1_var rfl hz1 hz2
    refine g_txts (n := 6) (by decide) (tl_cons (t1_add (t1_lit (by decide +kernel)) (hv _) (by decide)) (tl_cons (t1_add (t1_add (t1_lit (by decide +kernel)) (hv _) (by decide)) (t1_lit (by decide +kernel)) (by decide)) (tl_cons (t1_add (t1_lit (by decide +kernel)) (hv _) (by decide)) (tl_cons (t1_add (t1_lit (by decide +kernel)) (hv _) (by decide)) (tl_cons (t1_lit (by decide +kernel)) (tl_cons (t1_lit (by decide +kernel)) tl_nil (by decide)) (by decide)) (by decide)) (by decide)) (by decide)) (by decide)) fun ts hl1 ht1 l1 nl1 => ?_
    have d2 := d1.trans (Dr.new (o := .lst (ts.map V.str)) d1.2 nl1)
    have nl1p : l1 ≠ p := BagAt.ne d1.2 nl1
    have at1 : upd H1 l1 (.lst (ts.map V.str)) l1 = some (.lst (ts.map V.str)) := upd_same
    generalize upd H1 l1 (.lst (ts.map V.str)) = H2 at d2 at1
    with_reducible refine' g_name ?_
    with_reducible refine' g_seq ?_
    with_reducible refine' g_asg ?_
    with_reducible refine' g_op ?_
    refine' g_var rfl ?_
    refine g_txts (n := 4) (by decide) (tl_cons (t1_add (t1_add (t1_lit (by decide +kernel)) (hv _) (by decide)) (t1_lit (by decide +kernel)) (by decide)) (tl_cons (t1_add (t1_add (t1_lit (by decide +kernel)) (hv _) (by decide)) (t1_lit (by decide +kernel)) (by decide)) (tl_cons (t1_add (t1_add (t1_lit (by decide +kernel)) (hv _) (by decide)) (t1_lit (by decide +kernel)) (by decide)) (tl_cons (t1_add (t1_lit (by decide +kernel)) (hv _) (by decide)) tl_nil (by decide)) (by decide)) (by decide)) (by decide)) fun ts2 hl2 ht2 l2 nl2 => ?_
    have d3 := d2.trans (Dr.new (o := .lst (ts2.map V.str)) d2.2 nl2)
    have at12 : upd H2 l2 (.lst (ts2.map V.str)) l1 = some (.lst (ts.map V.str)) := by rw [upd_ne (ne_of_none at1 nl2)]; exact at1
    have at2 : upd H2 l2 (.lst (ts2.map V.str)) l2 = some (.lst (ts2.map V.str)) := upd_same
    generalize upd H2 l2 (.lst (ts2.map V.str)) = H3 at d3 at12 at2
    refine ⟨l1, l2, _, _, rfl, rfl, at12, at2, by rw [List.length_map, List.length_map, hl1, hl2]; decide, fun l3 nl3 => ?_⟩
    have d4 := d3.trans (Dr.new (o := .lst (ts.map V.str ++ ts2.map V.str)) d3.2 nl3)
    have at3 : upd H3 l3 (.lst (ts.map V.str ++ ts2.map V.str)) l3 = some (.lst (ts.map V.str ++ ts2.map V.str)) := upd_same
    generalize upd H3 l3 (.lst (ts.map V.str ++ ts2.map V.str)) = H4 at d4 at3
    with_reducible refine' g_name ?_
    with_reducible refine' g_ret ?_
    with_reducible refine' g_call ?_
    with_reducible refine' g_cons ?_
    refine' g_var rfl ?_
    with_reducible refine' g_cons ?_
    with_reducible refine' g_op ?_
    refine' g_var rfl ?_
    refine g_txts (n := 5) (by decide) (tl_cons (t1_lit (by decide +kernel)) (tl_cons (t1_add (t1_lit (by decide +kernel)) (hv _) (by decide)) (tl_cons (t1_add (t1_lit (by decide +kernel)) (hv _) (by decide)) (tl_cons (t1_lit (by decide +kernel)) (tl_cons (t1_lit (by decide +kernel)) tl_nil (by decide)) (by decide)) (by decide)) (by decide)) (by decide)) fun ts3 hl3 ht3 l4 nl4 => ?_
    have d5 := d4.trans (Dr.new (o := .lst (ts3.map V.str)) d4.2 nl4)
    have at33 : upd H4 l4 (.lst (ts3.map V.str)) l3 = some (.lst (ts.map V.str ++ ts2.map V.str)) := by rw [upd_ne (ne_of_none at3 nl4)]; exact at3
    have at4 : upd H4 l4 (.lst (ts3.map V.str)) l4 = some (.lst (ts3.map V.str)) := upd_same
    generalize upd H4 l4 (.lst (ts3.map V.str)) = H5 at d5 at33 at4
    refine ⟨l3, l4, _, _, rfl, rfl, at33, at4, by rw [List.length_append, List.length_map, List.length_map, List.length_map, hl1, hl2, hl3]; decide, fun l5 nl5 => ?_⟩
    have d6 := d5.trans (Dr.new (o := .lst ((ts.map V.str ++ ts2.map V.str) ++ ts3.map V.str)) d5.2 nl5)
    walk_at "wn"
    refine ⟨p, l5, _, rfl, d6.2, SqL.of upd_same, BagAt.ne d5.2 nl5, by rw [List.length_append, List.length_append, List.length_map, List.length_map, List.length_map, hl1, hl2, hl3]; decide, by rw [List.length_append, List.length_append, List.length_map, List.length_map, List.length_map, hl1, hl2, hl3]; decide, fun j v H7 hv e7 b7 => ?_⟩
    have hm := List.mem_of_getElem? hv
    obtain ⟨t, rfl, ta, tl⟩ : ∃ t : Str, v = .str t ∧ Asc t ∧ t.length ≤ 60 := by
      rcases List.mem_append.mp hm with hm | hm
      · rcases List.mem_append.mp hm with hm | hm
        · obtain ⟨t, h, rfl⟩ := List.mem_map.mp hm
          exact ⟨t, rfl, ht1 t h⟩
        · obtain ⟨t, h, rfl⟩ := List.mem_map.mp hm
          exact ⟨t, rfl, ht2 t h⟩
      · obtain ⟨t, h, rfl⟩ := List.mem_map.mp hm
        exact ⟨t, rfl, ht3 t h⟩
    exact k t H7 ta tl (d6.trans (Dr.draw e7 b7))
end
end Wn

namespace Wn
open PySem PySem.Spec PyProof.Rows L2 Evl
local macro_rules | `(tactic| walk_at "wn1") => `(tactic| first | ((with_reducible show (if (!decide _) = true then _ else _)); refine' g_nes ?_) | ((with_reducible show (if (decide _) = true then _ else _)); refine' g_es ?_) | with_reducible first
  | (refine' g_var ?h ?q; (case h => with_unfolding_all rfl))
  | refine' g_c ?_ | refine' g_op ?_ | refine' g_rI0 ?_ | refine' g_asg ?_ | refine' g_name ?_ | refine' g_seq ?_ | refine' g_ret ?_ | refine' g_retN ?_ | refine' g_next ?_ | refine' g_drop ?_
  | refine' g_nil ?_ | refine' g_cons ?_ | refine' g_cb ?_ | refine' g_test ?_ | refine' g_bl ?_ | refine' g_if ?_ | refine' g_ifs ?_ | refine' g_not ?_ | refine' g_part ?_ | refine' g_pint ?_ | refine' g_nopart ?_ | refine' g_call ?_
  | (refine' g_mul ?h ?q; (case h => with_unfolding_all first | exact Or.inl ⟨by decide, by decide⟩ | exact Or.inr ⟨by decide, by decide⟩ | exact Or.inl ⟨by omega, by omega⟩ | exact Or.inr ⟨by omega, by omega⟩))
  | (refine' g_mod ?h ?q; (case h => with_unfolding_all first | decide | omega))
  | refine' g_rIsN ?_ | refine' g_rNotN ?_ | refine' g_max2 ?_ | refine' g_min2 ?_ | refine' g_and ?_ | refine' g_or ?_ | refine' g_orV ?_ | refine' g_andV ?_ | refine' g_notV ?_ | refine' g_m1 ?_ | refine' g_yes ?_ | refine' g_bm ?_ | refine' g_bm0 ?_
  | (refine' g_tyL ?h ?q; (case h => first | assumption | exact upd_same))
  | refine' g_m0 ?_ | refine' g_tB ?_ | refine' g_isS ?_ | refine' g_bT ?_ | refine' g_bF ?_ | refine' g_bNT ?_ | refine' g_callK ?_ | refine' g_bNF ?_
  | (refine' g_lenL ?h ?q; (case h => first | assumption | exact upd_same))
  | refine' g_un ?_ | refine' g_rint _ ?_ | refine' g_rabs ?_ | refine' g_sl ?_ 
  | (refine' g_ixL ?h ?a ?q; (case h => first | assumption | exact upd_same); (case a => with_unfolding_all rfl))
  | (refine' g_div ?h0 ?h1 ?q; (case h0 => with_unfolding_all first | decide | omega); (case h1 => with_unfolding_all first | decide | omega))
  | refine' g_sub ?_
  | (refine' g_setL ?h ?a ?q; (case h => first | assumption | exact upd_same); (case a => with_unfolding_all rfl))
  | refine' g_lst ?_ | refine' g_tup ?_
  | (refine' g_rEq ?h ?q; (case h => with_unfolding_all rfl)) | (refine' g_rNe ?h ?q; (case h => with_unfolding_all rfl)))
local macro_rules | `(tactic| walk_at "wn") => `(tactic| repeat walk_at "wn1")

theorem asc_cut {z : Str} (h : Asc z) (lo hi : Option Int) : Asc (cutS z lo hi) ∧ (cutS z lo hi).length ≤ z.length := by
  refine ⟨fun c hc => ?_, ?_⟩
  · unfold cutS at hc
    exact h c (List.mem_of_mem_drop (List.mem_of_mem_take (by simpa using hc)))
  · show (List.toArray _).size ≤ z.cps.size
    rw [List.size_toArray, List.length_take, List.length_drop, Array.length_toList]
    omega
theorem asc_join {sep : Str} (hs : Asc sep) : ∀ {l : List Str}, (∀ x ∈ l, Asc x) → Asc (Str.join sep l)
  | [], _ => fun c hc => nomatch hc
  | [x], h => h x List.mem_cons_self
  | x :: y :: r, h => asc_app (asc_app (h x List.mem_cons_self) hs) (asc_join hs fun z hz => h z (List.mem_cons_of_mem _ hz))
theorem sum_succ : ∀ l : List Str, (l.map fun x => x.length + 1).sum = (l.map (·.length)).sum + l.length
  | [] => rfl
  | x :: l => by
    have := sum_succ l
    simp only [List.map_cons, List.sum_cons, List.length_cons] at this ⊢
    omega
theorem jn {K : PySem.W.Frag} {H : Hp} {Q : VK} {p : Addr} {ys : List Str} (h : H p = some (.lst (ys.map V.str))) (hz : (ys.map (·.length)).sum + ys.length ≤ 200) (ha : ∀ y ∈ ys, Asc y) (k : ∀ t' : Str, Asc t' → t'.length ≤ 300 → Q (.str t') H) :
    ∃ (a : Str) (p' : Addr) (ys' : List Str), V.str " " = .str a ∧ [V.ref p] = [.ref p'] ∧ (SqL K H p' (ys'.map V.str) ∨ SqT K H p' (ys'.map V.str)) ∧ (ys'.map (fun x => x.length)).sum + ys'.length * a.length ≤ 16777216 ∧ Q (.str (Txt.join a ys')) H := by
  have e1 : (((" " : String) : Str)).length = 1 := rfl
  refine ⟨" ", p, ys, rfl, rfl, .inl (SqL.of h), by rw [e1]; omega, ?_⟩
  rw [TL.join_eq]
  refine k _ (asc_join (by unfold Asc; decide +kernel) ha) ?_
  have := join_len " " ys
  rw [e1] at this
  omega
section
variable {P : Program} {w : World} {K : PySem.W.Frag} {mg : Str → Option Value} {base : Heap}
def spBent : Sp := fun vs H Q _ => ∃ (p : Addr) (t : Str), vs = [.ref p, .str t] ∧ BagAt H p ∧ Asc t ∧ t.length ≤ 60 ∧ ∀ (t' : Str) (H' : Hp), Asc t' → t'.length ≤ 300 → Dr p H H' → Q (.str t') H'
abbrev nBent : List Str := ["_law_bag_here", "_law_line_here", "_law_at", "_law_way", "_law_sign", "_law_words", "_law_some"]
theorem scBent : FnScope nBent ["_law_bag_here", "_law_line_here"] (defScope sBent) := ⟨rfl, rfl, rfl, by decide +kernel, rfl, by decide +kernel, by decide +kernel⟩
theorem okBent {f fT fO : Addr} {fd fdT fdO : FuncData} (F : Fun K "_law_bent" "_law_bent" sBent f fd) (T : LawTxt mg) (GT : FnOk P w K mg base CX0 1 fT fdT ["_law_bag_here", "_law_many"] spTake) (kT : PySem.W.keepIn K (.ref fT) = true) (gT : mg "_law_take" = some (.ref fT)) (bT : Binds K fdT ["_law_bag_here", "_law_many"] [])
    (GO : FnOk P w K mg base CX0 2 fO fdO ["_law_bag_here", "_law_some"] (spOf K)) (kO : PySem.W.keepIn K (.ref fO) = true) (gO : mg "_law_of" = some (.ref fO)) (bO : Binds K fdO ["_law_bag_here", "_law_some"] []) : FnOk P w K mg base CX0 3 f fd ["_law_bag_here", "_law_line_here"] spBent := by
  refine F.ok scBent (fun vs H Q E h => ?_) (fun cdv A outer s H vs Q E hr h => ?_)
  · obtain ⟨x, t, rfl, _⟩ := h
    rfl
  · obtain ⟨p, t, rfl, hb, ha, hl, k⟩ := h
    have hr1 : Room 1 _ := hr.mono (by decide)
    refine ⟨_, pss_cut (ps_par (i := 2) (j := 3) (by rfl) scBent.nd rfl rfl (by decide) rfl rfl (pa_cons (pe_call GT hr1 (by rfl) gT kT bT .nil pass0 (pa_cons (pv 0) (pa_cons (pe_op op_add (pe_callB cLenS (by rfl) T.len PySem.boot_len (pa_cons (pv 1) pa_nil)) pe_int) pa_nil))) (pa_cons (pe_call GT hr1 (by rfl) gT kT bT .nil pass0 (pa_cons (pv 0) (pa_cons pe_int pa_nil))) pa_nil)) (by rfl))
      (pss_cut (ps_set (i := 4) scBent.nd rfl (Or.inl rfl) (pe_call GO hr (by rfl) gO kO bO .nil pass0 (pa_cons (pv 0) (pa_cons (pe_lst (pa_cons pe_str (pa_cons pe_str (pa_cons pe_str (pa_cons pe_str (pa_cons pe_str (pa_cons pe_str (pa_cons pe_str (pa_cons pe_str (pa_cons pe_str (pa_cons pe_str (pa_cons pe_str pa_nil)))))))))))) pa_nil))))
      (pss_cons (ps_if (pt_cmpR op_lt (pv 3) pe_int (nomark _)) (pss_one (ps_ret (pe_op oAddS (pe_op oAddS (pe_slice sl_str (pv 1) po_none (po_some (pv 2))) (pe_ix ix_list (pe_lst (pa_cons pe_str (pa_cons (pv 4) (pa_cons (pv 4) pa_nil)))) (pv 3) (fun _ _ => rfl))) (pe_slice sl_str (pv 1) (po_some (pe_op op_add (pv 2) (pe_ix ix_list (pe_lst (pa_cons pe_int (pa_cons pe_int (pa_cons pe_int pa_nil)))) (pv 3) (fun _ _ => rfl)))) po_none)))) pss_nil)
      (pss_cons (ps_set (i := 5) scBent.nd rfl (Or.inl rfl) (pe_split (pv 1) pe_str))
      (pss_cons (ps_if (pt_cmpR op_eq (pv 3) pe_int (nomark _)) (pss_one (ps_ret (pe_join pe_str (pe_op op_cat (pv 5) (pe_lst (pa_cons (pe_call GO hr (by rfl) gO kO bO .nil pass0 (pa_cons (pv 0) (pa_cons (pe_lst (pa_cons pe_str (pa_cons pe_str (pa_cons pe_str (pa_cons pe_str (pa_cons pe_str pa_nil)))))) pa_nil))) pa_nil)))))) pss_nil)
      (pss_cons (ps_if (pt_cmpR op_eq (pv 3) pe_int (nomark _)) (pss_one (ps_ret (pe_join pe_str (pe_slice sl_list (pv 5) po_none (po_some (pe_un un_neg pe_int)))))) pss_nil)
      (pss_cons (ps_if (pt_cmpR op_eq (pv 3) pe_int (nomark _)) (pss_one (ps_ret (pe_op oAddS (pe_call GO hr (by rfl) gO kO bO .nil pass0 (pa_cons (pv 0) (pa_cons (pe_lst (pa_cons pe_str (pa_cons pe_str (pa_cons pe_str (pa_cons pe_str (pa_cons pe_str (pa_cons pe_str pa_nil))))))) pa_nil))) (pe_slice sl_str (pv 1) (po_some (pe_callB cLenS (by rfl) T.len PySem.boot_len (pa_cons (pe_ix ix_list (pv 5) pe_int (fun _ _ => rfl)) pa_nil))) po_none)))) pss_nil)
      (pss_cons (ps_set (i := 6) scBent.nd rfl (Or.inl rfl) (pe_lst (pa_cons pe_str (pa_cons pe_str (pa_cons pe_str (pa_cons pe_str (pa_cons pe_str (pa_cons pe_str (pa_cons pe_str (pa_cons pe_str (pa_cons pe_str pa_nil)))))))))))
      (pss_one (ps_ret (pe_join pe_str (pe_op op_cat (pe_slice sl_list (pv 5) po_none (po_some (pe_un un_neg pe_int))) (pe_lst (pa_cons (pe_call GO hr (by rfl) gO kO bO .nil pass0 (pa_cons (pv 0) (pa_cons (pv 6) pa_nil))) pa_nil))))))))))))), ?_⟩
    have hlq : ∀ (xs : List Str), (∀ x ∈ xs, Asc x ∧ x.length ≤ 20) → ∀ (j : Nat) (v : V), (xs.map V.str)[j]? = some v → ∃ z : Str, v = .str z ∧ Asc z ∧ z.length ≤ 20 := by
      intro xs h j v hv
      obtain ⟨z, hz, rfl⟩ := List.mem_map.mp (List.mem_of_getElem? hv)
      exact ⟨z, rfl, h z hz⟩
    refine ⟨fun σ' H' => ∃ (at_ way : Nat), way < 7 ∧ at_ ≤ 60 ∧ σ' = [some (.ref p), some (.str t), some (.int at_), some (.int way), none, none, none] ∧ Dr p H H', ?_, ?_⟩
    · show tCons _ _ _ _ _
      walk_at "wn"
      refine ⟨t, rfl, by rw [sizeLine_eq]; omega, ?_⟩
      walk_at "wn"
      refine ⟨p, _, rfl, hb, by omega, by omega, fun i H1 i0 i1 e1 b1 => ?_⟩
      obtain ⟨at_, rfl⟩ := Int.eq_ofNat_of_zero_le i0
      have d1 := Dr.draw e1 b1
      walk_at "wn"
      refine ⟨p, _, rfl, b1, by decide, by decide, fun j H2 j0 j1 e2 b2 => ?_⟩
      obtain ⟨way, rfl⟩ := Int.eq_ofNat_of_zero_le j0
      walk_at "wn"
      exact ⟨_, _, rfl, at_, way, by omega, by omega, rfl, d1.trans (Dr.draw e2 b2)⟩
    rintro σ' H2 ⟨at_, way, hw7, hat, rfl, d2⟩
    refine ⟨fun σ' H' => ∃ sg : Str, (Asc sg ∧ sg.length ≤ 20) ∧ σ' = [some (.ref p), some (.str t), some (.int at_), some (.int way), some (.str sg), none, none] ∧ Dr p H H', ?_, ?_⟩
    · walk_at "wn"
      refine ⟨by show 11 ≤ sizeLine; decide, fun l hl1 => ?_⟩
      walk_at "wn"
      refine ⟨p, l, ([" ", "0", "1", "-", "A", "+", "_", ".", "e", "level", "\t"] : List Str).map V.str, rfl, (Dr.new (o := .lst (([" ", "0", "1", "-", "A", "+", "_", ".", "e", "level", "\t"] : List Str).map V.str)) d2.2 hl1).2, SqL.of upd_same, BagAt.ne d2.2 hl1, by decide, by decide, fun j v H3 hv e3 b3 => ?_⟩
      obtain ⟨sg, rfl, h1, h2⟩ := hlq _ (by unfold Asc; decide +kernel) j v hv
      walk_at "wn"
      exact ⟨sg, ⟨h1, h2⟩, rfl, (d2.trans (Dr.new (o := .lst (([" ", "0", "1", "-", "A", "+", "_", ".", "e", "level", "\t"] : List Str).map V.str)) d2.2 hl1)).trans (Dr.draw e3 b3)⟩
    rintro σ' H3 ⟨sg, ⟨hs1, hs2⟩, rfl, d3⟩
    walk_at "wn"
    by_cases h3 : (way : Int) < 3
    · rw [decide_eq_true h3]
      walk_at "wn"
      refine ⟨t, rfl, by rw [sizeLine_eq]; omega, ?_⟩
      have c1 := asc_cut ha none (some (at_ : Int))
      walk_at "wn"
      refine ⟨by show 3 ≤ sizeLine; decide, fun l1 hl1 => ?_⟩
      have d4 := d3.trans (Dr.new (o := .lst [.str "", .str sg, .str sg]) d3.2 hl1)
      obtain ⟨y, hy, hy1, hy2⟩ : ∃ y : Str, atI [V.str "", V.str sg, V.str sg] (way : Int) = some (.str y) ∧ Asc y ∧ y.length ≤ 20 := by
        have : way = 0 ∨ way = 1 ∨ way = 2 := by omega
        rcases this with rfl | rfl | rfl
        · exact ⟨"", rfl, fun c hc => (nomatch hc), by decide⟩
        · exact ⟨sg, rfl, hs1, hs2⟩
        · exact ⟨sg, rfl, hs1, hs2⟩
      have at1 : upd H3 l1 (.lst [.str "", .str sg, .str sg]) l1 = some (.lst [.str "", .str sg, .str sg]) := upd_same
      generalize upd H3 l1 (.lst [.str "", .str sg, .str sg]) = H4 at d4 at1
      refine ⟨_, rfl, ?_⟩
      refine ⟨l1, _, way, V.str y, rfl, rfl, SqL.of at1, hy, ?_⟩
      refine ⟨_, _, rfl, rfl, by rw [sizeLine_eq]; omega, ?_⟩
      have c2 := asc_app c1.1 hy1
      have c2l : (cutS t none (some (at_ : Int)) ++ y).length ≤ 80 := by rw [strLen_append]; omega
      walk_at "wn"
      refine ⟨by show 3 ≤ sizeLine; decide, fun l2 hl2 => ?_⟩
      have d5 := d4.trans (Dr.new (o := .lst [.int 1, .int 0, .int 1]) d4.2 hl2)
      obtain ⟨m, hm⟩ : ∃ m : Int, atI [V.int 1, V.int 0, V.int 1] (way : Int) = some (.int m) := by
        have : way = 0 ∨ way = 1 ∨ way = 2 := by omega
        rcases this with rfl | rfl | rfl
        · exact ⟨1, rfl⟩
        · exact ⟨0, rfl⟩
        · exact ⟨1, rfl⟩
      have at2 : upd H4 l2 (.lst [.int 1, .int 0, .int 1]) l2 = some (.lst [.int 1, .int 0, .int 1]) := upd_same
      generalize upd H4 l2 (.lst [.int 1, .int 0, .int 1]) = H5 at d5 at2
      refine ⟨_, rfl, ?_⟩
      refine ⟨l2, _, way, V.int m, rfl, rfl, SqL.of at2, hm, ?_⟩
      walk_at "wn"
      refine ⟨t, rfl, by rw [sizeLine_eq]; omega, ?_⟩
      have c3 := asc_cut ha (some ((at_ : Int) + m)) none
      refine ⟨_, _, rfl, rfl, by rw [sizeLine_eq]; omega, ?_⟩
      exact k _ H5 (asc_app c2 c3.1) (by rw [strLen_append]; omega) d5
    rw [decide_eq_false h3]
    walk_at "wn"
    have hsz : ((Txt.split t " ").map (·.length)).sum + (Txt.split t " ").length = t.length + 1 := by
      have e := join_len_eq " " _ (split_ne t " ")
      rw [StrLaws.join_split] at e
      have e2 : (((" " : String) : Str)).length = 1 := rfl
      rw [e2, sum_succ] at e
      exact e.symm
    have hasp := asc_split ha
    obtain ⟨w0, wr, hsp⟩ : ∃ w0 wr, Txt.split t " " = w0 :: wr := by
      cases e : Txt.split t " " with
      | nil => exact absurd e (split_ne _ _)
      | cons a b => exact ⟨a, b, rfl⟩
    refine ⟨t, " ", rfl, rfl, rfl, by rw [sizeLine_eq]; omega, fun pw hpw => ?_⟩
    have d4 := d3.trans (Dr.new (o := .lst ((Txt.split t " ").map V.str)) d3.2 hpw)
    have atw : upd H3 pw (.lst ((Txt.split t " ").map V.str)) pw = some (.lst ((Txt.split t " ").map V.str)) := upd_same
    have npw : pw ≠ p := BagAt.ne d3.2 hpw
    generalize upd H3 pw (.lst ((Txt.split t " ").map V.str)) = H4 at d4 atw
    walk_at "wn"
    obtain ⟨init, lst_, hwords, _⟩ := last_of (parts := Txt.split t " ") (n := wr.length) (by rw [hsp]; rfl)
    have hin : (init.map (·.length)).sum + init.length ≤ 61 := by
      have e := hsz
      rw [hwords, List.map_append, List.sum_append, List.length_append] at e
      omega
    have hw0 : w0.length ≤ 61 := by
      have := (split_le (t := t) (sep := " ") rfl).2 w0 (by rw [hsp]; exact List.mem_cons_self)
      omega
    by_cases e3 : V.int (way : Int) = V.int 3
    · rw [decide_eq_true e3]
      walk_at "wn"
      refine ⟨by show 5 ≤ sizeLine; decide, fun lA hlA => ?_⟩
      have d4a := d4.trans (Dr.new (o := .lst ((["1", "-", "", "once", "0"] : List Str).map V.str)) d4.2 hlA)
      have atwa : upd H4 lA (.lst ((["1", "-", "", "once", "0"] : List Str).map V.str)) pw = _ := (upd_ne (ne_of_none atw hlA)).trans atw
      walk_at "wn"
      refine ⟨p, lA, (["1", "-", "", "once", "0"] : List Str).map V.str, rfl, d4a.2, SqL.of upd_same, BagAt.ne d4.2 hlA, by decide, by decide, fun jA vA H5 hvA eA bA => ?_⟩
      obtain ⟨z, rfl, hz1, hz2⟩ := hlq _ (by unfold Asc; decide +kernel) jA vA hvA
      have d5 := d4a.trans (Dr.draw eA bA)
      have atw5 := (eA pw npw).trans atwa
      walk_at "wn"
      refine ⟨by show 1 ≤ sizeLine; decide, fun l2 hl2 => ?_⟩
      have d6 := d5.trans (Dr.new (o := .lst [.str z]) d5.2 hl2)
      have atw6 : upd H5 l2 (.lst [.str z]) pw = _ := (upd_ne (ne_of_none atw5 hl2)).trans atw5
      have atz : upd H5 l2 (.lst [.str z]) l2 = some (.lst [.str z]) := upd_same
      generalize upd H5 l2 (.lst [.str z]) = H6 at d6 atw6 atz
      refine ⟨pw, l2, _, _, rfl, rfl, atw6, atz, by rw [List.length_map, sizeLine_eq]; show _ + 1 ≤ _; omega, fun l3 hl3 => ?_⟩
      have d7 := d6.trans (Dr.new (o := .lst ((Txt.split t " ").map V.str ++ [.str z])) d6.2 hl3)
      refine jn (ys := Txt.split t " " ++ [z]) (by rw [List.map_append]; exact upd_same) ?_ (fun y hy => ?_) (fun t' h1 h2 => k t' _ h1 h2 d7)
      · rw [List.map_append, List.sum_append, List.length_append]
        show _ + (z.length + 0) + (_ + 1) ≤ 200
        omega
      · rcases List.mem_append.mp hy with hy | hy
        · exact hasp y hy
        · rw [List.mem_singleton.mp hy]
          exact hz1
    rw [decide_eq_false e3]
    walk_at "wn"
    by_cases e4 : V.int (way : Int) = V.int 4
    · rw [decide_eq_true e4]
      walk_at "wn"
      refine ⟨1, rfl, ?_⟩
      walk_at "wn"
      refine ⟨pw, _, rfl, SqL.of atw, fun l2 hl2 => ?_⟩
      rw [hwords, List.map_append, show [lst_].map V.str = [V.str lst_] from rfl, cut_init]
      have d5 := d4.trans (Dr.new (o := .lst (init.map V.str)) d4.2 hl2)
      refine jn (ys := init) upd_same ?_ (fun y hy => hasp y (by rw [hwords]; exact List.mem_append.mpr (.inl hy))) (fun t' h1 h2 => k t' _ h1 h2 d5)
      omega
    rw [decide_eq_false e4]
    walk_at "wn"
    by_cases e5 : V.int (way : Int) = V.int 5
    · rw [decide_eq_true e5]
      walk_at "wn"
      refine ⟨by show 6 ≤ sizeLine; decide, fun lA hlA => ?_⟩
      have d4a := d4.trans (Dr.new (o := .lst ((["copy", "add", "wait", "Fork", "news", ""] : List Str).map V.str)) d4.2 hlA)
      have atwa : upd H4 lA (.lst ((["copy", "add", "wait", "Fork", "news", ""] : List Str).map V.str)) pw = _ := (upd_ne (ne_of_none atw hlA)).trans atw
      walk_at "wn"
      refine ⟨p, lA, (["copy", "add", "wait", "Fork", "news", ""] : List Str).map V.str, rfl, d4a.2, SqL.of upd_same, BagAt.ne d4.2 hlA, by decide, by decide, fun jA vA H5 hvA eA bA => ?_⟩
      obtain ⟨z, rfl, hz1, hz2⟩ := hlq _ (by unfold Asc; decide +kernel) jA vA hvA
      have d5 := d4a.trans (Dr.draw eA bA)
      have atw5 := (eA pw npw).trans atwa
      walk_at "wn"
      rw [hsp] at atw5
      refine ⟨pw, _, 0, V.str w0, rfl, rfl, SqL.of atw5, atI_nat (j := 0) rfl, ?_⟩
      refine ⟨w0, rfl, by rw [sizeLine_eq]; omega, ?_⟩
      walk_at "wn"
      refine ⟨t, rfl, by rw [sizeLine_eq]; omega, ?_⟩
      have c3 := asc_cut ha (some (w0.length : Int)) none
      refine ⟨_, _, rfl, rfl, by rw [sizeLine_eq]; omega, ?_⟩
      exact k _ H5 (asc_app hz1 c3.1) (by rw [strLen_append]; omega) d5
    rw [decide_eq_false e5]
    walk_at "wn"
    refine ⟨by show 9 ≤ sizeLine; decide, fun lS hlS => ?_⟩
    have d5 := d4.trans (Dr.new (o := .lst ((["00", "01", "1000000000", "999999999", "-1", "- ", "", "None", "Level"] : List Str).map V.str)) d4.2 hlS)
    have atw5 : upd H4 lS (.lst ((["00", "01", "1000000000", "999999999", "-1", "- ", "", "None", "Level"] : List Str).map V.str)) pw = _ := (upd_ne (ne_of_none atw hlS)).trans atw
    have atS : upd H4 lS (.lst ((["00", "01", "1000000000", "999999999", "-1", "- ", "", "None", "Level"] : List Str).map V.str)) lS = some (.lst ((["00", "01", "1000000000", "999999999", "-1", "- ", "", "None", "Level"] : List Str).map V.str)) := upd_same
    have nS : lS ≠ p := BagAt.ne d4.2 hlS
    show gName 6 (.ref lS) _ (upd H4 lS (.lst ((["00", "01", "1000000000", "999999999", "-1", "- ", "", "None", "Level"] : List Str).map V.str))) _
    generalize upd H4 lS (.lst ((["00", "01", "1000000000", "999999999", "-1", "- ", "", "None", "Level"] : List Str).map V.str)) = H5 at d5 atw5 atS
    walk_at "wn"
    refine ⟨1, rfl, ?_⟩
    walk_at "wn"
    refine ⟨pw, _, rfl, SqL.of atw5, fun l2 hl2 => ?_⟩
    rw [hwords, List.map_append, show [lst_].map V.str = [V.str lst_] from rfl, cut_init]
    have d6 := d5.trans (Dr.new (o := .lst (init.map V.str)) d5.2 hl2)
    have atS6 : upd H5 l2 (.lst (init.map V.str)) lS = _ := (upd_ne (ne_of_none atS hl2)).trans atS
    have at2 : upd H5 l2 (.lst (init.map V.str)) l2 = some (.lst (init.map V.str)) := upd_same
    have n2 : l2 ≠ p := BagAt.ne d5.2 hl2
    generalize upd H5 l2 (.lst (init.map V.str)) = H6 at d6 atS6 at2
    walk_at "wn"
    refine ⟨p, lS, (["00", "01", "1000000000", "999999999", "-1", "- ", "", "None", "Level"] : List Str).map V.str, rfl, d6.2, SqL.of atS6, nS, by decide, by decide, fun jA vA H7 hvA eA bA => ?_⟩
    obtain ⟨z, rfl, hz1, hz2⟩ := hlq _ (by unfold Asc; decide +kernel) jA vA hvA
    have d7 := d6.trans (Dr.draw eA bA)
    have at27 := (eA l2 n2).trans at2
    walk_at "wn"
    refine ⟨by show 1 ≤ sizeLine; decide, fun l3 hl3 => ?_⟩
    have d8 := d7.trans (Dr.new (o := .lst [.str z]) d7.2 hl3)
    have at28 : upd H7 l3 (.lst [.str z]) l2 = _ := (upd_ne (ne_of_none at27 hl3)).trans at27
    have atz : upd H7 l3 (.lst [.str z]) l3 = some (.lst [.str z]) := upd_same
    generalize upd H7 l3 (.lst [.str z]) = H8 at d8 at28 atz
    refine ⟨l2, l3, _, _, rfl, rfl, at28, atz, by rw [List.length_map, sizeLine_eq]; show _ + 1 ≤ _; omega, fun l4 hl4 => ?_⟩
    have d9 := d8.trans (Dr.new (o := .lst (init.map V.str ++ [.str z])) d8.2 hl4)
    refine jn (ys := init ++ [z]) (by rw [List.map_append]; exact upd_same) ?_ (fun y hy => ?_) (fun t' h1 h2 => k t' _ h1 h2 d9)
    · rw [List.map_append, List.sum_append, List.length_append]
      show _ + (z.length + 0) + (_ + 1) ≤ 200
      omega
    · rcases List.mem_append.mp hy with hy | hy
      · exact hasp y (by rw [hwords]; exact List.mem_append.mpr (.inl hy))
      · rw [List.mem_singleton.mp hy]
        exact hz1
end
end Wn

namespace Wn
open PySem PySem.Spec PyProof.Rows L2 Evl
local macro_rules | `(tactic| walk_at "wn1") => `(tactic| first | ((with_reducible show (if (!decide _) = true then _ else _)); refine' g_nes ?_) | ((with_reducible show (if (decide _) = true then _ else _)); refine' g_es ?_) | with_reducible first
  | (refine' g_var ?h ?q; (case h => with_unfolding_all rfl))
  | refine' g_c ?_ | refine' g_op ?_ | refine' g_rI0 ?_ | refine' g_asg ?_ | refine' g_name ?_ | refine' g_seq ?_ | refine' g_ret ?_ | refine' g_retN ?_ | refine' g_next ?_ | refine' g_drop ?_
  | refine' g_nil ?_ | refine' g_cons ?_ | refine' g_cb ?_ | refine' g_test ?_ | refine' g_bl ?_ | refine' g_if ?_ | refine' g_ifs ?_ | refine' g_not ?_ | refine' g_part ?_ | refine' g_pint ?_ | refine' g_nopart ?_ | refine' g_call ?_
  | (refine' g_mul ?h ?q; (case h => with_unfolding_all first | exact Or.inl ⟨by decide, by decide⟩ | exact Or.inr ⟨by decide, by decide⟩ | exact Or.inl ⟨by omega, by omega⟩ | exact Or.inr ⟨by omega, by omega⟩))
  | (refine' g_mod ?h ?q; (case h => with_unfolding_all first | decide | omega))
  | refine' g_rIsN ?_ | refine' g_rNotN ?_ | refine' g_max2 ?_ | refine' g_min2 ?_ | refine' g_and ?_ | refine' g_or ?_ | refine' g_orV ?_ | refine' g_andV ?_ | refine' g_notV ?_ | refine' g_m1 ?_ | refine' g_yes ?_ | refine' g_bm ?_ | refine' g_bm0 ?_
  | (refine' g_tyL ?h ?q; (case h => first | assumption | exact upd_same))
  | refine' g_m0 ?_ | refine' g_tB ?_ | refine' g_isS ?_ | refine' g_bT ?_ | refine' g_bF ?_ | refine' g_bNT ?_ | refine' g_callK ?_ | refine' g_bNF ?_
  | (refine' g_lenL ?h ?q; (case h => first | assumption | exact upd_same))
  | refine' g_un ?_ | refine' g_rint _ ?_ | refine' g_rabs ?_ | refine' g_sl ?_ 
  | (refine' g_ixL ?h ?a ?q; (case h => first | assumption | exact upd_same); (case a => with_unfolding_all rfl))
  | (refine' g_div ?h0 ?h1 ?q; (case h0 => with_unfolding_all first | decide | omega); (case h1 => with_unfolding_all first | decide | omega))
  | refine' g_sub ?_
  | (refine' g_setL ?h ?a ?q; (case h => first | assumption | exact upd_same); (case a => with_unfolding_all rfl))
  | refine' g_lst ?_ | refine' g_tup ?_
  | (refine' g_rEq ?h ?q; (case h => with_unfolding_all rfl)) | (refine' g_rNe ?h ?q; (case h => with_unfolding_all rfl)))
local macro_rules | `(tactic| walk_at "wn") => `(tactic| repeat walk_at "wn1")

theorem takes_len {X : Cx} {W : WX} (tk : Takes X W) : Takes X fun cls d σ H => σ.length = X.N.length → W cls d σ H := fun u s' ⟨a, B, sI, pins, σ, H, cls, d, h1, I, h2, h3, h4, h5, h6, h7, h8⟩ => tk u s' ⟨a, B, sI, pins, σ, H, cls, d, h1, I, h2, h3, h4, h5, h6, h7, h8 I.len⟩
/-! isinstance(e, T), e a caught error with its own dict -/
def rIsX (K : PySem.W.Frag) (D a : Addr) (cls : Value) (d : Option Addr) : List V → Hp → VK → Prop := fun xs H Q => cls = .ref D ∧ ∃ (c : V) (cv : Value) (b : Bool) (dd : Addr) (fs : List (Str × V)), xs = [.ref a, c] ∧ (∀ u, RelV c u → u = cv) ∧ PySem.W.kitOne K (.ref D) cv = some b ∧ d = some dd ∧ H dd = some (.xd fs) ∧ Q (.bl b) H
theorem call_isX {X : Cx} {a D : Addr} {cls : Value} {d : Option Addr} {oe : Obj} {pn : List (Addr × Obj)} (C : ExcC X.K D) (hD : (PySem.W.clsIn X.K D).isSome = true) (hz : Zc cls d oe) (hf : ∃ vs, oe.data = .fields vs) : CallR (X.suite a ((a, oe) :: pn)) (.builtin "isinstance") (rIsX X.K D a cls d) := by
  rintro pins s σ H xs us Q I r ⟨rfl, c, cv, b, dd, fs, rfl, hcv, e, rfl, hd, q⟩
  obtain ⟨u1, u2, rfl, ra, rb⟩ := vals2 r
  obtain rfl : u1 = Value.ref a := ra
  obtain rfl := hcv _ rb
  have hp := I.pin (a, oe) (List.mem_append.mpr (.inl List.mem_cons_self))
  have ok := I.hok _ _ hd
  obtain ⟨hz1, hz2⟩ := hz
  obtain ⟨vs, hf⟩ := hf
  obtain ⟨o, ho⟩ : ∃ o, s.heap.get? dd = some o := by
    obtain ⟨mA, ⟨o, es, ep, e1, _⟩, _⟩ := ok
    exact ⟨o, e1⟩
  have ia : PySem.W.InstAt s.heap a oe D (some o) := ⟨hp.1, hz1, by unfold PySem.W.notCls; rw [hf], by rw [hz2]; exact ho⟩
  refine PySem.W.kia_one (PySem.W.kitx_exc (od := some o) (ox := oe) hD C.hg C.hk C.hs C.ha C.hn C.ht C.hm) I.kIn ia e (fun z => nomatch z) fun tk => ?_
  exact ⟨.bl b, H, I.tok _, rfl, q⟩
/-- what is handed to the law's _law_refused raises an error with a line, or nothing -/
def TRef (C : Addr) (tl : XK → Hp → VK → Prop) (H : Hp) (Q : VK) : Prop :=
  ∀ E : XK, (∀ (dd : Addr) (n : Int) (H' : Hp), H' dd = some (.xd [(("line" : Str), .int n)]) → (∀ l, H' l = none → Q (.ref l) (upd H' l (.lst [.int n, .bl true]))) → E (.ref C) (some dd) H') → tl E H fun _ H' => Q .non H'
section
variable {C fI : Addr} {fdI : FuncData}
theorem scRef : FnScope ["_law_deed", "e"] ["_law_deed"] (defScope sRefused) := ⟨rfl, rfl, rfl, by decide +kernel, rfl, by decide +kernel, by decide +kernel⟩
theorem ref_gives {X : Cx} {g : Addr} {cdg : Value} {q : Str} (T : ErrTxt X.K X.mg C fI fdI) (isin : X.mg "isinstance" = none) (EC : ExcC X.K C) (hC : (PySem.W.clsIn X.K C).isSome = true) (kv : PySem.W.kitOne X.K (.ref C) (.type "ValueError") = some true) :
    LamX.GivesTo X ["_law_deed", "e"] "_law_refused" (defScope sRefused) g cdg (defBody sRefused) "_law_deed" q (TRef C) := by
  intro f c' s H Q tl hPE hc' hT
  refine ⟨_, pss_cons (ps_try_as (i := 1) (c := .ref C) (Wout := fun _ _ _ _ => False)
      (tb := fun W D σ H1 => (σ[0]? = some (some (.ref f)) ∧ H1 c' = some (LamX.CodeO c' q) ∧ tl (fun cls d H' => ∀ σ' : L2.St, σ'.length = 2 → W cls d σ' H') H1 fun _ H2 => D.nx σ H2))
      (ts := fun a cls d => tRet (tLst (tCons (tXf a cls d C "line" (tVar 1)) (tCons (tCB (rIsX X.K C a cls d) (tCons (tVar 1) (tCons (tC (.ty "ValueError")) tNil))) tNil))))
      rfl rfl scRef.nd rfl rfl ⟨rfl, by decide, Or.inl T.gC⟩ takes0
      (fun W pn xe tk _ => pss_one (ps_expr (hPE _ pn xe _ _ _ (takes_len tk) (fun cls d σ' H' h hl => h σ' hl))))
      (fun a oe cls d pn hz hf => pss_one (ps_ret (pe_lst (pa_cons (pe_xf T.xf T.noN hz hf (pv 1)) (pa_cons (pe_callB (call_isX EC hC hz hf) (by rfl) isin PyProof.Rows.boot_isinstance (pa_cons (pv 1) (pa_cons (pe_bltn (v := .ty "ValueError") (by rfl) T.gV (by rfl) rfl) pa_nil))) pa_nil))))))
      (pss_one (ps_ret pe_non)), ?_⟩
  refine ⟨rfl, hc', hT _ fun dd n H' hd k σ' hl => ⟨true, T.te, fun _ a ha => ?_, fun z => Bool.noConfusion z⟩⟩
  have e1 : (σ'.set 1 (some (V.ref a)))[1]? = some (some (V.ref a)) := by rw [List.getElem?_set_self (by omega)]
  refine ⟨_, e1, rfl, rfl, dd, _, _, rfl, hd, rfl, _, e1, rfl, .ty "ValueError", .type "ValueError", true, dd, _, rfl, fun u h => h, kv, rfl, hd, by show 2 ≤ sizeLine; decide, fun l hl2 => k l hl2⟩
end
end Wn

namespace Wn
open PySem PySem.Spec PyProof.Rows L2 Evl
/-- what _law_refused rests on -/
structure RefTxt (K : PySem.W.Frag) (mg : Str → Option Value) (C fI : Addr) (fdI : FuncData) (g : Addr) (fd : FuncData) : Prop where
  fn : Fun K "_law_refused" "_law_refused" sRefused g fd
  gm : mg "_law_refused" = some (.ref g)
  bd : Binds K fd ["_law_deed"] []
  err : ErrTxt K mg C fI fdI
  isin : mg "isinstance" = none
  exc : ExcC K C
  cls : (PySem.W.clsIn K C).isSome = true
  kv : PySem.W.kitOne K (.ref C) (.type "ValueError") = some true
/-- _law_refused(lambda: e) -/
theorem pe_ref {X : Cx} {C fI g c Pt : Addr} {fdI fd : FuncData} {T : List (Addr × Str)} {k : Nat} {params : Arguments} {body : Expr} {scope : PySem.Scope} {t : XK → TE} {p lpos pos : Pos} (R : RefTxt X.K X.mg C fI fdI g fd) (hg : Gl X "_law_refused")
    (TB : LamX.TabB X.base X.mg c Pt) (hcode : X.env.code = .ref c) (hmT : (Pt, X.env.qual ++ "<lambda>") ∈ T) (hu : ∀ p ∈ T, p.1 = Pt → p.2 = X.env.qual ++ "<lambda>") (hr : Room (k + 2) X.A) (L : LamX.LamS X.env.scope scope) (hdef : defaultsOf params X.env = ([], []))
    (hbind : ∀ (q : Str) (cl : List (Str × Addr)) (pm cv ctv : Value), bindArgs (PySem.W.kla_fn "<lambda>" q params body scope cl pm cv ctv) ⟨[], []⟩ = pure [])
    (hbody : ∀ (A : Around) (outer : List Env) (s : Shared) (H : Hp) (E : XK) (f c' : Addr), Room k (A.deeper (LamX.lamEnv X scope s.heap.objs.size f c')) → PE (LamX.lamCx X A outer s H E scope f c') body (t E)) :
    PE X (.Call (.Name "_law_refused" p) [.Lambda params body scope lpos] [] pos) (LamX.tLam T (TRef C) t) := by
  obtain ⟨oc, od, kV, doc, pm, an, cdv, ct, osl, e, lk, hcg⟩ := R.fn.ex
  have bd := R.bd
  subst e
  exact LamX.pe_lamcall hg R.gm R.fn.kp lk hcg bd scRef rfl (by exact Or.inl rfl) (ref_gives R.err R.isin R.exc R.cls R.kv) TB hcode hmT hu hr L hdef hbind hbody
end Wn

namespace Wn
open PySem PySem.Spec PyProof.Rows L2 Evl
/-! the law's call where a code's table grows -/
theorem law_T {P : Program} {w : World} {K : PySem.W.Frag} {mg mb : Str → Option Value} {k : Nat} {fa a Pt : Addr} {fd : FuncData} {x : Str} {sp : Sp} {s : Shared} {vs : List Value} {ns : List Int}
    (KX : K.In s.heap) (hns : s.heap.Ns mainGlobals mg) (hb : s.heap.Ns builtinsNs mb) (hbb : ∀ x : Str, x ≠ "__name__" → mb x = bootBuiltins x) (hlim : s.heap.NoLimit) (hg : s.gens = #[])
    (ha : s.heap.get? a = some { cls := .type "list", data := .seq vs.toArray }) (hi : IntsAre vs ns) (hl : ns.length ≤ sizeLine) (hr : Room k callerA)
    (hPt : s.heap.get? Pt = some (PySem.W.tabObj #[])) (nPt : K.lookup Pt = none) (tPt : isCodeTable s.heap Pt)
    (F : ∀ base : Heap, K.In base → base.Ns mainGlobals mg → (∀ x : Str, x ≠ "__name__" → mb x = bootBuiltins x) → base.Ns builtinsNs mb → base.BuiltinsAt mg Pt → FnOk P w K mg base CX0 k fa fd [x] sp) (hbm : s.heap.BuiltinsAt mg Pt) (hbind : ∀ (s : Shared) (u : Value), BindsTo s fd ⟨[u], []⟩ [(x, u)])
    (hsp : ∀ H : Hp, SqL K H a (ns.map V.int) → H Pt = some (.tbl #[]) → sp [.ref a] H (fun v _ => v = .bl true) fun _ _ _ => False) :
    codeAny (model P w) callerA (.call (.ref fa) ⟨[.ref a], []⟩) (fun r s' => r = .ok (.ret (.bool true)) ∧ OldK s.heap s'.heap ∧ s'.os = s.os ∧ AllBare s'.gens) s := by
  have rv := vals_ints hi
  have nPa : Pt ≠ a := fun z => by
    rw [z, ha] at hPt
    cases hPt
  have run : ∀ H : Hp, (∀ b u, H b = some u → (b = a ∧ ∃ o ys, u = .frz o (.lst ys)) ∨ (b = Pt ∧ u = .tbl #[])) → (∀ u, H a = some u → K.lookup a = none) → HOk P w H s.heap → SqL K H a (ns.map V.int) → H Pt = some (.tbl #[]) →
      codeAny (model P w) callerA (.call (.ref fa) ⟨[.ref a], []⟩) (fun r s' => r = .ok (.ret (.bool true)) ∧ OldK s.heap s'.heap ∧ s'.os = s.os ∧ AllBare s'.gens) s := by
    intro H only noK ok hS hP
    have old : ∀ {b : Addr} {o : Obj}, s.heap.get? b = some o → H b = none → (hidT s.heap H).get? b = some o := fun e n => hidT_get e n
    have free : ∀ {b : Addr}, b ≠ a → b ≠ Pt → H b = none := fun {b} n1 n2 => by
      cases e : H b with
      | none => rfl
      | some u =>
        rcases only b u e with z | z
        · exact absurd z.1 n1
        · exact absurd z.1 n2
    have spaces : ∀ {b : Addr} {m : Str → Option Value}, s.heap.Ns b m → (hidT s.heap H).Ns b m := by
      rintro b m ⟨o, es, ep, e, d, r⟩
      refine ⟨o, es, ep, old e (free (fun z => ?_) fun z => ?_), d, r⟩
      · subst z
        rw [ha] at e
        cases e
        cases d
      · subst z
        rw [hPt] at e
        cases e
        cases d
    have bmh : (hidT s.heap H).BuiltinsAt mg Pt := by
      obtain ⟨bm, o, b1, b2, b3, b4, b5, b6, b7, b8⟩ := hbm
      refine ⟨bm, o, b1, b2, b3, b4, old b5 (free (fun z => ?_) b4), b6, b7, b8⟩
      rw [z, ha] at b5
      cases b5
      cases b8
    have kb : K.In (hidT s.heap H) := fun b o e => by
      refine old (KX b o e) ?_
      cases q : H b with
      | none => rfl
      | some u =>
        rcases only b u q with ⟨rfl, _⟩ | ⟨rfl, _⟩
        · rw [noK u q] at e
          cases e
        · rw [nPt] at e
          cases e
    have md : Mod K mg (hidT s.heap H) := ⟨kb, spaces hns, ⟨mb, spaces hb, hbb⟩, hlim.elim fun mc z => ⟨mc, spaces z.1, z.2⟩⟩
    have e0 : Env0 P w K mg (hidT s.heap H) callerA [] s H := ⟨rfl, md, fun b o e => of_hidT e, Nat.le_of_eq (hidT_size _ _), trivial, fun b hb => (nomatch (show b ∈ ([] : List Addr) from hb)), ok, .of_eq hg⟩
    refine codeAny_mono ((F _ kb (spaces hns) hbb (spaces hb) bmh).run callerA [] s H ⟨[.ref a], []⟩ [.ref a] [.ref a] _ _ hr e0 (hbind s _) (.cons rfl .nil) (hsp H hS hP)) ?_
    rintro (er | fl) s' z
    · exact z.elim
    cases fl with
    | next => exact z.elim
    | brk => exact z.elim
    | cont => exact z.elim
    | ret u =>
      obtain ⟨v, H', os, bare, un, ok', rv', rfl⟩ := z
      obtain rfl : u = Value.bool true := rv'
      have fin : ∀ b o, s.heap.get? b = some o → b ≠ Pt → s'.heap.get? b = some o := fun b o e nb => by
        cases q : H b with
        | none => exact un.keep b o e q (fun z => nomatch z) (by simp)
        | some u =>
          rcases only b u q with ⟨rfl, ob, ys, rfl⟩ | ⟨rfl, _⟩
          · have e1 := (ok _ _ q).1
            have e2 := (ok' _ _ (un.frzs _ _ _ q)).1
            rw [e] at e1
            cases e1
            exact e2
          · exact absurd rfl nb
      obtain ⟨more, hm⟩ := un.tbls _ _ hP
      have eP : s'.heap.get? Pt = some { cls := Value.none, data := Data.fields (#[] ++ more) } := ok' _ _ hm
      refine ⟨rfl, ⟨fun b o e => ?_, fun b o e => ?_⟩, os, bare⟩
      · by_cases nb : b = Pt
        · subst nb
          rw [hPt] at e
          cases e
          exact .inr (.inl ⟨tPt, rfl, #[], more, rfl, eP⟩)
        · exact .inl (fin b o e nb)
      · by_cases nb : b = Pt
        · subst nb
          exact ⟨_, eP⟩
        · exact ⟨_, fin b o e nb⟩
  have lenV := hi.length
  cases hk : K.lookup a with
  | some o =>
    have e := KX a o hk
    rw [ha] at e
    cases e
    refine run (fun b => if b = Pt then some (.tbl #[]) else none) (fun b u z => ?_) (fun u z => ?_) (fun b u z => ?_) (.inr ⟨_, vs.toArray, _, hk, rfl, rfl, rfl, by rw [List.size_toArray, lenV]; exact hl, by simpa using rv⟩) (if_pos rfl)
    · by_cases hb : b = Pt
      · try dsimp only at z
        rw [if_pos hb] at z
        cases z
        exact .inr ⟨hb, rfl⟩
      · try dsimp only at z
        rw [if_neg hb] at z
        cases z
    · try dsimp only at z
      rw [if_neg nPa.symm] at z
      cases z
    · by_cases hb : b = Pt
      · try dsimp only at z
        rw [if_pos hb] at z
        cases z
        subst hb
        exact hPt
      · try dsimp only at z
        rw [if_neg hb] at z
        cases z
  | none =>
    refine run (fun b => if b = a then some (.frz { cls := .type "list", data := .seq vs.toArray } (.lst (ns.map V.int))) else if b = Pt then some (.tbl #[]) else none) (fun b u z => ?_) (fun _ _ => hk) (fun b u z => ?_) (.inl (.inr ⟨_, if_pos rfl⟩)) ?_
    · try dsimp only at z
      by_cases hb : b = a
      · rw [if_pos hb] at z
        cases z
        exact .inl ⟨hb, _, _, rfl⟩
      · rw [if_neg hb] at z
        by_cases hb2 : b = Pt
        · rw [if_pos hb2] at z
          cases z
          exact .inr ⟨hb2, rfl⟩
        · rw [if_neg hb2] at z
          cases z
    · try dsimp only at z
      by_cases hb : b = a
      · rw [if_pos hb] at z
        cases z
        subst hb
        exact ⟨ha, by rw [List.length_map]; exact hl, vs, _, rv, ha⟩
      · rw [if_neg hb] at z
        by_cases hb2 : b = Pt
        · rw [if_pos hb2] at z
          cases z
          subst hb2
          exact hPt
        · rw [if_neg hb2] at z
          cases z
    · try dsimp only
      rw [if_neg nPa, if_pos rfl]
theorem walkT {l : PySem.W.OpenLaw} {n k : Nat} {q : Program} {loose : List Str} {XP : (Str → Option Value) → Heap → Prop} {YP : World → Heap → Prop} {d : DefRec} {K : Params → PySem.W.Frag} {sp : PySem.W.Frag → (Str → Option Value) → Sp} {x : Str} {Pt : Addr}
    (hn : l.most = some n) (hn2 : n ≤ sizeLine) (hdf : d.params.defaults = []) (hr : Room k callerA) (hY : ∀ (w : World) (h : Heap), YP w h → (K w.params).In h) (hT : ∀ (w : World) (h : Heap), YP w h → h.get? Pt = some (PySem.W.tabObj #[])) (nT : ∀ w : World, (K w.params).lookup Pt = none)
    (tT : ∀ (w : World) (h : Heap), (K w.params).In h → isCodeTable h Pt)
    (F : ∀ (w : World) (mg : Str → Option Value) (fa : Addr) (h : Heap), (K w.params).In h → h.Ns mainGlobals mg → mg d.name = some (.ref fa) →
      ∃ fd : FuncData, (∀ (s : Shared) (u : Value), BindsTo s fd ⟨[u], []⟩ [(x, u)]) ∧ (∀ base : Heap, (K w.params).In base → base.Ns mainGlobals mg → base.BuiltinsAt mg Pt → FnOk l.prog w (K w.params) mg base CX0 k fa fd [x] (sp (K w.params) mg)) ∧
        ∀ (H : Hp) (a : Addr) (ns : List Int), ns.length ≤ n → SqL (K w.params) H a (ns.map V.int) → H Pt = some (.tbl #[]) → sp (K w.params) mg [.ref a] H (fun v _ => v = .bl true) fun _ _ _ => False) :
    PySem.W.WalkO q loose XP YP l.row.toRowW d [] (fun f vs => PySem.call f vs) := by
  refine Att.attach_call hn hdf fun w s₀ s₁ mg mb fa o pm cd doc a vs ns G Y ho hd hcd hmg hobj hints hlen hg => ?_
  obtain ⟨fd, hb, hF, hsp⟩ := F w mg fa _ (hY w _ Y) G.T.g hmg
  have hbm : s₁.heap.BuiltinsAt mg Pt := by
    obtain ⟨bm, ob, b1, b2, b3, b4, b5, b6⟩ := G.T.bmain
    refine ⟨bm, ob, b1, b2, fun z => ?_, fun z => ?_, b3, b4, b5, b6⟩
    · obtain ⟨o, es, ep, e, d, r⟩ := G.T.g
      rw [z, e] at b3
      cases b3
      rw [d] at b6
      cases b6
    · rw [z, hT w _ Y] at b3
      cases b3
      cases b6
  exact law_T (hY w _ Y) G.T.g G.T.b G.T.builtins G.T.nolimit hg hobj hints (Nat.le_trans hlen hn2) hr (hT w _ Y) (nT w) (tT w _ (hY w _ Y)) (fun base k1 k2 _ _ k3 => hF base k1 k2 k3) hbm hb fun H hS hP => hsp H a ns hlen hS hP
end Wn

namespace Wn
open PySem PySem.Spec PyProof.Rows L2 Evl
local macro_rules | `(tactic| walk_at "wn1") => `(tactic| first | ((with_reducible show (if (!decide _) = true then _ else _)); refine' g_nes ?_) | ((with_reducible show (if (decide _) = true then _ else _)); refine' g_es ?_) | with_reducible first
  | (refine' g_var ?h ?q; (case h => with_unfolding_all rfl))
  | refine' g_c ?_ | refine' g_op ?_ | refine' g_rI0 ?_ | refine' g_asg ?_ | refine' g_name ?_ | refine' g_seq ?_ | refine' g_ret ?_ | refine' g_retN ?_ | refine' g_next ?_ | refine' g_drop ?_
  | refine' g_nil ?_ | refine' g_cons ?_ | refine' g_cb ?_ | refine' g_test ?_ | refine' g_bl ?_ | refine' g_if ?_ | refine' g_ifs ?_ | refine' g_not ?_ | refine' g_part ?_ | refine' g_pint ?_ | refine' g_nopart ?_ | refine' g_call ?_
  | (refine' g_mul ?h ?q; (case h => with_unfolding_all first | exact Or.inl ⟨by decide, by decide⟩ | exact Or.inr ⟨by decide, by decide⟩ | exact Or.inl ⟨by omega, by omega⟩ | exact Or.inr ⟨by omega, by omega⟩))
  | (refine' g_mod ?h ?q; (case h => with_unfolding_all first | decide | omega))
  | refine' g_rIsN ?_ | refine' g_rNotN ?_ | refine' g_max2 ?_ | refine' g_min2 ?_ | refine' g_and ?_ | refine' g_or ?_ | refine' g_orV ?_ | refine' g_andV ?_ | refine' g_notV ?_ | refine' g_m1 ?_ | refine' g_yes ?_ | refine' g_bm ?_ | refine' g_bm0 ?_
  | (refine' g_tyL ?h ?q; (case h => first | assumption | exact upd_same))
  | refine' g_m0 ?_ | refine' g_tB ?_ | refine' g_isS ?_ | refine' g_bT ?_ | refine' g_bF ?_ | refine' g_bNT ?_ | refine' g_callK ?_ | refine' g_bNF ?_
  | (refine' g_lenL ?h ?q; (case h => first | assumption | exact upd_same))
  | refine' g_un ?_ | refine' g_rint _ ?_ | refine' g_rabs ?_ | refine' g_sl ?_ 
  | (refine' g_ixL ?h ?a ?q; (case h => first | assumption | exact upd_same); (case a => with_unfolding_all rfl))
  | (refine' g_div ?h0 ?h1 ?q; (case h0 => with_unfolding_all first | decide | omega); (case h1 => with_unfolding_all first | decide | omega))
  | refine' g_sub ?_
  | (refine' g_setL ?h ?a ?q; (case h => first | assumption | exact upd_same); (case a => with_unfolding_all rfl))
  | refine' g_lst ?_ | refine' g_tup ?_
  | (refine' g_rEq ?h ?q; (case h => with_unfolding_all rfl)) | (refine' g_rNe ?h ?q; (case h => with_unfolding_all rfl)))
local macro_rules | `(tactic| walk_at "wn") => `(tactic| repeat walk_at "wn1")

section
variable {P : Program} {w : World} {K : PySem.W.Frag} {mg : Str → Option Value} {base : Heap}
/-- a def whose code is known -/
theorem okC {CX : CXT} {x qual : Str} {st : Stmt} {N ps : List Str} {k : Nat} {f c : Addr} {fd : FuncData} {sp : Sp} (F : Fun K x qual st f fd) (hc : fd.code = .ref c) (S : FnScope N ps (defScope st)) (len : ∀ vs H Q E, sp vs H Q E → vs.length = ps.length)
    (body : ∀ (A : Around) (outer : List Env) (s : Shared) (H : Hp) (vs : List V) (Q : VK) (E : XK), Room k (A.deeper (envOfC qual (defScope st) s.heap.objs.size f (.ref c))) → sp vs H Q E →
      ∃ t, PSs (cxOf CX P w K mg base N qual (defScope st) f (.ref c) A outer s H E) (defBody st) t ∧ t { nx := fun _ H' => Q .non H', rt := Q } (start N vs) H) : FnOk P w K mg base CX (k + 1) f fd ps sp := by
  obtain ⟨oc, od, kV, doc, pm, an, cdv, ct, osl, rfl, lk, hcd⟩ := F.ex
  obtain rfl : cdv = .ref c := hc
  exact ⟨len, fun A outer s H args us vs Q E hr e hb r h => LamX.run_ofS lk hcd S hr e hb r (len _ _ _ _ h) fun hr' => body A outer s H vs Q E hr' h⟩
abbrev nLaw : List Str := ["_law_script", "_law_at", "_law_bag_here", "_law_turn", "_law_lines", "_law_k", "_law_whole", "_law_wrong", "_law_due", "_law_thing", "_law_j"]
theorem scLaw : FnScope nLaw ["_law_script"] (defScope sLaw) := ⟨rfl, rfl, rfl, by decide +kernel, rfl, by decide +kernel, by decide +kernel⟩
structure LawFr (mg : Str → Option Value) : Prop where
  range : mg "range" = none
  max : mg "max" = none
  min : mg "min" = none
  len : mg "len" = none
theorem lawTerm {A : Around} {outer : List Env} {s : Shared} {H : Hp} {E : XK} {f c Pt C fI g f1 fs fB fT fL fB2 fi : Addr} {fdI fd fd1 fds fdB fdT fdL fdB2 fdi : FuncData} (T : LawFr mg) (R : RefTxt K mg C fI fdI g fd) (TB : LamX.TabB base mg c Pt)
    (G1 : FnOk P w K mg base (L2.CX P w) 4 f1 fd1 ["text"] (spRdCall K mg C)) (k1 : PySem.W.keepIn K (.ref f1) = true) (m1 : mg "read_call" = some (.ref f1)) (b1 : Binds K fd1 ["text"] [])
    (Gs : FnOk P w K mg base (L2.CX P w) 4 fs fds ["text"] (spRdCalls K mg C)) (ks : PySem.W.keepIn K (.ref fs) = true) (ms : mg "read_calls" = some (.ref fs)) (bs : Binds K fds ["text"] [])
    (GB : FnOk P w K mg base CX0 1 fB fdB ["_law_script", "_law_at"] (spBag K)) (kB : PySem.W.keepIn K (.ref fB) = true) (mB : mg "_law_bag" = some (.ref fB)) (bB : Binds K fdB ["_law_script", "_law_at"] [])
    (GT : FnOk P w K mg base CX0 1 fT fdT ["_law_bag_here", "_law_many"] spTake) (kT : PySem.W.keepIn K (.ref fT) = true) (mT : mg "_law_take" = some (.ref fT)) (bT : Binds K fdT ["_law_bag_here", "_law_many"] [])
    (GL : FnOk P w K mg base CX0 3 fL fdL ["_law_bag_here"] spLn) (kL : PySem.W.keepIn K (.ref fL) = true) (mL : mg "_law_line" = some (.ref fL)) (bL : Binds K fdL ["_law_bag_here"] [])
    (GB2 : FnOk P w K mg base CX0 3 fB2 fdB2 ["_law_bag_here", "_law_line_here"] spBent) (kB2 : PySem.W.keepIn K (.ref fB2) = true) (mB2 : mg "_law_bent" = some (.ref fB2)) (bB2 : Binds K fdB2 ["_law_bag_here", "_law_line_here"] [])
    (GI : FnOk P w K mg base CX0 2 fi fdi ["_law_line_here"] spIsCall) (kI : PySem.W.keepIn K (.ref fi) = true) (mI : mg "_law_is_call" = some (.ref fi)) (bI : Binds K fdi ["_law_line_here"] [])
    (hr : Room 6 (A.deeper (envOfC "law" (defScope sLaw) s.heap.objs.size f (.ref c)))) (hu : (A.deeper (envOfC "law" (defScope sLaw) s.heap.objs.size f (.ref c))).units + 64 < cLine) :
    ∃ t, PSs (cxOf CX0 P w K mg base nLaw "law" (defScope sLaw) f (.ref c) A outer s H E).nox (defBody sLaw) t := by
  have r1 : Room 1 (A.deeper (envOfC "law" (defScope sLaw) s.heap.objs.size f (.ref c))) := hr.mono (by decide)
  have hr2 : Room 2 (A.deeper (envOfC "law" (defScope sLaw) s.heap.objs.size f (.ref c))) := hr.mono (by decide)
  have hr3 : Room 3 (A.deeper (envOfC "law" (defScope sLaw) s.heap.objs.size f (.ref c))) := hr.mono (by decide)
  exact ⟨_, (pss_cut (ps_for PassesOwn.never rfl (pi_range1 (by rfl) T.range (pa_cons (pe_callB (cMax2 rfl) (by rfl) T.max (by decide +kernel) (pa_cons pe_int (pa_cons (pe_callB (cMin2 rfl) (by rfl) T.min (by decide +kernel) (pa_cons pe_int (pa_cons (pe_callB cLenQ (by rfl) T.len PySem.boot_len (pa_cons (pv 0) pa_nil)) pa_nil))) pa_nil))) pa_nil)) (pg_name (i := 1) scLaw.nd rfl (Or.inl rfl))
      (pss_cut (ps_set (i := 2) scLaw.nd rfl (Or.inr rfl) (pe_call GB r1 (by rfl) mB kB bB .nil pass0 (pa_cons (pv 0) (pa_cons (pv 1) pa_nil))))
      (pss_cut (ps_for PassesOwn.never rfl (pi_range1 (by rfl) T.range (pa_cons pe_int pa_nil)) (pg_name (i := 3) scLaw.nd rfl (Or.inl rfl))
      (pss_cut (ps_set (i := 4) scLaw.nd rfl (Or.inr rfl) (pe_lc (own := [("_law_k", 5)]) (g := gName 5) (tt := tYes) rfl scLaw.nd (pi_range1 (by rfl) T.range (pa_cons (pe_op op_add pe_int (pe_call GT r1 (by rfl) mT kT bT .nil pass0 (pa_cons (pv 2) (pa_cons pe_int pa_nil)))) pa_nil)) (blkOk_by (N := nLaw) (sc := defScope sLaw) (by decide +kernel)) (fun _ _ _ _ _ => pg_name (i := 5) scLaw.nd rfl (Or.inl rfl)) (fun _ _ _ _ _ => pts_nil) (fun _ _ _ _ _ => (pe_call GL hr3 (by rfl) mL kL bL .nil pass0 (pa_cons (pv 2) pa_nil)))))
      (pss_cut (ps_set (i := 5) scLaw.nd rfl (Or.inr rfl) (pe_call GT r1 (by rfl) mT kT bT .nil pass0 (pa_cons (pv 2) (pa_cons (pe_callB cLenQ (by rfl) T.len PySem.boot_len (pa_cons (pv 4) pa_nil)) pa_nil))))
      (pss_cut (ps_asg (pe_call GB2 hr3 (by rfl) mB2 kB2 bB2 .nil pass0 (pa_cons (pv 2) (pa_cons (pe_ix ix_list (pv 4) (pv 5) (fun _ _ => rfl)) pa_nil))) (pg_sub (pv 4) (pv 5) set_list))
      (pss_cut (ps_set (i := 6) scLaw.nd rfl (Or.inr rfl) (pe_join pe_str (pv 4)))
      (pss_cut (ps_setLc (i := 7) (own := [("_law_j", 10)]) (g := gName 10) (tt := tNot (tTest (tCall spIsCall [] E0 (tCons (tOp (rIxL K) (tVar 4) (tVar 10)) tNil)))) rfl scLaw.nd rfl rfl (sw_true rfl rfl rfl (by decide +kernel)) (pi_range1 (by rfl) T.range (pa_cons (pe_callB cLenQ (by rfl) T.len PySem.boot_len (pa_cons (pv 4) pa_nil)) pa_nil)) (blkOk_by (N := nLaw) (sc := defScope sLaw) (by decide +kernel)) (fun _ _ _ _ _ => pg_name (i := 10) scLaw.nd rfl (Or.inl rfl)) (fun _ _ _ _ _ => pts_one (pt_not (pt_val (pe_call GI hr2 (by rfl) mI kI bI .nil pass0 (pa_cons (pe_ix ix_list (pv 4) (pv 10) (fun _ _ => rfl)) pa_nil))))) (fun _ _ _ _ _ => (pv 10)))
      (pss_cut (ps_set (i := 8) scLaw.nd rfl (Or.inl rfl) (pe_ifExp (PW.pt (pw_or (pt_cmpR (op_eqD hu) (pv 7) (pe_lst pa_nil) (nomark _)) (pw_or1 (pt_cmpR op_eq (pv 6) pe_str (nomark _))))) pe_non (pe_lst (pa_cons (pe_ix ix_list (pv 7) pe_int (fun _ _ => rfl)) (pa_cons pe_bl pa_nil)))))
      (pss_cut (ps_if (pt_cmpR (op_neD hu) (pe_ref (k := 4) (T := [(Pt, "law.<locals>.<lambda>")]) (t := fun E => tCallS (spRdCalls K mg C) (fun _ => E) (tCons (tVar 6) tNil)) R (by rfl) TB rfl (List.mem_singleton.mpr (by rfl)) (fun p hp _ => by rw [List.mem_singleton.mp hp]; rfl) hr (LamX.lamS_by (sc := defScope sLaw) (by decide +kernel)) rfl (fun _ _ _ _ _ => rfl) (fun A outer s H E f c' hr2 => pe_callS Gs hr2 (by rfl) ms ks bs (fun σ => passAt (takes_of rfl rfl rfl rfl) σ) (pa_cons (pv 6) pa_nil))) (pv 8) (nomark _)) (pss_one (ps_ret pe_bl)) pss_nil)
      (pss_cut (ps_set (i := 8) scLaw.nd rfl (Or.inl rfl) (pe_ifExp (pt_val (pe_call GI hr2 (by rfl) mI kI bI .nil pass0 (pa_cons (pe_ix ix_list (pv 4) (pv 5) (fun _ _ => rfl)) pa_nil))) pe_non (pe_lst (pa_cons pe_int (pa_cons pe_bl pa_nil)))))
      (pss_one (ps_if (pt_cmpR (op_neD hu) (pe_ref (k := 4) (T := [(Pt, "law.<locals>.<lambda>")]) (t := fun E => tCallS (spRdCall K mg C) (fun _ => E) (tCons (tOp (rIxL K) (tVar 4) (tVar 5)) tNil)) R (by rfl) TB rfl (List.mem_singleton.mpr (by rfl)) (fun p hp _ => by rw [List.mem_singleton.mp hp]; rfl) hr (LamX.lamS_by (sc := defScope sLaw) (by decide +kernel)) rfl (fun _ _ _ _ _ => rfl) (fun A outer s H E f c' hr2 => pe_callS G1 hr2 (by rfl) m1 k1 b1 (fun σ => passAt (takes_of rfl rfl rfl rfl) σ) (pa_cons (pe_ix ix_list (pv 4) (pv 5) (fun _ _ => rfl)) pa_nil))) (pv 8) (nomark _)) (pss_one (ps_ret pe_bl)) pss_nil)))))))))))
      (pss_one (ps_for PassesOwn.never rfl (pi_list (pe_lst (pa_cons pe_non (pa_cons pe_int (pa_cons pe_bl (pa_cons (pe_lst (pa_cons pe_str pa_nil)) (pa_cons (pe_tup (pa_cons pe_str (pa_cons pe_int pa_nil))) (pa_cons (pe_op op_pow pe_int pe_int) pa_nil)))))))) (pg_name (i := 9) scLaw.nd rfl (Or.inr rfl))
      (pss_cut (ps_if (pt_cmpR (op_neD hu) (pe_ref (k := 4) (T := [(Pt, "law.<locals>.<lambda>")]) (t := fun E => tCallS (spRdCall K mg C) (fun _ => E) (tCons (tVar 9) tNil)) R (by rfl) TB rfl (List.mem_singleton.mpr (by rfl)) (fun p hp _ => by rw [List.mem_singleton.mp hp]; rfl) hr (LamX.lamS_by (sc := defScope sLaw) (by decide +kernel)) rfl (fun _ _ _ _ _ => rfl) (fun A outer s H E f c' hr2 => pe_callS G1 hr2 (by rfl) m1 k1 b1 (fun σ => passAt (takes_of rfl rfl rfl rfl) σ) (pa_cons (pv 9) pa_nil))) (pe_lst (pa_cons (pe_un un_neg pe_int) (pa_cons pe_bl pa_nil))) (nomark _)) (pss_one (ps_ret pe_bl)) pss_nil)
      (pss_one (ps_if (pt_cmpR (op_neD hu) (pe_ref (k := 4) (T := [(Pt, "law.<locals>.<lambda>")]) (t := fun E => tCallS (spRdCalls K mg C) (fun _ => E) (tCons (tVar 9) tNil)) R (by rfl) TB rfl (List.mem_singleton.mpr (by rfl)) (fun p hp _ => by rw [List.mem_singleton.mp hp]; rfl) hr (LamX.lamS_by (sc := defScope sLaw) (by decide +kernel)) rfl (fun _ _ _ _ _ => rfl) (fun A outer s H E f c' hr2 => pe_callS Gs hr2 (by rfl) ms ks bs (fun σ => passAt (takes_of rfl rfl rfl rfl) σ) (pa_cons (pv 9) pa_nil))) (pe_lst (pa_cons (pe_un un_neg pe_int) (pa_cons pe_bl pa_nil))) (nomark _)) (pss_one (ps_ret pe_bl)) pss_nil))))))))
      (pss_one (ps_ret (pe_cmpR (op_eqD hu) (pe_ref (k := 4) (T := [(Pt, "law.<locals>.<lambda>")]) (t := fun E => tCallS (spRdCall K mg C) (fun _ => E) (tCons (tC (.str "fork 0\nfork 1")) tNil)) R (by rfl) TB rfl (List.mem_singleton.mpr (by rfl)) (fun p hp _ => by rw [List.mem_singleton.mp hp]; rfl) hr (LamX.lamS_by (sc := defScope sLaw) (by decide +kernel)) rfl (fun _ _ _ _ _ => rfl) (fun A outer s H E f c' hr2 => pe_callS G1 hr2 (by rfl) m1 k1 b1 (fun σ => passAt (takes_of rfl rfl rfl rfl) σ) (pa_cons pe_str pa_nil))) (pe_lst (pa_cons pe_int (pa_cons pe_bl pa_nil))) (nomark _)))))⟩
end
end Wn

namespace Wn
open PySem PySem.Spec PyProof.Rows L2 Evl LamX
local macro_rules | `(tactic| walk_at "wn1") => `(tactic| first | ((with_reducible show (if (!decide _) = true then _ else _)); refine' g_nes ?_) | ((with_reducible show (if (decide _) = true then _ else _)); refine' g_es ?_) | with_reducible first
  | (refine' g_var ?h ?q; (case h => with_unfolding_all rfl))
  | refine' g_c ?_ | refine' g_op ?_ | refine' g_rI0 ?_ | refine' g_asg ?_ | refine' g_name ?_ | refine' g_seq ?_ | refine' g_ret ?_ | refine' g_retN ?_ | refine' g_next ?_ | refine' g_drop ?_
  | refine' g_nil ?_ | refine' g_cons ?_ | refine' g_cb ?_ | refine' g_test ?_ | refine' g_bl ?_ | refine' g_if ?_ | refine' g_ifs ?_ | refine' g_not ?_ | refine' g_part ?_ | refine' g_pint ?_ | refine' g_nopart ?_ | refine' g_call ?_
  | (refine' g_mul ?h ?q; (case h => with_unfolding_all first | exact Or.inl ⟨by decide, by decide⟩ | exact Or.inr ⟨by decide, by decide⟩ | exact Or.inl ⟨by omega, by omega⟩ | exact Or.inr ⟨by omega, by omega⟩))
  | (refine' g_mod ?h ?q; (case h => with_unfolding_all first | decide | omega))
  | refine' g_rIsN ?_ | refine' g_rNotN ?_ | refine' g_max2 ?_ | refine' g_min2 ?_ | refine' g_and ?_ | refine' g_or ?_ | refine' g_orV ?_ | refine' g_andV ?_ | refine' g_notV ?_ | refine' g_m1 ?_ | refine' g_yes ?_ | refine' g_bm ?_ | refine' g_bm0 ?_
  | (refine' g_tyL ?h ?q; (case h => first | assumption | exact upd_same))
  | refine' g_m0 ?_ | refine' g_tB ?_ | refine' g_isS ?_ | refine' g_bT ?_ | refine' g_bF ?_ | refine' g_bNT ?_ | refine' g_callK ?_ | refine' g_bNF ?_
  | (refine' g_lenL ?h ?q; (case h => first | assumption | exact upd_same))
  | refine' g_un ?_ | refine' g_rint _ ?_ | refine' g_rabs ?_ | refine' g_sl ?_ 
  | (refine' g_ixL ?h ?a ?q; (case h => first | assumption | exact upd_same); (case a => with_unfolding_all rfl))
  | (refine' g_div ?h0 ?h1 ?q; (case h0 => with_unfolding_all first | decide | omega); (case h1 => with_unfolding_all first | decide | omega))
  | refine' g_sub ?_
  | (refine' g_setL ?h ?a ?q; (case h => first | assumption | exact upd_same); (case a => with_unfolding_all rfl))
  | refine' g_lst ?_ | refine' g_tup ?_
  | (refine' g_rEq ?h ?q; (case h => with_unfolding_all rfl)) | (refine' g_rNe ?h ?q; (case h => with_unfolding_all rfl)))
local macro_rules | `(tactic| walk_at "wn") => `(tactic| repeat walk_at "wn1")

/-! what is kept while the law goes on -/
section
variable {K : PySem.W.Frag} {mg : Str → Option Value} {T : List (Addr × Str)} {Hb H H' : Hp} {p a l Pt C : Addr} {q : Str}
theorem TabS.lists {P : Addr} (t : TabS H P q) (e : ∀ b o, H b = some o → (∀ xs, o ≠ .lst xs) → H' b = some o) : TabS H' P q := by
  obtain ⟨ps, h1, h2, h3⟩ := t
  refine ⟨ps, e _ _ h1 (fun _ z => nomatch z), h2, fun pos cv hc => ?_⟩
  obtain ⟨c, e1, e2⟩ := h3 pos cv hc
  exact ⟨c, e1, e _ _ e2 fun xs z => by unfold CodeO at z; cases z⟩
theorem Tabs.lists (t : Tabs T H) (e : ∀ b o, H b = some o → (∀ xs, o ≠ .lst xs) → H' b = some o) : Tabs T H' := fun x hx => TabS.lists (t x hx) e
theorem BagAt.extN (b : BagAt H p) (e : ExtN H H') : BagAt H' p := by
  obtain ⟨x, y, h, r⟩ := b
  exact ⟨x, y, e _ _ h (fun _ z => nomatch z), r⟩
theorem SqL.extN {xs : List V} (s : SqL K H a xs) (e : ExtN H H') : SqL K H' a xs := by
  rcases s with (h | ⟨o, h⟩) | h
  · exact .inl (.inl (e _ _ h (fun _ z => nomatch z)))
  · exact .inl (.inr ⟨o, e _ _ h (fun _ z => nomatch z)⟩)
  · exact .inr h
theorem extL {xs : List V} (e : ExtN H H') (h : H a = some (.lst xs)) : H' a = some (.lst xs) := e _ _ h (fun _ z => nomatch z)
theorem Same.new {o : HO} (hl : H l = none) : Same H (upd H l o) := fun b u e => by rw [upd_ne (ne_of_none e hl)]; exact e
theorem sq_ne {xs : List V} (s : SqL K H a xs) (h : H l = none) : a ≠ l ∨ ∀ H', SqL K H' a xs := by
  rcases s with (e | ⟨o, e⟩) | e
  · exact .inl (ne_of_none e h)
  · exact .inl (ne_of_none e h)
  · exact .inr fun H' => .inr e
theorem sq_at {xs : List V} (n : a ≠ l ∨ ∀ H', SqL K H' a xs) (s : SqL K H a xs) (e : ∀ o, a ≠ l → H a = some o → H' a = some o) : SqL K H' a xs := by
  rcases n with n | k
  · rcases s with (h | ⟨o, h⟩) | h
    · exact .inl (.inl (e _ n h))
    · exact .inl (.inr ⟨o, e _ n h⟩)
    · exact .inr h
  · exact k H'
/-- the script, the bag, the tables of code -/
structure Gn (K : PySem.W.Frag) (T : List (Addr × Str)) (a : Addr) (xs : List V) (p : Addr) (H : Hp) : Prop where
  bag : BagAt H p
  tab : Tabs T H
  scr : SqL K H a xs
  np : a ≠ p ∨ ∀ H', SqL K H' a xs
section
variable {xs : List V}
theorem Gn.same (g : Gn K T a xs p H) (s : Same H H') : Gn K T a xs p H' := ⟨(Dr.same g.bag s).2, g.tab.ext s, Same.seq s g.scr, g.np⟩
theorem Gn.new {o : HO} (g : Gn K T a xs p H) (hl : H l = none) : Gn K T a xs p (upd H l o) := g.same (Same.new hl)
theorem Gn.dr (g : Gn K T a xs p H) (d : Dr p H H') : Gn K T a xs p H' := by
  refine ⟨d.2, Tabs.lists g.tab fun b o e n => ?_, sq_at g.np g.scr fun o n e => d.1 a o n e, g.np⟩
  refine d.1 b o (fun z => ?_) e
  obtain ⟨x, y, h, _⟩ := g.bag
  rw [z, h] at e
  exact n _ (Option.some.inj e).symm
theorem Gn.draw (g : Gn K T a xs p H) (e : ∀ b, b ≠ p → H' b = H b) (b : BagAt H' p) : Gn K T a xs p H' := g.dr (Dr.draw e b)
theorem Gn.aft (g : Gn K T a xs p H) (e : ExtN H H') (t : Tabs T H') : Gn K T a xs p H' := ⟨g.bag.extN e, t, SqL.extN g.scr e, g.np⟩
theorem Gn.lst {us ys : List V} (g : Gn K T a xs p H) (n : a ≠ l ∨ ∀ H', SqL K H' a xs) (ne : l ≠ p) (hl : H l = some (.lst us)) : Gn K T a xs p (upd H l (.lst ys)) := by
  refine ⟨?_, Tabs.lists g.tab fun b o e n => ?_, sq_at n g.scr fun o n e => by rw [upd_ne n]; exact e, g.np⟩
  · obtain ⟨x, y, h, r⟩ := g.bag
    exact ⟨x, y, by rw [upd_ne (Ne.symm ne)]; exact h, r⟩
  · rw [upd_ne (fun z => by rw [z, hl] at e; exact n _ (Option.some.inj e).symm)]
    exact e
end
/-! what _law_refused of a lambda answers -/
/-- what is due: nothing, or a list of a line and True -/
def Due (H : Hp) (v : V) : Option Int → Prop
  | none => v = .non
  | some n => ∃ l, v = .ref l ∧ H l = some (.lst [.int n, .bl true])
theorem Due.extN {v : V} {d : Option Int} (x : Due H v d) (e : ExtN H H') : Due H' v d := by
  cases d with
  | none => exact x
  | some n =>
    obtain ⟨l, rfl, h⟩ := x
    exact ⟨l, rfl, extL e h⟩
theorem dueD {n : Int} (h : H l = some (.lst [.int n, .bl true])) : Dp K H (.ref l) (.list [.int n, .bool true]) := .lst (SqL.of h) (.cons (.int n) (.cons (.bl true) .nil))
theorem due_shaped (n : Int) : SeqAt.shaped (.list [.int n, .bool true]) = true := rfl
theorem due_eqv (n : Int) : PyData.eqv (.list [.int n, .bool true]) (.list [.int n, .bool true]) = true := PySem.SeqAt.eqv_refl _ (SeqAt.canLay_of_shaped (due_shaped n))
/-- the comparison of what was told with what is due -/
theorem due_ne {v u : V} {d : Option Int} {Q : VK} (x : Due H v d) (y : Due H u d) (k : Q (.bl false) H) : rNeD K v u H Q := by
  cases d with
  | none =>
    cases x
    cases y
    exact ⟨.none, .none, .non, .non, rfl, rfl, k⟩
  | some n =>
    obtain ⟨l1, rfl, h1⟩ := x
    obtain ⟨l2, rfl, h2⟩ := y
    refine ⟨_, _, dueD h1, dueD h2, due_shaped n, due_shaped n, ?_⟩
    rw [due_eqv]
    exact k
theorem due_eq {v u : V} {d : Option Int} {Q : VK} (x : Due H v d) (y : Due H u d) (k : Q (.bl true) H) : rEqD K v u H Q := by
  cases d with
  | none =>
    cases x
    cases y
    exact ⟨.none, .none, .non, .non, rfl, rfl, k⟩
  | some n =>
    obtain ⟨l1, rfl, h1⟩ := x
    obtain ⟨l2, rfl, h2⟩ := y
    refine ⟨_, _, dueD h1, dueD h2, due_shaped n, due_shaped n, ?_⟩
    rw [due_eqv]
    exact k
/-- what a reading of _law_refused(lambda: ..) has to go on with -/
def Told (T : List (Addr × Str)) (H : Hp) (Q : VK) (d : Option Int) : Prop := ∀ H' v, ExtN H H' → Tabs T H' → Due H' v d → Q v H'
theorem Told.ok {Q : VK} (k : Told T H Q none) (H' : Hp) (e : ExtN H H') (t : Tabs T H') : Q .non H' := k H' .non e t rfl
theorem Told.er {Q : VK} {n : Int} (k : Told T H Q (some n)) (H' : Hp) (e : ExtN H H') (t : Tabs T H') (l : Addr) (hl : H' l = none) : Q (.ref l) (upd H' l (.lst [.int n, .bl true])) :=
  k _ (.ref l) (e.trans (.of (Same.new hl))) (t.ext (Same.new hl)) ⟨l, rfl, upd_same⟩
section
variable {σ : L2.St} {ta : TA} {Q : VK}
theorem ref_call {t : Str} {c : Option (List V)} (tb : Tabs T H) (hl : t.length ≤ 10000) (ln : Line K mg t c) (hta : ∀ H1 k, ExtN H H1 → k [V.str t] H1 → ta σ H1 k)
    (k : Told T H Q (match c with | none => some 0 | some _ => none)) : tLam T (TRef C) (fun E => tCallS (spRdCall K mg C) (fun _ => E) ta) σ H Q := by
  refine ⟨tb, fun H1 e1 t1 E hE => ?_⟩
  show ta σ H1 _
  refine hta H1 _ e1 ?_
  refine ⟨.str t, rfl, .inr ⟨t, c, rfl, hl, ln, ?_⟩⟩
  cases c with
  | none => exact fun d H2 hd s2 h2 => hE d 0 H2 h2 fun l hl => k.er H2 (e1.trans (.of s2)) (t1.ext s2) l hl
  | some xs => exact fun H2 r hr s2 hx => k.ok H2 (e1.trans (.of s2)) (t1.ext s2)
theorem ref_callN {v : V} (tb : Tabs T H) (ns : ∀ H1, ExtN H H1 → NoStr K H1 v) (hta : ∀ H1 k, ExtN H H1 → k [v] H1 → ta σ H1 k)
    (k : Told T H Q (some (-1))) : tLam T (TRef C) (fun E => tCallS (spRdCall K mg C) (fun _ => E) ta) σ H Q := by
  refine ⟨tb, fun H1 e1 t1 E hE => ?_⟩
  show ta σ H1 _
  refine hta H1 _ e1 ?_
  exact ⟨v, rfl, .inl ⟨ns H1 e1, fun d H2 hd s2 h2 => hE d (-1) H2 h2 fun l hl => k.er H2 (e1.trans (.of s2)) (t1.ext s2) l hl⟩⟩
theorem ref_callsN {v : V} (tb : Tabs T H) (ns : ∀ H1, ExtN H H1 → NoStr K H1 v) (hta : ∀ H1 k, ExtN H H1 → k [v] H1 → ta σ H1 k)
    (k : Told T H Q (some (-1))) : tLam T (TRef C) (fun E => tCallS (spRdCalls K mg C) (fun _ => E) ta) σ H Q := by
  refine ⟨tb, fun H1 e1 t1 E hE => ?_⟩
  show ta σ H1 _
  refine hta H1 _ e1 ?_
  exact ⟨v, rfl, .inl ⟨ns H1 e1, fun d H2 hd s2 h2 => hE d (-1) H2 h2 fun l hl => k.er H2 (e1.trans (.of s2)) (t1.ext s2) l hl⟩⟩
/-- the first line that is none -/
inductive First (cs : List (Option (List V))) : Option Nat → Prop
  | all (h : ∀ c ∈ cs, c ≠ none) : First cs none
  | at_ (j : Nat) (h : cs[j]? = some none) (n : ∀ i, i < j → cs[i]? ≠ some none) : First cs (some j)
theorem ref_calls {t : Str} {d : Option Nat} (tb : Tabs T H) (hl : t.length ≤ 9000) (hta : ∀ H1 k, ExtN H H1 → k [V.str t] H1 → ta σ H1 k)
    (ln : (t = "" ∧ d = none) ∨ (t ≠ "" ∧ ∃ cs, Paired (fun l c => Line K mg l c) (Txt.split t "\n") cs ∧ First cs d))
    (k : Told T H Q (d.map fun j : Nat => (j : Int))) : tLam T (TRef C) (fun E => tCallS (spRdCalls K mg C) (fun _ => E) ta) σ H Q := by
  refine ⟨tb, fun H1 e1 t1 E hE => ?_⟩
  show ta σ H1 _
  refine hta H1 _ e1 ?_
  refine ⟨.str t, rfl, .inr ⟨t, rfl, hl, ?_⟩⟩
  rcases ln with ⟨rfl, rfl⟩ | ⟨ht, cs, pr, fs⟩
  · exact .inl ⟨rfl, fun v H2 s2 => k.ok H2 (e1.trans (.of s2)) (t1.ext s2)⟩
  · refine .inr ⟨ht, cs, pr, ?_⟩
    cases fs with
    | all h => exact .inl ⟨h, fun v H2 s2 => k.ok H2 (e1.trans (.of s2)) (t1.ext s2)⟩
    | at_ j h n => exact .inr ⟨j, h, n, fun dd H2 hd s2 h2 => hE dd (j : Int) H2 h2 fun l hl => k.er H2 (e1.trans (.of s2)) (t1.ext s2) l hl⟩
end
end
/-! the numbers of the lines that are no calls -/
def okAt (ls : List Str) (j : Nat) : Bool := okT (ls.getD j "")
def wr (ls : List Str) (n : Nat) : List Nat := (List.range n).filter fun j => !okAt ls j
theorem wr_succ (ls : List Str) (n : Nat) : wr ls (n + 1) = wr ls n ++ if (!okAt ls n) = true then [n] else [] := by
  unfold wr
  rw [List.range_succ, List.filter_append]
  congr 1
  rw [List.filter_cons]
  rfl
theorem wr_cases (ls : List Str) : ∀ n, (wr ls n = [] ∧ ∀ i, i < n → okAt ls i = true) ∨ ∃ j r, wr ls n = j :: r ∧ j < n ∧ okAt ls j = false ∧ ∀ i, i < j → okAt ls i = true
  | 0 => .inl ⟨rfl, fun i h => absurd h (Nat.not_lt_zero i)⟩
  | n + 1 => by
    rw [wr_succ]
    rcases wr_cases ls n with ⟨e, h⟩ | ⟨j, r, e, h1, h2, h3⟩
    · rw [e]
      cases ho : okAt ls n with
      | true =>
        refine .inl ⟨rfl, fun i hi => ?_⟩
        rcases Nat.lt_or_ge i n with z | z
        · exact h i z
        · obtain rfl : i = n := by omega
          exact ho
      | false => exact .inr ⟨n, [], rfl, by omega, ho, h⟩
    · rw [e]
      exact .inr ⟨j, _, rfl, by omega, h2, h3⟩
theorem wr_len (ls : List Str) (n : Nat) : (wr ls n).length ≤ n := by
  have := List.length_filter_le (fun j => !okAt ls j) (List.range n)
  rw [List.length_range] at this
  exact this
def wrV (ls : List Str) (n : Nat) : List V := (wr ls n).map fun j : Nat => V.int (j : Int)
theorem dp_nats {K : PySem.W.Frag} {H : Hp} (l : List Nat) : DpAll K H (l.map fun j : Nat => V.int (j : Int)) (l.map fun j : Nat => PyData.int (j : Int)) := by
  induction l with
  | nil => exact .nil
  | cons c l ih => exact .cons (.int _) ih
theorem nats_shaped (l : List Nat) : SeqAt.shaped (.list (l.map fun j : Nat => PyData.int (j : Int))) = true := by
  have h1 : ∀ l : List Nat, PyData.canLayAll0 (l.map fun j : Nat => PyData.int (j : Int)) = true ∧ PyData.depthAll (l.map fun j : Nat => PyData.int (j : Int)) = 0 := by
    intro l
    induction l with
    | nil => exact ⟨rfl, rfl⟩
    | cons c l ih =>
      obtain ⟨a, b⟩ := ih
      refine ⟨?_, ?_⟩
      · simp only [List.map_cons, PyData.canLayAll0, a, Bool.and_true, PyData.canLay0]
      · simp only [List.map_cons, PyData.depthAll, b, PyData.depth]
        rfl
  obtain ⟨a, b⟩ := h1 l
  unfold SeqAt.shaped
  rw [Bool.and_eq_true]
  refine ⟨by simp only [PyData.canLay0]; exact a, decide_eq_true ?_⟩
  simp only [PyData.depth, b]
  decide
/-- wrong == [] -/
theorem wr_nil {K : PySem.W.Frag} {H : Hp} {a b : Addr} {l : List Nat} {Q : VK} (h1 : H a = some (.lst (l.map fun j : Nat => V.int (j : Int)))) (h2 : H b = some (.lst [])) (k : Q (.bl l.isEmpty) H) : rEqD K (.ref a) (.ref b) H Q := by
  refine ⟨_, _, .lst (SqL.of h1) (dp_nats l), .lst (SqL.of h2) .nil, nats_shaped l, rfl, ?_⟩
  have e : PyData.eqv (.list (l.map fun j : Nat => PyData.int (j : Int))) (.list []) = l.isEmpty := by
    cases l with
    | nil => rfl
    | cons a b => rfl
  rw [e]
  exact k
end Wn

namespace Wn
open PySem PySem.Spec PyProof.Rows L2 Evl LamX
local macro_rules | `(tactic| walk_at "wn1") => `(tactic| first | ((with_reducible show (if (!decide _) = true then _ else _)); refine' g_nes ?_) | ((with_reducible show (if (decide _) = true then _ else _)); refine' g_es ?_) | with_reducible first
  | (refine' g_var ?h ?q; (case h => with_unfolding_all rfl))
  | refine' g_c ?_ | refine' g_op ?_ | refine' g_rI0 ?_ | refine' g_asg ?_ | refine' g_name ?_ | refine' g_seq ?_ | refine' g_ret ?_ | refine' g_retN ?_ | refine' g_next ?_ | refine' g_drop ?_
  | refine' g_nil ?_ | refine' g_cons ?_ | refine' g_cb ?_ | refine' g_test ?_ | refine' g_bl ?_ | refine' g_if ?_ | refine' g_ifs ?_ | refine' g_not ?_ | refine' g_part ?_ | refine' g_pint ?_ | refine' g_nopart ?_ | refine' g_call ?_
  | (refine' g_mul ?h ?q; (case h => with_unfolding_all first | exact Or.inl ⟨by decide, by decide⟩ | exact Or.inr ⟨by decide, by decide⟩ | exact Or.inl ⟨by omega, by omega⟩ | exact Or.inr ⟨by omega, by omega⟩))
  | (refine' g_mod ?h ?q; (case h => with_unfolding_all first | decide | omega))
  | refine' g_rIsN ?_ | refine' g_rNotN ?_ | refine' g_max2 ?_ | refine' g_min2 ?_ | refine' g_and ?_ | refine' g_or ?_ | refine' g_orV ?_ | refine' g_andV ?_ | refine' g_notV ?_ | refine' g_m1 ?_ | refine' g_yes ?_ | refine' g_bm ?_ | refine' g_bm0 ?_
  | (refine' g_tyL ?h ?q; (case h => first | assumption | exact upd_same))
  | refine' g_m0 ?_ | refine' g_tB ?_ | refine' g_isS ?_ | refine' g_bT ?_ | refine' g_bF ?_ | refine' g_bNT ?_ | refine' g_callK ?_ | refine' g_bNF ?_
  | (refine' g_lenL ?h ?q; (case h => first | assumption | exact upd_same))
  | refine' g_un ?_ | refine' g_rint _ ?_ | refine' g_rabs ?_ | refine' g_sl ?_ 
  | (refine' g_ixL ?h ?a ?q; (case h => first | assumption | exact upd_same); (case a => with_unfolding_all rfl))
  | (refine' g_div ?h0 ?h1 ?q; (case h0 => with_unfolding_all first | decide | omega); (case h1 => with_unfolding_all first | decide | omega))
  | refine' g_sub ?_
  | (refine' g_setL ?h ?a ?q; (case h => first | assumption | exact upd_same); (case a => with_unfolding_all rfl))
  | refine' g_lst ?_ | refine' g_tup ?_
  | (refine' g_rEq ?h ?q; (case h => with_unfolding_all rfl)) | (refine' g_rNe ?h ?q; (case h => with_unfolding_all rfl)))
local macro_rules | `(tactic| walk_at "wn") => `(tactic| repeat walk_at "wn1")

/-! the lines' readings -/
theorem lines_ok {K : PySem.W.Frag} {mg : Str → Option Value} (Un : ∀ d, mg "ARGUMENTS" = some (.ref d) → ∀ name, (∀ ks, (name, ks) ∉ kindsL) → PySem.W.nsIn K d name = some none) :
    ∀ ls : List Str, (∀ t ∈ ls, Asc t) → ∃ cs, Paired (fun l c => Line K mg l c) ls cs ∧ cs.map Option.isSome = ls.map okT
  | [], _ => ⟨[], .nil, rfl⟩
  | t :: ls, h => by
    obtain ⟨c, ln, e⟩ := line_ok (K := K) (mg := mg) (h t List.mem_cons_self) Un
    obtain ⟨cs, pr, e2⟩ := lines_ok Un ls fun x hx => h x (List.mem_cons_of_mem _ hx)
    exact ⟨c :: cs, .cons ln pr, by rw [List.map_cons, List.map_cons, e, e2]⟩
theorem at_ok {cs : List (Option (List V))} {ls : List Str} (e : cs.map Option.isSome = ls.map okT) {i : Nat} (hi : i < ls.length) : ∃ c, cs[i]? = some c ∧ c.isSome = okAt ls i := by
  have e1 : (cs.map Option.isSome)[i]? = (ls.map okT)[i]? := by rw [e]
  rw [List.getElem?_map, List.getElem?_map, List.getElem?_eq_getElem hi] at e1
  cases hc : cs[i]? with
  | none => rw [hc] at e1; cases e1
  | some c =>
    rw [hc] at e1
    refine ⟨c, rfl, ?_⟩
    have e2 := Option.some.inj e1
    unfold okAt
    rw [List.getD_eq_getElem?_getD, List.getElem?_eq_getElem hi]
    exact e2
theorem first_of {cs : List (Option (List V))} {ls : List Str} (e : cs.map Option.isSome = ls.map okT) : First cs (wr ls ls.length).head? := by
  have el : cs.length = ls.length := by
    have := congrArg List.length e
    rwa [List.length_map, List.length_map] at this
  rcases wr_cases ls ls.length with ⟨e1, h⟩ | ⟨j, r, e1, h1, h2, h3⟩
  · rw [e1]
    refine .all fun c hc z => ?_
    obtain ⟨i, hi, rfl⟩ := List.getElem_of_mem hc
    obtain ⟨c', e2, e3⟩ := at_ok e (i := i) (by omega)
    rw [List.getElem?_eq_getElem hi] at e2
    cases e2
    rw [z, h i (by omega)] at e3
    cases e3
  · rw [e1]
    refine .at_ j ?_ fun i hi z => ?_
    · obtain ⟨c', e2, e3⟩ := at_ok e h1
      rw [h2] at e3
      cases c' with
      | none => exact e2
      | some _ => cases e3
    · obtain ⟨c', e2, e3⟩ := at_ok e (i := i) (by omega)
      rw [z] at e2
      cases e2
      rw [h3 i hi] at e3
      cases e3
theorem whole_len : ∀ ls : List Str, (∀ t ∈ ls, Asc t ∧ t.length ≤ 300) → (ls.map (·.length)).sum ≤ 300 * ls.length
  | [], _ => Nat.le_refl _
  | x :: ls, h => by
    have h1 := (h x List.mem_cons_self).2
    have h2 := whole_len ls fun y hy => h y (List.mem_cons_of_mem _ hy)
    simp only [List.map_cons, List.sum_cons, List.length_cons]
    omega
theorem join_lenB (sep : Str) (B : Nat) : ∀ ls : List Str, (∀ t ∈ ls, t.length ≤ B) → (Str.join sep ls).length ≤ (B + sep.length) * ls.length
  | [], _ => Nat.zero_le _
  | [x], h => by
    have := h x List.mem_cons_self
    show x.length ≤ (B + sep.length) * 1
    omega
  | x :: y :: r, h => by
    have h1 := h x List.mem_cons_self
    have h2 := join_lenB sep B (y :: r) fun z hz => h z (List.mem_cons_of_mem _ hz)
    show (x ++ sep ++ Str.join sep (y :: r)).length ≤ _
    rw [strLen_append, strLen_append, List.length_cons, Nat.mul_add, Nat.mul_one]
    omega
section
variable {P : Program} {w : World} {K : PySem.W.Frag} {mg : Str → Option Value} {base : Heap}
def spLaw (K : PySem.W.Frag) (Pt : Addr) : Sp := fun vs H Q _ => ∃ (a : Addr) (ns : List Int), vs = [.ref a] ∧ SqL K H a (ns.map V.int) ∧ ns.length ≤ 63 ∧ H Pt = some (.tbl #[]) ∧ ∀ H', Q (.bl true) H'
theorem okLaw {c Pt C fI g f f1 fs fB fT fL fB2 fi : Addr} {fdf fdI fd fd1 fds fdB fdT fdL fdB2 fdi : FuncData} (F : Fun K "law" "law" sLaw f fdf) (hc : fdf.code = .ref c) (T : LawFr mg) (R : RefTxt K mg C fI fdI g fd) (TB : LamX.TabB base mg c Pt)
    (Un : ∀ d, mg "ARGUMENTS" = some (.ref d) → ∀ name, (∀ ks, (name, ks) ∉ kindsL) → PySem.W.nsIn K d name = some none)
    (G1 : FnOk P w K mg base (L2.CX P w) 4 f1 fd1 ["text"] (spRdCall K mg C)) (k1 : PySem.W.keepIn K (.ref f1) = true) (m1 : mg "read_call" = some (.ref f1)) (b1 : Binds K fd1 ["text"] [])
    (Gs : FnOk P w K mg base (L2.CX P w) 4 fs fds ["text"] (spRdCalls K mg C)) (ks : PySem.W.keepIn K (.ref fs) = true) (ms : mg "read_calls" = some (.ref fs)) (bs : Binds K fds ["text"] [])
    (GB : FnOk P w K mg base CX0 1 fB fdB ["_law_script", "_law_at"] (spBag K)) (kB : PySem.W.keepIn K (.ref fB) = true) (mB : mg "_law_bag" = some (.ref fB)) (bB : Binds K fdB ["_law_script", "_law_at"] [])
    (GT : FnOk P w K mg base CX0 1 fT fdT ["_law_bag_here", "_law_many"] spTake) (kT : PySem.W.keepIn K (.ref fT) = true) (mT : mg "_law_take" = some (.ref fT)) (bT : Binds K fdT ["_law_bag_here", "_law_many"] [])
    (GL : FnOk P w K mg base CX0 3 fL fdL ["_law_bag_here"] spLn) (kL : PySem.W.keepIn K (.ref fL) = true) (mL : mg "_law_line" = some (.ref fL)) (bL : Binds K fdL ["_law_bag_here"] [])
    (GB2 : FnOk P w K mg base CX0 3 fB2 fdB2 ["_law_bag_here", "_law_line_here"] spBent) (kB2 : PySem.W.keepIn K (.ref fB2) = true) (mB2 : mg "_law_bent" = some (.ref fB2)) (bB2 : Binds K fdB2 ["_law_bag_here", "_law_line_here"] [])
    (GI : FnOk P w K mg base CX0 2 fi fdi ["_law_line_here"] spIsCall) (kI : PySem.W.keepIn K (.ref fi) = true) (mI : mg "_law_is_call" = some (.ref fi)) (bI : Binds K fdi ["_law_line_here"] []) : FnOk P w K mg base CX0 7 f fdf ["_law_script"] (spLaw K Pt) := by
  refine okC F hc scLaw (fun vs H Q E h => ?_) (fun A outer s H vs Q E hr h => ?_)
  · obtain ⟨x, _, rfl, _⟩ := h
    rfl
  · obtain ⟨a, ns, rfl, hS, hl, hP, k⟩ := h
    have hu := hr.units
    have r1 : Room 1 _ := hr.mono (by decide)
    have hr2 : Room 2 _ := hr.mono (by decide)
    have hr3 : Room 3 _ := hr.mono (by decide)
    refine ⟨_, PSs.nox (pss_cut (ps_for PassesOwn.never rfl (pi_range1 (by rfl) T.range (pa_cons (pe_callB (cMax2 rfl) (by rfl) T.max (by decide +kernel) (pa_cons pe_int (pa_cons (pe_callB (cMin2 rfl) (by rfl) T.min (by decide +kernel) (pa_cons pe_int (pa_cons (pe_callB cLenQ (by rfl) T.len PySem.boot_len (pa_cons (pv 0) pa_nil)) pa_nil))) pa_nil))) pa_nil)) (pg_name (i := 1) scLaw.nd rfl (Or.inl rfl))
      (pss_cut (ps_set (i := 2) scLaw.nd rfl (Or.inr rfl) (pe_call GB r1 (by rfl) mB kB bB .nil pass0 (pa_cons (pv 0) (pa_cons (pv 1) pa_nil))))
      (pss_cut (ps_for PassesOwn.never rfl (pi_range1 (by rfl) T.range (pa_cons pe_int pa_nil)) (pg_name (i := 3) scLaw.nd rfl (Or.inl rfl))
      (pss_cut (ps_set (i := 4) scLaw.nd rfl (Or.inr rfl) (pe_lc (own := [("_law_k", 5)]) (g := gName 5) (tt := tYes) rfl scLaw.nd (pi_range1 (by rfl) T.range (pa_cons (pe_op op_add pe_int (pe_call GT r1 (by rfl) mT kT bT .nil pass0 (pa_cons (pv 2) (pa_cons pe_int pa_nil)))) pa_nil)) (blkOk_by (N := nLaw) (sc := defScope sLaw) (by decide +kernel)) (fun _ _ _ _ _ => pg_name (i := 5) scLaw.nd rfl (Or.inl rfl)) (fun _ _ _ _ _ => pts_nil) (fun _ _ _ _ _ => (pe_call GL hr3 (by rfl) mL kL bL .nil pass0 (pa_cons (pv 2) pa_nil)))))
      (pss_cut (ps_set (i := 5) scLaw.nd rfl (Or.inr rfl) (pe_call GT r1 (by rfl) mT kT bT .nil pass0 (pa_cons (pv 2) (pa_cons (pe_callB cLenQ (by rfl) T.len PySem.boot_len (pa_cons (pv 4) pa_nil)) pa_nil))))
      (pss_cut (ps_asg (pe_call GB2 hr3 (by rfl) mB2 kB2 bB2 .nil pass0 (pa_cons (pv 2) (pa_cons (pe_ix ix_list (pv 4) (pv 5) (fun _ _ => rfl)) pa_nil))) (pg_sub (pv 4) (pv 5) set_list))
      (pss_cut (ps_set (i := 6) scLaw.nd rfl (Or.inr rfl) (pe_join pe_str (pv 4)))
      (pss_cut (ps_setLc (i := 7) (own := [("_law_j", 10)]) (g := gName 10) (tt := tNot (tTest (tCall spIsCall [] E0 (tCons (tOp (rIxL K) (tVar 4) (tVar 10)) tNil)))) rfl scLaw.nd rfl rfl (sw_true rfl rfl rfl (by decide +kernel)) (pi_range1 (by rfl) T.range (pa_cons (pe_callB cLenQ (by rfl) T.len PySem.boot_len (pa_cons (pv 4) pa_nil)) pa_nil)) (blkOk_by (N := nLaw) (sc := defScope sLaw) (by decide +kernel)) (fun _ _ _ _ _ => pg_name (i := 10) scLaw.nd rfl (Or.inl rfl)) (fun _ _ _ _ _ => pts_one (pt_not (pt_val (pe_call GI hr2 (by rfl) mI kI bI .nil pass0 (pa_cons (pe_ix ix_list (pv 4) (pv 10) (fun _ _ => rfl)) pa_nil))))) (fun _ _ _ _ _ => (pv 10)))
      (pss_cut (ps_set (i := 8) scLaw.nd rfl (Or.inl rfl) (pe_ifExp (PW.pt (pw_or (pt_cmpR (op_eqD hu) (pv 7) (pe_lst pa_nil) (nomark _)) (pw_or1 (pt_cmpR op_eq (pv 6) pe_str (nomark _))))) pe_non (pe_lst (pa_cons (pe_ix ix_list (pv 7) pe_int (fun _ _ => rfl)) (pa_cons pe_bl pa_nil)))))
      (pss_cut (ps_if (pt_cmpR (op_neD hu) (pe_ref (k := 4) (T := [(Pt, "law.<locals>.<lambda>")]) (t := fun E => tCallS (spRdCalls K mg C) (fun _ => E) (tCons (tVar 6) tNil)) R (by rfl) TB rfl (List.mem_singleton.mpr (by rfl)) (fun p hp _ => by rw [List.mem_singleton.mp hp]; rfl) hr (LamX.lamS_by (sc := defScope sLaw) (by decide +kernel)) rfl (fun _ _ _ _ _ => rfl) (fun A outer s H E f c' hr2 => pe_callS Gs hr2 (by rfl) ms ks bs (fun σ => passAt (takes_of rfl rfl rfl rfl) σ) (pa_cons (pv 6) pa_nil))) (pv 8) (nomark _)) (pss_one (ps_ret pe_bl)) pss_nil)
      (pss_cut (ps_set (i := 8) scLaw.nd rfl (Or.inl rfl) (pe_ifExp (pt_val (pe_call GI hr2 (by rfl) mI kI bI .nil pass0 (pa_cons (pe_ix ix_list (pv 4) (pv 5) (fun _ _ => rfl)) pa_nil))) pe_non (pe_lst (pa_cons pe_int (pa_cons pe_bl pa_nil)))))
      (pss_one (ps_if (pt_cmpR (op_neD hu) (pe_ref (k := 4) (T := [(Pt, "law.<locals>.<lambda>")]) (t := fun E => tCallS (spRdCall K mg C) (fun _ => E) (tCons (tOp (rIxL K) (tVar 4) (tVar 5)) tNil)) R (by rfl) TB rfl (List.mem_singleton.mpr (by rfl)) (fun p hp _ => by rw [List.mem_singleton.mp hp]; rfl) hr (LamX.lamS_by (sc := defScope sLaw) (by decide +kernel)) rfl (fun _ _ _ _ _ => rfl) (fun A outer s H E f c' hr2 => pe_callS G1 hr2 (by rfl) m1 k1 b1 (fun σ => passAt (takes_of rfl rfl rfl rfl) σ) (pa_cons (pe_ix ix_list (pv 4) (pv 5) (fun _ _ => rfl)) pa_nil))) (pv 8) (nomark _)) (pss_one (ps_ret pe_bl)) pss_nil)))))))))))
      (pss_one (ps_for PassesOwn.never rfl (pi_list (pe_lst (pa_cons pe_non (pa_cons pe_int (pa_cons pe_bl (pa_cons (pe_lst (pa_cons pe_str pa_nil)) (pa_cons (pe_tup (pa_cons pe_str (pa_cons pe_int pa_nil))) (pa_cons (pe_op op_pow pe_int pe_int) pa_nil)))))))) (pg_name (i := 9) scLaw.nd rfl (Or.inr rfl))
      (pss_cut (ps_if (pt_cmpR (op_neD hu) (pe_ref (k := 4) (T := [(Pt, "law.<locals>.<lambda>")]) (t := fun E => tCallS (spRdCall K mg C) (fun _ => E) (tCons (tVar 9) tNil)) R (by rfl) TB rfl (List.mem_singleton.mpr (by rfl)) (fun p hp _ => by rw [List.mem_singleton.mp hp]; rfl) hr (LamX.lamS_by (sc := defScope sLaw) (by decide +kernel)) rfl (fun _ _ _ _ _ => rfl) (fun A outer s H E f c' hr2 => pe_callS G1 hr2 (by rfl) m1 k1 b1 (fun σ => passAt (takes_of rfl rfl rfl rfl) σ) (pa_cons (pv 9) pa_nil))) (pe_lst (pa_cons (pe_un un_neg pe_int) (pa_cons pe_bl pa_nil))) (nomark _)) (pss_one (ps_ret pe_bl)) pss_nil)
      (pss_one (ps_if (pt_cmpR (op_neD hu) (pe_ref (k := 4) (T := [(Pt, "law.<locals>.<lambda>")]) (t := fun E => tCallS (spRdCalls K mg C) (fun _ => E) (tCons (tVar 9) tNil)) R (by rfl) TB rfl (List.mem_singleton.mpr (by rfl)) (fun p hp _ => by rw [List.mem_singleton.mp hp]; rfl) hr (LamX.lamS_by (sc := defScope sLaw) (by decide +kernel)) rfl (fun _ _ _ _ _ => rfl) (fun A outer s H E f c' hr2 => pe_callS Gs hr2 (by rfl) ms ks bs (fun σ => passAt (takes_of rfl rfl rfl rfl) σ) (pa_cons (pv 9) pa_nil))) (pe_lst (pa_cons (pe_un un_neg pe_int) (pa_cons pe_bl pa_nil))) (nomark _)) (pss_one (ps_ret pe_bl)) pss_nil))))))))
      (pss_one (ps_ret (pe_cmpR (op_eqD hu) (pe_ref (k := 4) (T := [(Pt, "law.<locals>.<lambda>")]) (t := fun E => tCallS (spRdCall K mg C) (fun _ => E) (tCons (tC (.str "fork 0\nfork 1")) tNil)) R (by rfl) TB rfl (List.mem_singleton.mpr (by rfl)) (fun p hp _ => by rw [List.mem_singleton.mp hp]; rfl) hr (LamX.lamS_by (sc := defScope sLaw) (by decide +kernel)) rfl (fun _ _ _ _ _ => rfl) (fun A outer s H E f c' hr2 => pe_callS G1 hr2 (by rfl) m1 k1 b1 (fun σ => passAt (takes_of rfl rfl rfl rfl) σ) (pa_cons pe_str pa_nil))) (pe_lst (pa_cons pe_int (pa_cons pe_bl pa_nil))) (nomark _))))), ?_⟩
    generalize hTT : [(Pt, ("law.<locals>.<lambda>" : Str))] = TT
    have tb0 : Tabs TT H := fun x hx => by
      rw [← hTT] at hx
      obtain rfl := List.mem_singleton.mp hx
      exact TabS.nil hP
    refine ⟨fun σ' H' => Tabs TT H', ?_, ?_⟩
    · walk_at "wn"
      show iRng1 _ _ _ _
      show tCons _ _ _ _ _
      walk_at "wn"
      refine ⟨a, _, rfl, .inl hS, ?_⟩
      walk_at "wn"
      refine ⟨_, rfl, ?_, ?_, ?_⟩
      · split <;> split <;> omega
      · split <;> split <;> omega
      refine for_range (lo := 0) (fun i σ' H' => ∃ u1 u2 u3 u4 u5 u6 u7 u8 u9 u10 : Option V, σ' = [some (.ref a), u1, u2, u3, u4, u5, u6, u7, u8, u9, u10] ∧ SqL K H' a (ns.map V.int) ∧ Tabs TT H') ⟨_, _, _, _, _, _, _, _, _, _, rfl, hS, tb0⟩ ?_ (fun σ' H' ⟨_, _, _, _, _, _, _, _, _, _, _, _, h⟩ => h)
      rintro i σ' Hb hi ⟨u1, u2, u3, u4, u5, u6, u7, u8, u9, u10, rfl, hSb, tb⟩
      have hi100 : i ≤ 100 := by revert hi; split <;> split <;> omega
      walk_at "wn"
      refine ⟨fun σ' H' => ∃ p : Addr, σ' = [some (.ref a), some (.int (0 + (i : Int))), some (.ref p), u3, u4, u5, u6, u7, u8, u9, u10] ∧ Gn K TT a (ns.map V.int) p H', ?_, ?_⟩
      · walk_at "wn"
        refine ⟨a, ns, i, by simp, hSb, hl, hi100, fun H1 p n0 s1 b1 => ?_⟩
        walk_at "wn"
        exact ⟨p, rfl, b1, tb.ext s1, Same.seq s1 hSb, sq_ne hSb n0⟩
      rintro σ' H1 ⟨p, rfl, g1⟩
      -- the turns
      refine ⟨fun σ' H' => ∃ u3 u4 u5 u6 u7 u8 u9 u10 : Option V, σ' = [some (.ref a), some (.int (0 + (i : Int))), some (.ref p), u3, u4, u5, u6, u7, u8, u9, u10] ∧ Gn K TT a (ns.map V.int) p H', ?_, ?_⟩
      · walk_at "wn"
        show iRng1 _ _ _ _
        show tCons _ _ _ _ _
        walk_at "wn"
        refine ⟨_, rfl, by decide, by decide, ?_⟩
        refine for_range (lo := 0) (fun j σ' H' => ∃ u3 u4 u5 u6 u7 u8 u9 u10 : Option V, σ' = [some (.ref a), some (.int (0 + (i : Int))), some (.ref p), u3, u4, u5, u6, u7, u8, u9, u10] ∧ Gn K TT a (ns.map V.int) p H') ⟨_, _, _, _, _, _, _, _, rfl, g1⟩ ?_ (fun σ' H' h => h)
        rintro j σ' H2 hj ⟨v3, v4, v5, v6, v7, v8, v9, v10, rfl, g2⟩
        walk_at "wn"
        -- the lines
        refine ⟨fun σ' H' => ∃ (l : Addr) (ls : List Str), σ' = [some (.ref a), some (.int (0 + (i : Int))), some (.ref p), some (.int (0 + (j : Int))), some (.ref l), v5, v6, v7, v8, v9, v10] ∧ Gn K TT a (ns.map V.int) p H' ∧ H' l = some (.lst (ls.map V.str)) ∧ l ≠ p ∧ (a ≠ l ∨ ∀ H', SqL K H' a (ns.map V.int)) ∧ 0 < ls.length ∧ ls.length ≤ 6 ∧ ∀ t ∈ ls, Asc t ∧ t.length ≤ 60, ?_, ?_⟩
        · walk_at "wn"
          show iRng1 _ _ _ _
          show tCons _ _ _ _ _
          walk_at "wn"
          refine ⟨p, 6, rfl, g2.bag, by decide, by decide, fun kk H3 k0 k1 e3 b3 => ?_⟩
          walk_at "wn"
          have g3 := g2.draw e3 b3
          refine ⟨_, rfl, by omega, by omega, fun D hD => lc_range (lo := 0) (n := (1 + kk).toNat) (fun m H' => Dr p H3 H' ∧ ∃ ls : List Str, ls.length = m ∧ H' D = some (.lst (ls.map V.str)) ∧ ∀ t ∈ ls, Asc t ∧ t.length ≤ 60) ⟨Dr.new b3 hD, [], rfl, upd_same, (fun _ z => nomatch z)⟩ ?_ ?_⟩
          · rintro m H' hm ⟨dr, ls, l1, l2, l3⟩
            refine ⟨rfl, ?_⟩
            walk_at "wn"
            refine ⟨p, rfl, dr.2, fun t H4 ta tl d4 => ?_⟩
            have nDp : D ≠ p := BagAt.ne b3 hD
            refine ⟨_, d4.1 D _ nDp l2, by rw [List.length_map, l1, sizeLine_eq]; omega, Dr.upd (dr.trans d4) hD nDp, ls ++ [t], by simp [l1], by rw [upd_same, List.map_append]; rfl, fun x hx => ?_⟩
            rcases List.mem_append.mp hx with hx | hx
            · exact l3 x hx
            · rw [List.mem_singleton.mp hx]
              exact ⟨ta, tl⟩
          · rintro H' ⟨dr, ls, l1, l2, l3⟩
            exact ⟨D, ls, rfl, g3.dr dr, l2, BagAt.ne b3 hD, sq_ne g3.scr hD, by omega, by omega, l3⟩
        rintro σ' H3 ⟨l, ls, rfl, g3, hl3, nlp, nla, ll0, ll1, lt⟩
        -- which line is bent
        refine ⟨fun σ' H' => ∃ kk : Nat, kk < ls.length ∧ σ' = [some (.ref a), some (.int (0 + (i : Int))), some (.ref p), some (.int (0 + (j : Int))), some (.ref l), some (.int (kk : Int)), v6, v7, v8, v9, v10] ∧ Gn K TT a (ns.map V.int) p H' ∧ H' l = some (.lst (ls.map V.str)), ?_, ?_⟩
        · walk_at "wn"
          refine ⟨p, _, rfl, g3.bag, by rw [List.length_map]; omega, by rw [List.length_map]; omega, fun k H4 k0 k1 e4 b4 => ?_⟩
          obtain ⟨kk, rfl⟩ := Int.eq_ofNat_of_zero_le k0
          rw [List.length_map] at k1
          walk_at "wn"
          exact ⟨kk, by omega, rfl, g3.draw e4 b4, (e4 l nlp).trans hl3⟩
        rintro σ' H4 ⟨kk, hk, rfl, g4, hl4⟩
        -- it is bent
        refine ⟨fun σ' H' => ∃ ls' : List Str, σ' = [some (.ref a), some (.int (0 + (i : Int))), some (.ref p), some (.int (0 + (j : Int))), some (.ref l), some (.int (kk : Int)), v6, v7, v8, v9, v10] ∧ Gn K TT a (ns.map V.int) p H' ∧ H' l = some (.lst (ls'.map V.str)) ∧ ls'.length = ls.length ∧ ∀ t ∈ ls', Asc t ∧ t.length ≤ 300, ?_, ?_⟩
        · walk_at "wn"
          have ek : (ls.map V.str)[kk]? = some (V.str ls[kk]) := by
            rw [List.getElem?_map, List.getElem?_eq_getElem hk]
            rfl
          refine ⟨l, _, (kk : Int), _, rfl, rfl, SqL.of hl4, atI_nat ek, ?_⟩
          walk_at "wn"
          have lk := lt _ (List.getElem_mem hk)
          refine ⟨p, ls[kk], rfl, g4.bag, lk.1, lk.2, fun t' H5 ta tl d5 => ?_⟩
          have hl5 := d5.1 l _ nlp hl4
          walk_at "wn"
          refine ⟨l, _, _, kk, rfl, rfl, hl5, by rw [List.length_map]; exact ixN_nat hk, ?_⟩
          refine ⟨ls.set kk t', rfl, (g4.dr d5).lst nla nlp hl5, by rw [upd_same, List.map_set], by rw [List.length_set], fun x hx => ?_⟩
          rcases List.mem_or_eq_of_mem_set hx with hx | rfl
          · exact ⟨(lt x hx).1, by have := (lt x hx).2; omega⟩
          · exact ⟨ta, tl⟩
        rintro σ' H5 ⟨ls', rfl, g5, hl5, ll5, lt5⟩
        have ll6 : ls'.length ≤ 6 := by omega
        have hk5 : kk < ls'.length := by omega
        have ek5 : (ls'.map V.str)[kk]? = some (V.str (ls'.getD kk "")) := by
          rw [List.getElem?_map, List.getElem?_eq_getElem hk5, List.getD_eq_getElem?_getD, List.getElem?_eq_getElem hk5]
          rfl
        have e1 : ((("\n" : String) : Str)).length = 1 := rfl
        have wl : (Str.join "\n" ls').length ≤ 9000 := by
          have := join_lenB "\n" 300 ls' fun t ht => (lt5 t ht).2
          rw [e1] at this
          omega
        have sm5 := whole_len ls' lt5
        obtain ⟨cs, pr, em⟩ := lines_ok (K := K) (mg := mg) Un ls' fun t ht => (lt5 t ht).1
        have ne : ls' ≠ [] := fun z => by rw [z] at hk5; exact absurd hk5 (Nat.not_lt_zero _)
        have sp : Txt.split (Str.join "\n" ls') "\n" = ls' := by
          rw [← TL.join_eq]
          exact TL.split_join (s := 10) (S := []) rfl (by decide +kernel) ne fun q hq z => ((lt5 q hq).1 10 z).2 rfl
        -- the whole
        refine ⟨fun σ' H' => σ' = [some (.ref a), some (.int (0 + (i : Int))), some (.ref p), some (.int (0 + (j : Int))), some (.ref l), some (.int (kk : Int)), some (.str (Str.join "\n" ls')), v7, v8, v9, v10] ∧ H' = H5, ?_, ?_⟩
        · walk_at "wn"
          refine ⟨"\n", l, ls', rfl, rfl, .inl (SqL.of hl5), by rw [e1]; omega, ?_⟩
          rw [TL.join_eq]
          walk_at "wn"
          exact ⟨rfl, rfl⟩
        rintro σ' H5' ⟨rfl, rfl⟩
        generalize hW : Str.join "\n" ls' = W at wl sp
        -- the lines that are none
        refine ⟨fun σ' H' => ∃ ww : Addr, σ' = [some (.ref a), some (.int (0 + (i : Int))), some (.ref p), some (.int (0 + (j : Int))), some (.ref l), some (.int (kk : Int)), some (.str W), some (.ref ww), v8, v9, v10] ∧ Same H5' H' ∧ H' ww = some (.lst ((wr ls' ls'.length).map fun j : Nat => V.int (j : Int))), ?_, ?_⟩
        · walk_at "wn"
          show iRng1 _ _ _ _
          show tCons _ _ _ _ _
          walk_at "wn"
          rw [List.length_map]
          refine ⟨_, rfl, by omega, by omega, fun D hD => lc_range (lo := 0) (n := ls'.length) (fun m H' => Same H5' H' ∧ H' D = some (.lst ((wr ls' m).map fun j : Nat => V.int (j : Int)))) ⟨Same.new hD, upd_same⟩ ?_ ?_⟩
          · rintro m H' hm ⟨sm, hD'⟩
            rw [Int.zero_add]
            refine ⟨rfl, ?_⟩
            show tNot _ _ _ _
            walk_at "wn"
            have eg : ls'.getD m "" = ls'[m] := by
              rw [List.getD_eq_getElem?_getD, List.getElem?_eq_getElem hm]
              rfl
            have em1 : (ls'.map V.str)[m]? = some (V.str (ls'.getD m "")) := by
              rw [List.getElem?_map, List.getElem?_eq_getElem hm, eg]
              rfl
            refine ⟨l, _, (m : Int), _, rfl, rfl, SqL.of (sm _ _ hl5), atI_nat em1, ?_⟩
            walk_at "wn"
            have lm := lt5 _ (List.getElem_mem hm)
            refine ⟨ls'.getD m "", rfl, by rw [eg]; omega, by rw [eg]; exact lm.1, fun H6 s6 => ?_⟩
            refine ⟨_, rfl, ?_⟩
            rw [wr_succ]
            show if (!okAt ls' m) = true then _ else _
            refine ite2 (fun hb => ?_) (fun hb => ?_)
            · rw [if_pos hb, List.map_append]
              refine ⟨_, rfl, _, s6 _ _ hD', ?_, fun b o e => ?_, upd_same⟩
              · rw [List.length_map]
                have := wr_len ls' m
                rw [sizeLine_eq]
                omega
              · rw [upd_ne (ne_of_none e hD)]
                exact s6 _ _ (sm _ _ e)
            · rw [if_neg hb, List.append_nil]
              exact ⟨sm.trans s6, s6 _ _ hD'⟩
          · rintro H' ⟨sm, hD'⟩
            walk_at "wn"
            exact ⟨D, rfl, sm, hD'⟩
        rintro σ' H6 ⟨ww, rfl, s6, hw6⟩
        have g6 := g5.same s6
        have hl6 := s6 _ _ hl5
        -- what is due
        refine ⟨fun σ' H' => ∃ (x : V) (d : Option Nat), σ' = [some (.ref a), some (.int (0 + (i : Int))), some (.ref p), some (.int (0 + (j : Int))), some (.ref l), some (.int (kk : Int)), some (.str W), some (.ref ww), some x, v9, v10] ∧ Same H6 H' ∧ Due H' x (d.map fun j : Nat => (j : Int)) ∧ ((W = "" ∧ d = none) ∨ (W ≠ "" ∧ d = (wr ls' ls'.length).head?)), ?_, ?_⟩
        · walk_at "wn"
          refine ⟨Nat.zero_le _, fun z hz => ?_⟩
          have s7 : Same H6 (upd H6 z (.lst [])) := Same.new hz
          walk_at "wn"
          refine wr_nil (s7 _ _ hw6) upd_same ?_
          rcases wr_cases ls' ls'.length with ⟨e, ha⟩ | ⟨m, r, e, h1, h2, h3⟩
          · rw [e]
            show ∃ b, V.bl true = V.bl b ∧ _
            walk_at "wn"
            by_cases hz : W = ""
            · exact ⟨.non, none, rfl, s7, rfl, .inl ⟨hz, rfl⟩⟩
            · exact ⟨.non, none, rfl, s7, rfl, .inr ⟨hz, rfl⟩⟩
          · rw [e]
            show ∃ b, V.bl false = V.bl b ∧ _
            walk_at "wn"
            by_cases hz : W = ""
            · have eb : decide (V.str W = V.str "") = true := decide_eq_true (by rw [hz])
              rw [eb]
              walk_at "wn"
              exact ⟨.non, none, rfl, s7, rfl, .inl ⟨hz, rfl⟩⟩
            · have eb : decide (V.str W = V.str "") = false := decide_eq_false fun q => hz (str_inj.mp q)
              rw [eb]
              walk_at "wn"
              refine ⟨ww, _, 0, V.int (m : Int), rfl, rfl, SqL.of (s7 _ _ hw6), by rw [e]; exact atI_nat (j := 0) rfl, ?_⟩
              walk_at "wn"
              refine ⟨by show 2 ≤ sizeLine; decide, fun q hq => ?_⟩
              walk_at "wn"
              exact ⟨.ref q, some m, rfl, s7.trans (Same.new hq), ⟨q, rfl, upd_same⟩, .inr ⟨hz, rfl⟩⟩
        rintro σ' H7 ⟨x8, d8, rfl, s7, du8, hd8⟩
        have g7 := g6.same s7
        have hl7 := s7 _ _ hl6
        -- the whole is read
        refine ⟨fun σ' H' => σ' = [some (.ref a), some (.int (0 + (i : Int))), some (.ref p), some (.int (0 + (j : Int))), some (.ref l), some (.int (kk : Int)), some (.str W), some (.ref ww), some x8, v9, v10] ∧ Gn K TT a (ns.map V.int) p H' ∧ H' l = some (.lst (ls'.map V.str)), ?_, ?_⟩
        · walk_at "wn"
          refine ref_calls (d := d8) g7.tab wl (fun H1 k _ q => ⟨_, rfl, q⟩) ?_ ?_
          · rcases hd8 with ⟨h1, h2⟩ | ⟨h1, h2⟩
            · exact .inl ⟨h1, h2⟩
            · exact .inr ⟨h1, cs, by rw [sp]; exact pr, by rw [h2]; exact first_of em⟩
          · intro H8 v e8 t8 x
            refine ⟨_, rfl, due_ne x (du8.extN e8) ?_⟩
            walk_at "wn"
            exact ⟨rfl, g7.aft e8 t8, extL e8 hl7⟩
        rintro σ' H8 ⟨rfl, g8, hl8⟩
        -- what is due of the bent one
        have lk5 := lt5 _ (List.getElem_mem hk5)
        have eg5 : ls'.getD kk "" = ls'[kk] := by
          rw [List.getD_eq_getElem?_getD, List.getElem?_eq_getElem hk5]
          rfl
        refine ⟨fun σ' H' => ∃ x : V, σ' = [some (.ref a), some (.int (0 + (i : Int))), some (.ref p), some (.int (0 + (j : Int))), some (.ref l), some (.int (kk : Int)), some (.str W), some (.ref ww), some x, v9, v10] ∧ Same H8 H' ∧ Due H' x (if okAt ls' kk = true then none else some 0), ?_, ?_⟩
        · walk_at "wn"
          refine ⟨l, _, (kk : Int), _, rfl, rfl, SqL.of hl8, atI_nat ek5, ?_⟩
          walk_at "wn"
          refine ⟨ls'.getD kk "", rfl, by rw [eg5]; omega, by rw [eg5]; exact lk5.1, fun H9 s9 => ?_⟩
          refine ⟨_, rfl, ?_⟩
          show if okAt ls' kk = true then _ else _
          refine ite2 (fun hb => ?_) (fun hb => ?_)
          · rw [if_pos hb]
            walk_at "wn"
            exact ⟨.non, rfl, s9, rfl⟩
          · rw [if_neg hb]
            walk_at "wn"
            refine ⟨by show 2 ≤ sizeLine; decide, fun q hq => ?_⟩
            walk_at "wn"
            exact ⟨.ref q, rfl, s9.trans (Same.new hq), q, rfl, upd_same⟩
        rintro σ' H9 ⟨x9, rfl, s9, du9⟩
        have g9 := g8.same s9
        have hl9 := s9 _ _ hl8
        obtain ⟨c9, ln9, ok9⟩ := line_ok (K := K) (mg := mg) lk5.1 Un
        walk_at "wn"
        refine ref_call (t := ls'[kk]) (c := c9) g9.tab (by omega) ln9 (fun H1 k e q => ⟨_, rfl, _, rfl, l, _, (kk : Int), _, rfl, rfl, SqL.of (extL e hl9), atI_nat ek5, by rw [eg5]; exact q⟩) ?_
        intro H10 v e10 t10 x
        have du10 := du9.extN e10
        have eo : okAt ls' kk = c9.isSome := by
          unfold okAt
          rw [eg5]
          exact ok9
        refine ⟨_, rfl, due_ne (d := if okAt ls' kk = true then none else some 0) ?_ du10 ?_⟩
        · rw [eo]
          cases c9 with
          | none => exact x
          | some _ => exact x
        · walk_at "wn"
          exact ⟨_, _, _, _, _, _, _, _, rfl, g9.aft e10 t10⟩
      rintro σ' H2 ⟨v3, v4, v5, v6, v7, v8, v9, v10, rfl, g2⟩
      -- other objects
      have sixl : True := trivial
      show iList _ _ _ _ _
      walk_at "wn"
      refine ⟨by show 1 ≤ sizeLine; decide, fun q1 hq1 => ?_⟩
      have g3 := g2.new (o := .lst [V.str "fork 0"]) hq1
      have at1 : upd H2 q1 (.lst [V.str "fork 0"]) q1 = some (.lst [V.str "fork 0"]) := upd_same
      generalize upd H2 q1 (.lst [V.str "fork 0"]) = H3 at g3 at1
      walk_at "wn"
      refine ⟨by show 2 ≤ sizeLine; decide, fun q2 hq2 => ?_⟩
      have g4 := g3.new (o := .tup [V.str "fork", V.int 0]) hq2
      have at2 : upd H3 q2 (.tup [V.str "fork", V.int 0]) q2 = some (.tup [V.str "fork", V.int 0]) := upd_same
      have at14 := Same.new (o := .tup [V.str "fork", V.int 0]) hq2 _ _ at1
      generalize upd H3 q2 (.tup [V.str "fork", V.int 0]) = H4 at g4 at2 at14
      walk_at "wn"
      refine g_rI ⟨by decide, by decide, by decide⟩ ?_
      walk_at "wn"
      refine ⟨by show 6 ≤ sizeLine; decide, fun q3 hq3 => ?_⟩
      have g5 := g4.new (o := .lst [V.non, V.int 0, V.bl true, V.ref q1, V.ref q2, V.int (10 ^ Int.toNat 19)]) hq3
      have at3 : upd H4 q3 (.lst [V.non, V.int 0, V.bl true, V.ref q1, V.ref q2, V.int (10 ^ Int.toNat 19)]) q3 = some (.lst [V.non, V.int 0, V.bl true, V.ref q1, V.ref q2, V.int (10 ^ Int.toNat 19)]) := upd_same
      have at15 := Same.new (o := .lst [V.non, V.int 0, V.bl true, V.ref q1, V.ref q2, V.int (10 ^ Int.toNat 19)]) hq3 _ _ at14
      have at25 := Same.new (o := .lst [V.non, V.int 0, V.bl true, V.ref q1, V.ref q2, V.int (10 ^ Int.toNat 19)]) hq3 _ _ at2
      generalize upd H4 q3 (.lst [V.non, V.int 0, V.bl true, V.ref q1, V.ref q2, V.int (10 ^ Int.toNat 19)]) = H5 at g5 at3 at15 at25
      generalize hsix : [V.non, V.int 0, V.bl true, V.ref q1, V.ref q2, V.int (10 ^ Int.toNat 19)] = six at at3
      refine ⟨q3, rfl, ⟨_, SqL.of at3⟩, for_list (xs := six) (fun m σ' H' => ∃ u9 : Option V, σ' = [some (.ref a), some (.int (0 + (i : Int))), some (.ref p), v3, v4, v5, v6, v7, v8, u9, v10] ∧ Gn K TT a (ns.map V.int) p H' ∧ H' q3 = some (.lst six) ∧ H' q1 = some (.lst [V.str "fork 0"]) ∧ H' q2 = some (.tup [V.str "fork", V.int 0])) ⟨_, rfl, g5, at3, at15, at25⟩ (fun m σ' H' _ ⟨_, _, _, h, _⟩ => SqL.of h) ?_ (fun σ' H' ⟨_, e, g, _⟩ => ⟨_, _, _, _, _, _, _, _, _, _, e, g.scr, g.tab⟩)⟩
      rintro m x σ' H6 hx ⟨u9, rfl, g6, at36, at16, at26⟩
      have ns6 : ∀ H1, ExtN H6 H1 → NoStr K H1 x := by
        intro H1 e1
        have hm := List.mem_of_getElem? hx
        rw [← hsix] at hm
        simp only [List.mem_cons, List.not_mem_nil, or_false] at hm
        rcases hm with rfl | rfl | rfl | rfl | rfl | rfl
        · exact ⟨"NoneType", .base .non, kit_ty (by decide +kernel)⟩
        · exact ⟨"int", .base (.int _), kit_ty (by decide +kernel)⟩
        · exact ⟨"bool", .base (.bl _), kit_ty (by decide +kernel)⟩
        · exact ⟨"list", .base (.lst (extL e1 at16)), kit_ty (by decide +kernel)⟩
        · exact ⟨"tuple", .base (.tup (e1 _ _ at26 (fun _ z => nomatch z))), kit_ty (by decide +kernel)⟩
        · exact ⟨"int", .base (.int _), kit_ty (by decide +kernel)⟩
      walk_at "wn"
      refine ⟨fun σ' H' => σ' = [some (.ref a), some (.int (0 + (i : Int))), some (.ref p), v3, v4, v5, v6, v7, v8, some x, v10] ∧ Gn K TT a (ns.map V.int) p H' ∧ H' q3 = some (.lst six) ∧ H' q1 = some (.lst [V.str "fork 0"]) ∧ H' q2 = some (.tup [V.str "fork", V.int 0]), ?_, ?_⟩
      · walk_at "wn"
        refine ref_callN g6.tab ns6 (fun H1 k _ q => ⟨_, rfl, q⟩) ?_
        intro H7 v e7 t7 xd
        walk_at "wn"
        refine ⟨1, rfl, ?_⟩
        walk_at "wn"
        refine ⟨by show 2 ≤ sizeLine; decide, fun q hq => ?_⟩
        have s8 := Same.new (o := .lst [V.int (-1), V.bl true]) hq
        refine due_ne (d := some (-1)) (xd.extN (.of s8)) ⟨q, rfl, upd_same⟩ ?_
        walk_at "wn"
        exact ⟨rfl, (g6.aft e7 t7).same s8, s8 _ _ (extL e7 at36), s8 _ _ (extL e7 at16), s8 _ _ (e7 _ _ at26 (fun _ z => nomatch z))⟩
      rintro σ' H7 ⟨rfl, g7, at37, at17, at27⟩
      have ns7 : ∀ H1, ExtN H7 H1 → NoStr K H1 x := by
        intro H1 e1
        have hm := List.mem_of_getElem? hx
        rw [← hsix] at hm
        simp only [List.mem_cons, List.not_mem_nil, or_false] at hm
        rcases hm with rfl | rfl | rfl | rfl | rfl | rfl
        · exact ⟨"NoneType", .base .non, kit_ty (by decide +kernel)⟩
        · exact ⟨"int", .base (.int _), kit_ty (by decide +kernel)⟩
        · exact ⟨"bool", .base (.bl _), kit_ty (by decide +kernel)⟩
        · exact ⟨"list", .base (.lst (extL e1 at17)), kit_ty (by decide +kernel)⟩
        · exact ⟨"tuple", .base (.tup (e1 _ _ at27 (fun _ z => nomatch z))), kit_ty (by decide +kernel)⟩
        · exact ⟨"int", .base (.int _), kit_ty (by decide +kernel)⟩
      walk_at "wn"
      refine ref_callsN g7.tab ns7 (fun H1 k _ q => ⟨_, rfl, q⟩) ?_
      intro H8 v e8 t8 xd
      walk_at "wn"
      refine ⟨1, rfl, ?_⟩
      walk_at "wn"
      refine ⟨by show 2 ≤ sizeLine; decide, fun q hq => ?_⟩
      have s9 := Same.new (o := .lst [V.int (-1), V.bl true]) hq
      refine due_ne (d := some (-1)) (xd.extN (.of s9)) ⟨q, rfl, upd_same⟩ ?_
      walk_at "wn"
      exact ⟨_, rfl, (g7.aft e8 t8).same s9, s9 _ _ (extL e8 at37), s9 _ _ (extL e8 at17), s9 _ _ (e8 _ _ at27 (fun _ z => nomatch z))⟩
    · rintro σ' H' tb
      walk_at "wn"
      refine ref_call (t := "fork 0\nfork 1") (c := none) (by exact tb) (by decide +kernel) (.count (name := "fork") (parts := ["0\nfork", "1"]) (ks := ["integer"]) (by decide +kernel) (by decide +kernel) (by decide)) (fun H1 k e q => q) ?_
      intro H2 v e2 t2 x
      walk_at "wn"
      refine ⟨by show 2 ≤ sizeLine; decide, fun q hq => ?_⟩
      refine due_eq (d := some 0) (x.extN (.of (Same.new hq))) ⟨q, rfl, upd_same⟩ ?_
      exact k _
end
end Wn

namespace Wn
open PySem PySem.Spec PyProof.Rows L2 Evl
/-- the dict of kinds knows no other words -/
def keysIn (es : List DictEntry) : Bool := es.all fun e => match e.key with
  | .str x _ => (kindsL.map (·.1)).contains x
  | _ => false
theorem unk_of {K : PySem.W.Frag} {d : Addr} {cl : Value} {od : Option Addr} {es : Array DictEntry} {n : Nat} {sl : Array (Option Value)} {name : Str} (l : K.lookup d = some ⟨cl, od, .dict es n, sl⟩) (h : keysIn es.toList = true) (hn : ∀ ks, (name, ks) ∉ kindsL) : PySem.W.nsIn K d name = some none := by
  unfold PySem.W.nsIn
  rw [l]
  unfold keysIn at h
  rw [List.all_eq_true] at h
  have h1 : es.toList.find? (·.key.isStr name) = none := by
    rw [List.find?_eq_none]
    intro e he z
    have q := h e he
    cases hk : e.key with
    | str x t =>
      rw [hk] at q z
      have ex : x = name := by simpa [Value.isStr] using z
      subst ex
      have q2 : x ∈ kindsL.map (·.1) := by simpa using q
      obtain ⟨p, hp, e2⟩ := List.mem_map.mp q2
      exact hn p.2 (by rw [← e2]; exact hp)
    | _ => rw [hk] at q; cases q
  have h2 : es.toList.any (·.refKey) = false := by
    rw [List.any_eq_false]
    intro e he z
    have q := h e he
    cases hk : e.key with
    | str x t =>
      unfold DictEntry.refKey at z
      rw [hk] at z
      cases z
    | _ => rw [hk] at q; cases q
  simp only [h1, h2]
  rfl
theorem isct {K : PySem.W.Frag} {h : Heap} {c P : Addr} (X : K.In h) (e : PySem.W.codeHdIn K c P = true) : isCodeTable h P := by
  obtain ⟨o, vs, _, _, _, _, _, _, _, e1, e2, e3, e4, _⟩ := PySem.W.codeHd_of_K X e
  exact ⟨c, o, vs, e1, e2, e3, e4⟩
theorem all_mk {P : Program} {w : World} {K : PySem.W.Frag} {h : Heap} {mg : Str → Option Value} {fa Pt : Addr} (X : K.In h) (G : h.Ns mainGlobals mg) (hfa : mg "law" = some (.ref fa))
    {wW dD : Addr} {tD t9 : Tok} {es : Array DictEntry} {nD : Nat}
    {f1 : Addr} {oc1 kV1 dc1 pm1 cd1 ct1 : Value} {od1 an1 : Option Addr} {sl1 : Array (Option Value)}
    {f2 : Addr} {oc2 kV2 dc2 pm2 cd2 ct2 : Value} {od2 an2 : Option Addr} {sl2 : Array (Option Value)}
    {f3 : Addr} {oc3 kV3 dc3 pm3 cd3 ct3 : Value} {od3 an3 : Option Addr} {sl3 : Array (Option Value)}
    {f4 : Addr} {oc4 kV4 dc4 pm4 cd4 ct4 : Value} {od4 an4 : Option Addr} {sl4 : Array (Option Value)}
    {f5 : Addr} {oc5 kV5 dc5 pm5 cd5 ct5 : Value} {od5 an5 : Option Addr} {sl5 : Array (Option Value)}
    {f6 : Addr} {oc6 kV6 dc6 pm6 cd6 ct6 : Value} {od6 an6 : Option Addr} {sl6 : Array (Option Value)}
    {f7 : Addr} {oc7 kV7 dc7 pm7 cd7 ct7 : Value} {od7 an7 : Option Addr} {sl7 : Array (Option Value)}
    {f8 : Addr} {oc8 kV8 dc8 pm8 cd8 ct8 : Value} {od8 an8 : Option Addr} {sl8 : Array (Option Value)}
    {f9 : Addr} {oc9 kV9 dc9 pm9 cd9 ct9 : Value} {od9 an9 : Option Addr} {sl9 : Array (Option Value)}
    {f10 : Addr} {oc10 kV10 dc10 pm10 cd10 ct10 : Value} {od10 an10 : Option Addr} {sl10 : Array (Option Value)}
    {f11 : Addr} {oc11 kV11 dc11 pm11 cd11 ct11 : Value} {od11 an11 : Option Addr} {sl11 : Array (Option Value)}
    {f12 : Addr} {oc12 kV12 dc12 pm12 cd12 ct12 : Value} {od12 an12 : Option Addr} {sl12 : Array (Option Value)}
    {f13 : Addr} {oc13 kV13 dc13 pm13 cd13 ct13 : Value} {od13 an13 : Option Addr} {sl13 : Array (Option Value)}
    {f14 : Addr} {oc14 kV14 dc14 pm14 cd14 ct14 : Value} {od14 an14 : Option Addr} {sl14 : Array (Option Value)}
    {f15 : Addr} {oc15 kV15 dc15 pm15 cd15 ct15 : Value} {od15 an15 : Option Addr} {sl15 : Array (Option Value)}
    {f16 c16 : Addr} {oc16 kV16 dc16 pm16 ct16 : Value} {od16 an16 : Option Addr} {sl16 : Array (Option Value)}
    {dW : Option Addr} {nW : Nat} {sW : Array (Option Value)} {tW0 tW1 tW2 : Tok}
    {q0 : Addr}
    {dA0 : Option Addr} {nA0 : Nat} {sA0 : Array (Option Value)} {tA0_0 : Tok}
    {q1 : Addr}
    {dA1 : Option Addr} {nA1 : Nat} {sA1 : Array (Option Value)} {tA1_0 : Tok}
    {q2 : Addr}
    {dA2 : Option Addr} {nA2 : Nat} {sA2 : Array (Option Value)} {tA2_0 : Tok} {tA2_1 : Tok} {tA2_2 : Tok}
    {q3 : Addr}
    {dA3 : Option Addr} {nA3 : Nat} {sA3 : Array (Option Value)} {tA3_0 : Tok} {tA3_1 : Tok}
    {q4 : Addr}
    {dA4 : Option Addr} {nA4 : Nat} {sA4 : Array (Option Value)} {tA4_0 : Tok}
    {q5 : Addr}
    {dA5 : Option Addr} {nA5 : Nat} {sA5 : Array (Option Value)} {tA5_0 : Tok}
    {q6 : Addr}
    {dA6 : Option Addr} {nA6 : Nat} {sA6 : Array (Option Value)} {tA6_0 : Tok} {tA6_1 : Tok} {tA6_2 : Tok}
    {q7 : Addr}
    {dA7 : Option Addr} {nA7 : Nat} {sA7 : Array (Option Value)} {tA7_0 : Tok} {tA7_1 : Tok}
    {q8 : Addr}
    {dA8 : Option Addr} {nA8 : Nat} {sA8 : Array (Option Value)} {tA8_0 : Tok} {tA8_1 : Tok} {tA8_2 : Tok}
    {q9 : Addr}
    {dA9 : Option Addr} {nA9 : Nat} {sA9 : Array (Option Value)} {tA9_0 : Tok} {tA9_1 : Tok} {tA9_2 : Tok} {tA9_3 : Tok} {tA9_4 : Tok}
    {q10 : Addr}
    {dA10 : Option Addr} {nA10 : Nat} {sA10 : Array (Option Value)} {tA10_0 : Tok} {tA10_1 : Tok} {tA10_2 : Tok} {tA10_3 : Tok}
    {q11 : Addr}
    {dA11 : Option Addr} {nA11 : Nat} {sA11 : Array (Option Value)} {tA11_0 : Tok} {tA11_1 : Tok} {tA11_2 : Tok}
    {q12 : Addr}
    {dA12 : Option Addr} {nA12 : Nat} {sA12 : Array (Option Value)} {tA12_0 : Tok} {tA12_1 : Tok} {tA12_2 : Tok}
    {q13 : Addr}
    {dA13 : Option Addr} {nA13 : Nat} {sA13 : Array (Option Value)} {tA13_0 : Tok}
    {q14 : Addr}
    {dA14 : Option Addr} {nA14 : Nat} {sA14 : Array (Option Value)} {tA14_0 : Tok} {tA14_1 : Tok} {tA14_2 : Tok} {tA14_3 : Tok}
    {q15 : Addr}
    {dA15 : Option Addr} {nA15 : Nat} {sA15 : Array (Option Value)} {tA15_0 : Tok} {tA15_1 : Tok}
    {C fI : Addr} {nm q : Str} {N : Addr} {bs : List Value} {sn : List Str} {sub : List Value} {ab : Bool} {col : Option Bool} {dd : Option Addr} {mm0 mm1 mm2 mm3 mm5 : Option Value} {ocI kVI dcI pmI cdI ctI : Value} {odI anI : Option Addr} {slI : Array (Option Value)}
    (a1 : PySem.W.nsIn K mainGlobals "is_word" = some (some (.ref f1))) (l1 : K.lookup f1 = some ⟨oc1, od1, .func (PySem.W.fnOf "is_word" "is_word" (defArgs sIsWord) (defBody sIsWord) (defScope sIsWord) .none kV1 dc1 pm1 an1 cd1 ct1), sl1⟩) (c1x : PySem.W.codeIn K cd1 "is_word" = true) (k1 : PySem.W.keepIn K (.ref f1) = true)
    (a2 : PySem.W.nsIn K mainGlobals "is_integer_text" = some (some (.ref f2))) (l2 : K.lookup f2 = some ⟨oc2, od2, .func (PySem.W.fnOf "is_integer_text" "is_integer_text" (defArgs sIsInt) (defBody sIsInt) (defScope sIsInt) .none kV2 dc2 pm2 an2 cd2 ct2), sl2⟩) (c2x : PySem.W.codeIn K cd2 "is_integer_text" = true) (k2 : PySem.W.keepIn K (.ref f2) = true)
    (a3 : PySem.W.nsIn K mainGlobals "is_argument_text" = some (some (.ref f3))) (l3 : K.lookup f3 = some ⟨oc3, od3, .func (PySem.W.fnOf "is_argument_text" "is_argument_text" (defArgs sIsArg) (defBody sIsArg) (defScope sIsArg) .none kV3 dc3 pm3 an3 cd3 ct3), sl3⟩) (c3x : PySem.W.codeIn K cd3 "is_argument_text" = true) (k3 : PySem.W.keepIn K (.ref f3) = true)
    (a4 : PySem.W.nsIn K mainGlobals "read_argument" = some (some (.ref f4))) (l4 : K.lookup f4 = some ⟨oc4, od4, .func (PySem.W.fnOf "read_argument" "read_argument" (defArgs sReadArg) (defBody sReadArg) (defScope sReadArg) .none kV4 dc4 pm4 an4 cd4 ct4), sl4⟩) (c4x : PySem.W.codeIn K cd4 "read_argument" = true) (k4 : PySem.W.keepIn K (.ref f4) = true)
    (a5 : PySem.W.nsIn K mainGlobals "call_or_none" = some (some (.ref f5))) (l5 : K.lookup f5 = some ⟨oc5, od5, .func (PySem.W.fnOf "call_or_none" "call_or_none" (defArgs sCallOrNone) (defBody sCallOrNone) (defScope sCallOrNone) .none kV5 dc5 pm5 an5 cd5 ct5), sl5⟩) (c5x : PySem.W.codeIn K cd5 "call_or_none" = true) (k5 : PySem.W.keepIn K (.ref f5) = true)
    (a6 : PySem.W.nsIn K mainGlobals "read_call" = some (some (.ref f6))) (l6 : K.lookup f6 = some ⟨oc6, od6, .func (PySem.W.fnOf "read_call" "read_call" (defArgs sReadCall) (defBody sReadCall) (defScope sReadCall) .none kV6 dc6 pm6 an6 cd6 ct6), sl6⟩) (c6x : PySem.W.codeIn K cd6 "read_call" = true) (k6 : PySem.W.keepIn K (.ref f6) = true)
    (a7 : PySem.W.nsIn K mainGlobals "read_calls" = some (some (.ref f7))) (l7 : K.lookup f7 = some ⟨oc7, od7, .func (PySem.W.fnOf "read_calls" "read_calls" (defArgs sReadCalls) (defBody sReadCalls) (defScope sReadCalls) .none kV7 dc7 pm7 an7 cd7 ct7), sl7⟩) (c7x : PySem.W.codeIn K cd7 "read_calls" = true) (k7 : PySem.W.keepIn K (.ref f7) = true)
    (a8 : PySem.W.nsIn K mainGlobals "_law_bag" = some (some (.ref f8))) (l8 : K.lookup f8 = some ⟨oc8, od8, .func (PySem.W.fnOf "_law_bag" "_law_bag" (defArgs sBag) (defBody sBag) (defScope sBag) .none kV8 dc8 pm8 an8 cd8 ct8), sl8⟩) (c8x : PySem.W.codeIn K cd8 "_law_bag" = true) (k8 : PySem.W.keepIn K (.ref f8) = true)
    (a9 : PySem.W.nsIn K mainGlobals "_law_take" = some (some (.ref f9))) (l9 : K.lookup f9 = some ⟨oc9, od9, .func (PySem.W.fnOf "_law_take" "_law_take" (defArgs sTake) (defBody sTake) (defScope sTake) .none kV9 dc9 pm9 an9 cd9 ct9), sl9⟩) (c9x : PySem.W.codeIn K cd9 "_law_take" = true) (k9 : PySem.W.keepIn K (.ref f9) = true)
    (a10 : PySem.W.nsIn K mainGlobals "_law_of" = some (some (.ref f10))) (l10 : K.lookup f10 = some ⟨oc10, od10, .func (PySem.W.fnOf "_law_of" "_law_of" (defArgs sOf) (defBody sOf) (defScope sOf) .none kV10 dc10 pm10 an10 cd10 ct10), sl10⟩) (c10x : PySem.W.codeIn K cd10 "_law_of" = true) (k10 : PySem.W.keepIn K (.ref f10) = true)
    (a11 : PySem.W.nsIn K mainGlobals "_law_is_number" = some (some (.ref f11))) (l11 : K.lookup f11 = some ⟨oc11, od11, .func (PySem.W.fnOf "_law_is_number" "_law_is_number" (defArgs sIsNum) (defBody sIsNum) (defScope sIsNum) .none kV11 dc11 pm11 an11 cd11 ct11), sl11⟩) (c11x : PySem.W.codeIn K cd11 "_law_is_number" = true) (k11 : PySem.W.keepIn K (.ref f11) = true)
    (a12 : PySem.W.nsIn K mainGlobals "_law_is_call" = some (some (.ref f12))) (l12 : K.lookup f12 = some ⟨oc12, od12, .func (PySem.W.fnOf "_law_is_call" "_law_is_call" (defArgs sIsCall) (defBody sIsCall) (defScope sIsCall) .none kV12 dc12 pm12 an12 cd12 ct12), sl12⟩) (c12x : PySem.W.codeIn K cd12 "_law_is_call" = true) (k12 : PySem.W.keepIn K (.ref f12) = true)
    (a13 : PySem.W.nsIn K mainGlobals "_law_line" = some (some (.ref f13))) (l13 : K.lookup f13 = some ⟨oc13, od13, .func (PySem.W.fnOf "_law_line" "_law_line" (defArgs sLine) (defBody sLine) (defScope sLine) .none kV13 dc13 pm13 an13 cd13 ct13), sl13⟩) (c13x : PySem.W.codeIn K cd13 "_law_line" = true) (k13 : PySem.W.keepIn K (.ref f13) = true)
    (a14 : PySem.W.nsIn K mainGlobals "_law_bent" = some (some (.ref f14))) (l14 : K.lookup f14 = some ⟨oc14, od14, .func (PySem.W.fnOf "_law_bent" "_law_bent" (defArgs sBent) (defBody sBent) (defScope sBent) .none kV14 dc14 pm14 an14 cd14 ct14), sl14⟩) (c14x : PySem.W.codeIn K cd14 "_law_bent" = true) (k14 : PySem.W.keepIn K (.ref f14) = true)
    (a15 : PySem.W.nsIn K mainGlobals "_law_refused" = some (some (.ref f15))) (l15 : K.lookup f15 = some ⟨oc15, od15, .func (PySem.W.fnOf "_law_refused" "_law_refused" (defArgs sRefused) (defBody sRefused) (defScope sRefused) .none kV15 dc15 pm15 an15 cd15 ct15), sl15⟩) (c15x : PySem.W.codeIn K cd15 "_law_refused" = true) (k15 : PySem.W.keepIn K (.ref f15) = true)
    (a16 : PySem.W.nsIn K mainGlobals "law" = some (some (.ref f16))) (l16 : K.lookup f16 = some ⟨oc16, od16, .func (PySem.W.fnOf "law" "law" (defArgs sLaw) (defBody sLaw) (defScope sLaw) .none kV16 dc16 pm16 an16 (.ref c16) ct16), sl16⟩) (c16x : PySem.W.codeIn K (.ref c16) "law" = true) (k16 : PySem.W.keepIn K (.ref f16) = true)
    (z0 : PySem.W.nsIn K mainGlobals "len" = some none)
    (z1 : PySem.W.nsIn K mainGlobals "enumerate" = some none)
    (z2 : PySem.W.nsIn K mainGlobals "int" = some none)
    (z3 : PySem.W.nsIn K mainGlobals "abs" = some none)
    (z4 : PySem.W.nsIn K mainGlobals "str" = some none)
    (z5 : PySem.W.nsIn K mainGlobals "all" = some none)
    (z6 : PySem.W.nsIn K mainGlobals "zip" = some none)
    (z7 : PySem.W.nsIn K mainGlobals "isinstance" = some none)
    (z8 : PySem.W.nsIn K mainGlobals "range" = some none)
    (z9 : PySem.W.nsIn K mainGlobals "max" = some none)
    (z10 : PySem.W.nsIn K mainGlobals "min" = some none)
    (z11 : PySem.W.nsIn K mainGlobals "list" = some none)
    (z12 : PySem.W.nsIn K mainGlobals "ValueError" = some none)
    (wA : PySem.W.nsIn K mainGlobals "WORDS" = some (some (.ref wW)))
    (gA : PySem.W.nsIn K mainGlobals "ARGUMENTS" = some (some (.ref dD)))
    (gL : K.lookup dD = some ⟨.type "dict", none, .dict es nD, #[]⟩)
    (gK : PySem.W.KeysLit w.params es.toList)
    (gF : keysIn es.toList = true)
    (gS : (dD == sysModules) = false)
    (gD : PySem.W.nsIn K mainGlobals "NONE_TEXT" = some (some (.str "-" tD)))
    (g9 : PySem.W.nsIn K mainGlobals "MOST_DIGITS" = some (some (.int 9 t9)))
    (LW : K.lookup wW = some ⟨.type "tuple", dW, .seq #[.str "level" tW0, .str "edge" tW1, .str "once" tW2] nW, sW⟩)
    (E0 : PySem.W.nsIn K dD "new_source" = some (some (.ref q0)))
    (LA0 : K.lookup q0 = some ⟨.type "tuple", dA0, .seq #[.str "integer" tA0_0] nA0, sA0⟩)
    (E1 : PySem.W.nsIn K dD "new_set" = some (some (.ref q1)))
    (LA1 : K.lookup q1 = some ⟨.type "tuple", dA1, .seq #[.str "integer" tA1_0] nA1, sA1⟩)
    (E2 : PySem.W.nsIn K dD "copy" = some (some (.ref q2)))
    (LA2 : K.lookup q2 = some ⟨.type "tuple", dA2, .seq #[.str "integer" tA2_0, .str "integer" tA2_1, .str "optional" tA2_2] nA2, sA2⟩)
    (E3 : PySem.W.nsIn K dD "close" = some (some (.ref q3)))
    (LA3 : K.lookup q3 = some ⟨.type "tuple", dA3, .seq #[.str "integer" tA3_0, .str "integer" tA3_1] nA3, sA3⟩)
    (E4 : PySem.W.nsIn K dD "fork" = some (some (.ref q4)))
    (LA4 : K.lookup q4 = some ⟨.type "tuple", dA4, .seq #[.str "integer" tA4_0] nA4, sA4⟩)
    (E5 : PySem.W.nsIn K dD "end" = some (some (.ref q5)))
    (LA5 : K.lookup q5 = some ⟨.type "tuple", dA5, .seq #[.str "integer" tA5_0] nA5, sA5⟩)
    (E6 : PySem.W.nsIn K dD "arrive" = some (some (.ref q6)))
    (LA6 : K.lookup q6 = some ⟨.type "tuple", dA6, .seq #[.str "integer" tA6_0, .str "integer" tA6_1, .str "integer" tA6_2] nA6, sA6⟩)
    (E7 : PySem.W.nsIn K dD "finish" = some (some (.ref q7)))
    (LA7 : K.lookup q7 = some ⟨.type "tuple", dA7, .seq #[.str "integer" tA7_0, .str "integer" tA7_1] nA7, sA7⟩)
    (E8 : PySem.W.nsIn K dD "read" = some (some (.ref q8)))
    (LA8 : K.lookup q8 = some ⟨.type "tuple", dA8, .seq #[.str "integer" tA8_0, .str "integer" tA8_1, .str "optional" tA8_2] nA8, sA8⟩)
    (E9 : PySem.W.nsIn K dD "add" = some (some (.ref q9)))
    (LA9 : K.lookup q9 = some ⟨.type "tuple", dA9, .seq #[.str "integer" tA9_0, .str "integer" tA9_1, .str "integer" tA9_2, .str "integer" tA9_3, .str "word" tA9_4] nA9, sA9⟩)
    (E10 : PySem.W.nsIn K dD "change" = some (some (.ref q10)))
    (LA10 : K.lookup q10 = some ⟨.type "tuple", dA10, .seq #[.str "integer" tA10_0, .str "integer" tA10_1, .str "integer" tA10_2, .str "word" tA10_3] nA10, sA10⟩)
    (E11 : PySem.W.nsIn K dD "remove" = some (some (.ref q11)))
    (LA11 : K.lookup q11 = some ⟨.type "tuple", dA11, .seq #[.str "integer" tA11_0, .str "integer" tA11_1, .str "integer" tA11_2] nA11, sA11⟩)
    (E12 : PySem.W.nsIn K dD "wait" = some (some (.ref q12)))
    (LA12 : K.lookup q12 = some ⟨.type "tuple", dA12, .seq #[.str "integer" tA12_0, .str "integer" tA12_1, .str "integer" tA12_2] nA12, sA12⟩)
    (E13 : PySem.W.nsIn K dD "numbers" = some (some (.ref q13)))
    (LA13 : K.lookup q13 = some ⟨.type "tuple", dA13, .seq #[.str "integer" tA13_0] nA13, sA13⟩)
    (E14 : PySem.W.nsIn K dD "same" = some (some (.ref q14)))
    (LA14 : K.lookup q14 = some ⟨.type "tuple", dA14, .seq #[.str "integer" tA14_0, .str "integer" tA14_1, .str "integer" tA14_2, .str "integer" tA14_3] nA14, sA14⟩)
    (E15 : PySem.W.nsIn K dD "units" = some (some (.ref q15)))
    (LA15 : K.lookup q15 = some ⟨.type "tuple", dA15, .seq #[.str "integer" tA15_0, .str "integer" tA15_1] nA15, sA15⟩)
    (aC : PySem.W.nsIn K mainGlobals "BadText" = some (some (.ref C)))
    (xL : K.lookup C = some (excClassObj nm q C N bs [.type "ValueError", .type "Exception", .type "BaseException", .type "object"] true sn sub ab col dd mm0 mm1 mm2 mm3 mm5 "ValueError.__new__"))
    (sa : PySem.W.findIn K (.ref C) "__setattr__" = some (some (.builtin "object.__setattr__")))
    (ga : PySem.W.findIn K (.ref C) "__getattribute__" = some (some (.builtin "BaseException.__getattribute__")))
    (gg : PySem.W.findIn K (.ref C) "__getattr__" = some none)
    (nb : PySem.W.findIn K (.ref C) "line" = some none)
    (vV : PySem.W.findCls K (.type "ValueError") (.type "type") "__init__" = some (.val (.builtin "ValueError.__init__")))
    (aI : PySem.W.findIn K (.ref C) "__init__" = some (some (.ref fI)))
    (tI : PySem.W.typeIn K (.ref fI) = some (.type "function"))
    (lI : K.lookup fI = some ⟨ocI, odI, .func (PySem.W.fnOf "__init__" "BadText.__init__" (defArgs sInit) (defBody sInit) (defScope sInit) .none kVI dcI pmI anI cdI ctI), slI⟩)
    (cI : PySem.W.codeIn K cdI "BadText.__init__" = true)
    (kI : PySem.W.keepIn K (.ref fI) = true)
    (kC : PySem.W.keepIn K (.ref C) = true)
    (eC : PySem.W.subIn K (.ref C) (.type "BaseException") = some true)
    (tC : PySem.W.typeIn K (.ref C) = some (.type "type"))
    (hC : PySem.W.hasDictIn K C = true)
    (te : PySem.W.exmOne K (.ref C) (.ref C) = some true)
    (xC1 : PySem.W.findIn K (.ref C) "__class__" = some (some (.builtin "object.__class__")))
    (xC2 : PySem.W.specialIn K (.builtin "object.__class__") "__get__" = some (some (.builtin "getset_descriptor.__get__")))
    (xC3 : PySem.W.takesIn K (.builtin "object.__class__") = some true)
    (xC4 : PySem.W.mroIn K C (.type "object") = some true)
    (xC5 : (PySem.W.clsIn K C).isSome = true)
    (kv : PySem.W.kitOne K (.ref C) (.type "ValueError") = some true)
    (hd : PySem.W.codeHdIn K c16 Pt = true)
    (b3x : mainGlobals ≠ Pt) :
    ∃ fd : FuncData, (∀ (s : Shared) (u : Value), BindsTo s fd ⟨[u], []⟩ [("_law_script", u)]) ∧ (∀ base : Heap, K.In base → base.Ns mainGlobals mg → base.BuiltinsAt mg Pt → FnOk P w K mg base CX0 7 fa fd ["_law_script"] (spLaw K Pt)) ∧
      ∀ (H : Hp) (a : Addr) (ns : List Int), ns.length ≤ 63 → SqL K H a (ns.map V.int) → H Pt = some (.tbl #[]) → spLaw K Pt [.ref a] H (fun v _ => v = .bl true) fun _ _ _ => False := by
  have e := hfa.symm.trans (PySem.W.mg_of X G a16)
  cases e
  have F1 := fun_mk (st := sIsWord) l1 c1x k1
  have m1 := PySem.W.mg_of X G a1
  have b1 := F1.binds (ps := ["x"]) fun _ _ _ _ _ _ us hl => match us, hl with | [_], _ => rfl
  have F2 := fun_mk (st := sIsInt) l2 c2x k2
  have m2 := PySem.W.mg_of X G a2
  have b2 := F2.binds (ps := ["text"]) fun _ _ _ _ _ _ us hl => match us, hl with | [_], _ => rfl
  have F3 := fun_mk (st := sIsArg) l3 c3x k3
  have m3 := PySem.W.mg_of X G a3
  have b3 := F3.binds (ps := ["kind", "text"]) fun _ _ _ _ _ _ us hl => match us, hl with | [_, _], _ => rfl
  have F4 := fun_mk (st := sReadArg) l4 c4x k4
  have m4 := PySem.W.mg_of X G a4
  have b4 := F4.binds (ps := ["kind", "text"]) fun _ _ _ _ _ _ us hl => match us, hl with | [_, _], _ => rfl
  have F5 := fun_mk (st := sCallOrNone) l5 c5x k5
  have m5 := PySem.W.mg_of X G a5
  have b5 := F5.binds (ps := ["text"]) fun _ _ _ _ _ _ us hl => match us, hl with | [_], _ => rfl
  have F6 := fun_mk (st := sReadCall) l6 c6x k6
  have m6 := PySem.W.mg_of X G a6
  have b6 := F6.binds (ps := ["text"]) fun _ _ _ _ _ _ us hl => match us, hl with | [_], _ => rfl
  have F7 := fun_mk (st := sReadCalls) l7 c7x k7
  have m7 := PySem.W.mg_of X G a7
  have b7 := F7.binds (ps := ["text"]) fun _ _ _ _ _ _ us hl => match us, hl with | [_], _ => rfl
  have F8 := fun_mk (st := sBag) l8 c8x k8
  have m8 := PySem.W.mg_of X G a8
  have b8 := F8.binds (ps := ["_law_script", "_law_at"]) fun _ _ _ _ _ _ us hl => match us, hl with | [_, _], _ => rfl
  have F9 := fun_mk (st := sTake) l9 c9x k9
  have m9 := PySem.W.mg_of X G a9
  have b9 := F9.binds (ps := ["_law_bag_here", "_law_many"]) fun _ _ _ _ _ _ us hl => match us, hl with | [_, _], _ => rfl
  have F10 := fun_mk (st := sOf) l10 c10x k10
  have m10 := PySem.W.mg_of X G a10
  have b10 := F10.binds (ps := ["_law_bag_here", "_law_some"]) fun _ _ _ _ _ _ us hl => match us, hl with | [_, _], _ => rfl
  have F11 := fun_mk (st := sIsNum) l11 c11x k11
  have m11 := PySem.W.mg_of X G a11
  have b11 := F11.binds (ps := ["_law_word"]) fun _ _ _ _ _ _ us hl => match us, hl with | [_], _ => rfl
  have F12 := fun_mk (st := sIsCall) l12 c12x k12
  have m12 := PySem.W.mg_of X G a12
  have b12 := F12.binds (ps := ["_law_line_here"]) fun _ _ _ _ _ _ us hl => match us, hl with | [_], _ => rfl
  have F13 := fun_mk (st := sLine) l13 c13x k13
  have m13 := PySem.W.mg_of X G a13
  have b13 := F13.binds (ps := ["_law_bag_here"]) fun _ _ _ _ _ _ us hl => match us, hl with | [_], _ => rfl
  have F14 := fun_mk (st := sBent) l14 c14x k14
  have m14 := PySem.W.mg_of X G a14
  have b14 := F14.binds (ps := ["_law_bag_here", "_law_line_here"]) fun _ _ _ _ _ _ us hl => match us, hl with | [_, _], _ => rfl
  have F15 := fun_mk (st := sRefused) l15 c15x k15
  have m15 := PySem.W.mg_of X G a15
  have b15 := F15.binds (ps := ["_law_deed"]) fun _ _ _ _ _ _ us hl => match us, hl with | [_], _ => rfl
  have F16 := fun_mk (st := sLaw) l16 c16x k16
  have m16 := PySem.W.mg_of X G a16
  have b16 := F16.binds (ps := ["_law_script"]) fun _ _ _ _ _ _ us hl => match us, hl with | [_], _ => rfl
  have DT : DrawTxt mg := ⟨(PySem.W.mg_none_of X G z0), (PySem.W.mg_none_of X G z1), (PySem.W.mg_none_of X G z2), (PySem.W.mg_none_of X G z3)⟩
  have FR : LawFr mg := ⟨(PySem.W.mg_none_of X G z8), (PySem.W.mg_none_of X G z9), (PySem.W.mg_none_of X G z10), (PySem.W.mg_none_of X G z0)⟩
  have LT : LawTxt mg := ⟨(PySem.W.mg_none_of X G z11), (PySem.W.mg_none_of X G z0), (PySem.W.mg_none_of X G z4)⟩
  have tup : ∀ {q : Addr} {dd : Option Addr} {its : Array Value} {n : Nat} {sl : Array (Option Value)} {xs : List Str}, K.lookup q = some ⟨.type "tuple", dd, .seq its n, sl⟩ → its.size ≤ sizeLine → Vals (xs.map V.str) its.toList → ∀ H, SqT K H q (xs.map V.str) := fun e hz hv H => .inr ⟨_, _, _, e, rfl, rfl, hz, hv⟩
  have CT : CallTxt K w mg := by
    refine ⟨⟨wW, PySem.W.mg_of X G wA, tup (xs := wordsL) LW (by show 3 ≤ sizeLine; decide) (.cons ⟨_, rfl⟩ (.cons ⟨_, rfl⟩ (.cons ⟨_, rfl⟩ .nil)))⟩, ⟨dD, es, nD, PySem.W.mg_of X G gA, ⟨gL, gK, gS⟩, fun p hp => ?_⟩, ⟨tD, PySem.W.mg_of X G gD⟩, ⟨t9, PySem.W.mg_of X G g9⟩, (PySem.W.mg_none_of X G z0), (PySem.W.mg_none_of X G z4), (PySem.W.mg_none_of X G z2), (PySem.W.mg_none_of X G z5), (PySem.W.mg_none_of X G z6), (PySem.W.mg_none_of X G z1), (PySem.W.mg_none_of X G z7)⟩
    simp only [kindsL, List.mem_cons, List.not_mem_nil, or_false] at hp
    rcases hp with rfl | rfl | rfl | rfl | rfl | rfl | rfl | rfl | rfl | rfl | rfl | rfl | rfl | rfl | rfl | rfl
    · exact ⟨q0, E0, tup (xs := ["integer"]) LA0 (by show 1 ≤ sizeLine; decide) (.cons ⟨_, rfl⟩ .nil)⟩
    · exact ⟨q1, E1, tup (xs := ["integer"]) LA1 (by show 1 ≤ sizeLine; decide) (.cons ⟨_, rfl⟩ .nil)⟩
    · exact ⟨q2, E2, tup (xs := ["integer", "integer", "optional"]) LA2 (by show 3 ≤ sizeLine; decide) (.cons ⟨_, rfl⟩ (.cons ⟨_, rfl⟩ (.cons ⟨_, rfl⟩ .nil)))⟩
    · exact ⟨q3, E3, tup (xs := ["integer", "integer"]) LA3 (by show 2 ≤ sizeLine; decide) (.cons ⟨_, rfl⟩ (.cons ⟨_, rfl⟩ .nil))⟩
    · exact ⟨q4, E4, tup (xs := ["integer"]) LA4 (by show 1 ≤ sizeLine; decide) (.cons ⟨_, rfl⟩ .nil)⟩
    · exact ⟨q5, E5, tup (xs := ["integer"]) LA5 (by show 1 ≤ sizeLine; decide) (.cons ⟨_, rfl⟩ .nil)⟩
    · exact ⟨q6, E6, tup (xs := ["integer", "integer", "integer"]) LA6 (by show 3 ≤ sizeLine; decide) (.cons ⟨_, rfl⟩ (.cons ⟨_, rfl⟩ (.cons ⟨_, rfl⟩ .nil)))⟩
    · exact ⟨q7, E7, tup (xs := ["integer", "integer"]) LA7 (by show 2 ≤ sizeLine; decide) (.cons ⟨_, rfl⟩ (.cons ⟨_, rfl⟩ .nil))⟩
    · exact ⟨q8, E8, tup (xs := ["integer", "integer", "optional"]) LA8 (by show 3 ≤ sizeLine; decide) (.cons ⟨_, rfl⟩ (.cons ⟨_, rfl⟩ (.cons ⟨_, rfl⟩ .nil)))⟩
    · exact ⟨q9, E9, tup (xs := ["integer", "integer", "integer", "integer", "word"]) LA9 (by show 5 ≤ sizeLine; decide) (.cons ⟨_, rfl⟩ (.cons ⟨_, rfl⟩ (.cons ⟨_, rfl⟩ (.cons ⟨_, rfl⟩ (.cons ⟨_, rfl⟩ .nil)))))⟩
    · exact ⟨q10, E10, tup (xs := ["integer", "integer", "integer", "word"]) LA10 (by show 4 ≤ sizeLine; decide) (.cons ⟨_, rfl⟩ (.cons ⟨_, rfl⟩ (.cons ⟨_, rfl⟩ (.cons ⟨_, rfl⟩ .nil))))⟩
    · exact ⟨q11, E11, tup (xs := ["integer", "integer", "integer"]) LA11 (by show 3 ≤ sizeLine; decide) (.cons ⟨_, rfl⟩ (.cons ⟨_, rfl⟩ (.cons ⟨_, rfl⟩ .nil)))⟩
    · exact ⟨q12, E12, tup (xs := ["integer", "integer", "integer"]) LA12 (by show 3 ≤ sizeLine; decide) (.cons ⟨_, rfl⟩ (.cons ⟨_, rfl⟩ (.cons ⟨_, rfl⟩ .nil)))⟩
    · exact ⟨q13, E13, tup (xs := ["integer"]) LA13 (by show 1 ≤ sizeLine; decide) (.cons ⟨_, rfl⟩ .nil)⟩
    · exact ⟨q14, E14, tup (xs := ["integer", "integer", "integer", "integer"]) LA14 (by show 4 ≤ sizeLine; decide) (.cons ⟨_, rfl⟩ (.cons ⟨_, rfl⟩ (.cons ⟨_, rfl⟩ (.cons ⟨_, rfl⟩ .nil))))⟩
    · exact ⟨q15, E15, tup (xs := ["integer", "integer"]) LA15 (by show 2 ≤ sizeLine; decide) (.cons ⟨_, rfl⟩ (.cons ⟨_, rfl⟩ .nil))⟩
  have FI := fun_mk (st := sInit) lI cI kI
  have bI := FI.binds (ps := ["self", "line"]) fun _ _ _ _ _ _ us hl => match us, hl with | [_, _], _ => rfl
  have TE : ErrTxt K mg C fI _ := { gC := PySem.W.mg_of X G aC, oex := ⟨⟨nm, q, N, bs, _, sn, sub, ab, col, dd, mm0, mm1, mm2, mm3, mm5, xL, by decide +kernel⟩, sa, eC, tC, kC⟩, noN := nb, gV := (PySem.W.mg_none_of X G z12), vV := vV, iC := aI, tI := tI, fn := FI, bI := bI, te := te, xf := ⟨ga, gg, eC, hC⟩ }
  have R : RefTxt K mg C fI _ f15 _ := ⟨F15, m15, b15, TE, (PySem.W.mg_none_of X G z7), ⟨ga, gg, eC, hC, xC1, xC2, xC3, xC4⟩, xC5, kv⟩
  have Un : ∀ d, mg "ARGUMENTS" = some (.ref d) → ∀ name, (∀ ks, (name, ks) ∉ kindsL) → PySem.W.nsIn K d name = some none := fun d hd name hn => by
    have e := (PySem.W.mg_of X G gA).symm.trans hd
    cases e
    exact unk_of gL gF hn
  refine ⟨PySem.W.fnOf "law" "law" (defArgs sLaw) (defBody sLaw) (defScope sLaw) .none kV16 dc16 pm16 an16 (.ref c16) ct16, fun s u => .of_eq rfl, fun base KB GBs BM => ?_, ?_⟩
  · have TB : LamX.TabB base mg c16 Pt := ⟨PySem.W.codeHd_of_K KB hd, BM, b3x⟩
    have GB := okBag (P := P) (w := w) (base := base) F8 DT
    have GT := okTake (P := P) (w := w) (K := K) (base := base) F9 DT
    have GO := okOf (P := P) (w := w) (base := base) F10 DT F9 m9 b9
    have GN := okIsNum (P := P) (w := w) (base := base) F11 LT
    have GI := okIsCall (P := P) (w := w) (base := base) F12 LT GN k11 m11 b11
    have GL := okLn (P := P) (w := w) (base := base) F13 LT GT k9 m9 b9 GO k10 m10 b10
    have GX := okBent (P := P) (w := w) (base := base) F14 LT GT k9 m9 b9 GO k10 m10 b10
    have GA := okIsArg (P := P) (w := w) (base := base) F3 CT F1 m1 b1 F2 m2 b2
    have GR := okReadArg (P := P) (w := w) (base := base) F4 CT
    have GLn := okLine (P := P) (w := w) (base := base) F5 CT GA k3 m3 b3 GR k4 m4 b4
    have G1 := okReadCall (P := P) (w := w) (base := base) F6 CT TE GLn k5 m5 b5
    have Gs := okReadCalls (P := P) (w := w) (base := base) F7 CT TE GLn k5 m5 b5
    exact okLaw F16 rfl FR R TB Un G1 k6 m6 b6 Gs k7 m7 b7 GB k8 m8 b8 GT k9 m9 b9 GL k13 m13 b13 GX k14 m14 b14 GI k12 m12 b12
  · exact fun H a ns hl hS hP => ⟨a, ns, rfl, hS, hl, hP, fun _ => rfl⟩
end Wn

open PySem PySem.W PyProof.Rows in
set_option maxRecDepth 100000 in
set_option maxHeartbeats 0 in
theorem PySem.Challenge.cw_waitnumbers_k26_texts_refused_holds : PySem.Challenge.rw_waitnumbers_k26_texts_refused.Holds := by
  w_on; o_law; k_head; (case hw => w_witness2)
  k_fill
  refine Wn.walkT (l := PySem.Challenge.rw_waitnumbers_k26_texts_refused) (n := 63) (k := 7) (x := "_law_script") (Pt := 153) (sp := fun K _ => Wn.spLaw K 153) rfl (by decide) rfl ⟨rfl, by decide, by decide⟩ (fun w h Y => PySem.W.km_in_of Y) (fun w h Y => PySem.W.km_tabs_of Y 153 (List.mem_singleton.mpr rfl)) ?nT ?tT ?F
  case F =>
    intro w mg fa h KX G hmg
    refine' Wn.all_mk (w := w) KX G hmg ?a1 ?l1 ?c1x ?k1 ?a2 ?l2 ?c2x ?k2 ?a3 ?l3 ?c3x ?k3 ?a4 ?l4 ?c4x ?k4 ?a5 ?l5 ?c5x ?k5 ?a6 ?l6 ?c6x ?k6 ?a7 ?l7 ?c7x ?k7 ?a8 ?l8 ?c8x ?k8 ?a9 ?l9 ?c9x ?k9 ?a10 ?l10 ?c10x ?k10 ?a11 ?l11 ?c11x ?k11 ?a12 ?l12 ?c12x ?k12 ?a13 ?l13 ?c13x ?k13 ?a14 ?l14 ?c14x ?k14 ?a15 ?l15 ?c15x ?k15 ?a16 ?l16 ?c16x ?k16 ?z0 ?z1 ?z2 ?z3 ?z4 ?z5 ?z6 ?z7 ?z8 ?z9 ?z10 ?z11 ?z12 ?wA ?gA ?gL ?gK ?gF ?gS ?gD ?g9 ?LW ?E0 ?LA0 ?E1 ?LA1 ?E2 ?LA2 ?E3 ?LA3 ?E4 ?LA4 ?E5 ?LA5 ?E6 ?LA6 ?E7 ?LA7 ?E8 ?LA8 ?E9 ?LA9 ?E10 ?LA10 ?E11 ?LA11 ?E12 ?LA12 ?E13 ?LA13 ?E14 ?LA14 ?E15 ?LA15 ?aC ?xL ?sa ?ga ?gg ?nb ?vV ?aI ?tI ?lI ?cI ?kI ?kC ?eC ?tC ?hC ?te ?xC1 ?xC2 ?xC3 ?xC4 ?xC5 ?kv ?hd ?b3x
    (case a1 => k_is)
    (case l1 => k_is)
    (case c1x => k_is)
    (case k1 => k_is)
    (case a2 => k_is)
    (case l2 => k_is)
    (case c2x => k_is)
    (case k2 => k_is)
    (case a3 => k_is)
    (case l3 => k_is)
    (case c3x => k_is)
    (case k3 => k_is)
    (case a4 => k_is)
    (case l4 => k_is)
    (case c4x => k_is)
    (case k4 => k_is)
    (case a5 => k_is)
    (case l5 => k_is)
    (case c5x => k_is)
    (case k5 => k_is)
    (case a6 => k_is)
    (case l6 => k_is)
    (case c6x => k_is)
    (case k6 => k_is)
    (case a7 => k_is)
    (case l7 => k_is)
    (case c7x => k_is)
    (case k7 => k_is)
    (case a8 => k_is)
    (case l8 => k_is)
    (case c8x => k_is)
    (case k8 => k_is)
    (case a9 => k_is)
    (case l9 => k_is)
    (case c9x => k_is)
    (case k9 => k_is)
    (case a10 => k_is)
    (case l10 => k_is)
    (case c10x => k_is)
    (case k10 => k_is)
    (case a11 => k_is)
    (case l11 => k_is)
    (case c11x => k_is)
    (case k11 => k_is)
    (case a12 => k_is)
    (case l12 => k_is)
    (case c12x => k_is)
    (case k12 => k_is)
    (case a13 => k_is)
    (case l13 => k_is)
    (case c13x => k_is)
    (case k13 => k_is)
    (case a14 => k_is)
    (case l14 => k_is)
    (case c14x => k_is)
    (case k14 => k_is)
    (case a15 => k_is)
    (case l15 => k_is)
    (case c15x => k_is)
    (case k15 => k_is)
    (case a16 => k_is)
    (case l16 => k_is)
    (case c16x => k_is)
    (case k16 => k_is)
    (case z0 => k_is)
    (case z1 => k_is)
    (case z2 => k_is)
    (case z3 => k_is)
    (case z4 => k_is)
    (case z5 => k_is)
    (case z6 => k_is)
    (case z7 => k_is)
    (case z8 => k_is)
    (case z9 => k_is)
    (case z10 => k_is)
    (case z11 => k_is)
    (case z12 => k_is)
    (case wA => k_is)
    (case gA => k_is)
    (case gL => k_is)
    (case gK => simp only [PySem.W.KeysLit]; repeat' (first | exact trivial | refine ⟨⟨_, _, rfl, rfl⟩, ?_⟩))
    (case gF => exact rfl)
    (case gS => exact rfl)
    (case gD => k_is)
    (case g9 => k_is)
    (case LW => k_is)
    (case E0 => k_is)
    (case LA0 => k_is)
    (case E1 => k_is)
    (case LA1 => k_is)
    (case E2 => k_is)
    (case LA2 => k_is)
    (case E3 => k_is)
    (case LA3 => k_is)
    (case E4 => k_is)
    (case LA4 => k_is)
    (case E5 => k_is)
    (case LA5 => k_is)
    (case E6 => k_is)
    (case LA6 => k_is)
    (case E7 => k_is)
    (case LA7 => k_is)
    (case E8 => k_is)
    (case LA8 => k_is)
    (case E9 => k_is)
    (case LA9 => k_is)
    (case E10 => k_is)
    (case LA10 => k_is)
    (case E11 => k_is)
    (case LA11 => k_is)
    (case E12 => k_is)
    (case LA12 => k_is)
    (case E13 => k_is)
    (case LA13 => k_is)
    (case E14 => k_is)
    (case LA14 => k_is)
    (case E15 => k_is)
    (case LA15 => k_is)
    (case aC => k_is)
    (case xL => k_is)
    (case sa => k_is)
    (case ga => k_is)
    (case gg => k_is)
    (case nb => k_is)
    (case vV => first | k_is | rfl)
    (case aI => k_is)
    (case tI => k_is)
    (case lI => k_is)
    (case cI => k_is)
    (case kI => k_is)
    (case kC => k_is)
    (case eC => k_is)
    (case tC => k_is)
    (case hC => first | k_is | rfl)
    (case te => first | k_is | rfl)
    (case xC1 => k_is)
    (case xC2 => first | k_is | rfl)
    (case xC3 => first | k_is | rfl)
    (case xC4 => first | k_is | rfl)
    (case xC5 => first | k_is | rfl)
    (case kv => first | k_is | rfl)
    (case hd => first | k_is | rfl)
    (case b3x => decide)
  case nT => exact fun w => rfl
  case tT => exact fun w h KX => Wn.isct KX (c := 155) (by first | k_is | rfl)

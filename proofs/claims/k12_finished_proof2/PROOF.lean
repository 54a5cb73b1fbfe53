import PyProof.Rows.All
import Wide.All
import OpenK.AllK
import Wide.FinOn
import HandS.ForMost
import HandS.Wide
import HandS.Evl
import HandS.Walk
import HandS.NoneIn
import HandS.IsInst
import HandS.More
import HandS.Defaults
import HandS.MakeKwOnly
import HandS.Conv
import HandS.Style
import HandS.OwnEq
import HandS.Flow
import PySem.Challenge.RW_waitnumbers_k12_finished_sources
set_option Elab.async false
set_option linter.all false
set_option maxRecDepth 100000
set_option maxHeartbeats 4000000
namespace Wn
open PySem PySem.Spec PyProof.Rows L2 Evl
def top (i : Nat) : Stmt := PySem.Challenge.pw_waitnumbers_k12_finished_sources.main.body.getD i (.Pass ⟨0, 0, 0, 0⟩)
abbrev sBag : Stmt := top 33
abbrev sTake : Stmt := top 34
abbrev sOf : Stmt := top 35
/-! readings with names -/
def rInt1 : List V → Hp → VK → Prop := fun xs H Q => (∃ i, xs = [.int i] ∧ Q (.int i) H) ∨ ∃ k, xs = [.bl k] ∧ Q (.int (if k = true then 1 else 0)) H
def rAbs : List V → Hp → VK → Prop := fun xs H Q => ∃ i, xs = [.int i] ∧ Q (.int (if i < 0 then -i else i)) H
theorem cInt1 {X : Cx} : CallR X (.type "int") rInt1 := call_int1
theorem cAbs {X : Cx} : CallR X (.builtin "abs") rAbs := call_abs
def rIsN : R2 := fun x y H Q => y = .non ∧ Q (.bl (decide (x = .non))) H
def rNotN : R2 := fun x y H Q => y = .non ∧ Q (.bl (!decide (x = .non))) H
def rAddS : R2 := fun x y H Q => ∃ i j, x = .str i ∧ y = .str j ∧ i.length + j.length ≤ sizeLine ∧ Q (.str (i ++ j)) H
def rLenQ (K : PySem.W.Frag) : List V → Hp → VK → Prop := fun xs H Q => ∃ p ys, xs = [.ref p] ∧ (SqL K H p ys ∨ SqT K H p ys) ∧ Q (.int ys.length) H
def rLenS : List V → Hp → VK → Prop := fun xs H Q => ∃ z, xs = [.str z] ∧ z.length ≤ sizeLine ∧ Q (.int z.length) H
def rMax2 : List V → Hp → VK → Prop := fun xs H Q => ∃ i j, xs = [.int i, .int j] ∧ Q (.int (if j > i then j else i)) H
def rMin2 : List V → Hp → VK → Prop := fun xs H Q => ∃ i j, xs = [.int i, .int j] ∧ Q (.int (if j < i then j else i)) H
theorem oIsN {X : Cx} : OpR X (compareOp .Is) rIsN := op_isN
theorem oNotN {X : Cx} : OpR X (compareOp .IsNot) rNotN := op_notN
theorem oAddS {X : Cx} : OpR X (binaryOp .Add) rAddS := op_add_str
theorem cLenQ {X : Cx} : CallR X (.builtin "len") (rLenQ X.K) := call_len_seq
theorem cLenS {X : Cx} : CallR X (.builtin "len") rLenS := call_len_str
theorem cMax2 {X : Cx} (hc : X.calm = true) : CallR X (.builtin "max") rMax2 := call_max2 hc
theorem cMin2 {X : Cx} (hc : X.calm = true) : CallR X (.builtin "min") rMin2 := call_min2 hc
/-! one step of a reading -/
section
variable {σ : L2.St} {H : Hp} {Q : VK} {ta tb te : TE} {tl : TA} {t u : TS} {D : Ends} {c : TT} {r : R2} {v : V} {i : Nat}
theorem g_var (h : σ[i]? = some (some v)) (q : Q v H) : tVar i σ H Q := ⟨v, h, q⟩
theorem g_c (q : Q v H) : tC v σ H Q := q
theorem g_op (q : ta σ H fun x H1 => tb σ H1 fun y H2 => r x y H2 Q) : tOp r ta tb σ H Q := q
theorem g_un {r : V → Hp → VK → Prop} (q : ta σ H fun x H1 => r x H1 Q) : tUn r ta σ H Q := q
theorem g_rI0 {g : Int → Int → V} {a b : Int} (q : Q (g a b) H) : rI0 g (.int a) (.int b) H Q := ⟨a, b, rfl, rfl, q⟩
theorem g_rI {C : Int → Int → Prop} {g : Int → Int → V} {a b : Int} (hc : C a b) (q : Q (g a b) H) : rI C g (.int a) (.int b) H Q := ⟨a, b, rfl, rfl, hc, q⟩
theorem g_mul {a b : Int} (h : (-(2 ^ 64) < a ∧ a < 2 ^ 64) ∨ (-(2 ^ 64) < b ∧ b < 2 ^ 64)) (q : Q (.int (a * b)) H) : rI CMul (fun i j => .int (i * j)) (.int a) (.int b) H Q := ⟨a, b, rfl, rfl, h, q⟩
theorem g_mod {a b : Int} (h : 0 < b) (q : Q (.int (a % b)) H) : rI (fun _ j => 0 < j) (fun i j => .int (i % j)) (.int a) (.int b) H Q := ⟨a, b, rfl, rfl, h, q⟩
theorem g_rEq {x y : V} (h : scal x y = true) (q : Q (.bl (decide (x = y))) H) : rEq x y H Q := ⟨h, q⟩
theorem g_rNe {x y : V} (h : scal x y = true) (q : Q (.bl (!decide (x = y))) H) : rNe x y H Q := ⟨h, q⟩
theorem g_asg {g : TG} (q : te σ H fun x H1 => g x σ H1 D.nx) : tAsg te g D σ H := q
theorem g_name {k : L2.St → Hp → Prop} (q : k (σ.set i (some v)) H) : gName i v σ H k := q
theorem g_seq (q : t { D with nx := u D } σ H) : tSeq t u D σ H := q
theorem g_ret (q : te σ H D.rt) : tRet te D σ H := q
theorem g_retN (q : D.rt .non H) : tRetN D σ H := q
theorem g_next (q : D.nx σ H) : tNext D σ H := q
theorem g_drop (q : te σ H fun _ H1 => D.nx σ H1) : tDrop te D σ H := q
theorem g_nil {k : List V → Hp → Prop} (q : k [] H) : tNil σ H k := q
theorem g_cons {k : List V → Hp → Prop} (q : ta σ H fun x H1 => tl σ H1 fun xs H2 => k (x :: xs) H2) : tCons ta tl σ H k := q
theorem g_cb {r : List V → Hp → VK → Prop} (q : tl σ H fun vs H1 => r vs H1 Q) : tCB r tl σ H Q := q
theorem g_test {k : Bool → Hp → Prop} (q : te σ H fun x H1 => ∃ b, x = .bl b ∧ k b H1) : tTest te σ H k := q
theorem g_tB {k : Bool → Hp → Prop} (q : te σ H fun x H1 => ∃ b, x = .bl b ∧ k b H1) : tB te σ H k := q
theorem g_bl {b : Bool} {k : Bool → Prop} (q : k b) : ∃ z, V.bl b = .bl z ∧ k z := ⟨b, rfl, q⟩
theorem g_if (q : c σ H fun b H1 => if b = true then ta σ H1 Q else tb σ H1 Q) : tIf c ta tb σ H Q := q
theorem g_ifs (q : c σ H fun b H1 => if b = true then t D σ H1 else u D σ H1) : tIfS c t u D σ H := q
theorem g_not {k : Bool → Hp → Prop} (q : c σ H fun b H1 => k (!b) H1) : tNot c σ H k := q
theorem g_part {k : Option Int → Hp → Prop} (q : te σ H fun x H1 => ∃ z, x = .int z ∧ k (some z) H1) : tPart te σ H k := q
theorem g_pint {z : Int} {k : Int → Prop} (q : k z) : ∃ y, V.int z = .int y ∧ k y := ⟨z, rfl, q⟩
theorem g_lst (q : tl σ H fun xs H1 => xs.length ≤ sizeLine ∧ ∀ p, H1 p = none → Q (.ref p) (upd H1 p (.lst xs))) : tLst tl σ H Q := q
theorem g_tup (q : tl σ H fun xs H1 => xs.length ≤ sizeLine ∧ ∀ p, H1 p = none → Q (.ref p) (upd H1 p (.tup xs))) : tTup tl σ H Q := q
theorem g_ixL {K : PySem.W.Frag} {p : Addr} {xs : List V} {z : Int} (h : H p = some (.lst xs)) (a : atI xs z = some v) (q : Q v H) : rIxL K (.ref p) (.int z) H Q := ⟨p, xs, z, v, rfl, rfl, SqL.of h, a, q⟩
theorem cdivw_of {a b : Int} (h0 : 0 < b) (h1 : b < 4611686018427387904) : CDivW a b := wide_div (b := 62) h0 (by omega) (by decide) (by decide)
theorem g_div {a b : Int} (h0 : 0 < b) (h1 : b < 4611686018427387904) (q : Q (.int (a / b)) H) : rI CDivW (fun i j => .int (i / j)) (.int a) (.int b) H Q := ⟨a, b, rfl, rfl, cdivw_of h0 h1, q⟩
theorem g_sub {to ti : TE} {ts : TSet} {k : L2.St → Hp → Prop} (q : to σ H fun o H1 => ti σ H1 fun i H2 => ts o i v H2 fun H3 => k σ H3) : gSub to ti ts v σ H k := q
theorem g_setL {p : Addr} {xs : List V} {z : Int} {j : Nat} {k : Hp → Prop} (h : H p = some (.lst xs)) (a : ixN xs.length z = some j) (q : k (upd H p (.lst (xs.set j v)))) : rSetL (.ref p) (.int z) v H k := ⟨p, xs, z, j, rfl, rfl, h, a, q⟩
theorem g_nopart {k : Option Int → Hp → Prop} (q : k none H) : tNoPart σ H k := q
theorem g_call {sp : Sp} {dvs : List V} {E : XK} (q : tl σ H fun vs H1 => sp (vs ++ dvs) H1 Q E) : tCall sp dvs E tl σ H Q := q
theorem g_rint (z : Int) (q : Q (.int z) H) : rInt1 [.int z] H Q := .inl ⟨z, rfl, q⟩
theorem g_rabs {z : Int} (q : Q (.int (if z < 0 then -z else z)) H) : rAbs [.int z] H Q := ⟨z, rfl, q⟩
theorem g_sl {r : V → Option Int → Option Int → Hp → VK → Prop} {a b : TO} (q : te σ H fun x H1 => a σ H1 fun l H2 => b σ H2 fun h H3 => r x l h H3 Q) : tSl r te a b σ H Q := q
theorem g_rIsN {x : V} (q : Q (.bl (decide (x = .non))) H) : rIsN x .non H Q := ⟨rfl, q⟩
theorem g_rNotN {x : V} (q : Q (.bl (!decide (x = .non))) H) : rNotN x .non H Q := ⟨rfl, q⟩
theorem g_lenL {K : PySem.W.Frag} {p : Addr} {xs : List V} (h : H p = some (.lst xs)) (q : Q (.int xs.length) H) : rLenQ K [.ref p] H Q := ⟨p, xs, rfl, .inl (SqL.of h), q⟩
theorem g_max2 {a b : Int} (q : Q (.int (if b > a then b else a)) H) : rMax2 [.int a, .int b] H Q := ⟨a, b, rfl, q⟩
theorem g_min2 {a b : Int} (q : Q (.int (if b < a then b else a)) H) : rMin2 [.int a, .int b] H Q := ⟨a, b, rfl, q⟩
theorem g_and {t u : TT} {k : Bool → Hp → Prop} (q : t σ H fun b H1 => if b = true then u σ H1 k else k false H1) : tAnd t u σ H k := q
theorem g_or {t u : TT} {k : Bool → Hp → Prop} (q : t σ H fun b H1 => if b = true then k true H1 else u σ H1 k) : tOr t u σ H k := q
theorem g_orV (q : ta σ H fun x H1 => ∃ b, x = .bl b ∧ if b = true then Q (.bl true) H1 else tb σ H1 Q) : tOrV ta tb σ H Q := q
theorem g_andV (q : ta σ H fun x H1 => ∃ b, x = .bl b ∧ if b = true then tb σ H1 Q else Q (.bl false) H1) : tAndV ta tb σ H Q := q
theorem g_notV (q : ta σ H fun x H1 => ∃ b, x = .bl b ∧ Q (.bl (!b)) H1) : tNotV ta σ H Q := q
theorem g_m0 {r : V → List V → Hp → VK → Prop} (q : ta σ H fun x H1 => (∃ a, x = .str a) ∧ r x [] H1 Q) : tM0 r ta σ H Q := q
theorem g_m1 {r : V → List V → Hp → VK → Prop} (q : ta σ H fun x H1 => (∃ a, x = .str a) ∧ tb σ H1 fun y H2 => r x [y] H2 Q) : tM1 r ta tb σ H Q := q
theorem g_isS {z : Str} {c : Prop} (q : c) : (∃ a, V.str z = .str a) ∧ c := ⟨⟨z, rfl⟩, q⟩
theorem g_bT {A B : Prop} (q : A) : if true = true then A else B := iteT q
theorem g_bF {A B : Prop} (q : B) : if false = true then A else B := iteF q
theorem g_bNT {A B : Prop} (q : B) : if (!true) = true then A else B := iteF q
theorem g_bNF {A B : Prop} (q : A) : if (!false) = true then A else B := iteT q
theorem g_bm {K : PySem.W.Frag} {T : String} {r : V → List V → Hp → VK → Prop} (q : ta σ H fun x H1 => tyV K T x H1 ∧ tl σ H1 fun xs H2 => r x xs H2 Q) : tBM K T r ta tl σ H Q := q
theorem g_bm0 {K : PySem.W.Frag} {T : String} {r : V → List V → Hp → VK → Prop} (q : ta σ H fun x H1 => tyV K T x H1 ∧ r x [] H1 Q) : tBM0 K T r ta σ H Q := q
theorem g_tyL {K : PySem.W.Frag} {p : Addr} {xs : List V} {c : Prop} (h : H p = some (.lst xs)) (q : c) : tyV K "list" (.ref p) H ∧ c := ⟨.inl ⟨rfl, _, SqL.of h⟩, q⟩
theorem g_lit {L : List V} {n : Nat} (h : L.length ≤ n) (z : n ≤ 100) : L.length ≤ 100 := Nat.le_trans h z
theorem g_yes {k : Bool → Hp → Prop} (q : k true H) : tYes σ H k := q
theorem g_nes {x : V} {A B : Prop} (q : B) : if (!decide (x = x)) = true then A else B := by
  rw [decide_eq_true rfl]
  exact iteF q
theorem g_es {x : V} {A B : Prop} (q : A) : if decide (x = x) = true then A else B := by
  rw [decide_eq_true rfl]
  exact iteT q
theorem g_callK {sp : Sp} {gV : List V → List V → List V} {E : XK} {tk : TA} (q : tl σ H fun vs H1 => tk σ H1 fun zs H2 => sp (gV vs zs) H2 Q E) : tCallK sp gV E tl tk σ H Q := q
theorem g_isN {x : V} (q : ta σ H fun x H1 => Q (.bl (decide (x = .non))) H1) : tIsN ta σ H Q := q
end
local macro_rules | `(tactic| walk_at "wn1") => `(tactic| first | ((with_reducible show (if (!decide _) = true then _ else _)); refine' g_nes ?_) | ((with_reducible show (if (decide _) = true then _ else _)); refine' g_es ?_) | with_reducible first
  | (refine' g_var ?h ?q; (case h => with_unfolding_all rfl))
  | refine' g_c ?_ | refine' g_op ?_ | refine' g_rI0 ?_ | refine' g_asg ?_ | refine' g_name ?_ | refine' g_seq ?_ | refine' g_ret ?_ | refine' g_retN ?_ | refine' g_next ?_ | refine' g_drop ?_
  | refine' g_nil ?_ | refine' g_cons ?_ | refine' g_cb ?_ | refine' g_test ?_ | refine' g_bl ?_ | refine' g_if ?_ | refine' g_ifs ?_ | refine' g_not ?_ | refine' g_part ?_ | refine' g_pint ?_ | refine' g_nopart ?_ | refine' g_call ?_
  | (refine' g_mul ?h ?q; (case h => with_unfolding_all first | exact Or.inl ⟨by decide, by decide⟩ | exact Or.inr ⟨by decide, by decide⟩ | exact Or.inl ⟨by omega, by omega⟩ | exact Or.inr ⟨by omega, by omega⟩))
  | (refine' g_mod ?h ?q; (case h => with_unfolding_all first | decide | omega))
  | refine' g_rIsN ?_ | refine' g_rNotN ?_ | refine' g_max2 ?_ | refine' g_min2 ?_ | refine' g_and ?_ | refine' g_or ?_ | refine' g_orV ?_ | refine' g_andV ?_ | refine' g_notV ?_ | refine' g_m1 ?_ | refine' g_yes ?_ | refine' g_bm ?_ | refine' g_bm0 ?_
  | (refine' g_tyL ?h ?q; (case h => first | assumption | exact upd_same))
  | refine' g_m0 ?_ | refine' g_tB ?_ | refine' g_isS ?_ | refine' g_bT ?_ | refine' g_bF ?_ | refine' g_bNT ?_ | refine' g_callK ?_ | refine' g_bNF ?_
  | (refine' g_lenL ?h ?q; (case h => first | assumption | exact upd_same))
  | refine' g_un ?_ | refine' g_rint _ ?_ | refine' g_rabs ?_ | refine' g_sl ?_ 
  | (refine' g_ixL ?h ?a ?q; (case h => first | assumption | exact upd_same); (case a => with_unfolding_all rfl))
  | (refine' g_div ?h0 ?h1 ?q; (case h0 => with_unfolding_all first | decide | omega); (case h1 => with_unfolding_all first | decide | omega))
  | refine' g_sub ?_
  | (refine' g_setL ?h ?a ?q; (case h => first | assumption | exact upd_same); (case a => with_unfolding_all rfl))
  | refine' g_lst ?_ | refine' g_tup ?_
  | (refine' g_rEq ?h ?q; (case h => with_unfolding_all rfl)) | (refine' g_rNe ?h ?q; (case h => with_unfolding_all rfl)))
local macro_rules | `(tactic| walk_at "wn") => `(tactic| repeat walk_at "wn1")

/-! the bag of draws: two numbers that are not negative, the second one below 2 ^ 31 -/
def BagAt (H : Hp) (p : Addr) : Prop := ∃ a b : Int, H p = some (.lst [.int a, .int b]) ∧ 0 ≤ a ∧ 0 ≤ b ∧ b < 2147483648
def Dr (p : Addr) (H H' : Hp) : Prop := (∀ a o, a ≠ p → H a = some o → H' a = some o) ∧ BagAt H' p
theorem Dr.refl {p : Addr} {H : Hp} (b : BagAt H p) : Dr p H H := ⟨fun _ _ _ h => h, b⟩
theorem Dr.trans {p : Addr} {H H1 H2 : Hp} (a : Dr p H H1) (b : Dr p H1 H2) : Dr p H H2 := ⟨fun x o n h => b.1 x o n (a.1 x o n h), b.2⟩
theorem Dr.ex {p : Addr} {H H1 : Hp} (b : BagAt H p) (e : Ex H H1) : Dr p H H1 := ⟨fun x o _ h => e x o h, by
  obtain ⟨u, v, h, r⟩ := b
  exact ⟨u, v, e _ _ h, r⟩⟩
theorem seq_at {K : PySem.W.Frag} {H H' : Hp} {l : Addr} {xs : List V} (e : H' l = H l) (h : SqL K H l xs) : SqL K H' l xs := by
  rcases h with (h | ⟨o, h⟩) | h
  · exact .inl (.inl (e.trans h))
  · exact .inl (.inr ⟨o, e.trans h⟩)
  · exact .inr h
theorem seqT_at {K : PySem.W.Frag} {H H' : Hp} {l : Addr} {xs : List V} (e : H' l = H l) (h : SqT K H l xs) : SqT K H' l xs := by
  rcases h with (h | ⟨o, h⟩) | h
  · exact .inl (.inl (e.trans h))
  · exact .inl (.inr ⟨o, e.trans h⟩)
  · exact .inr h
structure DrawTxt (mg : Str → Option Value) : Prop where
  len : mg "len" = none
  enum : mg "enumerate" = none
  int : mg "int" = none
  abs : mg "abs" = none
def spBag (K : PySem.W.Frag) : Sp := fun vs H Q _ => ∃ (a : Addr) (ns : List Int) (i : Nat), vs = [.ref a, .int i] ∧ SqL K H a (ns.map V.int) ∧ ns.length ≤ 63 ∧ i ≤ 100 ∧
  ∀ (H' : Hp) (p : Addr), H p = none → Same H H' → BagAt H' p → Q (.ref p) H'
def spTake : Sp := fun vs H Q _ => ∃ (p : Addr) (m : Int), vs = [.ref p, .int m] ∧ BagAt H p ∧ 0 < m ∧ m < 4611686018427387904 ∧
  ∀ (k : Int) (H' : Hp), 0 ≤ k → k < m → (∀ b, b ≠ p → H' b = H b) → BagAt H' p → Q (.int k) H'
def spOf (K : PySem.W.Frag) : Sp := fun vs H Q _ => ∃ (p l : Addr) (xs : List V), vs = [.ref p, .ref l] ∧ BagAt H p ∧ SqL K H l xs ∧ l ≠ p ∧ 0 < xs.length ∧ xs.length ≤ 1000 ∧
  ∀ (k : Nat) (v : V) (H' : Hp), xs[k]? = some v → (∀ b, b ≠ p → H' b = H b) → BagAt H' p → Q v H'
section
variable {P : Program} {w : World} {K : PySem.W.Frag} {mg : Str → Option Value} {base : Heap}
theorem scBag : FnScope ["_law_script", "_law_at", "_law_cell", "_law_blend", "_law_k", "_law_each"] ["_law_script", "_law_at"] (defScope sBag) := ⟨rfl, rfl, rfl, by decide +kernel, rfl, by decide +kernel, by decide +kernel⟩
theorem okBag {f : Addr} {fd : FuncData} (F : Fun K "_law_bag" "_law_bag" sBag f fd) (T : DrawTxt mg) : FnOk P w K mg base CX0 1 f fd ["_law_script", "_law_at"] (spBag K) := by
  refine F.ok scBag (fun vs H Q E h => ?_) (fun cdv A outer s H vs Q E hr h => ?_)
  · obtain ⟨a, ns, i, rfl, _⟩ := h
    rfl
  · obtain ⟨a, ns, i, rfl, hS, hl, hi, k⟩ := h
    refine ⟨_, pss_cut (ps_set (i := 2) scBag.nd rfl (Or.inl rfl) (pe_ifExp (pt_cmpR op_lt (pv 1) (pe_callB cLenQ (by rfl) T.len PySem.boot_len (pa_cons (pv 0) pa_nil)) (nomark _)) (pe_ix ix_list (pv 0) (pv 1) (fun _ _ => rfl)) pe_int))
      (pss_cons (ps_set (i := 3) scBag.nd rfl (Or.inl rfl) (pe_op op_add (pe_op op_mul pe_int (pv 1)) pe_int))
      (pss_cut (ps_for PassesOwn.never rfl (pi_enum (by rfl) T.enum (pa_cons (pe_slice sl_list (pv 0) po_none (po_some pe_int)) pa_nil)) (pg_tup rfl (pgs_cons (pg_name (i := 4) scBag.nd rfl (Or.inl rfl)) (pgs_cons (pg_name (i := 5) scBag.nd rfl (Or.inl rfl)) pgs_nil)))
        (pss_one (ps_set (i := 3) scBag.nd rfl (Or.inl rfl) (pe_op op_mod (pe_callTy cInt1 (by rfl) T.int PyProof.Rows.boot_int (pa_cons (pe_op op_add (pe_op op_add (pe_op op_add (pe_op op_mul (pv 3) pe_int) (pe_op op_mod (pe_callTy cInt1 (by rfl) T.int PyProof.Rows.boot_int (pa_cons (pv 5) pa_nil)) pe_int)) (pe_op op_mul pe_int (pv 4))) pe_int) pa_nil)) pe_int))))
      (pss_one (ps_ret (pe_lst (pa_cons (pe_ifExp (pt_cmpR op_ge (pe_callB cAbs (by rfl) T.abs (by decide +kernel) (pa_cons (pv 2) pa_nil)) (pe_op op_pow pe_int pe_int) (nomark _)) (pe_callB cAbs (by rfl) T.abs (by decide +kernel) (pa_cons (pv 2) pa_nil)) pe_int) (pa_cons (pv 3) pa_nil))))))), ?_⟩
    refine ⟨fun σ' H' => ∃ c : Int, σ' = [some (.ref a), some (.int i), some (.int c), none, none, none] ∧ H' = H, ?_, ?_⟩
    · walk_at "wn"
      refine ⟨a, _, rfl, .inl hS, ?_⟩
      walk_at "wn"
      refine ite2 (fun hc => ?_) (fun hc => ?_)
      · have hlt : i < (ns.map V.int).length := by have := of_decide_eq_true hc; omega
        rw [List.length_map] at hlt
        walk_at "wn"
        refine ⟨a, _, _, _, rfl, rfl, hS, atI_nat (v := V.int (ns[i])) (by rw [List.getElem?_map, List.getElem?_eq_getElem hlt]; rfl), ?_⟩
        exact ⟨_, rfl, rfl⟩
      · exact ⟨0, rfl, rfl⟩
    · rintro σ' H' ⟨c, rfl, rfl⟩
      walk_at "wn"
      refine ⟨fun σ' H2 => ∃ (b : Int) (u v : Option V), 0 ≤ b ∧ b < 2147483648 ∧ σ' = [some (.ref a), some (.int i), some (.int c), some (.int b), u, v] ∧ Same H' H2, ?_, ?_⟩
      · show tSl _ _ _ _ _ _ _
        walk_at "wn"
        refine ⟨a, _, rfl, hS, fun p hp => ?_⟩
        walk_at "wn"
        refine ⟨p, _, rfl, SqL.of upd_same, ?_⟩
        refine for_it (walk_enum (xs := cutV (ns.map V.int) none (some 40))) (fun j σ' H3 => ∃ (b : Int) (u v : Option V), 0 ≤ b ∧ b < 2147483648 ∧ σ' = [some (.ref a), some (.int i), some (.int c), some (.int b), u, v] ∧ Same (upd H' p (.lst (cutV (ns.map V.int) none (some 40)))) H3) ?_ ?_ ?_ ?_
        · exact ⟨_, none, none, by omega, by omega, rfl, Same.refl _⟩
        · rintro j σ' H3 hj ⟨b, u, v, b0, b1, rfl, sm⟩
          exact sm.seq (SqL.of upd_same)
        · rintro j x σ' H3 H4 hj ⟨b, u, v, b0, b1, rfl, sm⟩ ⟨T1, x1, y1, rfl, nT, rfl, hx, hy⟩
          obtain rfl := Option.some.inj hx
          obtain ⟨z, rfl⟩ : ∃ z, y1 = V.int z := by
            have q : y1 ∈ ns.map V.int := List.mem_of_mem_drop (List.mem_of_mem_take (List.mem_of_getElem? hy))
            obtain ⟨z, _, e⟩ := List.mem_map.mp q
            exact ⟨z, e.symm⟩
          refine ⟨T1, _, rfl, SqT.of upd_same, rfl, _, _, rfl, ?_⟩
          walk_at "wn"
          refine ⟨_, _, rfl, ?_⟩
          walk_at "wn"
          refine ⟨rfl, ?_⟩
          walk_at "wn"
          refine ⟨_, _, _, by omega, by omega, rfl, fun x o hx => ?_⟩
          rw [upd_ne (ne_of_none (sm _ _ hx) nT)]
          exact sm _ _ hx
        · rintro σ' H3 ⟨b, u, v, b0, b1, rfl, sm⟩
          exact ⟨b, u, v, b0, b1, rfl, fun x o hx => sm _ _ (by rw [upd_ne (ne_of_none hx hp)]; exact hx)⟩
      · rintro σ' H2 ⟨b, u, v, b0, b1, rfl, sm⟩
        walk_at "wn"
        refine g_rI ⟨by decide, by decide, by decide⟩ ?_
        walk_at "wn"
        have fin : ∀ z : Int, 0 ≤ z → ([V.int z, V.int b].length ≤ sizeLine ∧ ∀ p, H2 p = none → Q (V.ref p) (upd H2 p (HO.lst [V.int z, V.int b]))) := fun z hz => ⟨by show 2 ≤ sizeLine; decide, fun p hp => k _ p (sm.free hp) (fun x o hx => by
          rw [upd_ne (ne_of_none (sm _ _ hx) hp)]
          exact sm _ _ hx) ⟨z, b, upd_same, hz, b0, b1⟩⟩
        refine ite2 (fun hc => ?_) (fun hc => ?_)
        · walk_at "wn"
          exact fin _ (by split <;> omega)
        · walk_at "wn"
          exact fin 0 (by decide)
theorem scTake : FnScope ["_law_bag_here", "_law_many", "_law_digit"] ["_law_bag_here", "_law_many"] (defScope sTake) := ⟨rfl, rfl, rfl, by decide +kernel, rfl, by decide +kernel, by decide +kernel⟩
theorem okTake {f : Addr} {fd : FuncData} (F : Fun K "_law_take" "_law_take" sTake f fd) (T : DrawTxt mg) : FnOk P w K mg base CX0 1 f fd ["_law_bag_here", "_law_many"] spTake := by
  refine F.ok scTake (fun vs H Q E h => ?_) (fun cdv A outer s H vs Q E hr h => ?_)
  · obtain ⟨a, m, rfl, _⟩ := h
    rfl
  · obtain ⟨p, m, rfl, ⟨a, b, hp, a0, b0, b1⟩, m0, m1, k⟩ := h
    refine ⟨_, pss_cons (ps_if (pt_cmpR op_gt (pe_ix ix_list (pv 0) pe_int (fun _ _ => rfl)) pe_int (nomark _))
        (pss_cons (ps_set (i := 2) scTake.nd rfl (Or.inl rfl) (pe_op op_mod (pe_callTy cInt1 (by rfl) T.int PyProof.Rows.boot_int (pa_cons (pe_ix ix_list (pv 0) pe_int (fun _ _ => rfl)) pa_nil)) (pv 1)))
        (pss_cons (ps_asg (pe_op op_fdivW (pe_ix ix_list (pv 0) pe_int (fun _ _ => rfl)) (pv 1)) (pg_sub (pv 0) pe_int set_list))
        (pss_one (ps_ret (pv 2))))) pss_nil)
      (pss_cons (ps_asg (pe_op op_mod (pe_callTy cInt1 (by rfl) T.int PyProof.Rows.boot_int (pa_cons (pe_op op_add (pe_op op_mul (pe_ix ix_list (pv 0) pe_int (fun _ _ => rfl)) pe_int) pe_int) pa_nil)) pe_int) (pg_sub (pv 0) pe_int set_list))
      (pss_one (ps_ret (pe_op op_mod (pe_op op_fdivW (pe_op op_mod (pe_callTy cInt1 (by rfl) T.int PyProof.Rows.boot_int (pa_cons (pe_op op_mul (pe_op op_fdivW (pe_ix ix_list (pv 0) pe_int (fun _ _ => rfl)) pe_int) pe_int) pa_nil)) pe_int) pe_int) (pv 1))))), ?_⟩
    walk_at "wn"
    refine ite2 (fun hc => ?_) (fun hc => ?_)
    · walk_at "wn"
      refine k _ _ (Int.emod_nonneg _ (by omega)) (Int.emod_lt_of_pos _ m0) (fun x hx => upd_ne hx) ⟨_, _, upd_same, Int.ediv_nonneg a0 (by omega), b0, b1⟩
    · walk_at "wn"
      refine k _ _ (Int.emod_nonneg _ (by omega)) (Int.emod_lt_of_pos _ m0) (fun x hx => upd_ne hx) ⟨_, _, upd_same, a0, by omega, by omega⟩
theorem scOf : FnScope ["_law_bag_here", "_law_some"] ["_law_bag_here", "_law_some"] (defScope sOf) := ⟨rfl, rfl, rfl, by decide +kernel, rfl, by decide +kernel, by decide +kernel⟩
theorem okOf {f fT : Addr} {fd fdT : FuncData} (F : Fun K "_law_of" "_law_of" sOf f fd) (T : DrawTxt mg) (FT : Fun K "_law_take" "_law_take" sTake fT fdT) (gT : mg "_law_take" = some (.ref fT)) (bT : Binds K fdT ["_law_bag_here", "_law_many"] []) : FnOk P w K mg base CX0 2 f fd ["_law_bag_here", "_law_some"] (spOf K) := by
  have GT : FnOk P w K mg base CX0 1 fT fdT ["_law_bag_here", "_law_many"] spTake := okTake FT T
  refine F.ok scOf (fun vs H Q E h => ?_) (fun cdv A outer s H vs Q E hr h => ?_)
  · obtain ⟨a, l, xs, rfl, _⟩ := h
    rfl
  · obtain ⟨p, l, xs, rfl, hb, hx, hl, l0, l1, k⟩ := h
    refine ⟨_, pss_one (ps_ret (pe_ix ix_seq (pv 1) (pe_call GT hr (by rfl) gT FT.kp bT .nil pass0 (pa_cons (pv 0) (pa_cons (pe_callB cLenQ (by rfl) T.len PySem.boot_len (pa_cons (pv 1) pa_nil)) pa_nil))) (fun _ _ => rfl))), ?_⟩
    walk_at "wn"
    refine ⟨l, xs, rfl, .inl hx, ?_⟩
    walk_at "wn"
    refine ⟨p, _, rfl, hb, by omega, by omega, fun i H1 i0 i1 he hb1 => ?_⟩
    obtain ⟨j, rfl⟩ := Int.eq_ofNat_of_zero_le i0
    have hj : j < xs.length := by omega
    exact .inl ⟨l, xs, _, xs[j], rfl, rfl, seq_at (he l hl) hx, atI_nat (List.getElem?_eq_getElem hj), k j _ H1 (List.getElem?_eq_getElem hj) he hb1⟩
end
end Wn

namespace Wn
open PySem PySem.Spec PyProof.Rows L2 Evl
local macro_rules | `(tactic| walk_at "wn1") => `(tactic| first | ((with_reducible show (if (!decide _) = true then _ else _)); refine' g_nes ?_) | ((with_reducible show (if (decide _) = true then _ else _)); refine' g_es ?_) | with_reducible first
  | (refine' g_var ?h ?q; (case h => with_unfolding_all rfl))
  | refine' g_c ?_ | refine' g_op ?_ | refine' g_rI0 ?_ | refine' g_asg ?_ | refine' g_name ?_ | refine' g_seq ?_ | refine' g_ret ?_ | refine' g_retN ?_ | refine' g_next ?_ | refine' g_drop ?_
  | refine' g_nil ?_ | refine' g_cons ?_ | refine' g_cb ?_ | refine' g_test ?_ | refine' g_bl ?_ | refine' g_if ?_ | refine' g_ifs ?_ | refine' g_not ?_ | refine' g_part ?_ | refine' g_pint ?_ | refine' g_nopart ?_ | refine' g_call ?_
  | (refine' g_mul ?h ?q; (case h => with_unfolding_all first | exact Or.inl ⟨by decide, by decide⟩ | exact Or.inr ⟨by decide, by decide⟩ | exact Or.inl ⟨by omega, by omega⟩ | exact Or.inr ⟨by omega, by omega⟩))
  | (refine' g_mod ?h ?q; (case h => with_unfolding_all first | decide | omega))
  | refine' g_rIsN ?_ | refine' g_rNotN ?_ | refine' g_max2 ?_ | refine' g_min2 ?_ | refine' g_and ?_ | refine' g_or ?_ | refine' g_orV ?_ | refine' g_andV ?_ | refine' g_notV ?_ | refine' g_m1 ?_ | refine' g_yes ?_ | refine' g_bm ?_ | refine' g_bm0 ?_
  | (refine' g_tyL ?h ?q; (case h => first | assumption | exact upd_same))
  | refine' g_m0 ?_ | refine' g_tB ?_ | refine' g_isS ?_ | refine' g_bT ?_ | refine' g_bF ?_ | refine' g_bNT ?_ | refine' g_callK ?_ | refine' g_bNF ?_
  | (refine' g_lenL ?h ?q; (case h => first | assumption | exact upd_same))
  | refine' g_un ?_ | refine' g_rint _ ?_ | refine' g_rabs ?_ | refine' g_sl ?_ 
  | (refine' g_ixL ?h ?a ?q; (case h => first | assumption | exact upd_same); (case a => with_unfolding_all rfl))
  | (refine' g_div ?h0 ?h1 ?q; (case h0 => with_unfolding_all first | decide | omega); (case h1 => with_unfolding_all first | decide | omega))
  | refine' g_sub ?_
  | (refine' g_setL ?h ?a ?q; (case h => first | assumption | exact upd_same); (case a => with_unfolding_all rfl))
  | refine' g_lst ?_ | refine' g_tup ?_
  | (refine' g_rEq ?h ?q; (case h => with_unfolding_all rfl)) | (refine' g_rNe ?h ?q; (case h => with_unfolding_all rfl)))
local macro_rules | `(tactic| walk_at "wn") => `(tactic| repeat walk_at "wn1")

def clsBody : Stmt → List Stmt
  | .ClassDef _ _ _ b _ _ _ _ _ _ _ => b
  | _ => []
def meth (i j : Nat) : Stmt := (clsBody (top i)).getD j (.Pass ⟨0, 0, 0, 0⟩)
abbrev sIsInteger : Stmt := top 20
abbrev sIsBetween : Stmt := top 21
abbrev sIsCount : Stmt := top 22
abbrev sIsLabel : Stmt := top 23
abbrev sIsWord : Stmt := top 24
abbrev sRegInit : Stmt := meth 26 0
abbrev sWsInit : Stmt := meth 27 0
abbrev sLabelOf : Stmt := meth 27 2
abbrev sPut : Stmt := meth 27 3
abbrev sAppend : Stmt := meth 27 4
abbrev sNotice : Stmt := meth 27 7
abbrev sReports : Stmt := meth 27 8
abbrev sSettle : Stmt := meth 27 9
/-! own __contains__ -/
def rOwnNotIn (C : Addr) (sp : Sp) : R2 := fun x y H Q => ∃ a dx fs, y = .ref a ∧ H a = some (.ins C dx fs) ∧ sp [.ref a, x] H (fun v H' => ∃ b, v = .bl b ∧ Q (.bl (!b)) H') fun _ _ _ => False
theorem op_ownNotIn {X : Cx} {CX : CXT} {k : Nat} {C f : Addr} {fd : FuncData} {ps : List Str} {sp : Sp} (F : FnOk X.prog X.w X.K X.mg X.base CX k f fd ps sp) (hr : Room k X.A)
    (hs : PySem.W.findIn X.K (.ref C) "__contains__" = some (some (.ref f))) (hf : PySem.W.isFn X.K (.ref f) = true) (hb : Binds X.K fd ps []) (hx : Passes CX X fun _ _ _ => False) : OpR X (compareOp .NotIn) (rOwnNotIn C sp) := by
  intro pins s σ H x y v u Q I rx ry d
  obtain ⟨a, dx, fs, rfl, ha, hsp⟩ := d
  cases ry
  obtain ⟨mA, J, _⟩ := ins_get I.hok ha
  obtain ⟨od, J, _⟩ := J.look
  obtain ⟨m, hF⟩ := I.fr
  refine PySem.W.notIn_K hF I.ok.mod.kin J hs hf ?_
  have hl := F.len _ _ _ _ hsp
  have r2 : Vals [V.ref a, x] [Value.ref a, v] := .cons rfl (.cons rx .nil)
  refine wpAny_call (codeAny_mono (F.run X.A X.stack s H ⟨[.ref a, v], []⟩ [.ref a, v] [.ref a, x] _ _ hr I.env0 (by
    have := hb s [.ref a, v] I.kIn (by simpa using hl)
    simpa using this) r2 hsp) fun r s' hq => ?_)
  cases r with
  | error e => exact hx pins σ H s e s' I hq
  | ok fl =>
    cases fl with
    | ret w =>
      obtain ⟨z, H', I', rz, b, ez, q⟩ := I.after hq
      subst ez
      cases rz
      exact wpAny_truthy_bool ⟨.bl (!b), H', I', rfl, q⟩
    | next => exact False.elim hq
    | brk => exact False.elim hq
    | cont => exact False.elim hq
section
variable {P : Program} {w : World} {K : PySem.W.Frag} {mg : Str → Option Value} {base : Heap}
structure ChkTxt (K : PySem.W.Frag) (mg : Str → Option Value) : Prop where
  isin : mg "isinstance" = none
  int : mg "int" = none
  bool : mg "bool" = none
  count : ∃ t, mg "MOST_COUNT" = some (.int 1000000 t)
  label : ∃ t, mg "MOST_LABEL" = some (.int 999999 t)
  words : ∃ a, mg "WORDS" = some (.ref a) ∧ ∀ H, SqT K H a [.str "level", .str "edge", .str "once"]
def spIsInteger : Sp := fun vs H Q _ => ∃ i : Int, vs = [.int i] ∧ Q (.bl true) H
theorem scIsInteger : FnScope ["x"] ["x"] (defScope sIsInteger) := ⟨rfl, rfl, rfl, by decide +kernel, rfl, by decide +kernel, by decide +kernel⟩
theorem okIsInteger {f : Addr} {fd : FuncData} (F : Fun K "is_integer" "is_integer" sIsInteger f fd) (T : ChkTxt K mg) : FnOk P w K mg base CX0 1 f fd ["x"] spIsInteger := by
  refine F.ok scIsInteger (fun vs H Q E h => ?_) (fun cdv A outer s H vs Q E hr h => ?_)
  · obtain ⟨x, rfl, _⟩ := h
    rfl
  · obtain ⟨i, rfl, k⟩ := h
    refine ⟨_, pss_one (ps_ret (pe_and (pe_callB call_isi (by rfl) T.isin PyProof.Rows.boot_isinstance (pa_cons (pv 0) (pa_cons (pe_bltn (v := .ty "int") (by rfl) T.int PyProof.Rows.boot_int rfl) pa_nil))) (pe_one (pe_not (pe_callB call_isi (by rfl) T.isin PyProof.Rows.boot_isinstance (pa_cons (pv 0) (pa_cons (pe_bltn (v := .ty "bool") (by rfl) T.bool (by decide +kernel) rfl) pa_nil))))))), ?_⟩
    refine ⟨_, rfl, _, _, _, _, true, rfl, .ty "int", .base (.int i), kit_ty (by decide +kernel), ?_⟩
    refine ⟨_, rfl, _, rfl, _, _, _, _, false, rfl, .ty "bool", .base (.int i), kit_ty (by decide +kernel), ?_⟩
    exact ⟨_, rfl, k⟩
def spIsBetween : Sp := fun vs H Q _ => ∃ i a b : Int, vs = [.int i, .int a, .int b] ∧ Q (.bl (decide (a ≤ i) && decide (i ≤ b))) H
theorem scIsBetween : FnScope ["x", "least", "most"] ["x", "least", "most"] (defScope sIsBetween) := ⟨rfl, rfl, rfl, by decide +kernel, rfl, by decide +kernel, by decide +kernel⟩
theorem okIsBetween {f fI : Addr} {fd fdI : FuncData} (F : Fun K "is_between" "is_between" sIsBetween f fd) (GI : FnOk P w K mg base CX0 1 fI fdI ["x"] spIsInteger) (kI : PySem.W.keepIn K (.ref fI) = true) (gI : mg "is_integer" = some (.ref fI)) (bI : Binds K fdI ["x"] []) :
    FnOk P w K mg base CX0 2 f fd ["x", "least", "most"] spIsBetween := by
  refine F.ok scIsBetween (fun vs H Q E h => ?_) (fun cdv A outer s H vs Q E hr h => ?_)
  · obtain ⟨x, y, z, rfl, _⟩ := h
    rfl
  · obtain ⟨i, a, b, rfl, k⟩ := h
    refine ⟨_, pss_one (ps_ret (pe_and (pe_call GI hr (by rfl) gI kI bI .nil pass0 (pa_cons (pv 0) pa_nil)) (pe_one (pe_chain op_le op_le (pv 1) (pv 0) (pv 2))))), ?_⟩
    walk_at "wn"
    refine ⟨i, rfl, ?_⟩
    walk_at "wn"
    refine ⟨_, rfl, _, rfl, a, i, rfl, rfl, _, rfl, ?_⟩
    refine ite2 (fun hc => ?_) (fun hc => ?_)
    · rw [hc, Bool.true_and] at k
      exact ⟨_, rfl, i, b, rfl, rfl, k⟩
    · rw [Bool.eq_false_iff.mpr hc, Bool.false_and] at k
      exact k
def spIsCount : Sp := fun vs H Q _ => ∃ i : Int, vs = [.int i] ∧ Q (.bl (decide (1 ≤ i) && decide (i ≤ 1000000))) H
theorem scIsCount : FnScope ["x"] ["x"] (defScope sIsCount) := ⟨rfl, rfl, rfl, by decide +kernel, rfl, by decide +kernel, by decide +kernel⟩
theorem okIsCount {f fB : Addr} {fd fdB : FuncData} (F : Fun K "is_count" "is_count" sIsCount f fd) (T : ChkTxt K mg) (GB : FnOk P w K mg base CX0 2 fB fdB ["x", "least", "most"] spIsBetween) (kB : PySem.W.keepIn K (.ref fB) = true) (gB : mg "is_between" = some (.ref fB)) (bB : Binds K fdB ["x", "least", "most"] []) :
    FnOk P w K mg base CX0 3 f fd ["x"] spIsCount := by
  refine F.ok scIsCount (fun vs H Q E h => ?_) (fun cdv A outer s H vs Q E hr h => ?_)
  · obtain ⟨x, rfl, _⟩ := h
    rfl
  · obtain ⟨i, rfl, k⟩ := h
    obtain ⟨t, ht⟩ := T.count
    refine ⟨_, pss_one (ps_ret (pe_call GB hr (by rfl) gB kB bB .nil pass0 (pa_cons (pv 0) (pa_cons pe_int (pa_cons (pe_glob (v := .int 1000000) (by rfl) ht ⟨_, rfl⟩) pa_nil))))), ?_⟩
    walk_at "wn"
    exact ⟨i, 1, 1000000, rfl, k⟩
def spIsLabel : Sp := fun vs H Q _ => ∃ i : Int, vs = [.int i] ∧ Q (.bl (decide (0 ≤ i) && decide (i ≤ 999999))) H
theorem scIsLabel : FnScope ["x"] ["x"] (defScope sIsLabel) := ⟨rfl, rfl, rfl, by decide +kernel, rfl, by decide +kernel, by decide +kernel⟩
theorem okIsLabel {f fB : Addr} {fd fdB : FuncData} (F : Fun K "is_label" "is_label" sIsLabel f fd) (T : ChkTxt K mg) (GB : FnOk P w K mg base CX0 2 fB fdB ["x", "least", "most"] spIsBetween) (kB : PySem.W.keepIn K (.ref fB) = true) (gB : mg "is_between" = some (.ref fB)) (bB : Binds K fdB ["x", "least", "most"] []) :
    FnOk P w K mg base CX0 3 f fd ["x"] spIsLabel := by
  refine F.ok scIsLabel (fun vs H Q E h => ?_) (fun cdv A outer s H vs Q E hr h => ?_)
  · obtain ⟨x, rfl, _⟩ := h
    rfl
  · obtain ⟨i, rfl, k⟩ := h
    obtain ⟨t, ht⟩ := T.label
    refine ⟨_, pss_one (ps_ret (pe_call GB hr (by rfl) gB kB bB .nil pass0 (pa_cons (pv 0) (pa_cons pe_int (pa_cons (pe_glob (v := .int 999999) (by rfl) ht ⟨_, rfl⟩) pa_nil))))), ?_⟩
    walk_at "wn"
    exact ⟨i, 0, 999999, rfl, k⟩
def wordsL : List Str := ["level", "edge", "once"]
def spIsWord : Sp := fun vs H Q _ => ∃ x : Str, vs = [.str x] ∧ x ∈ wordsL ∧ Q (.bl true) H
theorem word_in : ∀ x ∈ wordsL, inV (.str x) [.str "level", .str "edge", .str "once"] = true := by decide +kernel
theorem scIsWord : FnScope ["x"] ["x"] (defScope sIsWord) := ⟨rfl, rfl, rfl, by decide +kernel, rfl, by decide +kernel, by decide +kernel⟩
theorem okIsWord {f : Addr} {fd : FuncData} (F : Fun K "is_word" "is_word" sIsWord f fd) (T : ChkTxt K mg) : FnOk P w K mg base CX0 1 f fd ["x"] spIsWord := by
  refine F.ok scIsWord (fun vs H Q E h => ?_) (fun cdv A outer s H vs Q E hr h => ?_)
  · obtain ⟨x, rfl, _⟩ := h
    rfl
  · obtain ⟨x, rfl, hx, k⟩ := h
    obtain ⟨aW, gW, sW⟩ := T.words
    refine ⟨_, pss_one (ps_ret (pe_cmpR op_in_seq (pv 0) (pe_glob (v := .ref aW) (by rfl) gW rfl) (by rfl))), ?_⟩
    walk_at "wn"
    refine ⟨aW, _, rfl, .inr (sW _), rfl, by decide, ?_⟩
    show Q (.bl (inV _ _)) H
    rw [word_in x hx]
    exact k
end
end Wn

namespace Wn
open PySem PySem.Spec PyProof.Rows L2 Evl
local macro_rules | `(tactic| walk_at "wn1") => `(tactic| first | ((with_reducible show (if (!decide _) = true then _ else _)); refine' g_nes ?_) | ((with_reducible show (if (decide _) = true then _ else _)); refine' g_es ?_) | with_reducible first
  | (refine' g_var ?h ?q; (case h => with_unfolding_all rfl))
  | refine' g_c ?_ | refine' g_op ?_ | refine' g_rI0 ?_ | refine' g_asg ?_ | refine' g_name ?_ | refine' g_seq ?_ | refine' g_ret ?_ | refine' g_retN ?_ | refine' g_next ?_ | refine' g_drop ?_
  | refine' g_nil ?_ | refine' g_cons ?_ | refine' g_cb ?_ | refine' g_test ?_ | refine' g_bl ?_ | refine' g_if ?_ | refine' g_ifs ?_ | refine' g_not ?_ | refine' g_part ?_ | refine' g_pint ?_ | refine' g_nopart ?_ | refine' g_call ?_
  | (refine' g_mul ?h ?q; (case h => with_unfolding_all first | exact Or.inl ⟨by decide, by decide⟩ | exact Or.inr ⟨by decide, by decide⟩ | exact Or.inl ⟨by omega, by omega⟩ | exact Or.inr ⟨by omega, by omega⟩))
  | (refine' g_mod ?h ?q; (case h => with_unfolding_all first | decide | omega))
  | refine' g_rIsN ?_ | refine' g_rNotN ?_ | refine' g_max2 ?_ | refine' g_min2 ?_ | refine' g_and ?_ | refine' g_or ?_ | refine' g_orV ?_ | refine' g_andV ?_ | refine' g_notV ?_ | refine' g_m1 ?_ | refine' g_yes ?_ | refine' g_bm ?_ | refine' g_bm0 ?_
  | (refine' g_tyL ?h ?q; (case h => first | assumption | exact upd_same))
  | refine' g_m0 ?_ | refine' g_tB ?_ | refine' g_isS ?_ | refine' g_bT ?_ | refine' g_bF ?_ | refine' g_bNT ?_ | refine' g_callK ?_ | refine' g_bNF ?_
  | (refine' g_lenL ?h ?q; (case h => first | assumption | exact upd_same))
  | refine' g_un ?_ | refine' g_rint _ ?_ | refine' g_rabs ?_ | refine' g_sl ?_ 
  | (refine' g_ixL ?h ?a ?q; (case h => first | assumption | exact upd_same); (case a => with_unfolding_all rfl))
  | (refine' g_div ?h0 ?h1 ?q; (case h0 => with_unfolding_all first | decide | omega); (case h1 => with_unfolding_all first | decide | omega))
  | refine' g_sub ?_
  | (refine' g_setL ?h ?a ?q; (case h => first | assumption | exact upd_same); (case a => with_unfolding_all rfl))
  | refine' g_lst ?_ | refine' g_tup ?_
  | (refine' g_rEq ?h ?q; (case h => with_unfolding_all rfl)) | (refine' g_rNe ?h ?q; (case h => with_unfolding_all rfl)))
local macro_rules | `(tactic| walk_at "wn") => `(tactic| repeat walk_at "wn1")

/-! the classes of the program -/
structure ClsF (K : PySem.W.Frag) (C : Addr) (fs : List Str) : Prop where
  cl : Cls K C
  no : ∀ f ∈ fs, NoAttr K C f
abbrev regF : List Str := ["number", "source", "word", "armed"]
abbrev wsF : List Str := ["entries", "queue"]
abbrev sysF : List Str := ["process_limit", "number_limit", "tables", "sources", "sets", "next_thing"]
def regO (C dx : Addr) (n s : Int) (wd : Str) (ar : Bool) : HO := .ins C dx [("number", .int n), ("source", .int s), ("word", .str wd), ("armed", .bl ar)]
def wsO (C dx e q : Addr) : HO := .ins C dx [("entries", .ref e), ("queue", .ref q)]
theorem Same.new' {H : Hp} {l : Addr} {o : HO} (hl : H l = none) : Same H (upd H l o) := fun b u e => by rw [upd_ne (ne_of_none e hl)]; exact e
theorem inV_int (l : Int) : ∀ qs : List Int, inV (.int l) (qs.map V.int) = decide (l ∈ qs)
  | [] => rfl
  | x :: qs => by
    have ih := inV_int l qs
    unfold inV at ih ⊢
    rw [List.map_cons, List.any_cons, ih]
    have e : eqV (V.int x) (V.int l) = decide (x = l) := rfl
    rw [e]
    by_cases h : x = l
    · rw [decide_eq_true h, Bool.true_or]
      exact (decide_eq_true (by rw [h]; exact List.mem_cons_self)).symm
    · rw [decide_eq_false h, Bool.false_or]
      by_cases h2 : l ∈ qs
      · rw [decide_eq_true h2]
        exact (decide_eq_true (List.mem_cons_of_mem _ h2)).symm
      · rw [decide_eq_false h2]
        exact (decide_eq_false fun z => (List.mem_cons.mp z).elim (fun e => h e.symm) h2).symm
theorem flat_ints (qs : List Int) : (qs.map V.int).all flatV = true := by
  rw [List.all_map, List.all_eq_true]
  intro x _
  rfl
section
variable {P : Program} {w : World} {K : PySem.W.Frag} {mg : Str → Option Value} {base : Heap} {CR CW : Addr}
/-! Registration -/
def spRegInit (CR : Addr) : Sp := fun vs H Q _ => ∃ (a dx : Addr) (n s : Int) (wd : Str) (ar : Bool), vs = [.ref a, .int n, .int s, .str wd, .bl ar] ∧ H a = some (.ins CR dx []) ∧
  ∀ H', (∀ b, b ≠ a → H' b = H b) → H' a = some (regO CR dx n s wd ar) → Q .non H'
theorem scRegInit : FnScope ["self", "number", "source", "word", "armed"] ["self", "number", "source", "word", "armed"] (defScope sRegInit) := ⟨rfl, rfl, rfl, by decide +kernel, rfl, by decide +kernel, by decide +kernel⟩
theorem okRegInit {f : Addr} {fd : FuncData} (F : Fun K "__init__" "Registration.__init__" sRegInit f fd) (T : ClsF K CR regF) : FnOk P w K mg base CX0 1 f fd ["self", "number", "source", "word", "armed"] (spRegInit CR) := by
  refine F.ok scRegInit (fun vs H Q E h => ?_) (fun cdv A outer s H vs Q E hr h => ?_)
  · obtain ⟨_, _, _, _, _, _, rfl, _⟩ := h
    rfl
  · obtain ⟨a, dx, n, s, wd, ar, rfl, ha, k⟩ := h
    refine ⟨_, pss_cons (ps_fld (pv 0) (pv 1) rfl) (pss_cons (ps_fld (pv 0) (pv 2) rfl) (pss_cons (ps_fld (pv 0) (pv 3) rfl) (pss_one (ps_fld (pv 0) (pv 4) rfl)))), ?_⟩
    refine ⟨_, rfl, _, rfl, a, CR, dx, _, rfl, ha, T.cl, T.no _ (by decide), by decide, ?_⟩
    refine ⟨_, rfl, _, rfl, a, CR, dx, _, rfl, upd_same, T.cl, T.no _ (by decide), by show 1 < 1000; decide, ?_⟩
    refine ⟨_, rfl, _, rfl, a, CR, dx, _, rfl, upd_same, T.cl, T.no _ (by decide), by show 2 < 1000; decide, ?_⟩
    refine ⟨_, rfl, _, rfl, a, CR, dx, _, rfl, upd_same, T.cl, T.no _ (by decide), by show 3 < 1000; decide, ?_⟩
    exact k _ (fun b hb => by rw [upd_ne hb, upd_ne hb, upd_ne hb, upd_ne hb]) upd_same
/-! WaitingSet -/
def spWsInit (CW : Addr) : Sp := fun vs H Q _ => ∃ (a dx : Addr), vs = [.ref a] ∧ H a = some (.ins CW dx []) ∧
  ∀ H' e q, H e = none → H q = none → H' e = some (.dK []) → H' q = some (.lst []) → H' a = some (wsO CW dx e q) → (∀ b, b ≠ a → b ≠ e → b ≠ q → H' b = H b) → Q .non H'
theorem scWsInit : FnScope ["self"] ["self"] (defScope sWsInit) := ⟨rfl, rfl, rfl, by decide +kernel, rfl, by decide +kernel, by decide +kernel⟩
theorem okWsInit {f : Addr} {fd : FuncData} (F : Fun K "__init__" "WaitingSet.__init__" sWsInit f fd) (T : ClsF K CW wsF) : FnOk P w K mg base CX0 1 f fd ["self"] (spWsInit CW) := by
  refine F.ok scWsInit (fun vs H Q E h => ?_) (fun cdv A outer s H vs Q E hr h => ?_)
  · obtain ⟨_, _, rfl, _⟩ := h
    rfl
  · obtain ⟨a, dx, rfl, ha, k⟩ := h
    refine ⟨_, pss_cons (ps_fld (pv 0) pe_dnewK rfl) (pss_one (ps_fld (pv 0) (pe_lst pa_nil) rfl)), ?_⟩
    intro e he
    have nae : a ≠ e := ne_of_none ha he
    refine ⟨_, rfl, a, CW, dx, _, rfl, by rw [upd_ne nae]; exact ha, T.cl, T.no _ (by decide), by decide, ?_⟩
    refine ⟨Nat.zero_le _, fun q hq => ?_⟩
    have nqa : q ≠ a := fun z => by rw [z, upd_same] at hq; cases hq
    rw [upd_ne nqa] at hq
    have nqe : q ≠ e := fun z => by rw [z, upd_same] at hq; cases hq
    rw [upd_ne nqe] at hq
    refine ⟨_, rfl, a, CW, dx, _, rfl, by rw [upd_ne (Ne.symm nqa)]; exact upd_same, T.cl, T.no _ (by decide), by show 1 < 1000; decide, ?_⟩
    refine k _ e q he hq ?_ ?_ upd_same (fun b h1 h2 h3 => ?_)
    · rw [upd_ne (Ne.symm nae), upd_ne (Ne.symm nqe), upd_ne (Ne.symm nae), upd_same]
    · rw [upd_ne nqa, upd_same]
    · rw [upd_ne h1, upd_ne h3, upd_ne h1, upd_ne h2]
/-! append_pending -/
def qAdd (l : Int) (qs : List Int) : List Int := if l ∈ qs then qs else qs ++ [l]
def spAppend (CW : Addr) : Sp := fun vs H Q _ => ∃ (a dx e q : Addr) (l : Int) (qs : List Int), vs = [.ref a, .int l] ∧ H a = some (wsO CW dx e q) ∧ H q = some (.lst (qs.map V.int)) ∧ qs.length ≤ 10000 ∧
  ∀ H', H' q = some (.lst ((qAdd l qs).map V.int)) → (∀ b, b ≠ q → H' b = H b) → Q .non H'
theorem scAppend : FnScope ["self", "label"] ["self", "label"] (defScope sAppend) := ⟨rfl, rfl, rfl, by decide +kernel, rfl, by decide +kernel, by decide +kernel⟩
theorem okAppend {f : Addr} {fd : FuncData} (F : Fun K "append_pending" "WaitingSet.append_pending" sAppend f fd) (T : ClsF K CW wsF) : FnOk P w K mg base CX0 1 f fd ["self", "label"] (spAppend CW) := by
  refine F.ok scAppend (fun vs H Q E h => ?_) (fun cdv A outer s H vs Q E hr h => ?_)
  · obtain ⟨_, _, _, _, _, _, rfl, _⟩ := h
    rfl
  · obtain ⟨a, dx, e, q, l, qs, rfl, ha, hq, hl, k⟩ := h
    refine ⟨_, pss_one (ps_if (pt_cmpR op_notIn_seq (pv 1) (pe_fld (pv 0) rfl) (by rfl)) (pss_one (ps_expr (pe_bm PySem.F.plainAttrs_list PySem.F.slot_list_append PySem.F.type_list_append mt_append (pe_fld (pv 0) rfl) (pa_cons (pv 1) pa_nil)))) pss_nil), ?_⟩
    walk_at "wn"
    refine ⟨_, rfl, a, CW, dx, _, _, rfl, ha, T.cl, T.no _ (by decide), rfl, ?_⟩
    refine ⟨q, qs.map V.int, rfl, .inl (SqL.of hq), rfl, flat_ints qs, ?_⟩
    refine ⟨_, rfl, ?_⟩
    rw [inV_int]
    by_cases h : l ∈ qs
    · rw [decide_eq_true h]
      walk_at "wn"
      refine k H ?_ fun _ _ => rfl
      unfold qAdd
      rw [if_pos h]
      exact hq
    · rw [decide_eq_false h]
      walk_at "wn"
      refine ⟨_, rfl, a, CW, dx, _, _, rfl, ha, T.cl, T.no _ (by decide), rfl, ?_⟩
      refine ⟨.inl ⟨rfl, _, SqL.of hq⟩, ?_⟩
      refine ⟨_, rfl, q, _, _, rfl, rfl, hq, by rw [List.length_map, sizeLine_eq]; omega, ?_⟩
      refine k _ ?_ fun b hb => upd_ne hb
      unfold qAdd
      rw [if_neg h, upd_same, List.map_append]
      rfl
end
end Wn

namespace Wn
open PySem PySem.Spec PyProof.Rows L2 Evl
local macro_rules | `(tactic| walk_at "wn1") => `(tactic| first | ((with_reducible show (if (!decide _) = true then _ else _)); refine' g_nes ?_) | ((with_reducible show (if (decide _) = true then _ else _)); refine' g_es ?_) | with_reducible first
  | (refine' g_var ?h ?q; (case h => with_unfolding_all rfl))
  | refine' g_c ?_ | refine' g_op ?_ | refine' g_rI0 ?_ | refine' g_asg ?_ | refine' g_name ?_ | refine' g_seq ?_ | refine' g_ret ?_ | refine' g_retN ?_ | refine' g_next ?_ | refine' g_drop ?_
  | refine' g_nil ?_ | refine' g_cons ?_ | refine' g_cb ?_ | refine' g_test ?_ | refine' g_bl ?_ | refine' g_if ?_ | refine' g_ifs ?_ | refine' g_not ?_ | refine' g_part ?_ | refine' g_pint ?_ | refine' g_nopart ?_ | refine' g_call ?_
  | (refine' g_mul ?h ?q; (case h => with_unfolding_all first | exact Or.inl ⟨by decide, by decide⟩ | exact Or.inr ⟨by decide, by decide⟩ | exact Or.inl ⟨by omega, by omega⟩ | exact Or.inr ⟨by omega, by omega⟩))
  | (refine' g_mod ?h ?q; (case h => with_unfolding_all first | decide | omega))
  | refine' g_rIsN ?_ | refine' g_rNotN ?_ | refine' g_max2 ?_ | refine' g_min2 ?_ | refine' g_and ?_ | refine' g_or ?_ | refine' g_orV ?_ | refine' g_andV ?_ | refine' g_notV ?_ | refine' g_m1 ?_ | refine' g_yes ?_ | refine' g_bm ?_ | refine' g_bm0 ?_
  | (refine' g_tyL ?h ?q; (case h => first | assumption | exact upd_same))
  | refine' g_m0 ?_ | refine' g_tB ?_ | refine' g_isS ?_ | refine' g_bT ?_ | refine' g_bF ?_ | refine' g_bNT ?_ | refine' g_callK ?_ | refine' g_bNF ?_
  | (refine' g_lenL ?h ?q; (case h => first | assumption | exact upd_same))
  | refine' g_un ?_ | refine' g_rint _ ?_ | refine' g_rabs ?_ | refine' g_sl ?_ 
  | (refine' g_ixL ?h ?a ?q; (case h => first | assumption | exact upd_same); (case a => with_unfolding_all rfl))
  | (refine' g_div ?h0 ?h1 ?q; (case h0 => with_unfolding_all first | decide | omega); (case h1 => with_unfolding_all first | decide | omega))
  | refine' g_sub ?_
  | (refine' g_setL ?h ?a ?q; (case h => first | assumption | exact upd_same); (case a => with_unfolding_all rfl))
  | refine' g_lst ?_ | refine' g_tup ?_
  | (refine' g_rEq ?h ?q; (case h => with_unfolding_all rfl)) | (refine' g_rNe ?h ?q; (case h => with_unfolding_all rfl)))
local macro_rules | `(tactic| walk_at "wn") => `(tactic| repeat walk_at "wn1")

/-- a registration as data -/
structure Reg where
  num : Int
  src : Int
  word : Str
  armed : Bool
/-- the entries: labels, with what stands at the address of each -/
def entKV (ls : List Int) (ad : Int → Addr) : List (Key × V) := ls.map fun l => (Sum.inl l, .ref (ad l))
theorem ent_val (ls : List Int) (ad : Int → Addr) (l : Int) : valV (entKV ls ad) (Sum.inl l) = if l ∈ ls then some (.ref (ad l)) else none := by
  induction ls with
  | nil => rfl
  | cons x ls ih =>
    unfold entKV at ih ⊢
    rw [List.map_cons]
    by_cases h : x = l
    · subst h
      rw [valV_pos rfl, if_pos List.mem_cons_self]
    · rw [valV_neg (fun z => h (Sum.inl.inj z)), ih]
      by_cases h2 : l ∈ ls
      · rw [if_pos h2, if_pos (List.mem_cons_of_mem _ h2)]
      · rw [if_neg h2, if_neg fun z => (List.mem_cons.mp z).elim (fun e => h e.symm) h2]
theorem ent_put (ls : List Int) (ad : Int → Addr) (l : Int) (b : Addr) : putK (entKV ls ad) (Sum.inl l) (.ref b) = entKV (if l ∈ ls then ls else ls ++ [l]) (fun j => if j = l then b else ad j) := by
  unfold putK
  rw [valV_any, ent_val]
  by_cases h : l ∈ ls
  · rw [if_pos h, if_pos h]
    show List.map _ (entKV ls ad) = _
    unfold entKV
    rw [List.map_map]
    refine List.map_congr_left fun x _ => ?_
    by_cases e : x = l
    · show (if (Sum.inl x : Key) = Sum.inl l then _ else _) = _
      rw [if_pos (by rw [e])]
      show (_, V.ref b) = (_, V.ref (if x = l then b else ad x))
      rw [if_pos e]
    · show (if (Sum.inl x : Key) = Sum.inl l then _ else _) = _
      rw [if_neg (fun z => e (Sum.inl.inj z))]
      show _ = (_, V.ref (if x = l then b else ad x))
      rw [if_neg e]
  · rw [if_neg h, if_neg h]
    show entKV ls ad ++ _ = _
    unfold entKV
    rw [List.map_append]
    have e1 : ls.map (fun j => ((Sum.inl j : Key), V.ref (if j = l then b else ad j))) = ls.map fun j => (Sum.inl j, V.ref (ad j)) := List.map_congr_left fun x hx => by rw [if_neg fun z : x = l => h (by rw [← z]; exact hx)]
    rw [e1]
    congr 1
    show [(_, V.ref b)] = [(_, V.ref (if l = l then b else ad l))]
    rw [if_pos rfl]
/-- at the labels' addresses stand the registrations -/
def RegsAt (CR : Addr) (H : Hp) (ls : List Int) (ad : Int → Addr) (reg : Int → Reg) : Prop := ∀ l ∈ ls, ∃ dx, H (ad l) = some (regO CR dx (reg l).num (reg l).src (reg l).word (reg l).armed)
theorem RegsAt.same {CR : Addr} {H H' : Hp} {ls : List Int} {ad : Int → Addr} {reg : Int → Reg} (r : RegsAt CR H ls ad reg) (s : ∀ b C dx fs, H b = some (.ins C dx fs) → C = CR → H' b = H b) : RegsAt CR H' ls ad reg := fun l hl => by
  obtain ⟨dx, e⟩ := r l hl
  exact ⟨dx, (s _ _ _ _ e rfl).trans e⟩
section
variable {P : Program} {w : World} {K : PySem.W.Frag} {mg : Str → Option Value} {base : Heap} {CR CW : Addr}
theorem str_inj' {x y : Str} : V.str x = V.str y ↔ x = y := ⟨fun h => by cases h; rfl, fun h => by rw [h]⟩
def settled (reg : Int → Reg) (l : Int) : Int → Reg := fun j => if j = l ∧ (reg l).word = "once" then { reg l with armed := false } else reg j
theorem settled_at {reg : Int → Reg} {l : Int} (h : (reg l).word = "once") : settled reg l l = { reg l with armed := false } := if_pos ⟨rfl, h⟩
theorem settled_ne {reg : Int → Reg} {l j : Int} (h : j ≠ l) : settled reg l j = reg j := if_neg fun z => h z.1
theorem settled_no {reg : Int → Reg} {l j : Int} (h : (reg l).word ≠ "once") : settled reg l j = reg j := if_neg fun z => h z.2
/-! put -/
def spPut (CW : Addr) : Sp := fun vs H Q _ => ∃ (a dx e q b : Addr) (l : Int) (r : Bool) (qs : List Int) (kvs : List (Key × V)), vs = [.ref a, .int l, .ref b, .bl r] ∧ H a = some (wsO CW dx e q) ∧ H q = some (.lst (qs.map V.int)) ∧ H e = some (.dK kvs) ∧ qs.length ≤ 10000 ∧ kvs.length ≤ 10000 ∧
  ∀ H', H' e = some (.dK (putK kvs (Sum.inl l) (.ref b))) → H' q = some (.lst ((if r = true then qAdd l qs else qs).map V.int)) → (∀ x, x ≠ e → x ≠ q → H' x = H x) → Q .non H'
theorem scPut : FnScope ["self", "label", "kept", "ready"] ["self", "label", "kept", "ready"] (defScope sPut) := ⟨rfl, rfl, rfl, by decide +kernel, rfl, by decide +kernel, by decide +kernel⟩
theorem okPut {f fA : Addr} {fd fdA : FuncData} (F : Fun K "put" "WaitingSet.put" sPut f fd) (T : ClsF K CW wsF) (GA : FnOk P w K mg base CX0 1 fA fdA ["self", "label"] (spAppend CW)) (mA : Meth K CW "append_pending" fA) (bA : Binds K fdA ["self", "label"] []) :
    FnOk P w K mg base CX0 2 f fd ["self", "label", "kept", "ready"] (spPut CW) := by
  refine F.ok scPut (fun vs H Q E h => ?_) (fun cdv A outer s H vs Q E hr h => ?_)
  · obtain ⟨_, _, _, _, _, _, _, _, _, rfl, _⟩ := h
    rfl
  · obtain ⟨a, dx, e, q, b, l, r, qs, kvs, rfl, ha, hq, he, hl, hl2, k⟩ := h
    have hu := hu_of hr
    refine ⟨_, pss_cons (ps_dput hu (pe_fld (pv 0) rfl) (pv 1) (pv 2) rfl) (pss_one (ps_if (pt_val (pv 3)) (pss_one (ps_expr (pe_meth (pv 0) T.cl mA GA hr bA .nil pass0 (pa_cons (pv 1) pa_nil)))) pss_nil)), ?_⟩
    have nae : a ≠ e := ne_of ha he (by intro z; cases z)
    have nqe : q ≠ e := ne_of hq he (by intro z; cases z)
    refine ⟨_, rfl, _, rfl, a, CW, dx, _, _, rfl, ha, T.cl, T.no _ (by decide), rfl, ?_⟩
    refine ⟨_, rfl, e, _, rfl, DPut.k (k := Sum.inl l) he (by rw [sizeLine_eq]; omega), ?_⟩
    refine ⟨_, rfl, r, rfl, ?_⟩
    have hq1 : upd H e (.dK (putK kvs (Sum.inl l) (.ref b))) q = some (.lst (qs.map V.int)) := by rw [upd_ne nqe]; exact hq
    cases r with
    | true =>
      walk_at "wn"
      refine ⟨_, rfl, a, dx, _, rfl, by rw [upd_ne nae]; exact ha, rfl, ?_⟩
      walk_at "wn"
      refine ⟨a, dx, e, q, l, qs, rfl, by rw [upd_ne nae]; exact ha, hq1, hl, fun H' h1 h2 => ?_⟩
      refine k H' ?_ h1 fun x n1 n2 => ?_
      · rw [h2 e (Ne.symm nqe), upd_same]
      · rw [h2 x n2, upd_ne n1]
    | false =>
      walk_at "wn"
      exact k _ upd_same hq1 fun x n1 n2 => upd_ne n1
/-! settle -/
def spSettle (CW CR : Addr) : Sp := fun vs H Q _ => ∃ (a dx e q : Addr) (l : Int) (qs ls : List Int) (ad : Int → Addr) (reg : Int → Reg), vs = [.ref a, .int l] ∧ H a = some (wsO CW dx e q) ∧ H q = some (.lst (qs.map V.int)) ∧ H e = some (.dK (entKV ls ad)) ∧ RegsAt CR H ls ad reg ∧ l ∈ ls ∧
  CW ≠ CR ∧ qs.length ≤ 10000 ∧ ls.length ≤ 10000 ∧
  ∀ H' ad', H' e = some (.dK (entKV ls ad')) → H' q = some (.lst ((if (reg l).word = "level" then qs ++ [l] else qs).map V.int)) → (∀ j, j ≠ l → ad' j = ad j) → (ad' l = ad l ∨ H (ad' l) = none) →
    RegsAt CR H' ls ad' (settled reg l) → (∀ x o, x ≠ e → x ≠ q → H x = some o → H' x = some o) → Q .non H'
theorem scSettle : FnScope ["self", "label", "kept"] ["self", "label"] (defScope sSettle) := ⟨rfl, rfl, rfl, by decide +kernel, rfl, by decide +kernel, by decide +kernel⟩
theorem okSettle {f fI : Addr} {fd fdI : FuncData} (F : Fun K "settle" "WaitingSet.settle" sSettle f fd) (T : ClsF K CW wsF) (TR : ClsF K CR regF) (gR : mg "Registration" = some (.ref CR)) (M : Mk K CR fI) (GI : FnOk P w K mg base CX0 1 fI fdI ["self", "number", "source", "word", "armed"] (spRegInit CR)) (bI : Binds K fdI ["self", "number", "source", "word", "armed"] []) :
    FnOk P w K mg base CX0 3 f fd ["self", "label"] (spSettle CW CR) := by
  refine F.ok scSettle (fun vs H Q E h => ?_) (fun cdv A outer s H vs Q E hr h => ?_)
  · obtain ⟨_, _, _, _, _, _, _, _, _, rfl, _⟩ := h
    rfl
  · obtain ⟨a, dx, e, q, l, qs, ls, ad, reg, rfl, ha, hq, he, hR, hl, nWR, hz, hz2, k⟩ := h
    have hu := hu_of hr
    refine ⟨_, pss_cons (ps_set (i := 2) scSettle.nd rfl (Or.inl rfl) (pe_dget hu (pe_fld (pv 0) rfl) (pv 1) (fun _ _ => rfl)))
      (pss_cut (ps_if (pt_cmpR op_eq (pe_fld (pv 2) rfl) pe_str (nomark _)) (pss_one (ps_expr (pe_bm PySem.F.plainAttrs_list PySem.F.slot_list_append PySem.F.type_list_append mt_append (pe_fld (pv 0) rfl) (pa_cons (pv 1) pa_nil)))) pss_nil)
      (pss_one (ps_if (pt_cmpR op_eq (pe_fld (pv 2) rfl) pe_str (nomark _)) (pss_one (ps_dput hu (pe_fld (pv 0) rfl) (pv 1) (pe_make M GI hr (by rfl) gR bI .nil pass0 (pa_cons (pe_fld (pv 2) rfl) (pa_cons (pe_fld (pv 2) rfl) (pa_cons (pe_fld (pv 2) rfl) (pa_cons pe_bl pa_nil))))) rfl)) pss_nil))), ?_⟩
    obtain ⟨dr, hr1⟩ := hR l hl
    have nqe : q ≠ e := ne_of hq he (by intro z; cases z)
    have nae : a ≠ e := ne_of ha he (by intro z; cases z)
    have naq : a ≠ q := ne_of ha hq (by intro z; cases z)
    have nre : ad l ≠ e := ne_of hr1 he (by intro z; cases z)
    have nrq : ad l ≠ q := ne_of hr1 hq (by intro z; cases z)
    refine ⟨_, rfl, a, CW, dx, _, _, rfl, ha, T.cl, T.no _ (by decide), rfl, ?_⟩
    have hv : valV (entKV ls ad) (Sum.inl l) = some (.ref (ad l)) := by rw [ent_val, if_pos hl]
    refine ⟨_, rfl, e, _, rfl, hv ▸ DGet.k (k := Sum.inl l) he, ?_⟩
    refine ⟨fun σ' H1 => σ' = [some (.ref a), some (.int l), some (.ref (ad l))] ∧ H1 q = some (.lst ((if (reg l).word = "level" then qs ++ [l] else qs).map V.int)) ∧ ∀ x, x ≠ q → H1 x = H x, ?_, ?_⟩
    · refine ⟨_, rfl, ad l, CR, dr, _, _, rfl, hr1, TR.cl, TR.no _ (by decide), rfl, rfl, _, rfl, ?_⟩
      by_cases h : (reg l).word = "level"
      · rw [decide_eq_true (str_inj'.mpr h)]
        walk_at "wn"
        refine ⟨_, rfl, a, CW, dx, _, _, rfl, ha, T.cl, T.no _ (by decide), rfl, ?_⟩
        refine ⟨.inl ⟨rfl, _, SqL.of hq⟩, ?_⟩
        refine ⟨_, rfl, q, _, _, rfl, rfl, hq, by rw [List.length_map, sizeLine_eq]; omega, ?_⟩
        refine ⟨rfl, ?_, fun x n => upd_ne n⟩
        rw [if_pos h, upd_same, List.map_append]
        rfl
      · rw [decide_eq_false (fun z => h (str_inj'.mp z))]
        walk_at "wn"
        exact ⟨rfl, by rw [if_neg h]; exact hq, fun _ _ => rfl⟩
    rintro σ' H1 ⟨rfl, hq1, h1⟩
    have hr2 : H1 (ad l) = _ := (h1 _ nrq).trans hr1
    have he1 : H1 e = _ := (h1 _ (Ne.symm nqe)).trans he
    have ha1 : H1 a = _ := (h1 _ naq).trans ha
    have hR1 : ∀ j ∈ ls, ∃ dx, H1 (ad j) = some (regO CR dx (reg j).num (reg j).src (reg j).word (reg j).armed) := fun j hj => by
      obtain ⟨dj, ej⟩ := hR j hj
      exact ⟨dj, (h1 _ (ne_of ej hq (by intro z; cases z))).trans ej⟩
    refine ⟨_, rfl, ad l, CR, dr, _, _, rfl, hr2, TR.cl, TR.no _ (by decide), rfl, rfl, _, rfl, ?_⟩
    by_cases h : (reg l).word = "once"
    · rw [decide_eq_true (str_inj'.mpr h)]
      walk_at "wn"
      refine ⟨_, rfl, ad l, CR, dr, _, _, rfl, hr2, TR.cl, TR.no _ (by decide), rfl, ?_⟩
      refine ⟨_, rfl, ad l, CR, dr, _, _, rfl, hr2, TR.cl, TR.no _ (by decide), rfl, ?_⟩
      refine ⟨_, rfl, ad l, CR, dr, _, _, rfl, hr2, TR.cl, TR.no _ (by decide), rfl, ?_⟩
      walk_at "wn"
      intro x dx2 hx hdx ndx
      refine ⟨x, dx2, _, _, _, _, rfl, upd_same, fun H2 k1 k2 => ⟨rfl, ?_⟩⟩
      have k3 : ∀ b o, H1 b = some o → H2 b = some o := fun b o e => by
        rw [k1 b (ne_of_none e hx), upd_ne (ne_of_none e hx), upd_ne (ne_of_none e hdx)]
        exact e
      refine ⟨_, rfl, a, CW, dx, _, _, rfl, k3 _ _ ha1, T.cl, T.no _ (by decide), rfl, ?_⟩
      refine ⟨_, rfl, e, _, rfl, DPut.k (k := Sum.inl l) (k3 _ _ he1) (by rw [sizeLine_eq]; unfold entKV; rw [List.length_map]; omega), ?_⟩
      rw [ent_put, if_pos hl]
      have nxe : x ≠ e := fun z => by rw [z, he1] at hx; cases hx
      refine k _ _ upd_same ?_ (fun j hj => if_neg hj) (.inr ?_) (fun j hj => ?_) fun b o n1 n2 e2 => ?_
      · rw [upd_ne nqe]
        exact k3 _ _ hq1
      · show H (if l = l then x else ad l) = none
        rw [if_pos rfl, ← h1 x (fun z => by rw [z, hq1] at hx; cases hx)]
        exact hx
      · show ∃ dx, upd H2 e _ (if j = l then x else ad j) = _
        by_cases ej : j = l
        · rw [ej, if_pos rfl, settled_at h, upd_ne nxe, k2]
          exact ⟨dx2, rfl⟩
        · rw [if_neg ej, settled_ne ej]
          obtain ⟨dj, e3⟩ := hR1 j hj
          rw [upd_ne (ne_of e3 he1 (by intro z; cases z))]
          exact ⟨dj, k3 _ _ e3⟩
      · rw [upd_ne n1]
        exact k3 _ _ ((h1 _ n2).trans e2)
    · rw [decide_eq_false (fun z => h (str_inj'.mp z))]
      walk_at "wn"
      refine k H1 ad he1 hq1 (fun _ _ => rfl) (.inl rfl) (fun j hj => ?_) fun b o n1 n2 e2 => (h1 _ n2).trans e2
      rw [settled_no h]
      exact hR1 j hj
/-! label_of -/
def keyOf (reg : Int → Reg) (n s : Int) (l : Int) : Bool := decide ((reg l).num = n) && decide ((reg l).src = s)
def spLabelOf (CW CR : Addr) : Sp := fun vs H Q _ => ∃ (a dx e q : Addr) (n s : Int) (ls : List Int) (ad : Int → Addr) (reg : Int → Reg), vs = [.ref a, .int n, .int s] ∧ H a = some (wsO CW dx e q) ∧ H e = some (.dK (entKV ls ad)) ∧ RegsAt CR H ls ad reg ∧
  ∀ H', Same H H' → Q (match ls.find? (keyOf reg n s) with | some l => .int l | none => .non) H'
theorem scLabelOf : FnScope ["self", "number", "source", "label", "kept"] ["self", "number", "source"] (defScope sLabelOf) := ⟨rfl, rfl, rfl, by decide +kernel, rfl, by decide +kernel, by decide +kernel⟩
theorem okLabelOf {f : Addr} {fd : FuncData} (F : Fun K "label_of" "WaitingSet.label_of" sLabelOf f fd) (T : ClsF K CW wsF) (TR : ClsF K CR regF) : FnOk P w K mg base CX0 1 f fd ["self", "number", "source"] (spLabelOf CW CR) := by
  refine F.ok scLabelOf (fun vs H Q E h => ?_) (fun cdv A outer s H vs Q E hr h => ?_)
  · obtain ⟨_, _, _, _, _, _, _, _, _, rfl, _⟩ := h
    rfl
  · obtain ⟨a, dx, e, q, n, s, ls, ad, reg, rfl, ha, he, hR, k⟩ := h
    refine ⟨_, pss_cons (ps_lock (ps_for PassesOwn.never rfl (pi_items (pe_fld (pv 0) rfl)) (pg_tup rfl (pgs_cons (pg_name (i := 3) scLabelOf.nd rfl (Or.inl rfl)) (pgs_cons (pg_name (i := 4) scLabelOf.nd rfl (Or.inl rfl)) pgs_nil)))
        (pss_one (ps_if (PW.pt (pw_and (pt_cmpR op_eq (pe_fld (pv 4) rfl) (pv 1) (nomark _)) (pw_and1 (pt_cmpR op_eq (pe_fld (pv 4) rfl) (pv 2) (nomark _))))) (pss_one (ps_ret (pv 3))) pss_nil))))
      (pss_one (ps_ret pe_non)), ?_⟩
    have nae : a ≠ e := ne_of ha he (by intro z; cases z)
    refine ⟨e, _, he, trivial, fun od => ?_⟩
    have ha1 : upd H e (.frz od (.dK (entKV ls ad))) a = some (wsO CW dx e q) := by rw [upd_ne nae]; exact ha
    refine ⟨_, rfl, a, CW, dx, _, _, rfl, ha1, T.cl, T.no _ (by decide), rfl, ?_⟩
    refine ⟨e, od, entKV ls ad, rfl, upd_same, ?_⟩
    -- behind the lock
    have un : ∀ {H1 : Hp}, Same (upd H e (.frz od (.dK (entKV ls ad)))) H1 → Same H (upd H1 e (.dK (entKV ls ad))) := fun {H1} sm b o e1 => by
      by_cases hb : b = e
      · rw [hb, upd_same, ← he, ← hb, e1]
      · rw [upd_ne hb]
        exact sm _ _ (by rw [upd_ne hb]; exact e1)
    have hR1 : ∀ j ∈ ls, ∃ dx, upd H e (.frz od (.dK (entKV ls ad))) (ad j) = some (regO CR dx (reg j).num (reg j).src (reg j).word (reg j).armed) := fun j hj => by
      obtain ⟨dj, ej⟩ := hR j hj
      exact ⟨dj, by rw [upd_ne (ne_of ej he (by intro z; cases z))]; exact ej⟩
    refine for_it walk_items (fun i σ' H1 => ∃ u v : Option V, σ' = [some (.ref a), some (.int n), some (.int s), u, v] ∧ Same (upd H e (.frz od (.dK (entKV ls ad)))) H1 ∧ ∀ j l, ls[j]? = some l → j < i → keyOf reg n s l = false) ⟨_, _, rfl, Same.refl _, fun _ _ _ z => absurd z (Nat.not_lt_zero _)⟩ (fun i σ' H1 _ ⟨_, _, _, sm, _⟩ => sm _ _ upd_same) ?_ ?_
    · rintro i x σ' H1 H2 hi ⟨u, v, rfl, sm, hn⟩ ⟨T1, x1, y1, rfl, nT, rfl, ex, ey⟩
      have hi' : i < ls.length := by unfold entKV at hi; rwa [List.length_map] at hi
      have e1 : (entKV ls ad)[i]? = some (Sum.inl ls[i], .ref (ad ls[i])) := by
        unfold entKV
        rw [List.getElem?_map, List.getElem?_eq_getElem hi']
        rfl
      have ex : (entKV ls ad)[i]?.map (fun kv => kV kv.1) = some x1 := ex
      have ey : (entKV ls ad)[i]?.map Prod.snd = some y1 := ey
      rw [e1] at ex ey
      cases ex
      cases ey
      have smT := sm.trans (Same.new' (o := .tup [V.int ls[i], V.ref (ad ls[i])]) nT)
      obtain ⟨dr, er⟩ := hR1 ls[i] (List.getElem_mem hi')
      have er2 := smT _ _ er
      refine ⟨T1, _, rfl, SqT.of upd_same, rfl, _, _, rfl, ?_⟩
      walk_at "wn"
      refine ⟨_, _, rfl, ?_⟩
      walk_at "wn"
      refine ⟨rfl, ?_⟩
      refine ⟨_, rfl, ad ls[i], CR, dr, _, _, rfl, er2, TR.cl, TR.no _ (by decide), rfl, _, rfl, rfl, _, rfl, ?_⟩
      have no : keyOf reg n s ls[i] = false → ∃ u v : Option V, ([some (.ref a), some (.int n), some (.int s), some (.int ls[i]), some (.ref (ad ls[i]))] : L2.St) = [some (.ref a), some (.int n), some (.int s), u, v] ∧ Same (upd H e (.frz od (.dK (entKV ls ad)))) (upd H1 T1 (.tup [V.int ls[i], V.ref (ad ls[i])])) ∧ ∀ j l, ls[j]? = some l → j < i + 1 → keyOf reg n s l = false := fun hk => ⟨_, _, rfl, smT, fun j l ej hj => by
        rcases Nat.lt_or_ge j i with z | z
        · exact hn j l ej z
        · obtain rfl : j = i := by omega
          rw [List.getElem?_eq_getElem hi'] at ej
          cases ej
          exact hk⟩
      by_cases h1 : (reg ls[i]).num = n
      · rw [decide_eq_true (by rw [h1])]
        walk_at "wn"
        refine ⟨_, rfl, ad ls[i], CR, dr, _, _, rfl, er2, TR.cl, TR.no _ (by decide), rfl, _, rfl, rfl, _, rfl, ?_⟩
        by_cases h2 : (reg ls[i]).src = s
        · rw [decide_eq_true (by rw [h2])]
          walk_at "wn"
          refine ⟨smT _ _ upd_same, ?_⟩
          have hf : ls.find? (keyOf reg n s) = some ls[i] := by
            rw [List.find?_eq_some_iff_getElem]
            refine ⟨by unfold keyOf; rw [decide_eq_true h1, decide_eq_true h2]; rfl, i, hi', rfl, fun j hj => ?_⟩
            rw [hn j _ (List.getElem?_eq_getElem (by omega)) hj]
            rfl
          have z := k _ (un smT)
          rw [hf] at z
          exact z
        · rw [decide_eq_false fun z => h2 (V.int.inj z)]
          walk_at "wn"
          exact no (by unfold keyOf; rw [decide_eq_false h2, Bool.and_false])
      · rw [decide_eq_false fun z => h1 (V.int.inj z)]
        walk_at "wn"
        exact no (by unfold keyOf; rw [decide_eq_false h1, Bool.false_and])
    · rintro σ' H1 ⟨u, v, rfl, sm, hn⟩
      refine ⟨sm _ _ upd_same, ?_⟩
      walk_at "wn"
      have hf : ls.find? (keyOf reg n s) = none := by
        rw [List.find?_eq_none]
        intro l hl
        obtain ⟨j, hj, rfl⟩ := List.getElem_of_mem hl
        rw [hn j _ (List.getElem?_eq_getElem hj) (by unfold entKV; rw [List.length_map]; exact hj)]
        exact Bool.false_ne_true
      have z := k _ (un sm)
      rw [hf] at z
      exact z
/-! notice -/
def noticeQ (reg : Int → Reg) (s : Int) (ls qs : List Int) : List Int := ls.foldl (fun acc l => if (reg l).src = s ∧ (reg l).armed = true then qAdd l acc else acc) qs
theorem notice_len (reg : Int → Reg) (s : Int) : ∀ ls qs : List Int, (noticeQ reg s ls qs).length ≤ qs.length + ls.length
  | [], _ => Nat.le_refl _
  | l :: ls, qs => by
    have := notice_len reg s ls (if (reg l).src = s ∧ (reg l).armed = true then qAdd l qs else qs)
    have h2 : (if (reg l).src = s ∧ (reg l).armed = true then qAdd l qs else qs).length ≤ qs.length + 1 := by
      unfold qAdd
      split
      · split
        · omega
        · rw [List.length_append]
          exact Nat.le_refl _
      · omega
    refine Nat.le_trans this ?_
    rw [List.length_cons]
    omega
theorem notice_step (reg : Int → Reg) (s : Int) (ls qs : List Int) {i : Nat} (hi : i < ls.length) : noticeQ reg s (ls.take (i + 1)) qs = if (reg ls[i]).src = s ∧ (reg ls[i]).armed = true then qAdd ls[i] (noticeQ reg s (ls.take i) qs) else noticeQ reg s (ls.take i) qs := by
  unfold noticeQ
  rw [List.take_add_one, List.getElem?_eq_getElem hi, List.foldl_append]
  rfl
def spNotice (CW CR : Addr) : Sp := fun vs H Q _ => ∃ (a dx e q : Addr) (s : Int) (qs ls : List Int) (ad : Int → Addr) (reg : Int → Reg), vs = [.ref a, .int s] ∧ H a = some (wsO CW dx e q) ∧ H q = some (.lst (qs.map V.int)) ∧ H e = some (.dK (entKV ls ad)) ∧ RegsAt CR H ls ad reg ∧ qs.length ≤ 4000 ∧ ls.length ≤ 4000 ∧
  ∀ H', H' q = some (.lst ((noticeQ reg s ls qs).map V.int)) → (∀ b o, b ≠ q → H b = some o → H' b = some o) → Q .non H'
theorem scNotice : FnScope ["self", "source", "label", "kept"] ["self", "source"] (defScope sNotice) := ⟨rfl, rfl, rfl, by decide +kernel, rfl, by decide +kernel, by decide +kernel⟩
theorem okNotice {f fA : Addr} {fd fdA : FuncData} (F : Fun K "notice" "WaitingSet.notice" sNotice f fd) (T : ClsF K CW wsF) (TR : ClsF K CR regF) (GA : FnOk P w K mg base CX0 1 fA fdA ["self", "label"] (spAppend CW)) (mA : Meth K CW "append_pending" fA) (bA : Binds K fdA ["self", "label"] []) :
    FnOk P w K mg base CX0 2 f fd ["self", "source"] (spNotice CW CR) := by
  refine F.ok scNotice (fun vs H Q E h => ?_) (fun cdv A outer s H vs Q E hr h => ?_)
  · obtain ⟨_, _, _, _, _, _, _, _, _, rfl, _⟩ := h
    rfl
  · obtain ⟨a, dx, e, q, s, qs, ls, ad, reg, rfl, ha, hq, he, hR, hz, hz2, k⟩ := h
    refine ⟨_, pss_one (ps_lock (ps_for PassesOwn.never rfl (pi_items (pe_fld (pv 0) rfl)) (pg_tup rfl (pgs_cons (pg_name (i := 2) scNotice.nd rfl (Or.inl rfl)) (pgs_cons (pg_name (i := 3) scNotice.nd rfl (Or.inl rfl)) pgs_nil)))
        (pss_one (ps_if (PW.pt (pw_and (pt_cmpR op_eq (pe_fld (pv 3) rfl) (pv 1) (nomark _)) (pw_and1 (pt_val (pe_fld (pv 3) rfl))))) (pss_one (ps_expr (pe_meth (pv 0) T.cl mA GA hr bA .nil pass0 (pa_cons (pv 2) pa_nil)))) pss_nil)))), ?_⟩
    have nae : a ≠ e := ne_of ha he (by intro z; cases z)
    have naq : a ≠ q := ne_of ha hq (by intro z; cases z)
    have nqe : q ≠ e := ne_of hq he (by intro z; cases z)
    refine ⟨e, _, he, trivial, fun od => ?_⟩
    have ha1 : upd H e (.frz od (.dK (entKV ls ad))) a = some (wsO CW dx e q) := by rw [upd_ne nae]; exact ha
    have hq1 : upd H e (.frz od (.dK (entKV ls ad))) q = some (.lst (qs.map V.int)) := by rw [upd_ne nqe]; exact hq
    refine ⟨_, rfl, a, CW, dx, _, _, rfl, ha1, T.cl, T.no _ (by decide), rfl, ?_⟩
    refine ⟨e, od, entKV ls ad, rfl, upd_same, ?_⟩
    have hR1 : ∀ j ∈ ls, ∃ dx, upd H e (.frz od (.dK (entKV ls ad))) (ad j) = some (regO CR dx (reg j).num (reg j).src (reg j).word (reg j).armed) ∧ ad j ≠ q := fun j hj => by
      obtain ⟨dj, ej⟩ := hR j hj
      exact ⟨dj, by rw [upd_ne (ne_of ej he (by intro z; cases z))]; exact ej, ne_of ej hq (by intro z; cases z)⟩
    have un : ∀ {H1 : Hp}, (∀ b o, b ≠ q → upd H e (.frz od (.dK (entKV ls ad))) b = some o → H1 b = some o) → ∀ b o, b ≠ q → H b = some o → upd H1 e (.dK (entKV ls ad)) b = some o := fun {H1} sm b o n e1 => by
      by_cases hb : b = e
      · rw [hb, upd_same, ← he, ← hb, e1]
      · rw [upd_ne hb]
        exact sm _ _ n (by rw [upd_ne hb]; exact e1)
    refine for_it walk_items (fun i σ' H1 => ∃ u v : Option V, σ' = [some (.ref a), some (.int s), u, v] ∧ (∀ b o, b ≠ q → upd H e (.frz od (.dK (entKV ls ad))) b = some o → H1 b = some o) ∧ H1 q = some (.lst ((noticeQ reg s (ls.take i) qs).map V.int))) ⟨_, _, rfl, fun _ _ _ z => z, hq1⟩ (fun i σ' H1 _ ⟨_, _, _, sm, _⟩ => sm _ _ (Ne.symm nqe) upd_same) ?_ ?_
    · rintro i x σ' H1 H2 hi ⟨u, v, rfl, sm, hqi⟩ ⟨T1, x1, y1, rfl, nT, rfl, ex, ey⟩
      have hi' : i < ls.length := by unfold entKV at hi; rwa [List.length_map] at hi
      have e1 : (entKV ls ad)[i]? = some (Sum.inl ls[i], .ref (ad ls[i])) := by
        unfold entKV
        rw [List.getElem?_map, List.getElem?_eq_getElem hi']
        rfl
      have ex : (entKV ls ad)[i]?.map (fun kv => kV kv.1) = some x1 := ex
      have ey : (entKV ls ad)[i]?.map Prod.snd = some y1 := ey
      rw [e1] at ex ey
      cases ex
      cases ey
      have nT2 := Same.new' (o := .tup [V.int ls[i], V.ref (ad ls[i])]) nT
      have smT : ∀ b o, b ≠ q → upd H e (.frz od (.dK (entKV ls ad))) b = some o → upd H1 T1 (.tup [V.int ls[i], V.ref (ad ls[i])]) b = some o := fun b o n z => nT2 _ _ (sm b o n z)
      have hqT := nT2 _ _ hqi
      obtain ⟨dr, er, nrq⟩ := hR1 ls[i] (List.getElem_mem hi')
      have er2 := smT _ _ nrq er
      have st := notice_step reg s ls qs hi'
      refine ⟨T1, _, rfl, SqT.of upd_same, rfl, _, _, rfl, ?_⟩
      walk_at "wn"
      refine ⟨_, _, rfl, ?_⟩
      walk_at "wn"
      refine ⟨rfl, ?_⟩
      refine ⟨_, rfl, ad ls[i], CR, dr, _, _, rfl, er2, TR.cl, TR.no _ (by decide), rfl, _, rfl, rfl, _, rfl, ?_⟩
      by_cases h1 : (reg ls[i]).src = s
      · rw [decide_eq_true (by rw [h1])]
        walk_at "wn"
        refine ⟨_, rfl, ad ls[i], CR, dr, _, _, rfl, er2, TR.cl, TR.no _ (by decide), rfl, _, rfl, ?_⟩
        cases h2 : (reg ls[i]).armed with
        | true =>
          walk_at "wn"
          refine ⟨_, rfl, a, dx, _, rfl, smT _ _ naq ha1, rfl, ?_⟩
          walk_at "wn"
          have hl3 := notice_len reg s (ls.take i) qs
          rw [List.length_take] at hl3
          refine ⟨a, dx, e, q, ls[i], _, rfl, smT _ _ naq ha1, hqT, by omega, fun H' k1 k2 => ?_⟩
          refine ⟨_, _, rfl, fun b o n z => by rw [k2 b n]; exact smT b o n z, ?_⟩
          rw [st, if_pos ⟨h1, h2⟩]
          exact k1
        | false =>
          walk_at "wn"
          refine ⟨_, _, rfl, smT, ?_⟩
          rw [st, if_neg fun z => by rw [h2] at z; exact Bool.noConfusion z.2]
          exact hqT
      · rw [decide_eq_false fun z => h1 (V.int.inj z)]
        walk_at "wn"
        refine ⟨_, _, rfl, smT, ?_⟩
        rw [st, if_neg fun z => h1 z.1]
        exact hqT
    · rintro σ' H1 ⟨u, v, rfl, sm, hqi⟩
      refine ⟨sm _ _ (Ne.symm nqe) upd_same, ?_⟩
      have e3 : ls.take (entKV ls ad).length = ls := by unfold entKV; rw [List.length_map, List.take_length]
      rw [e3] at hqi
      exact k _ (by rw [upd_ne nqe]; exact hqi) (un sm)
end
end Wn

namespace Wn
open PySem PySem.Spec PyProof.Rows L2 Evl
local macro_rules | `(tactic| walk_at "wn1") => `(tactic| first | ((with_reducible show (if (!decide _) = true then _ else _)); refine' g_nes ?_) | ((with_reducible show (if (decide _) = true then _ else _)); refine' g_es ?_) | with_reducible first
  | (refine' g_var ?h ?q; (case h => with_unfolding_all rfl))
  | refine' g_c ?_ | refine' g_op ?_ | refine' g_rI0 ?_ | refine' g_asg ?_ | refine' g_name ?_ | refine' g_seq ?_ | refine' g_ret ?_ | refine' g_retN ?_ | refine' g_next ?_ | refine' g_drop ?_
  | refine' g_nil ?_ | refine' g_cons ?_ | refine' g_cb ?_ | refine' g_test ?_ | refine' g_bl ?_ | refine' g_if ?_ | refine' g_ifs ?_ | refine' g_not ?_ | refine' g_part ?_ | refine' g_pint ?_ | refine' g_nopart ?_ | refine' g_call ?_
  | (refine' g_mul ?h ?q; (case h => with_unfolding_all first | exact Or.inl ⟨by decide, by decide⟩ | exact Or.inr ⟨by decide, by decide⟩ | exact Or.inl ⟨by omega, by omega⟩ | exact Or.inr ⟨by omega, by omega⟩))
  | (refine' g_mod ?h ?q; (case h => with_unfolding_all first | decide | omega))
  | refine' g_rIsN ?_ | refine' g_rNotN ?_ | refine' g_max2 ?_ | refine' g_min2 ?_ | refine' g_and ?_ | refine' g_or ?_ | refine' g_orV ?_ | refine' g_andV ?_ | refine' g_notV ?_ | refine' g_m1 ?_ | refine' g_yes ?_ | refine' g_bm ?_ | refine' g_bm0 ?_
  | (refine' g_tyL ?h ?q; (case h => first | assumption | exact upd_same))
  | refine' g_m0 ?_ | refine' g_tB ?_ | refine' g_isS ?_ | refine' g_bT ?_ | refine' g_bF ?_ | refine' g_bNT ?_ | refine' g_callK ?_ | refine' g_bNF ?_
  | (refine' g_lenL ?h ?q; (case h => first | assumption | exact upd_same))
  | refine' g_un ?_ | refine' g_rint _ ?_ | refine' g_rabs ?_ | refine' g_sl ?_ 
  | (refine' g_ixL ?h ?a ?q; (case h => first | assumption | exact upd_same); (case a => with_unfolding_all rfl))
  | (refine' g_div ?h0 ?h1 ?q; (case h0 => with_unfolding_all first | decide | omega); (case h1 => with_unfolding_all first | decide | omega))
  | refine' g_sub ?_
  | (refine' g_setL ?h ?a ?q; (case h => first | assumption | exact upd_same); (case a => with_unfolding_all rfl))
  | refine' g_lst ?_ | refine' g_tup ?_
  | (refine' g_rEq ?h ?q; (case h => with_unfolding_all rfl)) | (refine' g_rNe ?h ?q; (case h => with_unfolding_all rfl)))
local macro_rules | `(tactic| walk_at "wn") => `(tactic| repeat walk_at "wn1")

/-! what a wait takes -/
structure TSt where
  reps : List (Int × Int × Bool)
  que : List Int
  reg : Int → Reg
def takeStep (unit : Int → Int × Bool) (s : TSt) (l : Int) : TSt :=
  if decide (0 < (unit (s.reg l).src).1) || (unit (s.reg l).src).2 then ⟨s.reps ++ [(l, (unit (s.reg l).src).1, (unit (s.reg l).src).2)], if (s.reg l).word = "level" then s.que.drop 1 ++ [l] else s.que.drop 1, settled s.reg l⟩ else ⟨s.reps, s.que.drop 1, s.reg⟩
def takeAll (unit : Int → Int × Bool) (most : Int) : List Int → TSt → TSt
  | [], s => s
  | l :: ls, s => if (s.reps.length : Int) = most then s else takeAll unit most ls (takeStep unit s l)
theorem settled_src (reg : Int → Reg) (l j : Int) : (settled reg l j).src = (reg j).src := by
  unfold settled
  split
  · rename_i h
    rw [h.1]
  · rfl
theorem step_src (unit : Int → Int × Bool) (s : TSt) (l j : Int) : ((takeStep unit s l).reg j).src = (s.reg j).src := by
  unfold takeStep
  split
  · exact settled_src _ _ _
  · rfl
theorem step_len (unit : Int → Int × Bool) (s : TSt) (l : Int) : (takeStep unit s l).que.length ≤ s.que.length + 1 ∧ (takeStep unit s l).reps.length ≤ s.reps.length + 1 := by
  unfold takeStep
  split
  · refine ⟨?_, by simp⟩
    dsimp only
    split
    · rw [List.length_append, List.length_drop]
      show s.que.length - 1 + 1 ≤ _
      omega
    · rw [List.length_drop]
      omega
  · refine ⟨?_, Nat.le_succ _⟩
    dsimp only
    rw [List.length_drop]
    omega
theorem cut_one (l : List V) : cutV l (some 1) none = l.drop 1 := by
  cases l with
  | nil => rfl
  | cons v l =>
    unfold cutV HT.sIx
    simp
/-- the units of the sources, each a tuple -/
def UnitsAt (H : Hp) (ss : List Int) (ad : Int → Addr) (unit : Int → Int × Bool) : Prop := ∀ s ∈ ss, H (ad s) = some (.tup [.int (unit s).1, .bl (unit s).2])
abbrev RepAt (H : Hp) : V → Int × Int × Bool → Prop := fun v r => ∃ t, v = .ref t ∧ H t = some (.tup [.int r.1, .int r.2.1, .bl r.2.2])
theorem reps_keep {H H' : Hp} {vs : List V} {rs : List (Int × Int × Bool)} (p : Paired (RepAt H) vs rs) (k : ∀ b xs, H b = some (.tup xs) → H' b = some (.tup xs)) : Paired (RepAt H') vs rs := by
  induction p with
  | nil => exact .nil
  | cons r _ ih =>
    obtain ⟨t, e1, e2⟩ := r
    exact .cons ⟨t, e1, k _ _ e2⟩ ih
theorem reps_snoc {H : Hp} {vs : List V} {rs : List (Int × Int × Bool)} {v : V} {r : Int × Int × Bool} (p : Paired (RepAt H) vs rs) (q : RepAt H v r) : Paired (RepAt H) (vs ++ [v]) (rs ++ [r]) := by
  induction p with
  | nil => exact .cons q .nil
  | cons r _ ih => exact .cons r ih
theorem or_pure {σ : L2.St} {H : Hp} {t u : TT} {b1 b2 : Bool} {k : Bool → Hp → Prop} (h1 : ∀ k : Bool → Hp → Prop, k b1 H → t σ H k) (h2 : ∀ k : Bool → Hp → Prop, k b2 H → u σ H k) (q : k (b1 || b2) H) : tOr t u σ H k := by
  show t σ H fun b H1 => if b = true then k true H1 else u σ H1 k
  refine h1 _ ?_
  cases b1 with
  | true => exact q
  | false => exact h2 k q
section
variable {P : Program} {w : World} {K : PySem.W.Frag} {mg : Str → Option Value} {base : Heap} {CR CW : Addr}
def spReports (CW CR : Addr) : Sp := fun vs H Q _ => ∃ (a dx e q D : Addr) (most : Int) (qs ls ss : List Int) (ad adS : Int → Addr) (reg : Int → Reg) (unit : Int → Int × Bool), vs = [.ref a, .int most, .ref D] ∧ H a = some (wsO CW dx e q) ∧ H q = some (.lst (qs.map V.int)) ∧ H e = some (.dK (entKV ls ad)) ∧ RegsAt CR H ls ad reg ∧
  H D = some (.dK (entKV ss adS)) ∧ D ≠ e ∧ UnitsAt H ss adS unit ∧ (∀ l ∈ qs, l ∈ ls) ∧ (∀ l ∈ ls, (reg l).src ∈ ss) ∧ CW ≠ CR ∧ (∀ l ∈ ls, ∀ l' ∈ ls, ad l = ad l' → l = l') ∧ qs.length ≤ 1000 ∧ ls.length ≤ 1000 ∧
  ∀ H' r rs q' ad', H' a = some (wsO CW dx e q') → H' q' = some (.lst ((takeAll unit most qs ⟨[], qs, reg⟩).que.map V.int)) → (q' = q ∨ H q' = none) → H' e = some (.dK (entKV ls ad')) → RegsAt CR H' ls ad' (takeAll unit most qs ⟨[], qs, reg⟩).reg →
    (∀ j, ad' j = ad j ∨ H (ad' j) = none) → (∀ l ∈ ls, ∀ l' ∈ ls, ad' l = ad' l' → l = l') → H r = none → r ≠ q' → H' r = some (.lst rs) → Paired (RepAt H') rs (takeAll unit most qs ⟨[], qs, reg⟩).reps → (∀ b o, b ≠ a → b ≠ e → b ≠ q → H b = some o → H' b = some o) → Q (.ref r) H'
theorem scReports : FnScope ["self", "most", "sources", "reports", "pending", "label", "unread", "finished"] ["self", "most", "sources"] (defScope sReports) := ⟨rfl, rfl, rfl, by decide +kernel, rfl, by decide +kernel, by decide +kernel⟩
structure WsTxt (mg : Str → Option Value) : Prop where
  list : mg "list" = none
  len : mg "len" = none
theorem okReports {f fS : Addr} {fd fdS : FuncData} (F : Fun K "take_reports" "WaitingSet.take_reports" sReports f fd) (X : WsTxt mg) (T : ClsF K CW wsF) (TR : ClsF K CR regF) (GS : FnOk P w K mg base CX0 3 fS fdS ["self", "label"] (spSettle CW CR)) (mS : Meth K CW "settle" fS) (bS : Binds K fdS ["self", "label"] []) :
    FnOk P w K mg base CX0 4 f fd ["self", "most", "sources"] (spReports CW CR) := by
  refine F.ok scReports (fun vs H Q E h => ?_) (fun cdv A outer s H vs Q E hr h => ?_)
  · obtain ⟨_, _, _, _, _, _, _, _, _, _, _, _, _, rfl, _⟩ := h
    rfl
  · obtain ⟨a, dx, e, q, D, most, qs, ls, ss, ad, adS, reg, unit, rfl, ha, hq, he, hR, hD, nDe, hU, hql, hls, nWR, hinj, hz, hz2, k⟩ := h
    have hu := hu_of hr
    refine ⟨_, pss_cons (ps_set (i := 3) scReports.nd rfl (Or.inl rfl) (pe_lst pa_nil))
      (pss_cons (ps_set (i := 4) scReports.nd rfl (Or.inl rfl) (pe_callTy call_list_of (by rfl) X.list PyProof.Rows.boot_list (pa_cons (pe_fld (pv 0) rfl) pa_nil)))
      (pss_cons (ps_for PassesOwn.never rfl (pi_list (pv 4)) (pg_name (i := 5) scReports.nd rfl (Or.inl rfl))
        (pss_cons (ps_if (pt_cmpR op_eq (pe_callB cLenQ (by rfl) X.len PySem.boot_len (pa_cons (pv 3) pa_nil)) (pv 1) (nomark _)) (pss_one ps_break) pss_nil)
        (pss_cons (ps_fld (pv 0) (pe_slice sl_list (pe_fld (pv 0) rfl) (po_some pe_int) po_none) rfl)
        (pss_cons (ps_asg (pe_dget hu (pv 2) (pe_fld (pe_dget hu (pe_fld (pv 0) rfl) (pv 5) (fun _ _ => rfl)) rfl) (fun _ _ => rfl)) (pg_tup rfl (pgs_cons (pg_name (i := 6) scReports.nd rfl (Or.inl rfl)) (pgs_cons (pg_name (i := 7) scReports.nd rfl (Or.inl rfl)) pgs_nil))))
        (pss_one (ps_if (PW.pt (pw_or (pt_cmpR op_gt (pv 6) pe_int (nomark _)) (pw_or1 (pt_val (pv 7)))))
          (pss_cons (ps_expr (pe_bm PySem.F.plainAttrs_list PySem.F.slot_list_append PySem.F.type_list_append mt_append (pv 3) (pa_cons (pe_tup (pa_cons (pv 5) (pa_cons (pv 6) (pa_cons (pv 7) pa_nil)))) pa_nil)))
          (pss_one (ps_expr (pe_meth (pv 0) T.cl mS GS hr bS .nil pass0 (pa_cons (pv 5) pa_nil))))) pss_nil))))))
      (pss_one (ps_ret (pv 3))))), ?_⟩
    walk_at "wn"
    refine ⟨Nat.zero_le _, fun r hr0 => ?_⟩
    walk_at "wn"
    have s1 := Same.new' (o := .lst []) hr0
    refine ⟨_, rfl, a, CW, dx, _, _, rfl, s1 _ _ ha, T.cl, T.no _ (by decide), rfl, ?_⟩
    refine ⟨q, qs.map V.int, rfl, .inl (SqL.of (s1 _ _ hq)), fun p hp => ?_⟩
    walk_at "wn"
    have s2 := Same.new' (o := .lst (qs.map V.int)) hp
    have hrr : upd (upd H r (.lst [])) p (.lst (qs.map V.int)) r = some (.lst []) := s2 _ _ upd_same
    have nPr : p ≠ r := fun z => by rw [z, upd_same] at hp; cases hp
    have npr : p ≠ r := fun z => by rw [z, upd_same] at hp; cases hp
    have hp0 : H p = none := by rw [upd_ne npr] at hp; exact hp
    have sm := s1.trans s2
    have hpp : upd (upd H r (.lst [])) p (.lst (qs.map V.int)) p = some (.lst (qs.map V.int)) := upd_same
    generalize upd (upd H r (.lst [])) p (.lst (qs.map V.int)) = H0 at sm hrr hpp
    refine ⟨_, rfl, p, rfl, ⟨_, SqL.of hpp⟩, for_list (xs := qs.map V.int) (fun i σ' H1 => ∃ (st : TSt) (rs : List V) (q' : Addr) (ad' : Int → Addr) (u5 u6 u7 : Option V), σ' = [some (.ref a), some (.int most), some (.ref D), some (.ref r), some (.ref p), u5, u6, u7] ∧
      takeAll unit most (qs.drop i) st = takeAll unit most qs ⟨[], qs, reg⟩ ∧ H1 a = some (wsO CW dx e q') ∧ H1 q' = some (.lst (st.que.map V.int)) ∧ (q' = q ∨ H q' = none) ∧ q' ≠ r ∧ q' ≠ p ∧ H1 e = some (.dK (entKV ls ad')) ∧ RegsAt CR H1 ls ad' st.reg ∧ (∀ j, ad' j = ad j ∨ H (ad' j) = none) ∧ (∀ l ∈ ls, ∀ l' ∈ ls, ad' l = ad' l' → l = l') ∧
      H1 r = some (.lst rs) ∧ H1 p = some (.lst (qs.map V.int)) ∧ Paired (RepAt H1) rs st.reps ∧ (∀ b o, b ≠ a → b ≠ e → b ≠ q → H b = some o → H1 b = some o) ∧ (∀ l ∈ ls, (st.reg l).src ∈ ss) ∧ st.que.length ≤ 1000 + i ∧ st.reps.length ≤ i ∧ ∃ o, H1 q = some o) ?_ (fun i σ' H1 _ ⟨_, _, _, _, _, _, _, _, _, _, _, _, _, _, _, _, _, _, _, h, _⟩ => SqL.of h) ?_ ?_⟩
    · refine ⟨⟨[], qs, reg⟩, [], q, ad, _, _, _, rfl, rfl, sm _ _ ha, sm _ _ hq, .inl rfl, ne_of_none hq hr0, ne_of_none hq hp0, sm _ _ he, fun l hl => ?_, fun _ => .inl rfl, hinj, hrr, hpp, .nil, fun b o _ _ _ z => sm b o z, hls, by show qs.length ≤ 1000 + 0; omega, Nat.le_refl _, _, sm _ _ hq⟩
      obtain ⟨dl, el⟩ := hR l hl
      exact ⟨dl, sm _ _ el⟩
    · rintro i x σ' H1 hx ⟨st, rs, q', ad', u5, u6, u7, rfl, ht, h1a, h1q, hq', nqr, nqp, h1e, hR1, had, hij, h1r, h1p, hreps, fr, hsrc, hql1, hrl, oq, hoq⟩
      rw [List.getElem?_map] at hx
      cases el : qs[i]? with
      | none => rw [el] at hx; cases hx
      | some l =>
      rw [el] at hx
      cases hx
      obtain ⟨hi, eli⟩ := List.getElem?_eq_some_iff.mp el
      have hin : i < 1000 := by omega
      have hll : l ∈ ls := hql l (List.mem_of_getElem? el)
      rw [List.drop_eq_getElem_cons hi, eli] at ht
      have hlen := hreps.length
      walk_at "wn"
      by_cases hm : (st.reps.length : Int) = most
      · rw [decide_eq_true (by rw [hlen, hm])]
        walk_at "wn"
        have ht2 : st = takeAll unit most qs ⟨[], qs, reg⟩ := by
          rw [← ht]
          unfold takeAll
          rw [if_pos hm]
        refine ⟨_, rfl, ?_⟩
        exact k H1 r rs q' ad' h1a (ht2 ▸ h1q) hq' h1e (ht2 ▸ hR1) had hij hr0 (Ne.symm nqr) h1r (ht2 ▸ hreps) fr
      · rw [decide_eq_false fun z => hm (by rw [← hlen]; exact V.int.inj z)]
        walk_at "wn"
        have ht2 : takeAll unit most (qs.drop (i + 1)) (takeStep unit st l) = takeAll unit most qs ⟨[], qs, reg⟩ := by
          rw [← ht]
          conv => rhs; unfold takeAll
          rw [if_neg hm]
        have nDa : D ≠ a := ne_of hD ha (by intro z; cases z)
        have nDq : D ≠ q := ne_of hD hq (by intro z; cases z)
        have h1D := fr D _ nDa nDe nDq hD
        have ec : cutV (st.que.map V.int) (some 1) none = (st.que.drop 1).map V.int := by rw [cut_one, List.map_drop]
        refine ⟨_, rfl, a, CW, dx, _, _, rfl, h1a, T.cl, T.no _ (by decide), rfl, ?_⟩
        refine ⟨1, rfl, q', _, rfl, SqL.of h1q, fun p2 hp2 => ?_⟩
        rw [ec]
        have s3 := Same.new' (o := .lst ((st.que.drop 1).map V.int)) hp2
        have np2a : p2 ≠ a := fun z => by rw [z, h1a] at hp2; cases hp2
        have np2p : p2 ≠ p := fun z => by rw [z, h1p] at hp2; cases hp2
        have np2r : p2 ≠ r := fun z => by rw [z, h1r] at hp2; cases hp2
        refine ⟨_, rfl, a, CW, dx, _, rfl, s3 _ _ h1a, T.cl, T.no _ (by decide), by show 2 < 1000; decide, ?_⟩
        have h3a : upd (upd H1 p2 (.lst ((st.que.drop 1).map V.int))) a (.ins CW dx (putF "queue" (V.ref p2) [("entries", V.ref e), ("queue", V.ref q')])) a = some (wsO CW dx e p2) := upd_same
        have h3p : upd (upd H1 p2 (.lst ((st.que.drop 1).map V.int))) a (.ins CW dx (putF "queue" (V.ref p2) [("entries", V.ref e), ("queue", V.ref q')])) p2 = some (.lst ((st.que.drop 1).map V.int)) := by rw [upd_ne np2a, upd_same]
        have h3 : ∀ b o, b ≠ a → H1 b = some o → upd (upd H1 p2 (.lst ((st.que.drop 1).map V.int))) a (.ins CW dx (putF "queue" (V.ref p2) [("entries", V.ref e), ("queue", V.ref q')])) b = some o := fun b o n z => by rw [upd_ne n]; exact s3 _ _ z
        generalize upd (upd H1 p2 (.lst ((st.que.drop 1).map V.int))) a (.ins CW dx (putF "queue" (V.ref p2) [("entries", V.ref e), ("queue", V.ref q')])) = H3 at h3a h3p h3
        have h3e := h3 e _ (ne_of h1e h1a (by intro z; cases z)) h1e
        have h3D := h3 D _ nDa h1D
        have h3r := h3 r _ (ne_of h1r h1a (by intro z; cases z)) h1r
        have h3P := h3 p _ (ne_of h1p h1a (by intro z; cases z)) h1p
        have hR3 : RegsAt CR H3 ls ad' st.reg := fun j hj => by
          obtain ⟨dj, ej⟩ := hR1 j hj
          refine ⟨dj, h3 _ _ (fun z => ?_) ej⟩
          rw [z, h1a] at ej
          cases ej
        have hreps3 : Paired (RepAt H3) rs st.reps := reps_keep hreps fun b xs z => h3 b _ (ne_of z h1a (by intro z; cases z)) z
        have fr3 : ∀ b o, b ≠ a → b ≠ e → b ≠ q → H b = some o → H3 b = some o := fun b o n1 n2 n3 z => h3 b o n1 (fr b o n1 n2 n3 z)
        obtain ⟨dr, er⟩ := hR3 l hll
        have hsl : (st.reg l).src ∈ ss := hsrc l hll
        have hUl := hU _ hsl
        have h3U := fr3 _ _ (ne_of hUl ha (by intro z; cases z)) (ne_of hUl he (by intro z; cases z)) (ne_of hUl hq (by intro z; cases z)) hUl
        have hp2H : H p2 = none := by
          cases z : H p2 with
          | none => rfl
          | some o =>
            by_cases n2 : p2 = e
            · rw [n2, h1e] at hp2
              cases hp2
            · by_cases n3 : p2 = q
              · rw [n3, hoq] at hp2
                cases hp2
              · rw [fr p2 o np2a n2 n3 z] at hp2
                cases hp2
        have naq : q ≠ a := ne_of hq ha (by intro z; cases z)
        have neq : q ≠ e := ne_of hq he (by intro z; cases z)
        have np2q : q ≠ p2 := fun z => by rw [← z, hoq] at hp2; cases hp2
        have np2e : p2 ≠ e := fun z => by rw [z, h1e] at hp2; cases hp2
        have h3q := h3 q _ naq hoq
        have hv1 : valV (entKV ls ad') (Sum.inl l) = some (.ref (ad' l)) := by rw [ent_val, if_pos hll]
        have hv2 : valV (entKV ss adS) (Sum.inl (st.reg l).src) = some (.ref (adS (st.reg l).src)) := by rw [ent_val, if_pos hsl]
        have stl := step_len unit st l
        walk_at "wn"
        refine ⟨_, rfl, _, rfl, a, CW, dx, _, _, rfl, h3a, T.cl, T.no _ (by decide), rfl, ?_⟩
        refine ⟨_, rfl, e, _, rfl, hv1 ▸ DGet.k (k := Sum.inl l) h3e, ?_⟩
        refine ⟨ad' l, CR, dr, _, _, rfl, er, TR.cl, TR.no _ (by decide), rfl, ?_⟩
        refine ⟨D, _, rfl, hv2 ▸ DGet.k (k := Sum.inl (st.reg l).src) h3D, ?_⟩
        refine ⟨adS (st.reg l).src, _, rfl, SqT.of h3U, rfl, _, _, rfl, ?_⟩
        walk_at "wn"
        refine ⟨_, _, rfl, ?_⟩
        walk_at "wn"
        refine ⟨rfl, ?_⟩
        with_reducible refine' g_ifs ?_
        refine or_pure (b1 := decide (0 < (unit (st.reg l).src).1)) (b2 := (unit (st.reg l).src).2) (fun k q => ?_) (fun k q => ?_) ?_
        · exact ⟨_, rfl, _, _, rfl, rfl, _, rfl, q⟩
        · exact ⟨_, rfl, _, rfl, q⟩
        refine ite2 (fun hd => ?_) (fun hd => ?_)
        · have est : takeStep unit st l = ⟨st.reps ++ [(l, (unit (st.reg l).src).1, (unit (st.reg l).src).2)], if (st.reg l).word = "level" then st.que.drop 1 ++ [l] else st.que.drop 1, settled st.reg l⟩ := by
            unfold takeStep
            rw [if_pos hd]
          walk_at "wn"
          refine ⟨by show 3 ≤ sizeLine; decide, fun t nt => ?_⟩
          have s4 := Same.new' (o := .tup [V.int l, V.int (unit (st.reg l).src).1, V.bl (unit (st.reg l).src).2]) nt
          have h4t : upd H3 t (.tup [V.int l, V.int (unit (st.reg l).src).1, V.bl (unit (st.reg l).src).2]) t = some (.tup [V.int l, V.int (unit (st.reg l).src).1, V.bl (unit (st.reg l).src).2]) := upd_same
          generalize upd H3 t (.tup [V.int l, V.int (unit (st.reg l).src).1, V.bl (unit (st.reg l).src).2]) = H4 at s4 h4t
          have h4r := s4 _ _ h3r
          refine ⟨r, rs, _, rfl, rfl, h4r, by rw [sizeLine_eq]; omega, ?_⟩
          have s5 : ∀ b o, b ≠ r → H3 b = some o → upd H4 r (.lst (rs ++ [V.ref t])) b = some o := fun b o n z => by rw [upd_ne n]; exact s4 _ _ z
          have h5r : upd H4 r (.lst (rs ++ [V.ref t])) r = some (.lst (rs ++ [V.ref t])) := upd_same
          have h5t : upd H4 r (.lst (rs ++ [V.ref t])) t = some (.tup [V.int l, V.int (unit (st.reg l).src).1, V.bl (unit (st.reg l).src).2]) := by rw [upd_ne (ne_of h4t h4r (by intro z; cases z))]; exact h4t
          generalize upd H4 r (.lst (rs ++ [V.ref t])) = H5 at s5 h5r h5t
          have nra : a ≠ r := ne_of h3a h3r (by intro z; cases z)
          have nre : e ≠ r := ne_of h3e h3r (by intro z; cases z)
          have h5a := s5 _ _ nra h3a
          have h5e := s5 _ _ nre h3e
          have h5p := s5 _ _ np2r h3p
          have h5P := s5 _ _ nPr h3P
          have hR5 : RegsAt CR H5 ls ad' st.reg := fun j hj => by
            obtain ⟨dj, ej⟩ := hR3 j hj
            exact ⟨dj, s5 _ _ (ne_of ej h3r (by intro z; cases z)) ej⟩
          have hreps5 := reps_snoc (r := (l, (unit (st.reg l).src).1, (unit (st.reg l).src).2)) (reps_keep hreps3 fun b xs z => s5 b _ (ne_of z h3r (by intro z; cases z)) z) ⟨t, rfl, h5t⟩
          walk_at "wn"
          refine ⟨_, rfl, a, dx, _, rfl, h5a, rfl, ?_⟩
          walk_at "wn"
          refine ⟨a, dx, e, p2, l, st.que.drop 1, ls, ad', st.reg, rfl, h5a, h5p, h5e, hR5, hll, nWR, by rw [List.length_drop]; omega, by omega, fun H6 ad6 k1 k2 k3 k4 k5 k6 => ?_⟩
          have nae : a ≠ e := ne_of ha he (by intro z; cases z)
          have inj6 : ∀ j ∈ ls, ∀ j' ∈ ls, ad6 j = ad6 j' → j = j' := fun j hj j' hj' z => by
            have some5 : ∀ j ∈ ls, H5 (ad' j) ≠ none := fun j hj y => by
              obtain ⟨dj, ej⟩ := hR5 j hj
              rw [y] at ej
              cases ej
            by_cases e1 : j = l
            · by_cases e2 : j' = l
              · rw [e1, e2]
              · rw [k3 j' e2, e1] at z
                rcases k4 with y | y
                · exact hij j hj j' hj' (by rw [e1, ← y, z])
                · rw [z] at y
                  exact absurd y (some5 j' hj')
            · by_cases e2 : j' = l
              · rw [k3 j e1, e2] at z
                rcases k4 with y | y
                · exact hij j hj j' hj' (by rw [e2, ← y, z])
                · rw [← z] at y
                  exact absurd y (some5 j hj)
              · rw [k3 j e1, k3 j' e2] at z
                exact hij j hj j' hj' z
          refine ⟨_, rs ++ [V.ref t], p2, ad6, _, _, _, rfl, ht2, k6 _ _ nae (Ne.symm np2a) h5a, ?_, .inr hp2H, np2r, np2p, k1, ?_, fun j => ?_, inj6, k6 _ _ (Ne.symm nre) (Ne.symm np2r) h5r, k6 _ _ ?_ (Ne.symm np2p) h5P, ?_, fun b o n1 n2 n3 z => ?_, fun j hj => by rw [step_src]; exact hsrc j hj, by omega, by omega, oq, k6 _ _ neq np2q (s5 _ _ ?_ h3q)⟩
          · rw [est]
            exact k2
          · rw [est]
            exact k5
          · by_cases ej : j = l
            · rw [ej]
              rcases k4 with z | z
              · rw [z]
                exact had l
              · refine .inr ?_
                cases y : H (ad6 l) with
                | none => rfl
                | some o =>
                  exfalso
                  by_cases m1 : ad6 l = a
                  · rw [m1, h5a] at z
                    cases z
                  · by_cases m2 : ad6 l = e
                    · rw [m2, h5e] at z
                      cases z
                    · by_cases m3 : ad6 l = q
                      · rw [m3, s5 _ _ (ne_of_none hq hr0) h3q] at z
                        cases z
                      · rw [s5 _ _ (fun w => by rw [w, hr0] at y; cases y) (fr3 _ _ m1 m2 m3 y)] at z
                        cases z
            · rw [k3 j ej]
              exact had j
          · exact ne_of h1p h1e (by intro z; cases z)
          · rw [est]
            exact reps_keep hreps5 fun b xs z => k6 b _ (ne_of z h5e (by intro z; cases z)) (ne_of z h5p (by intro z; cases z)) z
          · refine k6 _ _ n2 (fun w => by rw [w, hp2H] at z; cases z) (s5 _ _ (fun w => by rw [w, hr0] at z; cases z) (fr3 _ _ n1 n2 n3 z))
          · exact ne_of_none hq hr0
        · have est : takeStep unit st l = ⟨st.reps, st.que.drop 1, st.reg⟩ := by
            unfold takeStep
            rw [if_neg hd]
          walk_at "wn"
          refine ⟨_, rs, p2, ad', _, _, _, rfl, ht2, h3a, by rw [est]; exact h3p, .inr hp2H, np2r, np2p, h3e, by rw [est]; exact hR3, had, hij, h3r, h3P, by rw [est]; exact hreps3, fr3, fun j hj => by rw [step_src]; exact hsrc j hj, by omega, by omega, oq, h3q⟩
    · rintro σ' H1 ⟨st, rs, q', ad', u5, u6, u7, rfl, ht, h1a, h1q, hq', nqr, nqp, h1e, hR1, had, hij, h1r, h1p, hreps, fr, hsrc, hql1, hrl, oq, hoq⟩
      have e0 : qs.drop (qs.map V.int).length = [] := by rw [List.length_map, List.drop_length]
      rw [e0] at ht
      have ht2 : st = takeAll unit most qs ⟨[], qs, reg⟩ := ht
      walk_at "wn"
      exact k H1 r rs q' ad' h1a (ht2 ▸ h1q) hq' h1e (ht2 ▸ hR1) had hij hr0 (Ne.symm nqr) h1r (ht2 ▸ hreps) fr
end
end Wn

namespace Wn
open PySem PySem.Spec PyProof.Rows L2 Evl
local macro_rules | `(tactic| walk_at "wn1") => `(tactic| first | ((with_reducible show (if (!decide _) = true then _ else _)); refine' g_nes ?_) | ((with_reducible show (if (decide _) = true then _ else _)); refine' g_es ?_) | with_reducible first
  | (refine' g_var ?h ?q; (case h => with_unfolding_all rfl))
  | refine' g_c ?_ | refine' g_op ?_ | refine' g_rI0 ?_ | refine' g_asg ?_ | refine' g_name ?_ | refine' g_seq ?_ | refine' g_ret ?_ | refine' g_retN ?_ | refine' g_next ?_ | refine' g_drop ?_
  | refine' g_nil ?_ | refine' g_cons ?_ | refine' g_cb ?_ | refine' g_test ?_ | refine' g_bl ?_ | refine' g_if ?_ | refine' g_ifs ?_ | refine' g_not ?_ | refine' g_part ?_ | refine' g_pint ?_ | refine' g_nopart ?_ | refine' g_call ?_
  | (refine' g_mul ?h ?q; (case h => with_unfolding_all first | exact Or.inl ⟨by decide, by decide⟩ | exact Or.inr ⟨by decide, by decide⟩ | exact Or.inl ⟨by omega, by omega⟩ | exact Or.inr ⟨by omega, by omega⟩))
  | (refine' g_mod ?h ?q; (case h => with_unfolding_all first | decide | omega))
  | refine' g_rIsN ?_ | refine' g_rNotN ?_ | refine' g_max2 ?_ | refine' g_min2 ?_ | refine' g_and ?_ | refine' g_or ?_ | refine' g_orV ?_ | refine' g_andV ?_ | refine' g_notV ?_ | refine' g_m1 ?_ | refine' g_yes ?_ | refine' g_bm ?_ | refine' g_bm0 ?_
  | (refine' g_tyL ?h ?q; (case h => first | assumption | exact upd_same))
  | refine' g_m0 ?_ | refine' g_tB ?_ | refine' g_isS ?_ | refine' g_bT ?_ | refine' g_bF ?_ | refine' g_bNT ?_ | refine' g_callK ?_ | refine' g_bNF ?_
  | (refine' g_lenL ?h ?q; (case h => first | assumption | exact upd_same))
  | refine' g_un ?_ | refine' g_rint _ ?_ | refine' g_rabs ?_ | refine' g_sl ?_ 
  | (refine' g_ixL ?h ?a ?q; (case h => first | assumption | exact upd_same); (case a => with_unfolding_all rfl))
  | (refine' g_div ?h0 ?h1 ?q; (case h0 => with_unfolding_all first | decide | omega); (case h1 => with_unfolding_all first | decide | omega))
  | refine' g_sub ?_
  | (refine' g_setL ?h ?a ?q; (case h => first | assumption | exact upd_same); (case a => with_unfolding_all rfl))
  | refine' g_lst ?_ | refine' g_tup ?_
  | (refine' g_rEq ?h ?q; (case h => with_unfolding_all rfl)) | (refine' g_rNe ?h ?q; (case h => with_unfolding_all rfl)))
local macro_rules | `(tactic| walk_at "wn") => `(tactic| repeat walk_at "wn1")

abbrev sSysInit : Stmt := meth 31 2
abbrev sNewSource : Stmt := meth 31 4
abbrev sNewSet : Stmt := meth 31 5
abbrev sArrive : Stmt := meth 31 10
abbrev sRead : Stmt := meth 31 12
abbrev sAdd : Stmt := meth 31 13
abbrev sWait : Stmt := meth 31 16
abbrev sRowOf : Stmt := meth 31 24
abbrev sContains : Stmt := meth 31 30
abbrev sTableOf : Stmt := meth 31 32
abbrev sIsTabNum : Stmt := meth 31 33
abbrev sThingAt : Stmt := meth 31 34
abbrev sSourceAt : Stmt := meth 31 35
abbrev sSetAt : Stmt := meth 31 36
abbrev sFreeNum : Stmt := meth 31 37
abbrev sNewThing : Stmt := meth 31 39
abbrev sUnfinished : Stmt := meth 31 42
abbrev sIsReady : Stmt := meth 31 43
abbrev sNotify : Stmt := meth 31 45
/-! a system, its cells and what stands in them -/
inductive Cell
  | box | tabD | srcD | setD
  | tab (p : Int) | srcT (t : Int) | ws (s : Int) | ent (s : Int) | que (s : Int)
  | reg (s l : Int)
  deriving DecidableEq
structure Sys where
  P : Int
  N : Int
  next : Int
  procs : List Int
  tab : Int → List (Option Int)
  srcs : List Int
  unit : Int → Int × Bool
  sets : List Int
  ents : Int → List Int
  reg : Int → Int → Reg
  que : Int → List Int
def live (S : Sys) : Cell → Prop
  | .box | .tabD | .srcD | .setD => True
  | .tab p => p ∈ S.procs
  | .srcT t => t ∈ S.srcs
  | .ws s | .ent s | .que s => s ∈ S.sets
  | .reg s l => s ∈ S.sets ∧ l ∈ S.ents s
def optV : Option Int → V
  | none => .non
  | some t => .int t
def sysO (CS dx : Addr) (S : Sys) (t s u : Addr) : HO := .ins CS dx [("process_limit", .int S.P), ("number_limit", .int S.N), ("tables", .ref t), ("sources", .ref s), ("sets", .ref u), ("next_thing", .int S.next)]
structure Cs where
  S : Addr
  W : Addr
  R : Addr
def co (C : Cs) (S : Sys) (ad dx : Cell → Addr) : Cell → HO
  | .box => sysO C.S (dx .box) S (ad .tabD) (ad .srcD) (ad .setD)
  | .tabD => .dK (entKV S.procs fun p => ad (.tab p))
  | .srcD => .dK (entKV S.srcs fun t => ad (.srcT t))
  | .setD => .dK (entKV S.sets fun s => ad (.ws s))
  | .tab p => .lst ((S.tab p).map optV)
  | .srcT t => .tup [.int (S.unit t).1, .bl (S.unit t).2]
  | .ws s => wsO C.W (dx (.ws s)) (ad (.ent s)) (ad (.que s))
  | .ent s => .dK (entKV (S.ents s) fun l => ad (.reg s l))
  | .que s => .lst ((S.que s).map V.int)
  | .reg s l => regO C.R (dx (.reg s l)) (S.reg s l).num (S.reg s l).src (S.reg s l).word (S.reg s l).armed
structure At (C : Cs) (H : Hp) (S : Sys) (ad dx : Cell → Addr) : Prop where
  at_ : ∀ c, live S c → H (ad c) = some (co C S ad dx c)
  inj : ∀ c c', live S c → live S c' → ad c = ad c' → c = c'
def own (S : Sys) (ad : Cell → Addr) (b : Addr) : Prop := ∃ c, live S c ∧ ad c = b
/-- what lies outside stays; what comes in is new -/
structure Step (H : Hp) (S : Sys) (ad : Cell → Addr) (H' : Hp) (S' : Sys) (ad' : Cell → Addr) : Prop where
  keep : ∀ b o, ¬ own S ad b → H b = some o → H' b = some o
  new : ∀ b, own S' ad' b → own S ad b ∨ H b = none
  box : ad' .box = ad .box
section
variable {C : Cs} {H H' H2 : Hp} {S S' S2 : Sys} {ad ad' ad2 dx dx' : Cell → Addr}
theorem Step.refl : Step H S ad H S ad := ⟨fun _ _ _ z => z, fun _ z => .inl z, rfl⟩
theorem Step.trans (a : Step H S ad H' S' ad') (b : Step H' S' ad' H2 S2 ad2) : Step H S ad H2 S2 ad2 := by
  refine ⟨fun x o n e => b.keep x o (fun z => ?_) (a.keep x o n e), fun x z => ?_, b.box.trans a.box⟩
  · rcases a.new x z with y | y
    · exact n y
    · rw [y] at e
      cases e
  · rcases b.new x z with y | y
    · exact a.new x y
    · cases e : H x with
      | none => exact .inr rfl
      | some o =>
        by_cases w : own S ad x
        · exact .inl w
        · rw [a.keep x o w e] at y
          cases y
theorem Step.same (s : Same H H') : Step H S ad H' S ad := ⟨fun b o _ e => s _ _ e, fun _ z => .inl z, rfl⟩
theorem At.same (A : At C H S ad dx) (s : Same H H') : At C H' S ad dx := ⟨fun c hc => s _ _ (A.at_ c hc), A.inj⟩
theorem At.ne (A : At C H S ad dx) {c c' : Cell} (h : live S c) (h' : live S c') (n : c ≠ c') : ad c ≠ ad c' := fun z => n (A.inj c c' h h' z)
theorem At.new (A : At C H S ad dx) {c : Cell} {l : Addr} (h : live S c) (n : H l = none) : ad c ≠ l := ne_of_none (A.at_ c h) n
/-- where the cells' addresses stay -/
theorem At.re (A : At C H S ad dx) (hl : ∀ c, live S' c ↔ live S c) (h : ∀ c, live S c → (H' (ad c) = some (co C S' ad dx c)) ∨ (co C S' ad dx c = co C S ad dx c ∧ H' (ad c) = H (ad c))) : At C H' S' ad dx := by
  refine ⟨fun c hc => ?_, fun c c' h1 h2 => A.inj c c' ((hl c).mp h1) ((hl c').mp h2)⟩
  have hc := (hl c).mp hc
  rcases h c hc with e | ⟨e1, e2⟩
  · exact e
  · rw [e1, e2]
    exact A.at_ c hc
theorem Step.re (hl : ∀ c, live S' c ↔ live S c) (h : ∀ b o, ¬ own S ad b → H b = some o → H' b = some o) : Step H S ad H' S' ad := ⟨h, fun b ⟨c, h1, h2⟩ => .inl ⟨c, (hl c).mp h1, h2⟩, rfl⟩
end
section
variable {P : Program} {w : World} {K : PySem.W.Frag} {mg : Str → Option Value} {base : Heap} {C : Cs}
structure MO (P : Program) (w : World) (K : PySem.W.Frag) (mg : Str → Option Value) (base : Heap) (k : Nat) (C : Addr) (m : Str) (ps : List Str) (sp : Sp) (f : Addr) (fd : FuncData) : Prop where
  g : FnOk P w K mg base CX0 k f fd ps sp
  m : Meth K C m f
  b : Binds K fd ps []
structure DO (P : Program) (w : World) (K : PySem.W.Frag) (mg : Str → Option Value) (base : Heap) (k : Nat) (x : Str) (ps : List Str) (sp : Sp) (f : Addr) (fd : FuncData) : Prop where
  g : FnOk P w K mg base CX0 k f fd ps sp
  k : PySem.W.keepIn K (.ref f) = true
  m : mg x = some (.ref f)
  b : Binds K fd ps []
/-- a call on a system -/
def OnSys (C : Cs) (vs : List V) (H : Hp) (rest : List V) (k : Sys → (Cell → Addr) → (Cell → Addr) → Prop) : Prop := ∃ (S : Sys) (ad dx : Cell → Addr), vs = .ref (ad .box) :: rest ∧ At C H S ad dx ∧ k S ad dx
def spContains (C : Cs) : Sp := fun vs H Q _ => ∃ p : Int, OnSys C vs H [.int p] fun S _ _ => Q (.bl (decide (p ∈ S.procs))) H
theorem scContains : FnScope ["self", "x"] ["self", "x"] (defScope sContains) := ⟨rfl, rfl, rfl, by decide +kernel, rfl, by decide +kernel, by decide +kernel⟩
theorem okContains {f fI : Addr} {fd fdI : FuncData} (F : Fun K "__contains__" "System.__contains__" sContains f fd) (T : ClsF K C.S sysF) (GI : DO P w K mg base 1 "is_integer" ["x"] spIsInteger fI fdI) : FnOk P w K mg base CX0 2 f fd ["self", "x"] (spContains C) := by
  refine F.ok scContains (fun vs H Q E h => ?_) (fun cdv A outer s H vs Q E hr h => ?_)
  · obtain ⟨_, _, _, _, rfl, _⟩ := h
    rfl
  · obtain ⟨p, S, ad, dx, rfl, A0, k⟩ := h
    have hu := hu_of hr
    refine ⟨_, pss_one (ps_ret (pe_and (pe_call GI.g hr (by rfl) GI.m GI.k GI.b .nil pass0 (pa_cons (pv 1) pa_nil)) (pe_one (pe_cmp (pc_din hu (pv 1) (pe_fld (pv 0) rfl)) rfl)))), ?_⟩
    walk_at "wn"
    refine ⟨p, rfl, ?_⟩
    walk_at "wn"
    refine ⟨_, rfl, _, rfl, ad .box, C.S, dx .box, _, _, rfl, A0.at_ .box trivial, T.cl, T.no _ (by decide), rfl, ?_⟩
    refine ⟨ad .tabD, _, rfl, DGet.k (k := Sum.inl p) (A0.at_ .tabD trivial), ?_⟩
    rw [ent_val]
    by_cases hp : p ∈ S.procs
    · rw [if_pos hp]
      rw [decide_eq_true hp] at k
      exact k
    · rw [if_neg hp]
      rw [decide_eq_false hp] at k
      exact k
def spTableOf (C : Cs) : Sp := fun vs H Q _ => ∃ p : Int, OnSys C vs H [.int p] fun S ad _ => p ∈ S.procs ∧ Q (.ref (ad (.tab p))) H
theorem scTableOf : FnScope ["self", "process"] ["self", "process"] (defScope sTableOf) := ⟨rfl, rfl, rfl, by decide +kernel, rfl, by decide +kernel, by decide +kernel⟩
theorem okTableOf {f fC : Addr} {fd fdC : FuncData} (F : Fun K "table_of" "System.table_of" sTableOf f fd) (T : ClsF K C.S sysF) (GC : MO P w K mg base 2 C.S "__contains__" ["self", "x"] (spContains C) fC fdC) : FnOk P w K mg base CX0 3 f fd ["self", "process"] (spTableOf C) := by
  refine F.ok scTableOf (fun vs H Q E h => ?_) (fun cdv A outer s H vs Q E hr h => ?_)
  · obtain ⟨_, _, _, _, rfl, _⟩ := h
    rfl
  · obtain ⟨p, S, ad, dx, rfl, A0, hp, k⟩ := h
    have hu := hu_of hr
    refine ⟨_, pss_cons (ps_if (pt_cmpR (op_ownNotIn GC.g hr GC.m.at_ GC.m.fn GC.b pass0) (pv 1) (pv 0) (by rfl)) (pss_one ps_never) pss_nil)
      (pss_one (ps_ret (pe_dget hu (pe_fld (pv 0) rfl) (pv 1) (fun _ _ => rfl)))), ?_⟩
    walk_at "wn"
    refine ⟨ad .box, dx .box, _, rfl, A0.at_ .box trivial, p, S, ad, dx, rfl, A0, _, rfl, ?_⟩
    rw [decide_eq_true hp]
    walk_at "wn"
    refine ⟨_, rfl, ad .box, C.S, dx .box, _, _, rfl, A0.at_ .box trivial, T.cl, T.no _ (by decide), rfl, ?_⟩
    have hv : valV (entKV S.procs fun p => ad (.tab p)) (Sum.inl p) = some (.ref (ad (.tab p))) := by rw [ent_val, if_pos hp]
    exact ⟨_, rfl, ad .tabD, _, rfl, hv ▸ DGet.k (k := Sum.inl p) (A0.at_ .tabD trivial), k⟩
def spIsTabNum (C : Cs) : Sp := fun vs H Q _ => ∃ n : Int, OnSys C vs H [.int n] fun S _ _ => Q (.bl (decide (0 ≤ n) && decide (n ≤ S.N - 1))) H
theorem scIsTabNum : FnScope ["self", "number"] ["self", "number"] (defScope sIsTabNum) := ⟨rfl, rfl, rfl, by decide +kernel, rfl, by decide +kernel, by decide +kernel⟩
theorem okIsTabNum {f fB : Addr} {fd fdB : FuncData} (F : Fun K "is_table_number" "System.is_table_number" sIsTabNum f fd) (T : ClsF K C.S sysF) (GB : DO P w K mg base 2 "is_between" ["x", "least", "most"] spIsBetween fB fdB) : FnOk P w K mg base CX0 3 f fd ["self", "number"] (spIsTabNum C) := by
  refine F.ok scIsTabNum (fun vs H Q E h => ?_) (fun cdv A outer s H vs Q E hr h => ?_)
  · obtain ⟨_, _, _, _, rfl, _⟩ := h
    rfl
  · obtain ⟨n, S, ad, dx, rfl, A0, k⟩ := h
    refine ⟨_, pss_one (ps_ret (pe_call GB.g hr (by rfl) GB.m GB.k GB.b .nil pass0 (pa_cons (pv 1) (pa_cons pe_int (pa_cons (pe_op op_sub (pe_fld (pv 0) rfl) pe_int) pa_nil))))), ?_⟩
    walk_at "wn"
    refine ⟨_, rfl, ad .box, C.S, dx .box, _, _, rfl, A0.at_ .box trivial, T.cl, T.no _ (by decide), rfl, ?_⟩
    walk_at "wn"
    exact ⟨n, 0, S.N - 1, rfl, k⟩
/-- a number that means a thing -/
structure Means (S : Sys) (p n t : Int) : Prop where
  pr : p ∈ S.procs
  lo : 0 ≤ n
  hi : n ≤ S.N - 1
  at_ : (S.tab p)[n.toNat]? = some (some t)
def spThingAt (C : Cs) : Sp := fun vs H Q _ => ∃ p n t : Int, OnSys C vs H [.int p, .int n] fun S _ _ => Means S p n t ∧ Q (.int t) H
theorem scThingAt : FnScope ["self", "process", "number", "table"] ["self", "process", "number"] (defScope sThingAt) := ⟨rfl, rfl, rfl, by decide +kernel, rfl, by decide +kernel, by decide +kernel⟩
theorem okThingAt {f fT fN : Addr} {fd fdT fdN : FuncData} (F : Fun K "thing_at" "System.thing_at" sThingAt f fd) (T : ClsF K C.S sysF) (GT : MO P w K mg base 3 C.S "table_of" ["self", "process"] (spTableOf C) fT fdT) (GN : MO P w K mg base 3 C.S "is_table_number" ["self", "number"] (spIsTabNum C) fN fdN) :
    FnOk P w K mg base CX0 4 f fd ["self", "process", "number"] (spThingAt C) := by
  refine F.ok scThingAt (fun vs H Q E h => ?_) (fun cdv A outer s H vs Q E hr h => ?_)
  · obtain ⟨_, _, _, _, _, _, rfl, _⟩ := h
    rfl
  · obtain ⟨p, n, t, S, ad, dx, rfl, A0, M, k⟩ := h
    refine ⟨_, pss_cons (ps_set (i := 3) scThingAt.nd rfl (Or.inl rfl) (pe_meth (pv 0) T.cl GT.m GT.g hr GT.b .nil pass0 (pa_cons (pv 1) pa_nil)))
      (pss_cons (ps_if (PW.pt (pw_or (pt_not (pt_val (pe_meth (pv 0) T.cl GN.m GN.g hr GN.b .nil pass0 (pa_cons (pv 2) pa_nil)))) (pw_or1 (pt_cmpR oIsN (pe_ix ix_list (pv 3) (pv 2) (fun _ _ => rfl)) pe_non (nomark _))))) (pss_one ps_never) pss_nil)
      (pss_one (ps_ret (pe_ix ix_list (pv 3) (pv 2) (fun _ _ => rfl))))), ?_⟩
    have hb := A0.at_ .box trivial
    have ht := A0.at_ (.tab p) M.pr
    obtain ⟨m, hm⟩ := Int.eq_ofNat_of_zero_le M.lo
    have hat : atI ((S.tab p).map optV) n = some (V.int t) := by
      have e := M.at_
      rw [hm] at e ⊢
      refine atI_nat ?_
      rw [List.getElem?_map, show (S.tab p)[m]? = some (some t) from e]
      rfl
    walk_at "wn"
    refine ⟨_, rfl, ad .box, dx .box, _, rfl, hb, rfl, ?_⟩
    walk_at "wn"
    refine ⟨p, S, ad, dx, rfl, A0, M.pr, ?_⟩
    walk_at "wn"
    refine ⟨_, rfl, ad .box, dx .box, _, rfl, hb, rfl, ?_⟩
    walk_at "wn"
    refine ⟨n, S, ad, dx, rfl, A0, ?_⟩
    dsimp only
    rw [decide_eq_true M.lo, decide_eq_true M.hi]
    walk_at "wn"
    refine ⟨_, rfl, ?_⟩
    walk_at "wn"
    refine ⟨ad (.tab p), _, n, _, rfl, rfl, SqL.of ht, hat, ?_⟩
    walk_at "wn"
    have e : decide (V.int t = V.non) = false := decide_eq_false fun z => nomatch z
    rw [e]
    walk_at "wn"
    exact ⟨ad (.tab p), _, n, _, rfl, rfl, SqL.of ht, hat, k⟩
def spSourceAt (C : Cs) : Sp := fun vs H Q _ => ∃ p n t : Int, OnSys C vs H [.int p, .int n] fun S _ _ => Means S p n t ∧ t ∈ S.srcs ∧ Q (.int t) H
theorem scSourceAt : FnScope ["self", "process", "number", "thing"] ["self", "process", "number"] (defScope sSourceAt) := ⟨rfl, rfl, rfl, by decide +kernel, rfl, by decide +kernel, by decide +kernel⟩
theorem okSourceAt {f fT : Addr} {fd fdT : FuncData} (F : Fun K "source_at" "System.source_at" sSourceAt f fd) (T : ClsF K C.S sysF) (GT : MO P w K mg base 4 C.S "thing_at" ["self", "process", "number"] (spThingAt C) fT fdT) :
    FnOk P w K mg base CX0 5 f fd ["self", "process", "number"] (spSourceAt C) := by
  refine F.ok scSourceAt (fun vs H Q E h => ?_) (fun cdv A outer s H vs Q E hr h => ?_)
  · obtain ⟨_, _, _, _, _, _, rfl, _⟩ := h
    rfl
  · obtain ⟨p, n, t, S, ad, dx, rfl, A0, M, ht, k⟩ := h
    have hu := hu_of hr
    refine ⟨_, pss_cons (ps_set (i := 3) scSourceAt.nd rfl (Or.inl rfl) (pe_meth (pv 0) T.cl GT.m GT.g hr GT.b .nil pass0 (pa_cons (pv 1) (pa_cons (pv 2) pa_nil))))
      (pss_cons (ps_if (pt_cmp (pc_dnotin hu (pv 3) (pe_fld (pv 0) rfl)) rfl) (pss_one ps_never) pss_nil)
      (pss_one (ps_ret (pv 3)))), ?_⟩
    have hb := A0.at_ .box trivial
    walk_at "wn"
    refine ⟨_, rfl, ad .box, dx .box, _, rfl, hb, rfl, ?_⟩
    walk_at "wn"
    refine ⟨p, n, t, S, ad, dx, rfl, A0, M, ?_⟩
    walk_at "wn"
    refine ⟨_, rfl, _, rfl, ad .box, C.S, dx .box, _, _, rfl, hb, T.cl, T.no _ (by decide), rfl, ?_⟩
    refine ⟨ad .srcD, _, rfl, DGet.k (k := Sum.inl t) (A0.at_ .srcD trivial), ?_⟩
    rw [ent_val, if_pos ht]
    refine ⟨_, rfl, ?_⟩
    show if false = true then _ else _
    walk_at "wn"
    exact k
def spSetAt (C : Cs) : Sp := fun vs H Q _ => ∃ p n t : Int, OnSys C vs H [.int p, .int n] fun S ad _ => Means S p n t ∧ t ∈ S.sets ∧ Q (.ref (ad (.ws t))) H
theorem scSetAt : FnScope ["self", "process", "set_number", "thing"] ["self", "process", "set_number"] (defScope sSetAt) := ⟨rfl, rfl, rfl, by decide +kernel, rfl, by decide +kernel, by decide +kernel⟩
theorem okSetAt {f fT : Addr} {fd fdT : FuncData} (F : Fun K "set_at" "System.set_at" sSetAt f fd) (T : ClsF K C.S sysF) (GT : MO P w K mg base 4 C.S "thing_at" ["self", "process", "number"] (spThingAt C) fT fdT) :
    FnOk P w K mg base CX0 5 f fd ["self", "process", "set_number"] (spSetAt C) := by
  refine F.ok scSetAt (fun vs H Q E h => ?_) (fun cdv A outer s H vs Q E hr h => ?_)
  · obtain ⟨_, _, _, _, _, _, rfl, _⟩ := h
    rfl
  · obtain ⟨p, n, t, S, ad, dx, rfl, A0, M, ht, k⟩ := h
    have hu := hu_of hr
    refine ⟨_, pss_cons (ps_set (i := 3) scSetAt.nd rfl (Or.inl rfl) (pe_meth (pv 0) T.cl GT.m GT.g hr GT.b .nil pass0 (pa_cons (pv 1) (pa_cons (pv 2) pa_nil))))
      (pss_cons (ps_if (pt_cmp (pc_dnotin hu (pv 3) (pe_fld (pv 0) rfl)) rfl) (pss_one ps_never) pss_nil)
      (pss_one (ps_ret (pe_dget hu (pe_fld (pv 0) rfl) (pv 3) (fun _ _ => rfl))))), ?_⟩
    have hb := A0.at_ .box trivial
    walk_at "wn"
    refine ⟨_, rfl, ad .box, dx .box, _, rfl, hb, rfl, ?_⟩
    walk_at "wn"
    refine ⟨p, n, t, S, ad, dx, rfl, A0, M, ?_⟩
    walk_at "wn"
    have hv : valV (entKV S.sets fun s => ad (.ws s)) (Sum.inl t) = some (.ref (ad (.ws t))) := by rw [ent_val, if_pos ht]
    refine ⟨_, rfl, _, rfl, ad .box, C.S, dx .box, _, _, rfl, hb, T.cl, T.no _ (by decide), rfl, ?_⟩
    refine ⟨ad .setD, _, rfl, DGet.k (k := Sum.inl t) (A0.at_ .setD trivial), ?_⟩
    rw [ent_val, if_pos ht]
    refine ⟨_, rfl, ?_⟩
    show if false = true then _ else _
    walk_at "wn"
    refine ⟨_, rfl, ad .box, C.S, dx .box, _, _, rfl, hb, T.cl, T.no _ (by decide), rfl, ?_⟩
    exact ⟨_, rfl, ad .setD, _, rfl, hv ▸ DGet.k (k := Sum.inl t) (A0.at_ .setD trivial), k⟩
/-! free_number -/
def firstFree (t : List (Option Int)) (n : Nat) : Prop := t[n]? = some none ∧ ∀ i, i < n → ∃ x, t[i]? = some (some x)
def spFreeNum (C : Cs) : Sp := fun vs H Q _ => ∃ (p : Int) (n : Nat), OnSys C vs H [.int p] fun S _ _ => p ∈ S.procs ∧ firstFree (S.tab p) n ∧ (S.tab p).length ≤ 1000 ∧ ∀ H', Same H H' → Q (.int (n : Int)) H'
theorem scFreeNum : FnScope ["self", "process", "number", "thing"] ["self", "process"] (defScope sFreeNum) := ⟨rfl, rfl, rfl, by decide +kernel, rfl, by decide +kernel, by decide +kernel⟩
structure SysTxt (mg : Str → Option Value) : Prop where
  enum : mg "enumerate" = none
  list : mg "list" = none
  min : mg "min" = none
theorem okFreeNum {f fT : Addr} {fd fdT : FuncData} (F : Fun K "free_number" "System.free_number" sFreeNum f fd) (X : SysTxt mg) (T : ClsF K C.S sysF) (GT : MO P w K mg base 3 C.S "table_of" ["self", "process"] (spTableOf C) fT fdT) :
    FnOk P w K mg base CX0 4 f fd ["self", "process"] (spFreeNum C) := by
  refine F.ok scFreeNum (fun vs H Q E h => ?_) (fun cdv A outer s H vs Q E hr h => ?_)
  · obtain ⟨_, _, _, _, _, rfl, _⟩ := h
    rfl
  · obtain ⟨p, n, S, ad, dx, rfl, A0, hp, hf, hl, k⟩ := h
    refine ⟨_, pss_cons (ps_for PassesOwn.never rfl (pi_enum (by rfl) X.enum (pa_cons (pe_meth (pv 0) T.cl GT.m GT.g hr GT.b .nil pass0 (pa_cons (pv 1) pa_nil)) pa_nil)) (pg_tup rfl (pgs_cons (pg_name (i := 2) scFreeNum.nd rfl (Or.inl rfl)) (pgs_cons (pg_name (i := 3) scFreeNum.nd rfl (Or.inl rfl)) pgs_nil)))
        (pss_one (ps_if (pt_cmpR oIsN (pv 3) pe_non (nomark _)) (pss_one (ps_ret (pv 2))) pss_nil)))
      (pss_one ps_never), ?_⟩
    have hb := A0.at_ .box trivial
    have ht := A0.at_ (.tab p) hp
    refine ⟨_, rfl, ad .box, dx .box, _, rfl, hb, rfl, ?_⟩
    walk_at "wn"
    refine ⟨p, S, ad, dx, rfl, A0, hp, ?_⟩
    refine ⟨ad (.tab p), _, rfl, SqL.of ht, ?_⟩
    have hn : n < (S.tab p).length := (List.getElem?_eq_some_iff.mp hf.1).1
    refine for_it (walk_enum (xs := (S.tab p).map optV)) (fun i σ' H1 => ∃ u v : Option V, σ' = [some (.ref (ad .box)), some (.int p), u, v] ∧ Same H H1 ∧ i ≤ n) ⟨_, _, rfl, Same.refl _, Nat.zero_le _⟩ (fun i σ' H1 _ ⟨_, _, _, sm, _⟩ => Same.seq sm (SqL.of ht)) ?_ ?_
    · rintro i x σ' H1 H2 hi ⟨u, v, rfl, sm, hin⟩ ⟨T1, x1, y1, rfl, nT, rfl, ex, ey⟩
      have smT := sm.trans (Same.new' (o := .tup [x1, y1]) nT)
      obtain rfl := Option.some.inj ex
      have ey : ((S.tab p).map optV)[i]? = some y1 := ey
      rw [List.getElem?_map] at ey
      refine ⟨T1, _, rfl, SqT.of upd_same, rfl, _, _, rfl, ?_⟩
      walk_at "wn"
      refine ⟨_, _, rfl, ?_⟩
      walk_at "wn"
      refine ⟨rfl, ?_⟩
      walk_at "wn"
      rcases Nat.lt_or_ge i n with z | z
      · obtain ⟨t, et⟩ := hf.2 i z
        rw [et] at ey
        cases ey
        have e : decide (optV (some t) = V.non) = false := decide_eq_false fun z => nomatch z
        rw [e]
        walk_at "wn"
        exact ⟨_, _, rfl, smT, z⟩
      · obtain rfl : i = n := by omega
        rw [hf.1] at ey
        cases ey
        have e : decide (optV none = V.non) = true := decide_eq_true rfl
        rw [e]
        walk_at "wn"
        exact k _ smT
    · rintro σ' H1 ⟨u, v, rfl, sm, hin⟩
      rw [List.length_map] at hin
      exact absurd hin (by omega)
end
end Wn

namespace Wn
open PySem PySem.Spec PyProof.Rows L2 Evl
local macro_rules | `(tactic| walk_at "wn1") => `(tactic| first | ((with_reducible show (if (!decide _) = true then _ else _)); refine' g_nes ?_) | ((with_reducible show (if (decide _) = true then _ else _)); refine' g_es ?_) | with_reducible first
  | (refine' g_var ?h ?q; (case h => with_unfolding_all rfl))
  | refine' g_c ?_ | refine' g_op ?_ | refine' g_rI0 ?_ | refine' g_asg ?_ | refine' g_name ?_ | refine' g_seq ?_ | refine' g_ret ?_ | refine' g_retN ?_ | refine' g_next ?_ | refine' g_drop ?_
  | refine' g_nil ?_ | refine' g_cons ?_ | refine' g_cb ?_ | refine' g_test ?_ | refine' g_bl ?_ | refine' g_if ?_ | refine' g_ifs ?_ | refine' g_not ?_ | refine' g_part ?_ | refine' g_pint ?_ | refine' g_nopart ?_ | refine' g_call ?_
  | (refine' g_mul ?h ?q; (case h => with_unfolding_all first | exact Or.inl ⟨by decide, by decide⟩ | exact Or.inr ⟨by decide, by decide⟩ | exact Or.inl ⟨by omega, by omega⟩ | exact Or.inr ⟨by omega, by omega⟩))
  | (refine' g_mod ?h ?q; (case h => with_unfolding_all first | decide | omega))
  | refine' g_rIsN ?_ | refine' g_rNotN ?_ | refine' g_max2 ?_ | refine' g_min2 ?_ | refine' g_and ?_ | refine' g_or ?_ | refine' g_orV ?_ | refine' g_andV ?_ | refine' g_notV ?_ | refine' g_m1 ?_ | refine' g_yes ?_ | refine' g_bm ?_ | refine' g_bm0 ?_
  | (refine' g_tyL ?h ?q; (case h => first | assumption | exact upd_same))
  | refine' g_m0 ?_ | refine' g_tB ?_ | refine' g_isS ?_ | refine' g_bT ?_ | refine' g_bF ?_ | refine' g_bNT ?_ | refine' g_callK ?_ | refine' g_bNF ?_
  | (refine' g_lenL ?h ?q; (case h => first | assumption | exact upd_same))
  | refine' g_un ?_ | refine' g_rint _ ?_ | refine' g_rabs ?_ | refine' g_sl ?_ 
  | (refine' g_ixL ?h ?a ?q; (case h => first | assumption | exact upd_same); (case a => with_unfolding_all rfl))
  | (refine' g_div ?h0 ?h1 ?q; (case h0 => with_unfolding_all first | decide | omega); (case h1 => with_unfolding_all first | decide | omega))
  | refine' g_sub ?_
  | (refine' g_setL ?h ?a ?q; (case h => first | assumption | exact upd_same); (case a => with_unfolding_all rfl))
  | refine' g_lst ?_ | refine' g_tup ?_
  | (refine' g_rEq ?h ?q; (case h => with_unfolding_all rfl)) | (refine' g_rNe ?h ?q; (case h => with_unfolding_all rfl)))
local macro_rules | `(tactic| walk_at "wn") => `(tactic| repeat walk_at "wn1")

section
variable {C : Cs} {H H' H2 : Hp} {S S' S2 : Sys} {ad ad' ad2 dx dx' : Cell → Addr}
/-- some cells are written, made or stand elsewhere; the others stay -/
theorem At.re3 (ch : List Cell) (A : At C H S ad dx) (hl : ∀ c, live S' c → c ∈ ch ∨ live S c) (h1 : ∀ c ∈ ch, live S' c → H' (ad' c) = some (co C S' ad' dx' c)) (h2 : ∀ c, c ∉ ch → live S c → ad' c = ad c ∧ co C S' ad' dx' c = co C S ad dx c)
    (fresh : ∀ c ∈ ch, live S' c → (ad' c = ad c ∧ live S c) ∨ H (ad' c) = none) (dist : ∀ c ∈ ch, ∀ c' ∈ ch, live S' c → live S' c' → H (ad' c) = none → ad' c = ad' c' → c = c')
    (k : ∀ b o, (∀ c ∈ ch, live S c → b ≠ ad c) → H b = some o → H' b = some o) (box : ad' .box = ad .box) : At C H' S' ad' dx' ∧ Step H S ad H' S' ad' := by
  have out : ∀ c, c ∉ ch → live S' c → live S c := fun c hc l => (hl c l).resolve_left hc
  have keep : ∀ c, c ∉ ch → live S c → H' (ad c) = H (ad c) := fun c hc l => by
    rw [A.at_ c l]
    exact k _ _ (fun c' hc' l' z => hc (by rw [A.inj c c' l l' z]; exact hc')) (A.at_ c l)
  refine ⟨⟨fun c l => ?_, fun c c' l l' z => ?_⟩, ⟨fun b o n e => k b o (fun c hc lc z => n ⟨c, lc, z.symm⟩) e, fun b ⟨c, l, e⟩ => ?_, box⟩⟩
  · by_cases hc : c ∈ ch
    · exact h1 c hc l
    · have ls := out c hc l
      obtain ⟨e1, e2⟩ := h2 c hc ls
      rw [e1, e2, keep c hc ls]
      exact A.at_ c ls
  · have some_ : ∀ c, c ∉ ch → live S' c → H (ad' c) ≠ none := fun c hc l z => by
      have ls := out c hc l
      rw [(h2 c hc ls).1, A.at_ c ls] at z
      cases z
    by_cases hc : c ∈ ch
    · by_cases hc' : c' ∈ ch
      · rcases fresh c hc l with f | f
        · rcases fresh c' hc' l' with f' | f'
          · exact A.inj c c' f.2 f'.2 (by rw [← f.1, ← f'.1, z])
          · rw [← z, f.1, A.at_ c f.2] at f'
            cases f'
        · exact dist c hc c' hc' l l' f z
      · rcases fresh c hc l with f | f
        · have ls := out c' hc' l'
          exact A.inj c c' f.2 ls (by rw [← f.1, z, (h2 c' hc' ls).1])
        · rw [z] at f
          exact absurd f (some_ c' hc' l')
    · have ls := out c hc l
      by_cases hc' : c' ∈ ch
      · rcases fresh c' hc' l' with f | f
        · exact A.inj c c' ls f.2 (by rw [← f.1, ← z, (h2 c hc ls).1])
        · rw [← z] at f
          exact absurd f (some_ c hc l)
      · have ls' := out c' hc' l'
        exact A.inj c c' ls ls' (by rw [← (h2 c hc ls).1, z, (h2 c' hc' ls').1])
  · by_cases hc : c ∈ ch
    · rcases fresh c hc l with f | f
      · exact .inl ⟨c, f.2, by rw [← f.1]; exact e⟩
      · rw [e] at f
        exact .inr f
    · have ls := out c hc l
      exact .inl ⟨c, ls, by rw [← (h2 c hc ls).1]; exact e⟩
/-- where the addresses stay -/
theorem At.re2 (ch : List Cell) (A : At C H S ad dx) (hl : ∀ c, live S' c → live S c) (lv : ∀ c ∈ ch, live S c) (h1 : ∀ c ∈ ch, H' (ad c) = some (co C S' ad dx c)) (h2 : ∀ c, c ∉ ch → live S c → co C S' ad dx c = co C S ad dx c)
    (k : ∀ b o, (∀ c ∈ ch, b ≠ ad c) → H b = some o → H' b = some o) : At C H' S' ad dx ∧ Step H S ad H' S' ad :=
  At.re3 ch A (fun c l => .inr (hl c l)) (fun c hc _ => h1 c hc) (fun c hc l => ⟨rfl, h2 c hc l⟩) (fun c hc l => .inl ⟨rfl, hl c l⟩) (fun c hc c' hc' l l' _ z => A.inj c c' (hl c l) (hl c' l') z)
    (fun b o n e => k b o (fun c hc => n c hc (lv c hc)) e) rfl
theorem At.not_own (A : At C H S ad dx) {l : Addr} (n : H l = none) : ¬ own S ad l := fun ⟨c, h, e⟩ => by
  rw [← e, A.at_ c h] at n
  cases n
end
theorem nodup_idx {α : Type} : ∀ {l : List α} {i j : Nat} {a : α}, l.Nodup → l[i]? = some a → l[j]? = some a → i = j
  | [], i, _, _, _, h, _ => by simp at h
  | _ :: _, 0, 0, _, _, _, _ => rfl
  | x :: l, 0, j + 1, a, nd, h, h' => by
    obtain rfl : x = a := by simpa using h
    exact absurd (List.mem_of_getElem? (show l[j]? = some x from h')) (List.nodup_cons.mp nd).1
  | x :: l, i + 1, 0, a, nd, h, h' => by
    obtain rfl : x = a := by simpa using h'
    exact absurd (List.mem_of_getElem? (show l[i]? = some x from h)) (List.nodup_cons.mp nd).1
  | x :: l, i + 1, j + 1, a, nd, h, h' => by rw [nodup_idx (List.nodup_cons.mp nd).2 (show l[i]? = some a from h) (show l[j]? = some a from h')]
def newThing (S : Sys) (p : Int) (n : Nat) : Sys := { S with next := S.next + 1, tab := fun q => if q = p then (S.tab p).set n (some S.next) else S.tab q }
section
variable {P : Program} {w : World} {K : PySem.W.Frag} {mg : Str → Option Value} {base : Heap} {C : Cs}
def spNewThing (C : Cs) : Sp := fun vs H Q _ => ∃ (p : Int) (n : Nat), OnSys C vs H [.int p] fun S ad dx => p ∈ S.procs ∧ firstFree (S.tab p) n ∧ (S.tab p).length ≤ 1000 ∧
  ∀ H' T, H T = none → H' T = some (.tup [.int (n : Int), .int S.next]) → At C H' (newThing S p n) ad dx → Step H S ad H' (newThing S p n) ad → Q (.ref T) H'
theorem scNewThing : FnScope ["self", "process", "number", "thing"] ["self", "process"] (defScope sNewThing) := ⟨rfl, rfl, rfl, by decide +kernel, rfl, by decide +kernel, by decide +kernel⟩
theorem okNewThing {f fF : Addr} {fd fdF : FuncData} (F : Fun K "new_thing" "System.new_thing" sNewThing f fd) (T : ClsF K C.S sysF) (GF : MO P w K mg base 4 C.S "free_number" ["self", "process"] (spFreeNum C) fF fdF) :
    FnOk P w K mg base CX0 5 f fd ["self", "process"] (spNewThing C) := by
  refine F.ok scNewThing (fun vs H Q E h => ?_) (fun cdv A outer s H vs Q E hr h => ?_)
  · obtain ⟨_, _, _, _, _, rfl, _⟩ := h
    rfl
  · obtain ⟨p, n, S, ad, dx, rfl, A0, hp, hf, hl, k⟩ := h
    have hu := hu_of hr
    refine ⟨_, pss_cons (ps_set (i := 2) scNewThing.nd rfl (Or.inl rfl) (pe_meth (pv 0) T.cl GF.m GF.g hr GF.b .nil pass0 (pa_cons (pv 1) pa_nil)))
      (pss_cons (ps_set (i := 3) scNewThing.nd rfl (Or.inl rfl) (pe_fld (pv 0) rfl))
      (pss_cons (ps_fldaug (pv 0) pe_int in_add)
      (pss_cons (ps_asg (pv 3) (pg_sub (pe_dget hu (pe_fld (pv 0) rfl) (pv 1) (fun _ _ => rfl)) (pv 2) set_list))
      (pss_one (ps_ret (pe_tup (pa_cons (pv 2) (pa_cons (pv 3) pa_nil)))))))), ?_⟩
    walk_at "wn"
    refine ⟨_, rfl, ad .box, dx .box, _, rfl, A0.at_ .box trivial, rfl, ?_⟩
    walk_at "wn"
    refine ⟨p, n, S, ad, dx, rfl, A0, hp, hf, hl, fun H1 s1 => ?_⟩
    have A1 := A0.same s1
    have hb := A1.at_ .box trivial
    have ht := A1.at_ (.tab p) hp
    have nbt : ad .box ≠ ad (.tab p) := A1.ne (c := .box) (c' := .tab p) trivial hp (by intro z; cases z)
    have nbd : ad .tabD ≠ ad .box := A1.ne (c := .tabD) (c' := .box) trivial trivial (by intro z; cases z)
    walk_at "wn"
    refine ⟨_, rfl, ad .box, C.S, dx .box, _, _, rfl, hb, T.cl, T.no _ (by decide), rfl, ?_⟩
    walk_at "wn"
    refine ⟨_, rfl, ad .box, C.S, dx .box, _, _, rfl, hb, T.cl, T.no _ (by decide), rfl, ?_⟩
    refine ⟨_, _, rfl, rfl, ?_⟩
    refine ⟨_, _, hb, by show 6 < 1000; decide, ?_⟩
    walk_at "wn"
    have hv : valV (entKV S.procs fun p => ad (.tab p)) (Sum.inl p) = some (.ref (ad (.tab p))) := by rw [ent_val, if_pos hp]
    refine ⟨_, rfl, ad .box, C.S, dx .box, _, _, rfl, upd_same, T.cl, T.no _ (by decide), rfl, ?_⟩
    refine ⟨_, rfl, ad .tabD, _, rfl, hv ▸ DGet.k (k := Sum.inl p) (by rw [upd_ne nbd]; exact A1.at_ .tabD trivial), ?_⟩
    have hn : n < (S.tab p).length := (List.getElem?_eq_some_iff.mp hf.1).1
    refine ⟨_, rfl, ad (.tab p), _, _, n, rfl, rfl, by rw [upd_ne (Ne.symm nbt)]; exact ht, by rw [List.length_map]; exact ixN_nat hn, ?_⟩
    walk_at "wn"
    refine ⟨by show 2 ≤ sizeLine; decide, fun T1 hT => ?_⟩
    have nTt : T1 ≠ ad (.tab p) := fun z => by rw [z, upd_same] at hT; cases hT
    rw [upd_ne nTt] at hT
    have nTb : T1 ≠ ad .box := fun z => by rw [z, upd_same] at hT; cases hT
    rw [upd_ne nTb] at hT
    refine (fun z : At C _ _ _ _ ∧ Step _ _ _ _ _ _ => k _ T1 (s1.free hT) upd_same z.1 ((Step.same s1).trans z.2)) ?_
    refine At.re2 [.box, .tab p] A1 (fun c l => by cases c <;> exact l) (fun c hc => ?_) (fun c hc => ?_) (fun c hc l => ?_) (fun b o n e => ?_)
    · simp only [List.mem_cons, List.not_mem_nil, or_false] at hc
      rcases hc with rfl | rfl
      · exact trivial
      · exact hp
    · simp only [List.mem_cons, List.not_mem_nil, or_false] at hc
      rcases hc with rfl | rfl
      · rw [upd_ne (Ne.symm nTb), upd_ne nbt, upd_same]
        rfl
      · rw [upd_ne (Ne.symm nTt), upd_same]
        show _ = some (HO.lst ((if p = p then (S.tab p).set n (some S.next) else S.tab p).map optV))
        rw [if_pos rfl, List.map_set]
        rfl
    · cases c with
      | box => exact absurd List.mem_cons_self hc
      | tab q =>
        have nq : q ≠ p := fun z => hc (by rw [z]; simp)
        show HO.lst ((if q = p then (S.tab p).set n (some S.next) else S.tab q).map optV) = _
        rw [if_neg nq]
        rfl
      | _ => rfl
    · have n1 := n .box (by simp)
      have n2 := n (.tab p) (by simp)
      rw [upd_ne (ne_of_none e hT), upd_ne n2, upd_ne n1]
      exact e
/-! unread_of_unfinished, is_ready -/
def spUnfinished (C : Cs) : Sp := fun vs H Q _ => ∃ t n : Int, OnSys C vs H [.int t, .int n] fun S _ _ => t ∈ S.srcs ∧ (S.unit t).2 = false ∧ Q (.int (S.unit t).1) H
theorem scUnfinished : FnScope ["self", "source", "number", "unread", "finished"] ["self", "source", "number"] (defScope sUnfinished) := ⟨rfl, rfl, rfl, by decide +kernel, rfl, by decide +kernel, by decide +kernel⟩
theorem okUnfinished {f : Addr} {fd : FuncData} (F : Fun K "unread_of_unfinished" "System.unread_of_unfinished" sUnfinished f fd) (T : ClsF K C.S sysF) : FnOk P w K mg base CX0 1 f fd ["self", "source", "number"] (spUnfinished C) := by
  refine F.ok scUnfinished (fun vs H Q E h => ?_) (fun cdv A outer s H vs Q E hr h => ?_)
  · obtain ⟨_, _, _, _, _, rfl, _⟩ := h
    rfl
  · obtain ⟨t, n, S, ad, dx, rfl, A0, ht, hf, k⟩ := h
    have hu := hu_of hr
    refine ⟨_, pss_cons (ps_asg (pe_dget hu (pe_fld (pv 0) rfl) (pv 1) (fun _ _ => rfl)) (pg_tup rfl (pgs_cons (pg_name (i := 3) scUnfinished.nd rfl (Or.inl rfl)) (pgs_cons (pg_name (i := 4) scUnfinished.nd rfl (Or.inl rfl)) pgs_nil))))
      (pss_cons (ps_if (pt_val (pv 4)) (pss_one ps_never) pss_nil) (pss_one (ps_ret (pv 3)))), ?_⟩
    have hv : valV (entKV S.srcs fun t => ad (.srcT t)) (Sum.inl t) = some (.ref (ad (.srcT t))) := by rw [ent_val, if_pos ht]
    walk_at "wn"
    refine ⟨_, rfl, ad .box, C.S, dx .box, _, _, rfl, A0.at_ .box trivial, T.cl, T.no _ (by decide), rfl, ?_⟩
    refine ⟨_, rfl, ad .srcD, _, rfl, hv ▸ DGet.k (k := Sum.inl t) (A0.at_ .srcD trivial), ?_⟩
    refine ⟨ad (.srcT t), _, rfl, SqT.of (A0.at_ (.srcT t) ht), rfl, _, _, rfl, ?_⟩
    walk_at "wn"
    refine ⟨_, _, rfl, ?_⟩
    walk_at "wn"
    refine ⟨rfl, ?_⟩
    walk_at "wn"
    rw [hf]
    walk_at "wn"
    exact k
def ready (S : Sys) (t : Int) : Bool := decide (0 < (S.unit t).1) || (S.unit t).2
def spIsReady (C : Cs) : Sp := fun vs H Q _ => ∃ t : Int, OnSys C vs H [.int t] fun S _ _ => t ∈ S.srcs ∧ Q (.bl (ready S t)) H
theorem scIsReady : FnScope ["self", "source", "unread", "finished"] ["self", "source"] (defScope sIsReady) := ⟨rfl, rfl, rfl, by decide +kernel, rfl, by decide +kernel, by decide +kernel⟩
theorem okIsReady {f : Addr} {fd : FuncData} (F : Fun K "is_ready" "System.is_ready" sIsReady f fd) (T : ClsF K C.S sysF) : FnOk P w K mg base CX0 1 f fd ["self", "source"] (spIsReady C) := by
  refine F.ok scIsReady (fun vs H Q E h => ?_) (fun cdv A outer s H vs Q E hr h => ?_)
  · obtain ⟨_, _, _, _, rfl, _⟩ := h
    rfl
  · obtain ⟨t, S, ad, dx, rfl, A0, ht, k⟩ := h
    have hu := hu_of hr
    refine ⟨_, pss_cons (ps_asg (pe_dget hu (pe_fld (pv 0) rfl) (pv 1) (fun _ _ => rfl)) (pg_tup rfl (pgs_cons (pg_name (i := 2) scIsReady.nd rfl (Or.inl rfl)) (pgs_cons (pg_name (i := 3) scIsReady.nd rfl (Or.inl rfl)) pgs_nil))))
      (pss_one (ps_ret (pe_or (pe_cmpR op_gt (pv 2) pe_int (nomark _)) (pe_one (pv 3))))), ?_⟩
    have hv : valV (entKV S.srcs fun t => ad (.srcT t)) (Sum.inl t) = some (.ref (ad (.srcT t))) := by rw [ent_val, if_pos ht]
    walk_at "wn"
    refine ⟨_, rfl, ad .box, C.S, dx .box, _, _, rfl, A0.at_ .box trivial, T.cl, T.no _ (by decide), rfl, ?_⟩
    refine ⟨_, rfl, ad .srcD, _, rfl, hv ▸ DGet.k (k := Sum.inl t) (A0.at_ .srcD trivial), ?_⟩
    refine ⟨ad (.srcT t), _, rfl, SqT.of (A0.at_ (.srcT t) ht), rfl, _, _, rfl, ?_⟩
    walk_at "wn"
    refine ⟨_, _, rfl, ?_⟩
    walk_at "wn"
    refine ⟨rfl, ?_⟩
    walk_at "wn"
    unfold ready at k
    refine ite2 (fun hd => ?_) (fun hd => ?_)
    · rw [show decide (0 < (S.unit t).1) = true from hd, Bool.true_or] at k
      exact k
    · rw [show decide (0 < (S.unit t).1) = false from Bool.eq_false_iff.mpr hd, Bool.false_or] at k
      exact ⟨_, rfl, k⟩
/-! notify -/
def notified (S : Sys) (t : Int) : Sys := { S with que := fun s => if s ∈ S.sets then noticeQ (S.reg s) t (S.ents s) (S.que s) else S.que s }
structure Small (S : Sys) : Prop where
  que : ∀ s ∈ S.sets, (S.que s).length ≤ 900
  ents : ∀ s ∈ S.sets, (S.ents s).length ≤ 900
  srcs : S.srcs.length ≤ 900
  sets : S.sets.length ≤ 900
  nd : S.sets.Nodup
def spNotify (C : Cs) : Sp := fun vs H Q _ => ∃ t : Int, OnSys C vs H [.int t] fun S ad dx => Small S ∧ ∀ H', At C H' (notified S t) ad dx → Step H S ad H' (notified S t) ad → Q .non H'
theorem scNotify : FnScope ["self", "source", "waiting"] ["self", "source"] (defScope sNotify) := ⟨rfl, rfl, rfl, by decide +kernel, rfl, by decide +kernel, by decide +kernel⟩
theorem okNotify {f fN : Addr} {fd fdN : FuncData} (F : Fun K "notify" "System.notify" sNotify f fd) (T : ClsF K C.S sysF) (TW : Cls K C.W) (GN : MO P w K mg base 2 C.W "notice" ["self", "source"] (spNotice C.W C.R) fN fdN) : FnOk P w K mg base CX0 3 f fd ["self", "source"] (spNotify C) := by
  refine F.ok scNotify (fun vs H Q E h => ?_) (fun cdv A outer s H vs Q E hr h => ?_)
  · obtain ⟨_, _, _, _, rfl, _⟩ := h
    rfl
  · obtain ⟨t, S, ad, dx, rfl, A0, sm0, k⟩ := h
    refine ⟨_, pss_one (ps_lock (ps_for PassesOwn.never rfl (pi_values (pe_fld (pv 0) rfl)) (pg_name (i := 2) scNotify.nd rfl (Or.inl rfl)) (pss_one (ps_expr (pe_meth (pv 2) TW GN.m GN.g hr GN.b .nil pass0 (pa_cons (pv 1) pa_nil)))))), ?_⟩
    have hb := A0.at_ .box trivial
    have hD := A0.at_ .setD trivial
    have nbD : ad .box ≠ ad .setD := A0.ne (c := .box) (c' := .setD) trivial trivial (by intro z; cases z)
    refine ⟨ad .setD, _, hD, trivial, fun od => ?_⟩
    refine ⟨_, rfl, ad .box, C.S, dx .box, _, _, rfl, by rw [upd_ne nbD]; exact hb, T.cl, T.no _ (by decide), rfl, ?_⟩
    refine ⟨ad .setD, od, _, rfl, upd_same, ?_⟩
    have hqs : ∀ s ∈ S.sets, ad (.que s) ≠ ad .setD := fun s hs => A0.ne (c := .que s) (c' := .setD) hs trivial (by intro z; cases z)
    have eo : co C S ad dx .setD = .dK (entKV S.sets fun s => ad (.ws s)) := rfl
    rw [eo]
    have old : ∀ c, live S c → c ≠ .setD → upd H (ad .setD) (.frz od (.dK (entKV S.sets fun s => ad (.ws s)))) (ad c) = some (co C S ad dx c) := fun c hc n => by rw [upd_ne (A0.ne hc (c' := .setD) trivial n)]; exact A0.at_ c hc
    refine for_it walk_values (fun i σ' H1 => ∃ u : Option V, σ' = [some (.ref (ad .box)), some (.int t), u] ∧ (∀ b o, (∀ s ∈ S.sets, b ≠ ad (.que s)) → upd H (ad .setD) (.frz od (.dK (entKV S.sets fun s => ad (.ws s)))) b = some o → H1 b = some o) ∧ ∀ (j : Nat) (s : Int), S.sets[j]? = some s → H1 (ad (.que s)) = some (.lst ((if j < i then noticeQ (S.reg s) t (S.ents s) (S.que s) else S.que s).map V.int))) ⟨_, rfl, fun _ _ _ z => z, fun j s hj => ?_⟩ (fun i σ' H1 _ ⟨_, _, kp, _⟩ => kp _ _ (fun s hs => Ne.symm (hqs s hs)) upd_same) ?_ ?_
    · rw [if_neg (Nat.not_lt_zero _)]
      exact old (.que s) (List.mem_of_getElem? hj) (by intro z; cases z)
    · rintro i x σ' H1 H2 hi ⟨u, rfl, kp, hq⟩ ⟨rfl, kx, ex⟩
      have hi' : i < S.sets.length := by unfold entKV at hi; rwa [List.length_map] at hi
      have es : S.sets[i]? = some S.sets[i] := List.getElem?_eq_getElem hi'
      have hs : S.sets[i] ∈ S.sets := List.getElem_mem hi'
      unfold entKV at ex
      rw [List.getElem?_map, es] at ex
      cases ex
      generalize S.sets[i] = s at es hs
      have at1 : ∀ c, live S c → c ≠ .setD → (∀ s' , c ≠ .que s') → H2 (ad c) = some (co C S ad dx c) := fun c hc n1 n2 => kp _ _ (fun s' hs' => A0.ne hc (c' := .que s') hs' (n2 s')) (old c hc n1)
      have hw := at1 (.ws s) hs (by intro z; cases z) (fun s' z => by cases z)
      have he := at1 (.ent s) hs (by intro z; cases z) (fun s' z => by cases z)
      have hq1 := hq i s es
      rw [if_neg (Nat.lt_irrefl i)] at hq1
      walk_at "wn"
      refine ⟨_, rfl, ad (.ws s), dx (.ws s), _, rfl, hw, rfl, ?_⟩
      walk_at "wn"
      refine ⟨ad (.ws s), dx (.ws s), ad (.ent s), ad (.que s), t, S.que s, S.ents s, fun l => ad (.reg s l), S.reg s, rfl, hw, hq1, he, fun l hl => ⟨dx (.reg s l), at1 (.reg s l) ⟨hs, hl⟩ (by intro z; cases z) (fun s' z => by cases z)⟩, Nat.le_trans (sm0.que s hs) (by decide), Nat.le_trans (sm0.ents s hs) (by decide), fun H' k1 k2 => ?_⟩
      refine ⟨_, rfl, fun b o n e => k2 b o (n s hs) (kp b o n e), fun j s' hj => ?_⟩
      by_cases e : s' = s
      · subst e
        have hji : j = i := by
          exact nodup_idx sm0.nd hj es
        rw [if_pos (by omega)]
        exact k1
      · have hs' := List.mem_of_getElem? hj
        rw [k2 _ _ (A0.ne (c := .que s') (c' := .que s) hs' hs (fun z => e (by cases z; rfl))) (hq j s' hj)]
        have hji : j ≠ i := fun z => e (by rw [z, es] at hj; cases hj; rfl)
        by_cases hlt : j < i
        · rw [if_pos hlt, if_pos (by omega)]
        · rw [if_neg hlt, if_neg (by omega)]
    · rintro σ' H1 ⟨u, rfl, kp, hq⟩
      refine ⟨kp _ _ (fun s hs => Ne.symm (hqs s hs)) upd_same, ?_⟩
      refine (fun z : At C _ _ _ _ ∧ Step _ _ _ _ _ _ => k _ z.1 z.2) ?_
      refine At.re2 (S.sets.map Cell.que) A0 (fun c l => by cases c <;> exact l) (fun c hc => ?_) (fun c hc => ?_) (fun c hc l => ?_) (fun b o n e => ?_)
      · obtain ⟨s, hs, rfl⟩ := List.mem_map.mp hc
        exact hs
      · obtain ⟨s, hs, rfl⟩ := List.mem_map.mp hc
        obtain ⟨j, hj, ej⟩ := List.getElem_of_mem hs
        have ej2 : S.sets[j]? = some s := by rw [List.getElem?_eq_getElem hj, ej]
        have q := hq j s ej2
        rw [if_pos (by unfold entKV; rw [List.length_map]; exact hj)] at q
        rw [upd_ne (hqs s hs), q]
        show _ = some (HO.lst ((if s ∈ S.sets then noticeQ (S.reg s) t (S.ents s) (S.que s) else S.que s).map V.int))
        rw [if_pos hs]
      · cases c with
        | que s =>
          have ns : s ∉ S.sets := fun z => hc (List.mem_map.mpr ⟨s, z, rfl⟩)
          exact absurd l ns
        | _ => rfl
      · by_cases hb2 : b = ad .setD
        · rw [hb2, upd_same, ← eo, ← hD, ← hb2, e]
        · rw [upd_ne hb2]
          exact kp b o (fun s hs => n (.que s) (List.mem_map.mpr ⟨s, hs, rfl⟩)) (by rw [upd_ne hb2]; exact e)
end
end Wn

namespace Wn
open PySem PySem.Spec PyProof.Rows L2 Evl
local macro_rules | `(tactic| walk_at "wn1") => `(tactic| first | ((with_reducible show (if (!decide _) = true then _ else _)); refine' g_nes ?_) | ((with_reducible show (if (decide _) = true then _ else _)); refine' g_es ?_) | with_reducible first
  | (refine' g_var ?h ?q; (case h => with_unfolding_all rfl))
  | refine' g_c ?_ | refine' g_op ?_ | refine' g_rI0 ?_ | refine' g_asg ?_ | refine' g_name ?_ | refine' g_seq ?_ | refine' g_ret ?_ | refine' g_retN ?_ | refine' g_next ?_ | refine' g_drop ?_
  | refine' g_nil ?_ | refine' g_cons ?_ | refine' g_cb ?_ | refine' g_test ?_ | refine' g_bl ?_ | refine' g_if ?_ | refine' g_ifs ?_ | refine' g_not ?_ | refine' g_part ?_ | refine' g_pint ?_ | refine' g_nopart ?_ | refine' g_call ?_
  | (refine' g_mul ?h ?q; (case h => with_unfolding_all first | exact Or.inl ⟨by decide, by decide⟩ | exact Or.inr ⟨by decide, by decide⟩ | exact Or.inl ⟨by omega, by omega⟩ | exact Or.inr ⟨by omega, by omega⟩))
  | (refine' g_mod ?h ?q; (case h => with_unfolding_all first | decide | omega))
  | refine' g_rIsN ?_ | refine' g_rNotN ?_ | refine' g_max2 ?_ | refine' g_min2 ?_ | refine' g_and ?_ | refine' g_or ?_ | refine' g_orV ?_ | refine' g_andV ?_ | refine' g_notV ?_ | refine' g_m1 ?_ | refine' g_yes ?_ | refine' g_bm ?_ | refine' g_bm0 ?_
  | (refine' g_tyL ?h ?q; (case h => first | assumption | exact upd_same))
  | refine' g_m0 ?_ | refine' g_tB ?_ | refine' g_isS ?_ | refine' g_bT ?_ | refine' g_bF ?_ | refine' g_bNT ?_ | refine' g_callK ?_ | refine' g_bNF ?_
  | (refine' g_lenL ?h ?q; (case h => first | assumption | exact upd_same))
  | refine' g_un ?_ | refine' g_rint _ ?_ | refine' g_rabs ?_ | refine' g_sl ?_ 
  | (refine' g_ixL ?h ?a ?q; (case h => first | assumption | exact upd_same); (case a => with_unfolding_all rfl))
  | (refine' g_div ?h0 ?h1 ?q; (case h0 => with_unfolding_all first | decide | omega); (case h1 => with_unfolding_all first | decide | omega))
  | refine' g_sub ?_
  | (refine' g_setL ?h ?a ?q; (case h => first | assumption | exact upd_same); (case a => with_unfolding_all rfl))
  | refine' g_lst ?_ | refine' g_tup ?_
  | (refine' g_rEq ?h ?q; (case h => with_unfolding_all rfl)) | (refine' g_rNe ?h ?q; (case h => with_unfolding_all rfl)))
local macro_rules | `(tactic| walk_at "wn") => `(tactic| repeat walk_at "wn1")

def setA (ad : Cell → Addr) (c0 : Cell) (T : Addr) : Cell → Addr := fun c => if c = c0 then T else ad c
theorem setA_same {ad : Cell → Addr} {c0 : Cell} {T : Addr} : setA ad c0 T c0 = T := if_pos rfl
theorem setA_ne {ad : Cell → Addr} {c0 c : Cell} {T : Addr} (h : c ≠ c0) : setA ad c0 T c = ad c := if_neg h
theorem srcT_fun (ad : Cell → Addr) (t : Int) (T : Addr) : (fun j => if j = t then T else ad (.srcT j)) = fun j => setA ad (.srcT t) T (.srcT j) := by
  funext j
  by_cases h : j = t
  · rw [if_pos h, h, setA_same]
  · rw [if_neg h, setA_ne fun z => h (by cases z; rfl)]
def withUnit (S : Sys) (t u : Int) (f : Bool) : Sys := { S with unit := fun j => if j = t then (u, f) else S.unit j }
section
variable {C : Cs} {H : Hp} {S : Sys} {ad dx : Cell → Addr}
/-- sources[t] = (u, f) -/
theorem At.unit (A : At C H S ad dx) {t u : Int} {f : Bool} {T : Addr} (ht : t ∈ S.srcs) (hT : H T = none) :
    At C (upd (upd H T (.tup [.int u, .bl f])) (ad .srcD) (.dK (putK (entKV S.srcs fun j => ad (.srcT j)) (Sum.inl t) (.ref T)))) (withUnit S t u f) (setA ad (.srcT t) T) dx ∧
    Step H S ad (upd (upd H T (.tup [.int u, .bl f])) (ad .srcD) (.dK (putK (entKV S.srcs fun j => ad (.srcT j)) (Sum.inl t) (.ref T)))) (withUnit S t u f) (setA ad (.srcT t) T) := by
  have hD := A.at_ .srcD trivial
  have nTD : T ≠ ad .srcD := fun z => by rw [z, hD] at hT; cases hT
  refine At.re3 [.srcD, .srcT t] A (fun c l => .inr (by cases c <;> exact l)) (fun c hc l => ?_) (fun c hc l => ?_) (fun c hc l => ?_) (fun c hc c' hc' l l' z e => ?_) (fun b o n e => ?_) (setA_ne (by intro z; cases z))
  · simp only [List.mem_cons, List.not_mem_nil, or_false] at hc
    rcases hc with rfl | rfl
    · rw [setA_ne (by intro z; cases z), upd_same, ent_put, if_pos ht, srcT_fun]
      rfl
    · rw [setA_same, upd_ne nTD, upd_same]
      show _ = some (HO.tup [.int (if t = t then (u, f) else S.unit t).1, .bl (if t = t then (u, f) else S.unit t).2])
      rw [if_pos rfl]
  · have n1 : c ≠ .srcD := fun z => hc (by rw [z]; simp)
    have n2 : c ≠ .srcT t := fun z => hc (by rw [z]; simp)
    refine ⟨setA_ne n2, ?_⟩
    cases c with
    | srcD => exact absurd rfl n1
    | srcT j =>
      have nj : j ≠ t := fun z => n2 (by rw [z])
      show HO.tup [.int (if j = t then (u, f) else S.unit j).1, .bl (if j = t then (u, f) else S.unit j).2] = _
      rw [if_neg nj]
      rfl
    | _ => rfl
  · simp only [List.mem_cons, List.not_mem_nil, or_false] at hc
    rcases hc with rfl | rfl
    · exact .inl ⟨setA_ne (by intro z; cases z), trivial⟩
    · exact .inr (by rw [setA_same]; exact hT)
  · simp only [List.mem_cons, List.not_mem_nil, or_false] at hc hc'
    rcases hc with rfl | rfl
    · rw [setA_ne (by intro z; cases z), hD] at z
      cases z
    · rcases hc' with rfl | rfl
      · rw [setA_same, setA_ne (by intro z; cases z)] at e
        exact absurd e nTD
      · rfl
  · rw [upd_ne (n .srcD (by simp) trivial), upd_ne (ne_of_none e hT)]
    exact e
end
section
variable {P : Program} {w : World} {K : PySem.W.Frag} {mg : Str → Option Value} {base : Heap} {C : Cs}
def arrived (S : Sys) (t m : Int) : Sys := notified (withUnit S t ((S.unit t).1 + m) false) t
def spArrive (C : Cs) : Sp := fun vs H Q _ => ∃ p n t m : Int, OnSys C vs H [.int p, .int n, .int m] fun S ad dx => Means S p n t ∧ t ∈ S.srcs ∧ (S.unit t).2 = false ∧ 1 ≤ m ∧ m ≤ 1000000 ∧ Small S ∧ ∀ H' ad', At C H' (arrived S t m) ad' dx → Step H S ad H' (arrived S t m) ad' → Q .non H'
theorem scArrive : FnScope ["self", "process", "number", "many", "source", "unread"] ["self", "process", "number", "many"] (defScope sArrive) := ⟨rfl, rfl, rfl, by decide +kernel, rfl, by decide +kernel, by decide +kernel⟩
theorem okArrive {dvs : List V} {kws : List (Str × V)} {f fS fU fN fC : Addr} {fd fdS fdU fdN fdC : FuncData} (F : FunD K "arrive" "System.arrive" (defArgs sArrive) (defBody sArrive) (defScope sArrive) dvs kws f fd) (T : ClsF K C.S sysF)
    (GS : MO P w K mg base 5 C.S "source_at" ["self", "process", "number"] (spSourceAt C) fS fdS) (GU : MO P w K mg base 1 C.S "unread_of_unfinished" ["self", "source", "number"] (spUnfinished C) fU fdU) (GN : MO P w K mg base 3 C.S "notify" ["self", "source"] (spNotify C) fN fdN)
    (GC : DO P w K mg base 3 "is_count" ["x"] spIsCount fC fdC) : FnOk P w K mg base CX0 6 f fd ["self", "process", "number", "many"] (spArrive C) := by
  refine F.ok scArrive (fun vs H Q E h => ?_) (fun cdv A outer s H vs Q E hr h => ?_)
  · obtain ⟨_, _, _, _, _, _, _, rfl, _⟩ := h
    rfl
  · obtain ⟨p, n, t, m, S, ad, dx, rfl, A0, M, ht, hf, m0, m1, sm0, k⟩ := h
    have hu := hu_of hr
    have hr1 : Room 1 _ := hr.mono (by decide)
    have hr3 : Room 3 _ := hr.mono (by decide)
    refine ⟨_, pss_cons (ps_set (i := 4) scArrive.nd rfl (Or.inl rfl) (pe_meth (pv 0) T.cl GS.m GS.g hr GS.b .nil pass0 (pa_cons (pv 1) (pa_cons (pv 2) pa_nil))))
      (pss_cons (ps_if (pt_not (pt_val (pe_call GC.g hr3 (by rfl) GC.m GC.k GC.b .nil pass0 (pa_cons (pv 3) pa_nil)))) (pss_one ps_never) pss_nil)
      (pss_cons (ps_set (i := 5) scArrive.nd rfl (Or.inl rfl) (pe_meth (pv 0) T.cl GU.m GU.g hr1 GU.b .nil pass0 (pa_cons (pv 4) (pa_cons (pv 2) pa_nil))))
      (pss_cons (ps_dput hu (pe_fld (pv 0) rfl) (pv 4) (pe_tup (pa_cons (pe_op op_add (pv 5) (pv 3)) (pa_cons pe_bl pa_nil))) rfl)
      (pss_one (ps_expr (pe_meth (pv 0) T.cl GN.m GN.g hr3 GN.b .nil pass0 (pa_cons (pv 4) pa_nil))))))), ?_⟩
    have hb := A0.at_ .box trivial
    walk_at "wn"
    refine ⟨_, rfl, ad .box, dx .box, _, rfl, hb, rfl, ?_⟩
    walk_at "wn"
    refine ⟨p, n, t, S, ad, dx, rfl, A0, M, ht, ?_⟩
    walk_at "wn"
    refine ⟨m, rfl, ?_⟩
    rw [decide_eq_true m0, decide_eq_true m1]
    refine ⟨_, rfl, ?_⟩
    walk_at "wn"
    refine ⟨_, rfl, ad .box, dx .box, _, rfl, hb, rfl, ?_⟩
    walk_at "wn"
    refine ⟨t, n, S, ad, dx, rfl, A0, ht, hf, ?_⟩
    walk_at "wn"
    refine ⟨_, rfl, _, rfl, _, _, rfl, rfl, by show 2 ≤ sizeLine; decide, fun T1 hT => ?_⟩
    have nbT : ad .box ≠ T1 := ne_of_none hb hT
    have nDT : ad .srcD ≠ T1 := ne_of_none (A0.at_ .srcD trivial) hT
    refine ⟨_, rfl, ad .box, C.S, dx .box, _, _, rfl, by rw [upd_ne nbT]; exact hb, T.cl, T.no _ (by decide), rfl, ?_⟩
    refine ⟨_, rfl, ad .srcD, _, rfl, DPut.k (k := Sum.inl t) (by rw [upd_ne nDT]; exact A0.at_ .srcD trivial) (by unfold entKV; rw [List.length_map, sizeLine_eq]; have := sm0.srcs; omega), ?_⟩
    obtain ⟨A1, st1⟩ := A0.unit (u := (S.unit t).1 + m) (f := false) ht hT
    walk_at "wn"
    refine ⟨_, rfl, setA ad (.srcT t) T1 .box, dx .box, _, by rw [setA_ne (by intro z; cases z)], A1.at_ .box trivial, rfl, ?_⟩
    walk_at "wn"
    refine ⟨t, _, _, dx, by rw [setA_ne (by intro z; cases z)]; rfl, A1, ⟨sm0.que, sm0.ents, sm0.srcs, sm0.sets, sm0.nd⟩, fun H' A2 st2 => k H' _ A2 (st1.trans st2)⟩
/-! read -/
def taken (u : Int) : Option Int → Int
  | none => u
  | some m => if u < m then u else m
def readS (S : Sys) (t : Int) (mo : Option Int) : Sys := withUnit S t ((S.unit t).1 - taken (S.unit t).1 mo) (S.unit t).2
def spRead (C : Cs) : Sp := fun vs H Q _ => ∃ (p n t : Int) (mo : Option Int), OnSys C vs H [.int p, .int n, optV mo] fun S ad dx => Means S p n t ∧ t ∈ S.srcs ∧ (∀ m, mo = some m → 1 ≤ m ∧ m ≤ 1000000) ∧ Small S ∧ ∀ H' ad', At C H' (readS S t mo) ad' dx → Step H S ad H' (readS S t mo) ad' → Q (.int (taken (S.unit t).1 mo)) H'
theorem scRead : FnScope ["self", "process", "number", "many", "source", "unread", "finished", "taken"] ["self", "process", "number", "many"] (defScope sRead) := ⟨rfl, rfl, rfl, by decide +kernel, rfl, by decide +kernel, by decide +kernel⟩
theorem okRead {dvs : List V} {kws : List (Str × V)} {f fS fC : Addr} {fd fdS fdC : FuncData} (F : FunD K "read" "System.read" (defArgs sRead) (defBody sRead) (defScope sRead) dvs kws f fd) (X : SysTxt mg) (T : ClsF K C.S sysF)
    (GS : MO P w K mg base 5 C.S "source_at" ["self", "process", "number"] (spSourceAt C) fS fdS) (GC : DO P w K mg base 3 "is_count" ["x"] spIsCount fC fdC) : FnOk P w K mg base CX0 6 f fd ["self", "process", "number", "many"] (spRead C) := by
  refine F.ok scRead (fun vs H Q E h => ?_) (fun cdv A outer s H vs Q E hr h => ?_)
  · obtain ⟨_, _, _, _, _, _, _, rfl, _⟩ := h
    rfl
  · obtain ⟨p, n, t, mo, S, ad, dx, rfl, A0, M, ht, hm, sm0, k⟩ := h
    have hu := hu_of hr
    have hr3 : Room 3 _ := hr.mono (by decide)
    refine ⟨_, pss_cons (ps_set (i := 4) scRead.nd rfl (Or.inl rfl) (pe_meth (pv 0) T.cl GS.m GS.g hr GS.b .nil pass0 (pa_cons (pv 1) (pa_cons (pv 2) pa_nil))))
      (pss_cut (ps_if (PW.pt (pw_and (pt_cmpR oNotN (pv 3) pe_non (nomark _)) (pw_and1 (pt_not (pt_val (pe_call GC.g hr3 (by rfl) GC.m GC.k GC.b .nil pass0 (pa_cons (pv 3) pa_nil))))))) (pss_one ps_never) pss_nil)
      (pss_cons (ps_asg (pe_dget hu (pe_fld (pv 0) rfl) (pv 4) (fun _ _ => rfl)) (pg_tup rfl (pgs_cons (pg_name (i := 5) scRead.nd rfl (Or.inl rfl)) (pgs_cons (pg_name (i := 6) scRead.nd rfl (Or.inl rfl)) pgs_nil))))
      (pss_cut (ps_set (i := 7) scRead.nd rfl (Or.inl rfl) (pe_ifExp (pt_cmpR oIsN (pv 3) pe_non (nomark _)) (pv 5) (pe_callB (cMin2 rfl) (by rfl) X.min (by decide +kernel) (pa_cons (pv 3) (pa_cons (pv 5) pa_nil)))))
      (pss_cons (ps_dput hu (pe_fld (pv 0) rfl) (pv 4) (pe_tup (pa_cons (pe_op op_sub (pv 5) (pv 7)) (pa_cons (pv 6) pa_nil))) rfl)
      (pss_one (ps_ret (pv 7))))))), ?_⟩
    have hb := A0.at_ .box trivial
    have hv : valV (entKV S.srcs fun t => ad (.srcT t)) (Sum.inl t) = some (.ref (ad (.srcT t))) := by rw [ent_val, if_pos ht]
    walk_at "wn"
    refine ⟨_, rfl, ad .box, dx .box, _, rfl, hb, rfl, ?_⟩
    walk_at "wn"
    refine ⟨p, n, t, S, ad, dx, rfl, A0, M, ht, ?_⟩
    walk_at "wn"
    refine ⟨fun σ' H' => σ' = [some (.ref (ad .box)), some (.int p), some (.int n), some (optV mo), some (.int t), none, none, none] ∧ H' = H, ?_, ?_⟩
    · walk_at "wn"
      cases mo with
      | none =>
        have e : decide (optV none = V.non) = true := decide_eq_true rfl
        rw [e]
        walk_at "wn"
        exact ⟨rfl, rfl⟩
      | some m =>
        have e : decide (optV (some m) = V.non) = false := decide_eq_false fun z => nomatch z
        rw [e]
        walk_at "wn"
        refine ⟨m, rfl, ?_⟩
        rw [decide_eq_true (hm m rfl).1, decide_eq_true (hm m rfl).2]
        refine ⟨_, rfl, ?_⟩
        walk_at "wn"
        exact ⟨rfl, rfl⟩
    rintro σ' H' ⟨rfl, rfl⟩
    walk_at "wn"
    refine ⟨_, rfl, ad .box, C.S, dx .box, _, _, rfl, hb, T.cl, T.no _ (by decide), rfl, ?_⟩
    refine ⟨_, rfl, ad .srcD, _, rfl, hv ▸ DGet.k (k := Sum.inl t) (A0.at_ .srcD trivial), ?_⟩
    refine ⟨ad (.srcT t), _, rfl, SqT.of (A0.at_ (.srcT t) ht), rfl, _, _, rfl, ?_⟩
    walk_at "wn"
    refine ⟨_, _, rfl, ?_⟩
    walk_at "wn"
    refine ⟨rfl, ?_⟩
    refine ⟨fun σ' H1 => σ' = [some (.ref (ad .box)), some (.int p), some (.int n), some (optV mo), some (.int t), some (.int (S.unit t).1), some (.bl (S.unit t).2), some (.int (taken (S.unit t).1 mo))] ∧ H1 = H', ?_, ?_⟩
    · walk_at "wn"
      cases mo with
      | none =>
        have e : decide (optV none = V.non) = true := decide_eq_true rfl
        rw [e]
        walk_at "wn"
        exact ⟨rfl, rfl⟩
      | some m =>
        have e : decide (optV (some m) = V.non) = false := decide_eq_false fun z => nomatch z
        rw [e]
        walk_at "wn"
        refine ⟨m, (S.unit t).1, rfl, ?_⟩
        exact ⟨rfl, rfl⟩
    rintro σ' H1 ⟨rfl, rfl⟩
    walk_at "wn"
    refine ⟨_, rfl, _, rfl, _, _, rfl, rfl, ?_⟩
    walk_at "wn"
    refine ⟨by show 2 ≤ sizeLine; decide, fun T1 hT => ?_⟩
    have nbT : ad .box ≠ T1 := ne_of_none hb hT
    have nDT : ad .srcD ≠ T1 := ne_of_none (A0.at_ .srcD trivial) hT
    refine ⟨_, rfl, ad .box, C.S, dx .box, _, _, rfl, by rw [upd_ne nbT]; exact hb, T.cl, T.no _ (by decide), rfl, ?_⟩
    refine ⟨_, rfl, ad .srcD, _, rfl, DPut.k (k := Sum.inl t) (by rw [upd_ne nDT]; exact A0.at_ .srcD trivial) (by unfold entKV; rw [List.length_map, sizeLine_eq]; have := sm0.srcs; omega), ?_⟩
    obtain ⟨A1, st1⟩ := A0.unit (u := (S.unit t).1 - taken (S.unit t).1 mo) (f := (S.unit t).2) ht hT
    walk_at "wn"
    exact k _ _ A1 st1
/-! row_of -/
def spRowOf (C : Cs) : Sp := fun vs H Q _ => ∃ p n t : Int, OnSys C vs H [.int p, .int n] fun S ad dx => Means S p n t ∧ t ∈ S.sets ∧ ∀ r, H r = none → Q (.ref r) (upd H r (.lst ((S.que t).map V.int)))
theorem scRowOf : FnScope ["self", "process", "set_number"] ["self", "process", "set_number"] (defScope sRowOf) := ⟨rfl, rfl, rfl, by decide +kernel, rfl, by decide +kernel, by decide +kernel⟩
theorem okRowOf {f fS : Addr} {fd fdS : FuncData} (F : Fun K "row_of" "System.row_of" sRowOf f fd) (X : SysTxt mg) (T : ClsF K C.S sysF) (TW : ClsF K C.W wsF) (GS : MO P w K mg base 5 C.S "set_at" ["self", "process", "set_number"] (spSetAt C) fS fdS) :
    FnOk P w K mg base CX0 6 f fd ["self", "process", "set_number"] (spRowOf C) := by
  refine F.ok scRowOf (fun vs H Q E h => ?_) (fun cdv A outer s H vs Q E hr h => ?_)
  · obtain ⟨_, _, _, _, _, _, rfl, _⟩ := h
    rfl
  · obtain ⟨p, n, t, S, ad, dx, rfl, A0, M, ht, k⟩ := h
    refine ⟨_, pss_one (ps_ret (pe_callTy call_list_of (by rfl) X.list PyProof.Rows.boot_list (pa_cons (pe_fld (pe_meth (pv 0) T.cl GS.m GS.g hr GS.b .nil pass0 (pa_cons (pv 1) (pa_cons (pv 2) pa_nil))) rfl) pa_nil))), ?_⟩
    have hb := A0.at_ .box trivial
    walk_at "wn"
    refine ⟨_, rfl, ad .box, dx .box, _, rfl, hb, rfl, ?_⟩
    walk_at "wn"
    refine ⟨p, n, t, S, ad, dx, rfl, A0, M, ht, ?_⟩
    refine ⟨ad (.ws t), C.W, dx (.ws t), _, _, rfl, A0.at_ (.ws t) ht, TW.cl, TW.no _ (by decide), rfl, ?_⟩
    exact ⟨ad (.que t), _, rfl, .inl (SqL.of (A0.at_ (.que t) ht)), fun r hr0 => k r hr0⟩
end
end Wn

namespace Wn
open PySem PySem.Spec PyProof.Rows L2 Evl
local macro_rules | `(tactic| walk_at "wn1") => `(tactic| first | ((with_reducible show (if (!decide _) = true then _ else _)); refine' g_nes ?_) | ((with_reducible show (if (decide _) = true then _ else _)); refine' g_es ?_) | with_reducible first
  | (refine' g_var ?h ?q; (case h => with_unfolding_all rfl))
  | refine' g_c ?_ | refine' g_op ?_ | refine' g_rI0 ?_ | refine' g_asg ?_ | refine' g_name ?_ | refine' g_seq ?_ | refine' g_ret ?_ | refine' g_retN ?_ | refine' g_next ?_ | refine' g_drop ?_
  | refine' g_nil ?_ | refine' g_cons ?_ | refine' g_cb ?_ | refine' g_test ?_ | refine' g_bl ?_ | refine' g_if ?_ | refine' g_ifs ?_ | refine' g_not ?_ | refine' g_part ?_ | refine' g_pint ?_ | refine' g_nopart ?_ | refine' g_call ?_
  | (refine' g_mul ?h ?q; (case h => with_unfolding_all first | exact Or.inl ⟨by decide, by decide⟩ | exact Or.inr ⟨by decide, by decide⟩ | exact Or.inl ⟨by omega, by omega⟩ | exact Or.inr ⟨by omega, by omega⟩))
  | (refine' g_mod ?h ?q; (case h => with_unfolding_all first | decide | omega))
  | refine' g_rIsN ?_ | refine' g_rNotN ?_ | refine' g_max2 ?_ | refine' g_min2 ?_ | refine' g_and ?_ | refine' g_or ?_ | refine' g_orV ?_ | refine' g_andV ?_ | refine' g_notV ?_ | refine' g_m1 ?_ | refine' g_yes ?_ | refine' g_bm ?_ | refine' g_bm0 ?_
  | (refine' g_tyL ?h ?q; (case h => first | assumption | exact upd_same))
  | refine' g_m0 ?_ | refine' g_tB ?_ | refine' g_isS ?_ | refine' g_bT ?_ | refine' g_bF ?_ | refine' g_bNT ?_ | refine' g_callK ?_ | refine' g_bNF ?_
  | (refine' g_lenL ?h ?q; (case h => first | assumption | exact upd_same))
  | refine' g_un ?_ | refine' g_rint _ ?_ | refine' g_rabs ?_ | refine' g_sl ?_ 
  | (refine' g_ixL ?h ?a ?q; (case h => first | assumption | exact upd_same); (case a => with_unfolding_all rfl))
  | (refine' g_div ?h0 ?h1 ?q; (case h0 => with_unfolding_all first | decide | omega); (case h1 => with_unfolding_all first | decide | omega))
  | refine' g_sub ?_
  | (refine' g_setL ?h ?a ?q; (case h => first | assumption | exact upd_same); (case a => with_unfolding_all rfl))
  | refine' g_lst ?_ | refine' g_tup ?_
  | (refine' g_rEq ?h ?q; (case h => with_unfolding_all rfl)) | (refine' g_rNe ?h ?q; (case h => with_unfolding_all rfl)))
local macro_rules | `(tactic| walk_at "wn") => `(tactic| repeat walk_at "wn1")

theorem reg_fun (ad : Cell → Addr) (s l : Int) (T : Addr) : (fun j => if j = l then T else ad (.reg s j)) = fun j => setA ad (.reg s l) T (.reg s j) := by
  funext j
  by_cases h : j = l
  · rw [if_pos h, h, setA_same]
  · rw [if_neg h, setA_ne fun z => h (by cases z; rfl)]
def added (S : Sys) (s l : Int) (r : Reg) : Sys := { S with
  ents := fun j => if j = s then S.ents s ++ [l] else S.ents j
  reg := fun j i => if j = s ∧ i = l then r else S.reg j i
  que := fun j => if j = s then (if ready S r.src = true then qAdd l (S.que s) else S.que s) else S.que j }
section
variable {P : Program} {w : World} {K : PySem.W.Frag} {mg : Str → Option Value} {base : Heap} {C : Cs}
def spAdd (C : Cs) : Sp := fun vs H Q _ => ∃ (p sn n l s t : Int) (wd : Str), OnSys C vs H [.int p, .int sn, .int n, .int l, .str wd] fun S ad dx => Means S p sn s ∧ s ∈ S.sets ∧ Means S p n t ∧ t ∈ S.srcs ∧ 0 ≤ l ∧ l ≤ 999999 ∧ wd ∈ wordsL ∧ (S.ents s).find? (keyOf (S.reg s) n t) = none ∧ l ∉ S.ents s ∧ Small S ∧
  ∀ H' ad' dx', At C H' (added S s l ⟨n, t, wd, true⟩) ad' dx' → Step H S ad H' (added S s l ⟨n, t, wd, true⟩) ad' → Q .non H'
theorem scAdd : FnScope ["self", "process", "set_number", "number", "label", "word", "waiting", "source"] ["self", "process", "set_number", "number", "label", "word"] (defScope sAdd) := ⟨rfl, rfl, rfl, by decide +kernel, rfl, by decide +kernel, by decide +kernel⟩
theorem okAdd {dvs : List V} {kws : List (Str × V)} {f fW fS fL fD fO fR fI fP : Addr} {fd fdW fdS fdL fdD fdO fdR fdI fdP : FuncData} (F : FunD K "add" "System.add" (defArgs sAdd) (defBody sAdd) (defScope sAdd) dvs kws f fd) (T : ClsF K C.S sysF) (TW : ClsF K C.W wsF)
    (GW : MO P w K mg base 5 C.S "set_at" ["self", "process", "set_number"] (spSetAt C) fW fdW) (GS : MO P w K mg base 5 C.S "source_at" ["self", "process", "number"] (spSourceAt C) fS fdS)
    (GL : DO P w K mg base 3 "is_label" ["x"] spIsLabel fL fdL) (GD : DO P w K mg base 1 "is_word" ["x"] spIsWord fD fdD) (GO : MO P w K mg base 1 C.W "label_of" ["self", "number", "source"] (spLabelOf C.W C.R) fO fdO)
    (gR : mg "Registration" = some (.ref C.R)) (MR : Mk K C.R fR) (GR : FnOk P w K mg base CX0 1 fR fdR ["self", "number", "source", "word", "armed"] (spRegInit C.R)) (bR : Binds K fdR ["self", "number", "source", "word", "armed"] [])
    (GI : MO P w K mg base 1 C.S "is_ready" ["self", "source"] (spIsReady C) fI fdI) (GP : MO P w K mg base 2 C.W "put" ["self", "label", "kept", "ready"] (spPut C.W) fP fdP) :
    FnOk P w K mg base CX0 6 f fd ["self", "process", "set_number", "number", "label", "word"] (spAdd C) := by
  refine F.ok scAdd (fun vs H Q E h => ?_) (fun cdv A outer s H vs Q E hr h => ?_)
  · obtain ⟨_, _, _, _, _, _, _, _, _, _, rfl, _⟩ := h
    rfl
  · obtain ⟨p, sn, n, l, s, t, wd, S, ad, dx, rfl, A0, Ms, hs, Mt, ht, l0, l1, hwd, hfind, hl, sm0, k⟩ := h
    have hu := hu_of hr
    have hr1 : Room 1 _ := hr.mono (by decide)
    have hr2 : Room 2 _ := hr.mono (by decide)
    have hr3 : Room 3 _ := hr.mono (by decide)
    refine ⟨_, pss_cons (ps_set (i := 6) scAdd.nd rfl (Or.inl rfl) (pe_meth (pv 0) T.cl GW.m GW.g hr GW.b .nil pass0 (pa_cons (pv 1) (pa_cons (pv 2) pa_nil))))
      (pss_cons (ps_set (i := 7) scAdd.nd rfl (Or.inl rfl) (pe_meth (pv 0) T.cl GS.m GS.g hr GS.b .nil pass0 (pa_cons (pv 1) (pa_cons (pv 3) pa_nil))))
      (pss_cons (ps_if (pt_not (pt_val (pe_call GL.g hr3 (by rfl) GL.m GL.k GL.b .nil pass0 (pa_cons (pv 4) pa_nil)))) (pss_one ps_never) pss_nil)
      (pss_cons (ps_if (pt_not (pt_val (pe_call GD.g hr1 (by rfl) GD.m GD.k GD.b .nil pass0 (pa_cons (pv 5) pa_nil)))) (pss_one ps_never) pss_nil)
      (pss_cons (ps_if (pt_cmpR oNotN (pe_meth (pv 6) TW.cl GO.m GO.g hr1 GO.b .nil pass0 (pa_cons (pv 3) (pa_cons (pv 7) pa_nil))) pe_non (nomark _)) (pss_one ps_never) pss_nil)
      (pss_cons (ps_if (pt_cmp (pc_din hu (pv 4) (pe_fld (pv 6) rfl)) rfl) (pss_one ps_never) pss_nil)
      (pss_one (ps_expr (pe_meth (pv 6) TW.cl GP.m GP.g hr2 GP.b .nil pass0 (pa_cons (pv 4) (pa_cons (pe_make MR GR hr2 (by rfl) gR bR .nil pass0 (pa_cons (pv 3) (pa_cons (pv 7) (pa_cons (pv 5) (pa_cons pe_bl pa_nil))))) (pa_cons (pe_meth (pv 0) T.cl GI.m GI.g hr1 GI.b .nil pass0 (pa_cons (pv 7) pa_nil)) pa_nil))))))))))), ?_⟩
    have hb := A0.at_ .box trivial
    walk_at "wn"
    refine ⟨_, rfl, ad .box, dx .box, _, rfl, hb, rfl, ?_⟩
    walk_at "wn"
    refine ⟨p, sn, s, S, ad, dx, rfl, A0, Ms, hs, ?_⟩
    walk_at "wn"
    refine ⟨_, rfl, ad .box, dx .box, _, rfl, hb, rfl, ?_⟩
    walk_at "wn"
    refine ⟨p, n, t, S, ad, dx, rfl, A0, Mt, ht, ?_⟩
    walk_at "wn"
    refine ⟨l, rfl, ?_⟩
    rw [decide_eq_true l0, decide_eq_true l1]
    refine ⟨_, rfl, ?_⟩
    walk_at "wn"
    refine ⟨_, rfl, wd, rfl, hwd, ?_⟩
    refine ⟨_, rfl, ?_⟩
    walk_at "wn"
    have hw := A0.at_ (.ws s) hs
    refine ⟨_, rfl, ad (.ws s), dx (.ws s), _, rfl, hw, rfl, ?_⟩
    walk_at "wn"
    refine ⟨ad (.ws s), dx (.ws s), ad (.ent s), ad (.que s), n, t, S.ents s, fun j => ad (.reg s j), S.reg s, rfl, hw, A0.at_ (.ent s) hs, fun j hj => ⟨dx (.reg s j), A0.at_ (.reg s j) ⟨hs, hj⟩⟩, fun H1 s1 => ?_⟩
    rw [hfind]
    have A1 := A0.same s1
    have hw1 := A1.at_ (.ws s) hs
    have he1 := A1.at_ (.ent s) hs
    have hq1 := A1.at_ (.que s) hs
    walk_at "wn"
    refine ⟨_, rfl, _, rfl, ad (.ws s), C.W, dx (.ws s), _, _, rfl, hw1, TW.cl, TW.no _ (by decide), rfl, ?_⟩
    refine ⟨ad (.ent s), _, rfl, DGet.k (k := Sum.inl l) he1, ?_⟩
    rw [ent_val, if_neg hl]
    refine ⟨_, rfl, ?_⟩
    show if false = true then _ else _
    walk_at "wn"
    refine ⟨_, rfl, ad (.ws s), dx (.ws s), _, rfl, hw1, rfl, ?_⟩
    walk_at "wn"
    refine ⟨_, rfl, _, rfl, _, rfl, fun x dx2 hx hdx ndx => ?_⟩
    refine ⟨x, dx2, n, t, wd, true, rfl, upd_same, fun H2 k1 k2 => ⟨rfl, ?_⟩⟩
    have s2 : Same H1 H2 := fun b o e => by
      rw [k1 b (ne_of_none e hx), upd_ne (ne_of_none e hx), upd_ne (ne_of_none e hdx)]
      exact e
    have A2 := A1.same s2
    refine ⟨_, rfl, ad .box, dx .box, _, rfl, A2.at_ .box trivial, rfl, ?_⟩
    walk_at "wn"
    refine ⟨t, S, ad, dx, rfl, A2, ht, ?_⟩
    have he2 := A2.at_ (.ent s) hs
    have hq2 := A2.at_ (.que s) hs
    have z1 := sm0.que s hs
    have z2 := sm0.ents s hs
    refine ⟨ad (.ws s), dx (.ws s), ad (.ent s), ad (.que s), x, l, ready S t, S.que s, _, rfl, A2.at_ (.ws s) hs, hq2, he2, by omega, by unfold entKV; rw [List.length_map]; omega, fun H3 j1 j2 j3 => ?_⟩
    rw [ent_put, if_neg hl, reg_fun] at j1
    have nxe : x ≠ ad (.ent s) := fun z => by rw [z, he1] at hx; cases hx
    have nxq : x ≠ ad (.que s) := fun z => by rw [z, hq1] at hx; cases hx
    have fresh : H x = none := s1.free hx
    refine (fun z : At C _ _ _ _ ∧ Step H S ad _ _ _ => k H3 (setA ad (.reg s l) x) (setA dx (.reg s l) dx2) z.1 z.2) ?_
    refine At.re3 [.ent s, .que s, .reg s l] A0 (fun c lc => ?_) (fun c hc lc => ?_) (fun c hc lc => ?_) (fun c hc lc => ?_) (fun c hc c' hc' lc lc' z e => ?_) (fun b o nb e => ?_) (setA_ne (by intro z; cases z))
    · cases c with
      | reg s' l' =>
        obtain ⟨h1, h2⟩ := lc
        by_cases e : s' = s
        · subst e
          have h2 : l' ∈ (if s' = s' then S.ents s' ++ [l] else S.ents s') := h2
          rw [if_pos rfl] at h2
          rcases List.mem_append.mp h2 with y | y
          · exact .inr ⟨h1, y⟩
          · rw [List.mem_singleton.mp y]
            exact .inl (by simp)
        · have h2 : l' ∈ (if s' = s then S.ents s ++ [l] else S.ents s') := h2
          rw [if_neg e] at h2
          exact .inr ⟨h1, h2⟩
      | _ => exact .inr lc
    · simp only [List.mem_cons, List.not_mem_nil, or_false] at hc
      rcases hc with rfl | rfl | rfl
      · rw [setA_ne (by intro z; cases z), j1]
        show _ = some (HO.dK (entKV (if s = s then S.ents s ++ [l] else S.ents s) _))
        rw [if_pos rfl]
      · rw [setA_ne (by intro z; cases z), j2]
        show _ = some (HO.lst ((if s = s then _ else S.que s).map V.int))
        rw [if_pos rfl]
      · rw [setA_same, j3 x nxe nxq, k2]
        show _ = some (regO C.R (setA dx (.reg s l) dx2 (.reg s l)) (if s = s ∧ l = l then (⟨n, t, wd, true⟩ : Reg) else S.reg s l).num (if s = s ∧ l = l then (⟨n, t, wd, true⟩ : Reg) else S.reg s l).src (if s = s ∧ l = l then (⟨n, t, wd, true⟩ : Reg) else S.reg s l).word (if s = s ∧ l = l then (⟨n, t, wd, true⟩ : Reg) else S.reg s l).armed)
        rw [if_pos ⟨rfl, rfl⟩, setA_same]
    · have n1 : c ≠ .ent s := fun z => hc (by rw [z]; simp)
      have n2 : c ≠ .que s := fun z => hc (by rw [z]; simp)
      have n3 : c ≠ .reg s l := fun z => hc (by rw [z]; simp)
      refine ⟨setA_ne n3, ?_⟩
      cases c with
      | ent s' =>
        have ns : s' ≠ s := fun z => n1 (by rw [z])
        show HO.dK (entKV (if s' = s then S.ents s ++ [l] else S.ents s') fun j => setA ad (.reg s l) x (.reg s' j)) = _
        rw [if_neg ns]
        have ef : (fun j => setA ad (.reg s l) x (.reg s' j)) = fun j => ad (.reg s' j) := funext fun j => setA_ne fun z => ns (by cases z; rfl)
        rw [ef]
        rfl
      | que s' =>
        have ns : s' ≠ s := fun z => n2 (by rw [z])
        show HO.lst ((if s' = s then _ else S.que s').map V.int) = _
        rw [if_neg ns]
        rfl
      | reg s' l' =>
        have nr : ¬ (s' = s ∧ l' = l) := fun z => n3 (by rw [z.1, z.2])
        show regO C.R (setA dx (.reg s l) dx2 (.reg s' l')) (if s' = s ∧ l' = l then (⟨n, t, wd, true⟩ : Reg) else S.reg s' l').num (if s' = s ∧ l' = l then (⟨n, t, wd, true⟩ : Reg) else S.reg s' l').src (if s' = s ∧ l' = l then (⟨n, t, wd, true⟩ : Reg) else S.reg s' l').word (if s' = s ∧ l' = l then (⟨n, t, wd, true⟩ : Reg) else S.reg s' l').armed = _
        rw [if_neg nr, setA_ne n3]
        rfl
      | _ => rfl
    · simp only [List.mem_cons, List.not_mem_nil, or_false] at hc
      rcases hc with rfl | rfl | rfl
      · exact .inl ⟨setA_ne (by intro z; cases z), hs⟩
      · exact .inl ⟨setA_ne (by intro z; cases z), hs⟩
      · exact .inr (by rw [setA_same]; exact fresh)
    · have of : ∀ c, c ∈ ([.ent s, .que s, .reg s l] : List Cell) → H (setA ad (.reg s l) x c) = none → c = .reg s l := fun c hc z => by
        simp only [List.mem_cons, List.not_mem_nil, or_false] at hc
        rcases hc with rfl | rfl | rfl
        · rw [setA_ne (by intro z; cases z), A0.at_ (.ent s) hs] at z
          cases z
        · rw [setA_ne (by intro z; cases z), A0.at_ (.que s) hs] at z
          cases z
        · rfl
      rw [of c hc z, of c' hc' (by rw [← e]; exact z)]
    · rw [j3 b (nb (.ent s) (by simp) hs) (nb (.que s) (by simp) hs)]
      exact s2 _ _ (s1 _ _ e)
end
end Wn

namespace Wn
open PySem PySem.Spec PyProof.Rows L2 Evl
local macro_rules | `(tactic| walk_at "wn1") => `(tactic| first | ((with_reducible show (if (!decide _) = true then _ else _)); refine' g_nes ?_) | ((with_reducible show (if (decide _) = true then _ else _)); refine' g_es ?_) | with_reducible first
  | (refine' g_var ?h ?q; (case h => with_unfolding_all rfl))
  | refine' g_c ?_ | refine' g_op ?_ | refine' g_rI0 ?_ | refine' g_asg ?_ | refine' g_name ?_ | refine' g_seq ?_ | refine' g_ret ?_ | refine' g_retN ?_ | refine' g_next ?_ | refine' g_drop ?_
  | refine' g_nil ?_ | refine' g_cons ?_ | refine' g_cb ?_ | refine' g_test ?_ | refine' g_bl ?_ | refine' g_if ?_ | refine' g_ifs ?_ | refine' g_not ?_ | refine' g_part ?_ | refine' g_pint ?_ | refine' g_nopart ?_ | refine' g_call ?_
  | (refine' g_mul ?h ?q; (case h => with_unfolding_all first | exact Or.inl ⟨by decide, by decide⟩ | exact Or.inr ⟨by decide, by decide⟩ | exact Or.inl ⟨by omega, by omega⟩ | exact Or.inr ⟨by omega, by omega⟩))
  | (refine' g_mod ?h ?q; (case h => with_unfolding_all first | decide | omega))
  | refine' g_rIsN ?_ | refine' g_rNotN ?_ | refine' g_max2 ?_ | refine' g_min2 ?_ | refine' g_and ?_ | refine' g_or ?_ | refine' g_orV ?_ | refine' g_andV ?_ | refine' g_notV ?_ | refine' g_m1 ?_ | refine' g_yes ?_ | refine' g_bm ?_ | refine' g_bm0 ?_
  | (refine' g_tyL ?h ?q; (case h => first | assumption | exact upd_same))
  | refine' g_m0 ?_ | refine' g_tB ?_ | refine' g_isS ?_ | refine' g_bT ?_ | refine' g_bF ?_ | refine' g_bNT ?_ | refine' g_callK ?_ | refine' g_bNF ?_
  | (refine' g_lenL ?h ?q; (case h => first | assumption | exact upd_same))
  | refine' g_un ?_ | refine' g_rint _ ?_ | refine' g_rabs ?_ | refine' g_sl ?_ 
  | (refine' g_ixL ?h ?a ?q; (case h => first | assumption | exact upd_same); (case a => with_unfolding_all rfl))
  | (refine' g_div ?h0 ?h1 ?q; (case h0 => with_unfolding_all first | decide | omega); (case h1 => with_unfolding_all first | decide | omega))
  | refine' g_sub ?_
  | (refine' g_setL ?h ?a ?q; (case h => first | assumption | exact upd_same); (case a => with_unfolding_all rfl))
  | refine' g_lst ?_ | refine' g_tup ?_
  | (refine' g_rEq ?h ?q; (case h => with_unfolding_all rfl)) | (refine' g_rNe ?h ?q; (case h => with_unfolding_all rfl)))
local macro_rules | `(tactic| walk_at "wn") => `(tactic| repeat walk_at "wn1")

def took (S : Sys) (s most : Int) : TSt := takeAll S.unit most (S.que s) ⟨[], S.que s, S.reg s⟩
def waited (S : Sys) (s most : Int) : Sys := { S with
  que := fun j => if j = s then (took S s most).que else S.que j
  reg := fun j => if j = s then (took S s most).reg else S.reg j }
section
variable {P : Program} {w : World} {K : PySem.W.Frag} {mg : Str → Option Value} {base : Heap} {C : Cs}
def spWait (C : Cs) : Sp := fun vs H Q _ => ∃ (p sn s most : Int), OnSys C vs H [.int p, .int sn, .int most] fun S ad dx => Means S p sn s ∧ s ∈ S.sets ∧ 1 ≤ most ∧ most ≤ 1000000 ∧ (∀ l ∈ S.que s, l ∈ S.ents s) ∧ (∀ l ∈ S.ents s, (S.reg s l).src ∈ S.srcs) ∧ C.W ≠ C.R ∧ Small S ∧
  ∀ H' ad' dx' r rs, H r = none → H' r = some (.lst rs) → ¬ own (waited S s most) ad' r → Paired (RepAt H') rs (took S s most).reps → At C H' (waited S s most) ad' dx' → Step H S ad H' (waited S s most) ad' → Q (.ref r) H'
theorem scWait : FnScope ["self", "process", "set_number", "most", "waiting"] ["self", "process", "set_number", "most"] (defScope sWait) := ⟨rfl, rfl, rfl, by decide +kernel, rfl, by decide +kernel, by decide +kernel⟩
def setW (ad : Cell → Addr) (s : Int) (q : Addr) (r : Int → Addr) : Cell → Addr
  | .que j => if j = s then q else ad (.que j)
  | .reg j l => if j = s then r l else ad (.reg j l)
  | c => ad c
theorem okWait {dvs : List V} {kws : List (Str × V)} {f fW fC fR : Addr} {fd fdW fdC fdR : FuncData} (F : FunD K "wait" "System.wait" (defArgs sWait) (defBody sWait) (defScope sWait) dvs kws f fd) (T : ClsF K C.S sysF) (TW : ClsF K C.W wsF)
    (GW : MO P w K mg base 5 C.S "set_at" ["self", "process", "set_number"] (spSetAt C) fW fdW) (GC : DO P w K mg base 3 "is_count" ["x"] spIsCount fC fdC) (GR : MO P w K mg base 4 C.W "take_reports" ["self", "most", "sources"] (spReports C.W C.R) fR fdR) :
    FnOk P w K mg base CX0 6 f fd ["self", "process", "set_number", "most"] (spWait C) := by
  refine F.ok scWait (fun vs H Q E h => ?_) (fun cdv A outer s H vs Q E hr h => ?_)
  · obtain ⟨_, _, _, _, _, _, _, rfl, _⟩ := h
    rfl
  · obtain ⟨p, sn, s, most, S, ad, dx, rfl, A0, Ms, hs, m0, m1, hqe, hes, nWR, sm0, k⟩ := h
    have hr3 : Room 3 _ := hr.mono (by decide)
    have hr4 : Room 4 _ := hr.mono (by decide)
    refine ⟨_, pss_cons (ps_set (i := 4) scWait.nd rfl (Or.inl rfl) (pe_meth (pv 0) T.cl GW.m GW.g hr GW.b .nil pass0 (pa_cons (pv 1) (pa_cons (pv 2) pa_nil))))
      (pss_cons (ps_if (pt_not (pt_val (pe_call GC.g hr3 (by rfl) GC.m GC.k GC.b .nil pass0 (pa_cons (pv 3) pa_nil)))) (pss_one ps_never) pss_nil)
      (pss_one (ps_ret (pe_meth (pv 4) TW.cl GR.m GR.g hr4 GR.b .nil pass0 (pa_cons (pv 3) (pa_cons (pe_fld (pv 0) rfl) pa_nil)))))), ?_⟩
    have hb := A0.at_ .box trivial
    have hw := A0.at_ (.ws s) hs
    have he := A0.at_ (.ent s) hs
    have hq := A0.at_ (.que s) hs
    walk_at "wn"
    refine ⟨_, rfl, ad .box, dx .box, _, rfl, hb, rfl, ?_⟩
    walk_at "wn"
    refine ⟨p, sn, s, S, ad, dx, rfl, A0, Ms, hs, ?_⟩
    walk_at "wn"
    refine ⟨most, rfl, ?_⟩
    rw [decide_eq_true m0, decide_eq_true m1]
    refine ⟨_, rfl, ?_⟩
    walk_at "wn"
    refine ⟨_, rfl, ad (.ws s), dx (.ws s), _, rfl, hw, rfl, ?_⟩
    refine ⟨_, rfl, _, rfl, ad .box, C.S, dx .box, _, _, rfl, hb, T.cl, T.no _ (by decide), rfl, ?_⟩
    have z1 := sm0.que s hs
    have z2 := sm0.ents s hs
    refine ⟨ad (.ws s), dx (.ws s), ad (.ent s), ad (.que s), ad .srcD, most, S.que s, S.ents s, S.srcs, (fun l => ad (.reg s l)), (fun t => ad (.srcT t)), S.reg s, S.unit, rfl, hw, hq, he, fun l hl => ⟨dx (.reg s l), A0.at_ (.reg s l) ⟨hs, hl⟩⟩, A0.at_ .srcD trivial,
      A0.ne (c := .srcD) (c' := .ent s) trivial hs (by intro z; cases z), fun t ht => A0.at_ (.srcT t) ht, hqe, hes, nWR, fun l hl l' hl' z => by cases A0.inj (.reg s l) (.reg s l') ⟨hs, hl⟩ ⟨hs, hl'⟩ z; rfl, by omega, by omega, fun H' r rs q' adE k1 k2 k3 k4 k5 k6 k7 k8 k9 k10 k11 k12 => ?_⟩
    have k5' : ∀ l ∈ S.ents s, ∃ d : Addr, H' (adE l) = some (regO C.R d ((took S s most).reg l).num ((took S s most).reg l).src ((took S s most).reg l).word ((took S s most).reg l).armed) := k5
    obtain ⟨dE, hdE⟩ : ∃ dE : Int → Addr, ∀ l ∈ S.ents s, H' (adE l) = some (regO C.R (dE l) ((took S s most).reg l).num ((took S s most).reg l).src ((took S s most).reg l).word ((took S s most).reg l).armed) := by
      refine ⟨fun l => if h : l ∈ S.ents s then Classical.choose (k5' l h) else 0, fun l hl => ?_⟩
      dsimp only
      rw [dif_pos hl]
      exact Classical.choose_spec (k5' l hl)
    let dx' : Cell → Addr := fun c => match c with
      | .reg j l => if j = s then dE l else dx (.reg j l)
      | c => dx c
    have sE : ∀ l, setW ad s q' adE (.reg s l) = adE l := fun l => if_pos rfl
    have sQ : setW ad s q' adE (.que s) = q' := if_pos rfl
    have dEe : ∀ l, dx' (.reg s l) = dE l := fun l => if_pos rfl
    have key : At C H' (waited S s most) (setW ad s q' adE) dx' ∧ Step H S ad H' (waited S s most) (setW ad s q' adE) := by
      refine At.re3 ([.ws s, .que s, .ent s] ++ (S.ents s).map (Cell.reg s)) A0 (fun c lc => .inr ?_) (fun c hc lc => ?_) (fun c hc lc => ?_) (fun c hc lc => ?_) (fun c hc c' hc' lc lc' z e => ?_) (fun b o nb e => ?_) rfl
      · cases c <;> exact lc
      · rcases List.mem_append.mp hc with hc | hc
        · simp only [List.mem_cons, List.not_mem_nil, or_false] at hc
          rcases hc with rfl | rfl | rfl
          · show H' (ad (.ws s)) = some (wsO C.W (dx (.ws s)) (ad (.ent s)) (setW ad s q' adE (.que s)))
            rw [sQ]
            exact k1
          · rw [sQ, k2]
            show _ = some (HO.lst ((if s = s then (took S s most).que else S.que s).map V.int))
            rw [if_pos rfl]
            rfl
          · show H' (ad (.ent s)) = some (HO.dK (entKV (S.ents s) fun l => setW ad s q' adE (.reg s l)))
            rw [k4]
            have ef : (fun l => setW ad s q' adE (.reg s l)) = adE := funext sE
            rw [ef]
        · obtain ⟨l, hl, rfl⟩ := List.mem_map.mp hc
          rw [sE, hdE l hl]
          show _ = some (regO C.R (dx' (.reg s l)) ((if s = s then (took S s most).reg else S.reg s) l).num ((if s = s then (took S s most).reg else S.reg s) l).src ((if s = s then (took S s most).reg else S.reg s) l).word ((if s = s then (took S s most).reg else S.reg s) l).armed)
          rw [if_pos rfl, dEe]
      · have n1 : c ≠ .ws s := fun z => hc (by rw [z]; simp)
        have n2 : c ≠ .que s := fun z => hc (by rw [z]; simp)
        have n3 : c ≠ .ent s := fun z => hc (by rw [z]; simp)
        cases c with
        | ws j =>
          have nj : j ≠ s := fun z => n1 (by rw [z])
          refine ⟨rfl, ?_⟩
          show wsO C.W (dx (.ws j)) (ad (.ent j)) (if j = s then q' else ad (.que j)) = _
          rw [if_neg nj]
          rfl
        | que j =>
          have nj : j ≠ s := fun z => n2 (by rw [z])
          refine ⟨if_neg nj, ?_⟩
          show HO.lst ((if j = s then (took S s most).que else S.que j).map V.int) = _
          rw [if_neg nj]
          rfl
        | ent j =>
          have nj : j ≠ s := fun z => n3 (by rw [z])
          refine ⟨rfl, ?_⟩
          have ef : (fun l => setW ad s q' adE (.reg j l)) = fun l => ad (.reg j l) := funext fun l => if_neg nj
          show HO.dK (entKV (S.ents j) fun l => setW ad s q' adE (.reg j l)) = _
          rw [ef]
          rfl
        | reg j l =>
          have nj : j ≠ s := fun z => hc (List.mem_append.mpr (.inr (List.mem_map.mpr ⟨l, by rw [← z]; exact lc.2, by rw [z]⟩)))
          refine ⟨if_neg nj, ?_⟩
          show regO C.R (if j = s then dE l else dx (.reg j l)) ((if j = s then (took S s most).reg else S.reg j) l).num ((if j = s then (took S s most).reg else S.reg j) l).src ((if j = s then (took S s most).reg else S.reg j) l).word ((if j = s then (took S s most).reg else S.reg j) l).armed = _
          rw [if_neg nj, if_neg nj]
          rfl
        | _ => exact ⟨rfl, rfl⟩
      · rcases List.mem_append.mp hc with hc | hc
        · simp only [List.mem_cons, List.not_mem_nil, or_false] at hc
          rcases hc with rfl | rfl | rfl
          · exact .inl ⟨rfl, hs⟩
          · rw [sQ]
            rcases k3 with z | z
            · exact .inl ⟨z, hs⟩
            · exact .inr z
          · exact .inl ⟨rfl, hs⟩
        · obtain ⟨l, hl, rfl⟩ := List.mem_map.mp hc
          rw [sE]
          rcases k6 l with z | z
          · exact .inl ⟨z, ⟨hs, hl⟩⟩
          · exact .inr z
      · have kind : ∀ c ∈ ([.ws s, .que s, .ent s] ++ (S.ents s).map (Cell.reg s) : List Cell), H (setW ad s q' adE c) = none → c = .que s ∨ ∃ l ∈ S.ents s, c = .reg s l := fun c hc z => by
          rcases List.mem_append.mp hc with hc | hc
          · simp only [List.mem_cons, List.not_mem_nil, or_false] at hc
            rcases hc with rfl | rfl | rfl
            · rw [show setW ad s q' adE (.ws s) = ad (.ws s) from rfl, hw] at z
              cases z
            · exact .inl rfl
            · rw [show setW ad s q' adE (.ent s) = ad (.ent s) from rfl, he] at z
              cases z
          · obtain ⟨l, hl, rfl⟩ := List.mem_map.mp hc
            exact .inr ⟨l, hl, rfl⟩
        have z' : H (setW ad s q' adE c') = none := by rw [← e]; exact z
        rcases kind c hc z with rfl | ⟨l, hl, rfl⟩
        · rcases kind c' hc' z' with rfl | ⟨l', hl', rfl⟩
          · rfl
          · rw [sQ, sE] at e
            have x := hdE l' hl'
            rw [← e, k2] at x
            cases x
        · rcases kind c' hc' z' with rfl | ⟨l', hl', rfl⟩
          · rw [sQ, sE] at e
            have x := hdE l hl
            rw [e, k2] at x
            cases x
          · rw [sE, sE] at e
            rw [k7 l hl l' hl' e]
      · exact k12 b o (nb (.ws s) (by simp) hs) (nb (.ent s) (by simp) hs) (nb (.que s) (by simp) hs) e
    refine k H' _ dx' r rs k8 k10 (fun ⟨c, lc, ec⟩ => ?_) k11 key.1 key.2
    have x := key.1.at_ c lc
    rw [ec, k10] at x
    cases c with
    | tab j =>
      have y : H (ad (.tab j)) = _ := A0.at_ (.tab j) lc
      rw [show ad (.tab j) = r from ec, k8] at y
      cases y
    | que j =>
      by_cases nj : j = s
      · subst nj
        rw [sQ] at ec
        exact k9 ec.symm
      · have ec2 : (if j = s then q' else ad (.que j)) = r := ec
        rw [if_neg nj] at ec2
        have y : H (ad (.que j)) = _ := A0.at_ (.que j) lc
        rw [ec2, k8] at y
        cases y
    | _ => cases x
end
end Wn

namespace Wn
open PySem PySem.Spec PyProof.Rows L2 Evl
local macro_rules | `(tactic| walk_at "wn1") => `(tactic| first | ((with_reducible show (if (!decide _) = true then _ else _)); refine' g_nes ?_) | ((with_reducible show (if (decide _) = true then _ else _)); refine' g_es ?_) | with_reducible first
  | (refine' g_var ?h ?q; (case h => with_unfolding_all rfl))
  | refine' g_c ?_ | refine' g_op ?_ | refine' g_rI0 ?_ | refine' g_asg ?_ | refine' g_name ?_ | refine' g_seq ?_ | refine' g_ret ?_ | refine' g_retN ?_ | refine' g_next ?_ | refine' g_drop ?_
  | refine' g_nil ?_ | refine' g_cons ?_ | refine' g_cb ?_ | refine' g_test ?_ | refine' g_bl ?_ | refine' g_if ?_ | refine' g_ifs ?_ | refine' g_not ?_ | refine' g_part ?_ | refine' g_pint ?_ | refine' g_nopart ?_ | refine' g_call ?_
  | (refine' g_mul ?h ?q; (case h => with_unfolding_all first | exact Or.inl ⟨by decide, by decide⟩ | exact Or.inr ⟨by decide, by decide⟩ | exact Or.inl ⟨by omega, by omega⟩ | exact Or.inr ⟨by omega, by omega⟩))
  | (refine' g_mod ?h ?q; (case h => with_unfolding_all first | decide | omega))
  | refine' g_rIsN ?_ | refine' g_rNotN ?_ | refine' g_max2 ?_ | refine' g_min2 ?_ | refine' g_and ?_ | refine' g_or ?_ | refine' g_orV ?_ | refine' g_andV ?_ | refine' g_notV ?_ | refine' g_m1 ?_ | refine' g_yes ?_ | refine' g_bm ?_ | refine' g_bm0 ?_
  | (refine' g_tyL ?h ?q; (case h => first | assumption | exact upd_same))
  | refine' g_m0 ?_ | refine' g_tB ?_ | refine' g_isS ?_ | refine' g_bT ?_ | refine' g_bF ?_ | refine' g_bNT ?_ | refine' g_callK ?_ | refine' g_bNF ?_
  | (refine' g_lenL ?h ?q; (case h => first | assumption | exact upd_same))
  | refine' g_un ?_ | refine' g_rint _ ?_ | refine' g_rabs ?_ | refine' g_sl ?_ 
  | (refine' g_ixL ?h ?a ?q; (case h => first | assumption | exact upd_same); (case a => with_unfolding_all rfl))
  | (refine' g_div ?h0 ?h1 ?q; (case h0 => with_unfolding_all first | decide | omega); (case h1 => with_unfolding_all first | decide | omega))
  | refine' g_sub ?_
  | (refine' g_setL ?h ?a ?q; (case h => first | assumption | exact upd_same); (case a => with_unfolding_all rfl))
  | refine' g_lst ?_ | refine' g_tup ?_
  | (refine' g_rEq ?h ?q; (case h => with_unfolding_all rfl)) | (refine' g_rNe ?h ?q; (case h => with_unfolding_all rfl)))
local macro_rules | `(tactic| walk_at "wn") => `(tactic| repeat walk_at "wn1")

def newSource (S : Sys) (p : Int) (n : Nat) : Sys := { newThing S p n with
  srcs := S.srcs ++ [S.next]
  unit := fun j => if j = S.next then (0, false) else S.unit j }
def newSet (S : Sys) (p : Int) (n : Nat) : Sys := { newThing S p n with
  sets := S.sets ++ [S.next]
  ents := fun j => if j = S.next then [] else S.ents j
  que := fun j => if j = S.next then [] else S.que j }
section
variable {P : Program} {w : World} {K : PySem.W.Frag} {mg : Str → Option Value} {base : Heap} {C : Cs}
def spNewSource (C : Cs) : Sp := fun vs H Q _ => ∃ (p : Int) (n : Nat), OnSys C vs H [.int p] fun S ad dx => p ∈ S.procs ∧ firstFree (S.tab p) n ∧ (S.tab p).length ≤ 1000 ∧ S.srcs.length ≤ 1000 ∧ S.next ∉ S.srcs ∧
  ∀ H' ad', At C H' (newSource S p n) ad' dx → Step H S ad H' (newSource S p n) ad' → Q (.int (n : Int)) H'
theorem scNewSource : FnScope ["self", "process", "number", "thing"] ["self", "process"] (defScope sNewSource) := ⟨rfl, rfl, rfl, by decide +kernel, rfl, by decide +kernel, by decide +kernel⟩
theorem okNewSource {f fN : Addr} {fd fdN : FuncData} (F : Fun K "new_source" "System.new_source" sNewSource f fd) (T : ClsF K C.S sysF) (GN : MO P w K mg base 5 C.S "new_thing" ["self", "process"] (spNewThing C) fN fdN) :
    FnOk P w K mg base CX0 6 f fd ["self", "process"] (spNewSource C) := by
  refine F.ok scNewSource (fun vs H Q E h => ?_) (fun cdv A outer s H vs Q E hr h => ?_)
  · obtain ⟨_, _, _, _, _, rfl, _⟩ := h
    rfl
  · obtain ⟨p, n, S, ad, dx, rfl, A0, hp, hf, hl, hz, hnx, k⟩ := h
    have hu := hu_of hr
    refine ⟨_, pss_cons (ps_asg (pe_meth (pv 0) T.cl GN.m GN.g hr GN.b .nil pass0 (pa_cons (pv 1) pa_nil)) (pg_tup rfl (pgs_cons (pg_name (i := 2) scNewSource.nd rfl (Or.inl rfl)) (pgs_cons (pg_name (i := 3) scNewSource.nd rfl (Or.inl rfl)) pgs_nil))))
      (pss_cons (ps_dput hu (pe_fld (pv 0) rfl) (pv 3) (pe_tup (pa_cons pe_int (pa_cons pe_bl pa_nil))) rfl) (pss_one (ps_ret (pv 2)))), ?_⟩
    walk_at "wn"
    refine ⟨_, rfl, ad .box, dx .box, _, rfl, A0.at_ .box trivial, rfl, ?_⟩
    walk_at "wn"
    refine ⟨p, n, S, ad, dx, rfl, A0, hp, hf, hl, fun H1 T1 hT1 hT A1 st1 => ?_⟩
    refine ⟨T1, _, rfl, SqT.of hT, rfl, _, _, rfl, ?_⟩
    walk_at "wn"
    refine ⟨_, _, rfl, ?_⟩
    walk_at "wn"
    refine ⟨rfl, ?_⟩
    walk_at "wn"
    refine ⟨by show 2 ≤ sizeLine; decide, fun T2 hT2 => ?_⟩
    have hb := A1.at_ .box trivial
    have hD : H1 (ad .srcD) = some (.dK (entKV S.srcs fun t => ad (.srcT t))) := A1.at_ .srcD trivial
    have nTD : T2 ≠ ad .srcD := fun z => by rw [z, hD] at hT2; cases hT2
    have nTb : ad .box ≠ T2 := ne_of_none hb hT2
    refine ⟨_, rfl, ad .box, C.S, dx .box, _, _, rfl, by rw [upd_ne nTb]; exact hb, T.cl, T.no _ (by decide), rfl, ?_⟩
    refine ⟨_, rfl, ad .srcD, _, rfl, DPut.k (k := Sum.inl S.next) (by rw [upd_ne (Ne.symm nTD)]; exact hD) (by unfold entKV; rw [List.length_map, sizeLine_eq]; omega), ?_⟩
    walk_at "wn"
    refine (fun z : At C _ _ _ _ ∧ Step H1 (newThing S p n) ad _ _ _ => k _ (setA ad (.srcT S.next) T2) z.1 (st1.trans z.2)) ?_
    refine At.re3 [.srcD, .srcT S.next] A1 (fun c lc => ?_) (fun c hc lc => ?_) (fun c hc lc => ?_) (fun c hc lc => ?_) (fun c hc c' hc' lc lc' z e => ?_) (fun b o nb e => ?_) (setA_ne (by intro z; cases z))
    · cases c with
      | srcT t =>
        rcases List.mem_append.mp (show t ∈ S.srcs ++ [S.next] from lc) with y | y
        · exact .inr y
        · rw [List.mem_singleton.mp y]
          exact .inl (by simp)
      | _ => exact .inr lc
    · simp only [List.mem_cons, List.not_mem_nil, or_false] at hc
      rcases hc with rfl | rfl
      · rw [setA_ne (by intro z; cases z), upd_same, ent_put, if_neg hnx, srcT_fun]
        rfl
      · rw [setA_same, upd_ne nTD, upd_same]
        show _ = some (HO.tup [.int (if S.next = S.next then ((0 : Int), false) else S.unit S.next).1, .bl (if S.next = S.next then ((0 : Int), false) else S.unit S.next).2])
        rw [if_pos rfl]
    · have n1 : c ≠ .srcD := fun z => hc (by rw [z]; simp)
      have n2 : c ≠ .srcT S.next := fun z => hc (by rw [z]; simp)
      refine ⟨setA_ne n2, ?_⟩
      cases c with
      | srcD => exact absurd rfl n1
      | srcT j =>
        have nj : j ≠ S.next := fun z => n2 (by rw [z])
        show HO.tup [.int (if j = S.next then ((0 : Int), false) else S.unit j).1, .bl (if j = S.next then ((0 : Int), false) else S.unit j).2] = _
        rw [if_neg nj]
        rfl
      | _ => rfl
    · simp only [List.mem_cons, List.not_mem_nil, or_false] at hc
      rcases hc with rfl | rfl
      · exact .inl ⟨setA_ne (by intro z; cases z), trivial⟩
      · exact .inr (by rw [setA_same]; exact hT2)
    · simp only [List.mem_cons, List.not_mem_nil, or_false] at hc hc'
      rcases hc with rfl | rfl
      · rw [setA_ne (by intro z; cases z), hD] at z
        cases z
      · rcases hc' with rfl | rfl
        · rw [setA_same, setA_ne (by intro z; cases z)] at e
          exact absurd e nTD
        · rfl
    · rw [upd_ne (nb .srcD (by simp) trivial), upd_ne (ne_of_none e hT2)]
      exact e
def spNewSet (C : Cs) : Sp := fun vs H Q _ => ∃ (p : Int) (n : Nat), OnSys C vs H [.int p] fun S ad dx => p ∈ S.procs ∧ firstFree (S.tab p) n ∧ (S.tab p).length ≤ 1000 ∧ S.sets.length ≤ 1000 ∧ S.next ∉ S.sets ∧
  ∀ H' ad' dx', At C H' (newSet S p n) ad' dx' → Step H S ad H' (newSet S p n) ad' → Q (.int (n : Int)) H'
theorem scNewSet : FnScope ["self", "process", "number", "thing"] ["self", "process"] (defScope sNewSet) := ⟨rfl, rfl, rfl, by decide +kernel, rfl, by decide +kernel, by decide +kernel⟩
theorem okNewSet {f fN fI : Addr} {fd fdN fdI : FuncData} (F : Fun K "new_set" "System.new_set" sNewSet f fd) (T : ClsF K C.S sysF) (GN : MO P w K mg base 5 C.S "new_thing" ["self", "process"] (spNewThing C) fN fdN)
    (gW : mg "WaitingSet" = some (.ref C.W)) (MW : Mk K C.W fI) (GI : FnOk P w K mg base CX0 1 fI fdI ["self"] (spWsInit C.W)) (bI : Binds K fdI ["self"] []) :
    FnOk P w K mg base CX0 6 f fd ["self", "process"] (spNewSet C) := by
  refine F.ok scNewSet (fun vs H Q E h => ?_) (fun cdv A outer s H vs Q E hr h => ?_)
  · obtain ⟨_, _, _, _, _, rfl, _⟩ := h
    rfl
  · obtain ⟨p, n, S, ad, dx, rfl, A0, hp, hf, hl, hz, hnx, k⟩ := h
    have hu := hu_of hr
    have hr2 : Room 2 _ := hr.mono (by decide)
    refine ⟨_, pss_cons (ps_asg (pe_meth (pv 0) T.cl GN.m GN.g hr GN.b .nil pass0 (pa_cons (pv 1) pa_nil)) (pg_tup rfl (pgs_cons (pg_name (i := 2) scNewSet.nd rfl (Or.inl rfl)) (pgs_cons (pg_name (i := 3) scNewSet.nd rfl (Or.inl rfl)) pgs_nil))))
      (pss_cons (ps_dput hu (pe_fld (pv 0) rfl) (pv 3) (pe_make0 MW GI hr2 (by rfl) gW bI .nil pass0) rfl) (pss_one (ps_ret (pv 2)))), ?_⟩
    walk_at "wn"
    refine ⟨_, rfl, ad .box, dx .box, _, rfl, A0.at_ .box trivial, rfl, ?_⟩
    walk_at "wn"
    refine ⟨p, n, S, ad, dx, rfl, A0, hp, hf, hl, fun H1 T1 hT1 hT A1 st1 => ?_⟩
    refine ⟨T1, _, rfl, SqT.of hT, rfl, _, _, rfl, ?_⟩
    walk_at "wn"
    refine ⟨_, _, rfl, ?_⟩
    walk_at "wn"
    refine ⟨rfl, ?_⟩
    refine (fun x dx2 hx hdx ndx => ?_ : ∀ x dx2, _ → _ → _ → _)
    refine ⟨x, dx2, rfl, upd_same, fun H2 e q he hq h2e h2q h2x h2 => ⟨rfl, ?_⟩⟩
    have nex : e ≠ x := fun z => by rw [z, upd_same] at he; cases he
    have nqx : q ≠ x := fun z => by rw [z, upd_same] at hq; cases hq
    rw [upd_ne nex] at he
    rw [upd_ne nqx] at hq
    have ned : e ≠ dx2 := fun z => by rw [z, upd_same] at he; cases he
    have nqd : q ≠ dx2 := fun z => by rw [z, upd_same] at hq; cases hq
    rw [upd_ne ned] at he
    rw [upd_ne nqd] at hq
    have neq : e ≠ q := fun z => by rw [z, h2q] at h2e; cases h2e
    have s2 : Same H1 H2 := fun b o y => by
      rw [h2 b (ne_of_none y hx) (ne_of_none y he) (ne_of_none y hq), upd_ne (ne_of_none y hx), upd_ne (ne_of_none y hdx)]
      exact y
    have A2 := A1.same s2
    have hb := A2.at_ .box trivial
    have hD : H2 (ad .setD) = some (.dK (entKV S.sets fun t => ad (.ws t))) := A2.at_ .setD trivial
    have hD1 : H1 (ad .setD) = some (.dK (entKV S.sets fun t => ad (.ws t))) := A1.at_ .setD trivial
    have nxD : x ≠ ad .setD := fun z => by rw [z, hD1] at hx; cases hx
    have neD : e ≠ ad .setD := fun z => by rw [z, hD1] at he; cases he
    have nqD : q ≠ ad .setD := fun z => by rw [z, hD1] at hq; cases hq
    refine ⟨_, rfl, ad .box, C.S, dx .box, _, _, rfl, hb, T.cl, T.no _ (by decide), rfl, ?_⟩
    refine ⟨_, rfl, ad .setD, _, rfl, DPut.k (k := Sum.inl S.next) hD (by unfold entKV; rw [List.length_map, sizeLine_eq]; omega), ?_⟩
    walk_at "wn"
    have wf : (fun j => if j = S.next then x else ad (.ws j)) = fun j => setA (setA (setA ad (.ws S.next) x) (.ent S.next) e) (.que S.next) q (.ws j) := by
      funext j
      rw [setA_ne (by intro z; cases z), setA_ne (by intro z; cases z)]
      by_cases h : j = S.next
      · rw [if_pos h, h, setA_same]
      · rw [if_neg h, setA_ne fun z => h (by cases z; rfl)]
    have aw : setA (setA (setA ad (.ws S.next) x) (.ent S.next) e) (.que S.next) q (.ws S.next) = x := by rw [setA_ne (by intro z; cases z), setA_ne (by intro z; cases z), setA_same]
    have ae : setA (setA (setA ad (.ws S.next) x) (.ent S.next) e) (.que S.next) q (.ent S.next) = e := by rw [setA_ne (by intro z; cases z), setA_same]
    have aq : setA (setA (setA ad (.ws S.next) x) (.ent S.next) e) (.que S.next) q (.que S.next) = q := setA_same
    have ao : ∀ c, c ≠ .ws S.next → c ≠ .ent S.next → c ≠ .que S.next → setA (setA (setA ad (.ws S.next) x) (.ent S.next) e) (.que S.next) q c = ad c := fun c h1 h2 h3 => by rw [setA_ne h3, setA_ne h2, setA_ne h1]
    refine (fun z : At C _ _ _ _ ∧ Step H1 (newThing S p n) ad _ _ _ => k _ (setA (setA (setA ad (.ws S.next) x) (.ent S.next) e) (.que S.next) q) (setA dx (.ws S.next) dx2) z.1 (st1.trans z.2)) ?_
    refine At.re3 [.setD, .ws S.next, .ent S.next, .que S.next] A1 (fun c lc => ?_) (fun c hc lc => ?_) (fun c hc lc => ?_) (fun c hc lc => ?_) (fun c hc c' hc' lc lc' z ee => ?_) (fun b o nb ee => ?_) (ao _ (by intro z; cases z) (by intro z; cases z) (by intro z; cases z))
    · have split : ∀ t, t ∈ S.sets ++ [S.next] → t ∈ S.sets ∨ t = S.next := fun t h => by
        rcases List.mem_append.mp h with y | y
        · exact .inl y
        · exact .inr (List.mem_singleton.mp y)
      cases c with
      | ws t =>
        rcases split t lc with y | rfl
        · exact .inr y
        · exact .inl (by simp)
      | ent t =>
        rcases split t lc with y | rfl
        · exact .inr y
        · exact .inl (by simp)
      | que t =>
        rcases split t lc with y | rfl
        · exact .inr y
        · exact .inl (by simp)
      | reg t l =>
        obtain ⟨h1, h2⟩ := lc
        have h2 : l ∈ (if t = S.next then [] else S.ents t) := h2
        by_cases nt : t = S.next
        · rw [if_pos nt] at h2
          cases h2
        · rw [if_neg nt] at h2
          rcases split t h1 with y | y
          · exact .inr ⟨y, h2⟩
          · exact absurd y nt
      | _ => exact .inr lc
    · simp only [List.mem_cons, List.not_mem_nil, or_false] at hc
      rcases hc with rfl | rfl | rfl | rfl
      · rw [ao _ (by intro z; cases z) (by intro z; cases z) (by intro z; cases z), upd_same, ent_put, if_neg hnx, wf]
        rfl
      · rw [aw, upd_ne nxD, h2x]
        show _ = some (wsO C.W (setA dx (.ws S.next) dx2 (.ws S.next)) _ _)
        rw [setA_same, ae, aq]
      · rw [ae, upd_ne neD, h2e]
        show _ = some (HO.dK (entKV (if S.next = S.next then [] else S.ents S.next) _))
        rw [if_pos rfl]
        rfl
      · rw [aq, upd_ne nqD, h2q]
        show _ = some (HO.lst ((if S.next = S.next then [] else S.que S.next).map V.int))
        rw [if_pos rfl]
        rfl
    · have n1 : c ≠ .setD := fun z => hc (by rw [z]; simp)
      have n2 : c ≠ .ws S.next := fun z => hc (by rw [z]; simp)
      have n3 : c ≠ .ent S.next := fun z => hc (by rw [z]; simp)
      have n4 : c ≠ .que S.next := fun z => hc (by rw [z]; simp)
      refine ⟨ao c n2 n3 n4, ?_⟩
      cases c with
      | setD => exact absurd rfl n1
      | ws t =>
        have nt : t ≠ S.next := fun z => n2 (by rw [z])
        show wsO C.W (setA dx (.ws S.next) dx2 (.ws t)) _ _ = _
        rw [setA_ne n2, ao (.ent t) (by intro z; cases z) (fun z => nt (by cases z; rfl)) (by intro z; cases z), ao (.que t) (by intro z; cases z) (by intro z; cases z) (fun z => nt (by cases z; rfl))]
        rfl
      | ent t =>
        have nt : t ≠ S.next := fun z => n3 (by rw [z])
        show HO.dK (entKV (if t = S.next then [] else S.ents t) _) = _
        rw [if_neg nt]
        rfl
      | que t =>
        have nt : t ≠ S.next := fun z => n4 (by rw [z])
        show HO.lst ((if t = S.next then [] else S.que t).map V.int) = _
        rw [if_neg nt]
        rfl
      | _ => rfl
    · simp only [List.mem_cons, List.not_mem_nil, or_false] at hc
      rcases hc with rfl | rfl | rfl | rfl
      · exact .inl ⟨ao _ (by intro z; cases z) (by intro z; cases z) (by intro z; cases z), trivial⟩
      · exact .inr (by rw [aw]; exact hx)
      · exact .inr (by rw [ae]; exact he)
      · exact .inr (by rw [aq]; exact hq)
    · simp only [List.mem_cons, List.not_mem_nil, or_false] at hc hc'
      have oD : setA (setA (setA ad (.ws S.next) x) (.ent S.next) e) (.que S.next) q .setD = ad .setD := ao _ (by intro z; cases z) (by intro z; cases z) (by intro z; cases z)
      rcases hc with rfl | rfl | rfl | rfl
      · rw [oD, hD1] at z
        cases z
      · rcases hc' with rfl | rfl | rfl | rfl
        · rw [aw, oD] at ee
          exact absurd ee nxD
        · rfl
        · rw [aw, ae] at ee
          exact absurd ee.symm nex
        · rw [aw, aq] at ee
          exact absurd ee.symm nqx
      · rcases hc' with rfl | rfl | rfl | rfl
        · rw [ae, oD] at ee
          exact absurd ee neD
        · rw [aw, ae] at ee
          exact absurd ee nex
        · rfl
        · rw [ae, aq] at ee
          exact absurd ee neq
      · rcases hc' with rfl | rfl | rfl | rfl
        · rw [aq, oD] at ee
          exact absurd ee nqD
        · rw [aw, aq] at ee
          exact absurd ee nqx
        · rw [ae, aq] at ee
          exact absurd ee.symm neq
        · rfl
    · rw [upd_ne (nb .setD (by simp) trivial)]
      exact s2 _ _ ee
end
end Wn

namespace Wn
open PySem PySem.Spec PyProof.Rows L2 Evl
local macro_rules | `(tactic| walk_at "wn1") => `(tactic| first | ((with_reducible show (if (!decide _) = true then _ else _)); refine' g_nes ?_) | ((with_reducible show (if (decide _) = true then _ else _)); refine' g_es ?_) | with_reducible first
  | (refine' g_var ?h ?q; (case h => with_unfolding_all rfl))
  | refine' g_c ?_ | refine' g_op ?_ | refine' g_rI0 ?_ | refine' g_asg ?_ | refine' g_name ?_ | refine' g_seq ?_ | refine' g_ret ?_ | refine' g_retN ?_ | refine' g_next ?_ | refine' g_drop ?_
  | refine' g_nil ?_ | refine' g_cons ?_ | refine' g_cb ?_ | refine' g_test ?_ | refine' g_bl ?_ | refine' g_if ?_ | refine' g_ifs ?_ | refine' g_not ?_ | refine' g_part ?_ | refine' g_pint ?_ | refine' g_nopart ?_ | refine' g_call ?_
  | (refine' g_mul ?h ?q; (case h => with_unfolding_all first | exact Or.inl ⟨by decide, by decide⟩ | exact Or.inr ⟨by decide, by decide⟩ | exact Or.inl ⟨by omega, by omega⟩ | exact Or.inr ⟨by omega, by omega⟩))
  | (refine' g_mod ?h ?q; (case h => with_unfolding_all first | decide | omega))
  | refine' g_rIsN ?_ | refine' g_rNotN ?_ | refine' g_max2 ?_ | refine' g_min2 ?_ | refine' g_and ?_ | refine' g_or ?_ | refine' g_orV ?_ | refine' g_andV ?_ | refine' g_notV ?_ | refine' g_m1 ?_ | refine' g_yes ?_ | refine' g_bm ?_ | refine' g_bm0 ?_
  | (refine' g_tyL ?h ?q; (case h => first | assumption | exact upd_same))
  | refine' g_m0 ?_ | refine' g_tB ?_ | refine' g_isS ?_ | refine' g_bT ?_ | refine' g_bF ?_ | refine' g_bNT ?_ | refine' g_callK ?_ | refine' g_bNF ?_
  | (refine' g_lenL ?h ?q; (case h => first | assumption | exact upd_same))
  | refine' g_un ?_ | refine' g_rint _ ?_ | refine' g_rabs ?_ | refine' g_sl ?_ 
  | (refine' g_ixL ?h ?a ?q; (case h => first | assumption | exact upd_same); (case a => with_unfolding_all rfl))
  | (refine' g_div ?h0 ?h1 ?q; (case h0 => with_unfolding_all first | decide | omega); (case h1 => with_unfolding_all first | decide | omega))
  | refine' g_sub ?_
  | (refine' g_setL ?h ?a ?q; (case h => first | assumption | exact upd_same); (case a => with_unfolding_all rfl))
  | refine' g_lst ?_ | refine' g_tup ?_
  | (refine' g_rEq ?h ?q; (case h => with_unfolding_all rfl)) | (refine' g_rNe ?h ?q; (case h => with_unfolding_all rfl)))
local macro_rules | `(tactic| walk_at "wn") => `(tactic| repeat walk_at "wn1")

def newSys (P N : Int) : Sys where
  P := P
  N := N
  next := 0
  procs := [0]
  tab := fun _ => List.replicate N.toNat none
  srcs := []
  unit := fun _ => (0, false)
  sets := []
  ents := fun _ => []
  reg := fun _ _ => ⟨0, 0, "level", true⟩
  que := fun _ => []
section
variable {P : Program} {w : World} {K : PySem.W.Frag} {mg : Str → Option Value} {base : Heap} {C : Cs}
structure LimTxt (K : PySem.W.Frag) (mg : Str → Option Value) (CS : Addr) : Prop where
  lp : ∃ t, mg "LEAST_PROCESSES" = some (.int 2 t)
  ln : ∃ t, mg "LEAST_NUMBERS" = some (.int 3 t)
  mp : ∃ u, Con K CS "MOST_PROCESSES" (.int 6) u
  mn : ∃ u, Con K CS "MOST_NUMBERS" (.int 8) u
def spSysInit (C : Cs) : Sp := fun vs H Q _ => ∃ (x dx0 : Addr) (p n : Int), vs = [.ref x, .int p, .int n] ∧ H x = some (.ins C.S dx0 []) ∧ 2 ≤ p ∧ p ≤ 6 ∧ 3 ≤ n ∧ n ≤ 8 ∧
  ∀ H' ad dx, ad .box = x → At C H' (newSys p n) ad dx → (∀ b o, b ≠ x → H b = some o → H' b = some o) → (∀ b, own (newSys p n) ad b → b = x ∨ H b = none) → Q .non H'
theorem scSysInit : FnScope ["self", "processes", "numbers"] ["self", "processes", "numbers"] (defScope sSysInit) := ⟨rfl, rfl, rfl, by decide +kernel, rfl, by decide +kernel, by decide +kernel⟩
def initA (x td sd ud tl : Addr) : Cell → Addr
  | .box => x
  | .tabD => td
  | .srcD => sd
  | .setD => ud
  | _ => tl
theorem okSysInit {dvs : List V} {kws : List (Str × V)} {f fB : Addr} {fd fdB : FuncData} (F : FunD K "__init__" "System.__init__" (defArgs sSysInit) (defBody sSysInit) (defScope sSysInit) dvs kws f fd) (T : ClsF K C.S sysF) (L : LimTxt K mg C.S)
    (GB : DO P w K mg base 2 "is_between" ["x", "least", "most"] spIsBetween fB fdB) : FnOk P w K mg base CX0 3 f fd ["self", "processes", "numbers"] (spSysInit C) := by
  refine F.ok scSysInit (fun vs H Q E h => ?_) (fun cdv A outer s H vs Q E hr h => ?_)
  · obtain ⟨_, _, _, _, rfl, _⟩ := h
    rfl
  · obtain ⟨x, dx0, p, n, rfl, hx, p0, p1, n0, n1, k⟩ := h
    obtain ⟨tp, lp⟩ := L.lp
    obtain ⟨tn, ln⟩ := L.ln
    obtain ⟨up, mp⟩ := L.mp
    obtain ⟨un, mn⟩ := L.mn
    refine ⟨_, pss_cons (ps_if (pt_not (pt_val (pe_call GB.g hr (by rfl) GB.m GB.k GB.b .nil pass0 (pa_cons (pv 1) (pa_cons (pe_glob (v := .int 2) (by rfl) lp ⟨_, rfl⟩) (pa_cons (pe_con (pv 0) rfl) pa_nil)))))) (pss_one ps_never) pss_nil)
      (pss_cons (ps_if (pt_not (pt_val (pe_call GB.g hr (by rfl) GB.m GB.k GB.b .nil pass0 (pa_cons (pv 2) (pa_cons (pe_glob (v := .int 3) (by rfl) ln ⟨_, rfl⟩) (pa_cons (pe_con (pv 0) rfl) pa_nil)))))) (pss_one ps_never) pss_nil)
      (pss_cons (ps_fld (pv 0) (pv 1) rfl) (pss_cons (ps_fld (pv 0) (pv 2) rfl)
      (pss_cons (ps_fld (pv 0) (pe_disp (pps_cons pe_int (pe_op op_rep (pe_lst (pa_cons pe_non pa_nil)) (pv 2)) pps_nil) (by rfl) (by rfl) (fun z => by cases z) (by decide)) rfl)
      (pss_cons (ps_fld (pv 0) pe_dnewK rfl) (pss_cons (ps_fld (pv 0) pe_dnewK rfl) (pss_one (ps_fld (pv 0) pe_int rfl)))))))), ?_⟩
    walk_at "wn"
    refine ⟨_, rfl, x, C.S, dx0, _, _, _, rfl, hx, T.cl, mp, rfl, ?_⟩
    refine ⟨p, 2, 6, rfl, ?_⟩
    rw [decide_eq_true p0, decide_eq_true p1]
    refine ⟨_, rfl, ?_⟩
    walk_at "wn"
    refine ⟨_, rfl, _, rfl, x, C.S, dx0, _, _, _, rfl, hx, T.cl, mn, rfl, ?_⟩
    refine ⟨n, 3, 8, rfl, ?_⟩
    rw [decide_eq_true n0, decide_eq_true n1]
    refine ⟨_, rfl, ?_⟩
    refine ⟨_, rfl, _, rfl, x, C.S, dx0, _, rfl, hx, T.cl, T.no _ (by decide), by show 0 < 1000; decide, ?_⟩
    refine ⟨_, rfl, _, rfl, x, C.S, dx0, _, rfl, upd_same, T.cl, T.no _ (by decide), by show 1 < 1000; decide, ?_⟩
    have g1 : ∀ b o, b ≠ x → H b = some o → upd (upd H x (.ins C.S dx0 (putF "process_limit" (V.int p) []))) x (.ins C.S dx0 (putF "number_limit" (V.int n) (putF "process_limit" (V.int p) []))) b = some o := fun b o nb e => by rw [upd_ne nb, upd_ne nb]; exact e
    have x1 : upd (upd H x (.ins C.S dx0 (putF "process_limit" (V.int p) []))) x (.ins C.S dx0 (putF "number_limit" (V.int n) (putF "process_limit" (V.int p) []))) x = some (.ins C.S dx0 [("process_limit", .int p), ("number_limit", .int n)]) := upd_same
    generalize upd (upd H x (.ins C.S dx0 (putF "process_limit" (V.int p) []))) x (.ins C.S dx0 (putF "number_limit" (V.int n) (putF "process_limit" (V.int p) []))) = H1 at g1 x1
    have fr : ∀ {H' : Hp} {l : Addr}, (∀ b o, b ≠ x → H b = some o → H' b = some o) → H' l = none → l ≠ x → H l = none := fun {H'} {l} g e nl => by
      cases z : H l with
      | none => rfl
      | some o => rw [g l o nl z] at e; cases e
    intro td htd
    have ntx : td ≠ x := fun z => by rw [z, x1] at htd; cases htd
    have s2 := Same.new' (o := .dK []) htd
    refine ⟨by show 1 ≤ sizeLine; decide, fun l0 hl0 => ?_⟩
    have s3 := Same.new' (o := .lst [V.non]) hl0
    have l0' : upd (upd H1 td (.dK [])) l0 (.lst [V.non]) l0 = some (.lst [V.non]) := upd_same
    refine ⟨_, rfl, l0, n, _, rfl, rfl, l0', by omega, by omega, ?_, fun tl htl => ?_⟩
    · show 1 * n.toNat ≤ sizeLine
      rw [sizeLine_eq]
      omega
    have s4 := Same.new' (o := .lst (List.replicate n.toNat [V.non]).flatten) htl
    have td4 : upd (upd (upd H1 td (.dK [])) l0 (.lst [V.non])) tl (.lst (List.replicate n.toNat [V.non]).flatten) td = some (.dK []) := s4 _ _ (s3 _ _ upd_same)
    have x4 := s4 _ _ (s3 _ _ (s2 _ _ x1))
    have tl4 : upd (upd (upd H1 td (.dK [])) l0 (.lst [V.non])) tl (.lst (List.replicate n.toNat [V.non]).flatten) tl = some (.lst (List.replicate n.toNat [V.non]).flatten) := upd_same
    have g4 : ∀ b o, b ≠ x → H b = some o → upd (upd (upd H1 td (.dK [])) l0 (.lst [V.non])) tl (.lst (List.replicate n.toNat [V.non]).flatten) b = some o := fun b o nb e => s4 _ _ (s3 _ _ (s2 _ _ (g1 b o nb e)))
    have hd0 : H td = none := fr g1 htd ntx
    have ntlx : tl ≠ x := fun z => by rw [z] at htl; rw [s3 _ _ (s2 _ _ x1)] at htl; cases htl
    have htl0 : H tl = none := fr (H' := upd (upd H1 td (.dK [])) l0 (.lst [V.non])) (fun b o nb e => s3 _ _ (s2 _ _ (g1 b o nb e))) htl ntlx
    generalize upd (upd (upd H1 td (.dK [])) l0 (.lst [V.non])) tl (.lst (List.replicate n.toNat [V.non]).flatten) = H4 at td4 x4 tl4 g4
    have ntd : tl ≠ td := ne_of tl4 td4 (by intro z; cases z)
    refine ⟨td4, [(Sum.inl 0, .ref tl)], rfl, by show 1 ≤ 15; decide, ?_⟩
    have g5 : ∀ b o, b ≠ x → H b = some o → upd H4 td (.dK (mergeK [] [((Sum.inl 0 : Key), V.ref tl)])) b = some o := fun b o nb e => by rw [upd_ne (ne_of_none e hd0)]; exact g4 b o nb e
    have x5 : upd H4 td (.dK (mergeK [] [((Sum.inl 0 : Key), V.ref tl)])) x = _ := (upd_ne (Ne.symm ntx)).trans x4
    have tl5 : upd H4 td (.dK (mergeK [] [((Sum.inl 0 : Key), V.ref tl)])) tl = _ := (upd_ne ntd).trans tl4
    have td5 : upd H4 td (.dK (mergeK [] [((Sum.inl 0 : Key), V.ref tl)])) td = some (.dK [((Sum.inl 0 : Key), V.ref tl)]) := upd_same
    generalize upd H4 td (.dK (mergeK [] [((Sum.inl 0 : Key), V.ref tl)])) = H5 at g5 x5 tl5 td5
    refine ⟨_, rfl, x, C.S, dx0, _, rfl, x5, T.cl, T.no _ (by decide), by show 2 < 1000; decide, ?_⟩
    have g6 : ∀ b o, b ≠ x → H5 b = some o → upd H5 x (.ins C.S dx0 (putF "tables" (V.ref td) [("process_limit", .int p), ("number_limit", .int n)])) b = some o := fun b o nb e => by rw [upd_ne nb]; exact e
    have x6 : upd H5 x (.ins C.S dx0 (putF "tables" (V.ref td) [("process_limit", .int p), ("number_limit", .int n)])) x = some (.ins C.S dx0 [("process_limit", .int p), ("number_limit", .int n), ("tables", .ref td)]) := upd_same
    generalize upd H5 x (.ins C.S dx0 (putF "tables" (V.ref td) [("process_limit", .int p), ("number_limit", .int n)])) = H6 at g6 x6
    intro sd hsd
    have nsx : sd ≠ x := fun z => by rw [z, x6] at hsd; cases hsd
    have nst : sd ≠ td := fun z => by rw [z, g6 _ _ ntx td5] at hsd; cases hsd
    have hsd0 : H sd = none := fr (fun b o nb e => g6 b o nb (g5 b o nb e)) hsd nsx
    have s7 := Same.new' (o := .dK []) hsd
    refine ⟨_, rfl, x, C.S, dx0, _, rfl, s7 _ _ x6, T.cl, T.no _ (by decide), by show 3 < 1000; decide, ?_⟩
    have g8 : ∀ b o, b ≠ x → H6 b = some o → upd (upd H6 sd (.dK [])) x (.ins C.S dx0 (putF "sources" (V.ref sd) [("process_limit", .int p), ("number_limit", .int n), ("tables", .ref td)])) b = some o := fun b o nb e => by rw [upd_ne nb]; exact s7 _ _ e
    have sd8 : upd (upd H6 sd (.dK [])) x (.ins C.S dx0 (putF "sources" (V.ref sd) [("process_limit", .int p), ("number_limit", .int n), ("tables", .ref td)])) sd = some (.dK []) := by rw [upd_ne nsx]; exact upd_same
    have x8 : upd (upd H6 sd (.dK [])) x (.ins C.S dx0 (putF "sources" (V.ref sd) [("process_limit", .int p), ("number_limit", .int n), ("tables", .ref td)])) x = some (.ins C.S dx0 [("process_limit", .int p), ("number_limit", .int n), ("tables", .ref td), ("sources", .ref sd)]) := upd_same
    generalize upd (upd H6 sd (.dK [])) x (.ins C.S dx0 (putF "sources" (V.ref sd) [("process_limit", .int p), ("number_limit", .int n), ("tables", .ref td)])) = H8 at g8 sd8 x8
    intro ud hud
    have nux : ud ≠ x := fun z => by rw [z, x8] at hud; cases hud
    have nut : ud ≠ td := fun z => by rw [z, g8 _ _ ntx (g6 _ _ ntx td5)] at hud; cases hud
    have nus : ud ≠ sd := fun z => by rw [z, sd8] at hud; cases hud
    have hud0 : H ud = none := fr (fun b o nb e => g8 b o nb (g6 b o nb (g5 b o nb e))) hud nux
    have s9 := Same.new' (o := .dK []) hud
    refine ⟨_, rfl, x, C.S, dx0, _, rfl, s9 _ _ x8, T.cl, T.no _ (by decide), by show 4 < 1000; decide, ?_⟩
    refine ⟨_, rfl, x, C.S, dx0, _, rfl, upd_same, T.cl, T.no _ (by decide), by show 5 < 1000; decide, ?_⟩
    have fin : ∀ b o, b ≠ x → upd H8 ud (.dK []) b = some o → upd (upd (upd H8 ud (.dK [])) x (.ins C.S dx0 (putF "sets" (V.ref ud) [("process_limit", .int p), ("number_limit", .int n), ("tables", .ref td), ("sources", .ref sd)]))) x (.ins C.S dx0 (putF "next_thing" (V.int 0) (putF "sets" (V.ref ud) [("process_limit", .int p), ("number_limit", .int n), ("tables", .ref td), ("sources", .ref sd)]))) b = some o := fun b o nb e => by rw [upd_ne nb, upd_ne nb]; exact e
    have xf : upd (upd (upd H8 ud (.dK [])) x (.ins C.S dx0 (putF "sets" (V.ref ud) [("process_limit", .int p), ("number_limit", .int n), ("tables", .ref td), ("sources", .ref sd)]))) x (.ins C.S dx0 (putF "next_thing" (V.int 0) (putF "sets" (V.ref ud) [("process_limit", .int p), ("number_limit", .int n), ("tables", .ref td), ("sources", .ref sd)]))) x = some (sysO C.S dx0 (newSys p n) td sd ud) := upd_same
    generalize upd (upd (upd H8 ud (.dK [])) x (.ins C.S dx0 (putF "sets" (V.ref ud) [("process_limit", .int p), ("number_limit", .int n), ("tables", .ref td), ("sources", .ref sd)]))) x (.ins C.S dx0 (putF "next_thing" (V.int 0) (putF "sets" (V.ref ud) [("process_limit", .int p), ("number_limit", .int n), ("tables", .ref td), ("sources", .ref sd)]))) = HF at fin xf
    have tdF : HF td = some (.dK [((Sum.inl 0 : Key), V.ref tl)]) := fin _ _ ntx (s9 _ _ (g8 _ _ ntx (g6 _ _ ntx td5)))
    have sdF : HF sd = some (.dK []) := fin _ _ nsx (s9 _ _ sd8)
    have udF : HF ud = some (.dK []) := fin _ _ nux upd_same
    have tlF : HF tl = some (.lst (List.replicate n.toNat [V.non]).flatten) := fin _ _ ntlx (s9 _ _ (g8 _ _ ntlx (g6 _ _ ntlx tl5)))
    have et : (List.replicate n.toNat [V.non]).flatten = (List.replicate n.toNat (none : Option Int)).map optV := by
      rw [List.map_replicate]
      have : ∀ m : Nat, (List.replicate m [V.non]).flatten = List.replicate m V.non := by
        intro m
        induction m with
        | zero => rfl
        | succ m ih => rw [List.replicate_succ, List.flatten_cons, ih]; rfl
      exact this _
    rw [et] at tlF
    have lt0 : ∀ t, live (newSys p n) (.tab t) → t = 0 := fun t h => List.mem_singleton.mp h
    have no : ∀ t : Int, t ∉ ([] : List Int) := fun t h => nomatch h
    refine k HF (initA x td sd ud tl) (fun _ => dx0) rfl ⟨fun c hc => ?_, fun c c' hc hc' z => ?_⟩ (fun b o nb e => fin b o nb (s9 _ _ (g8 b o nb (g6 b o nb (g5 b o nb e))))) (fun b hb => ?_)
    · cases c with
      | box => exact xf
      | tabD => exact tdF
      | srcD => exact sdF
      | setD => exact udF
      | tab t => exact tlF
      | srcT t => exact absurd hc (no t)
      | ws t => exact absurd hc (no t)
      | ent t => exact absurd hc (no t)
      | que t => exact absurd hc (no t)
      | reg t l => exact absurd hc.1 (no t)
    · have n_xt : x ≠ td := Ne.symm ntx
      have n_ts : tl ≠ sd := ne_of tlF sdF (by intro z; cases z)
      have n_tu : tl ≠ ud := ne_of tlF udF (by intro z; cases z)
      have dead : ∀ {c : Cell}, live (newSys p n) c → c = .box ∨ c = .tabD ∨ c = .srcD ∨ c = .setD ∨ c = .tab 0 := fun {c} hc => by
        cases c with
        | box => exact .inl rfl
        | tabD => exact .inr (.inl rfl)
        | srcD => exact .inr (.inr (.inl rfl))
        | setD => exact .inr (.inr (.inr (.inl rfl)))
        | tab t => exact .inr (.inr (.inr (.inr (by rw [lt0 t hc]))))
        | srcT t => exact absurd hc (no t)
        | ws t => exact absurd hc (no t)
        | ent t => exact absurd hc (no t)
        | que t => exact absurd hc (no t)
        | reg t l => exact absurd hc.1 (no t)
      rcases dead hc with rfl | rfl | rfl | rfl | rfl <;> rcases dead hc' with rfl | rfl | rfl | rfl | rfl <;> first | rfl | (exfalso; revert z; first | exact fun z => n_xt z | exact fun z => n_xt z.symm | exact fun z => nsx z | exact fun z => nsx z.symm | exact fun z => nux z | exact fun z => nux z.symm | exact fun z => ntlx z | exact fun z => ntlx z.symm | exact fun z => nst z | exact fun z => nst z.symm | exact fun z => nut z | exact fun z => nut z.symm | exact fun z => nus z | exact fun z => nus z.symm | exact fun z => ntd z | exact fun z => ntd z.symm | exact fun z => n_ts z | exact fun z => n_ts z.symm | exact fun z => n_tu z | exact fun z => n_tu z.symm)
    · obtain ⟨c, hc, rfl⟩ := hb
      cases c with
      | box => exact .inl rfl
      | tabD => exact .inr hd0
      | srcD => exact .inr hsd0
      | setD => exact .inr hud0
      | tab t => exact .inr htl0
      | srcT t => exact absurd hc (no t)
      | ws t => exact absurd hc (no t)
      | ent t => exact absurd hc (no t)
      | que t => exact absurd hc (no t)
      | reg t l => exact absurd hc.1 (no t)
end
end Wn

namespace Wn
open PySem PySem.Spec PyProof.Rows L2 Evl
local macro_rules | `(tactic| walk_at "wn1") => `(tactic| first | ((with_reducible show (if (!decide _) = true then _ else _)); refine' g_nes ?_) | ((with_reducible show (if (decide _) = true then _ else _)); refine' g_es ?_) | with_reducible first
  | (refine' g_var ?h ?q; (case h => with_unfolding_all rfl))
  | refine' g_c ?_ | refine' g_op ?_ | refine' g_rI0 ?_ | refine' g_asg ?_ | refine' g_name ?_ | refine' g_seq ?_ | refine' g_ret ?_ | refine' g_retN ?_ | refine' g_next ?_ | refine' g_drop ?_
  | refine' g_nil ?_ | refine' g_cons ?_ | refine' g_cb ?_ | refine' g_test ?_ | refine' g_bl ?_ | refine' g_if ?_ | refine' g_ifs ?_ | refine' g_not ?_ | refine' g_part ?_ | refine' g_pint ?_ | refine' g_nopart ?_ | refine' g_call ?_
  | (refine' g_mul ?h ?q; (case h => with_unfolding_all first | exact Or.inl ⟨by decide, by decide⟩ | exact Or.inr ⟨by decide, by decide⟩ | exact Or.inl ⟨by omega, by omega⟩ | exact Or.inr ⟨by omega, by omega⟩))
  | (refine' g_mod ?h ?q; (case h => with_unfolding_all first | decide | omega))
  | refine' g_rIsN ?_ | refine' g_rNotN ?_ | refine' g_max2 ?_ | refine' g_min2 ?_ | refine' g_and ?_ | refine' g_or ?_ | refine' g_orV ?_ | refine' g_andV ?_ | refine' g_notV ?_ | refine' g_m1 ?_ | refine' g_yes ?_ | refine' g_bm ?_ | refine' g_bm0 ?_
  | (refine' g_tyL ?h ?q; (case h => first | assumption | exact upd_same))
  | refine' g_m0 ?_ | refine' g_tB ?_ | refine' g_isS ?_ | refine' g_bT ?_ | refine' g_bF ?_ | refine' g_bNT ?_ | refine' g_callK ?_ | refine' g_bNF ?_
  | (refine' g_lenL ?h ?q; (case h => first | assumption | exact upd_same))
  | refine' g_un ?_ | refine' g_rint _ ?_ | refine' g_rabs ?_ | refine' g_sl ?_ 
  | (refine' g_ixL ?h ?a ?q; (case h => first | assumption | exact upd_same); (case a => with_unfolding_all rfl))
  | (refine' g_div ?h0 ?h1 ?q; (case h0 => with_unfolding_all first | decide | omega); (case h1 => with_unfolding_all first | decide | omega))
  | refine' g_sub ?_
  | (refine' g_setL ?h ?a ?q; (case h => first | assumption | exact upd_same); (case a => with_unfolding_all rfl))
  | refine' g_lst ?_ | refine' g_tup ?_
  | (refine' g_rEq ?h ?q; (case h => with_unfolding_all rfl)) | (refine' g_rNe ?h ?q; (case h => with_unfolding_all rfl)))
local macro_rules | `(tactic| walk_at "wn") => `(tactic| repeat walk_at "wn1")

abbrev sDrop : Stmt := meth 27 5
abbrev sChange : Stmt := meth 31 14
abbrev sRemove : Stmt := meth 31 15
/-! o.m(e, .., k = v, ..) -/
def tMethK (C : Addr) (m : Str) (n j : Nat) (sp : Sp) (gV : List V → List V → List V) (E : XK) (ta : TE) (t tk : TA) : TE := fun σ H Q => ta σ H fun x H1 => ∃ a dx fs, x = .ref a ∧ H1 a = some (.ins C dx fs) ∧ fs.lookup m = none ∧ t σ H1 fun vs H2 => tk σ H2 fun zs H3 => vs.length = n ∧ zs.length = j ∧ sp (gV (x :: vs) zs) H3 Q E
section
variable {X : Cx} {CX : CXT} {k n : Nat} {f C : Addr} {fd : FuncData} {ps ks : List Str} {sp : Sp} {E : XK} {m : Str} {apos pos : Pos} {o e : Expr} {es : List Expr} {kws : List Keyword} {ta : TE} {t tk : TA} {g : List Value → List Value → List Value} {gV : List V → List V → List V}
theorem pe_methK {pl : Sem Bool} (he : PE X o ta) (c : Cls X.K C) (hm : Meth X.K C m f) (F : FnOk X.prog X.w X.K X.mg X.base CX k f fd ps sp) (hr : Room k X.A) (hb : KBn X.K fd ps (n + 1) ks g gV) (hx : Passes CX X E) (ha : PA X (e :: es) t) (hkw : PK X kws tk)
    (hall : (backToKw pos (keywordEach kws X.env)).all (·.1.isSome) = true := by rfl) (hks : (backToKw pos (keywordEach kws X.env)).filterMap (·.1) = ks := by rfl)
    (hst : starEach (e :: es) X.env = (false, eval e X.env) :: starEach es X.env := by rfl) (hpl : ((backTo pos (starEach (e :: es) X.env)).any (·.1) || (backToKw pos (keywordEach kws X.env)).any (·.1.isNone)) = false := by rfl)
    (ht : eval (.Call (.Attribute o m apos) (e :: es) kws pos) X.env = (do
      let ov ← eval o X.env
      standAt apos.atName
      let (f, first) ← holding [ov] (getMethod ov m pl)
      callWith pos f first (backTo pos (starEach (e :: es) X.env)) (backToKw pos (keywordEach kws X.env))) := by rfl) :
    PE X (.Call (.Attribute o m apos) (e :: es) kws pos) (tMethK C m n ks.length sp gV E ta t tk) := by
  refine ⟨fun pins s σ H Q I h => ?_⟩
  refine PySem.W.methodCall_KW (pl := pl) (thn (he.run pins s σ H _ I h) fun u s1 ⟨x, H1, I1, rx, a, dx, fs, ex, ea, l, q⟩ => ?_) ht
  subst ex
  obtain rfl : u = Value.ref a := rx
  refine getmeth_ok I1 ea c hm l ?_
  refine PySem.W.callWith_KW (first := [.ref a]) (h₀ := X.base) I.ok.mod.kin hm.kp hall (thn (ha.run pos pins s1 σ H1 _ I1 q) fun us s2 ⟨vs, H2, I2, r, q2⟩ => ?_) hpl hst
  refine thn (hkw.run pos pins s2 σ H2 _ I2 q2) fun ws s3 ⟨zs, H3, I3, rz, l1, l2, q3⟩ => ⟨I3.kIn, ?_⟩
  rw [hks]
  exact run_fnN (us := .ref a :: us) (vs := .ref a :: vs) F hr hb hx I3 (.cons rfl r) rz (by rw [List.length_cons, l1]) l2 q3
end
/-! WaitingSet.drop -/
theorem ent_drop (ls : List Int) (ad : Int → Addr) (l : Int) : dropK (entKV ls ad) (Sum.inl l) = entKV (ls.filter fun x => decide (x ≠ l)) ad := by
  unfold dropK entKV
  induction ls with
  | nil => rfl
  | cons x ls ih =>
    rw [List.map_cons, List.filter_cons, List.filter_cons, ih]
    by_cases h : x = l
    · have e1 : decide ((Sum.inl x : Key) ≠ Sum.inl l) = false := decide_eq_false fun z => z (by rw [h])
      have e2 : decide (x ≠ l) = false := decide_eq_false fun z => z h
      rw [e2]
      show (if decide ((Sum.inl x : Key) ≠ Sum.inl l) = true then _ else _) = _
      rw [e1]
      rfl
    · have e1 : decide ((Sum.inl x : Key) ≠ Sum.inl l) = true := decide_eq_true fun z => h (Sum.inl.inj z)
      have e2 : decide (x ≠ l) = true := decide_eq_true h
      rw [e2]
      show (if decide ((Sum.inl x : Key) ≠ Sum.inl l) = true then _ else _) = _
      rw [e1]
      rfl
section
variable {P : Program} {w : World} {K : PySem.W.Frag} {mg : Str → Option Value} {base : Heap} {CR CW : Addr}
def without (l : Int) (ls : List Int) : List Int := ls.filter fun x => decide (x ≠ l)
def spDrop (CW : Addr) : Sp := fun vs H Q _ => ∃ (a dx e q : Addr) (l : Int) (qs ls : List Int) (ad : Int → Addr), vs = [.ref a, .int l] ∧ H a = some (wsO CW dx e q) ∧ H q = some (.lst (qs.map V.int)) ∧ H e = some (.dK (entKV ls ad)) ∧ l ∈ ls ∧ qs.length ≤ 10000 ∧
  ∀ H' q', H q' = none → H' a = some (wsO CW dx e q') → H' q' = some (.lst ((without l qs).map V.int)) → H' e = some (.dK (entKV (without l ls) ad)) → (∀ b o, b ≠ a → b ≠ e → H b = some o → H' b = some o) → Q .non H'
theorem scDrop : FnScope ["self", "label", "pending"] ["self", "label"] (defScope sDrop) := ⟨rfl, rfl, rfl, by decide +kernel, rfl, by decide +kernel, by decide +kernel⟩
theorem okDrop {f : Addr} {fd : FuncData} (F : Fun K "drop" "WaitingSet.drop" sDrop f fd) (T : ClsF K CW wsF) : FnOk P w K mg base CX0 1 f fd ["self", "label"] (spDrop CW) := by
  refine F.ok scDrop (fun vs H Q E h => ?_) (fun cdv A outer s H vs Q E hr h => ?_)
  · obtain ⟨_, _, _, _, _, _, _, _, rfl, _⟩ := h
    rfl
  · obtain ⟨a, dx, e, q, l, qs, ls, ad, rfl, ha, hq, he, hl, hz, k⟩ := h
    have hu := hu_of hr
    refine ⟨_, pss_cons (ps_ddel (pe_fld (pv 0) rfl) (pv 1))
      (pss_one (ps_fld (pv 0) (pe_lc (own := [("pending", 2)]) (g := gName 2) (tt := tTest (tOp rNe (tVar 2) (tVar 1))) (te := tVar 2) rfl scDrop.nd (pi_list (pe_fld (pv 0) rfl)) (blkOk_by (N := ["self", "label", "pending"]) (sc := defScope sDrop) (by decide +kernel)) (fun _ _ _ _ _ => pg_name (i := 2) scDrop.nd rfl (Or.inl rfl)) (fun _ _ _ _ _ => pts_one (pt_cmpR op_ne (pv 2) (pv 1) (nomark _))) (fun _ _ _ _ _ => pv 2)) rfl)), ?_⟩
    have nae : a ≠ e := ne_of ha he (by intro z; cases z)
    have nqe : q ≠ e := ne_of hq he (by intro z; cases z)
    refine ⟨_, rfl, a, CW, dx, _, _, rfl, ha, T.cl, T.no _ (by decide), rfl, ?_⟩
    refine ⟨_, rfl, e, _, Sum.inl l, rfl, he, rfl, by rw [ent_val, if_pos hl]; rfl, ?_⟩
    rw [ent_drop]
    have g1 : ∀ b o, b ≠ e → H b = some o → upd H e (.dK (entKV (ls.filter fun x => decide (x ≠ l)) ad)) b = some o := fun b o n z => by rw [upd_ne n]; exact z
    have e1 : upd H e (.dK (entKV (ls.filter fun x => decide (x ≠ l)) ad)) e = some (.dK (entKV (without l ls) ad)) := upd_same
    generalize upd H e (.dK (entKV (ls.filter fun x => decide (x ≠ l)) ad)) = H1 at g1 e1
    have a1 := g1 _ _ nae ha
    have q1 := g1 _ _ nqe hq
    refine ⟨_, rfl, a, CW, dx, _, _, rfl, a1, T.cl, T.no _ (by decide), rfl, ?_⟩
    refine ⟨q, rfl, ⟨_, SqL.of q1⟩, fun D hD => lc_list (K := K) (a := q) (xs := qs.map V.int) (fun i H' => Same H1 H' ∧ H' D = some (.lst ((without l (qs.take i)).map V.int))) ⟨Same.new' hD, by rw [upd_same]; rfl⟩ (fun i H' _ h => SqL.of (h.1 _ _ q1)) ?_ ?_⟩
    · rintro i v H' hv ⟨sm, hD'⟩
      rw [List.getElem?_map] at hv
      cases el : qs[i]? with
      | none => rw [el] at hv; cases hv
      | some x =>
      rw [el] at hv
      cases hv
      obtain ⟨hi, _⟩ := List.getElem?_eq_some_iff.mp el
      have et : without l (qs.take (i + 1)) = without l (qs.take i) ++ (if x ≠ l then [x] else []) := by
        unfold without
        rw [List.take_add_one, el, List.filter_append]
        by_cases h : x = l
        · rw [if_neg (fun z => z h)]
          simp [h]
        · rw [if_pos h]
          simp [h]
      refine ⟨rfl, ?_⟩
      show tTest _ _ _ _
      walk_at "wn"
      by_cases h : x = l
      · subst h
        rw [et, if_neg (show ¬ (x ≠ x) from fun z => z rfl), List.append_nil]
        walk_at "wn"
        exact ⟨sm, hD'⟩
      · rw [decide_eq_false fun z => h (V.int.inj z), et, if_pos h, List.map_append]
        walk_at "wn"
        refine ⟨_, hD', ?_, fun b o z => ?_, upd_same⟩
        · rw [List.length_map]
          have : (without l (qs.take i)).length ≤ (qs.take i).length := List.length_filter_le _ _
          rw [List.length_take] at this
          rw [sizeLine_eq]
          omega
        · rw [upd_ne (ne_of_none z hD)]
          exact sm _ _ z
    · rintro H' ⟨sm, hD'⟩
      have hD0 : H D = none := by
        cases z : H D with
        | none => rfl
        | some o =>
          by_cases n : D = e
          · rw [n, e1] at hD
            cases hD
          · rw [g1 _ _ n z] at hD
            cases hD
      have eq : without l (qs.take (qs.map V.int).length) = without l qs := by rw [List.length_map, List.take_length]
      rw [eq] at hD'
      refine ⟨_, rfl, a, CW, dx, _, rfl, sm _ _ a1, T.cl, T.no _ (by decide), by show 2 < 1000; decide, ?_⟩
      have naD : a ≠ D := ne_of_none a1 hD
      have neD : e ≠ D := ne_of_none e1 hD
      refine k _ D hD0 upd_same ((upd_ne (Ne.symm naD)).trans hD') ((upd_ne (Ne.symm nae)).trans (sm _ _ e1)) fun b o n1 n2 z => ?_
      rw [upd_ne n1]
      exact sm _ _ (g1 _ _ n2 z)
end
/-! System.change, System.remove -/
def changed (S : Sys) (s l : Int) (r : Reg) : Sys := { S with
  reg := fun j i => if j = s ∧ i = l then r else S.reg j i
  que := fun j => if j = s then (if ready S r.src = true then qAdd l (S.que s) else S.que s) else S.que j }
def dropped (S : Sys) (s l : Int) : Sys := { S with
  ents := fun j => if j = s then without l (S.ents s) else S.ents j
  que := fun j => if j = s then without l (S.que s) else S.que j }
section
variable {P : Program} {w : World} {K : PySem.W.Frag} {mg : Str → Option Value} {base : Heap} {C : Cs}
def spChange (C : Cs) : Sp := fun vs H Q _ => ∃ (p sn n l s t : Int) (wd : Str), OnSys C vs H [.int p, .int sn, .int n, .str wd] fun S ad dx => Means S p sn s ∧ s ∈ S.sets ∧ Means S p n t ∧ t ∈ S.srcs ∧ wd ∈ wordsL ∧ (S.ents s).find? (keyOf (S.reg s) n t) = some l ∧ Small S ∧
  ∀ H' ad' dx', At C H' (changed S s l ⟨n, t, wd, true⟩) ad' dx' → Step H S ad H' (changed S s l ⟨n, t, wd, true⟩) ad' → Q .non H'
theorem scChange : FnScope ["self", "process", "set_number", "number", "word", "waiting", "source", "label"] ["self", "process", "set_number", "number", "word"] (defScope sChange) := ⟨rfl, rfl, rfl, by decide +kernel, rfl, by decide +kernel, by decide +kernel⟩
theorem okChange {f fW fS fD fO fR fI fP : Addr} {fd fdW fdS fdD fdO fdR fdI fdP : FuncData} (F : Fun K "change" "System.change" sChange f fd) (T : ClsF K C.S sysF) (TW : ClsF K C.W wsF)
    (GW : MO P w K mg base 5 C.S "set_at" ["self", "process", "set_number"] (spSetAt C) fW fdW) (GS : MO P w K mg base 5 C.S "source_at" ["self", "process", "number"] (spSourceAt C) fS fdS)
    (GD : DO P w K mg base 1 "is_word" ["x"] spIsWord fD fdD) (GO : MO P w K mg base 1 C.W "label_of" ["self", "number", "source"] (spLabelOf C.W C.R) fO fdO)
    (gR : mg "Registration" = some (.ref C.R)) (MR : Mk K C.R fR) (GR : FnOk P w K mg base CX0 1 fR fdR ["self", "number", "source", "word", "armed"] (spRegInit C.R)) (bR : Binds K fdR ["self", "number", "source", "word", "armed"] [])
    (GI : MO P w K mg base 1 C.S "is_ready" ["self", "source"] (spIsReady C) fI fdI) (GP : MO P w K mg base 2 C.W "put" ["self", "label", "kept", "ready"] (spPut C.W) fP fdP) :
    FnOk P w K mg base CX0 6 f fd ["self", "process", "set_number", "number", "word"] (spChange C) := by
  refine F.ok scChange (fun vs H Q E h => ?_) (fun cdv A outer s H vs Q E hr h => ?_)
  · obtain ⟨_, _, _, _, _, _, _, _, _, _, rfl, _⟩ := h
    rfl
  · obtain ⟨p, sn, n, l, s, t, wd, S, ad, dx, rfl, A0, Ms, hs, Mt, ht, hwd, hfind, sm0, k⟩ := h
    have hu := hu_of hr
    have hr1 : Room 1 _ := hr.mono (by decide)
    have hr2 : Room 2 _ := hr.mono (by decide)
    have hl : l ∈ S.ents s := List.mem_of_find?_eq_some hfind
    refine ⟨_, pss_cons (ps_set (i := 5) scChange.nd rfl (Or.inl rfl) (pe_meth (pv 0) T.cl GW.m GW.g hr GW.b .nil pass0 (pa_cons (pv 1) (pa_cons (pv 2) pa_nil))))
      (pss_cons (ps_set (i := 6) scChange.nd rfl (Or.inl rfl) (pe_meth (pv 0) T.cl GS.m GS.g hr GS.b .nil pass0 (pa_cons (pv 1) (pa_cons (pv 3) pa_nil))))
      (pss_cons (ps_if (pt_not (pt_val (pe_call GD.g hr1 (by rfl) GD.m GD.k GD.b .nil pass0 (pa_cons (pv 4) pa_nil)))) (pss_one ps_never) pss_nil)
      (pss_cons (ps_set (i := 7) scChange.nd rfl (Or.inl rfl) (pe_meth (pv 5) TW.cl GO.m GO.g hr1 GO.b .nil pass0 (pa_cons (pv 3) (pa_cons (pv 6) pa_nil))))
      (pss_cons (ps_if (pt_cmpR oIsN (pv 7) pe_non (nomark _)) (pss_one ps_never) pss_nil)
      (pss_one (ps_expr (pe_meth (pv 5) TW.cl GP.m GP.g hr2 GP.b .nil pass0 (pa_cons (pv 7) (pa_cons (pe_make MR GR hr2 (by rfl) gR bR .nil pass0 (pa_cons (pv 3) (pa_cons (pv 6) (pa_cons (pv 4) (pa_cons pe_bl pa_nil))))) (pa_cons (pe_meth (pv 0) T.cl GI.m GI.g hr1 GI.b .nil pass0 (pa_cons (pv 6) pa_nil)) pa_nil)))))))))), ?_⟩
    have hb := A0.at_ .box trivial
    walk_at "wn"
    refine ⟨_, rfl, ad .box, dx .box, _, rfl, hb, rfl, ?_⟩
    walk_at "wn"
    refine ⟨p, sn, s, S, ad, dx, rfl, A0, Ms, hs, ?_⟩
    walk_at "wn"
    refine ⟨_, rfl, ad .box, dx .box, _, rfl, hb, rfl, ?_⟩
    walk_at "wn"
    refine ⟨p, n, t, S, ad, dx, rfl, A0, Mt, ht, ?_⟩
    walk_at "wn"
    refine ⟨wd, rfl, hwd, ?_⟩
    refine ⟨_, rfl, ?_⟩
    walk_at "wn"
    have hw := A0.at_ (.ws s) hs
    refine ⟨_, rfl, ad (.ws s), dx (.ws s), _, rfl, hw, rfl, ?_⟩
    walk_at "wn"
    refine ⟨ad (.ws s), dx (.ws s), ad (.ent s), ad (.que s), n, t, S.ents s, fun j => ad (.reg s j), S.reg s, rfl, hw, A0.at_ (.ent s) hs, fun j hj => ⟨dx (.reg s j), A0.at_ (.reg s j) ⟨hs, hj⟩⟩, fun H1 s1 => ?_⟩
    rw [hfind]
    have A1 := A0.same s1
    have hw1 := A1.at_ (.ws s) hs
    have he1 := A1.at_ (.ent s) hs
    have hq1 := A1.at_ (.que s) hs
    walk_at "wn"
    rw [decide_eq_false (by intro z; cases z)]
    walk_at "wn"
    refine ⟨_, rfl, ad (.ws s), dx (.ws s), _, rfl, hw1, rfl, ?_⟩
    walk_at "wn"
    refine ⟨_, rfl, _, rfl, _, rfl, fun x dx2 hx hdx ndx => ?_⟩
    refine ⟨x, dx2, n, t, wd, true, rfl, upd_same, fun H2 k1 k2 => ⟨rfl, ?_⟩⟩
    have s2 : Same H1 H2 := fun b o e => by
      rw [k1 b (ne_of_none e hx), upd_ne (ne_of_none e hx), upd_ne (ne_of_none e hdx)]
      exact e
    have A2 := A1.same s2
    refine ⟨_, rfl, ad .box, dx .box, _, rfl, A2.at_ .box trivial, rfl, ?_⟩
    walk_at "wn"
    refine ⟨t, S, ad, dx, rfl, A2, ht, ?_⟩
    have he2 := A2.at_ (.ent s) hs
    have hq2 := A2.at_ (.que s) hs
    have z1 := sm0.que s hs
    have z2 := sm0.ents s hs
    refine ⟨ad (.ws s), dx (.ws s), ad (.ent s), ad (.que s), x, l, ready S t, S.que s, _, rfl, A2.at_ (.ws s) hs, hq2, he2, by omega, by unfold entKV; rw [List.length_map]; omega, fun H3 j1 j2 j3 => ?_⟩
    rw [ent_put, if_pos hl, reg_fun] at j1
    have nxe : x ≠ ad (.ent s) := fun z => by rw [z, he1] at hx; cases hx
    have nxq : x ≠ ad (.que s) := fun z => by rw [z, hq1] at hx; cases hx
    have fresh : H x = none := s1.free hx
    refine (fun z : At C _ _ _ _ ∧ Step H S ad _ _ _ => k H3 (setA ad (.reg s l) x) (setA dx (.reg s l) dx2) z.1 z.2) ?_
    refine At.re3 [.ent s, .que s, .reg s l] A0 (fun c lc => .inr ?_) (fun c hc lc => ?_) (fun c hc lc => ?_) (fun c hc lc => ?_) (fun c hc c' hc' lc lc' z e => ?_) (fun b o nb e => ?_) (setA_ne (by intro z; cases z))
    · cases c <;> exact lc
    · simp only [List.mem_cons, List.not_mem_nil, or_false] at hc
      rcases hc with rfl | rfl | rfl
      · rw [setA_ne (by intro z; cases z), j1]
        rfl
      · rw [setA_ne (by intro z; cases z), j2]
        show _ = some (HO.lst ((if s = s then _ else S.que s).map V.int))
        rw [if_pos rfl]
      · rw [setA_same, j3 x nxe nxq, k2]
        show _ = some (regO C.R (setA dx (.reg s l) dx2 (.reg s l)) (if s = s ∧ l = l then (⟨n, t, wd, true⟩ : Reg) else S.reg s l).num (if s = s ∧ l = l then (⟨n, t, wd, true⟩ : Reg) else S.reg s l).src (if s = s ∧ l = l then (⟨n, t, wd, true⟩ : Reg) else S.reg s l).word (if s = s ∧ l = l then (⟨n, t, wd, true⟩ : Reg) else S.reg s l).armed)
        rw [if_pos ⟨rfl, rfl⟩, setA_same]
    · have n1 : c ≠ .ent s := fun z => hc (by rw [z]; simp)
      have n2 : c ≠ .que s := fun z => hc (by rw [z]; simp)
      have n3 : c ≠ .reg s l := fun z => hc (by rw [z]; simp)
      refine ⟨setA_ne n3, ?_⟩
      cases c with
      | ent s' =>
        have ns : s' ≠ s := fun z => n1 (by rw [z])
        have ef : (fun j => setA ad (.reg s l) x (.reg s' j)) = fun j => ad (.reg s' j) := funext fun j => setA_ne fun z => ns (by cases z; rfl)
        show HO.dK (entKV (S.ents s') fun j => setA ad (.reg s l) x (.reg s' j)) = _
        rw [ef]
        rfl
      | que s' =>
        have ns : s' ≠ s := fun z => n2 (by rw [z])
        show HO.lst ((if s' = s then _ else S.que s').map V.int) = _
        rw [if_neg ns]
        rfl
      | reg s' l' =>
        have nr : ¬ (s' = s ∧ l' = l) := fun z => n3 (by rw [z.1, z.2])
        show regO C.R (setA dx (.reg s l) dx2 (.reg s' l')) (if s' = s ∧ l' = l then (⟨n, t, wd, true⟩ : Reg) else S.reg s' l').num (if s' = s ∧ l' = l then (⟨n, t, wd, true⟩ : Reg) else S.reg s' l').src (if s' = s ∧ l' = l then (⟨n, t, wd, true⟩ : Reg) else S.reg s' l').word (if s' = s ∧ l' = l then (⟨n, t, wd, true⟩ : Reg) else S.reg s' l').armed = _
        rw [if_neg nr, setA_ne n3]
        rfl
      | _ => rfl
    · simp only [List.mem_cons, List.not_mem_nil, or_false] at hc
      rcases hc with rfl | rfl | rfl
      · exact .inl ⟨setA_ne (by intro z; cases z), hs⟩
      · exact .inl ⟨setA_ne (by intro z; cases z), hs⟩
      · exact .inr (by rw [setA_same]; exact fresh)
    · have of : ∀ c, c ∈ ([.ent s, .que s, .reg s l] : List Cell) → H (setA ad (.reg s l) x c) = none → c = .reg s l := fun c hc z => by
        simp only [List.mem_cons, List.not_mem_nil, or_false] at hc
        rcases hc with rfl | rfl | rfl
        · rw [setA_ne (by intro z; cases z), A0.at_ (.ent s) hs] at z
          cases z
        · rw [setA_ne (by intro z; cases z), A0.at_ (.que s) hs] at z
          cases z
        · rfl
      rw [of c hc z, of c' hc' (by rw [← e]; exact z)]
    · rw [j3 b (nb (.ent s) (by simp) hs) (nb (.que s) (by simp) hs)]
      exact s2 _ _ (s1 _ _ e)
end
end Wn

namespace Wn
open PySem PySem.Spec PyProof.Rows L2 Evl
local macro_rules | `(tactic| walk_at "wn1") => `(tactic| first | ((with_reducible show (if (!decide _) = true then _ else _)); refine' g_nes ?_) | ((with_reducible show (if (decide _) = true then _ else _)); refine' g_es ?_) | with_reducible first
  | (refine' g_var ?h ?q; (case h => with_unfolding_all rfl))
  | refine' g_c ?_ | refine' g_op ?_ | refine' g_rI0 ?_ | refine' g_asg ?_ | refine' g_name ?_ | refine' g_seq ?_ | refine' g_ret ?_ | refine' g_retN ?_ | refine' g_next ?_ | refine' g_drop ?_
  | refine' g_nil ?_ | refine' g_cons ?_ | refine' g_cb ?_ | refine' g_test ?_ | refine' g_bl ?_ | refine' g_if ?_ | refine' g_ifs ?_ | refine' g_not ?_ | refine' g_part ?_ | refine' g_pint ?_ | refine' g_nopart ?_ | refine' g_call ?_
  | (refine' g_mul ?h ?q; (case h => with_unfolding_all first | exact Or.inl ⟨by decide, by decide⟩ | exact Or.inr ⟨by decide, by decide⟩ | exact Or.inl ⟨by omega, by omega⟩ | exact Or.inr ⟨by omega, by omega⟩))
  | (refine' g_mod ?h ?q; (case h => with_unfolding_all first | decide | omega))
  | refine' g_rIsN ?_ | refine' g_rNotN ?_ | refine' g_max2 ?_ | refine' g_min2 ?_ | refine' g_and ?_ | refine' g_or ?_ | refine' g_orV ?_ | refine' g_andV ?_ | refine' g_notV ?_ | refine' g_m1 ?_ | refine' g_yes ?_ | refine' g_bm ?_ | refine' g_bm0 ?_
  | (refine' g_tyL ?h ?q; (case h => first | assumption | exact upd_same))
  | refine' g_m0 ?_ | refine' g_tB ?_ | refine' g_isS ?_ | refine' g_bT ?_ | refine' g_bF ?_ | refine' g_bNT ?_ | refine' g_callK ?_ | refine' g_bNF ?_
  | (refine' g_lenL ?h ?q; (case h => first | assumption | exact upd_same))
  | refine' g_un ?_ | refine' g_rint _ ?_ | refine' g_rabs ?_ | refine' g_sl ?_ 
  | (refine' g_ixL ?h ?a ?q; (case h => first | assumption | exact upd_same); (case a => with_unfolding_all rfl))
  | (refine' g_div ?h0 ?h1 ?q; (case h0 => with_unfolding_all first | decide | omega); (case h1 => with_unfolding_all first | decide | omega))
  | refine' g_sub ?_
  | (refine' g_setL ?h ?a ?q; (case h => first | assumption | exact upd_same); (case a => with_unfolding_all rfl))
  | refine' g_lst ?_ | refine' g_tup ?_
  | (refine' g_rEq ?h ?q; (case h => with_unfolding_all rfl)) | (refine' g_rNe ?h ?q; (case h => with_unfolding_all rfl)))
local macro_rules | `(tactic| walk_at "wn") => `(tactic| repeat walk_at "wn1")

abbrev sCopy : Stmt := meth 31 6
abbrev sFinish : Stmt := meth 31 11
def finished (S : Sys) (t : Int) : Sys := notified (withUnit S t (S.unit t).1 true) t
def copied (S : Sys) (p : Int) (m : Nat) (t : Int) : Sys := { S with tab := fun q => if q = p then (S.tab p).set m (some t) else S.tab q }
section
variable {P : Program} {w : World} {K : PySem.W.Frag} {mg : Str → Option Value} {base : Heap} {C : Cs}
def spFinish (C : Cs) : Sp := fun vs H Q _ => ∃ p n t : Int, OnSys C vs H [.int p, .int n] fun S ad dx => Means S p n t ∧ t ∈ S.srcs ∧ (S.unit t).2 = false ∧ Small S ∧ ∀ H' ad', At C H' (finished S t) ad' dx → Step H S ad H' (finished S t) ad' → Q .non H'
theorem scFinish : FnScope ["self", "process", "number", "source", "unread"] ["self", "process", "number"] (defScope sFinish) := ⟨rfl, rfl, rfl, by decide +kernel, rfl, by decide +kernel, by decide +kernel⟩
theorem okFinish {f fS fU fN : Addr} {fd fdS fdU fdN : FuncData} (F : Fun K "finish" "System.finish" sFinish f fd) (T : ClsF K C.S sysF)
    (GS : MO P w K mg base 5 C.S "source_at" ["self", "process", "number"] (spSourceAt C) fS fdS) (GU : MO P w K mg base 1 C.S "unread_of_unfinished" ["self", "source", "number"] (spUnfinished C) fU fdU) (GN : MO P w K mg base 3 C.S "notify" ["self", "source"] (spNotify C) fN fdN) :
    FnOk P w K mg base CX0 6 f fd ["self", "process", "number"] (spFinish C) := by
  refine F.ok scFinish (fun vs H Q E h => ?_) (fun cdv A outer s H vs Q E hr h => ?_)
  · obtain ⟨_, _, _, _, _, _, rfl, _⟩ := h
    rfl
  · obtain ⟨p, n, t, S, ad, dx, rfl, A0, M, ht, hf, sm0, k⟩ := h
    have hu := hu_of hr
    have hr1 : Room 1 _ := hr.mono (by decide)
    have hr3 : Room 3 _ := hr.mono (by decide)
    refine ⟨_, pss_cons (ps_set (i := 3) scFinish.nd rfl (Or.inl rfl) (pe_meth (pv 0) T.cl GS.m GS.g hr GS.b .nil pass0 (pa_cons (pv 1) (pa_cons (pv 2) pa_nil))))
      (pss_cons (ps_set (i := 4) scFinish.nd rfl (Or.inl rfl) (pe_meth (pv 0) T.cl GU.m GU.g hr1 GU.b .nil pass0 (pa_cons (pv 3) (pa_cons (pv 2) pa_nil))))
      (pss_cons (ps_dput hu (pe_fld (pv 0) rfl) (pv 3) (pe_tup (pa_cons (pv 4) (pa_cons pe_bl pa_nil))) rfl)
      (pss_one (ps_expr (pe_meth (pv 0) T.cl GN.m GN.g hr3 GN.b .nil pass0 (pa_cons (pv 3) pa_nil)))))), ?_⟩
    have hb := A0.at_ .box trivial
    walk_at "wn"
    refine ⟨_, rfl, ad .box, dx .box, _, rfl, hb, rfl, ?_⟩
    walk_at "wn"
    refine ⟨p, n, t, S, ad, dx, rfl, A0, M, ht, ?_⟩
    walk_at "wn"
    refine ⟨_, rfl, ad .box, dx .box, _, rfl, hb, rfl, ?_⟩
    walk_at "wn"
    refine ⟨t, n, S, ad, dx, rfl, A0, ht, hf, ?_⟩
    walk_at "wn"
    refine ⟨_, rfl, by show 2 ≤ sizeLine; decide, fun T1 hT => ?_⟩
    have nbT : ad .box ≠ T1 := ne_of_none hb hT
    have nDT : ad .srcD ≠ T1 := ne_of_none (A0.at_ .srcD trivial) hT
    refine ⟨_, rfl, ad .box, C.S, dx .box, _, _, rfl, by rw [upd_ne nbT]; exact hb, T.cl, T.no _ (by decide), rfl, ?_⟩
    refine ⟨_, rfl, ad .srcD, _, rfl, DPut.k (k := Sum.inl t) (by rw [upd_ne nDT]; exact A0.at_ .srcD trivial) (by unfold entKV; rw [List.length_map, sizeLine_eq]; have := sm0.srcs; omega), ?_⟩
    obtain ⟨A1, st1⟩ := A0.unit (u := (S.unit t).1) (f := true) ht hT
    walk_at "wn"
    refine ⟨_, rfl, setA ad (.srcT t) T1 .box, dx .box, _, by rw [setA_ne (by intro z; cases z)], A1.at_ .box trivial, rfl, ?_⟩
    walk_at "wn"
    refine ⟨t, _, _, dx, by rw [setA_ne (by intro z; cases z)]; rfl, A1, ⟨sm0.que, sm0.ents, sm0.srcs, sm0.sets, sm0.nd⟩, fun H' A2 st2 => k H' _ A2 (st1.trans st2)⟩
/-! a copy onto the lowest free number -/
def spCopy (C : Cs) : Sp := fun vs H Q _ => ∃ (p n t : Int) (m : Nat), OnSys C vs H [.int p, .int n, .non] fun S ad dx => Means S p n t ∧ firstFree (S.tab p) m ∧ (S.tab p).length ≤ 1000 ∧ ∀ H', At C H' (copied S p m t) ad dx → Step H S ad H' (copied S p m t) ad → Q (.int (m : Int)) H'
theorem scCopy : FnScope ["self", "process", "number", "to", "thing", "goal", "table"] ["self", "process", "number", "to"] (defScope sCopy) := ⟨rfl, rfl, rfl, by decide +kernel, rfl, by decide +kernel, by decide +kernel⟩
theorem okCopy {dvs : List V} {kws : List (Str × V)} {f fT fN fF : Addr} {fd fdT fdN fdF : FuncData} (F : FunD K "copy" "System.copy" (defArgs sCopy) (defBody sCopy) (defScope sCopy) dvs kws f fd) (T : ClsF K C.S sysF)
    (GT : MO P w K mg base 4 C.S "thing_at" ["self", "process", "number"] (spThingAt C) fT fdT) (GN : MO P w K mg base 3 C.S "is_table_number" ["self", "number"] (spIsTabNum C) fN fdN) (GF : MO P w K mg base 4 C.S "free_number" ["self", "process"] (spFreeNum C) fF fdF) :
    FnOk P w K mg base CX0 5 f fd ["self", "process", "number", "to"] (spCopy C) := by
  refine F.ok scCopy (fun vs H Q E h => ?_) (fun cdv A outer s H vs Q E hr h => ?_)
  · obtain ⟨_, _, _, _, _, _, _, rfl, _⟩ := h
    rfl
  · obtain ⟨p, n, t, m, S, ad, dx, rfl, A0, M, hf, hl, k⟩ := h
    have hu := hu_of hr
    have hr3 : Room 3 _ := hr.mono (by decide)
    refine ⟨_, pss_cons (ps_set (i := 4) scCopy.nd rfl (Or.inl rfl) (pe_meth (pv 0) T.cl GT.m GT.g hr GT.b .nil pass0 (pa_cons (pv 1) (pa_cons (pv 2) pa_nil))))
      (pss_cons (ps_if (PW.pt (pw_and (pt_cmpR oNotN (pv 3) pe_non (nomark _)) (pw_and1 (pt_not (pt_val (pe_meth (pv 0) T.cl GN.m GN.g hr3 GN.b .nil pass0 (pa_cons (pv 3) pa_nil))))))) (pss_one ps_never) pss_nil)
      (pss_cons (ps_set (i := 5) scCopy.nd rfl (Or.inl rfl) (pe_ifExp (pt_cmpR oIsN (pv 3) pe_non (nomark _)) (pe_meth (pv 0) T.cl GF.m GF.g hr GF.b .nil pass0 (pa_cons (pv 1) pa_nil)) (pv 3)))
      (pss_cons (ps_set (i := 6) scCopy.nd rfl (Or.inl rfl) (pe_dget hu (pe_fld (pv 0) rfl) (pv 1) (fun _ _ => rfl)))
      (pss_cons (ps_if (pt_cmpR op_ne (pe_ix ix_list (pv 6) (pv 5) (fun _ _ => rfl)) (pv 4) (nomark _))
        (pss_cons (ps_if (pt_cmpR oNotN (pe_ix ix_list (pv 6) (pv 5) (fun _ _ => rfl)) pe_non (nomark _)) (pss_one ps_never) pss_nil)
        (pss_one (ps_asg (pv 4) (pg_sub (pv 6) (pv 5) set_list)))) pss_nil)
      (pss_one (ps_ret (pv 5))))))), ?_⟩
    have hb := A0.at_ .box trivial
    walk_at "wn"
    refine ⟨_, rfl, ad .box, dx .box, _, rfl, hb, rfl, ?_⟩
    walk_at "wn"
    refine ⟨p, n, t, S, ad, dx, rfl, A0, M, ?_⟩
    walk_at "wn"
    refine ⟨_, rfl, ad .box, dx .box, _, rfl, hb, rfl, ?_⟩
    walk_at "wn"
    refine ⟨p, m, S, ad, dx, rfl, A0, M.pr, hf, hl, fun H1 s1 => ?_⟩
    have A1 := A0.same s1
    have hb1 := A1.at_ .box trivial
    have ht := A1.at_ (.tab p) M.pr
    walk_at "wn"
    have hv : valV (entKV S.procs fun p => ad (.tab p)) (Sum.inl p) = some (.ref (ad (.tab p))) := by rw [ent_val, if_pos M.pr]
    refine ⟨_, rfl, ad .box, C.S, dx .box, _, _, rfl, hb1, T.cl, T.no _ (by decide), rfl, ?_⟩
    refine ⟨_, rfl, ad .tabD, _, rfl, hv ▸ DGet.k (k := Sum.inl p) (A1.at_ .tabD trivial), ?_⟩
    have hm : m < (S.tab p).length := (List.getElem?_eq_some_iff.mp hf.1).1
    have hat : atI ((S.tab p).map optV) (m : Int) = some V.non := atI_nat (by rw [List.getElem?_map, hf.1]; rfl)
    walk_at "wn"
    refine ⟨ad (.tab p), _, (m : Int), _, rfl, rfl, SqL.of ht, hat, ?_⟩
    walk_at "wn"
    rw [decide_eq_false (by intro z; cases z)]
    walk_at "wn"
    refine ⟨ad (.tab p), _, (m : Int), _, rfl, rfl, SqL.of ht, hat, ?_⟩
    walk_at "wn"
    refine ⟨ad (.tab p), _, (m : Int), m, rfl, rfl, ht, by rw [List.length_map]; exact ixN_nat hm, ?_⟩
    walk_at "wn"
    refine (fun z : At C _ _ _ _ ∧ Step _ _ _ _ _ _ => k _ z.1 ((Step.same s1).trans z.2)) ?_
    refine At.re2 [.tab p] A1 (fun c l => by cases c <;> exact l) (fun c hc => ?_) (fun c hc => ?_) (fun c hc l => ?_) (fun b o n e => ?_)
    · rw [List.mem_singleton.mp hc]
      exact M.pr
    · rw [List.mem_singleton.mp hc, upd_same]
      show _ = some (HO.lst ((if p = p then (S.tab p).set m (some t) else S.tab p).map optV))
      rw [if_pos rfl, List.map_set]
      rfl
    · cases c with
      | tab q =>
        have nq : q ≠ p := fun z => hc (by rw [z]; simp)
        show HO.lst ((if q = p then (S.tab p).set m (some t) else S.tab q).map optV) = _
        rw [if_neg nq]
        rfl
      | _ => rfl
    · rw [upd_ne (n (.tab p) (by simp))]
      exact e
end
end Wn

namespace Wn
open PySem PySem.Spec PyProof.Rows L2 Evl
local macro_rules | `(tactic| walk_at "wn1") => `(tactic| first | ((with_reducible show (if (!decide _) = true then _ else _)); refine' g_nes ?_) | ((with_reducible show (if (decide _) = true then _ else _)); refine' g_es ?_) | with_reducible first
  | (refine' g_var ?h ?q; (case h => with_unfolding_all rfl))
  | refine' g_c ?_ | refine' g_op ?_ | refine' g_rI0 ?_ | refine' g_asg ?_ | refine' g_name ?_ | refine' g_seq ?_ | refine' g_ret ?_ | refine' g_retN ?_ | refine' g_next ?_ | refine' g_drop ?_
  | refine' g_nil ?_ | refine' g_cons ?_ | refine' g_cb ?_ | refine' g_test ?_ | refine' g_bl ?_ | refine' g_if ?_ | refine' g_ifs ?_ | refine' g_not ?_ | refine' g_part ?_ | refine' g_pint ?_ | refine' g_nopart ?_ | refine' g_call ?_
  | (refine' g_mul ?h ?q; (case h => with_unfolding_all first | exact Or.inl ⟨by decide, by decide⟩ | exact Or.inr ⟨by decide, by decide⟩ | exact Or.inl ⟨by omega, by omega⟩ | exact Or.inr ⟨by omega, by omega⟩))
  | (refine' g_mod ?h ?q; (case h => with_unfolding_all first | decide | omega))
  | refine' g_rIsN ?_ | refine' g_rNotN ?_ | refine' g_max2 ?_ | refine' g_min2 ?_ | refine' g_and ?_ | refine' g_or ?_ | refine' g_orV ?_ | refine' g_andV ?_ | refine' g_notV ?_ | refine' g_m1 ?_ | refine' g_yes ?_ | refine' g_bm ?_ | refine' g_bm0 ?_
  | (refine' g_tyL ?h ?q; (case h => first | assumption | exact upd_same))
  | refine' g_m0 ?_ | refine' g_tB ?_ | refine' g_isS ?_ | refine' g_bT ?_ | refine' g_bF ?_ | refine' g_bNT ?_ | refine' g_callK ?_ | refine' g_bNF ?_
  | (refine' g_lenL ?h ?q; (case h => first | assumption | exact upd_same))
  | refine' g_un ?_ | refine' g_rint _ ?_ | refine' g_rabs ?_ | refine' g_sl ?_ 
  | (refine' g_ixL ?h ?a ?q; (case h => first | assumption | exact upd_same); (case a => with_unfolding_all rfl))
  | (refine' g_div ?h0 ?h1 ?q; (case h0 => with_unfolding_all first | decide | omega); (case h1 => with_unfolding_all first | decide | omega))
  | refine' g_sub ?_
  | (refine' g_setL ?h ?a ?q; (case h => first | assumption | exact upd_same); (case a => with_unfolding_all rfl))
  | refine' g_lst ?_ | refine' g_tup ?_
  | (refine' g_rEq ?h ?q; (case h => with_unfolding_all rfl)) | (refine' g_rNe ?h ?q; (case h => with_unfolding_all rfl)))
local macro_rules | `(tactic| walk_at "wn") => `(tactic| repeat walk_at "wn1")

abbrev sLabels : Stmt := top 36
abbrev sWaits : Stmt := top 37
abbrev sLaw : Stmt := top 38
/-! data of ints and of reports -/
theorem dp_ints {K : PySem.W.Frag} {H : Hp} : ∀ l : List Int, DpAll K H (l.map V.int) (l.map PyData.int)
  | [] => .nil
  | _ :: l => .cons (.int _) (dp_ints l)
theorem ints_lay : ∀ l : List Int, PyData.canLayAll0 (l.map PyData.int) = true ∧ PyData.depthAll (l.map PyData.int) = 0
  | [] => ⟨rfl, rfl⟩
  | c :: l => by
    obtain ⟨a, b⟩ := ints_lay l
    refine ⟨?_, ?_⟩
    · simp only [List.map_cons, PyData.canLayAll0, a, Bool.and_true, PyData.canLay0]
    · simp only [List.map_cons, PyData.depthAll, b, PyData.depth]
      rfl
theorem ints_shaped (l : List Int) : SeqAt.shaped (.list (l.map PyData.int)) = true := by
  obtain ⟨a, b⟩ := ints_lay l
  unfold SeqAt.shaped
  rw [Bool.and_eq_true]
  refine ⟨by simp only [PyData.canLay0]; exact a, decide_eq_true ?_⟩
  simp only [PyData.depth, b]
  decide
theorem ints_nil (l : List Int) : PyData.eqv (.list (l.map PyData.int)) (.list []) = l.isEmpty := by
  cases l with
  | nil => rfl
  | cons a b => rfl
def repD (r : Int × Int × Bool) : PyData := .tuple [.int r.1, .int r.2.1, .bool r.2.2]
theorem reps_lay : ∀ l : List (Int × Int × Bool), PyData.canLayAll0 (l.map repD) = true ∧ PyData.depthAll (l.map repD) ≤ 1
  | [] => ⟨rfl, Nat.zero_le _⟩
  | c :: l => by
    obtain ⟨a, b⟩ := reps_lay l
    refine ⟨?_, ?_⟩
    · simp only [List.map_cons, PyData.canLayAll0, a, Bool.and_true, repD, PyData.canLay0]
    · simp only [List.map_cons, PyData.depthAll, repD, PyData.depth]
      omega
theorem reps_shaped (l : List (Int × Int × Bool)) : SeqAt.shaped (.list (l.map repD)) = true := by
  obtain ⟨a, b⟩ := reps_lay l
  unfold SeqAt.shaped
  rw [Bool.and_eq_true]
  refine ⟨by simp only [PyData.canLay0]; exact a, decide_eq_true ?_⟩
  simp only [PyData.depth]
  omega
theorem dp_reps {K : PySem.W.Frag} {H : Hp} {vs : List V} {l : List (Int × Int × Bool)} (p : Paired (RepAt H) vs l) : DpAll K H vs (l.map repD) := by
  induction p with
  | nil => exact .nil
  | cons r _ ih =>
    obtain ⟨t, rfl, e⟩ := r
    exact .cons (.tup (SqT.of e) (.cons (.int _) (.cons (.int _) (.cons (.bl _) .nil)))) ih
section
variable {K : PySem.W.Frag} {H : Hp} {a b : Addr} {Q : VK}
theorem q_neInts {l : List Int} (h1 : H a = some (.lst (l.map V.int))) (h2 : H b = some (.lst (l.map V.int))) (k : Q (.bl false) H) : rNeD K (.ref a) (.ref b) H Q := by
  refine ⟨_, _, .lst (SqL.of h1) (dp_ints l), .lst (SqL.of h2) (dp_ints l), ints_shaped l, ints_shaped l, ?_⟩
  rw [PySem.SeqAt.eqv_refl _ (SeqAt.canLay_of_shaped (ints_shaped l))]
  exact k
theorem q_eqInts {l : List Int} (h1 : H a = some (.lst (l.map V.int))) (h2 : H b = some (.lst (l.map V.int))) (k : Q (.bl true) H) : rEqD K (.ref a) (.ref b) H Q := by
  refine ⟨_, _, .lst (SqL.of h1) (dp_ints l), .lst (SqL.of h2) (dp_ints l), ints_shaped l, ints_shaped l, ?_⟩
  rw [PySem.SeqAt.eqv_refl _ (SeqAt.canLay_of_shaped (ints_shaped l))]
  exact k
theorem q_neNil {l : List Int} (h1 : H a = some (.lst (l.map V.int))) (h2 : H b = some (.lst [])) (k : Q (.bl (!l.isEmpty)) H) : rNeD K (.ref a) (.ref b) H Q := by
  refine ⟨_, _, .lst (SqL.of h1) (dp_ints l), .lst (SqL.of h2) .nil, ints_shaped l, rfl, ?_⟩
  rw [ints_nil]
  exact k
theorem q_eqReps {vs ws : List V} {l : List (Int × Int × Bool)} (h1 : H a = some (.lst vs)) (p1 : Paired (RepAt H) vs l) (h2 : H b = some (.lst ws)) (p2 : Paired (RepAt H) ws l) (k : Q (.bl true) H) : rEqD K (.ref a) (.ref b) H Q := by
  refine ⟨_, _, .lst (SqL.of h1) (dp_reps p1), .lst (SqL.of h2) (dp_reps p2), reps_shaped l, reps_shaped l, ?_⟩
  rw [PySem.SeqAt.eqv_refl _ (SeqAt.canLay_of_shaped (reps_shaped l))]
  exact k
end
section
variable {K : PySem.W.Frag} {H : Hp} {a b : Addr} {Q : VK}
theorem q_neReps {vs ws : List V} {l : List (Int × Int × Bool)} (h1 : H a = some (.lst vs)) (p1 : Paired (RepAt H) vs l) (h2 : H b = some (.lst ws)) (p2 : Paired (RepAt H) ws l) (k : Q (.bl false) H) : rNeD K (.ref a) (.ref b) H Q := by
  refine ⟨_, _, .lst (SqL.of h1) (dp_reps p1), .lst (SqL.of h2) (dp_reps p2), reps_shaped l, reps_shaped l, ?_⟩
  rw [PySem.SeqAt.eqv_refl _ (SeqAt.canLay_of_shaped (reps_shaped l))]
  exact k
end
structure LawTx (mg : Str → Option Value) : Prop where
  range : mg "range" = none
  max : mg "max" = none
  min : mg "min" = none
  len : mg "len" = none
  list : mg "list" = none
  sorted : mg "sorted" = none
def usF (us : List Int) : Int → Int := fun l => us.getD l.toNat 0
theorem nodup_le : ∀ (n : Nat) {l : List Int}, l.Nodup → (∀ x ∈ l, 0 ≤ x ∧ x.toNat < n) → l.length ≤ n
  | 0, l, _, h => by
    cases l with
    | nil => exact Nat.le_refl _
    | cons x l => exact absurd (h x List.mem_cons_self).2 (Nat.not_lt_zero _)
  | n + 1, l, nd, h => by
    by_cases hn : (n : Int) ∈ l
    · have e1 := List.length_erase_of_mem hn
      have ih := nodup_le n (nd.erase (n : Int)) fun x hx => by
        have hm := (List.Nodup.mem_erase_iff nd).mp hx
        have h1 := h x hm.2
        refine ⟨h1.1, ?_⟩
        have : x ≠ (n : Int) := hm.1
        omega
      omega
    · have ih := nodup_le n nd fun x hx => by
        have h1 := h x hx
        refine ⟨h1.1, ?_⟩
        have : x ≠ (n : Int) := fun z => hn (z ▸ hx)
        omega
      omega
theorem qAdd_idem (l : Int) (qs : List Int) : qAdd l (qAdd l qs) = qAdd l qs := by
  have : l ∈ qAdd l qs := by
    unfold qAdd
    split
    · assumption
    · simp
  exact (if_pos this : (if l ∈ qAdd l qs then qAdd l qs else qAdd l qs ++ [l]) = qAdd l qs)
theorem notice_one {reg : Int → Reg} {t l : Int} : ∀ {ls qs : List Int}, (∀ x ∈ ls, ((reg x).src = t ∧ (reg x).armed = true) ↔ x = l) → noticeQ reg t ls qs = if l ∈ ls then qAdd l qs else qs
  | [], qs, _ => by simp [noticeQ]
  | x :: ls, qs, h => by
    show noticeQ reg t ls (if (reg x).src = t ∧ (reg x).armed = true then qAdd x qs else qs) = _
    rw [notice_one fun y hy => h y (List.mem_cons_of_mem _ hy)]
    have hx := h x List.mem_cons_self
    by_cases e : x = l
    · rw [if_pos (hx.mpr e), e, if_pos List.mem_cons_self]
      split
      · exact qAdd_idem l qs
      · rfl
    · rw [if_neg fun z => e (hx.mp z)]
      by_cases hl : l ∈ ls
      · rw [if_pos hl, if_pos (List.mem_cons_of_mem _ hl)]
      · rw [if_neg hl, if_neg fun z => (List.mem_cons.mp z).elim (fun w => e w.symm) hl]
theorem usF_set {us : List Int} {l j v : Int} (h0 : 0 ≤ l) (hl : l.toNat < us.length) (hj : 0 ≤ j) : usF (us.set l.toNat v) j = if j = l then v else usF us j := by
  unfold usF
  rw [List.getD_eq_getElem?_getD, List.getD_eq_getElem?_getD, List.getElem?_set]
  by_cases e : j = l
  · rw [if_pos e, if_pos (by rw [e]), if_pos hl]
    rfl
  · rw [if_neg e, if_neg (by omega)]
theorem usF_neg {us : List Int} {l v : Int} {j : Int} (hj : ¬ 0 ≤ j) : usF (us.set l.toNat v) j = usF us j ∨ usF (us.set l.toNat v) j = v := by
  unfold usF
  rw [List.getD_eq_getElem?_getD, List.getD_eq_getElem?_getD, List.getElem?_set]
  by_cases e : l.toNat = j.toNat
  · rw [if_pos e]
    by_cases h : l.toNat < us.length
    · rw [if_pos h]
      exact .inr rfl
    · rw [if_neg h]
      refine .inl ?_
      rw [List.getElem?_eq_none (by omega)]
  · rw [if_neg e]
    exact .inl rfl
section
variable {C : Cs} {Hb H H1 H' : Hp} {S S1 : Sys} {ad ad1 dx dx1 : Cell → Addr} {p box ul rr r b : Addr}
theorem Step.not (st : Step H S ad H1 S1 ad1) {o : HO} (h : H b = some o) (n : ¬ own S ad b) : ¬ own S1 ad1 b := fun z => (st.new b z).elim n fun y => by
  rw [h] at y
  cases y
end
theorem Dr.same {p : Addr} {H H' : Hp} (b : BagAt H p) (e : Same H H') : Dr p H H' := ⟨fun a o _ h => e a o h, by
  obtain ⟨x, y, h, r⟩ := b
  exact ⟨x, y, e _ _ h, r⟩⟩
theorem At.rep_not {C : Cs} {H : Hp} {S : Sys} {ad dx : Cell → Addr} (A : At C H S ad dx) {t : Addr} {x y z : V} (h : H t = some (.tup [x, y, z])) : ¬ own S ad t := fun ⟨c, hc, e⟩ => by
  have q := A.at_ c hc
  rw [e, h] at q
  cases c <;> cases q
theorem reps_keep' {H H' : Hp} {vs : List V} {rs : List (Int × Int × Bool)} (p : Paired (RepAt H) vs rs) (k : ∀ b x y z, H b = some (.tup [x, y, z]) → H' b = some (.tup [x, y, z])) : Paired (RepAt H') vs rs := by
  induction p with
  | nil => exact .nil
  | cons r _ ih =>
    obtain ⟨t, e1, e2⟩ := r
    exact .cons ⟨t, e1, k _ _ _ _ e2⟩ ih
theorem BagAt.ne' {H : Hp} {p l : Addr} (b : BagAt H p) (h : H l = none) : l ≠ p := fun z => by
  obtain ⟨x, y, e, _⟩ := b
  rw [← z, h] at e
  cases e
theorem BagAt.some {H : Hp} {p : Addr} (b : BagAt H p) : ∃ o, H p = some o := by
  obtain ⟨x, y, e, _⟩ := b
  exact ⟨_, e⟩
/-- a method whose last arguments have defaults -/
structure MD (P : Program) (w : World) (K : PySem.W.Frag) (mg : Str → Option Value) (base : Heap) (k : Nat) (C : Addr) (m : Str) (ps : List Str) (sp : Sp) (f : Addr) (fd : FuncData) (ds : List Value) (dvs : List V) : Prop where
  g : FnOk P w K mg base CX0 k f fd ps sp
  m : Meth K C m f
  b : Binds K fd ps ds
  d : Vals dvs ds
theorem Dr.draw {p : Addr} {H H' : Hp} (e : ∀ b, b ≠ p → H' b = H b) (b : BagAt H' p) : Dr p H H' := ⟨fun a o n h => (e a n).trans h, b⟩
theorem Same.dr {p : Addr} {H H1 H2 : Hp} (n : H p = none) (s : Same H H1) (d : Dr p H1 H2) : Same H H2 := fun a o e => d.1 a o (fun z => by rw [z, n] at e; cases e) (s a o e)
theorem erase_mid {α : Type} (l : α) (B : List α) : ∀ A : List α, (A ++ l :: B).eraseIdx A.length = A ++ B
  | [] => rfl
  | a :: A => by
    show a :: (A ++ l :: B).eraseIdx A.length = _
    rw [erase_mid l B A]
    rfl
theorem split_at : ∀ {n : Nat} {xs : List Int}, n < xs.length → ∃ A l B, xs = A ++ l :: B ∧ A.length = n
  | 0, x :: xs, _ => ⟨[], x, xs, rfl, rfl⟩
  | n + 1, x :: xs, h => by
    obtain ⟨A, l, B, e, hA⟩ := split_at (n := n) (xs := xs) (Nat.lt_of_succ_lt_succ h)
    exact ⟨x :: A, l, B, by rw [e]; rfl, by rw [← hA]; rfl⟩
theorem rgV_ints (n : Nat) : rgV 0 (n : Int) = ((List.range n).map fun j : Nat => (j : Int)).map V.int := by
  unfold rgV
  have e : ((n : Int) - 0).toNat = n := by omega
  rw [e, List.map_map]
  refine List.map_congr_left fun j _ => ?_
  show V.int (0 + (j : Int)) = V.int (j : Int)
  rw [Int.zero_add]
theorem zeros_flat (n : Nat) : (List.replicate n [V.int 0]).flatten = (List.replicate n (0 : Int)).map V.int := by
  rw [List.map_replicate]
  induction n with
  | zero => rfl
  | succ n ih =>
    rw [List.replicate_succ, List.flatten_cons, ih]
    rfl
/-- a method called with keywords -/
structure MW (P : Program) (w : World) (K : PySem.W.Frag) (mg : Str → Option Value) (base : Heap) (k : Nat) (C : Addr) (m : Str) (ps : List Str) (sp : Sp) (f : Addr) (fd : FuncData) (n : Nat) (ks : List Str) (gg : List Value → List Value → List Value) (gV : List V → List V → List V) : Prop where
  g : FnOk P w K mg base CX0 k f fd ps sp
  m : Meth K C m f
  b : KBn K fd ps n ks gg gV
theorem mem_qAdd {k x : Int} {l : List Int} : x ∈ qAdd k l ↔ x ∈ l ∨ x = k := by
  unfold qAdd
  by_cases h : k ∈ l
  · rw [if_pos h]
    exact ⟨.inl, fun z => z.elim id fun e => by rw [e]; exact h⟩
  · rw [if_neg h, List.mem_append, List.mem_singleton]
theorem nodup_qAdd {k : Int} {l : List Int} (h : l.Nodup) : (qAdd k l).Nodup := by
  unfold qAdd
  by_cases z : k ∈ l
  · rw [if_pos z]
    exact h
  · rw [if_neg z, List.nodup_append]
    exact ⟨h, by simp, fun a ha b hb => by rw [List.mem_singleton.mp hb]; exact fun e => z (e ▸ ha)⟩
end Wn

namespace Wn
open PySem PySem.Spec PyProof.Rows L2 Evl
local macro_rules | `(tactic| walk_at "wn1") => `(tactic| first | ((with_reducible show (if (!decide _) = true then _ else _)); refine' g_nes ?_) | ((with_reducible show (if (decide _) = true then _ else _)); refine' g_es ?_) | with_reducible first
  | (refine' g_var ?h ?q; (case h => with_unfolding_all rfl))
  | refine' g_c ?_ | refine' g_op ?_ | refine' g_rI0 ?_ | refine' g_asg ?_ | refine' g_name ?_ | refine' g_seq ?_ | refine' g_ret ?_ | refine' g_retN ?_ | refine' g_next ?_ | refine' g_drop ?_
  | refine' g_nil ?_ | refine' g_cons ?_ | refine' g_cb ?_ | refine' g_test ?_ | refine' g_bl ?_ | refine' g_if ?_ | refine' g_ifs ?_ | refine' g_not ?_ | refine' g_part ?_ | refine' g_pint ?_ | refine' g_nopart ?_ | refine' g_call ?_
  | (refine' g_mul ?h ?q; (case h => with_unfolding_all first | exact Or.inl ⟨by decide, by decide⟩ | exact Or.inr ⟨by decide, by decide⟩ | exact Or.inl ⟨by omega, by omega⟩ | exact Or.inr ⟨by omega, by omega⟩))
  | (refine' g_mod ?h ?q; (case h => with_unfolding_all first | decide | omega))
  | refine' g_rIsN ?_ | refine' g_rNotN ?_ | refine' g_max2 ?_ | refine' g_min2 ?_ | refine' g_and ?_ | refine' g_or ?_ | refine' g_orV ?_ | refine' g_andV ?_ | refine' g_notV ?_ | refine' g_m1 ?_ | refine' g_yes ?_ | refine' g_bm ?_ | refine' g_bm0 ?_
  | (refine' g_tyL ?h ?q; (case h => first | assumption | exact upd_same))
  | refine' g_m0 ?_ | refine' g_tB ?_ | refine' g_isS ?_ | refine' g_bT ?_ | refine' g_bF ?_ | refine' g_bNT ?_ | refine' g_callK ?_ | refine' g_bNF ?_
  | (refine' g_lenL ?h ?q; (case h => first | assumption | exact upd_same))
  | refine' g_un ?_ | refine' g_rint _ ?_ | refine' g_rabs ?_ | refine' g_sl ?_ 
  | (refine' g_ixL ?h ?a ?q; (case h => first | assumption | exact upd_same); (case a => with_unfolding_all rfl))
  | (refine' g_div ?h0 ?h1 ?q; (case h0 => with_unfolding_all first | decide | omega); (case h1 => with_unfolding_all first | decide | omega))
  | refine' g_sub ?_
  | (refine' g_setL ?h ?a ?q; (case h => first | assumption | exact upd_same); (case a => with_unfolding_all rfl))
  | refine' g_lst ?_ | refine' g_tup ?_
  | (refine' g_rEq ?h ?q; (case h => with_unfolding_all rfl)) | (refine' g_rNe ?h ?q; (case h => with_unfolding_all rfl)))
local macro_rules | `(tactic| walk_at "wn") => `(tactic| repeat walk_at "wn1")

/-! the law's picture: one source (0) at 0, 1, 2, a set (1) at 3, a set (2) at 4 -/
structure Pic (S : Sys) (wd : Int → Str) (u : Int) (fin : Bool) (e q e2 q2 : List Int) : Prop where
  sets : S.sets = [1, 2]
  srcs : S.srcs = [0]
  mn : ∀ n : Int, 0 ≤ n → n ≤ 2 → Means S 0 n 0
  m3 : Means S 0 3 1
  m4 : Means S 0 4 2
  unit : S.unit 0 = (u, fin)
  ents : S.ents 1 = e
  que : S.que 1 = q
  reg : ∀ l ∈ e, (S.reg 1 l).num = l ∧ (S.reg 1 l).src = 0 ∧ (S.reg 1 l).word = wd l
  en : e.Nodup
  el : ∀ l ∈ e, 0 ≤ l ∧ l.toNat < 3
  qn : q.Nodup
  qe : ∀ l ∈ q, l ∈ e
  ents2 : S.ents 2 = e2
  que2 : S.que 2 = q2
  reg2 : ∀ l ∈ e2, (S.reg 2 l).num = l ∧ (S.reg 2 l).src = 0 ∧ (S.reg 2 l).word = wd l
  en2 : e2.Nodup
  el2 : ∀ l ∈ e2, 0 ≤ l ∧ l.toNat < 3
  qn2 : q2.Nodup
  qe2 : ∀ l ∈ q2, l ∈ e2
def Armed (S : Sys) : Prop := ∀ l ∈ S.ents 1, (S.reg 1 l).armed = true
theorem means_eq {S S' : Sys} {p n t : Int} (h : Means S p n t) (e1 : S'.procs = S.procs) (e2 : S'.N = S.N) (e3 : S'.tab = S.tab) : Means S' p n t := ⟨by rw [e1]; exact h.pr, h.lo, by rw [e2]; exact h.hi, by rw [e3]; exact h.at_⟩
section
variable {S : Sys} {wd : Int → Str} {u : Int} {fin : Bool} {e q e2 q2 : List Int}
theorem Pic.small (F : Pic S wd u fin e q e2 q2) : Small S := by
  have h1 := nodup_le 3 F.en F.el
  have h2 := nodup_le 3 F.qn fun x hx => F.el x (F.qe x hx)
  have h3 := nodup_le 3 F.en2 F.el2
  have h4 := nodup_le 3 F.qn2 fun x hx => F.el2 x (F.qe2 x hx)
  refine ⟨fun s hs => ?_, fun s hs => ?_, by rw [F.srcs]; decide, by rw [F.sets]; decide, by rw [F.sets]; decide⟩
  · rw [F.sets] at hs
    simp only [List.mem_cons, List.not_mem_nil, or_false] at hs
    rcases hs with rfl | rfl
    · rw [F.que]
      omega
    · rw [F.que2]
      omega
  · rw [F.sets] at hs
    simp only [List.mem_cons, List.not_mem_nil, or_false] at hs
    rcases hs with rfl | rfl
    · rw [F.ents]
      omega
    · rw [F.ents2]
      omega
theorem Pic.s1 (F : Pic S wd u fin e q e2 q2) : (1 : Int) ∈ S.sets := by rw [F.sets]; decide
theorem Pic.s2 (F : Pic S wd u fin e q e2 q2) : (2 : Int) ∈ S.sets := by rw [F.sets]; decide
theorem Pic.s0 (F : Pic S wd u fin e q e2 q2) : (0 : Int) ∈ S.srcs := by rw [F.srcs]; decide
theorem find_one {reg : Int → Reg} {ls : List Int} (h : ∀ l ∈ ls, (reg l).num = l ∧ (reg l).src = 0) (k : Int) : ls.find? (keyOf reg k 0) = if k ∈ ls then some k else none := by
  have key : ∀ l ∈ ls, keyOf reg k 0 l = decide (l = k) := fun l hl => by
    unfold keyOf
    rw [(h l hl).1, (h l hl).2]
    simp
  cases hf : ls.find? (keyOf reg k 0) with
  | none =>
    by_cases hk : k ∈ ls
    · have := List.find?_eq_none.mp hf k hk
      rw [key k hk] at this
      exact absurd (decide_eq_true rfl) this
    · rw [if_neg hk]
  | some l =>
    have hl := List.mem_of_find?_eq_some hf
    have := List.find?_some hf
    rw [key l hl] at this
    have e := of_decide_eq_true this
    rw [e] at hl ⊢
    rw [if_pos hl]
theorem Pic.find (F : Pic S wd u fin e q e2 q2) (k : Int) : (S.ents 1).find? (keyOf (S.reg 1) k 0) = if k ∈ e then some k else none := by
  rw [F.ents]
  exact find_one (fun l hl => ⟨(F.reg l hl).1, (F.reg l hl).2.1⟩) k
theorem Pic.find2 (F : Pic S wd u fin e q e2 q2) (k : Int) : (S.ents 2).find? (keyOf (S.reg 2) k 0) = if k ∈ e2 then some k else none := by
  rw [F.ents2]
  exact find_one (fun l hl => ⟨(F.reg2 l hl).1, (F.reg2 l hl).2.1⟩) k
theorem nodup_add {l : List Int} {k : Int} (h : l.Nodup) (n : k ∉ l) : (l ++ [k]).Nodup := by
  rw [List.nodup_append]
  exact ⟨h, by simp, fun a ha b hb => by rw [List.mem_singleton.mp hb]; exact fun e => n (e ▸ ha)⟩
theorem mem_add {l : List Int} {k x : Int} : x ∈ l ++ [k] ↔ x ∈ l ∨ x = k := by rw [List.mem_append, List.mem_singleton]
theorem Pic.add (F : Pic S wd u fin e q e2 q2) {k : Int} (k0 : 0 ≤ k) (k1 : k.toNat < 3) (nk : k ∉ e) : Pic (added S 1 k ⟨k, 0, wd k, true⟩) wd u fin (e ++ [k]) (if Wn.ready S 0 = true then q ++ [k] else q) e2 q2 := by
  have nq : k ∉ q := fun z => nk (F.qe k z)
  refine ⟨F.sets, F.srcs, fun n a b => means_eq (F.mn n a b) rfl rfl rfl, means_eq F.m3 rfl rfl rfl, means_eq F.m4 rfl rfl rfl, F.unit, ?_, ?_, fun l hl => ?_, nodup_add F.en nk, fun l hl => ?_, ?_, fun l hl => ?_, F.ents2, F.que2, fun l hl => ?_, F.en2, F.el2, F.qn2, F.qe2⟩
  · show (if (1 : Int) = 1 then S.ents 1 ++ [k] else S.ents 1) = _
    rw [if_pos rfl, F.ents]
  · show (if (1 : Int) = 1 then (if Wn.ready S 0 = true then qAdd k (S.que 1) else S.que 1) else S.que 1) = _
    rw [if_pos rfl, F.que]
    have : qAdd k q = q ++ [k] := if_neg nq
    rw [this]
  · show (if (1 : Int) = 1 ∧ l = k then (⟨k, 0, wd k, true⟩ : Reg) else S.reg 1 l).num = l ∧ (if (1 : Int) = 1 ∧ l = k then (⟨k, 0, wd k, true⟩ : Reg) else S.reg 1 l).src = 0 ∧ (if (1 : Int) = 1 ∧ l = k then (⟨k, 0, wd k, true⟩ : Reg) else S.reg 1 l).word = wd l
    by_cases h : l = k
    · rw [if_pos ⟨rfl, h⟩, h]
      exact ⟨rfl, rfl, rfl⟩
    · rw [if_neg fun z => h z.2]
      exact F.reg l ((mem_add.mp hl).resolve_right h)
  · rcases mem_add.mp hl with y | y
    · exact F.el l y
    · rw [y]
      exact ⟨k0, k1⟩
  · split
    · exact nodup_add F.qn nq
    · exact F.qn
  · split at hl
    · rcases mem_add.mp hl with y | y
      · exact mem_add.mpr (.inl (F.qe l y))
      · exact mem_add.mpr (.inr y)
    · exact mem_add.mpr (.inl (F.qe l hl))
  · show (if (2 : Int) = 1 ∧ l = k then (⟨k, 0, wd k, true⟩ : Reg) else S.reg 2 l).num = l ∧ (if (2 : Int) = 1 ∧ l = k then (⟨k, 0, wd k, true⟩ : Reg) else S.reg 2 l).src = 0 ∧ (if (2 : Int) = 1 ∧ l = k then (⟨k, 0, wd k, true⟩ : Reg) else S.reg 2 l).word = wd l
    rw [if_neg fun z => absurd z.1 (by decide)]
    exact F.reg2 l hl
theorem Armed.add {k : Int} {n t : Int} {w : Str} (h : Armed S) : Armed (added S 1 k ⟨n, t, w, true⟩) := fun l hl => by
  have hl : l ∈ (if (1 : Int) = 1 then S.ents 1 ++ [k] else S.ents 1) := hl
  rw [if_pos rfl] at hl
  show (if (1 : Int) = 1 ∧ l = k then (⟨n, t, w, true⟩ : Reg) else S.reg 1 l).armed = true
  by_cases z : l = k
  · rw [if_pos ⟨rfl, z⟩]
  · rw [if_neg fun y => z y.2]
    exact h l ((mem_add.mp hl).resolve_right z)
theorem notice_all {reg : Int → Reg} {t : Int} : ∀ {ls qs : List Int}, (∀ x ∈ ls, (reg x).src = t ∧ (reg x).armed = true) → noticeQ reg t ls qs = ls.foldl (fun acc l => qAdd l acc) qs
  | [], qs, _ => rfl
  | x :: ls, qs, h => by
    show noticeQ reg t ls (if (reg x).src = t ∧ (reg x).armed = true then qAdd x qs else qs) = _
    rw [if_pos (h x List.mem_cons_self), notice_all fun y hy => h y (List.mem_cons_of_mem _ hy)]
    rfl
theorem fold_new : ∀ {ls qs : List Int}, (qs ++ ls).Nodup → ls.foldl (fun acc l => qAdd l acc) qs = qs ++ ls
  | [], qs, _ => (List.append_nil qs).symm
  | x :: ls, qs, h => by
    have nx : x ∉ qs := fun z => (List.nodup_append.mp h).2.2 x z x List.mem_cons_self rfl
    have e : qAdd x qs = qs ++ [x] := if_neg nx
    show ls.foldl _ (qAdd x qs) = _
    rw [e, fold_new (by rw [List.append_assoc]; exact h), List.append_assoc]
    rfl
theorem fold_old : ∀ {ls qs : List Int}, (∀ x ∈ ls, x ∈ qs) → ls.foldl (fun acc l => qAdd l acc) qs = qs
  | [], qs, _ => rfl
  | x :: ls, qs, h => by
    have e : qAdd x qs = qs := if_pos (h x List.mem_cons_self)
    show ls.foldl _ (qAdd x qs) = _
    rw [e, fold_old fun y hy => h y (List.mem_cons_of_mem _ hy)]
/-- units arrive, or the source finishes; nothing or all was pending -/
theorem Pic.told (F : Pic S wd u fin e q [] []) (ha : Armed S) (hq : q = [] ∨ q = e) (v : Int) (b : Bool) : Pic (notified (withUnit S 0 v b) 0) wd v b e e [] [] := by
  refine ⟨F.sets, F.srcs, fun n a b => means_eq (F.mn n a b) rfl rfl rfl, means_eq F.m3 rfl rfl rfl, means_eq F.m4 rfl rfl rfl, ?_, F.ents, ?_, F.reg, F.en, F.el, F.en, fun l hl => hl, F.ents2, ?_, F.reg2, F.en2, F.el2, F.qn2, F.qe2⟩
  · show (if (0 : Int) = 0 then (v, b) else S.unit 0) = _
    rw [if_pos rfl]
  · show (if (1 : Int) ∈ S.sets then noticeQ (S.reg 1) 0 (S.ents 1) (S.que 1) else S.que 1) = _
    rw [if_pos F.s1, notice_all fun x hx => ⟨(F.reg x (by rw [← F.ents]; exact hx)).2.1, ha x hx⟩, F.ents, F.que]
    rcases hq with h | h
    · rw [h]
      exact fold_new (by rw [List.nil_append]; exact F.en)
    · rw [h]
      exact fold_old fun x hx => hx
  · show (if (2 : Int) ∈ S.sets then noticeQ (S.reg 2) 0 (S.ents 2) (S.que 2) else S.que 2) = _
    rw [if_pos F.s2, F.ents2, F.que2]
    rfl
theorem Armed.told {v : Int} {b : Bool} (h : Armed S) : Armed (notified (withUnit S 0 v b) 0) := h
theorem Pic.ready (F : Pic S wd u true e q e2 q2) : Wn.ready S 0 = true := by
  unfold Wn.ready
  rw [F.unit]
  exact Bool.or_true _
theorem Pic.read (F : Pic S wd u fin e q e2 q2) : Pic (readS S 0 none) wd 0 fin e q e2 q2 := by
  refine ⟨F.sets, F.srcs, fun n a b => means_eq (F.mn n a b) rfl rfl rfl, means_eq F.m3 rfl rfl rfl, means_eq F.m4 rfl rfl rfl, ?_, F.ents, F.que, F.reg, F.en, F.el, F.qn, F.qe, F.ents2, F.que2, F.reg2, F.en2, F.el2, F.qn2, F.qe2⟩
  show (if (0 : Int) = 0 then ((S.unit 0).1 - taken (S.unit 0).1 none, (S.unit 0).2) else S.unit 0) = _
  rw [if_pos rfl, F.unit]
  show (u - u, fin) = _
  rw [Int.sub_self]
theorem Pic.change (F : Pic S wd u true e q e2 q2) {k : Int} (hk : k ∈ e) : Pic (changed S 1 k ⟨k, 0, wd k, true⟩) wd u true e (qAdd k q) e2 q2 := by
  refine ⟨F.sets, F.srcs, fun n a b => means_eq (F.mn n a b) rfl rfl rfl, means_eq F.m3 rfl rfl rfl, means_eq F.m4 rfl rfl rfl, F.unit, F.ents, ?_, fun l hl => ?_, F.en, F.el, nodup_qAdd F.qn, fun l hl => ?_, F.ents2, F.que2, fun l hl => ?_, F.en2, F.el2, F.qn2, F.qe2⟩
  · show (if (1 : Int) = 1 then (if Wn.ready S 0 = true then qAdd k (S.que 1) else S.que 1) else S.que 1) = _
    rw [if_pos rfl, if_pos F.ready, F.que]
  · show (if (1 : Int) = 1 ∧ l = k then (⟨k, 0, wd k, true⟩ : Reg) else S.reg 1 l).num = l ∧ (if (1 : Int) = 1 ∧ l = k then (⟨k, 0, wd k, true⟩ : Reg) else S.reg 1 l).src = 0 ∧ (if (1 : Int) = 1 ∧ l = k then (⟨k, 0, wd k, true⟩ : Reg) else S.reg 1 l).word = wd l
    by_cases h : l = k
    · rw [if_pos ⟨rfl, h⟩, h]
      exact ⟨rfl, rfl, rfl⟩
    · rw [if_neg fun z => h z.2]
      exact F.reg l hl
  · rcases mem_qAdd.mp hl with y | y
    · exact F.qe l y
    · rw [y]
      exact hk
  · show (if (2 : Int) = 1 ∧ l = k then (⟨k, 0, wd k, true⟩ : Reg) else S.reg 2 l).num = l ∧ (if (2 : Int) = 1 ∧ l = k then (⟨k, 0, wd k, true⟩ : Reg) else S.reg 2 l).src = 0 ∧ (if (2 : Int) = 1 ∧ l = k then (⟨k, 0, wd k, true⟩ : Reg) else S.reg 2 l).word = wd l
    rw [if_neg fun z => absurd z.1 (by decide)]
    exact F.reg2 l hl
theorem Pic.add2 (F : Pic S wd u true e q e2 q2) {k : Int} (k0 : 0 ≤ k) (k1 : k.toNat < 3) (nk : k ∉ e2) : Pic (added S 2 k ⟨k, 0, wd k, true⟩) wd u true e q (e2 ++ [k]) (q2 ++ [k]) := by
  have nq : k ∉ q2 := fun z => nk (F.qe2 k z)
  refine ⟨F.sets, F.srcs, fun n a b => means_eq (F.mn n a b) rfl rfl rfl, means_eq F.m3 rfl rfl rfl, means_eq F.m4 rfl rfl rfl, F.unit, F.ents, F.que, fun l hl => ?_, F.en, F.el, F.qn, F.qe, ?_, ?_, fun l hl => ?_, nodup_add F.en2 nk, fun l hl => ?_, nodup_add F.qn2 nq, fun l hl => ?_⟩
  · show (if (1 : Int) = 2 ∧ l = k then (⟨k, 0, wd k, true⟩ : Reg) else S.reg 1 l).num = l ∧ (if (1 : Int) = 2 ∧ l = k then (⟨k, 0, wd k, true⟩ : Reg) else S.reg 1 l).src = 0 ∧ (if (1 : Int) = 2 ∧ l = k then (⟨k, 0, wd k, true⟩ : Reg) else S.reg 1 l).word = wd l
    rw [if_neg fun z => absurd z.1 (by decide)]
    exact F.reg l hl
  · show (if (2 : Int) = 2 then S.ents 2 ++ [k] else S.ents 2) = _
    rw [if_pos rfl, F.ents2]
  · show (if (2 : Int) = 2 then (if Wn.ready S 0 = true then qAdd k (S.que 2) else S.que 2) else S.que 2) = _
    rw [if_pos rfl, if_pos F.ready, F.que2]
    exact if_neg nq
  · show (if (2 : Int) = 2 ∧ l = k then (⟨k, 0, wd k, true⟩ : Reg) else S.reg 2 l).num = l ∧ (if (2 : Int) = 2 ∧ l = k then (⟨k, 0, wd k, true⟩ : Reg) else S.reg 2 l).src = 0 ∧ (if (2 : Int) = 2 ∧ l = k then (⟨k, 0, wd k, true⟩ : Reg) else S.reg 2 l).word = wd l
    by_cases h : l = k
    · rw [if_pos ⟨rfl, h⟩, h]
      exact ⟨rfl, rfl, rfl⟩
    · rw [if_neg fun z => h z.2]
      exact F.reg2 l ((mem_add.mp hl).resolve_right h)
  · rcases mem_add.mp hl with y | y
    · exact F.el2 l y
    · rw [y]
      exact ⟨k0, k1⟩
  · rcases mem_add.mp hl with y | y
    · exact mem_add.mpr (.inl (F.qe2 l y))
    · exact mem_add.mpr (.inr y)
/-! waits when all are ready -/
def lev (wd : Int → Str) (l : Int) : Bool := decide (wd l = "level")
theorem settled_num (reg : Int → Reg) (l j : Int) : (settled reg l j).num = (reg j).num ∧ (settled reg l j).word = (reg j).word := by
  unfold settled
  split
  · rename_i h
    rw [h.1]
    exact ⟨rfl, rfl⟩
  · exact ⟨rfl, rfl⟩
theorem take_rdy (unit : Int → Int × Bool) (u : Int) (wd : Int → Str) (M : Nat) : ∀ (left kept : List Int) (reps : List (Int × Int × Bool)) (reg : Int → Reg), reps.length ≤ M → (∀ l ∈ left, unit (reg l).src = (u, true) ∧ (reg l).word = wd l) →
    ∃ R, takeAll unit M left ⟨reps, left ++ kept, reg⟩ = ⟨reps ++ (left.take (M - reps.length)).map (fun l => (l, u, true)), left.drop (M - reps.length) ++ (kept ++ (left.take (M - reps.length)).filter (lev wd)), R⟩ ∧ ∀ j, (R j).num = (reg j).num ∧ (R j).src = (reg j).src ∧ (R j).word = (reg j).word
  | [], kept, reps, reg, _, _ => ⟨reg, by simp [takeAll], fun _ => ⟨rfl, rfl, rfl⟩⟩
  | l :: left, kept, reps, reg, hm, h => by
    obtain ⟨h1, h2⟩ := h l List.mem_cons_self
    by_cases hr : reps.length = M
    · have e0 : M - reps.length = 0 := by omega
      refine ⟨reg, ?_, fun _ => ⟨rfl, rfl, rfl⟩⟩
      unfold takeAll
      rw [if_pos (by show (reps.length : Int) = (M : Int); rw [hr]), e0]
      simp
    · obtain ⟨n, hn⟩ : ∃ n, M - reps.length = n + 1 := ⟨M - reps.length - 1, by omega⟩
      have es : takeStep unit ⟨reps, l :: left ++ kept, reg⟩ l = ⟨reps ++ [(l, u, true)], left ++ (kept ++ (if lev wd l = true then [l] else [])), settled reg l⟩ := by
        unfold takeStep
        dsimp only
        rw [h1, if_pos (by rw [Bool.or_true])]
        have : (if (reg l).word = "level" then (l :: left ++ kept).drop 1 ++ [l] else (l :: left ++ kept).drop 1) = left ++ (kept ++ (if lev wd l = true then [l] else [])) := by
          unfold lev
          rw [h2]
          by_cases z : wd l = "level"
          · rw [if_pos z, if_pos (decide_eq_true z)]
            simp
          · rw [if_neg z, if_neg (fun y => z (of_decide_eq_true y))]
            simp
        rw [this]
      obtain ⟨R, hR, hp⟩ := take_rdy unit u wd M left (kept ++ (if lev wd l = true then [l] else [])) (reps ++ [(l, u, true)]) (settled reg l) (by rw [List.length_append]; show reps.length + 1 ≤ M; omega) fun j hj => by
        rw [settled_src, (settled_num reg l j).2]
        exact h j (List.mem_cons_of_mem _ hj)
      have e1 : M - (reps ++ [(l, u, true)]).length = n := by rw [List.length_append]; show M - (reps.length + 1) = n; omega
      rw [e1] at hR
      refine ⟨R, ?_, fun j => ?_⟩
      · unfold takeAll
        rw [if_neg (by show ¬ (reps.length : Int) = (M : Int); omega), es, hR, hn, List.take_succ_cons, List.drop_succ_cons, List.map_cons, List.filter_cons]
        by_cases z : lev wd l = true
        · rw [if_pos z, if_pos z]
          simp
        · rw [if_neg z, if_neg z]
          simp
      · obtain ⟨a, b, c⟩ := hp j
        rw [settled_src] at b
        rw [(settled_num reg l j).1] at a
        rw [(settled_num reg l j).2] at c
        exact ⟨a, b, c⟩
abbrev repU (u : Int) : Int → Int × Int × Bool := fun l => (l, u, true)
theorem Pic.took (F : Pic S wd u true e q e2 q2) (M : Nat) : ∃ R, Wn.took S 1 M = ⟨(q.take M).map (repU u), q.drop M ++ (q.take M).filter (lev wd), R⟩ ∧ ∀ j, (R j).num = (S.reg 1 j).num ∧ (R j).src = (S.reg 1 j).src ∧ (R j).word = (S.reg 1 j).word := by
  obtain ⟨R, h1, h2⟩ := take_rdy S.unit u wd M q [] [] (S.reg 1) (Nat.zero_le _) fun l hl => by
    obtain ⟨_, b, c⟩ := F.reg l (F.qe l hl)
    rw [b]
    exact ⟨F.unit, c⟩
  refine ⟨R, ?_, h2⟩
  unfold Wn.took
  rw [F.que]
  rw [List.append_nil] at h1
  exact h1
theorem Pic.took2 (F : Pic S wd u true e q e2 q2) (M : Nat) : ∃ R, Wn.took S 2 M = ⟨(q2.take M).map (repU u), q2.drop M ++ (q2.take M).filter (lev wd), R⟩ := by
  obtain ⟨R, h1, h2⟩ := take_rdy S.unit u wd M q2 [] [] (S.reg 2) (Nat.zero_le _) fun l hl => by
    obtain ⟨_, b, c⟩ := F.reg2 l (F.qe2 l hl)
    rw [b]
    exact ⟨F.unit, c⟩
  refine ⟨R, ?_⟩
  unfold Wn.took
  rw [F.que2]
  rw [List.append_nil] at h1
  exact h1
theorem Pic.wait (F : Pic S wd u true e q e2 q2) (M : Nat) : Pic (waited S 1 M) wd u true e (q.drop M ++ (q.take M).filter (lev wd)) e2 q2 := by
  obtain ⟨R, h1, h2⟩ := F.took M
  have nd : (q.drop M ++ (q.take M).filter (lev wd)).Nodup := by
    have h : (q.drop M ++ q.take M).Nodup := by
      have := F.qn
      rw [← List.take_append_drop M q] at this
      exact (List.perm_append_comm.nodup_iff).mp this
    exact h.sublist (List.Sublist.append (List.Sublist.refl _) List.filter_sublist)
  refine ⟨F.sets, F.srcs, fun n a b => means_eq (F.mn n a b) rfl rfl rfl, means_eq F.m3 rfl rfl rfl, means_eq F.m4 rfl rfl rfl, F.unit, F.ents, ?_, fun l hl => ?_, F.en, F.el, nd, fun l hl => ?_, F.ents2, ?_, fun l hl => ?_, F.en2, F.el2, F.qn2, F.qe2⟩
  · show (if (1 : Int) = 1 then (Wn.took S 1 M).que else S.que 1) = _
    rw [if_pos rfl, h1]
  · show ((if (1 : Int) = 1 then (Wn.took S 1 M).reg else S.reg 1) l).num = l ∧ ((if (1 : Int) = 1 then (Wn.took S 1 M).reg else S.reg 1) l).src = 0 ∧ ((if (1 : Int) = 1 then (Wn.took S 1 M).reg else S.reg 1) l).word = wd l
    rw [if_pos rfl, h1]
    obtain ⟨a, b, c⟩ := h2 l
    show (R l).num = l ∧ (R l).src = 0 ∧ (R l).word = wd l
    rw [a, b, c]
    exact F.reg l hl
  · refine F.qe l ?_
    rcases List.mem_append.mp hl with y | y
    · exact List.mem_of_mem_drop y
    · exact List.mem_of_mem_take (List.mem_filter.mp y).1
  · show (if (2 : Int) = 1 then (Wn.took S 1 M).que else S.que 2) = _
    rw [if_neg (by decide), F.que2]
  · show ((if (2 : Int) = 1 then (Wn.took S 1 M).reg else S.reg 2) l).num = l ∧ ((if (2 : Int) = 1 then (Wn.took S 1 M).reg else S.reg 2) l).src = 0 ∧ ((if (2 : Int) = 1 then (Wn.took S 1 M).reg else S.reg 2) l).word = wd l
    rw [if_neg (by decide)]
    exact F.reg2 l hl
end
end Wn

namespace Wn
open PySem PySem.Spec PyProof.Rows L2 Evl
local macro_rules | `(tactic| walk_at "wn1") => `(tactic| first | ((with_reducible show (if (!decide _) = true then _ else _)); refine' g_nes ?_) | ((with_reducible show (if (decide _) = true then _ else _)); refine' g_es ?_) | with_reducible first
  | (refine' g_var ?h ?q; (case h => with_unfolding_all rfl))
  | refine' g_c ?_ | refine' g_op ?_ | refine' g_rI0 ?_ | refine' g_asg ?_ | refine' g_name ?_ | refine' g_seq ?_ | refine' g_ret ?_ | refine' g_retN ?_ | refine' g_next ?_ | refine' g_drop ?_
  | refine' g_nil ?_ | refine' g_cons ?_ | refine' g_cb ?_ | refine' g_test ?_ | refine' g_bl ?_ | refine' g_if ?_ | refine' g_ifs ?_ | refine' g_not ?_ | refine' g_part ?_ | refine' g_pint ?_ | refine' g_nopart ?_ | refine' g_call ?_
  | (refine' g_mul ?h ?q; (case h => with_unfolding_all first | exact Or.inl ⟨by decide, by decide⟩ | exact Or.inr ⟨by decide, by decide⟩ | exact Or.inl ⟨by omega, by omega⟩ | exact Or.inr ⟨by omega, by omega⟩))
  | (refine' g_mod ?h ?q; (case h => with_unfolding_all first | decide | omega))
  | refine' g_rIsN ?_ | refine' g_rNotN ?_ | refine' g_max2 ?_ | refine' g_min2 ?_ | refine' g_and ?_ | refine' g_or ?_ | refine' g_orV ?_ | refine' g_andV ?_ | refine' g_notV ?_ | refine' g_m1 ?_ | refine' g_yes ?_ | refine' g_bm ?_ | refine' g_bm0 ?_
  | (refine' g_tyL ?h ?q; (case h => first | assumption | exact upd_same))
  | refine' g_m0 ?_ | refine' g_tB ?_ | refine' g_isS ?_ | refine' g_bT ?_ | refine' g_bF ?_ | refine' g_bNT ?_ | refine' g_callK ?_ | refine' g_bNF ?_
  | (refine' g_lenL ?h ?q; (case h => first | assumption | exact upd_same))
  | refine' g_un ?_ | refine' g_rint _ ?_ | refine' g_rabs ?_ | refine' g_sl ?_ 
  | (refine' g_ixL ?h ?a ?q; (case h => first | assumption | exact upd_same); (case a => with_unfolding_all rfl))
  | (refine' g_div ?h0 ?h1 ?q; (case h0 => with_unfolding_all first | decide | omega); (case h1 => with_unfolding_all first | decide | omega))
  | refine' g_sub ?_
  | (refine' g_setL ?h ?a ?q; (case h => first | assumption | exact upd_same); (case a => with_unfolding_all rfl))
  | refine' g_lst ?_ | refine' g_tup ?_
  | (refine' g_rEq ?h ?q; (case h => with_unfolding_all rfl)) | (refine' g_rNe ?h ?q; (case h => with_unfolding_all rfl)))
local macro_rules | `(tactic| walk_at "wn") => `(tactic| repeat walk_at "wn1")

/-! the system, the bag and other cells while the law goes on -/
structure WQ (C : Cs) (Hb H : Hp) (p box : Addr) (ks : List (Addr × HO)) (Φ : Sys → Prop) : Prop where
  ex : ∃ S ad dx, ad .box = box ∧ At C H S ad dx ∧ Φ S ∧ (∀ b, own S ad b → Hb b = none) ∧ ¬ own S ad p ∧ ∀ q ∈ ks, ¬ own S ad q.1
  same : Same Hb H
  bag : BagAt H p
  bp : Hb p = none
  kat : ∀ q ∈ ks, H q.1 = some q.2
  kne : ∀ q ∈ ks, q.1 ≠ p ∧ Hb q.1 = none
section
variable {C : Cs} {Hb H H1 : Hp} {p box l : Addr} {ks ks1 : List (Addr × HO)} {o o1 : HO} {Φ Φ1 : Sys → Prop}
theorem WQ.call (W : WQ C Hb H p box ks Φ) {S S1 : Sys} {ad ad1 dx1 : Cell → Addr} (hbox : ad .box = box) (own0 : ∀ b, own S ad b → Hb b = none) (np : ¬ own S ad p) (nk : ∀ q ∈ ks, ¬ own S ad q.1)
    (A1 : At C H1 S1 ad1 dx1) (st : Step H S ad H1 S1 ad1) (F1 : Φ1 S1) : WQ C Hb H1 p box ks Φ1 := by
  obtain ⟨op, hp⟩ := W.bag.some
  refine ⟨⟨S1, ad1, dx1, st.box.trans hbox, A1, F1, fun b ob => ?_, st.not hp np, fun q hq => st.not (W.kat q hq) (nk q hq)⟩, fun b o e => ?_, ?_, W.bp, fun q hq => st.keep _ _ (nk q hq) (W.kat q hq), W.kne⟩
  · rcases st.new b ob with z | z
    · exact own0 b z
    · exact W.same.free z
  · exact st.keep _ _ (fun z => by rw [own0 b z] at e; cases e) (W.same _ _ e)
  · obtain ⟨x, y, e, r⟩ := W.bag
    exact ⟨x, y, st.keep _ _ np e, r⟩
theorem WQ.put (W : WQ C Hb H p box ((l, o) :: ks) Φ) (k : ∀ b, b ≠ l → H1 b = H b) (h : H1 l = some o1) (n : ∀ q ∈ ks, q.1 ≠ l) : WQ C Hb H1 p box ((l, o1) :: ks) Φ := by
  obtain ⟨S, ad, dx, e1, A, F, o1', o2, o4⟩ := W.ex
  have hl := W.kne _ (List.mem_cons_self (a := (l, o)) (l := ks))
  have nl := o4 _ (List.mem_cons_self (a := (l, o)) (l := ks))
  refine ⟨⟨S, ad, dx, e1, ⟨fun c hc => (k _ fun z => nl ⟨c, hc, z⟩).trans (A.at_ c hc), A.inj⟩, F, o1', o2, fun q hq => ?_⟩, fun b o e => (k b fun z => by rw [z, hl.2] at e; cases e).trans (W.same _ _ e), ?_, W.bp, fun q hq => ?_, fun q hq => ?_⟩
  · rcases List.mem_cons.mp hq with rfl | hq
    · exact nl
    · exact o4 q (List.mem_cons_of_mem _ hq)
  · obtain ⟨x, y, e, r⟩ := W.bag
    exact ⟨x, y, (k _ (Ne.symm hl.1)).trans e, r⟩
  · rcases List.mem_cons.mp hq with rfl | hq
    · exact h
    · exact (k _ (n q hq)).trans (W.kat q (List.mem_cons_of_mem _ hq))
  · rcases List.mem_cons.mp hq with rfl | hq
    · exact hl
    · exact W.kne q (List.mem_cons_of_mem _ hq)
theorem WQ.keep (W : WQ C Hb H p box ks Φ) (k : ∀ b o, b ≠ p → H b = some o → H1 b = some o) (bg : BagAt H1 p) : WQ C Hb H1 p box ks Φ := by
  obtain ⟨S, ad, dx, e1, A, F, o1, o2, o4⟩ := W.ex
  exact ⟨⟨S, ad, dx, e1, ⟨fun c hc => k _ _ (fun z => o2 ⟨c, hc, z⟩) (A.at_ c hc), A.inj⟩, F, o1, o2, o4⟩, fun b o e => k b o (fun z => by rw [z, W.bp] at e; cases e) (W.same _ _ e), bg, W.bp, fun q hq => k _ _ (W.kne q hq).1 (W.kat q hq), W.kne⟩
theorem WQ.draw (W : WQ C Hb H p box ks Φ) (e : ∀ b, b ≠ p → H1 b = H b) (bg : BagAt H1 p) : WQ C Hb H1 p box ks Φ := W.keep (fun b o n h => by rw [e b n]; exact h) bg
theorem WQ.same' (W : WQ C Hb H p box ks Φ) (s : Same H H1) : WQ C Hb H1 p box ks Φ := W.keep (fun b o _ h => s _ _ h) (Dr.same W.bag s).2
theorem WQ.dr (W : WQ C Hb H p box ks Φ) (d : Dr p H H1) : WQ C Hb H1 p box ks Φ := W.keep d.1 d.2
theorem WQ.hold (W : WQ C Hb H p box ks Φ) (h : H l = none) (d : Dr p H H1) (e : H1 l = some o) : WQ C Hb H1 p box ((l, o) :: ks) Φ := by
  have W1 := W.dr d
  obtain ⟨S, ad, dx, e1, A, F, o1, o2, o4⟩ := W.ex
  have A1 : At C H1 S ad dx := ⟨fun c hc => d.1 _ _ (fun z => o2 ⟨c, hc, z⟩) (A.at_ c hc), A.inj⟩
  refine ⟨⟨S, ad, dx, e1, A1, F, o1, o2, fun q hq => ?_⟩, W1.same, W1.bag, W.bp, fun q hq => ?_, fun q hq => ?_⟩
  · rcases List.mem_cons.mp hq with rfl | hq
    · exact A.not_own h
    · exact o4 q hq
  · rcases List.mem_cons.mp hq with rfl | hq
    · exact e
    · exact W1.kat q hq
  · rcases List.mem_cons.mp hq with rfl | hq
    · exact ⟨BagAt.ne' W.bag h, W.same.free h⟩
    · exact W.kne q hq
theorem WQ.new (W : WQ C Hb H p box ks Φ) (h : H l = none) : WQ C Hb (upd H l o) p box ((l, o) :: ks) Φ := W.hold h (Dr.same W.bag (Same.new' h)) upd_same
theorem WQ.sub (W : WQ C Hb H p box ks Φ) (h : ∀ q ∈ ks1, q ∈ ks) : WQ C Hb H p box ks1 Φ := by
  obtain ⟨S, ad, dx, e1, A, F, o1, o2, o4⟩ := W.ex
  exact ⟨⟨S, ad, dx, e1, A, F, o1, o2, fun q hq => o4 q (h q hq)⟩, W.same, W.bag, W.bp, fun q hq => W.kat q (h q hq), fun q hq => W.kne q (h q hq)⟩
theorem WQ.to (W : WQ C Hb H p box ks Φ) (f : ∀ S, Φ S → Φ1 S) : WQ C Hb H p box ks Φ1 := by
  obtain ⟨S, ad, dx, e1, A, F, o⟩ := W.ex
  exact ⟨⟨S, ad, dx, e1, A, f S F, o⟩, W.same, W.bag, W.bp, W.kat, W.kne⟩
theorem WQ.pure {φ : Prop} (W : WQ C Hb H p box ks Φ) (f : ∀ S, Φ S → φ) : φ := by
  obtain ⟨S, ad, dx, e1, A, F, o⟩ := W.ex
  exact f S F
theorem WQ.boxAt (W : WQ C Hb H p box ks Φ) : ∃ (dx : Addr) (S : Sys) (td sd ud : Addr), H box = some (sysO C.S dx S td sd ud) := by
  obtain ⟨S, ad, dx, e1, A, F, o⟩ := W.ex
  exact ⟨_, S, _, _, _, by rw [← e1]; exact A.at_ .box trivial⟩
end
section
variable {C : Cs} {Hb H1 H2 : Hp} {p x dx0 : Addr} {ad dx : Cell → Addr}
theorem WQ.start (s1 : Same Hb H1) (b1 : BagAt H1 p) (n0 : Hb p = none) (nx : H1 x = none) (nd : H1 dx0 = none) (A : At C H2 (newSys 4 8) ad dx) (hb : ad .box = x)
    (k : ∀ b o, b ≠ x → upd (upd H1 dx0 (.own x)) x (.ins C.S dx0 []) b = some o → H2 b = some o) (on : ∀ b, own (newSys 4 8) ad b → b = x ∨ upd (upd H1 dx0 (.own x)) x (.ins C.S dx0 []) b = none) :
    WQ C Hb H2 p x [] (fun S => S = newSys 4 8) ∧ Same H1 H2 := by
  have s12 : Same H1 H2 := fun b o e => k b o (ne_of_none e nx) (by rw [upd_ne (ne_of_none e nx), upd_ne (ne_of_none e nd)]; exact e)
  obtain ⟨op, hp⟩ := b1.some
  refine ⟨⟨⟨newSys 4 8, ad, dx, hb, A, rfl, fun b ob => ?_, fun z => ?_, (fun q hq => nomatch hq)⟩, s1.trans s12, (Dr.same b1 s12).2, n0, (fun q hq => nomatch hq), (fun q hq => nomatch hq)⟩, s12⟩
  · rcases on b ob with rfl | e
    · exact s1.free nx
    · have n1 : b ≠ x := fun z => by rw [z, upd_same] at e; cases e
      rw [upd_ne n1] at e
      have n2 : b ≠ dx0 := fun z => by rw [z, upd_same] at e; cases e
      rw [upd_ne n2] at e
      exact s1.free e
  · rcases on p z with e | e
    · rw [e, nx] at hp
      cases hp
    · rw [upd_ne (ne_of_none hp nx), upd_ne (ne_of_none hp nd), hp] at e
      cases e
end
/-! the calls of the law -/
def S1 : Sys := newSource (newSys 4 8) 0 0
def S2 : Sys := copied S1 0 1 0
def S3 : Sys := copied S2 0 2 0
def S4 : Sys := newSet S3 0 3
def S5 : Sys := newSet S4 0 4
theorem free_of {l : List (Option Int)} {n : Nat} (h1 : l[n]? = some none) (h2 : (l.take n).all (·.isSome) = true) : firstFree l n := by
  refine ⟨h1, fun j hj => ?_⟩
  have hn := (List.getElem?_eq_some_iff.mp h1).1
  have hjl : j < (l.take n).length := by rw [List.length_take]; omega
  have := List.all_eq_true.mp h2 _ (List.getElem_mem hjl)
  rw [List.getElem_take] at this
  obtain ⟨x, hx⟩ := Option.isSome_iff_exists.mp this
  exact ⟨x, by rw [List.getElem?_eq_getElem (by omega), hx]⟩
theorem pic5 (wd : Int → Str) : Pic S5 wd 0 false [] [] [] [] ∧ Armed S5 := by
  refine ⟨⟨rfl, rfl, fun n a b => ?_, ⟨by decide, by decide, by decide, by decide⟩, ⟨by decide, by decide, by decide, by decide⟩, rfl, rfl, rfl, (fun l hl => nomatch hl), List.nodup_nil, (fun l hl => nomatch hl), List.nodup_nil, (fun l hl => nomatch hl), rfl, rfl, (fun l hl => nomatch hl), List.nodup_nil, (fun l hl => nomatch hl), List.nodup_nil, (fun l hl => nomatch hl)⟩, (fun l hl => nomatch hl)⟩
  have : n = 0 ∨ n = 1 ∨ n = 2 := by omega
  rcases this with rfl | rfl | rfl
  · exact ⟨by decide, by decide, by decide, by decide⟩
  · exact ⟨by decide, by decide, by decide, by decide⟩
  · exact ⟨by decide, by decide, by decide, by decide⟩
section
variable {C : Cs} {Hb H H1 : Hp} {p box : Addr} {ks : List (Addr × HO)} {wd : Int → Str} {u : Int} {fin : Bool} {e q e2 q2 : List Int} {k m : Int} {Q : VK} {E : XK}
theorem WQ.src1 (W : WQ C Hb H p box ks fun S => S = newSys 4 8) (q : ∀ (n : Nat) H1, WQ C Hb H1 p box ks (fun S => S = S1) → Q (.int n) H1) : spNewSource C [.ref box, .int 0] H Q E := by
  obtain ⟨S, ad, dx, hb, A, rfl, o1, o2, o4⟩ := W.ex
  exact ⟨0, 0, newSys 4 8, ad, dx, by rw [hb], A, List.mem_cons_self, free_of rfl rfl, by decide, by decide, by decide, fun H4 ad4 A4 st4 => q _ _ (W.call (ad := ad) hb o1 o2 o4 A4 st4 rfl)⟩
theorem WQ.copy1 (W : WQ C Hb H p box ks fun S => S = S1) (q : ∀ (n : Nat) H1, WQ C Hb H1 p box ks (fun S => S = S2) → Q (.int n) H1) : spCopy C [.ref box, .int 0, .int 0, .non] H Q E := by
  obtain ⟨S, ad, dx, hb, A, rfl, o1, o2, o4⟩ := W.ex
  exact ⟨0, 0, 0, 1, S1, ad, dx, by rw [hb], A, ⟨by decide, by decide, by decide, by decide⟩, free_of rfl rfl, by decide, fun H4 A4 st4 => q _ _ (W.call (ad := ad) hb o1 o2 o4 A4 st4 rfl)⟩
theorem WQ.copy2 (W : WQ C Hb H p box ks fun S => S = S2) (q : ∀ (n : Nat) H1, WQ C Hb H1 p box ks (fun S => S = S3) → Q (.int n) H1) : spCopy C [.ref box, .int 0, .int 0, .non] H Q E := by
  obtain ⟨S, ad, dx, hb, A, rfl, o1, o2, o4⟩ := W.ex
  exact ⟨0, 0, 0, 2, S2, ad, dx, by rw [hb], A, ⟨by decide, by decide, by decide, by decide⟩, free_of rfl rfl, by decide, fun H4 A4 st4 => q _ _ (W.call (ad := ad) hb o1 o2 o4 A4 st4 rfl)⟩
theorem WQ.set1 (W : WQ C Hb H p box ks fun S => S = S3) (q : ∀ (n : Nat) H1, WQ C Hb H1 p box ks (fun S => S = S4) → Q (.int n) H1) : spNewSet C [.ref box, .int 0] H Q E := by
  obtain ⟨S, ad, dx, hb, A, rfl, o1, o2, o4⟩ := W.ex
  exact ⟨0, 3, S3, ad, dx, by rw [hb], A, List.mem_cons_self, free_of rfl rfl, by decide, by decide, by decide, fun H4 ad4 dx4 A4 st4 => q _ _ (W.call (ad := ad) hb o1 o2 o4 A4 st4 rfl)⟩
theorem WQ.set2 (W : WQ C Hb H p box ks fun S => S = S4) (q : ∀ (n : Nat) H1, WQ C Hb H1 p box ks (fun S => S = S5) → Q (.int n) H1) : spNewSet C [.ref box, .int 0] H Q E := by
  obtain ⟨S, ad, dx, hb, A, rfl, o1, o2, o4⟩ := W.ex
  exact ⟨0, 4, S4, ad, dx, by rw [hb], A, List.mem_cons_self, free_of rfl rfl, by decide, by decide, by decide, fun H4 ad4 dx4 A4 st4 => q _ _ (W.call (ad := ad) hb o1 o2 o4 A4 st4 rfl)⟩
abbrev PA (wd : Int → Str) (u : Int) (fin : Bool) (e q e2 q2 : List Int) : Sys → Prop := fun S => Pic S wd u fin e q e2 q2
abbrev PB (wd : Int → Str) (u : Int) (fin : Bool) (e q : List Int) : Sys → Prop := fun S => Pic S wd u fin e q [] [] ∧ Armed S
theorem WQ.add0 (W : WQ C Hb H p box ks (PB wd 0 false e [])) (k0 : 0 ≤ k) (k1 : k.toNat < 3) (nk : k ∉ e) (hw : wd k ∈ wordsL) (q : ∀ H1, WQ C Hb H1 p box ks (PB wd 0 false (e ++ [k]) []) → Q .non H1) : spAdd C [.ref box, .int 0, .int 3, .int k, .int k, .str (wd k)] H Q E := by
  obtain ⟨S, ad, dx, hb, A, ⟨F, G⟩, o1, o2, o4⟩ := W.ex
  have hr : Wn.ready S 0 = false := by unfold Wn.ready; rw [F.unit]; rfl
  refine ⟨0, 3, k, k, 1, 0, wd k, S, ad, dx, by rw [hb], A, F.m3, F.s1, F.mn k k0 (by omega), F.s0, k0, by omega, hw, by rw [F.find, if_neg nk], by rw [F.ents]; exact nk, F.small, fun H3 ad3 dx3 A3 st3 => q _ (W.call (ad := ad) hb o1 o2 o4 A3 st3 ⟨?_, G.add⟩)⟩
  have := F.add k0 k1 nk
  rw [hr] at this
  exact this
theorem WQ.add1 (W : WQ C Hb H p box ks (PA wd u true e q [] [])) (k0 : 0 ≤ k) (k1 : k.toNat < 3) (nk : k ∉ e) (hw : wd k ∈ wordsL) (z : ∀ H1, WQ C Hb H1 p box ks (PA wd u true (e ++ [k]) (q ++ [k]) [] []) → Q .non H1) : spAdd C [.ref box, .int 0, .int 3, .int k, .int k, .str (wd k)] H Q E := by
  obtain ⟨S, ad, dx, hb, A, F, o1, o2, o4⟩ := W.ex
  refine ⟨0, 3, k, k, 1, 0, wd k, S, ad, dx, by rw [hb], A, F.m3, F.s1, F.mn k k0 (by omega), F.s0, k0, by omega, hw, by rw [F.find, if_neg nk], by rw [F.ents]; exact nk, F.small, fun H3 ad3 dx3 A3 st3 => z _ (W.call (ad := ad) hb o1 o2 o4 A3 st3 ?_)⟩
  have := F.add k0 k1 nk
  rw [F.ready] at this
  exact this
theorem WQ.add2 (W : WQ C Hb H p box ks (PA wd u true e q e2 q2)) (k0 : 0 ≤ k) (k1 : k.toNat < 3) (nk : k ∉ e2) (hw : wd k ∈ wordsL) (z : ∀ H1, WQ C Hb H1 p box ks (PA wd u true e q (e2 ++ [k]) (q2 ++ [k])) → Q .non H1) : spAdd C [.ref box, .int 0, .int 4, .int k, .int k, .str (wd k)] H Q E := by
  obtain ⟨S, ad, dx, hb, A, F, o1, o2, o4⟩ := W.ex
  exact ⟨0, 4, k, k, 2, 0, wd k, S, ad, dx, by rw [hb], A, F.m4, F.s2, F.mn k k0 (by omega), F.s0, k0, by omega, hw, by rw [F.find2, if_neg nk], by rw [F.ents2]; exact nk, F.small, fun H3 ad3 dx3 A3 st3 => z _ (W.call (ad := ad) hb o1 o2 o4 A3 st3 (F.add2 k0 k1 nk))⟩
theorem WQ.arrive (W : WQ C Hb H p box ks (PB wd 0 false e [])) (m0 : 1 ≤ m) (m1 : m ≤ 1000000) (z : ∀ H1, WQ C Hb H1 p box ks (PB wd m false e e) → Q .non H1) : spArrive C [.ref box, .int 0, .int 1, .int m] H Q E := by
  obtain ⟨S, ad, dx, hb, A, ⟨F, G⟩, o1, o2, o4⟩ := W.ex
  refine ⟨0, 1, 0, m, S, ad, dx, by rw [hb], A, F.mn 1 (by decide) (by decide), F.s0, by rw [F.unit], m0, m1, F.small, fun H3 ad3 A3 st3 => z _ (W.call (ad := ad) hb o1 o2 o4 A3 st3 ⟨?_, G.told⟩)⟩
  have e1 : (S.unit 0).1 + m = m := by rw [F.unit]; exact Int.zero_add m
  unfold arrived
  rw [e1]
  exact F.told G (.inl rfl) m false
theorem WQ.finish (W : WQ C Hb H p box ks (PB wd u false e q)) (hq : q = [] ∨ q = e) (k0 : 0 ≤ k) (k1 : k ≤ 2) (z : ∀ H1, WQ C Hb H1 p box ks (PA wd u true e e [] []) → Q .non H1) : spFinish C [.ref box, .int 0, .int k] H Q E := by
  obtain ⟨S, ad, dx, hb, A, ⟨F, G⟩, o1, o2, o4⟩ := W.ex
  refine ⟨0, k, 0, S, ad, dx, by rw [hb], A, F.mn k k0 k1, F.s0, by rw [F.unit], F.small, fun H3 ad3 A3 st3 => z _ (W.call (ad := ad) hb o1 o2 o4 A3 st3 ?_)⟩
  have e1 : (S.unit 0).1 = u := by rw [F.unit]
  unfold finished
  rw [e1]
  exact F.told G hq u true
theorem WQ.read (W : WQ C Hb H p box ks (PA wd u true e q e2 q2)) (z : ∀ H1, WQ C Hb H1 p box ks (PA wd 0 true e q e2 q2) → Q (.int u) H1) : spRead C [.ref box, .int 0, .int 2, .non] H Q E := by
  obtain ⟨S, ad, dx, hb, A, F, o1, o2, o4⟩ := W.ex
  refine ⟨0, 2, 0, none, S, ad, dx, by rw [hb]; rfl, A, F.mn 2 (by decide) (by decide), F.s0, (fun m z => by cases z), F.small, fun H3 ad3 A3 st3 => ?_⟩
  have e1 : taken (S.unit 0).1 none = u := by rw [F.unit]; rfl
  rw [e1]
  exact z _ (W.call (ad := ad) hb o1 o2 o4 A3 st3 F.read)
theorem WQ.change (W : WQ C Hb H p box ks (PA wd u true e q e2 q2)) (hk : k ∈ e) (hw : wd k ∈ wordsL) (z : ∀ H1, WQ C Hb H1 p box ks (PA wd u true e (qAdd k q) e2 q2) → Q .non H1) : spChange C [.ref box, .int 0, .int 3, .int k, .str (wd k)] H Q E := by
  obtain ⟨S, ad, dx, hb, A, F, o1, o2, o4⟩ := W.ex
  have he := F.el k hk
  exact ⟨0, 3, k, k, 1, 0, wd k, S, ad, dx, by rw [hb], A, F.m3, F.s1, F.mn k he.1 (by omega), F.s0, hw, by rw [F.find, if_pos hk], F.small, fun H3 ad3 dx3 A3 st3 => z _ (W.call (ad := ad) hb o1 o2 o4 A3 st3 (F.change hk))⟩
theorem WQ.rowOf (W : WQ C Hb H p box ks (PA wd u true e q e2 q2)) (z : ∀ r, H r = none → Q (.ref r) (upd H r (.lst (q.map V.int)))) : spRowOf C [.ref box, .int 0, .int 3] H Q E := by
  obtain ⟨S, ad, dx, hb, A, F, o1, o2, o4⟩ := W.ex
  refine ⟨0, 3, 1, S, ad, dx, by rw [hb], A, F.m3, F.s1, ?_⟩
  rw [F.que]
  exact z
theorem WQ.wait (W : WQ C Hb H p box ks (PA wd u true e q e2 q2)) (nWR : C.W ≠ C.R) (M : Nat) (m0 : 1 ≤ M) (m1 : M ≤ 1000000)
    (z : ∀ H1 r rs, WQ C Hb H1 p box ks (PA wd u true e (q.drop M ++ (q.take M).filter (lev wd)) e2 q2) → H r = none → H1 r = some (.lst rs) → Paired (RepAt H1) rs ((q.take M).map (repU u)) → Q (.ref r) H1) : spWait C [.ref box, .int 0, .int 3, .int (M : Int)] H Q E := by
  obtain ⟨S, ad, dx, hb, A, F, o1, o2, o4⟩ := W.ex
  refine ⟨0, 3, 1, (M : Int), S, ad, dx, by rw [hb], A, F.m3, F.s1, by omega, by omega, fun l hl => ?_, fun l hl => ?_, nWR, F.small, fun H3 ad3 dx3 r rs h1 h2 h3 h4 A3 st3 => ?_⟩
  · rw [F.que] at hl
    rw [F.ents]
    exact F.qe l hl
  · rw [F.ents] at hl
    rw [(F.reg l hl).2.1]
    exact F.s0
  · obtain ⟨R, hR, _⟩ := F.took M
    rw [hR] at h4
    exact z _ r rs (W.call (ad := ad) hb o1 o2 o4 A3 st3 (F.wait M)) h1 h2 h4
theorem WQ.wait2 (W : WQ C Hb H p box ks (PA wd u true e q e2 q2)) (nWR : C.W ≠ C.R) (z : ∀ H1 r rs, WQ C Hb H1 p box ks (fun _ => True) → H r = none → H1 r = some (.lst rs) → Paired (RepAt H1) rs ((q2.take 3).map (repU u)) → Q (.ref r) H1) : spWait C [.ref box, .int 0, .int 4, .int 3] H Q E := by
  obtain ⟨S, ad, dx, hb, A, F, o1, o2, o4⟩ := W.ex
  refine ⟨0, 4, 2, 3, S, ad, dx, by rw [hb], A, F.m4, F.s2, by decide, by decide, fun l hl => ?_, fun l hl => ?_, nWR, F.small, fun H3 ad3 dx3 r rs h1 h2 h3 h4 A3 st3 => ?_⟩
  · rw [F.que2] at hl
    rw [F.ents2]
    exact F.qe2 l hl
  · rw [F.ents2] at hl
    rw [(F.reg2 l hl).2.1]
    exact F.s0
  · obtain ⟨R, hR⟩ := F.took2 3
    have h4 : Paired (RepAt H3) rs (Wn.took S 2 ((3 : Nat) : Int)).reps := h4
    rw [hR] at h4
    exact z _ r rs (W.call (ad := ad) hb o1 o2 o4 A3 st3 trivial) h1 h2 h4
end
end Wn

namespace Wn
open PySem PySem.Spec PyProof.Rows L2 Evl
local macro_rules | `(tactic| walk_at "wn1") => `(tactic| first | ((with_reducible show (if (!decide _) = true then _ else _)); refine' g_nes ?_) | ((with_reducible show (if (decide _) = true then _ else _)); refine' g_es ?_) | with_reducible first
  | (refine' g_var ?h ?q; (case h => with_unfolding_all rfl))
  | refine' g_c ?_ | refine' g_op ?_ | refine' g_rI0 ?_ | refine' g_asg ?_ | refine' g_name ?_ | refine' g_seq ?_ | refine' g_ret ?_ | refine' g_retN ?_ | refine' g_next ?_ | refine' g_drop ?_
  | refine' g_nil ?_ | refine' g_cons ?_ | refine' g_cb ?_ | refine' g_test ?_ | refine' g_bl ?_ | refine' g_if ?_ | refine' g_ifs ?_ | refine' g_not ?_ | refine' g_part ?_ | refine' g_pint ?_ | refine' g_nopart ?_ | refine' g_call ?_
  | (refine' g_mul ?h ?q; (case h => with_unfolding_all first | exact Or.inl ⟨by decide, by decide⟩ | exact Or.inr ⟨by decide, by decide⟩ | exact Or.inl ⟨by omega, by omega⟩ | exact Or.inr ⟨by omega, by omega⟩))
  | (refine' g_mod ?h ?q; (case h => with_unfolding_all first | decide | omega))
  | refine' g_rIsN ?_ | refine' g_rNotN ?_ | refine' g_max2 ?_ | refine' g_min2 ?_ | refine' g_and ?_ | refine' g_or ?_ | refine' g_orV ?_ | refine' g_andV ?_ | refine' g_notV ?_ | refine' g_m1 ?_ | refine' g_yes ?_ | refine' g_bm ?_ | refine' g_bm0 ?_
  | (refine' g_tyL ?h ?q; (case h => first | assumption | exact upd_same))
  | refine' g_m0 ?_ | refine' g_tB ?_ | refine' g_isS ?_ | refine' g_bT ?_ | refine' g_bF ?_ | refine' g_bNT ?_ | refine' g_callK ?_ | refine' g_bNF ?_
  | (refine' g_lenL ?h ?q; (case h => first | assumption | exact upd_same))
  | refine' g_un ?_ | refine' g_rint _ ?_ | refine' g_rabs ?_ | refine' g_sl ?_ 
  | (refine' g_ixL ?h ?a ?q; (case h => first | assumption | exact upd_same); (case a => with_unfolding_all rfl))
  | (refine' g_div ?h0 ?h1 ?q; (case h0 => with_unfolding_all first | decide | omega); (case h1 => with_unfolding_all first | decide | omega))
  | refine' g_sub ?_
  | (refine' g_setL ?h ?a ?q; (case h => first | assumption | exact upd_same); (case a => with_unfolding_all rfl))
  | refine' g_lst ?_ | refine' g_tup ?_
  | (refine' g_rEq ?h ?q; (case h => with_unfolding_all rfl)) | (refine' g_rNe ?h ?q; (case h => with_unfolding_all rfl)))
local macro_rules | `(tactic| walk_at "wn") => `(tactic| repeat walk_at "wn1")

theorem lt_ext : ∀ {l m : List Int}, l.Pairwise (· < ·) → m.Pairwise (· < ·) → (∀ x, x ∈ l ↔ x ∈ m) → l = m
  | [], [], _, _, _ => rfl
  | [], y :: m, _, _, h => absurd ((h y).mpr List.mem_cons_self) List.not_mem_nil
  | x :: l, [], _, _, h => absurd ((h x).mp List.mem_cons_self) List.not_mem_nil
  | x :: l, y :: m, hl, hm, h => by
    have hx := List.pairwise_cons.mp hl
    have hy := List.pairwise_cons.mp hm
    have e : x = y := by
      rcases List.mem_cons.mp ((h x).mp List.mem_cons_self) with z | z
      · exact z
      rcases List.mem_cons.mp ((h y).mpr List.mem_cons_self) with z2 | z2
      · exact z2.symm
      have := hy.1 x z
      have := hx.1 y z2
      omega
    subst e
    rw [lt_ext hx.2 hy.2 fun z => ⟨fun hz => ?_, fun hz => ?_⟩]
    · rcases List.mem_cons.mp ((h z).mp (List.mem_cons_of_mem _ hz)) with q | q
      · have := hx.1 z hz
        omega
      · exact q
    · rcases List.mem_cons.mp ((h z).mpr (List.mem_cons_of_mem _ hz)) with q | q
      · have := hy.1 z hz
        omega
      · exact q
theorem lt_of_le : ∀ {l : List Int}, l.Pairwise (· ≤ ·) → l.Nodup → l.Pairwise (· < ·)
  | [], _, _ => .nil
  | x :: l, h, nd => by
    have h1 := List.pairwise_cons.mp h
    have h2 := List.nodup_cons.mp nd
    refine List.pairwise_cons.mpr ⟨fun y hy => ?_, lt_of_le h1.2 h2.2⟩
    have := h1.1 y hy
    have : x ≠ y := fun z => h2.1 (z ▸ hy)
    omega
theorem cut_to (l : List V) {n : Nat} (h : n ≤ l.length) : cutV l none (some (n : Int)) = l.take n := by
  unfold cutV
  rw [HT.sIx_none, HT.sIx_nat, Nat.sub_zero, List.drop_zero, Nat.min_eq_left h]
theorem cut_from (l : List V) {n : Nat} (h : n ≤ l.length) : cutV l (some (n : Int)) none = l.drop n := by
  unfold cutV
  rw [HT.sIx_none, HT.sIx_nat, Nat.min_eq_left h]
  exact List.take_of_length_le (by rw [List.length_drop]; exact Nat.le_refl _)

theorem paired_get {α β : Type} {r : α → β → Prop} {xs : List α} {ys : List β} (p : Paired r xs ys) : ∀ {i : Nat} {x : α}, xs[i]? = some x → ∃ y, ys[i]? = some y ∧ r x y := by
  induction p with
  | nil => intro i x h; simp at h
  | cons h _ ih =>
    intro i x hx
    cases i with
    | zero => cases hx; exact ⟨_, rfl, h⟩
    | succ i => exact ih (i := i) hx
theorem asc3 {ns q : List Int} (hp : ns.Perm q) (hq : q.Perm [0, 1, 2]) (hs : ns.Pairwise (· ≤ ·)) : ns = [0, 1, 2] := by
  have h := hp.trans hq
  exact lt_ext (lt_of_le hs (h.nodup_iff.mpr (by decide))) (by decide) fun x => h.mem_iff
theorem filter_take {f : Int → Bool} {q : List Int} {i : Nat} {x : Int} (el : q[i]? = some x) : (q.take (i + 1)).filter f = (q.take i).filter f ++ if f x = true then [x] else [] := by
  rw [List.take_add_one, el, List.filter_append]
  show _ ++ List.filter f [x] = _
  rw [List.filter_cons]
  rfl
theorem filter_one {f : Int → Bool} {L : Int} : ∀ {q : List Int}, q.Nodup → L ∈ q → (∀ x ∈ q, f x = true ↔ x = L) → q.filter f = [L]
  | [], _, h, _ => absurd h List.not_mem_nil
  | x :: q, nd, h, hf => by
    obtain ⟨n1, n2⟩ := List.nodup_cons.mp nd
    rw [List.filter_cons]
    by_cases e : x = L
    · rw [if_pos ((hf x List.mem_cons_self).mpr e), e, List.filter_eq_nil_iff.mpr fun y hy z => n1 (by
        rw [e, ← (hf y (List.mem_cons_of_mem _ hy)).mp z]
        exact hy)]
    · rw [if_neg fun z => e ((hf x List.mem_cons_self).mp z)]
      exact filter_one n2 ((List.mem_cons.mp h).resolve_left (Ne.symm e)) fun y hy => hf y (List.mem_cons_of_mem _ hy)
section
variable {K : PySem.W.Frag} {H : Hp} {a b : Addr} {Q : VK}
theorem q_neUF {u : Int} (h1 : H a = some (.tup [.int u, .bl true])) (h2 : H b = some (.tup [.int u, .bl true])) (k : Q (.bl false) H) : rNeD K (.ref a) (.ref b) H Q := by
  have sh : SeqAt.shaped (.tuple [.int u, .bool true]) = true := by simp [SeqAt.shaped, PyData.canLay0, PyData.canLayAll0, PyData.depth, PyData.depthAll]
  refine ⟨_, _, .tup (SqT.of h1) (.cons (.int _) (.cons (.bl _) .nil)), .tup (SqT.of h2) (.cons (.int _) (.cons (.bl _) .nil)), sh, sh, ?_⟩
  rw [PySem.SeqAt.eqv_refl _ (SeqAt.canLay_of_shaped sh)]
  exact k
end
section
variable {P : Program} {w : World} {K : PySem.W.Frag} {mg : Str → Option Value} {base : Heap} {C : Cs}
def spLabels : Sp := fun vs H Q _ => ∃ (a : Addr) (u : Int) (rs : List V) (ls : List Int), vs = [.ref a, .int u] ∧ H a = some (.lst rs) ∧ Paired (RepAt H) rs (ls.map (repU u)) ∧ ls.length ≤ 100 ∧
  ∀ H' r, Same H H' → H r = none → H' r = some (.lst (ls.map V.int)) → Q (.ref r) H'
theorem scLabels : FnScope ["_law_reports", "_law_unread", "_law_report"] ["_law_reports", "_law_unread"] (defScope sLabels) := ⟨rfl, rfl, rfl, by decide +kernel, rfl, by decide +kernel, by decide +kernel⟩
theorem okLabels {f : Addr} {fd : FuncData} (F : Fun K "_law_labels" "_law_labels" sLabels f fd) : FnOk P w K mg base CX0 1 f fd ["_law_reports", "_law_unread"] spLabels := by
  refine F.ok scLabels (fun vs H Q E h => ?_) (fun cdv A outer s H vs Q E hr h => ?_)
  · obtain ⟨_, _, _, _, rfl, _⟩ := h
    rfl
  · obtain ⟨a, u, rs, ls, rfl, ha, hp, hz, k⟩ := h
    have hu := hr.units
    refine ⟨_, pss_cut (ps_for PassesOwn.never rfl (pi_list (pv 0)) (pg_name (i := 2) scLabels.nd rfl (Or.inl rfl))
        (pss_one (ps_if (pt_cmpR (op_neD hu) (pe_slice sl_tup (pv 2) (po_some pe_int) po_none) (pe_tup (pa_cons (pv 1) (pa_cons pe_bl pa_nil))) (nomark _)) (pss_one (ps_ret pe_non)) pss_nil)))
      (pss_one (ps_ret (pe_lc (own := [("_law_report", 2)]) (g := gName 2) (tt := tYes) (te := tOp (rIxT K) (tVar 2) (tC (.int 0))) rfl scLabels.nd (pi_list (pv 0)) (blkOk_by (N := ["_law_reports", "_law_unread", "_law_report"]) (sc := defScope sLabels) (by decide +kernel)) (fun _ _ _ _ _ => pg_name (i := 2) scLabels.nd rfl (Or.inl rfl)) (fun _ _ _ _ _ => pts_nil) (fun _ _ _ _ _ => pe_ix ix_tup (pv 2) pe_int (fun _ _ => rfl))))), ?_⟩
    have hlen := hp.length
    rw [List.length_map] at hlen
    refine ⟨fun σ' H1 => ∃ v2, σ' = [some (.ref a), some (.int u), v2] ∧ Same H H1, ?_, ?_⟩
    · show iList _ _ _ _ _
      refine ⟨_, rfl, a, rfl, ⟨_, SqL.of ha⟩, for_list (K := K) (a := a) (xs := rs) (fun i σ' H1 => ∃ v2, σ' = [some (.ref a), some (.int u), v2] ∧ Same H H1) ⟨_, rfl, Same.refl _⟩ (fun i σ' H1 _ ⟨_, _, e⟩ => SqL.of (e _ _ ha)) ?_ (fun _ _ h => h)⟩
      rintro i v σ' H1 hv ⟨v2, rfl, s1⟩
      obtain ⟨r, er, t, rfl, ht⟩ := paired_get hp hv
      rw [List.getElem?_map] at er
      cases el : ls[i]? with
      | none => rw [el] at er; cases er
      | some l =>
      rw [el] at er
      cases er
      walk_at "wn"
      refine ⟨t, _, rfl, SqT.of (s1 _ _ ht), (fun z => absurd z.1 (show ¬ (HT.sIx 3 0 (some 1) = 0) by decide)), fun t1 h1 => ?_⟩
      have e1 : cutV [V.int l, V.int u, V.bl true] (some 1) none = [V.int u, V.bl true] := rfl
      have sa := Same.new' (o := .tup [V.int u, V.bl true]) h1
      walk_at "wn"
      refine ⟨by show 2 ≤ sizeLine; decide, fun t2 h2 => ?_⟩
      have sb := Same.new' (o := .tup [V.int u, V.bl true]) h2
      refine q_neUF (sb _ _ upd_same) upd_same ?_
      walk_at "wn"
      exact ⟨_, rfl, s1.trans (sa.trans sb)⟩
    · rintro σ' H1 ⟨v2, rfl, s1⟩
      walk_at "wn"
      refine ⟨_, rfl, a, rfl, ⟨_, SqL.of (s1 _ _ ha)⟩, fun D hD => lc_list (K := K) (a := a) (xs := rs) (fun i H' => Same H1 H' ∧ H' D = some (.lst ((ls.take i).map V.int))) ⟨Same.new' hD, by rw [upd_same]; rfl⟩ (fun i H' _ h => SqL.of (h.1 _ _ (s1 _ _ ha))) ?_ ?_⟩
      · rintro i v H' hv ⟨sm, hD'⟩
        obtain ⟨r, er, t, rfl, ht⟩ := paired_get hp hv
        rw [List.getElem?_map] at er
        cases el : ls[i]? with
        | none => rw [el] at er; cases er
        | some l =>
        rw [el] at er
        cases er
        refine ⟨rfl, ?_⟩
        walk_at "wn"
        refine ⟨t, _, 0, _, rfl, rfl, SqT.of (sm _ _ (s1 _ _ ht)), atI_nat (j := 0) rfl, ?_⟩
        refine ⟨_, hD', ?_, fun b o z => ?_, ?_⟩
        · rw [List.length_map, List.length_take, sizeLine_eq]
          omega
        · rw [upd_ne (ne_of_none z hD)]
          exact sm _ _ z
        · rw [upd_same, List.take_add_one, el, List.map_append]
          rfl
      · rintro H' ⟨sm, hD'⟩
        have e : ls.take rs.length = ls := by rw [hlen]; exact List.take_length
        rw [e] at hD'
        exact k H' D (s1.trans sm) (s1.free hD) hD'
end
end Wn

namespace Wn
open PySem PySem.Spec PyProof.Rows L2 Evl
local macro_rules | `(tactic| walk_at "wn1") => `(tactic| first | ((with_reducible show (if (!decide _) = true then _ else _)); refine' g_nes ?_) | ((with_reducible show (if (decide _) = true then _ else _)); refine' g_es ?_) | with_reducible first
  | (refine' g_var ?h ?q; (case h => with_unfolding_all rfl))
  | refine' g_c ?_ | refine' g_op ?_ | refine' g_rI0 ?_ | refine' g_asg ?_ | refine' g_name ?_ | refine' g_seq ?_ | refine' g_ret ?_ | refine' g_retN ?_ | refine' g_next ?_ | refine' g_drop ?_
  | refine' g_nil ?_ | refine' g_cons ?_ | refine' g_cb ?_ | refine' g_test ?_ | refine' g_bl ?_ | refine' g_if ?_ | refine' g_ifs ?_ | refine' g_not ?_ | refine' g_part ?_ | refine' g_pint ?_ | refine' g_nopart ?_ | refine' g_call ?_
  | (refine' g_mul ?h ?q; (case h => with_unfolding_all first | exact Or.inl ⟨by decide, by decide⟩ | exact Or.inr ⟨by decide, by decide⟩ | exact Or.inl ⟨by omega, by omega⟩ | exact Or.inr ⟨by omega, by omega⟩))
  | (refine' g_mod ?h ?q; (case h => with_unfolding_all first | decide | omega))
  | refine' g_rIsN ?_ | refine' g_rNotN ?_ | refine' g_max2 ?_ | refine' g_min2 ?_ | refine' g_and ?_ | refine' g_or ?_ | refine' g_orV ?_ | refine' g_andV ?_ | refine' g_notV ?_ | refine' g_m1 ?_ | refine' g_yes ?_ | refine' g_bm ?_ | refine' g_bm0 ?_
  | (refine' g_tyL ?h ?q; (case h => first | assumption | exact upd_same))
  | refine' g_m0 ?_ | refine' g_tB ?_ | refine' g_isS ?_ | refine' g_bT ?_ | refine' g_bF ?_ | refine' g_bNT ?_ | refine' g_callK ?_ | refine' g_bNF ?_
  | (refine' g_lenL ?h ?q; (case h => first | assumption | exact upd_same))
  | refine' g_un ?_ | refine' g_rint _ ?_ | refine' g_rabs ?_ | refine' g_sl ?_ 
  | (refine' g_ixL ?h ?a ?q; (case h => first | assumption | exact upd_same); (case a => with_unfolding_all rfl))
  | (refine' g_div ?h0 ?h1 ?q; (case h0 => with_unfolding_all first | decide | omega); (case h1 => with_unfolding_all first | decide | omega))
  | refine' g_sub ?_
  | (refine' g_setL ?h ?a ?q; (case h => first | assumption | exact upd_same); (case a => with_unfolding_all rfl))
  | refine' g_lst ?_ | refine' g_tup ?_
  | (refine' g_rEq ?h ?q; (case h => with_unfolding_all rfl)) | (refine' g_rNe ?h ?q; (case h => with_unfolding_all rfl)))
local macro_rules | `(tactic| walk_at "wn") => `(tactic| repeat walk_at "wn1")

section
variable {P : Program} {w : World} {K : PySem.W.Frag} {mg : Str → Option Value} {base : Heap} {C : Cs}
def wdF (ws : List Str) : Int → Str := fun l => ws.getD l.toNat ""
theorem at_ws {ws : List Str} {l : Int} (h0 : 0 ≤ l) (h1 : l.toNat < ws.length) : atI (ws.map V.str) l = some (V.str (wdF ws l)) := by
  have ek : ((l.toNat : Nat) : Int) = l := by omega
  unfold wdF
  rw [← ek]
  refine atI_nat ?_
  rw [List.getElem?_map, List.getElem?_eq_getElem h1]
  show _ = some (V.str (ws.getD ((l.toNat : Nat) : Int).toNat ""))
  rw [Int.toNat_natCast, List.getD_eq_getElem?_getD, List.getElem?_eq_getElem h1]
  rfl
def spWaits (C : Cs) : Sp := fun vs H Q _ => ∃ (Hb : Hp) (p box wl : Addr) (ks : List (Addr × HO)) (ws : List Str) (u : Int) (e q e2 q2 : List Int) (L : Int), vs = [.ref box, .ref wl, .int u] ∧ WQ C Hb H p box ks (PA (wdF ws) u true e q e2 q2) ∧ (wl, HO.lst (ws.map V.str)) ∈ ks ∧ ws.length = 3 ∧ C.W ≠ C.R ∧ q.Perm [0, 1, 2] ∧ L ∈ q ∧ (∀ x ∈ q, lev (wdF ws) x = true ↔ x = L) ∧
  ∀ H', WQ C Hb H' p box ks (PA (wdF ws) u true e [L] e2 q2) → Q (.bl true) H'
abbrev nWaits : List Str := ["_law_box", "_law_words", "_law_unread", "_law_row", "_law_first", "_law_level", "_law_label", "_law_due", "_law_turn"]
theorem scWaits : FnScope nWaits ["_law_box", "_law_words", "_law_unread"] (defScope sWaits) := ⟨rfl, rfl, rfl, by decide +kernel, rfl, by decide +kernel, by decide +kernel⟩
theorem okWaits {f fL fR fW : Addr} {fd fdL fdR fdW : FuncData} (F : Fun K "_law_waits" "_law_waits" sWaits f fd) (X : LawTx mg) (T : ClsF K C.S sysF)
    (GL : DO P w K mg base 1 "_law_labels" ["_law_reports", "_law_unread"] spLabels fL fdL) (GR : MO P w K mg base 6 C.S "row_of" ["self", "process", "set_number"] (spRowOf C) fR fdR) (GW : MO P w K mg base 6 C.S "wait" ["self", "process", "set_number", "most"] (spWait C) fW fdW) :
    FnOk P w K mg base CX0 7 f fd ["_law_box", "_law_words", "_law_unread"] (spWaits C) := by
  refine F.ok scWaits (fun vs H Q E h => ?_) (fun cdv A outer s H vs Q E hr h => ?_)
  · obtain ⟨_, _, _, _, _, _, _, _, _, _, _, _, rfl, _⟩ := h
    rfl
  · obtain ⟨Hb, p, box, wl, ks, ws, u, e, q, e2, q2, L, rfl, W0, hwl, hws, nWR, hq, hL, hlev, k⟩ := h
    have hu := hr.units
    have hr1 : Room 1 _ := hr.mono (by decide)
    refine ⟨_, pss_cut (ps_set (i := 3) scWaits.nd rfl (Or.inl rfl) (pe_meth (pv 0) T.cl GR.m GR.g hr GR.b .nil pass0 (pa_cons pe_int (pa_cons pe_int pa_nil))))
      (pss_cut (ps_if (pt_cmpR (op_neD hu) (pe_callB cr_sorted (by rfl) X.sorted (by decide +kernel) (pa_cons (pv 3) pa_nil)) (pe_lst (pa_cons pe_int (pa_cons pe_int (pa_cons pe_int pa_nil)))) (nomark _)) (pss_one (ps_ret pe_bl)) pss_nil)
      (pss_cut (ps_set (i := 4) scWaits.nd rfl (Or.inl rfl) (pe_meth (pv 0) T.cl GW.m GW.g hr GW.b .nil pass0 (pa_cons pe_int (pa_cons pe_int (pa_cons pe_int pa_nil)))))
      (pss_cut (ps_if (pt_cmpR (op_neD hu) (pe_call GL.g hr1 (by rfl) GL.m GL.k GL.b .nil pass0 (pa_cons (pv 4) (pa_cons (pv 2) pa_nil))) (pe_slice sl_list (pv 3) po_none (po_some pe_int)) (nomark _)) (pss_one (ps_ret pe_bl)) pss_nil)
      (pss_cut (ps_set (i := 5) scWaits.nd rfl (Or.inr rfl) (pe_lc (own := [("_law_label", 6)]) (g := gName 6) (tt := tTest (tOp rEq (tOp (rIxL K) (tVar 1) (tVar 6)) (tC (.str "level")))) (te := tVar 6) rfl scWaits.nd (pi_list (pv 3)) (blkOk_by (N := nWaits) (sc := defScope sWaits) (by decide +kernel)) (fun _ _ _ _ _ => pg_name (i := 6) scWaits.nd rfl (Or.inl rfl)) (fun _ _ _ _ _ => pts_one (pt_cmpR op_eq (pe_ix ix_list (pv 1) (pv 6) (fun _ _ => rfl)) pe_str (nomark _))) (fun _ _ _ _ _ => pv 6)))
      (pss_cut (ps_set (i := 7) scWaits.nd rfl (Or.inl rfl) (pe_op op_cat (pe_slice sl_list (pv 3) (po_some pe_int) po_none) (pe_lc (own := [("_law_label", 6)]) (g := gName 6) (tt := tTest (tOp (rIn K false) (tVar 6) (tVar 5))) (te := tVar 6) rfl scWaits.nd (pi_list (pe_slice sl_list (pv 3) po_none (po_some pe_int))) (blkOk_by (N := nWaits) (sc := defScope sWaits) (by decide +kernel)) (fun _ _ _ _ _ => pg_name (i := 6) scWaits.nd rfl (Or.inl rfl)) (fun _ _ _ _ _ => pts_one (pt_cmpR op_in_seq (pv 6) (pv 5) (by rfl))) (fun _ _ _ _ _ => pv 6))))
      (pss_cut (ps_if (pt_cmpR (op_neD hu) (pe_call GL.g hr1 (by rfl) GL.m GL.k GL.b .nil pass0 (pa_cons (pe_meth (pv 0) T.cl GW.m GW.g hr GW.b .nil pass0 (pa_cons pe_int (pa_cons pe_int (pa_cons pe_int pa_nil)))) (pa_cons (pv 2) pa_nil))) (pv 7) (nomark _)) (pss_one (ps_ret pe_bl)) pss_nil)
      (pss_cut (ps_for PassesOwn.never rfl (pi_range1 (by rfl) X.range (pa_cons pe_int pa_nil)) (pg_name (i := 8) scWaits.nd rfl (Or.inl rfl))
        (pss_one (ps_if (PW.pt (pw_or (pt_cmpR (op_neD hu) (pe_call GL.g hr1 (by rfl) GL.m GL.k GL.b .nil pass0 (pa_cons (pe_meth (pv 0) T.cl GW.m GW.g hr GW.b .nil pass0 (pa_cons pe_int (pa_cons pe_int (pa_cons pe_int pa_nil)))) (pa_cons (pv 2) pa_nil))) (pv 5) (nomark _))
          (pw_or1 (pt_cmpR (op_neD hu) (pe_meth (pv 0) T.cl GR.m GR.g hr GR.b .nil pass0 (pa_cons pe_int (pa_cons pe_int pa_nil))) (pv 5) (nomark _))))) (pss_one (ps_ret pe_bl)) pss_nil)))
      (pss_one (ps_ret pe_bl))))))))), ?_⟩
    have lq : q.length = 3 := hq.length_eq
    have nq : q.Nodup := hq.nodup_iff.mpr (by decide)
    have inq : ∀ x ∈ q, 0 ≤ x ∧ x.toNat < 3 := fun x hx => by
      have := hq.mem_iff.mp hx
      simp only [List.mem_cons, List.not_mem_nil, or_false] at this
      rcases this with rfl | rfl | rfl <;> decide
    have hfq : q.filter (lev (wdF ws)) = [L] := filter_one nq hL hlev
    -- the row
    refine ⟨fun σ' H1 => ∃ r : Addr, σ' = [some (.ref box), some (.ref wl), some (.int u), some (.ref r), none, none, none, none, none] ∧ WQ C Hb H1 p box ((r, .lst (q.map V.int)) :: ks) (PA (wdF ws) u true e q e2 q2), ?_, ?_⟩
    · obtain ⟨bx, bS, td, sd, ud, hb⟩ := W0.boxAt
      walk_at "wn"
      refine ⟨_, rfl, box, bx, _, rfl, hb, rfl, ?_⟩
      walk_at "wn"
      refine W0.rowOf fun r hr0 => ?_
      walk_at "wn"
      exact ⟨r, rfl, W0.new hr0⟩
    rintro σ' H1 ⟨r, rfl, W1⟩
    refine ⟨fun σ' H2 => σ' = [some (.ref box), some (.ref wl), some (.int u), some (.ref r), none, none, none, none, none] ∧ WQ C Hb H2 p box ((r, .lst (q.map V.int)) :: ks) (PA (wdF ws) u true e q e2 q2), ?_, ?_⟩
    · have hr1 := W1.kat _ List.mem_cons_self
      walk_at "wn"
      refine ⟨r, _, rfl, SqL.of hr1, by omega, fun ns c1 hp hs hc1 => ?_⟩
      rw [asc3 hp hq hs]
      have sa := Same.new' (o := .lst (([0, 1, 2] : List Int).map V.int)) hc1
      walk_at "wn"
      refine ⟨by show 3 ≤ sizeLine; decide, fun c2 hc2 => ?_⟩
      have sb := Same.new' (o := .lst (([0, 1, 2] : List Int).map V.int)) hc2
      refine q_neInts (l := [0, 1, 2]) (sb _ _ upd_same) upd_same ?_
      walk_at "wn"
      exact ⟨rfl, W1.same' (sa.trans sb)⟩
    rintro σ' H2 ⟨rfl, W2⟩
    -- the first wait
    refine ⟨fun σ' H3 => ∃ (t : Addr) (rs : List V), σ' = [some (.ref box), some (.ref wl), some (.int u), some (.ref r), some (.ref t), none, none, none, none] ∧ WQ C Hb H3 p box ((r, .lst (q.map V.int)) :: ks) (PA (wdF ws) u true e (q.drop 1 ++ (q.take 1).filter (lev (wdF ws))) e2 q2) ∧ H3 t = some (.lst rs) ∧ Paired (RepAt H3) rs ((q.take 1).map (repU u)), ?_, ?_⟩
    · obtain ⟨bx, bS, td, sd, ud, hb⟩ := W2.boxAt
      walk_at "wn"
      refine ⟨_, rfl, box, bx, _, rfl, hb, rfl, ?_⟩
      walk_at "wn"
      refine W2.wait nWR 1 (by decide) (by decide) fun H3 t rs W3 h1 h2 h3 => ?_
      walk_at "wn"
      exact ⟨t, rs, rfl, W3, h2, h3⟩
    rintro σ' H3 ⟨t, rs, rfl, W3, ht, hp3⟩
    refine ⟨fun σ' H4 => σ' = [some (.ref box), some (.ref wl), some (.int u), some (.ref r), some (.ref t), none, none, none, none] ∧ WQ C Hb H4 p box ((r, .lst (q.map V.int)) :: ks) (PA (wdF ws) u true e (q.drop 1 ++ (q.take 1).filter (lev (wdF ws))) e2 q2), ?_, ?_⟩
    · walk_at "wn"
      refine ⟨t, u, rs, q.take 1, rfl, ht, hp3, by rw [List.length_take]; omega, fun H4 r4 s4 h4 h5 => ?_⟩
      have W4 := W3.same' s4
      have hr4 := W4.kat _ List.mem_cons_self
      walk_at "wn"
      refine ⟨r, _, rfl, SqL.of hr4, fun c hc => ?_⟩
      have ec : cutV (q.map V.int) none (some 1) = (q.take 1).map V.int := (cut_to _ (n := 1) (by rw [List.length_map]; omega)).trans (List.map_take (f := V.int) (l := q)).symm
      rw [ec]
      have sc := Same.new' (o := .lst ((q.take 1).map V.int)) hc
      refine q_neInts (sc _ _ h5) upd_same ?_
      walk_at "wn"
      exact ⟨rfl, W4.same' sc⟩
    rintro σ' H4 ⟨rfl, W4⟩
    -- the level ones
    refine ⟨fun σ' H5 => ∃ lv : Addr, σ' = [some (.ref box), some (.ref wl), some (.int u), some (.ref r), some (.ref t), some (.ref lv), none, none, none] ∧ WQ C Hb H5 p box ((lv, .lst ([L].map V.int)) :: (r, .lst (q.map V.int)) :: ks) (PA (wdF ws) u true e (q.drop 1 ++ (q.take 1).filter (lev (wdF ws))) e2 q2), ?_, ?_⟩
    · have hr4 := W4.kat _ List.mem_cons_self
      have hw4 := W4.kat _ (List.mem_cons_of_mem _ hwl)
      walk_at "wn"
      refine ⟨_, rfl, r, rfl, ⟨_, SqL.of hr4⟩, fun D hD => lc_list (K := K) (a := r) (xs := q.map V.int) (fun i H' => Same H4 H' ∧ H' D = some (.lst (((q.take i).filter (lev (wdF ws))).map V.int))) ⟨Same.new' hD, by rw [upd_same]; rfl⟩ (fun i H' _ h => SqL.of (h.1 _ _ hr4)) ?_ ?_⟩
      · rintro i v H' hv ⟨sm, hD'⟩
        rw [List.getElem?_map] at hv
        cases el : q[i]? with
        | none => rw [el] at hv; cases hv
        | some x =>
        rw [el] at hv
        cases hv
        obtain ⟨x0, x1⟩ := inq x (List.mem_of_getElem? el)
        refine ⟨rfl, ?_⟩
        show tTest _ _ _ _
        walk_at "wn"
        refine ⟨wl, _, x, _, rfl, rfl, SqL.of (sm _ _ hw4), at_ws x0 (by rw [hws]; exact x1), ?_⟩
        walk_at "wn"
        have ed : decide (V.str (wdF ws x) = V.str "level") = lev (wdF ws) x := by
          unfold lev
          by_cases z : wdF ws x = "level"
          · rw [decide_eq_true z, decide_eq_true (by rw [z])]
          · rw [decide_eq_false z, decide_eq_false fun y => z (V.str.inj y)]
        rw [ed, filter_take el, List.map_append]
        refine ite2 (fun hc => ?_) (fun hc => ?_)
        · rw [if_pos hc]
          walk_at "wn"
          refine ⟨_, hD', ?_, fun b o z => ?_, upd_same⟩
          · rw [List.length_map]
            have : ((q.take i).filter (lev (wdF ws))).length ≤ (q.take i).length := List.length_filter_le _ _
            rw [List.length_take] at this
            rw [sizeLine_eq]
            omega
          · rw [upd_ne (ne_of_none z hD)]
            exact sm _ _ z
        · rw [if_neg hc]
          show _ ∧ H' D = some (.lst (_ ++ []))
          rw [List.append_nil]
          exact ⟨sm, hD'⟩
      · rintro H' ⟨sm, hD'⟩
        rw [List.length_map, List.take_length, hfq] at hD'
        walk_at "wn"
        exact ⟨D, rfl, W4.hold hD (Dr.same W4.bag sm) hD'⟩
    rintro σ' H5 ⟨lv, rfl, W5⟩
    -- what is due
    refine ⟨fun σ' H6 => ∃ du : Addr, σ' = [some (.ref box), some (.ref wl), some (.int u), some (.ref r), some (.ref t), some (.ref lv), none, some (.ref du), none] ∧ WQ C Hb H6 p box ((du, .lst ((q.drop 1 ++ (q.take 1).filter (lev (wdF ws))).map V.int)) :: (lv, .lst ([L].map V.int)) :: (r, .lst (q.map V.int)) :: ks) (PA (wdF ws) u true e (q.drop 1 ++ (q.take 1).filter (lev (wdF ws))) e2 q2), ?_, ?_⟩
    · have hr5 := W5.kat _ (List.mem_cons_of_mem _ List.mem_cons_self)
      have hl5 := W5.kat _ List.mem_cons_self
      walk_at "wn"
      refine ⟨r, _, rfl, SqL.of hr5, fun c1 hc1 => ?_⟩
      have e1 : cutV (q.map V.int) (some 1) none = (q.drop 1).map V.int := (cut_from _ (n := 1) (by rw [List.length_map]; omega)).trans (List.map_drop (f := V.int) (l := q)).symm
      rw [e1]
      have s1 := Same.new' (o := .lst ((q.drop 1).map V.int)) hc1
      have hc1' : upd H5 c1 (.lst ((q.drop 1).map V.int)) c1 = some (.lst ((q.drop 1).map V.int)) := upd_same
      generalize upd H5 c1 (.lst ((q.drop 1).map V.int)) = H5a at s1 hc1'
      walk_at "wn"
      refine ⟨_, rfl, _, rfl, r, _, rfl, SqL.of (s1 _ _ hr5), fun c2 hc2 => ?_⟩
      have e2' : cutV (q.map V.int) none (some 1) = (q.take 1).map V.int := (cut_to _ (n := 1) (by rw [List.length_map]; omega)).trans (List.map_take (f := V.int) (l := q)).symm
      rw [e2']
      have s2 := s1.trans (Same.new' (o := .lst ((q.take 1).map V.int)) hc2)
      have hc2' : upd H5a c2 (.lst ((q.take 1).map V.int)) c2 = some (.lst ((q.take 1).map V.int)) := upd_same
      have hc1b : upd H5a c2 (.lst ((q.take 1).map V.int)) c1 = some (.lst ((q.drop 1).map V.int)) := Same.new' hc2 _ _ hc1'
      generalize upd H5a c2 (.lst ((q.take 1).map V.int)) = H5b at s2 hc2' hc1b
      refine ⟨c2, rfl, ⟨_, SqL.of hc2'⟩, fun D hD => lc_list (K := K) (a := c2) (xs := (q.take 1).map V.int) (fun i H' => Same H5b H' ∧ H' D = some (.lst ((((q.take 1).take i).filter (lev (wdF ws))).map V.int))) ⟨Same.new' hD, by rw [upd_same]; rfl⟩ (fun i H' _ h => SqL.of (h.1 _ _ hc2')) ?_ ?_⟩
      · rintro i v H' hv ⟨sm, hD'⟩
        rw [List.getElem?_map] at hv
        cases el : (q.take 1)[i]? with
        | none => rw [el] at hv; cases hv
        | some x =>
        rw [el] at hv
        cases hv
        have hxq : x ∈ q := List.mem_of_mem_take (List.mem_of_getElem? el)
        refine ⟨rfl, ?_⟩
        show tTest _ _ _ _
        walk_at "wn"
        refine ⟨lv, [L].map V.int, rfl, .inl (SqL.of (sm _ _ (s2 _ _ hl5))), rfl, flat_ints [L], ?_⟩
        refine ⟨_, rfl, ?_⟩
        show if inV (.int x) ([L].map V.int) = true then _ else _
        rw [inV_int]
        have ed : decide (x ∈ [L]) = lev (wdF ws) x := by
          by_cases z : x = L
          · rw [decide_eq_true (by rw [z]; exact List.mem_cons_self), (hlev x hxq).mpr z]
          · rw [decide_eq_false (fun y => z (List.mem_singleton.mp y))]
            exact (Bool.eq_false_iff.mpr fun y => z ((hlev x hxq).mp y)).symm
        rw [ed, filter_take el, List.map_append]
        refine ite2 (fun hc => ?_) (fun hc => ?_)
        · rw [if_pos hc]
          walk_at "wn"
          refine ⟨_, hD', ?_, fun b o z => ?_, upd_same⟩
          · rw [List.length_map]
            have : (((q.take 1).take i).filter (lev (wdF ws))).length ≤ ((q.take 1).take i).length := List.length_filter_le _ _
            rw [List.length_take, List.length_take] at this
            rw [sizeLine_eq]
            omega
          · rw [upd_ne (ne_of_none z hD)]
            exact sm _ _ z
        · rw [if_neg hc]
          show _ ∧ H' D = some (.lst (_ ++ []))
          rw [List.append_nil]
          exact ⟨sm, hD'⟩
      · rintro H' ⟨sm, hD'⟩
        rw [List.length_map, List.take_length] at hD'
        have W5c := W5.same' (s2.trans sm)
        refine ⟨c1, D, _, _, rfl, rfl, sm _ _ hc1b, hD', ?_, fun du hdu => ?_⟩
        · rw [List.length_map, List.length_map, List.length_drop, sizeLine_eq]
          have : ((q.take 1).filter (lev (wdF ws))).length ≤ (q.take 1).length := List.length_filter_le _ _
          rw [List.length_take] at this
          omega
        have W6 := W5c.new (o := .lst ((q.drop 1).map V.int ++ ((q.take 1).filter (lev (wdF ws))).map V.int)) hdu
        rw [← List.map_append] at W6 ⊢
        walk_at "wn"
        exact ⟨du, rfl, W6⟩
    rintro σ' H6 ⟨du, rfl, W6⟩
    generalize hrow : q.drop 1 ++ (q.take 1).filter (lev (wdF ws)) = row1 at W6
    have len1 : row1.length ≤ 3 := by
      rw [← hrow, List.length_append, List.length_drop]
      have : ((q.take 1).filter (lev (wdF ws))).length ≤ (q.take 1).length := List.length_filter_le _ _
      rw [List.length_take] at this
      omega
    have f1 : row1.filter (lev (wdF ws)) = [L] := by
      have n1 : row1.Nodup := W6.pure fun S h => h.qn
      refine filter_one n1 ?_ fun x hx => ?_
      · rw [← hrow]
        rw [← List.take_append_drop 1 q] at hL
        rcases List.mem_append.mp hL with y | y
        · refine List.mem_append.mpr (.inr (List.mem_filter.mpr ⟨y, (hlev L (List.mem_of_mem_take y)).mpr rfl⟩))
        · exact List.mem_append.mpr (.inl y)
      · refine hlev x ?_
        rw [← hrow] at hx
        rcases List.mem_append.mp hx with y | y
        · exact List.mem_of_mem_drop y
        · exact List.mem_of_mem_take (List.mem_filter.mp y).1
    have t9 : ∀ {l : List Int}, l.length ≤ 3 → l.take 9 = l ∧ l.drop 9 = [] := fun h => ⟨List.take_of_length_le (by omega), List.drop_of_length_le (by omega)⟩
    -- the second wait
    refine ⟨fun σ' H7 => σ' = [some (.ref box), some (.ref wl), some (.int u), some (.ref r), some (.ref t), some (.ref lv), none, some (.ref du), none] ∧ WQ C Hb H7 p box ((lv, .lst ([L].map V.int)) :: ks) (PA (wdF ws) u true e [L] e2 q2), ?_, ?_⟩
    · obtain ⟨bx, bS, td, sd, ud, hb⟩ := W6.boxAt
      walk_at "wn"
      refine ⟨_, rfl, box, bx, _, rfl, hb, rfl, ?_⟩
      walk_at "wn"
      refine W6.wait nWR 9 (by decide) (by decide) fun H7 t7 rs7 W7 h1 h2 h3 => ?_
      rw [(t9 len1).1] at h3
      rw [(t9 len1).1, (t9 len1).2, List.nil_append, f1] at W7
      walk_at "wn"
      refine ⟨t7, u, rs7, row1, rfl, h2, h3, by omega, fun H8 r8 s8 h4 h5 => ?_⟩
      have W8 := W7.same' s8
      have hd8 := W8.kat _ List.mem_cons_self
      walk_at "wn"
      refine q_neInts h5 hd8 ?_
      walk_at "wn"
      refine ⟨rfl, W8.sub fun z hz => ?_⟩
      rcases List.mem_cons.mp hz with rfl | hz
      · exact List.mem_cons_of_mem _ List.mem_cons_self
      · exact List.mem_cons_of_mem _ (List.mem_cons_of_mem _ (List.mem_cons_of_mem _ hz))
    rintro σ' H7 ⟨rfl, W7⟩
    refine ⟨fun σ' H8 => ∃ v8, σ' = [some (.ref box), some (.ref wl), some (.int u), some (.ref r), some (.ref t), some (.ref lv), none, some (.ref du), v8] ∧ WQ C Hb H8 p box ((lv, .lst ([L].map V.int)) :: ks) (PA (wdF ws) u true e [L] e2 q2), ?_, ?_⟩
    · show iRng1 _ _ _ _
      show tCons _ _ _ _ _
      walk_at "wn"
      refine ⟨3, rfl, by decide, by decide, ?_⟩
      refine for_range (lo := 0) (fun j σ' H8 => ∃ v8, σ' = [some (.ref box), some (.ref wl), some (.int u), some (.ref r), some (.ref t), some (.ref lv), none, some (.ref du), v8] ∧ WQ C Hb H8 p box ((lv, .lst ([L].map V.int)) :: ks) (PA (wdF ws) u true e [L] e2 q2)) ⟨_, rfl, W7⟩ ?_ (fun _ _ h => h)
      rintro j σ' H8 hj ⟨v8, rfl, W8⟩
      obtain ⟨bx, bS, td, sd, ud, hb⟩ := W8.boxAt
      walk_at "wn"
      refine ⟨_, rfl, box, bx, _, rfl, hb, rfl, ?_⟩
      walk_at "wn"
      refine W8.wait nWR 9 (by decide) (by decide) fun H9 t9' rs9 W9 h1 h2 h3 => ?_
      have fL : ([L] : List Int).filter (lev (wdF ws)) = [L] := by
        rw [List.filter_cons, if_pos ((hlev L hL).mpr rfl)]
        rfl
      have W9 : WQ C Hb H9 p box ((lv, .lst ([L].map V.int)) :: ks) (PA (wdF ws) u true e ([L].filter (lev (wdF ws))) e2 q2) := W9
      rw [fL] at W9
      walk_at "wn"
      refine ⟨t9', u, rs9, [L], rfl, h2, h3, by show 1 ≤ 100; decide, fun Ha ra sa h4 h5 => ?_⟩
      have Wa := W9.same' sa
      have hla := Wa.kat _ List.mem_cons_self
      walk_at "wn"
      refine q_neInts h5 hla ?_
      obtain ⟨bx, bS, td, sd, ud, hb⟩ := Wa.boxAt
      walk_at "wn"
      refine ⟨_, rfl, box, bx, _, rfl, hb, rfl, ?_⟩
      walk_at "wn"
      refine Wa.rowOf fun rr hrr => ?_
      have sb := Same.new' (o := .lst ([L].map V.int)) hrr
      walk_at "wn"
      refine q_neInts (l := [L]) upd_same (sb _ _ hla) ?_
      walk_at "wn"
      exact ⟨_, rfl, Wa.same' sb⟩
    rintro σ' H8 ⟨v8, rfl, W8⟩
    walk_at "wn"
    exact k _ (W8.sub fun z hz => List.mem_cons_of_mem _ hz)
end
end Wn

namespace Wn
open PySem PySem.Spec PyProof.Rows L2 Evl
local macro_rules | `(tactic| walk_at "wn1") => `(tactic| first | ((with_reducible show (if (!decide _) = true then _ else _)); refine' g_nes ?_) | ((with_reducible show (if (decide _) = true then _ else _)); refine' g_es ?_) | with_reducible first
  | (refine' g_var ?h ?q; (case h => with_unfolding_all rfl))
  | refine' g_c ?_ | refine' g_op ?_ | refine' g_rI0 ?_ | refine' g_asg ?_ | refine' g_name ?_ | refine' g_seq ?_ | refine' g_ret ?_ | refine' g_retN ?_ | refine' g_next ?_ | refine' g_drop ?_
  | refine' g_nil ?_ | refine' g_cons ?_ | refine' g_cb ?_ | refine' g_test ?_ | refine' g_bl ?_ | refine' g_if ?_ | refine' g_ifs ?_ | refine' g_not ?_ | refine' g_part ?_ | refine' g_pint ?_ | refine' g_nopart ?_ | refine' g_call ?_
  | (refine' g_mul ?h ?q; (case h => with_unfolding_all first | exact Or.inl ⟨by decide, by decide⟩ | exact Or.inr ⟨by decide, by decide⟩ | exact Or.inl ⟨by omega, by omega⟩ | exact Or.inr ⟨by omega, by omega⟩))
  | (refine' g_mod ?h ?q; (case h => with_unfolding_all first | decide | omega))
  | refine' g_rIsN ?_ | refine' g_rNotN ?_ | refine' g_max2 ?_ | refine' g_min2 ?_ | refine' g_and ?_ | refine' g_or ?_ | refine' g_orV ?_ | refine' g_andV ?_ | refine' g_notV ?_ | refine' g_m1 ?_ | refine' g_yes ?_ | refine' g_bm ?_ | refine' g_bm0 ?_
  | (refine' g_tyL ?h ?q; (case h => first | assumption | exact upd_same))
  | refine' g_m0 ?_ | refine' g_tB ?_ | refine' g_isS ?_ | refine' g_bT ?_ | refine' g_bF ?_ | refine' g_bNT ?_ | refine' g_callK ?_ | refine' g_bNF ?_
  | (refine' g_lenL ?h ?q; (case h => first | assumption | exact upd_same))
  | refine' g_un ?_ | refine' g_rint _ ?_ | refine' g_rabs ?_ | refine' g_sl ?_ 
  | (refine' g_ixL ?h ?a ?q; (case h => first | assumption | exact upd_same); (case a => with_unfolding_all rfl))
  | (refine' g_div ?h0 ?h1 ?q; (case h0 => with_unfolding_all first | decide | omega); (case h1 => with_unfolding_all first | decide | omega))
  | refine' g_sub ?_
  | (refine' g_setL ?h ?a ?q; (case h => first | assumption | exact upd_same); (case a => with_unfolding_all rfl))
  | refine' g_lst ?_ | refine' g_tup ?_
  | (refine' g_rEq ?h ?q; (case h => with_unfolding_all rfl)) | (refine' g_rNe ?h ?q; (case h => with_unfolding_all rfl)))
local macro_rules | `(tactic| walk_at "wn") => `(tactic| repeat walk_at "wn1")

abbrev intsTo (n : Nat) : List Int := (List.range n).map fun j : Nat => (j : Int)
abbrev LEO : List Str := ["level", "edge", "once"]
theorem dp_strs {K : PySem.W.Frag} {H : Hp} : ∀ l : List Str, DpAll K H (l.map V.str) (l.map PyData.str)
  | [] => .nil
  | _ :: l => .cons (.str _) (dp_strs l)
theorem strs_lay : ∀ l : List Str, (∀ x ∈ l, PyData.strOk x = true) → PyData.canLayAll0 (l.map PyData.str) = true ∧ PyData.depthAll (l.map PyData.str) = 0
  | [], _ => ⟨rfl, rfl⟩
  | c :: l, h => by
    obtain ⟨a, b⟩ := strs_lay l fun x hx => h x (List.mem_cons_of_mem _ hx)
    refine ⟨?_, ?_⟩
    · simp only [List.map_cons, PyData.canLayAll0, a, Bool.and_true, PyData.canLay0]
      exact h c List.mem_cons_self
    · simp only [List.map_cons, PyData.depthAll, b, PyData.depth]
      rfl
theorem strs_shaped (l : List Str) (h : ∀ x ∈ l, PyData.strOk x = true) : SeqAt.shaped (.list (l.map PyData.str)) = true := by
  obtain ⟨a, b⟩ := strs_lay l h
  unfold SeqAt.shaped
  rw [Bool.and_eq_true]
  refine ⟨by simp only [PyData.canLay0]; exact a, decide_eq_true ?_⟩
  simp only [PyData.depth, b]
  decide
theorem leo_ok : ∀ x ∈ LEO, PyData.strOk x = true := by decide +kernel
theorem q_neNilS {K : PySem.W.Frag} {H : Hp} {a b : Addr} {Q : VK} {l : List Str} (h : ∀ x ∈ l, PyData.strOk x = true) (h1 : H a = some (.lst (l.map V.str))) (h2 : H b = some (.lst [])) (k : Q (.bl (!l.isEmpty)) H) : rNeD K (.ref a) (.ref b) H Q := by
  refine ⟨_, _, .lst (SqL.of h1) (dp_strs l), .lst (SqL.of h2) .nil, strs_shaped l h, rfl, ?_⟩
  have e : PyData.eqv (.list (l.map PyData.str)) (.list []) = l.isEmpty := by
    cases l with
    | nil => rfl
    | cons a b => rfl
  rw [e]
  exact k
theorem split_atS : ∀ {n : Nat} {xs : List Str}, n < xs.length → ∃ A l B, xs = A ++ l :: B ∧ A.length = n
  | 0, x :: xs, _ => ⟨[], x, xs, rfl, rfl⟩
  | n + 1, x :: xs, h => by
    obtain ⟨A, l, B, e, hA⟩ := split_atS (n := n) (xs := xs) (Nat.lt_of_succ_lt_succ h)
    exact ⟨x :: A, l, B, by rw [e]; rfl, by rw [← hA]; rfl⟩
theorem wd_at {ws : List Str} {x : Int} (h1 : x.toNat < ws.length) : ws[x.toNat]? = some (wdF ws x) := by
  unfold wdF
  rw [List.getD_eq_getElem?_getD, List.getElem?_eq_getElem h1]
  rfl
theorem wd_in {ws : List Str} (hp : ws.Perm LEO) {x : Int} (h1 : x.toNat < 3) : wdF ws x ∈ wordsL := by
  have l3 : ws.length = 3 := hp.length_eq
  exact hp.mem_iff.mp (List.mem_of_getElem? (wd_at (by rw [l3]; exact h1)))
theorem lev_one {ws : List Str} (hp : ws.Perm LEO) : ∃ L : Int, 0 ≤ L ∧ L.toNat < 3 ∧ ws[L.toNat]? = some "level" ∧ ∀ x : Int, 0 ≤ x → x.toNat < 3 → (lev (wdF ws) x = true ↔ x = L) := by
  have l3 : ws.length = 3 := hp.length_eq
  have nd : ws.Nodup := hp.nodup_iff.mpr (by decide)
  obtain ⟨i, hi⟩ := List.getElem?_of_mem (hp.mem_iff.mpr (show ("level" : Str) ∈ LEO by decide))
  have hi3 : i < 3 := by rw [← l3]; exact (List.getElem?_eq_some_iff.mp hi).1
  refine ⟨i, by omega, by rw [Int.toNat_natCast]; exact hi3, by rw [Int.toNat_natCast]; exact hi, fun x h0 h1 => ?_⟩
  have hx := wd_at (ws := ws) (x := x) (by rw [l3]; exact h1)
  unfold lev
  constructor
  · intro z
    rw [of_decide_eq_true z] at hx
    have := nodup_idx nd hx hi
    omega
  · intro z
    rw [z, Int.toNat_natCast, hi] at hx
    exact decide_eq_true (by rw [z]; exact (Option.some.inj hx).symm)
abbrev oth (late : Int) : List Int := (intsTo 3).filter fun x => decide (x ≠ late)
theorem oth_facts {late : Int} (h0 : 0 ≤ late) (h1 : late < 3) : (oth late ++ [late]).Perm [0, 1, 2] ∧ (oth late).Nodup ∧ (∀ x ∈ oth late, 0 ≤ x ∧ x.toNat < 3 ∧ x ≠ late) ∧ (oth late).length = 2 := by
  have : late = 0 ∨ late = 1 ∨ late = 2 := by omega
  rcases this with rfl | rfl | rfl <;> exact ⟨by decide, by decide, by decide, by decide⟩
abbrev rowJ (L : Int) (j : Nat) : List Int := (intsTo j).foldl (fun acc l => qAdd l acc) [L]
theorem rowJ_succ (L : Int) (j : Nat) : rowJ L (j + 1) = qAdd (j : Int) (rowJ L j) := by
  unfold rowJ intsTo
  rw [List.range_succ, List.map_append, List.foldl_append]
  rfl
theorem rowJ_3 {L : Int} (h0 : 0 ≤ L) (h1 : L.toNat < 3) : (rowJ L 3).Perm [0, 1, 2] ∧ L ∈ rowJ L 3 := by
  have : L = 0 ∨ L = 1 ∨ L = 2 := by omega
  rcases this with rfl | rfl | rfl <;> exact ⟨by decide, by decide⟩
abbrev nLaw : List Str := ["_law_script", "_law_at", "_law_bag_here", "_law_turn", "_law_box", "_law_unread", "_law_left", "_law_words", "_law_late", "_law_label", "_law_one"]
section
variable {P : Program} {w : World} {K : PySem.W.Frag} {mg : Str → Option Value} {base : Heap} {C : Cs}
def spLaw (K : PySem.W.Frag) : Sp := fun vs H Q _ => ∃ (a : Addr) (ns : List Int), vs = [.ref a] ∧ SqL K H a (ns.map V.int) ∧ ns.length ≤ 63 ∧ ∀ H', Q (.bl true) H'
theorem scLaw : FnScope nLaw ["_law_script"] (defScope sLaw) := ⟨rfl, rfl, rfl, by decide +kernel, rfl, by decide +kernel, by decide +kernel⟩
theorem okLaw {f fB fT fL fY fI fE fN fC fA fF fR fW fH fD : Addr} {fd fdB fdT fdL fdY fdI fdE fdN fdC fdA fdF fdR fdW fdH fdD : FuncData} {dC dI dR : List Value} {gA gH : List Value → List Value → List Value} (F : Fun K "law" "law" sLaw f fd) (X : LawTx mg) (T : ClsF K C.S sysF) (nWR : C.W ≠ C.R)
    (GB : DO P w K mg base 1 "_law_bag" ["_law_script", "_law_at"] (spBag K) fB fdB) (GT : DO P w K mg base 1 "_law_take" ["_law_bag_here", "_law_many"] spTake fT fdT)
    (GL : DO P w K mg base 1 "_law_labels" ["_law_reports", "_law_unread"] spLabels fL fdL) (GWt : DO P w K mg base 7 "_law_waits" ["_law_box", "_law_words", "_law_unread"] (spWaits C) fY fdY)
    (gS : mg "System" = some (.ref C.S)) (MS : Mk K C.S fI) (GI : FnOk P w K mg base CX0 3 fI fdI ["self", "processes", "numbers"] (spSysInit C)) (bI : Binds K fdI ["self", "processes", "numbers"] dI) (ddI : Vals [V.int 4, V.int 8] dI)
    (GE : MO P w K mg base 6 C.S "new_set" ["self", "process"] (spNewSet C) fE fdE) (GN : MO P w K mg base 6 C.S "new_source" ["self", "process"] (spNewSource C) fN fdN)
    (GC0 : MD P w K mg base 5 C.S "copy" ["self", "process", "number", "to"] (spCopy C) fC fdC dC [.non])
    (GA : MO P w K mg base 6 C.S "arrive" ["self", "process", "number", "many"] (spArrive C) fA fdA) (GF : MO P w K mg base 6 C.S "finish" ["self", "process", "number"] (spFinish C) fF fdF)
    (GAk : MW P w K mg base 6 C.S "add" ["self", "process", "set_number", "number", "label", "word"] (spAdd C) fD fdD 5 ["word"] gA (fun vs zs => vs ++ zs)) (GCh : MW P w K mg base 6 C.S "change" ["self", "process", "set_number", "number", "word"] (spChange C) fH fdH 4 ["word"] gH (fun vs zs => vs ++ zs))
    (GR : MD P w K mg base 6 C.S "read" ["self", "process", "number", "many"] (spRead C) fR fdR dR [.non]) (GW : MO P w K mg base 6 C.S "wait" ["self", "process", "set_number", "most"] (spWait C) fW fdW) :
    FnOk P w K mg base CX0 8 f fd ["_law_script"] (spLaw K) := by
  refine F.ok scLaw (fun vs H Q E h => ?_) (fun cdv A outer s H vs Q E hr h => ?_)
  · obtain ⟨x, _, rfl, _⟩ := h
    rfl
  · obtain ⟨a, ns, rfl, hS, hl, k⟩ := h
    have r1 : Room 1 _ := hr.mono (by decide)
    have r4 : Room 4 _ := hr.mono (by decide)
    have r5 : Room 5 _ := hr.mono (by decide)
    have r6 : Room 6 _ := hr.mono (by decide)
    have hu := hr.units
    have dI := ddI
    refine ⟨_, pss_cut (ps_for PassesOwn.never rfl (pi_range1 (by rfl) X.range (pa_cons (pe_callB (cMax2 rfl) (by rfl) X.max (by decide +kernel) (pa_cons pe_int (pa_cons (pe_callB (cMin2 rfl) (by rfl) X.min (by decide +kernel) (pa_cons pe_int (pa_cons (pe_callB cLenQ (by rfl) X.len PySem.boot_len (pa_cons (pv 0) pa_nil)) pa_nil))) pa_nil))) pa_nil)) (pg_name (i := 1) scLaw.nd rfl (Or.inl rfl))
      (pss_cut (ps_set (i := 2) scLaw.nd rfl (Or.inl rfl) (pe_call GB.g r1 (by rfl) GB.m GB.k GB.b .nil pass0 (pa_cons (pv 0) (pa_cons (pv 1) pa_nil))))
      (pss_one (ps_for PassesOwn.never rfl (pi_range1 (by rfl) X.range (pa_cons pe_int pa_nil)) (pg_name (i := 3) scLaw.nd rfl (Or.inl rfl))
        (pss_cut (ps_par (i := 4) (j := 5) (by rfl) scLaw.nd rfl rfl (by decide) rfl rfl (pa_cons (pe_make0 MS GI r4 (by rfl) gS bI dI pass0) (pa_cons (pe_call GT.g r1 (by rfl) GT.m GT.k GT.b .nil pass0 (pa_cons (pv 2) (pa_cons pe_int pa_nil))) pa_nil)) (by rfl))
        (pss_cut (ps_expr (pe_meth (pv 4) T.cl GN.m GN.g r6 GN.b .nil pass0 (pa_cons pe_int pa_nil)))
        (pss_cut (ps_expr (pe_meth (pv 4) T.cl GC0.m GC0.g r5 GC0.b GC0.d pass0 (pa_cons pe_int (pa_cons pe_int pa_nil))))
        (pss_cut (ps_expr (pe_meth (pv 4) T.cl GC0.m GC0.g r5 GC0.b GC0.d pass0 (pa_cons pe_int (pa_cons pe_int pa_nil))))
        (pss_cut (ps_expr (pe_meth (pv 4) T.cl GE.m GE.g r6 GE.b .nil pass0 (pa_cons pe_int pa_nil)))
        (pss_cut (ps_expr (pe_meth (pv 4) T.cl GE.m GE.g r6 GE.b .nil pass0 (pa_cons pe_int pa_nil)))
        (pss_cut (ps_par (i := 6) (j := 7) (by rfl) scLaw.nd rfl rfl (by decide) rfl rfl (pa_cons (pe_lst (pa_cons pe_str (pa_cons pe_str (pa_cons pe_str pa_nil)))) (pa_cons (pe_lst pa_nil) pa_nil)) (by rfl))
        (pss_cut (ps_while PassesOwn.never (pt_cmpR (op_neD hu) (pv 6) (pe_lst pa_nil) (nomark _)) (pss_one (ps_expr (pe_bm PySem.F.plainAttrs_list PySem.F.slot_list_append PySem.F.type_list_append mt_append (pv 7) (pa_cons (pe_bm PySem.F.plainAttrs_list PySem.F.slot_list_pop PySem.F.type_list_pop mt_popAt (pv 6) (pa_cons (pe_call GT.g r1 (by rfl) GT.m GT.k GT.b .nil pass0 (pa_cons (pv 2) (pa_cons (pe_callB cLenQ (by rfl) X.len PySem.boot_len (pa_cons (pv 6) pa_nil)) pa_nil))) pa_nil)) pa_nil)))))
        (pss_cut (ps_set (i := 8) scLaw.nd rfl (Or.inr rfl) (pe_call GT.g r1 (by rfl) GT.m GT.k GT.b .nil pass0 (pa_cons (pv 2) (pa_cons pe_int pa_nil))))
        (pss_cut (ps_for PassesOwn.never rfl (pi_list (pe_lc (own := [("_law_one", 10)]) (g := gName 10) (tt := tTest (tOp rNe (tVar 10) (tVar 8))) (te := tVar 10) rfl scLaw.nd (pi_range1 (by rfl) X.range (pa_cons pe_int pa_nil)) (blkOk_by (N := nLaw) (sc := defScope sLaw) (by decide +kernel)) (fun _ _ _ _ _ => pg_name (i := 10) scLaw.nd rfl (Or.inl rfl)) (fun _ _ _ _ _ => pts_one (pt_cmpR op_ne (pv 10) (pv 8) (nomark _))) (fun _ _ _ _ _ => pv 10))) (pg_name (i := 9) scLaw.nd rfl (Or.inl rfl)) (pss_one (ps_expr (pe_methK (pv 4) T.cl GAk.m GAk.g r6 GAk.b pass0 (pa_cons pe_int (pa_cons pe_int (pa_cons (pv 9) (pa_cons (pv 9) pa_nil)))) (pk_cons (pe_ix ix_list (pv 7) (pv 9) (fun _ _ => rfl)) pk_nil)))))
        (pss_cut (ps_if (pt_cmpR op_gt (pv 5) pe_int (nomark _)) (pss_one (ps_expr (pe_meth (pv 4) T.cl GA.m GA.g r6 GA.b .nil pass0 (pa_cons pe_int (pa_cons pe_int (pa_cons (pv 5) pa_nil)))))) pss_nil)
        (pss_cut (ps_expr (pe_meth (pv 4) T.cl GF.m GF.g r6 GF.b .nil pass0 (pa_cons pe_int (pa_cons (pe_call GT.g r1 (by rfl) GT.m GT.k GT.b .nil pass0 (pa_cons (pv 2) (pa_cons pe_int pa_nil))) pa_nil))))
        (pss_cut (ps_expr (pe_methK (pv 4) T.cl GAk.m GAk.g r6 GAk.b pass0 (pa_cons pe_int (pa_cons pe_int (pa_cons (pv 8) (pa_cons (pv 8) pa_nil)))) (pk_cons (pe_ix ix_list (pv 7) (pv 8) (fun _ _ => rfl)) pk_nil)))
        (pss_cut (ps_if (pt_not (pt_val (pe_call GWt.g hr (by rfl) GWt.m GWt.k GWt.b .nil pass0 (pa_cons (pv 4) (pa_cons (pv 7) (pa_cons (pv 5) pa_nil)))))) (pss_one (ps_ret pe_bl)) pss_nil)
        (pss_cut (ps_if (PW.pt (pw_or (pt_cmpR op_ne (pe_meth (pv 4) T.cl GR.m GR.g r6 GR.b GR.d pass0 (pa_cons pe_int (pa_cons pe_int pa_nil))) (pv 5) (nomark _)) (pw_or1 (pt_cmpR (op_neD hu) (pe_call GL.g r1 (by rfl) GL.m GL.k GL.b .nil pass0 (pa_cons (pe_meth (pv 4) T.cl GW.m GW.g r6 GW.b .nil pass0 (pa_cons pe_int (pa_cons pe_int (pa_cons pe_int pa_nil)))) (pa_cons pe_int pa_nil))) (pe_lst (pa_cons (pe_bm PySem.F.plainAttrs_list PySem.F.slot_list_index PySem.F.type_list_index mt_index (pv 7) (pa_cons pe_str pa_nil)) pa_nil)) (nomark _))))) (pss_one (ps_ret pe_bl)) pss_nil)
        (pss_cut (ps_for PassesOwn.never rfl (pi_range1 (by rfl) X.range (pa_cons pe_int pa_nil)) (pg_name (i := 9) scLaw.nd rfl (Or.inl rfl)) (pss_cut (ps_expr (pe_methK (pv 4) T.cl GCh.m GCh.g r6 GCh.b pass0 (pa_cons pe_int (pa_cons pe_int (pa_cons (pv 9) pa_nil))) (pk_cons (pe_ix ix_list (pv 7) (pv 9) (fun _ _ => rfl)) pk_nil))) (pss_one (ps_expr (pe_methK (pv 4) T.cl GAk.m GAk.g r6 GAk.b pass0 (pa_cons pe_int (pa_cons pe_int (pa_cons (pv 9) (pa_cons (pv 9) pa_nil)))) (pk_cons (pe_ix ix_list (pv 7) (pv 9) (fun _ _ => rfl)) pk_nil))))))
        (pss_one (ps_if (PW.pt (pw_or (pt_not (pt_val (pe_call GWt.g hr (by rfl) GWt.m GWt.k GWt.b .nil pass0 (pa_cons (pv 4) (pa_cons (pv 7) (pa_cons pe_int pa_nil)))))) (pw_or1 (pt_cmpR (op_neD hu) (pe_callB cr_sorted (by rfl) X.sorted (by decide +kernel) (pa_cons (pe_orT (pe_call GL.g r1 (by rfl) GL.m GL.k GL.b .nil pass0 (pa_cons (pe_meth (pv 4) T.cl GW.m GW.g r6 GW.b .nil pass0 (pa_cons pe_int (pa_cons pe_int (pa_cons pe_int pa_nil)))) (pa_cons pe_int pa_nil))) (pe_one (pe_lst pa_nil))) pa_nil)) (pe_lst (pa_cons pe_int (pa_cons pe_int (pa_cons pe_int pa_nil)))) (nomark _))))) (pss_one (ps_ret pe_bl)) pss_nil))))))))))))))))))))))
      (pss_one (ps_ret pe_bl)), ?_⟩
    refine ⟨fun _ _ => True, ?_, fun σ' H' _ => ?_⟩
    · show iRng1 _ _ _ _
      show tCons _ _ _ _ _
      walk_at "wn"
      refine ⟨a, _, rfl, .inl hS, ?_⟩
      walk_at "wn"
      refine ⟨_, rfl, ?_, ?_, ?_⟩
      · split <;> split <;> omega
      · split <;> split <;> omega
      refine for_range (lo := 0) (fun i σ' H' => ∃ u1 u2 u3 u4 u5 u6 u7 u8 u9 u10 : Option V, σ' = [some (.ref a), u1, u2, u3, u4, u5, u6, u7, u8, u9, u10] ∧ SqL K H' a (ns.map V.int)) ⟨_, _, _, _, _, _, _, _, _, _, rfl, hS⟩ ?_ (fun _ _ _ => trivial)
      rintro i σ' Hb hi ⟨u1, u2, u3, u4, u5, u6, u7, u8, u9, u10, rfl, hSb⟩
      refine ⟨fun σ' H1 => ∃ p : Addr, σ' = [some (.ref a), some (.int (0 + (i : Int))), some (.ref p), u3, u4, u5, u6, u7, u8, u9, u10] ∧ Hb p = none ∧ Same Hb H1 ∧ BagAt H1 p, ?_, ?_⟩
      · walk_at "wn"
        refine ⟨a, ns, i, by simp, hSb, hl, by revert hi; split <;> split <;> omega, fun H1 p n0 s1 b1 => ?_⟩
        walk_at "wn"
        exact ⟨p, rfl, n0, s1, b1⟩
      rintro σ' H1 ⟨p, rfl, n0, s1, b1⟩
      show iRng1 _ _ _ _
      show tCons _ _ _ _ _
      walk_at "wn"
      refine ⟨4, rfl, by decide, by decide, ?_⟩
      refine for_range (lo := 0) (fun tt σ' H' => ∃ u3 u4 u5 u6 u7 u8 u9 u10 : Option V, σ' = [some (.ref a), some (.int (0 + (i : Int))), some (.ref p), u3, u4, u5, u6, u7, u8, u9, u10] ∧ Same Hb H' ∧ BagAt H' p) ⟨_, _, _, _, _, _, _, _, rfl, s1, b1⟩ ?_ (fun σ' H' h => ?_)
      rotate_left
      · obtain ⟨u3, u4, u5, u6, u7, u8, u9, u10, rfl, s2, b2⟩ := h
        walk_at "wn"
        exact ⟨_, _, _, _, _, _, _, _, _, _, rfl, Same.seq s2 hSb⟩
      clear s1 b1 H1 u3 u4 u5 u6 u7 u8 u9 u10
      rintro tt σ' H1 ht ⟨u3, u4, u5, u6, u7, u8, u9, u10, rfl, s1, b1⟩
      -- the system
      refine ⟨fun σ' H2 => ∃ (x : Addr) (u : Int), 0 ≤ u ∧ u < 4 ∧ σ' = [some (.ref a), some (.int (0 + (i : Int))), some (.ref p), some (.int (0 + (tt : Int))), some (.ref x), some (.int u), u6, u7, u8, u9, u10] ∧ WQ C Hb H2 p x [] (fun S => S = newSys 4 8), ?_, ?_⟩
      · refine fun x dx0 hx hdx nxd => ?_
        have n1 : upd (upd H1 dx0 (.own x)) x (.ins C.S dx0 []) x = some (.ins C.S dx0 []) := upd_same
        refine ⟨x, dx0, 4, 8, rfl, n1, by decide, by decide, by decide, by decide, fun H2 ad dx hb A2 k2 o2 => ⟨rfl, ?_⟩⟩
        obtain ⟨W2, s2⟩ := WQ.start s1 b1 n0 hx hdx A2 hb k2 o2
        refine ⟨_, rfl, p, 4, rfl, W2.bag, by decide, by decide, fun kk H3 k0 k1 e3 b3 => ?_⟩
        exact ⟨_, _, rfl, x, kk, k0, k1, rfl, W2.draw e3 b3⟩
      rintro σ' H2 ⟨x, u, un0, un4, rfl, W2⟩
      refine ⟨fun σ' H3 => σ' = [some (.ref a), some (.int (0 + (i : Int))), some (.ref p), some (.int (0 + (tt : Int))), some (.ref x), some (.int u), u6, u7, u8, u9, u10] ∧ WQ C Hb H3 p x [] (fun S => S = S1), ?_, ?_⟩
      · obtain ⟨bx, bS, td, sd, ud, hb⟩ := W2.boxAt
        walk_at "wn"
        refine ⟨_, rfl, x, bx, _, rfl, hb, rfl, ?_⟩
        walk_at "wn"
        refine W2.src1 fun n H3 W3 => ?_
        walk_at "wn"
        exact ⟨rfl, W3⟩
      rintro σ' H3 ⟨rfl, W3⟩
      refine ⟨fun σ' H4 => σ' = [some (.ref a), some (.int (0 + (i : Int))), some (.ref p), some (.int (0 + (tt : Int))), some (.ref x), some (.int u), u6, u7, u8, u9, u10] ∧ WQ C Hb H4 p x [] (fun S => S = S2), ?_, ?_⟩
      · obtain ⟨bx, bS, td, sd, ud, hb⟩ := W3.boxAt
        walk_at "wn"
        refine ⟨_, rfl, x, bx, _, rfl, hb, rfl, ?_⟩
        walk_at "wn"
        refine W3.copy1 fun n H4 W4 => ?_
        walk_at "wn"
        exact ⟨rfl, W4⟩
      rintro σ' H4 ⟨rfl, W4⟩
      refine ⟨fun σ' H5 => σ' = [some (.ref a), some (.int (0 + (i : Int))), some (.ref p), some (.int (0 + (tt : Int))), some (.ref x), some (.int u), u6, u7, u8, u9, u10] ∧ WQ C Hb H5 p x [] (fun S => S = S3), ?_, ?_⟩
      · obtain ⟨bx, bS, td, sd, ud, hb⟩ := W4.boxAt
        walk_at "wn"
        refine ⟨_, rfl, x, bx, _, rfl, hb, rfl, ?_⟩
        walk_at "wn"
        refine W4.copy2 fun n H5 W5 => ?_
        walk_at "wn"
        exact ⟨rfl, W5⟩
      rintro σ' H5 ⟨rfl, W5⟩
      refine ⟨fun σ' H6 => σ' = [some (.ref a), some (.int (0 + (i : Int))), some (.ref p), some (.int (0 + (tt : Int))), some (.ref x), some (.int u), u6, u7, u8, u9, u10] ∧ WQ C Hb H6 p x [] (fun S => S = S4), ?_, ?_⟩
      · obtain ⟨bx, bS, td, sd, ud, hb⟩ := W5.boxAt
        walk_at "wn"
        refine ⟨_, rfl, x, bx, _, rfl, hb, rfl, ?_⟩
        walk_at "wn"
        refine W5.set1 fun n H6 W6 => ?_
        walk_at "wn"
        exact ⟨rfl, W6⟩
      rintro σ' H6 ⟨rfl, W6⟩
      refine ⟨fun σ' H7 => σ' = [some (.ref a), some (.int (0 + (i : Int))), some (.ref p), some (.int (0 + (tt : Int))), some (.ref x), some (.int u), u6, u7, u8, u9, u10] ∧ WQ C Hb H7 p x [] (fun S => S = S5), ?_, ?_⟩
      · obtain ⟨bx, bS, td, sd, ud, hb⟩ := W6.boxAt
        walk_at "wn"
        refine ⟨_, rfl, x, bx, _, rfl, hb, rfl, ?_⟩
        walk_at "wn"
        refine W6.set2 fun n H7 W7 => ?_
        walk_at "wn"
        exact ⟨rfl, W7⟩
      rintro σ' H7 ⟨rfl, W7⟩
      -- the words
      refine ⟨fun σ' H8 => ∃ lf wl : Addr, lf ≠ wl ∧ σ' = [some (.ref a), some (.int (0 + (i : Int))), some (.ref p), some (.int (0 + (tt : Int))), some (.ref x), some (.int u), some (.ref lf), some (.ref wl), u8, u9, u10] ∧ WQ C Hb H8 p x [(lf, .lst (LEO.map V.str)), (wl, .lst (([] : List Str).map V.str))] (fun S => S = S5), ?_, ?_⟩
      · refine ⟨by show 3 ≤ sizeLine; decide, fun lf hlf => ?_⟩
        have W8 := W7.new (o := .lst (LEO.map V.str)) hlf
        refine ⟨Nat.zero_le _, fun wl hwl => ?_⟩
        have W9 := W8.new (o := .lst []) hwl
        exact ⟨_, _, rfl, lf, wl, ne_of_none upd_same hwl, rfl, W9.sub fun q hq => by
          simp only [List.mem_cons, List.not_mem_nil, or_false] at hq ⊢
          exact hq.symm⟩
      rintro σ' H8 ⟨lf, wl, nlw, rfl, W8⟩
      refine ⟨fun σ' H9 => ∃ ws : List Str, ws.Perm LEO ∧ σ' = [some (.ref a), some (.int (0 + (i : Int))), some (.ref p), some (.int (0 + (tt : Int))), some (.ref x), some (.int u), some (.ref lf), some (.ref wl), u8, u9, u10] ∧ WQ C Hb H9 p x [(wl, .lst (ws.map V.str))] (fun S => S = S5), ?_, ?_⟩
      · refine ⟨fun m σ' H9 => ∃ A B : List Str, m = A.length ∧ (B ++ A).Perm LEO ∧ σ' = [some (.ref a), some (.int (0 + (i : Int))), some (.ref p), some (.int (0 + (tt : Int))), some (.ref x), some (.int u), some (.ref lf), some (.ref wl), u8, u9, u10] ∧ WQ C Hb H9 p x [(lf, .lst (A.map V.str)), (wl, .lst (B.map V.str))] (fun S => S = S5), ⟨_, LEO, [], rfl, .refl _, rfl, W8⟩, ?_⟩
        rintro m σ' H9 ⟨A, B, rfl, pm, rfl, W9⟩
        have lz : B.length + A.length = 3 := by
          have := pm.length_eq
          rw [List.length_append] at this
          exact this
        have hl9 := W9.kat _ List.mem_cons_self
        walk_at "wn"
        refine ⟨Nat.zero_le _, fun z hz => ?_⟩
        have sz := Same.new' (o := .lst []) hz
        refine q_neNilS (fun y hy => leo_ok y (pm.mem_iff.mp (List.mem_append.mpr (.inr hy)))) (sz _ _ hl9) upd_same ?_
        have Wa := W9.same' sz
        generalize upd H9 z (.lst []) = Ha at Wa
        cases A with
        | nil =>
          show ∃ b, V.bl false = V.bl b ∧ _
          walk_at "wn"
          exact ⟨B, by rw [List.append_nil] at pm; exact pm, rfl, Wa.sub fun q hq => List.mem_cons_of_mem _ hq⟩
        | cons x1 A1 =>
          show ∃ b, V.bl true = V.bl b ∧ _
          walk_at "wn"
          refine ⟨fun σ'' H'' => ∃ m', m' < (x1 :: A1).length ∧ ∃ A B : List Str, m' = A.length ∧ (B ++ A).Perm LEO ∧ σ'' = [some (.ref a), some (.int (0 + (i : Int))), some (.ref p), some (.int (0 + (tt : Int))), some (.ref x), some (.int u), some (.ref lf), some (.ref wl), u8, u9, u10] ∧ WQ C Hb H'' p x [(lf, .lst (A.map V.str)), (wl, .lst (B.map V.str))] (fun S => S = S5), fun _ _ z => z, ?_⟩
          have l0 : 0 < (x1 :: A1).length := Nat.succ_pos _
          generalize (x1 :: A1) = A at Wa pm lz l0
          have hla := Wa.kat _ List.mem_cons_self
          have hwa := Wa.kat _ (List.mem_cons_of_mem _ List.mem_cons_self)
          walk_at "wn"
          refine ⟨p, _, rfl, Wa.bag, by rw [List.length_map]; omega, by rw [List.length_map]; omega, fun kk Hc k0 k1 ec bc => ?_⟩
          rw [List.length_map] at k1
          have Wc := Wa.draw ec bc
          have hlc := Wc.kat _ List.mem_cons_self
          obtain ⟨A1, y, A2, eA, hA⟩ := split_atS (n := kk.toNat) (xs := A) (by omega)
          subst eA
          refine ⟨lf, _, kk, kk.toNat, V.str y, rfl, rfl, hlc, by omega, by omega, seqIndex_of k0 (by rw [List.length_map]; omega), by rw [List.map_append, List.getElem?_append_right (by rw [List.length_map]; omega), List.length_map, hA, Nat.sub_self]; rfl, ?_⟩
          have er : ((A1 ++ y :: A2).map V.str).eraseIdx kk.toNat = (A1 ++ A2).map V.str := by
            rw [List.map_append, List.map_append, ← hA, ← List.length_map (f := V.str)]
            exact erase_mid _ _ _
          rw [er]
          have Wd := Wc.put (H1 := upd Hc lf (.lst ((A1 ++ A2).map V.str))) (o1 := .lst ((A1 ++ A2).map V.str)) (fun b n => upd_ne n) upd_same (fun q hq => by rw [List.mem_singleton.mp hq]; exact Ne.symm nlw)
          generalize upd Hc lf (.lst ((A1 ++ A2).map V.str)) = Hd at Wd
          have We := Wd.sub (ks1 := [(wl, .lst (B.map V.str)), (lf, .lst ((A1 ++ A2).map V.str))]) fun q hq => by
            simp only [List.mem_cons, List.not_mem_nil, or_false] at hq ⊢
            exact hq.symm
          have hwe := We.kat _ List.mem_cons_self
          refine ⟨wl, _, _, rfl, rfl, hwe, by rw [List.length_map, sizeLine_eq]; omega, ?_⟩
          have Wf := We.put (H1 := upd Hd wl (.lst (B.map V.str ++ [V.str y]))) (o1 := .lst (B.map V.str ++ [V.str y])) (fun b n => upd_ne n) upd_same (fun q hq => by rw [List.mem_singleton.mp hq]; exact nlw)
          have Wg := Wf.sub (ks1 := [(lf, .lst ((A1 ++ A2).map V.str)), (wl, .lst (B.map V.str ++ [V.str y]))]) fun q hq => by
            simp only [List.mem_cons, List.not_mem_nil, or_false] at hq ⊢
            exact hq.symm
          refine ⟨(A1 ++ A2).length, by simp, A1 ++ A2, B ++ [y], rfl, ?_, rfl, by rw [show (B ++ [y]).map V.str = B.map V.str ++ [V.str y] by rw [List.map_append]; rfl]; exact Wg⟩
          refine List.Perm.trans ?_ pm
          rw [List.append_assoc]
          exact List.Perm.append_left B (show (y :: (A1 ++ A2)).Perm (A1 ++ y :: A2) from List.perm_middle.symm)
      clear W3 W4 W5 W6 W7 W8 H3 H4 H5 H6 H7 H8 nlw
      rintro σ' H9 ⟨ws, pw, rfl, W9⟩
      have l3 : ws.length = 3 := pw.length_eq
      obtain ⟨L, L0, L1, hLx, hlev⟩ := lev_one pw
      -- the late one
      refine ⟨fun σ' Ha => ∃ late : Int, 0 ≤ late ∧ late < 3 ∧ σ' = [some (.ref a), some (.int (0 + (i : Int))), some (.ref p), some (.int (0 + (tt : Int))), some (.ref x), some (.int u), some (.ref lf), some (.ref wl), some (.int late), u9, u10] ∧ WQ C Hb Ha p x [(wl, .lst (ws.map V.str))] (fun S => S = S5), ?_, ?_⟩
      · walk_at "wn"
        refine ⟨p, 3, rfl, W9.bag, by decide, by decide, fun kk Ha k0 k1 ea ba => ?_⟩
        walk_at "wn"
        exact ⟨kk, k0, k1, rfl, W9.draw ea ba⟩
      rintro σ' Ha ⟨late, t0, t1, rfl, Wa⟩
      obtain ⟨op, on, oi, ol⟩ := oth_facts t0 t1
      -- the early ones
      refine ⟨fun σ' Hc => ∃ u9, σ' = [some (.ref a), some (.int (0 + (i : Int))), some (.ref p), some (.int (0 + (tt : Int))), some (.ref x), some (.int u), some (.ref lf), some (.ref wl), some (.int late), u9, u10] ∧ WQ C Hb Hc p x [(wl, .lst (ws.map V.str))] (PB (wdF ws) 0 false (oth late) []), ?_, ?_⟩
      · show iList _ _ _ _ _
        show tLc _ _ _ _ _ _ _ _
        show iRng1 _ _ _ _
        show tCons _ _ _ _ _
        walk_at "wn"
        refine ⟨3, rfl, by decide, by decide, fun D hD => lc_range (lo := 0) (n := 3) (fun j H' => Same Ha H' ∧ H' D = some (.lst (((intsTo j).filter fun x => decide (x ≠ late)).map V.int))) ⟨Same.new' hD, by rw [upd_same]; rfl⟩ ?_ ?_⟩
        · rintro j H' hj ⟨sm, hD'⟩
          rw [Int.zero_add]
          have es : intsTo (j + 1) = intsTo j ++ [(j : Int)] := by
            unfold intsTo
            rw [List.range_succ, List.map_append]
            rfl
          refine ⟨rfl, ?_⟩
          show tTest _ _ _ _
          walk_at "wn"
          rw [es, List.filter_append]
          by_cases h : (j : Int) = late
          · rw [show decide (V.int (j : Int) = V.int late) = true from decide_eq_true (by rw [h])]
            walk_at "wn"
            have e0 : ([(j : Int)].filter fun x => decide (x ≠ late)) = [] := by simp [h]
            rw [e0, List.append_nil]
            exact ⟨sm, hD'⟩
          · rw [show decide (V.int (j : Int) = V.int late) = false from decide_eq_false fun z => h (V.int.inj z)]
            walk_at "wn"
            have e0 : ([(j : Int)].filter fun x => decide (x ≠ late)) = [(j : Int)] := by simp [h]
            rw [e0, List.map_append]
            refine ⟨_, hD', ?_, fun b o z => ?_, upd_same⟩
            · rw [List.length_map]
              have : ((intsTo j).filter fun x => decide (x ≠ late)).length ≤ (intsTo j).length := List.length_filter_le _ _
              rw [List.length_map, List.length_range] at this
              rw [sizeLine_eq]
              omega
            · rw [upd_ne (ne_of_none z hD)]
              exact sm _ _ z
        · rintro H' ⟨sm, hD'⟩
          have Wc := Wa.hold hD (Dr.same Wa.bag sm) hD'
          refine ⟨D, rfl, ⟨_, SqL.of hD'⟩, for_list (K := K) (a := D) (xs := (oth late).map V.int) (fun j σ' Hc => ∃ u9, σ' = [some (.ref a), some (.int (0 + (i : Int))), some (.ref p), some (.int (0 + (tt : Int))), some (.ref x), some (.int u), some (.ref lf), some (.ref wl), some (.int late), u9, u10] ∧ WQ C Hb Hc p x [(D, .lst ((oth late).map V.int)), (wl, .lst (ws.map V.str))] (PB (wdF ws) 0 false ((oth late).take j) [])) ⟨_, rfl, Wc.to fun S h => by rw [h]; exact pic5 _⟩ (fun j σ' Hc _ ⟨_, _, Wc⟩ => SqL.of (Wc.kat _ List.mem_cons_self)) ?_ ?_⟩
          · rintro j v σ' Hc hv ⟨v9, rfl, Wc⟩
            rw [List.getElem?_map] at hv
            cases el : (oth late)[j]? with
            | none => rw [el] at hv; cases hv
            | some y =>
            rw [el] at hv
            cases hv
            obtain ⟨y0, y1, yl⟩ := oi y (List.mem_of_getElem? el)
            have et : (oth late).take (j + 1) = (oth late).take j ++ [y] := by rw [List.take_add_one, el]; rfl
            have ny : y ∉ (oth late).take j := fun z => by
              obtain ⟨m, hm⟩ := List.getElem?_of_mem z
              rw [List.getElem?_take] at hm
              split at hm
              · have := nodup_idx on hm el
                omega
              · cases hm
            have hwc := Wc.kat _ (List.mem_cons_of_mem _ List.mem_cons_self)
            obtain ⟨bx, bS, td, sd, ud, hb⟩ := Wc.boxAt
            walk_at "wn"
            refine ⟨_, rfl, x, bx, _, rfl, hb, rfl, ?_⟩
            walk_at "wn"
            refine ⟨wl, _, y, _, rfl, rfl, SqL.of hwc, at_ws y0 (by rw [l3]; exact y1), ?_⟩
            walk_at "wn"
            refine ⟨rfl, rfl, ?_⟩
            refine Wc.add0 y0 y1 ny (wd_in pw y1) fun Hd Wd => ?_
            walk_at "wn"
            exact ⟨_, rfl, by rw [et]; exact Wd⟩
          · rintro σ' Hc ⟨v9, rfl, Wc⟩
            walk_at "wn"
            refine ⟨_, rfl, (Wc.sub fun q hq => List.mem_cons_of_mem _ hq).to fun S h => ?_⟩
            rw [List.length_map, List.take_length] at h
            exact h
      clear W9 Wa H9 Ha u9
      rintro σ' Hc ⟨u9, rfl, Wc⟩
      -- units
      refine ⟨fun σ' Hd => ∃ q, (q = [] ∨ q = oth late) ∧ σ' = [some (.ref a), some (.int (0 + (i : Int))), some (.ref p), some (.int (0 + (tt : Int))), some (.ref x), some (.int u), some (.ref lf), some (.ref wl), some (.int late), u9, u10] ∧ WQ C Hb Hd p x [(wl, .lst (ws.map V.str))] (PB (wdF ws) u false (oth late) q), ?_, ?_⟩
      · walk_at "wn"
        refine ite2 (fun hc => ?_) (fun hc => ?_)
        · have hc : u > 0 := of_decide_eq_true hc
          obtain ⟨bx, bS, td, sd, ud, hb⟩ := Wc.boxAt
          walk_at "wn"
          refine ⟨_, rfl, x, bx, _, rfl, hb, rfl, ?_⟩
          walk_at "wn"
          refine Wc.arrive (by omega) (by omega) fun Hd Wd => ?_
          walk_at "wn"
          exact ⟨oth late, .inr rfl, rfl, Wd⟩
        · have hz : u = 0 := by
            have : ¬ u > 0 := fun z => hc (decide_eq_true z)
            omega
          subst hz
          walk_at "wn"
          exact ⟨[], .inl rfl, rfl, Wc⟩
      clear Wc Hc
      rintro σ' Hc ⟨q, hq, rfl, Wc⟩
      -- the finish
      refine ⟨fun σ' Hd => σ' = [some (.ref a), some (.int (0 + (i : Int))), some (.ref p), some (.int (0 + (tt : Int))), some (.ref x), some (.int u), some (.ref lf), some (.ref wl), some (.int late), u9, u10] ∧ WQ C Hb Hd p x [(wl, .lst (ws.map V.str))] (PA (wdF ws) u true (oth late) (oth late) [] []), ?_, ?_⟩
      · obtain ⟨bx, bS, td, sd, ud, hb⟩ := Wc.boxAt
        walk_at "wn"
        refine ⟨_, rfl, x, bx, _, rfl, hb, rfl, ?_⟩
        walk_at "wn"
        refine ⟨p, 3, rfl, Wc.bag, by decide, by decide, fun kk Hd k0 k1 ed bd => ?_⟩
        walk_at "wn"
        refine (Wc.draw ed bd).finish hq k0 (by omega) fun He We => ?_
        walk_at "wn"
        exact ⟨rfl, We⟩
      clear Wc Hc q hq
      rintro σ' Hc ⟨rfl, Wc⟩
      -- the late one is added
      refine ⟨fun σ' Hd => σ' = [some (.ref a), some (.int (0 + (i : Int))), some (.ref p), some (.int (0 + (tt : Int))), some (.ref x), some (.int u), some (.ref lf), some (.ref wl), some (.int late), u9, u10] ∧ WQ C Hb Hd p x [(wl, .lst (ws.map V.str))] (PA (wdF ws) u true (oth late ++ [late]) (oth late ++ [late]) [] []), ?_, ?_⟩
      · obtain ⟨bx, bS, td, sd, ud, hb⟩ := Wc.boxAt
        have hwc := Wc.kat _ List.mem_cons_self
        walk_at "wn"
        refine ⟨_, rfl, x, bx, _, rfl, hb, rfl, ?_⟩
        walk_at "wn"
        refine ⟨wl, _, late, _, rfl, rfl, SqL.of hwc, at_ws t0 (by rw [l3]; omega), ?_⟩
        walk_at "wn"
        refine ⟨rfl, rfl, ?_⟩
        refine Wc.add1 t0 (by omega) (fun z => (oi late z).2.2 rfl) (wd_in pw (by omega)) fun Hd Wd => ?_
        walk_at "wn"
        exact ⟨rfl, Wd⟩
      clear Wc Hc
      rintro σ' Hc ⟨rfl, Wc⟩
      generalize he : oth late ++ [late] = e at Wc op
      have ine : ∀ y, y ∈ e ↔ 0 ≤ y ∧ y.toNat < 3 := fun y => by
        rw [op.mem_iff]
        simp only [List.mem_cons, List.not_mem_nil, or_false]
        omega
      -- the waits
      refine ⟨fun σ' Hd => σ' = [some (.ref a), some (.int (0 + (i : Int))), some (.ref p), some (.int (0 + (tt : Int))), some (.ref x), some (.int u), some (.ref lf), some (.ref wl), some (.int late), u9, u10] ∧ WQ C Hb Hd p x [(wl, .lst (ws.map V.str))] (PA (wdF ws) u true e [L] [] []), ?_, ?_⟩
      · walk_at "wn"
        refine ⟨Hb, p, x, wl, _, ws, u, e, e, [], [], L, rfl, Wc, List.mem_cons_self, l3, nWR, op, (ine L).mpr ⟨L0, L1⟩, fun y hy => hlev y ((ine y).mp hy).1 ((ine y).mp hy).2, fun Hd Wd => ?_⟩
        walk_at "wn"
        exact ⟨rfl, Wd⟩
      clear Wc Hc
      rintro σ' Hc ⟨rfl, Wc⟩
      have fL : ([L] : List Int).filter (lev (wdF ws)) = [L] := by
        rw [List.filter_cons, if_pos ((hlev L L0 L1).mpr rfl)]
        rfl
      -- all is read
      refine ⟨fun σ' Hd => σ' = [some (.ref a), some (.int (0 + (i : Int))), some (.ref p), some (.int (0 + (tt : Int))), some (.ref x), some (.int u), some (.ref lf), some (.ref wl), some (.int late), u9, u10] ∧ WQ C Hb Hd p x [(wl, .lst (ws.map V.str))] (PA (wdF ws) 0 true e [L] [] []), ?_, ?_⟩
      · obtain ⟨bx, bS, td, sd, ud, hb⟩ := Wc.boxAt
        walk_at "wn"
        refine ⟨_, rfl, x, bx, _, rfl, hb, rfl, ?_⟩
        walk_at "wn"
        refine Wc.read fun Hd Wd => ?_
        walk_at "wn"
        obtain ⟨bx, bS, td, sd, ud, hb⟩ := Wd.boxAt
        refine ⟨_, rfl, x, bx, _, rfl, hb, rfl, ?_⟩
        walk_at "wn"
        refine Wd.wait nWR 9 (by decide) (by decide) fun He t9 rs9 We h1 h2 h3 => ?_
        have We : WQ C Hb He p x [(wl, .lst (ws.map V.str))] (PA (wdF ws) 0 true e ([L].filter (lev (wdF ws))) [] []) := We
        rw [fL] at We
        walk_at "wn"
        refine ⟨t9, 0, rs9, [L], rfl, h2, h3, by show 1 ≤ 100; decide, fun Hf rf sf h4 h5 => ?_⟩
        have Wf := We.same' sf
        have hwf := Wf.kat _ List.mem_cons_self
        have hLw : ws[L.toNat]? = some "level" := hLx
        have nd : ws.Nodup := pw.nodup_iff.mpr (by decide)
        walk_at "wn"
        refine ⟨wl, ws.map V.str, V.str "level", L.toNat, V.str "level", rfl, rfl, SqL.of hwf, rfl, ?_, by rw [List.getElem?_map, hLw]; rfl, by decide, fun m z' hm hz => ?_, ?_⟩
        · rw [List.all_map, List.all_eq_true]
          intro y _
          rfl
        · rw [List.getElem?_map] at hz
          cases ez : ws[m]? with
          | none => rw [ez] at hz; cases hz
          | some y =>
          rw [ez] at hz
          cases hz
          show decide (y = "level") = false
          refine decide_eq_false fun z => ?_
          rw [z] at ez
          have := nodup_idx nd ez hLw
          omega
        · have eL : ((L.toNat : Nat) : Int) = L := by omega
          rw [eL]
          walk_at "wn"
          refine ⟨by show 1 ≤ sizeLine; decide, fun c hc => ?_⟩
          have sc := Same.new' (o := .lst [V.int L]) hc
          refine q_neInts (l := [L]) (sc _ _ h5) upd_same ?_
          walk_at "wn"
          exact ⟨rfl, Wf.same' sc⟩
      clear Wc Hc
      rintro σ' Hc ⟨rfl, Wc⟩
      -- changes and twins
      refine ⟨fun σ' Hd => ∃ u9, σ' = [some (.ref a), some (.int (0 + (i : Int))), some (.ref p), some (.int (0 + (tt : Int))), some (.ref x), some (.int u), some (.ref lf), some (.ref wl), some (.int late), u9, u10] ∧ WQ C Hb Hd p x [(wl, .lst (ws.map V.str))] (PA (wdF ws) 0 true e (rowJ L 3) [0, 1, 2] [0, 1, 2]), ?_, ?_⟩
      · show iRng1 _ _ _ _
        show tCons _ _ _ _ _
        walk_at "wn"
        refine ⟨3, rfl, by decide, by decide, ?_⟩
        refine for_range (lo := 0) (fun j σ' Hd => ∃ u9, σ' = [some (.ref a), some (.int (0 + (i : Int))), some (.ref p), some (.int (0 + (tt : Int))), some (.ref x), some (.int u), some (.ref lf), some (.ref wl), some (.int late), u9, u10] ∧ WQ C Hb Hd p x [(wl, .lst (ws.map V.str))] (PA (wdF ws) 0 true e (rowJ L j) (intsTo j) (intsTo j))) ⟨_, rfl, Wc⟩ ?_ (fun _ _ h => h)
        rintro j σ' Hd hj ⟨v9, rfl, Wd⟩
        rw [Int.zero_add]
        have hj3 : j < 3 := hj
        have j0 : (0 : Int) ≤ (j : Int) := by omega
        have j1 : (j : Int).toNat < 3 := by rw [Int.toNat_natCast]; exact hj3
        refine ⟨fun σ' He => σ' = [some (.ref a), some (.int (0 + (i : Int))), some (.ref p), some (.int (0 + (tt : Int))), some (.ref x), some (.int u), some (.ref lf), some (.ref wl), some (.int late), some (.int (j : Int)), u10] ∧ WQ C Hb He p x [(wl, .lst (ws.map V.str))] (PA (wdF ws) 0 true e (rowJ L (j + 1)) (intsTo j) (intsTo j)), ?_, ?_⟩
        · obtain ⟨bx, bS, td, sd, ud, hb⟩ := Wd.boxAt
          have hwd := Wd.kat _ List.mem_cons_self
          walk_at "wn"
          refine ⟨_, rfl, x, bx, _, rfl, hb, rfl, ?_⟩
          walk_at "wn"
          refine ⟨wl, _, (j : Int), _, rfl, rfl, SqL.of hwd, at_ws j0 (by rw [l3]; exact j1), ?_⟩
          walk_at "wn"
          refine ⟨rfl, rfl, ?_⟩
          refine Wd.change ((ine _).mpr ⟨j0, j1⟩) (wd_in pw j1) fun He We => ?_
          walk_at "wn"
          exact ⟨rfl, by rw [rowJ_succ]; exact We⟩
        rintro σ' He ⟨rfl, We⟩
        obtain ⟨bx, bS, td, sd, ud, hb⟩ := We.boxAt
        have hwe := We.kat _ List.mem_cons_self
        walk_at "wn"
        refine ⟨_, rfl, x, bx, _, rfl, hb, rfl, ?_⟩
        walk_at "wn"
        refine ⟨wl, _, (j : Int), _, rfl, rfl, SqL.of hwe, at_ws j0 (by rw [l3]; exact j1), ?_⟩
        walk_at "wn"
        refine ⟨rfl, rfl, ?_⟩
        have es : intsTo (j + 1) = intsTo j ++ [(j : Int)] := by
          unfold intsTo
          rw [List.range_succ, List.map_append]
          rfl
        refine We.add2 j0 j1 (fun z => ?_) (wd_in pw j1) fun Hf Wf => ?_
        · obtain ⟨m, hm, em⟩ := List.mem_map.mp z
          have := List.mem_range.mp hm
          omega
        · walk_at "wn"
          exact ⟨_, rfl, by rw [es]; exact Wf⟩
      clear Wc Hc u9
      rintro σ' Hc ⟨u9, rfl, Wc⟩
      obtain ⟨rp, rL⟩ := rowJ_3 L0 L1
      have inr : ∀ y ∈ rowJ L 3, 0 ≤ y ∧ y.toNat < 3 := fun y hy => by
        have := rp.mem_iff.mp hy
        simp only [List.mem_cons, List.not_mem_nil, or_false] at this
        omega
      walk_at "wn"
      refine ⟨Hb, p, x, wl, _, ws, 0, e, rowJ L 3, [0, 1, 2], [0, 1, 2], L, rfl, Wc, List.mem_cons_self, l3, nWR, rp, rL, fun y hy => hlev y (inr y hy).1 (inr y hy).2, fun Hd Wd => ?_⟩
      walk_at "wn"
      obtain ⟨bx, bS, td, sd, ud, hb⟩ := Wd.boxAt
      refine ⟨_, rfl, x, bx, _, rfl, hb, rfl, ?_⟩
      walk_at "wn"
      refine Wd.wait2 nWR fun He t9 rs9 We h1 h2 h3 => ?_
      walk_at "wn"
      refine ⟨t9, 0, rs9, [0, 1, 2], rfl, h2, h3, by decide, fun Hf rf sf h4 h5 => ?_⟩
      have Wf := We.same' sf
      refine ⟨true, .inl ⟨_, SqL.of h5, rfl⟩, ?_⟩
      walk_at "wn"
      refine ⟨rf, [0, 1, 2], rfl, SqL.of h5, by decide, fun ns c1 hp hs hc1 => ?_⟩
      rw [asc3 hp (.refl _) hs]
      have sa := Same.new' (o := .lst (([0, 1, 2] : List Int).map V.int)) hc1
      walk_at "wn"
      refine ⟨by show 3 ≤ sizeLine; decide, fun c2 hc2 => ?_⟩
      have sb := Same.new' (o := .lst (([0, 1, 2] : List Int).map V.int)) hc2
      refine q_neInts (l := [0, 1, 2]) (sb _ _ upd_same) upd_same ?_
      walk_at "wn"
      have Wg := Wf.same' (sa.trans sb)
      exact ⟨_, _, _, _, _, _, _, _, rfl, Wg.same, Wg.bag⟩
    · walk_at "wn"
      exact k _
end
end Wn

namespace Wn
open PySem PySem.Spec PyProof.Rows L2 Evl
theorem all_mk {P : Program} {w : World} {K : PySem.W.Frag} {h : Heap} {mg : Str → Option Value} {fa : Addr} (X : K.In h) (G : h.Ns mainGlobals mg) (hfa : mg "law" = some (.ref fa))
    {CS CW CR : Addr}
    {f_int : Addr} {oc_int dc_int pm_int cd_int ct_int : Value} {od_int an_int : Option Addr} {sl_int : Array (Option Value)}
    {kV_int : Value}
    {f_bet : Addr} {oc_bet dc_bet pm_bet cd_bet ct_bet : Value} {od_bet an_bet : Option Addr} {sl_bet : Array (Option Value)}
    {kV_bet : Value}
    {f_cnt : Addr} {oc_cnt dc_cnt pm_cnt cd_cnt ct_cnt : Value} {od_cnt an_cnt : Option Addr} {sl_cnt : Array (Option Value)}
    {kV_cnt : Value}
    {f_lab : Addr} {oc_lab dc_lab pm_lab cd_lab ct_lab : Value} {od_lab an_lab : Option Addr} {sl_lab : Array (Option Value)}
    {kV_lab : Value}
    {f_wrd : Addr} {oc_wrd dc_wrd pm_wrd cd_wrd ct_wrd : Value} {od_wrd an_wrd : Option Addr} {sl_wrd : Array (Option Value)}
    {kV_wrd : Value}
    {f_bag : Addr} {oc_bag dc_bag pm_bag cd_bag ct_bag : Value} {od_bag an_bag : Option Addr} {sl_bag : Array (Option Value)}
    {kV_bag : Value}
    {f_take : Addr} {oc_take dc_take pm_take cd_take ct_take : Value} {od_take an_take : Option Addr} {sl_take : Array (Option Value)}
    {kV_take : Value}
    {f_lbl : Addr} {oc_lbl dc_lbl pm_lbl cd_lbl ct_lbl : Value} {od_lbl an_lbl : Option Addr} {sl_lbl : Array (Option Value)}
    {kV_lbl : Value}
    {f_wts : Addr} {oc_wts dc_wts pm_wts cd_wts ct_wts : Value} {od_wts an_wts : Option Addr} {sl_wts : Array (Option Value)}
    {kV_wts : Value}
    {f_law : Addr} {oc_law dc_law pm_law cd_law ct_law : Value} {od_law an_law : Option Addr} {sl_law : Array (Option Value)}
    {kV_law : Value}
    {f_ri : Addr} {oc_ri dc_ri pm_ri cd_ri ct_ri : Value} {od_ri an_ri : Option Addr} {sl_ri : Array (Option Value)}
    {kV_ri : Value}
    {f_wi : Addr} {oc_wi dc_wi pm_wi cd_wi ct_wi : Value} {od_wi an_wi : Option Addr} {sl_wi : Array (Option Value)}
    {kV_wi : Value}
    {f_app : Addr} {oc_app dc_app pm_app cd_app ct_app : Value} {od_app an_app : Option Addr} {sl_app : Array (Option Value)}
    {kV_app : Value}
    {f_put : Addr} {oc_put dc_put pm_put cd_put ct_put : Value} {od_put an_put : Option Addr} {sl_put : Array (Option Value)}
    {kV_put : Value}
    {f_stl : Addr} {oc_stl dc_stl pm_stl cd_stl ct_stl : Value} {od_stl an_stl : Option Addr} {sl_stl : Array (Option Value)}
    {kV_stl : Value}
    {f_lof : Addr} {oc_lof dc_lof pm_lof cd_lof ct_lof : Value} {od_lof an_lof : Option Addr} {sl_lof : Array (Option Value)}
    {kV_lof : Value}
    {f_chg : Addr} {oc_chg dc_chg pm_chg cd_chg ct_chg : Value} {od_chg an_chg : Option Addr} {sl_chg : Array (Option Value)}
    {kV_chg : Value}
    {f_cpy : Addr} {oc_cpy dc_cpy pm_cpy cd_cpy ct_cpy : Value} {od_cpy an_cpy : Option Addr} {sl_cpy : Array (Option Value)}
    {T_cpy : Addr} {dd_cpy : Option Addr} {nd_cpy : Nat} {sd_cpy : Array (Option Value)}
    {kV_cpy : Value}
    {f_fin : Addr} {oc_fin dc_fin pm_fin cd_fin ct_fin : Value} {od_fin an_fin : Option Addr} {sl_fin : Array (Option Value)}
    {kV_fin : Value}
    {f_ntc : Addr} {oc_ntc dc_ntc pm_ntc cd_ntc ct_ntc : Value} {od_ntc an_ntc : Option Addr} {sl_ntc : Array (Option Value)}
    {kV_ntc : Value}
    {f_rep : Addr} {oc_rep dc_rep pm_rep cd_rep ct_rep : Value} {od_rep an_rep : Option Addr} {sl_rep : Array (Option Value)}
    {kV_rep : Value}
    {f_si : Addr} {oc_si dc_si pm_si cd_si ct_si : Value} {od_si an_si : Option Addr} {sl_si : Array (Option Value)}
    {D_si : Addr}
    {tw_si0 : Tok}
    {tw_si1 : Tok}
    {f_con : Addr} {oc_con dc_con pm_con cd_con ct_con : Value} {od_con an_con : Option Addr} {sl_con : Array (Option Value)}
    {kV_con : Value}
    {f_tof : Addr} {oc_tof dc_tof pm_tof cd_tof ct_tof : Value} {od_tof an_tof : Option Addr} {sl_tof : Array (Option Value)}
    {kV_tof : Value}
    {f_itn : Addr} {oc_itn dc_itn pm_itn cd_itn ct_itn : Value} {od_itn an_itn : Option Addr} {sl_itn : Array (Option Value)}
    {kV_itn : Value}
    {f_tha : Addr} {oc_tha dc_tha pm_tha cd_tha ct_tha : Value} {od_tha an_tha : Option Addr} {sl_tha : Array (Option Value)}
    {kV_tha : Value}
    {f_sra : Addr} {oc_sra dc_sra pm_sra cd_sra ct_sra : Value} {od_sra an_sra : Option Addr} {sl_sra : Array (Option Value)}
    {kV_sra : Value}
    {f_sta : Addr} {oc_sta dc_sta pm_sta cd_sta ct_sta : Value} {od_sta an_sta : Option Addr} {sl_sta : Array (Option Value)}
    {kV_sta : Value}
    {f_frn : Addr} {oc_frn dc_frn pm_frn cd_frn ct_frn : Value} {od_frn an_frn : Option Addr} {sl_frn : Array (Option Value)}
    {kV_frn : Value}
    {f_nth : Addr} {oc_nth dc_nth pm_nth cd_nth ct_nth : Value} {od_nth an_nth : Option Addr} {sl_nth : Array (Option Value)}
    {kV_nth : Value}
    {f_unf : Addr} {oc_unf dc_unf pm_unf cd_unf ct_unf : Value} {od_unf an_unf : Option Addr} {sl_unf : Array (Option Value)}
    {kV_unf : Value}
    {f_rdy : Addr} {oc_rdy dc_rdy pm_rdy cd_rdy ct_rdy : Value} {od_rdy an_rdy : Option Addr} {sl_rdy : Array (Option Value)}
    {kV_rdy : Value}
    {f_nfy : Addr} {oc_nfy dc_nfy pm_nfy cd_nfy ct_nfy : Value} {od_nfy an_nfy : Option Addr} {sl_nfy : Array (Option Value)}
    {kV_nfy : Value}
    {f_nso : Addr} {oc_nso dc_nso pm_nso cd_nso ct_nso : Value} {od_nso an_nso : Option Addr} {sl_nso : Array (Option Value)}
    {kV_nso : Value}
    {f_nse : Addr} {oc_nse dc_nse pm_nse cd_nse ct_nse : Value} {od_nse an_nse : Option Addr} {sl_nse : Array (Option Value)}
    {kV_nse : Value}
    {f_arr : Addr} {oc_arr dc_arr pm_arr cd_arr ct_arr : Value} {od_arr an_arr : Option Addr} {sl_arr : Array (Option Value)}
    {T_arr : Addr} {dd_arr : Option Addr} {nd_arr : Nat} {sd_arr : Array (Option Value)}
    {tv_arr0 : Tok}
    {kV_arr : Value}
    {f_rd : Addr} {oc_rd dc_rd pm_rd cd_rd ct_rd : Value} {od_rd an_rd : Option Addr} {sl_rd : Array (Option Value)}
    {T_rd : Addr} {dd_rd : Option Addr} {nd_rd : Nat} {sd_rd : Array (Option Value)}
    {kV_rd : Value}
    {f_row : Addr} {oc_row dc_row pm_row cd_row ct_row : Value} {od_row an_row : Option Addr} {sl_row : Array (Option Value)}
    {kV_row : Value}
    {f_add : Addr} {oc_add dc_add pm_add cd_add ct_add : Value} {od_add an_add : Option Addr} {sl_add : Array (Option Value)}
    {D_add : Addr}
    {tw_add0 : Tok}
    {f_wai : Addr} {oc_wai dc_wai pm_wai cd_wai ct_wai : Value} {od_wai an_wai : Option Addr} {sl_wai : Array (Option Value)}
    {T_wai : Addr} {dd_wai : Option Addr} {nd_wai : Nat} {sd_wai : Array (Option Value)}
    {tv_wai0 : Tok}
    {kV_wai : Value}
    {wW : Addr} {dW : Option Addr} {nW : Nat} {sW : Array (Option Value)} {tW0 tW1 tW2 tMC tML tLP tLN tMP tMN : Tok}
    (gCS : PySem.W.nsIn K mainGlobals "System" = some (some (.ref CS)))
    (pgS : PySem.W.plainGet K CS Str.empty = true)
    (hdS : PySem.W.hasDictIn K CS = true)
    (poS : PySem.W.plainOver K CS = true)
    (saS : PySem.W.findIn K (.ref CS) "__setattr__" = some (some (.builtin "object.__setattr__")))
    (mkS : PySem.W.makesIn K CS = true)
    (kcS : PySem.W.keepIn K (.ref CS) = true)
    (noS0 : PySem.W.findIn K (.ref CS) "process_limit" = some none)
    (noS1 : PySem.W.findIn K (.ref CS) "number_limit" = some none)
    (noS2 : PySem.W.findIn K (.ref CS) "tables" = some none)
    (noS3 : PySem.W.findIn K (.ref CS) "sources" = some none)
    (noS4 : PySem.W.findIn K (.ref CS) "sets" = some none)
    (noS5 : PySem.W.findIn K (.ref CS) "next_thing" = some none)
    (gCW : PySem.W.nsIn K mainGlobals "WaitingSet" = some (some (.ref CW)))
    (pgW : PySem.W.plainGet K CW Str.empty = true)
    (hdW : PySem.W.hasDictIn K CW = true)
    (poW : PySem.W.plainOver K CW = true)
    (saW : PySem.W.findIn K (.ref CW) "__setattr__" = some (some (.builtin "object.__setattr__")))
    (mkW : PySem.W.makesIn K CW = true)
    (kcW : PySem.W.keepIn K (.ref CW) = true)
    (noW0 : PySem.W.findIn K (.ref CW) "entries" = some none)
    (noW1 : PySem.W.findIn K (.ref CW) "queue" = some none)
    (gCR : PySem.W.nsIn K mainGlobals "Registration" = some (some (.ref CR)))
    (pgR : PySem.W.plainGet K CR Str.empty = true)
    (hdR : PySem.W.hasDictIn K CR = true)
    (poR : PySem.W.plainOver K CR = true)
    (saR : PySem.W.findIn K (.ref CR) "__setattr__" = some (some (.builtin "object.__setattr__")))
    (mkR : PySem.W.makesIn K CR = true)
    (kcR : PySem.W.keepIn K (.ref CR) = true)
    (noR0 : PySem.W.findIn K (.ref CR) "number" = some none)
    (noR1 : PySem.W.findIn K (.ref CR) "source" = some none)
    (noR2 : PySem.W.findIn K (.ref CR) "word" = some none)
    (noR3 : PySem.W.findIn K (.ref CR) "armed" = some none)
    (nWR : CW ≠ CR)
    (aint : PySem.W.nsIn K mainGlobals "is_integer" = some (some (.ref f_int)))
    (lint : K.lookup f_int = some ⟨oc_int, od_int, .func (PySem.W.fnOf "is_integer" "is_integer" (defArgs sIsInteger) (defBody sIsInteger) (defScope sIsInteger) .none kV_int dc_int pm_int an_int cd_int ct_int), sl_int⟩)
    (cint : PySem.W.codeIn K cd_int "is_integer" = true)
    (kint : PySem.W.keepIn K (.ref f_int) = true)
    (abet : PySem.W.nsIn K mainGlobals "is_between" = some (some (.ref f_bet)))
    (lbet : K.lookup f_bet = some ⟨oc_bet, od_bet, .func (PySem.W.fnOf "is_between" "is_between" (defArgs sIsBetween) (defBody sIsBetween) (defScope sIsBetween) .none kV_bet dc_bet pm_bet an_bet cd_bet ct_bet), sl_bet⟩)
    (cbet : PySem.W.codeIn K cd_bet "is_between" = true)
    (kbet : PySem.W.keepIn K (.ref f_bet) = true)
    (acnt : PySem.W.nsIn K mainGlobals "is_count" = some (some (.ref f_cnt)))
    (lcnt : K.lookup f_cnt = some ⟨oc_cnt, od_cnt, .func (PySem.W.fnOf "is_count" "is_count" (defArgs sIsCount) (defBody sIsCount) (defScope sIsCount) .none kV_cnt dc_cnt pm_cnt an_cnt cd_cnt ct_cnt), sl_cnt⟩)
    (ccnt : PySem.W.codeIn K cd_cnt "is_count" = true)
    (kcnt : PySem.W.keepIn K (.ref f_cnt) = true)
    (alab : PySem.W.nsIn K mainGlobals "is_label" = some (some (.ref f_lab)))
    (llab : K.lookup f_lab = some ⟨oc_lab, od_lab, .func (PySem.W.fnOf "is_label" "is_label" (defArgs sIsLabel) (defBody sIsLabel) (defScope sIsLabel) .none kV_lab dc_lab pm_lab an_lab cd_lab ct_lab), sl_lab⟩)
    (clab : PySem.W.codeIn K cd_lab "is_label" = true)
    (klab : PySem.W.keepIn K (.ref f_lab) = true)
    (awrd : PySem.W.nsIn K mainGlobals "is_word" = some (some (.ref f_wrd)))
    (lwrd : K.lookup f_wrd = some ⟨oc_wrd, od_wrd, .func (PySem.W.fnOf "is_word" "is_word" (defArgs sIsWord) (defBody sIsWord) (defScope sIsWord) .none kV_wrd dc_wrd pm_wrd an_wrd cd_wrd ct_wrd), sl_wrd⟩)
    (cwrd : PySem.W.codeIn K cd_wrd "is_word" = true)
    (kwrd : PySem.W.keepIn K (.ref f_wrd) = true)
    (abag : PySem.W.nsIn K mainGlobals "_law_bag" = some (some (.ref f_bag)))
    (lbag : K.lookup f_bag = some ⟨oc_bag, od_bag, .func (PySem.W.fnOf "_law_bag" "_law_bag" (defArgs sBag) (defBody sBag) (defScope sBag) .none kV_bag dc_bag pm_bag an_bag cd_bag ct_bag), sl_bag⟩)
    (cbag : PySem.W.codeIn K cd_bag "_law_bag" = true)
    (kbag : PySem.W.keepIn K (.ref f_bag) = true)
    (atake : PySem.W.nsIn K mainGlobals "_law_take" = some (some (.ref f_take)))
    (ltake : K.lookup f_take = some ⟨oc_take, od_take, .func (PySem.W.fnOf "_law_take" "_law_take" (defArgs sTake) (defBody sTake) (defScope sTake) .none kV_take dc_take pm_take an_take cd_take ct_take), sl_take⟩)
    (ctake : PySem.W.codeIn K cd_take "_law_take" = true)
    (ktake : PySem.W.keepIn K (.ref f_take) = true)
    (albl : PySem.W.nsIn K mainGlobals "_law_labels" = some (some (.ref f_lbl)))
    (llbl : K.lookup f_lbl = some ⟨oc_lbl, od_lbl, .func (PySem.W.fnOf "_law_labels" "_law_labels" (defArgs sLabels) (defBody sLabels) (defScope sLabels) .none kV_lbl dc_lbl pm_lbl an_lbl cd_lbl ct_lbl), sl_lbl⟩)
    (clbl : PySem.W.codeIn K cd_lbl "_law_labels" = true)
    (klbl : PySem.W.keepIn K (.ref f_lbl) = true)
    (awts : PySem.W.nsIn K mainGlobals "_law_waits" = some (some (.ref f_wts)))
    (lwts : K.lookup f_wts = some ⟨oc_wts, od_wts, .func (PySem.W.fnOf "_law_waits" "_law_waits" (defArgs sWaits) (defBody sWaits) (defScope sWaits) .none kV_wts dc_wts pm_wts an_wts cd_wts ct_wts), sl_wts⟩)
    (cwts : PySem.W.codeIn K cd_wts "_law_waits" = true)
    (kwts : PySem.W.keepIn K (.ref f_wts) = true)
    (alaw : PySem.W.nsIn K mainGlobals "law" = some (some (.ref f_law)))
    (llaw : K.lookup f_law = some ⟨oc_law, od_law, .func (PySem.W.fnOf "law" "law" (defArgs sLaw) (defBody sLaw) (defScope sLaw) .none kV_law dc_law pm_law an_law cd_law ct_law), sl_law⟩)
    (claw : PySem.W.codeIn K cd_law "law" = true)
    (klaw : PySem.W.keepIn K (.ref f_law) = true)
    (ari : PySem.W.findIn K (.ref CR) "__init__" = some (some (.ref f_ri)))
    (iri : PySem.W.isFn K (.ref f_ri) = true)
    (lri : K.lookup f_ri = some ⟨oc_ri, od_ri, .func (PySem.W.fnOf "__init__" "Registration.__init__" (defArgs sRegInit) (defBody sRegInit) (defScope sRegInit) .none kV_ri dc_ri pm_ri an_ri cd_ri ct_ri), sl_ri⟩)
    (cri : PySem.W.codeIn K cd_ri "Registration.__init__" = true)
    (kri : PySem.W.keepIn K (.ref f_ri) = true)
    (awi : PySem.W.findIn K (.ref CW) "__init__" = some (some (.ref f_wi)))
    (iwi : PySem.W.isFn K (.ref f_wi) = true)
    (lwi : K.lookup f_wi = some ⟨oc_wi, od_wi, .func (PySem.W.fnOf "__init__" "WaitingSet.__init__" (defArgs sWsInit) (defBody sWsInit) (defScope sWsInit) .none kV_wi dc_wi pm_wi an_wi cd_wi ct_wi), sl_wi⟩)
    (cwi : PySem.W.codeIn K cd_wi "WaitingSet.__init__" = true)
    (kwi : PySem.W.keepIn K (.ref f_wi) = true)
    (aapp : PySem.W.findIn K (.ref CW) "append_pending" = some (some (.ref f_app)))
    (iapp : PySem.W.isFn K (.ref f_app) = true)
    (lapp : K.lookup f_app = some ⟨oc_app, od_app, .func (PySem.W.fnOf "append_pending" "WaitingSet.append_pending" (defArgs sAppend) (defBody sAppend) (defScope sAppend) .none kV_app dc_app pm_app an_app cd_app ct_app), sl_app⟩)
    (capp : PySem.W.codeIn K cd_app "WaitingSet.append_pending" = true)
    (kapp : PySem.W.keepIn K (.ref f_app) = true)
    (aput : PySem.W.findIn K (.ref CW) "put" = some (some (.ref f_put)))
    (iput : PySem.W.isFn K (.ref f_put) = true)
    (lput : K.lookup f_put = some ⟨oc_put, od_put, .func (PySem.W.fnOf "put" "WaitingSet.put" (defArgs sPut) (defBody sPut) (defScope sPut) .none kV_put dc_put pm_put an_put cd_put ct_put), sl_put⟩)
    (cput : PySem.W.codeIn K cd_put "WaitingSet.put" = true)
    (kput : PySem.W.keepIn K (.ref f_put) = true)
    (astl : PySem.W.findIn K (.ref CW) "settle" = some (some (.ref f_stl)))
    (istl : PySem.W.isFn K (.ref f_stl) = true)
    (lstl : K.lookup f_stl = some ⟨oc_stl, od_stl, .func (PySem.W.fnOf "settle" "WaitingSet.settle" (defArgs sSettle) (defBody sSettle) (defScope sSettle) .none kV_stl dc_stl pm_stl an_stl cd_stl ct_stl), sl_stl⟩)
    (cstl : PySem.W.codeIn K cd_stl "WaitingSet.settle" = true)
    (kstl : PySem.W.keepIn K (.ref f_stl) = true)
    (alof : PySem.W.findIn K (.ref CW) "label_of" = some (some (.ref f_lof)))
    (ilof : PySem.W.isFn K (.ref f_lof) = true)
    (llof : K.lookup f_lof = some ⟨oc_lof, od_lof, .func (PySem.W.fnOf "label_of" "WaitingSet.label_of" (defArgs sLabelOf) (defBody sLabelOf) (defScope sLabelOf) .none kV_lof dc_lof pm_lof an_lof cd_lof ct_lof), sl_lof⟩)
    (clof : PySem.W.codeIn K cd_lof "WaitingSet.label_of" = true)
    (klof : PySem.W.keepIn K (.ref f_lof) = true)
    (achg : PySem.W.findIn K (.ref CS) "change" = some (some (.ref f_chg)))
    (ichg : PySem.W.isFn K (.ref f_chg) = true)
    (lchg : K.lookup f_chg = some ⟨oc_chg, od_chg, .func (PySem.W.fnOf "change" "System.change" (defArgs sChange) (defBody sChange) (defScope sChange) .none kV_chg dc_chg pm_chg an_chg cd_chg ct_chg), sl_chg⟩)
    (cchg : PySem.W.codeIn K cd_chg "System.change" = true)
    (kchg : PySem.W.keepIn K (.ref f_chg) = true)
    (acpy : PySem.W.findIn K (.ref CS) "copy" = some (some (.ref f_cpy)))
    (icpy : PySem.W.isFn K (.ref f_cpy) = true)
    (lcpy : K.lookup f_cpy = some ⟨oc_cpy, od_cpy, .func (PySem.W.fnOf "copy" "System.copy" (defArgs sCopy) (defBody sCopy) (defScope sCopy) (.ref T_cpy) kV_cpy dc_cpy pm_cpy an_cpy cd_cpy ct_cpy), sl_cpy⟩)
    (ccpy : PySem.W.codeIn K cd_cpy "System.copy" = true)
    (kcpy : PySem.W.keepIn K (.ref f_cpy) = true)
    (Lcpy : K.lookup T_cpy = some ⟨.type "tuple", dd_cpy, .seq #[.none] nd_cpy, sd_cpy⟩)
    (afin : PySem.W.findIn K (.ref CS) "finish" = some (some (.ref f_fin)))
    (ifin : PySem.W.isFn K (.ref f_fin) = true)
    (lfin : K.lookup f_fin = some ⟨oc_fin, od_fin, .func (PySem.W.fnOf "finish" "System.finish" (defArgs sFinish) (defBody sFinish) (defScope sFinish) .none kV_fin dc_fin pm_fin an_fin cd_fin ct_fin), sl_fin⟩)
    (cfin : PySem.W.codeIn K cd_fin "System.finish" = true)
    (kfin : PySem.W.keepIn K (.ref f_fin) = true)
    (antc : PySem.W.findIn K (.ref CW) "notice" = some (some (.ref f_ntc)))
    (intc : PySem.W.isFn K (.ref f_ntc) = true)
    (lntc : K.lookup f_ntc = some ⟨oc_ntc, od_ntc, .func (PySem.W.fnOf "notice" "WaitingSet.notice" (defArgs sNotice) (defBody sNotice) (defScope sNotice) .none kV_ntc dc_ntc pm_ntc an_ntc cd_ntc ct_ntc), sl_ntc⟩)
    (cntc : PySem.W.codeIn K cd_ntc "WaitingSet.notice" = true)
    (kntc : PySem.W.keepIn K (.ref f_ntc) = true)
    (arep : PySem.W.findIn K (.ref CW) "take_reports" = some (some (.ref f_rep)))
    (irep : PySem.W.isFn K (.ref f_rep) = true)
    (lrep : K.lookup f_rep = some ⟨oc_rep, od_rep, .func (PySem.W.fnOf "take_reports" "WaitingSet.take_reports" (defArgs sReports) (defBody sReports) (defScope sReports) .none kV_rep dc_rep pm_rep an_rep cd_rep ct_rep), sl_rep⟩)
    (crep : PySem.W.codeIn K cd_rep "WaitingSet.take_reports" = true)
    (krep : PySem.W.keepIn K (.ref f_rep) = true)
    (asi : PySem.W.findIn K (.ref CS) "__init__" = some (some (.ref f_si)))
    (isi : PySem.W.isFn K (.ref f_si) = true)
    (lsi : K.lookup f_si = some ⟨oc_si, od_si, .func (PySem.W.fnOf "__init__" "System.__init__" (defArgs sSysInit) (defBody sSysInit) (defScope sSysInit) .none (.ref D_si) dc_si pm_si an_si cd_si ct_si), sl_si⟩)
    (csi : PySem.W.codeIn K cd_si "System.__init__" = true)
    (ksi : PySem.W.keepIn K (.ref f_si) = true)
    (wsi0 : PySem.W.nsIn K D_si "processes" = some (some (.int 4 tw_si0)))
    (wsi1 : PySem.W.nsIn K D_si "numbers" = some (some (.int 8 tw_si1)))
    (acon : PySem.W.findIn K (.ref CS) "__contains__" = some (some (.ref f_con)))
    (icon : PySem.W.isFn K (.ref f_con) = true)
    (lcon : K.lookup f_con = some ⟨oc_con, od_con, .func (PySem.W.fnOf "__contains__" "System.__contains__" (defArgs sContains) (defBody sContains) (defScope sContains) .none kV_con dc_con pm_con an_con cd_con ct_con), sl_con⟩)
    (ccon : PySem.W.codeIn K cd_con "System.__contains__" = true)
    (kcon : PySem.W.keepIn K (.ref f_con) = true)
    (atof : PySem.W.findIn K (.ref CS) "table_of" = some (some (.ref f_tof)))
    (itof : PySem.W.isFn K (.ref f_tof) = true)
    (ltof : K.lookup f_tof = some ⟨oc_tof, od_tof, .func (PySem.W.fnOf "table_of" "System.table_of" (defArgs sTableOf) (defBody sTableOf) (defScope sTableOf) .none kV_tof dc_tof pm_tof an_tof cd_tof ct_tof), sl_tof⟩)
    (ctof : PySem.W.codeIn K cd_tof "System.table_of" = true)
    (ktof : PySem.W.keepIn K (.ref f_tof) = true)
    (aitn : PySem.W.findIn K (.ref CS) "is_table_number" = some (some (.ref f_itn)))
    (iitn : PySem.W.isFn K (.ref f_itn) = true)
    (litn : K.lookup f_itn = some ⟨oc_itn, od_itn, .func (PySem.W.fnOf "is_table_number" "System.is_table_number" (defArgs sIsTabNum) (defBody sIsTabNum) (defScope sIsTabNum) .none kV_itn dc_itn pm_itn an_itn cd_itn ct_itn), sl_itn⟩)
    (citn : PySem.W.codeIn K cd_itn "System.is_table_number" = true)
    (kitn : PySem.W.keepIn K (.ref f_itn) = true)
    (atha : PySem.W.findIn K (.ref CS) "thing_at" = some (some (.ref f_tha)))
    (itha : PySem.W.isFn K (.ref f_tha) = true)
    (ltha : K.lookup f_tha = some ⟨oc_tha, od_tha, .func (PySem.W.fnOf "thing_at" "System.thing_at" (defArgs sThingAt) (defBody sThingAt) (defScope sThingAt) .none kV_tha dc_tha pm_tha an_tha cd_tha ct_tha), sl_tha⟩)
    (ctha : PySem.W.codeIn K cd_tha "System.thing_at" = true)
    (ktha : PySem.W.keepIn K (.ref f_tha) = true)
    (asra : PySem.W.findIn K (.ref CS) "source_at" = some (some (.ref f_sra)))
    (isra : PySem.W.isFn K (.ref f_sra) = true)
    (lsra : K.lookup f_sra = some ⟨oc_sra, od_sra, .func (PySem.W.fnOf "source_at" "System.source_at" (defArgs sSourceAt) (defBody sSourceAt) (defScope sSourceAt) .none kV_sra dc_sra pm_sra an_sra cd_sra ct_sra), sl_sra⟩)
    (csra : PySem.W.codeIn K cd_sra "System.source_at" = true)
    (ksra : PySem.W.keepIn K (.ref f_sra) = true)
    (asta : PySem.W.findIn K (.ref CS) "set_at" = some (some (.ref f_sta)))
    (ista : PySem.W.isFn K (.ref f_sta) = true)
    (lsta : K.lookup f_sta = some ⟨oc_sta, od_sta, .func (PySem.W.fnOf "set_at" "System.set_at" (defArgs sSetAt) (defBody sSetAt) (defScope sSetAt) .none kV_sta dc_sta pm_sta an_sta cd_sta ct_sta), sl_sta⟩)
    (csta : PySem.W.codeIn K cd_sta "System.set_at" = true)
    (ksta : PySem.W.keepIn K (.ref f_sta) = true)
    (afrn : PySem.W.findIn K (.ref CS) "free_number" = some (some (.ref f_frn)))
    (ifrn : PySem.W.isFn K (.ref f_frn) = true)
    (lfrn : K.lookup f_frn = some ⟨oc_frn, od_frn, .func (PySem.W.fnOf "free_number" "System.free_number" (defArgs sFreeNum) (defBody sFreeNum) (defScope sFreeNum) .none kV_frn dc_frn pm_frn an_frn cd_frn ct_frn), sl_frn⟩)
    (cfrn : PySem.W.codeIn K cd_frn "System.free_number" = true)
    (kfrn : PySem.W.keepIn K (.ref f_frn) = true)
    (anth : PySem.W.findIn K (.ref CS) "new_thing" = some (some (.ref f_nth)))
    (inth : PySem.W.isFn K (.ref f_nth) = true)
    (lnth : K.lookup f_nth = some ⟨oc_nth, od_nth, .func (PySem.W.fnOf "new_thing" "System.new_thing" (defArgs sNewThing) (defBody sNewThing) (defScope sNewThing) .none kV_nth dc_nth pm_nth an_nth cd_nth ct_nth), sl_nth⟩)
    (cnth : PySem.W.codeIn K cd_nth "System.new_thing" = true)
    (knth : PySem.W.keepIn K (.ref f_nth) = true)
    (aunf : PySem.W.findIn K (.ref CS) "unread_of_unfinished" = some (some (.ref f_unf)))
    (iunf : PySem.W.isFn K (.ref f_unf) = true)
    (lunf : K.lookup f_unf = some ⟨oc_unf, od_unf, .func (PySem.W.fnOf "unread_of_unfinished" "System.unread_of_unfinished" (defArgs sUnfinished) (defBody sUnfinished) (defScope sUnfinished) .none kV_unf dc_unf pm_unf an_unf cd_unf ct_unf), sl_unf⟩)
    (cunf : PySem.W.codeIn K cd_unf "System.unread_of_unfinished" = true)
    (kunf : PySem.W.keepIn K (.ref f_unf) = true)
    (ardy : PySem.W.findIn K (.ref CS) "is_ready" = some (some (.ref f_rdy)))
    (irdy : PySem.W.isFn K (.ref f_rdy) = true)
    (lrdy : K.lookup f_rdy = some ⟨oc_rdy, od_rdy, .func (PySem.W.fnOf "is_ready" "System.is_ready" (defArgs sIsReady) (defBody sIsReady) (defScope sIsReady) .none kV_rdy dc_rdy pm_rdy an_rdy cd_rdy ct_rdy), sl_rdy⟩)
    (crdy : PySem.W.codeIn K cd_rdy "System.is_ready" = true)
    (krdy : PySem.W.keepIn K (.ref f_rdy) = true)
    (anfy : PySem.W.findIn K (.ref CS) "notify" = some (some (.ref f_nfy)))
    (infy : PySem.W.isFn K (.ref f_nfy) = true)
    (lnfy : K.lookup f_nfy = some ⟨oc_nfy, od_nfy, .func (PySem.W.fnOf "notify" "System.notify" (defArgs sNotify) (defBody sNotify) (defScope sNotify) .none kV_nfy dc_nfy pm_nfy an_nfy cd_nfy ct_nfy), sl_nfy⟩)
    (cnfy : PySem.W.codeIn K cd_nfy "System.notify" = true)
    (knfy : PySem.W.keepIn K (.ref f_nfy) = true)
    (anso : PySem.W.findIn K (.ref CS) "new_source" = some (some (.ref f_nso)))
    (inso : PySem.W.isFn K (.ref f_nso) = true)
    (lnso : K.lookup f_nso = some ⟨oc_nso, od_nso, .func (PySem.W.fnOf "new_source" "System.new_source" (defArgs sNewSource) (defBody sNewSource) (defScope sNewSource) .none kV_nso dc_nso pm_nso an_nso cd_nso ct_nso), sl_nso⟩)
    (cnso : PySem.W.codeIn K cd_nso "System.new_source" = true)
    (knso : PySem.W.keepIn K (.ref f_nso) = true)
    (anse : PySem.W.findIn K (.ref CS) "new_set" = some (some (.ref f_nse)))
    (inse : PySem.W.isFn K (.ref f_nse) = true)
    (lnse : K.lookup f_nse = some ⟨oc_nse, od_nse, .func (PySem.W.fnOf "new_set" "System.new_set" (defArgs sNewSet) (defBody sNewSet) (defScope sNewSet) .none kV_nse dc_nse pm_nse an_nse cd_nse ct_nse), sl_nse⟩)
    (cnse : PySem.W.codeIn K cd_nse "System.new_set" = true)
    (knse : PySem.W.keepIn K (.ref f_nse) = true)
    (aarr : PySem.W.findIn K (.ref CS) "arrive" = some (some (.ref f_arr)))
    (iarr : PySem.W.isFn K (.ref f_arr) = true)
    (larr : K.lookup f_arr = some ⟨oc_arr, od_arr, .func (PySem.W.fnOf "arrive" "System.arrive" (defArgs sArrive) (defBody sArrive) (defScope sArrive) (.ref T_arr) kV_arr dc_arr pm_arr an_arr cd_arr ct_arr), sl_arr⟩)
    (carr : PySem.W.codeIn K cd_arr "System.arrive" = true)
    (karr : PySem.W.keepIn K (.ref f_arr) = true)
    (Larr : K.lookup T_arr = some ⟨.type "tuple", dd_arr, .seq #[.int 1 tv_arr0] nd_arr, sd_arr⟩)
    (ard : PySem.W.findIn K (.ref CS) "read" = some (some (.ref f_rd)))
    (ird : PySem.W.isFn K (.ref f_rd) = true)
    (lrd : K.lookup f_rd = some ⟨oc_rd, od_rd, .func (PySem.W.fnOf "read" "System.read" (defArgs sRead) (defBody sRead) (defScope sRead) (.ref T_rd) kV_rd dc_rd pm_rd an_rd cd_rd ct_rd), sl_rd⟩)
    (crd : PySem.W.codeIn K cd_rd "System.read" = true)
    (krd : PySem.W.keepIn K (.ref f_rd) = true)
    (Lrd : K.lookup T_rd = some ⟨.type "tuple", dd_rd, .seq #[.none] nd_rd, sd_rd⟩)
    (arow : PySem.W.findIn K (.ref CS) "row_of" = some (some (.ref f_row)))
    (irow : PySem.W.isFn K (.ref f_row) = true)
    (lrow : K.lookup f_row = some ⟨oc_row, od_row, .func (PySem.W.fnOf "row_of" "System.row_of" (defArgs sRowOf) (defBody sRowOf) (defScope sRowOf) .none kV_row dc_row pm_row an_row cd_row ct_row), sl_row⟩)
    (crow : PySem.W.codeIn K cd_row "System.row_of" = true)
    (krow : PySem.W.keepIn K (.ref f_row) = true)
    (aadd : PySem.W.findIn K (.ref CS) "add" = some (some (.ref f_add)))
    (iadd : PySem.W.isFn K (.ref f_add) = true)
    (ladd : K.lookup f_add = some ⟨oc_add, od_add, .func (PySem.W.fnOf "add" "System.add" (defArgs sAdd) (defBody sAdd) (defScope sAdd) .none (.ref D_add) dc_add pm_add an_add cd_add ct_add), sl_add⟩)
    (cadd : PySem.W.codeIn K cd_add "System.add" = true)
    (kadd : PySem.W.keepIn K (.ref f_add) = true)
    (wadd0 : PySem.W.nsIn K D_add "word" = some (some (.str "level" tw_add0)))
    (awai : PySem.W.findIn K (.ref CS) "wait" = some (some (.ref f_wai)))
    (iwai : PySem.W.isFn K (.ref f_wai) = true)
    (lwai : K.lookup f_wai = some ⟨oc_wai, od_wai, .func (PySem.W.fnOf "wait" "System.wait" (defArgs sWait) (defBody sWait) (defScope sWait) (.ref T_wai) kV_wai dc_wai pm_wai an_wai cd_wai ct_wai), sl_wai⟩)
    (cwai : PySem.W.codeIn K cd_wai "System.wait" = true)
    (kwai : PySem.W.keepIn K (.ref f_wai) = true)
    (Lwai : K.lookup T_wai = some ⟨.type "tuple", dd_wai, .seq #[.int 1 tv_wai0] nd_wai, sd_wai⟩)
    (z_len : PySem.W.nsIn K mainGlobals "len" = some none)
    (z_enumerate : PySem.W.nsIn K mainGlobals "enumerate" = some none)
    (z_int : PySem.W.nsIn K mainGlobals "int" = some none)
    (z_abs : PySem.W.nsIn K mainGlobals "abs" = some none)
    (z_isinstance : PySem.W.nsIn K mainGlobals "isinstance" = some none)
    (z_bool : PySem.W.nsIn K mainGlobals "bool" = some none)
    (z_list : PySem.W.nsIn K mainGlobals "list" = some none)
    (z_min : PySem.W.nsIn K mainGlobals "min" = some none)
    (z_max : PySem.W.nsIn K mainGlobals "max" = some none)
    (z_range : PySem.W.nsIn K mainGlobals "range" = some none)
    (z_sorted : PySem.W.nsIn K mainGlobals "sorted" = some none)
    (wA : PySem.W.nsIn K mainGlobals "WORDS" = some (some (.ref wW)))
    (LW : K.lookup wW = some ⟨.type "tuple", dW, .seq #[.str "level" tW0, .str "edge" tW1, .str "once" tW2] nW, sW⟩)
    (gMC : PySem.W.nsIn K mainGlobals "MOST_COUNT" = some (some (.int 1000000 tMC)))
    (gML : PySem.W.nsIn K mainGlobals "MOST_LABEL" = some (some (.int 999999 tML)))
    (gLP : PySem.W.nsIn K mainGlobals "LEAST_PROCESSES" = some (some (.int 2 tLP)))
    (gLN : PySem.W.nsIn K mainGlobals "LEAST_NUMBERS" = some (some (.int 3 tLN)))
    (gMP : PySem.W.findIn K (.ref CS) "MOST_PROCESSES" = some (some (.int 6 tMP)))
    (gMN : PySem.W.findIn K (.ref CS) "MOST_NUMBERS" = some (some (.int 8 tMN)))
    (sMP : PySem.W.specialIn K (.int 6 tMP) "__get__" = some none)
    (sMN : PySem.W.specialIn K (.int 8 tMN) "__get__" = some none) :
    ∃ fd : FuncData, (∀ (s : Shared) (u : Value), BindsTo s fd ⟨[u], []⟩ [("_law_script", u)]) ∧ ∀ base : Heap, K.In base → base.Ns mainGlobals mg → FnOk P w K mg base CX0 8 fa fd ["_law_script"] (spLaw K) := by
  have e := hfa.symm.trans (PySem.W.mg_of X G alaw)
  cases e
  have Fint := fun_mk (st := sIsInteger) lint cint kint
  have bint := Fint.binds (ps := ["x"]) fun _ _ _ _ _ _ us hl => match us, hl with | [_], _ => rfl
  have mint := PySem.W.mg_of X G aint
  have Fbet := fun_mk (st := sIsBetween) lbet cbet kbet
  have bbet := Fbet.binds (ps := ["x", "least", "most"]) fun _ _ _ _ _ _ us hl => match us, hl with | [_, _, _], _ => rfl
  have mbet := PySem.W.mg_of X G abet
  have Fcnt := fun_mk (st := sIsCount) lcnt ccnt kcnt
  have bcnt := Fcnt.binds (ps := ["x"]) fun _ _ _ _ _ _ us hl => match us, hl with | [_], _ => rfl
  have mcnt := PySem.W.mg_of X G acnt
  have Flab := fun_mk (st := sIsLabel) llab clab klab
  have blab := Flab.binds (ps := ["x"]) fun _ _ _ _ _ _ us hl => match us, hl with | [_], _ => rfl
  have mlab := PySem.W.mg_of X G alab
  have Fwrd := fun_mk (st := sIsWord) lwrd cwrd kwrd
  have bwrd := Fwrd.binds (ps := ["x"]) fun _ _ _ _ _ _ us hl => match us, hl with | [_], _ => rfl
  have mwrd := PySem.W.mg_of X G awrd
  have Fbag := fun_mk (st := sBag) lbag cbag kbag
  have bbag := Fbag.binds (ps := ["_law_script", "_law_at"]) fun _ _ _ _ _ _ us hl => match us, hl with | [_, _], _ => rfl
  have mbag := PySem.W.mg_of X G abag
  have Ftake := fun_mk (st := sTake) ltake ctake ktake
  have btake := Ftake.binds (ps := ["_law_bag_here", "_law_many"]) fun _ _ _ _ _ _ us hl => match us, hl with | [_, _], _ => rfl
  have mtake := PySem.W.mg_of X G atake
  have Flbl := fun_mk (st := sLabels) llbl clbl klbl
  have blbl := Flbl.binds (ps := ["_law_reports", "_law_unread"]) fun _ _ _ _ _ _ us hl => match us, hl with | [_, _], _ => rfl
  have mlbl := PySem.W.mg_of X G albl
  have Fwts := fun_mk (st := sWaits) lwts cwts kwts
  have bwts := Fwts.binds (ps := ["_law_box", "_law_words", "_law_unread"]) fun _ _ _ _ _ _ us hl => match us, hl with | [_, _, _], _ => rfl
  have mwts := PySem.W.mg_of X G awts
  have Flaw := fun_mk (st := sLaw) llaw claw klaw
  have blaw := Flaw.binds (ps := ["_law_script"]) fun _ _ _ _ _ _ us hl => match us, hl with | [_], _ => rfl
  have mlaw := PySem.W.mg_of X G alaw
  have Fri := fun_mk (st := sRegInit) lri cri kri
  have bri := Fri.binds (ps := ["self", "number", "source", "word", "armed"]) fun _ _ _ _ _ _ us hl => match us, hl with | [_, _, _, _, _], _ => rfl
  have Fwi := fun_mk (st := sWsInit) lwi cwi kwi
  have bwi := Fwi.binds (ps := ["self"]) fun _ _ _ _ _ _ us hl => match us, hl with | [_], _ => rfl
  have Fapp := fun_mk (st := sAppend) lapp capp kapp
  have bapp := Fapp.binds (ps := ["self", "label"]) fun _ _ _ _ _ _ us hl => match us, hl with | [_, _], _ => rfl
  have Fput := fun_mk (st := sPut) lput cput kput
  have bput := Fput.binds (ps := ["self", "label", "kept", "ready"]) fun _ _ _ _ _ _ us hl => match us, hl with | [_, _, _, _], _ => rfl
  have Fstl := fun_mk (st := sSettle) lstl cstl kstl
  have bstl := Fstl.binds (ps := ["self", "label"]) fun _ _ _ _ _ _ us hl => match us, hl with | [_, _], _ => rfl
  have Flof := fun_mk (st := sLabelOf) llof clof klof
  have blof := Flof.binds (ps := ["self", "number", "source"]) fun _ _ _ _ _ _ us hl => match us, hl with | [_, _, _], _ => rfl
  have Fchg := fun_mk (st := sChange) lchg cchg kchg
  have bwchg : KBn K (PySem.W.fnOf "change" "System.change" (defArgs sChange) (defBody sChange) (defScope sChange) .none kV_chg dc_chg pm_chg an_chg cd_chg ct_chg) ["self", "process", "set_number", "number", "word"] 4 ["word"] (fun us ws => us ++ ws) (fun vs zs => vs ++ zs) := ⟨fun s us ws _ hu hw => match us, ws, hu, hw with | [u0, u1, u2, u3], [y0], _, _ => .of_eq rfl, fun a b => a.append b⟩
  have Fcpy : FunD K "copy" "System.copy" (defArgs sCopy) (defBody sCopy) (defScope sCopy) ([V.non] : List V) ([] : List (Str × V)) f_cpy (PySem.W.fnOf "copy" "System.copy" (defArgs sCopy) (defBody sCopy) (defScope sCopy) (.ref T_cpy) kV_cpy dc_cpy pm_cpy an_cpy cd_cpy ct_cpy) := ⟨⟨_, _, (.ref T_cpy), kV_cpy, _, _, _, _, _, _, rfl, lcpy, ccpy, .inr ⟨(by intro z; cases z), T_cpy, _, [.none], nd_cpy, rfl, Lcpy, rfl, (.cons rfl .nil)⟩, .inl rfl⟩, kcpy⟩
  obtain ⟨dscpy, vcpy, bcpy⟩ := Fcpy.binds1 (ps := ["self", "process", "number", "to"]) 3 0 (by intro z; cases z) rfl fun _ _ _ _ _ _ _ us its hu hi => match us, its, hu, hi with | [u0, u1, u2], [x0], _, _ => ⟨_, rfl, rfl⟩
  have Bcpy : Binds K (PySem.W.fnOf "copy" "System.copy" (defArgs sCopy) (defBody sCopy) (defScope sCopy) (.ref T_cpy) kV_cpy dc_cpy pm_cpy an_cpy cd_cpy ct_cpy) (["self", "process", "number", "to"] : List Str) [] := by
    obtain ⟨ds, v, b⟩ := Fcpy.binds1 (ps := ["self", "process", "number", "to"]) 4 1 (by intro z; cases z) rfl fun _ _ _ _ _ _ _ us its hu hi => match us, its, hu, hi with | [u0, u1, u2, u3], [x0], _, _ => ⟨_, rfl, rfl⟩
    cases v
    exact b
  have Ffin := fun_mk (st := sFinish) lfin cfin kfin
  have bfin := Ffin.binds (ps := ["self", "process", "number"]) fun _ _ _ _ _ _ us hl => match us, hl with | [_, _, _], _ => rfl
  have Fntc := fun_mk (st := sNotice) lntc cntc kntc
  have bntc := Fntc.binds (ps := ["self", "source"]) fun _ _ _ _ _ _ us hl => match us, hl with | [_, _], _ => rfl
  have Frep := fun_mk (st := sReports) lrep crep krep
  have brep := Frep.binds (ps := ["self", "most", "sources"]) fun _ _ _ _ _ _ us hl => match us, hl with | [_, _, _], _ => rfl
  have Fsi : FunD K "__init__" "System.__init__" (defArgs sSysInit) (defBody sSysInit) (defScope sSysInit) ([] : List V) ([("processes", V.int 4), ("numbers", V.int 8)] : List (Str × V)) f_si (PySem.W.fnOf "__init__" "System.__init__" (defArgs sSysInit) (defBody sSysInit) (defScope sSysInit) .none (.ref D_si) dc_si pm_si an_si cd_si ct_si) := ⟨⟨_, _, .none, (.ref D_si), _, _, _, _, _, _, rfl, lsi, csi, .inl ⟨rfl, rfl⟩, .inr ⟨D_si, rfl, fun q hq => by
    simp only [List.mem_cons, List.not_mem_nil, or_false] at hq
    rcases hq with rfl | rfl
    · exact ⟨_, wsi0, _, rfl⟩
    · exact ⟨_, wsi1, _, rfl⟩⟩⟩, ksi⟩
  obtain ⟨dssi, vsi, bsi⟩ := Fsi.binds0 (ps := ["self", "processes", "numbers"]) 1 (by intro z; cases z) rfl fun _ _ _ _ _ _ us ks hu hk => match us, ks, hu, hk with | [u0], [x0, x1], _, _ => ⟨_, _, _, _, _, _, rfl, rfl, ⟨_, _, _, _, _, _, rfl, rfl, rfl⟩⟩
  have Fcon := fun_mk (st := sContains) lcon ccon kcon
  have bcon := Fcon.binds (ps := ["self", "x"]) fun _ _ _ _ _ _ us hl => match us, hl with | [_, _], _ => rfl
  have Ftof := fun_mk (st := sTableOf) ltof ctof ktof
  have btof := Ftof.binds (ps := ["self", "process"]) fun _ _ _ _ _ _ us hl => match us, hl with | [_, _], _ => rfl
  have Fitn := fun_mk (st := sIsTabNum) litn citn kitn
  have bitn := Fitn.binds (ps := ["self", "number"]) fun _ _ _ _ _ _ us hl => match us, hl with | [_, _], _ => rfl
  have Ftha := fun_mk (st := sThingAt) ltha ctha ktha
  have btha := Ftha.binds (ps := ["self", "process", "number"]) fun _ _ _ _ _ _ us hl => match us, hl with | [_, _, _], _ => rfl
  have Fsra := fun_mk (st := sSourceAt) lsra csra ksra
  have bsra := Fsra.binds (ps := ["self", "process", "number"]) fun _ _ _ _ _ _ us hl => match us, hl with | [_, _, _], _ => rfl
  have Fsta := fun_mk (st := sSetAt) lsta csta ksta
  have bsta := Fsta.binds (ps := ["self", "process", "set_number"]) fun _ _ _ _ _ _ us hl => match us, hl with | [_, _, _], _ => rfl
  have Ffrn := fun_mk (st := sFreeNum) lfrn cfrn kfrn
  have bfrn := Ffrn.binds (ps := ["self", "process"]) fun _ _ _ _ _ _ us hl => match us, hl with | [_, _], _ => rfl
  have Fnth := fun_mk (st := sNewThing) lnth cnth knth
  have bnth := Fnth.binds (ps := ["self", "process"]) fun _ _ _ _ _ _ us hl => match us, hl with | [_, _], _ => rfl
  have Funf := fun_mk (st := sUnfinished) lunf cunf kunf
  have bunf := Funf.binds (ps := ["self", "source", "number"]) fun _ _ _ _ _ _ us hl => match us, hl with | [_, _, _], _ => rfl
  have Frdy := fun_mk (st := sIsReady) lrdy crdy krdy
  have brdy := Frdy.binds (ps := ["self", "source"]) fun _ _ _ _ _ _ us hl => match us, hl with | [_, _], _ => rfl
  have Fnfy := fun_mk (st := sNotify) lnfy cnfy knfy
  have bnfy := Fnfy.binds (ps := ["self", "source"]) fun _ _ _ _ _ _ us hl => match us, hl with | [_, _], _ => rfl
  have Fnso := fun_mk (st := sNewSource) lnso cnso knso
  have bnso := Fnso.binds (ps := ["self", "process"]) fun _ _ _ _ _ _ us hl => match us, hl with | [_, _], _ => rfl
  have Fnse := fun_mk (st := sNewSet) lnse cnse knse
  have bnse := Fnse.binds (ps := ["self", "process"]) fun _ _ _ _ _ _ us hl => match us, hl with | [_, _], _ => rfl
  have Farr : FunD K "arrive" "System.arrive" (defArgs sArrive) (defBody sArrive) (defScope sArrive) ([V.int 1] : List V) ([] : List (Str × V)) f_arr (PySem.W.fnOf "arrive" "System.arrive" (defArgs sArrive) (defBody sArrive) (defScope sArrive) (.ref T_arr) kV_arr dc_arr pm_arr an_arr cd_arr ct_arr) := ⟨⟨_, _, (.ref T_arr), kV_arr, _, _, _, _, _, _, rfl, larr, carr, .inr ⟨(by intro z; cases z), T_arr, _, [.int 1 tv_arr0], nd_arr, rfl, Larr, rfl, (.cons ⟨_, rfl⟩ .nil)⟩, .inl rfl⟩, karr⟩
  obtain ⟨dsarr, varr, barr⟩ := Farr.binds1 (ps := ["self", "process", "number", "many"]) 3 0 (by intro z; cases z) rfl fun _ _ _ _ _ _ _ us its hu hi => match us, its, hu, hi with | [u0, u1, u2], [x0], _, _ => ⟨_, rfl, rfl⟩
  have Barr : Binds K (PySem.W.fnOf "arrive" "System.arrive" (defArgs sArrive) (defBody sArrive) (defScope sArrive) (.ref T_arr) kV_arr dc_arr pm_arr an_arr cd_arr ct_arr) (["self", "process", "number", "many"] : List Str) [] := by
    obtain ⟨ds, v, b⟩ := Farr.binds1 (ps := ["self", "process", "number", "many"]) 4 1 (by intro z; cases z) rfl fun _ _ _ _ _ _ _ us its hu hi => match us, its, hu, hi with | [u0, u1, u2, u3], [x0], _, _ => ⟨_, rfl, rfl⟩
    cases v
    exact b
  have Frd : FunD K "read" "System.read" (defArgs sRead) (defBody sRead) (defScope sRead) ([V.non] : List V) ([] : List (Str × V)) f_rd (PySem.W.fnOf "read" "System.read" (defArgs sRead) (defBody sRead) (defScope sRead) (.ref T_rd) kV_rd dc_rd pm_rd an_rd cd_rd ct_rd) := ⟨⟨_, _, (.ref T_rd), kV_rd, _, _, _, _, _, _, rfl, lrd, crd, .inr ⟨(by intro z; cases z), T_rd, _, [.none], nd_rd, rfl, Lrd, rfl, (.cons rfl .nil)⟩, .inl rfl⟩, krd⟩
  obtain ⟨dsrd, vrd, brd⟩ := Frd.binds1 (ps := ["self", "process", "number", "many"]) 3 0 (by intro z; cases z) rfl fun _ _ _ _ _ _ _ us its hu hi => match us, its, hu, hi with | [u0, u1, u2], [x0], _, _ => ⟨_, rfl, rfl⟩
  have Brd : Binds K (PySem.W.fnOf "read" "System.read" (defArgs sRead) (defBody sRead) (defScope sRead) (.ref T_rd) kV_rd dc_rd pm_rd an_rd cd_rd ct_rd) (["self", "process", "number", "many"] : List Str) [] := by
    obtain ⟨ds, v, b⟩ := Frd.binds1 (ps := ["self", "process", "number", "many"]) 4 1 (by intro z; cases z) rfl fun _ _ _ _ _ _ _ us its hu hi => match us, its, hu, hi with | [u0, u1, u2, u3], [x0], _, _ => ⟨_, rfl, rfl⟩
    cases v
    exact b
  have Frow := fun_mk (st := sRowOf) lrow crow krow
  have brow := Frow.binds (ps := ["self", "process", "set_number"]) fun _ _ _ _ _ _ us hl => match us, hl with | [_, _, _], _ => rfl
  have Fadd : FunD K "add" "System.add" (defArgs sAdd) (defBody sAdd) (defScope sAdd) ([] : List V) ([("word", V.str "level")] : List (Str × V)) f_add (PySem.W.fnOf "add" "System.add" (defArgs sAdd) (defBody sAdd) (defScope sAdd) .none (.ref D_add) dc_add pm_add an_add cd_add ct_add) := ⟨⟨_, _, .none, (.ref D_add), _, _, _, _, _, _, rfl, ladd, cadd, .inl ⟨rfl, rfl⟩, .inr ⟨D_add, rfl, fun q hq => by
    simp only [List.mem_cons, List.not_mem_nil, or_false] at hq
    rcases hq with rfl
    · exact ⟨_, wadd0, _, rfl⟩⟩⟩, kadd⟩
  obtain ⟨dsadd, vadd, badd⟩ := Fadd.binds0 (ps := ["self", "process", "set_number", "number", "label", "word"]) 5 (by intro z; cases z) rfl fun _ _ _ _ _ _ us ks hu hk => match us, ks, hu, hk with | [u0, u1, u2, u3, u4], [x0], _, _ => ⟨_, _, _, _, _, _, rfl, rfl, rfl⟩
  obtain ⟨mvw, bwadd⟩ := Fadd.kbinds0 (ps := ["self", "process", "set_number", "number", "label", "word"]) 5 ["word"] [] (fun us mv ws => us ++ ws) (by intro z; cases z) (fun q hq => absurd hq List.not_mem_nil) (fun a b c => a.append c) fun _ _ _ _ _ _ us mv ws hu hm hw => match us, mv, ws, hu, hm, hw with | [u0, u1, u2, u3, u4], [], [y0], _, _, _ => rfl
  have Fwai : FunD K "wait" "System.wait" (defArgs sWait) (defBody sWait) (defScope sWait) ([V.int 1] : List V) ([] : List (Str × V)) f_wai (PySem.W.fnOf "wait" "System.wait" (defArgs sWait) (defBody sWait) (defScope sWait) (.ref T_wai) kV_wai dc_wai pm_wai an_wai cd_wai ct_wai) := ⟨⟨_, _, (.ref T_wai), kV_wai, _, _, _, _, _, _, rfl, lwai, cwai, .inr ⟨(by intro z; cases z), T_wai, _, [.int 1 tv_wai0], nd_wai, rfl, Lwai, rfl, (.cons ⟨_, rfl⟩ .nil)⟩, .inl rfl⟩, kwai⟩
  obtain ⟨dswai, vwai, bwai⟩ := Fwai.binds1 (ps := ["self", "process", "set_number", "most"]) 3 0 (by intro z; cases z) rfl fun _ _ _ _ _ _ _ us its hu hi => match us, its, hu, hi with | [u0, u1, u2], [x0], _, _ => ⟨_, rfl, rfl⟩
  have Bwai : Binds K (PySem.W.fnOf "wait" "System.wait" (defArgs sWait) (defBody sWait) (defScope sWait) (.ref T_wai) kV_wai dc_wai pm_wai an_wai cd_wai ct_wai) (["self", "process", "set_number", "most"] : List Str) [] := by
    obtain ⟨ds, v, b⟩ := Fwai.binds1 (ps := ["self", "process", "set_number", "most"]) 4 1 (by intro z; cases z) rfl fun _ _ _ _ _ _ _ us its hu hi => match us, its, hu, hi with | [u0, u1, u2, u3], [x0], _, _ => ⟨_, rfl, rfl⟩
    cases v
    exact b
  have tup : ∀ {q : Addr} {dd : Option Addr} {its : Array Value} {n : Nat} {sl : Array (Option Value)} {xs : List Str}, K.lookup q = some ⟨.type "tuple", dd, .seq its n, sl⟩ → its.size ≤ sizeLine → Vals (xs.map V.str) its.toList → ∀ H, SqT K H q (xs.map V.str) := fun e hz hv H => .inr ⟨_, _, _, e, rfl, rfl, hz, hv⟩
  have DT : DrawTxt mg := ⟨(PySem.W.mg_none_of X G z_len), (PySem.W.mg_none_of X G z_enumerate), (PySem.W.mg_none_of X G z_int), (PySem.W.mg_none_of X G z_abs)⟩
  have CT : ChkTxt K mg := ⟨(PySem.W.mg_none_of X G z_isinstance), (PySem.W.mg_none_of X G z_int), (PySem.W.mg_none_of X G z_bool), ⟨tMC, PySem.W.mg_of X G gMC⟩, ⟨tML, PySem.W.mg_of X G gML⟩, ⟨wW, PySem.W.mg_of X G wA, tup (xs := wordsL) LW (by show 3 ≤ sizeLine; decide) (.cons ⟨_, rfl⟩ (.cons ⟨_, rfl⟩ (.cons ⟨_, rfl⟩ .nil)))⟩⟩
  have WT : WsTxt mg := ⟨(PySem.W.mg_none_of X G z_list), (PySem.W.mg_none_of X G z_len)⟩
  have YT : SysTxt mg := ⟨(PySem.W.mg_none_of X G z_enumerate), (PySem.W.mg_none_of X G z_list), (PySem.W.mg_none_of X G z_min)⟩
  have LX : LawTx mg := ⟨(PySem.W.mg_none_of X G z_range), (PySem.W.mg_none_of X G z_max), (PySem.W.mg_none_of X G z_min), (PySem.W.mg_none_of X G z_len), (PySem.W.mg_none_of X G z_list), (PySem.W.mg_none_of X G z_sorted)⟩
  have TS : ClsF K CS sysF := ⟨⟨pgS, hdS, poS, saS⟩, fun f hf => by
    simp only [sysF, List.mem_cons, List.not_mem_nil, or_false] at hf
    rcases hf with rfl | rfl | rfl | rfl | rfl | rfl
    · exact noS0
    · exact noS1
    · exact noS2
    · exact noS3
    · exact noS4
    · exact noS5⟩
  have TW : ClsF K CW wsF := ⟨⟨pgW, hdW, poW, saW⟩, fun f hf => by
    simp only [wsF, List.mem_cons, List.not_mem_nil, or_false] at hf
    rcases hf with rfl | rfl
    · exact noW0
    · exact noW1⟩
  have TR : ClsF K CR regF := ⟨⟨pgR, hdR, poR, saR⟩, fun f hf => by
    simp only [regF, List.mem_cons, List.not_mem_nil, or_false] at hf
    rcases hf with rfl | rfl | rfl | rfl
    · exact noR0
    · exact noR1
    · exact noR2
    · exact noR3⟩
  have LT : LimTxt K mg CS := ⟨⟨tLP, PySem.W.mg_of X G gLP⟩, ⟨tLN, PySem.W.mg_of X G gLN⟩, ⟨_, gMP, ⟨_, rfl⟩, sMP, by decide⟩, ⟨_, gMN, ⟨_, rfl⟩, sMN, by decide⟩⟩
  have KS : Mk K CS f_si := ⟨mkS, asi, isi, kcS⟩
  have gmS := PySem.W.mg_of X G gCS
  have KW : Mk K CW f_wi := ⟨mkW, awi, iwi, kcW⟩
  have gmW := PySem.W.mg_of X G gCW
  have KR : Mk K CR f_ri := ⟨mkR, ari, iri, kcR⟩
  have gmR := PySem.W.mg_of X G gCR
  refine ⟨PySem.W.fnOf "law" "law" (defArgs sLaw) (defBody sLaw) (defScope sLaw) .none kV_law dc_law pm_law an_law cd_law ct_law, fun s u => .of_eq rfl, fun base _ _ => ?_⟩
  have Gint := okIsInteger (P := P) (w := w) (K := K) (mg := mg) (base := base) Fint CT
  have Gbet := okIsBetween (P := P) (w := w) (K := K) (mg := mg) (base := base) Fbet Gint kint mint bint
  have Gcnt := okIsCount (P := P) (w := w) (K := K) (mg := mg) (base := base) Fcnt CT Gbet kbet mbet bbet
  have Glab := okIsLabel (P := P) (w := w) (K := K) (mg := mg) (base := base) Flab CT Gbet kbet mbet bbet
  have Gwrd := okIsWord (P := P) (w := w) (K := K) (mg := mg) (base := base) Fwrd CT
  have Gbag := okBag (P := P) (w := w) (K := K) (mg := mg) (base := base) Fbag DT
  have Gtake := okTake (P := P) (w := w) (K := K) (mg := mg) (base := base) Ftake DT
  have Glbl := okLabels (P := P) (w := w) (K := K) (mg := mg) (base := base) Flbl 
  have Gri := okRegInit (P := P) (w := w) (K := K) (mg := mg) (base := base) Fri TR
  have Gwi := okWsInit (P := P) (w := w) (K := K) (mg := mg) (base := base) Fwi TW
  have Gapp := okAppend (P := P) (w := w) (K := K) (mg := mg) (base := base) Fapp TW
  have Gput := okPut (P := P) (w := w) (K := K) (mg := mg) (base := base) Fput TW Gapp ⟨aapp, iapp, kapp⟩ bapp
  have Gstl := okSettle (P := P) (w := w) (K := K) (mg := mg) (base := base) Fstl TW TR gmR KR Gri bri
  have Glof := okLabelOf (P := P) (w := w) (K := K) (mg := mg) (base := base) Flof TW TR
  have Gntc := okNotice (P := P) (w := w) (K := K) (mg := mg) (base := base) Fntc TW TR Gapp ⟨aapp, iapp, kapp⟩ bapp
  have Grep := okReports (P := P) (w := w) (K := K) (mg := mg) (base := base) Frep WT TW TR Gstl ⟨astl, istl, kstl⟩ bstl
  have Gsi := okSysInit (P := P) (w := w) (K := K) (mg := mg) (base := base) (C := ⟨CS, CW, CR⟩) Fsi TS LT ⟨Gbet, kbet, mbet, bbet⟩
  have Gcon := okContains (P := P) (w := w) (K := K) (mg := mg) (base := base) (C := ⟨CS, CW, CR⟩) Fcon TS ⟨Gint, kint, mint, bint⟩
  have Gtof := okTableOf (P := P) (w := w) (K := K) (mg := mg) (base := base) (C := ⟨CS, CW, CR⟩) Ftof TS ⟨Gcon, ⟨acon, icon, kcon⟩, bcon⟩
  have Gitn := okIsTabNum (P := P) (w := w) (K := K) (mg := mg) (base := base) (C := ⟨CS, CW, CR⟩) Fitn TS ⟨Gbet, kbet, mbet, bbet⟩
  have Gtha := okThingAt (P := P) (w := w) (K := K) (mg := mg) (base := base) (C := ⟨CS, CW, CR⟩) Ftha TS ⟨Gtof, ⟨atof, itof, ktof⟩, btof⟩ ⟨Gitn, ⟨aitn, iitn, kitn⟩, bitn⟩
  have Gsra := okSourceAt (P := P) (w := w) (K := K) (mg := mg) (base := base) (C := ⟨CS, CW, CR⟩) Fsra TS ⟨Gtha, ⟨atha, itha, ktha⟩, btha⟩
  have Gsta := okSetAt (P := P) (w := w) (K := K) (mg := mg) (base := base) (C := ⟨CS, CW, CR⟩) Fsta TS ⟨Gtha, ⟨atha, itha, ktha⟩, btha⟩
  have Gfrn := okFreeNum (P := P) (w := w) (K := K) (mg := mg) (base := base) (C := ⟨CS, CW, CR⟩) Ffrn YT TS ⟨Gtof, ⟨atof, itof, ktof⟩, btof⟩
  have Gnth := okNewThing (P := P) (w := w) (K := K) (mg := mg) (base := base) (C := ⟨CS, CW, CR⟩) Fnth TS ⟨Gfrn, ⟨afrn, ifrn, kfrn⟩, bfrn⟩
  have Gunf := okUnfinished (P := P) (w := w) (K := K) (mg := mg) (base := base) (C := ⟨CS, CW, CR⟩) Funf TS
  have Grdy := okIsReady (P := P) (w := w) (K := K) (mg := mg) (base := base) (C := ⟨CS, CW, CR⟩) Frdy TS
  have Gnfy := okNotify (P := P) (w := w) (K := K) (mg := mg) (base := base) (C := ⟨CS, CW, CR⟩) Fnfy TS TW.cl ⟨Gntc, ⟨antc, intc, kntc⟩, bntc⟩
  have Garr := okArrive (P := P) (w := w) (K := K) (mg := mg) (base := base) (C := ⟨CS, CW, CR⟩) Farr TS ⟨Gsra, ⟨asra, isra, ksra⟩, bsra⟩ ⟨Gunf, ⟨aunf, iunf, kunf⟩, bunf⟩ ⟨Gnfy, ⟨anfy, infy, knfy⟩, bnfy⟩ ⟨Gcnt, kcnt, mcnt, bcnt⟩
  have Grd := okRead (P := P) (w := w) (K := K) (mg := mg) (base := base) (C := ⟨CS, CW, CR⟩) Frd YT TS ⟨Gsra, ⟨asra, isra, ksra⟩, bsra⟩ ⟨Gcnt, kcnt, mcnt, bcnt⟩
  have Grow := okRowOf (P := P) (w := w) (K := K) (mg := mg) (base := base) (C := ⟨CS, CW, CR⟩) Frow YT TS TW ⟨Gsta, ⟨asta, ista, ksta⟩, bsta⟩
  have Gadd := okAdd (P := P) (w := w) (K := K) (mg := mg) (base := base) (C := ⟨CS, CW, CR⟩) Fadd TS TW ⟨Gsta, ⟨asta, ista, ksta⟩, bsta⟩ ⟨Gsra, ⟨asra, isra, ksra⟩, bsra⟩ ⟨Glab, klab, mlab, blab⟩ ⟨Gwrd, kwrd, mwrd, bwrd⟩ ⟨Glof, ⟨alof, ilof, klof⟩, blof⟩ gmR KR Gri bri ⟨Grdy, ⟨ardy, irdy, krdy⟩, brdy⟩ ⟨Gput, ⟨aput, iput, kput⟩, bput⟩
  have Gwai := okWait (P := P) (w := w) (K := K) (mg := mg) (base := base) (C := ⟨CS, CW, CR⟩) Fwai TS TW ⟨Gsta, ⟨asta, ista, ksta⟩, bsta⟩ ⟨Gcnt, kcnt, mcnt, bcnt⟩ ⟨Grep, ⟨arep, irep, krep⟩, brep⟩
  have Gnso := okNewSource (P := P) (w := w) (K := K) (mg := mg) (base := base) (C := ⟨CS, CW, CR⟩) Fnso TS ⟨Gnth, ⟨anth, inth, knth⟩, bnth⟩
  have Gnse := okNewSet (P := P) (w := w) (K := K) (mg := mg) (base := base) (C := ⟨CS, CW, CR⟩) Fnse TS ⟨Gnth, ⟨anth, inth, knth⟩, bnth⟩ gmW KW Gwi bwi
  have Gchg := okChange (P := P) (w := w) (K := K) (mg := mg) (base := base) (C := ⟨CS, CW, CR⟩) Fchg TS TW ⟨Gsta, ⟨asta, ista, ksta⟩, bsta⟩ ⟨Gsra, ⟨asra, isra, ksra⟩, bsra⟩ ⟨Gwrd, kwrd, mwrd, bwrd⟩ ⟨Glof, ⟨alof, ilof, klof⟩, blof⟩ gmR KR Gri bri ⟨Grdy, ⟨ardy, irdy, krdy⟩, brdy⟩ ⟨Gput, ⟨aput, iput, kput⟩, bput⟩
  have Gcpy := okCopy (P := P) (w := w) (K := K) (mg := mg) (base := base) (C := ⟨CS, CW, CR⟩) Fcpy TS ⟨Gtha, ⟨atha, itha, ktha⟩, btha⟩ ⟨Gitn, ⟨aitn, iitn, kitn⟩, bitn⟩ ⟨Gfrn, ⟨afrn, ifrn, kfrn⟩, bfrn⟩
  have Gfin := okFinish (P := P) (w := w) (K := K) (mg := mg) (base := base) (C := ⟨CS, CW, CR⟩) Ffin TS ⟨Gsra, ⟨asra, isra, ksra⟩, bsra⟩ ⟨Gunf, ⟨aunf, iunf, kunf⟩, bunf⟩ ⟨Gnfy, ⟨anfy, infy, knfy⟩, bnfy⟩
  have Gwts := okWaits (P := P) (w := w) (K := K) (mg := mg) (base := base) (C := ⟨CS, CW, CR⟩) Fwts LX TS ⟨Glbl, klbl, mlbl, blbl⟩ ⟨Grow, ⟨arow, irow, krow⟩, brow⟩ ⟨Gwai, ⟨awai, iwai, kwai⟩, Bwai⟩
  exact okLaw (C := ⟨CS, CW, CR⟩) Flaw LX TS nWR ⟨Gbag, kbag, mbag, bbag⟩ ⟨Gtake, ktake, mtake, btake⟩ ⟨Glbl, klbl, mlbl, blbl⟩ ⟨Gwts, kwts, mwts, bwts⟩ gmS KS Gsi bsi vsi ⟨Gnse, ⟨anse, inse, knse⟩, bnse⟩ ⟨Gnso, ⟨anso, inso, knso⟩, bnso⟩ ⟨Gcpy, ⟨acpy, icpy, kcpy⟩, bcpy, vcpy⟩ ⟨Garr, ⟨aarr, iarr, karr⟩, Barr⟩ ⟨Gfin, ⟨afin, ifin, kfin⟩, bfin⟩ ⟨Gadd, ⟨aadd, iadd, kadd⟩, bwadd⟩ ⟨Gchg, ⟨achg, ichg, kchg⟩, bwchg⟩ ⟨Grd, ⟨ard, ird, krd⟩, brd, vrd⟩ ⟨Gwai, ⟨awai, iwai, kwai⟩, Bwai⟩
theorem walk12 {l : PySem.W.OpenLaw} {q : Program} {loose : List Str} {XP : (Str → Option Value) → Heap → Prop} {YP : World → Heap → Prop} {d : DefRec} {K : Params → PySem.W.Frag} (hn : l.most = some 63) (hdf : d.params.defaults = [])
    (hY : ∀ (w : World) (h : Heap), YP w h → (K w.params).In h)
    (F : ∀ (w : World) (mg : Str → Option Value) (fa : Addr) (h : Heap), (K w.params).In h → h.Ns mainGlobals mg → mg d.name = some (.ref fa) →
      ∃ fd : FuncData, (∀ (s : Shared) (u : Value), BindsTo s fd ⟨[u], []⟩ [("_law_script", u)]) ∧ ∀ base : Heap, (K w.params).In base → base.Ns mainGlobals mg → FnOk l.prog w (K w.params) mg base CX0 8 fa fd ["_law_script"] (spLaw (K w.params))) :
    PySem.W.WalkO q loose XP YP l.row.toRowW d [] (fun f vs => PySem.call f vs) :=
  L2.walk_of (n := 63) (k := 8) (x := "_law_script") (CX := fun _ => CX0) (sp := fun w => spLaw (K w.params)) hn (by decide) hdf ⟨rfl, by decide, by decide⟩ hY F (fun _ _ a ns hl _ hS => ⟨a, ns, rfl, hS, hl, fun _ => rfl⟩) fun _ _ _ _ _ z => z
end Wn

open PySem PySem.W PyProof.Rows in
set_option maxRecDepth 100000 in
set_option maxHeartbeats 0 in
theorem PySem.Challenge.cw_waitnumbers_k12_finished_sources_holds : PySem.Challenge.rw_waitnumbers_k12_finished_sources.Holds := by
  w_on; o_law; k_head; (case hw => w_witness2)
  k_fill
  refine Wn.walk12 (l := PySem.Challenge.rw_waitnumbers_k12_finished_sources) rfl rfl (fun w h Y => PySem.W.kIn_of Y) ?F
  case F =>
    intro w mg fa h KX G hmg
    refine' Wn.all_mk (w := w) KX G hmg ?gCS ?pgS ?hdS ?poS ?saS ?mkS ?kcS ?noS0 ?noS1 ?noS2 ?noS3 ?noS4 ?noS5 ?gCW ?pgW ?hdW ?poW ?saW ?mkW ?kcW ?noW0 ?noW1 ?gCR ?pgR ?hdR ?poR ?saR ?mkR ?kcR ?noR0 ?noR1 ?noR2 ?noR3 ?nWR ?aint ?lint ?cint ?kint ?abet ?lbet ?cbet ?kbet ?acnt ?lcnt ?ccnt ?kcnt ?alab ?llab ?clab ?klab ?awrd ?lwrd ?cwrd ?kwrd ?abag ?lbag ?cbag ?kbag ?atake ?ltake ?ctake ?ktake ?albl ?llbl ?clbl ?klbl ?awts ?lwts ?cwts ?kwts ?alaw ?llaw ?claw ?klaw ?ari ?iri ?lri ?cri ?kri ?awi ?iwi ?lwi ?cwi ?kwi ?aapp ?iapp ?lapp ?capp ?kapp ?aput ?iput ?lput ?cput ?kput ?astl ?istl ?lstl ?cstl ?kstl ?alof ?ilof ?llof ?clof ?klof ?achg ?ichg ?lchg ?cchg ?kchg ?acpy ?icpy ?lcpy ?ccpy ?kcpy ?Lcpy ?afin ?ifin ?lfin ?cfin ?kfin ?antc ?intc ?lntc ?cntc ?kntc ?arep ?irep ?lrep ?crep ?krep ?asi ?isi ?lsi ?csi ?ksi ?wsi0 ?wsi1 ?acon ?icon ?lcon ?ccon ?kcon ?atof ?itof ?ltof ?ctof ?ktof ?aitn ?iitn ?litn ?citn ?kitn ?atha ?itha ?ltha ?ctha ?ktha ?asra ?isra ?lsra ?csra ?ksra ?asta ?ista ?lsta ?csta ?ksta ?afrn ?ifrn ?lfrn ?cfrn ?kfrn ?anth ?inth ?lnth ?cnth ?knth ?aunf ?iunf ?lunf ?cunf ?kunf ?ardy ?irdy ?lrdy ?crdy ?krdy ?anfy ?infy ?lnfy ?cnfy ?knfy ?anso ?inso ?lnso ?cnso ?knso ?anse ?inse ?lnse ?cnse ?knse ?aarr ?iarr ?larr ?carr ?karr ?Larr ?ard ?ird ?lrd ?crd ?krd ?Lrd ?arow ?irow ?lrow ?crow ?krow ?aadd ?iadd ?ladd ?cadd ?kadd ?wadd0 ?awai ?iwai ?lwai ?cwai ?kwai ?Lwai ?z_len ?z_enumerate ?z_int ?z_abs ?z_isinstance ?z_bool ?z_list ?z_min ?z_max ?z_range ?z_sorted ?wA ?LW ?gMC ?gML ?gLP ?gLN ?gMP ?gMN ?sMP ?sMN
    (case gCS => k_is)
    (case pgS => k_is)
    (case hdS => k_is)
    (case poS => k_is)
    (case saS => k_is)
    (case mkS => k_is)
    (case kcS => k_is)
    (case noS0 => k_is)
    (case noS1 => k_is)
    (case noS2 => k_is)
    (case noS3 => k_is)
    (case noS4 => k_is)
    (case noS5 => k_is)
    (case gCW => k_is)
    (case pgW => k_is)
    (case hdW => k_is)
    (case poW => k_is)
    (case saW => k_is)
    (case mkW => k_is)
    (case kcW => k_is)
    (case noW0 => k_is)
    (case noW1 => k_is)
    (case gCR => k_is)
    (case pgR => k_is)
    (case hdR => k_is)
    (case poR => k_is)
    (case saR => k_is)
    (case mkR => k_is)
    (case kcR => k_is)
    (case noR0 => k_is)
    (case noR1 => k_is)
    (case noR2 => k_is)
    (case noR3 => k_is)
    (case nWR => decide)
    (case aint => k_is)
    (case lint => k_is)
    (case cint => k_is)
    (case kint => k_is)
    (case abet => k_is)
    (case lbet => k_is)
    (case cbet => k_is)
    (case kbet => k_is)
    (case acnt => k_is)
    (case lcnt => k_is)
    (case ccnt => k_is)
    (case kcnt => k_is)
    (case alab => k_is)
    (case llab => k_is)
    (case clab => k_is)
    (case klab => k_is)
    (case awrd => k_is)
    (case lwrd => k_is)
    (case cwrd => k_is)
    (case kwrd => k_is)
    (case abag => k_is)
    (case lbag => k_is)
    (case cbag => k_is)
    (case kbag => k_is)
    (case atake => k_is)
    (case ltake => k_is)
    (case ctake => k_is)
    (case ktake => k_is)
    (case albl => k_is)
    (case llbl => k_is)
    (case clbl => k_is)
    (case klbl => k_is)
    (case awts => k_is)
    (case lwts => k_is)
    (case cwts => k_is)
    (case kwts => k_is)
    (case alaw => k_is)
    (case llaw => k_is)
    (case claw => k_is)
    (case klaw => k_is)
    (case ari => k_is)
    (case iri => k_is)
    (case lri => k_is)
    (case cri => k_is)
    (case kri => k_is)
    (case awi => k_is)
    (case iwi => k_is)
    (case lwi => k_is)
    (case cwi => k_is)
    (case kwi => k_is)
    (case aapp => k_is)
    (case iapp => k_is)
    (case lapp => k_is)
    (case capp => k_is)
    (case kapp => k_is)
    (case aput => k_is)
    (case iput => k_is)
    (case lput => k_is)
    (case cput => k_is)
    (case kput => k_is)
    (case astl => k_is)
    (case istl => k_is)
    (case lstl => k_is)
    (case cstl => k_is)
    (case kstl => k_is)
    (case alof => k_is)
    (case ilof => k_is)
    (case llof => k_is)
    (case clof => k_is)
    (case klof => k_is)
    (case achg => k_is)
    (case ichg => k_is)
    (case lchg => k_is)
    (case cchg => k_is)
    (case kchg => k_is)
    (case acpy => k_is)
    (case icpy => k_is)
    (case lcpy => k_is)
    (case ccpy => k_is)
    (case kcpy => k_is)
    (case Lcpy => k_is)
    (case afin => k_is)
    (case ifin => k_is)
    (case lfin => k_is)
    (case cfin => k_is)
    (case kfin => k_is)
    (case antc => k_is)
    (case intc => k_is)
    (case lntc => k_is)
    (case cntc => k_is)
    (case kntc => k_is)
    (case arep => k_is)
    (case irep => k_is)
    (case lrep => k_is)
    (case crep => k_is)
    (case krep => k_is)
    (case asi => k_is)
    (case isi => k_is)
    (case lsi => k_is)
    (case csi => k_is)
    (case ksi => k_is)
    (case wsi0 => k_is)
    (case wsi1 => k_is)
    (case acon => k_is)
    (case icon => k_is)
    (case lcon => k_is)
    (case ccon => k_is)
    (case kcon => k_is)
    (case atof => k_is)
    (case itof => k_is)
    (case ltof => k_is)
    (case ctof => k_is)
    (case ktof => k_is)
    (case aitn => k_is)
    (case iitn => k_is)
    (case litn => k_is)
    (case citn => k_is)
    (case kitn => k_is)
    (case atha => k_is)
    (case itha => k_is)
    (case ltha => k_is)
    (case ctha => k_is)
    (case ktha => k_is)
    (case asra => k_is)
    (case isra => k_is)
    (case lsra => k_is)
    (case csra => k_is)
    (case ksra => k_is)
    (case asta => k_is)
    (case ista => k_is)
    (case lsta => k_is)
    (case csta => k_is)
    (case ksta => k_is)
    (case afrn => k_is)
    (case ifrn => k_is)
    (case lfrn => k_is)
    (case cfrn => k_is)
    (case kfrn => k_is)
    (case anth => k_is)
    (case inth => k_is)
    (case lnth => k_is)
    (case cnth => k_is)
    (case knth => k_is)
    (case aunf => k_is)
    (case iunf => k_is)
    (case lunf => k_is)
    (case cunf => k_is)
    (case kunf => k_is)
    (case ardy => k_is)
    (case irdy => k_is)
    (case lrdy => k_is)
    (case crdy => k_is)
    (case krdy => k_is)
    (case anfy => k_is)
    (case infy => k_is)
    (case lnfy => k_is)
    (case cnfy => k_is)
    (case knfy => k_is)
    (case anso => k_is)
    (case inso => k_is)
    (case lnso => k_is)
    (case cnso => k_is)
    (case knso => k_is)
    (case anse => k_is)
    (case inse => k_is)
    (case lnse => k_is)
    (case cnse => k_is)
    (case knse => k_is)
    (case aarr => k_is)
    (case iarr => k_is)
    (case larr => k_is)
    (case carr => k_is)
    (case karr => k_is)
    (case Larr => k_is)
    (case ard => k_is)
    (case ird => k_is)
    (case lrd => k_is)
    (case crd => k_is)
    (case krd => k_is)
    (case Lrd => k_is)
    (case arow => k_is)
    (case irow => k_is)
    (case lrow => k_is)
    (case crow => k_is)
    (case krow => k_is)
    (case aadd => k_is)
    (case iadd => k_is)
    (case ladd => k_is)
    (case cadd => k_is)
    (case kadd => k_is)
    (case wadd0 => k_is)
    (case awai => k_is)
    (case iwai => k_is)
    (case lwai => k_is)
    (case cwai => k_is)
    (case kwai => k_is)
    (case Lwai => k_is)
    (case z_len => k_is)
    (case z_enumerate => k_is)
    (case z_int => k_is)
    (case z_abs => k_is)
    (case z_isinstance => k_is)
    (case z_bool => k_is)
    (case z_list => k_is)
    (case z_min => k_is)
    (case z_max => k_is)
    (case z_range => k_is)
    (case z_sorted => k_is)
    (case wA => k_is)
    (case LW => k_is)
    (case gMC => k_is)
    (case gML => k_is)
    (case gLP => k_is)
    (case gLN => k_is)
    (case gMP => k_is)
    (case gMN => k_is)
    (case sMP => first | k_is | rfl)
    (case sMN => first | k_is | rfl)

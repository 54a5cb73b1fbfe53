import PyProof.Rows.All
import Wide.All
import OpenK.AllK
import Wide.FinOn
import HandS.ForMost
import HandS.Wide
import HandS.Evl
import HandS.Walk
import HandS.NoneIn
import HandS.IsInst
import HandS.More
import HandS.Defaults
import HandS.MakeKwOnly
import HandS.Conv
import HandS.Style
import HandS.OwnEq
import HandS.Flow
import HandS.Remove
import PySem.Challenge.RW_waitnumbers_k09_rows_of_pending
set_option Elab.async false
set_option linter.all false
set_option compiler.extract_closed false
set_option genSizeOf false
set_option genInjectivity false
set_option maxRecDepth 100000
set_option maxHeartbeats 4000000
namespace Wn
open PySem PySem.Spec PyProof.Rows L2 Evl
noncomputable def top (i : Nat) : Stmt := PySem.Challenge.pw_waitnumbers_k09_rows_of_pending.main.body.getD i (.Pass ⟨0, 0, 0, 0⟩)
noncomputable abbrev sBag : Stmt := top 33
noncomputable abbrev sTake : Stmt := top 34
noncomputable abbrev sOf : Stmt := top 35
/-! readings with names -/
noncomputable def rInt1 : List V → Hp → VK → Prop := fun xs H Q => (∃ i, xs = [.int i] ∧ Q (.int i) H) ∨ ∃ k, xs = [.bl k] ∧ Q (.int (if k = true then 1 else 0)) H
noncomputable def rAbs : List V → Hp → VK → Prop := fun xs H Q => ∃ i, xs = [.int i] ∧ Q (.int (if i < 0 then -i else i)) H
theorem cInt1 {X : Cx} : CallR X (.type "int") rInt1 := call_int1
theorem cAbs {X : Cx} : CallR X (.builtin "abs") rAbs := call_abs
noncomputable def rIsN : R2 := fun x y H Q => y = .non ∧ Q (.bl (decide (x = .non))) H
noncomputable def rNotN : R2 := fun x y H Q => y = .non ∧ Q (.bl (!decide (x = .non))) H
noncomputable def rAddS : R2 := fun x y H Q => ∃ i j, x = .str i ∧ y = .str j ∧ i.length + j.length ≤ sizeLine ∧ Q (.str (i ++ j)) H
noncomputable def rLenQ (K : PySem.W.Frag) : List V → Hp → VK → Prop := fun xs H Q => ∃ p ys, xs = [.ref p] ∧ (SqL K H p ys ∨ SqT K H p ys) ∧ Q (.int ys.length) H
noncomputable def rLenS : List V → Hp → VK → Prop := fun xs H Q => ∃ z, xs = [.str z] ∧ z.length ≤ sizeLine ∧ Q (.int z.length) H
noncomputable def rMax2 : List V → Hp → VK → Prop := fun xs H Q => ∃ i j, xs = [.int i, .int j] ∧ Q (.int (if j > i then j else i)) H
noncomputable def rMin2 : List V → Hp → VK → Prop := fun xs H Q => ∃ i j, xs = [.int i, .int j] ∧ Q (.int (if j < i then j else i)) H
theorem oIsN {X : Cx} : OpR X (compareOp .Is) rIsN := op_isN
theorem oNotN {X : Cx} : OpR X (compareOp .IsNot) rNotN := op_notN
theorem cLenQ {X : Cx} : CallR X (.builtin "len") (rLenQ X.K) := call_len_seq
theorem cMax2 {X : Cx} (hc : X.calm = true) : CallR X (.builtin "max") rMax2 := call_max2 hc
theorem cMin2 {X : Cx} (hc : X.calm = true) : CallR X (.builtin "min") rMin2 := call_min2 hc
/-! one step of a reading -/
section
variable {σ : L2.St} {H : Hp} {Q : VK} {ta tb te : TE} {tl : TA} {t u : TS} {D : Ends} {c : TT} {r : R2} {v : V} {i : Nat}
theorem g_var (h : σ[i]? = some (some v)) (q : Q v H) : tVar i σ H Q := ⟨v, h, q⟩
theorem g_c (q : Q v H) : tC v σ H Q := q
theorem g_op (q : ta σ H fun x H1 => tb σ H1 fun y H2 => r x y H2 Q) : tOp r ta tb σ H Q := q
theorem g_un {r : V → Hp → VK → Prop} (q : ta σ H fun x H1 => r x H1 Q) : tUn r ta σ H Q := q
theorem g_rI0 {g : Int → Int → V} {a b : Int} (q : Q (g a b) H) : rI0 g (.int a) (.int b) H Q := ⟨a, b, rfl, rfl, q⟩
theorem g_rI {C : Int → Int → Prop} {g : Int → Int → V} {a b : Int} (hc : C a b) (q : Q (g a b) H) : rI C g (.int a) (.int b) H Q := ⟨a, b, rfl, rfl, hc, q⟩
theorem g_mul {a b : Int} (h : (-(2 ^ 64) < a ∧ a < 2 ^ 64) ∨ (-(2 ^ 64) < b ∧ b < 2 ^ 64)) (q : Q (.int (a * b)) H) : rI CMul (fun i j => .int (i * j)) (.int a) (.int b) H Q := ⟨a, b, rfl, rfl, h, q⟩
theorem g_mod {a b : Int} (h : 0 < b) (q : Q (.int (a % b)) H) : rI (fun _ j => 0 < j) (fun i j => .int (i % j)) (.int a) (.int b) H Q := ⟨a, b, rfl, rfl, h, q⟩
theorem g_rEq {x y : V} (h : scal x y = true) (q : Q (.bl (decide (x = y))) H) : rEq x y H Q := ⟨h, q⟩
theorem g_rNe {x y : V} (h : scal x y = true) (q : Q (.bl (!decide (x = y))) H) : rNe x y H Q := ⟨h, q⟩
theorem g_asg {g : TG} (q : te σ H fun x H1 => g x σ H1 D.nx) : tAsg te g D σ H := q
theorem g_name {k : L2.St → Hp → Prop} (q : k (σ.set i (some v)) H) : gName i v σ H k := q
theorem g_seq (q : t { D with nx := u D } σ H) : tSeq t u D σ H := q
theorem g_ret (q : te σ H D.rt) : tRet te D σ H := q
theorem g_retN (q : D.rt .non H) : tRetN D σ H := q
theorem g_next (q : D.nx σ H) : tNext D σ H := q
theorem g_drop (q : te σ H fun _ H1 => D.nx σ H1) : tDrop te D σ H := q
theorem g_nil {k : List V → Hp → Prop} (q : k [] H) : tNil σ H k := q
theorem g_cons {k : List V → Hp → Prop} (q : ta σ H fun x H1 => tl σ H1 fun xs H2 => k (x :: xs) H2) : tCons ta tl σ H k := q
theorem g_cb {r : List V → Hp → VK → Prop} (q : tl σ H fun vs H1 => r vs H1 Q) : tCB r tl σ H Q := q
theorem g_test {k : Bool → Hp → Prop} (q : te σ H fun x H1 => ∃ b, x = .bl b ∧ k b H1) : tTest te σ H k := q
theorem g_tB {k : Bool → Hp → Prop} (q : te σ H fun x H1 => ∃ b, x = .bl b ∧ k b H1) : tB te σ H k := q
theorem g_bl {b : Bool} {k : Bool → Prop} (q : k b) : ∃ z, V.bl b = .bl z ∧ k z := ⟨b, rfl, q⟩
theorem g_if (q : c σ H fun b H1 => if b = true then ta σ H1 Q else tb σ H1 Q) : tIf c ta tb σ H Q := q
theorem g_ifs (q : c σ H fun b H1 => if b = true then t D σ H1 else u D σ H1) : tIfS c t u D σ H := q
theorem g_not {k : Bool → Hp → Prop} (q : c σ H fun b H1 => k (!b) H1) : tNot c σ H k := q
theorem g_part {k : Option Int → Hp → Prop} (q : te σ H fun x H1 => ∃ z, x = .int z ∧ k (some z) H1) : tPart te σ H k := q
theorem g_pint {z : Int} {k : Int → Prop} (q : k z) : ∃ y, V.int z = .int y ∧ k y := ⟨z, rfl, q⟩
theorem g_lst (q : tl σ H fun xs H1 => xs.length ≤ sizeLine ∧ ∀ p, H1 p = none → Q (.ref p) (upd H1 p (.lst xs))) : tLst tl σ H Q := q
theorem g_tup (q : tl σ H fun xs H1 => xs.length ≤ sizeLine ∧ ∀ p, H1 p = none → Q (.ref p) (upd H1 p (.tup xs))) : tTup tl σ H Q := q
theorem g_ixL {K : PySem.W.Frag} {p : Addr} {xs : List V} {z : Int} (h : H p = some (.lst xs)) (a : atI xs z = some v) (q : Q v H) : rIxL K (.ref p) (.int z) H Q := ⟨p, xs, z, v, rfl, rfl, SqL.of h, a, q⟩
theorem cdivw_of {a b : Int} (h0 : 0 < b) (h1 : b < 4611686018427387904) : CDivW a b := wide_div (b := 62) h0 (by omega) (by decide) (by decide)
theorem g_div {a b : Int} (h0 : 0 < b) (h1 : b < 4611686018427387904) (q : Q (.int (a / b)) H) : rI CDivW (fun i j => .int (i / j)) (.int a) (.int b) H Q := ⟨a, b, rfl, rfl, cdivw_of h0 h1, q⟩
theorem g_sub {to ti : TE} {ts : TSet} {k : L2.St → Hp → Prop} (q : to σ H fun o H1 => ti σ H1 fun i H2 => ts o i v H2 fun H3 => k σ H3) : gSub to ti ts v σ H k := q
theorem g_setL {p : Addr} {xs : List V} {z : Int} {j : Nat} {k : Hp → Prop} (h : H p = some (.lst xs)) (a : ixN xs.length z = some j) (q : k (upd H p (.lst (xs.set j v)))) : rSetL (.ref p) (.int z) v H k := ⟨p, xs, z, j, rfl, rfl, h, a, q⟩
theorem g_nopart {k : Option Int → Hp → Prop} (q : k none H) : tNoPart σ H k := q
theorem g_call {sp : Sp} {dvs : List V} {E : XK} (q : tl σ H fun vs H1 => sp (vs ++ dvs) H1 Q E) : tCall sp dvs E tl σ H Q := q
theorem g_rint (z : Int) (q : Q (.int z) H) : rInt1 [.int z] H Q := .inl ⟨z, rfl, q⟩
theorem g_rabs {z : Int} (q : Q (.int (if z < 0 then -z else z)) H) : rAbs [.int z] H Q := ⟨z, rfl, q⟩
theorem g_sl {r : V → Option Int → Option Int → Hp → VK → Prop} {a b : TO} (q : te σ H fun x H1 => a σ H1 fun l H2 => b σ H2 fun h H3 => r x l h H3 Q) : tSl r te a b σ H Q := q
theorem g_rIsN {x : V} (q : Q (.bl (decide (x = .non))) H) : rIsN x .non H Q := ⟨rfl, q⟩
theorem g_rNotN {x : V} (q : Q (.bl (!decide (x = .non))) H) : rNotN x .non H Q := ⟨rfl, q⟩
theorem g_lenL {K : PySem.W.Frag} {p : Addr} {xs : List V} (h : H p = some (.lst xs)) (q : Q (.int xs.length) H) : rLenQ K [.ref p] H Q := ⟨p, xs, rfl, .inl (SqL.of h), q⟩
theorem g_max2 {a b : Int} (q : Q (.int (if b > a then b else a)) H) : rMax2 [.int a, .int b] H Q := ⟨a, b, rfl, q⟩
theorem g_min2 {a b : Int} (q : Q (.int (if b < a then b else a)) H) : rMin2 [.int a, .int b] H Q := ⟨a, b, rfl, q⟩
theorem g_and {t u : TT} {k : Bool → Hp → Prop} (q : t σ H fun b H1 => if b = true then u σ H1 k else k false H1) : tAnd t u σ H k := q
theorem g_or {t u : TT} {k : Bool → Hp → Prop} (q : t σ H fun b H1 => if b = true then k true H1 else u σ H1 k) : tOr t u σ H k := q
theorem g_orV (q : ta σ H fun x H1 => ∃ b, x = .bl b ∧ if b = true then Q (.bl true) H1 else tb σ H1 Q) : tOrV ta tb σ H Q := q
theorem g_andV (q : ta σ H fun x H1 => ∃ b, x = .bl b ∧ if b = true then tb σ H1 Q else Q (.bl false) H1) : tAndV ta tb σ H Q := q
theorem g_notV (q : ta σ H fun x H1 => ∃ b, x = .bl b ∧ Q (.bl (!b)) H1) : tNotV ta σ H Q := q
theorem g_m0 {r : V → List V → Hp → VK → Prop} (q : ta σ H fun x H1 => (∃ a, x = .str a) ∧ r x [] H1 Q) : tM0 r ta σ H Q := q
theorem g_m1 {r : V → List V → Hp → VK → Prop} (q : ta σ H fun x H1 => (∃ a, x = .str a) ∧ tb σ H1 fun y H2 => r x [y] H2 Q) : tM1 r ta tb σ H Q := q
theorem g_isS {z : Str} {c : Prop} (q : c) : (∃ a, V.str z = .str a) ∧ c := ⟨⟨z, rfl⟩, q⟩
theorem g_bT {A B : Prop} (q : A) : if true = true then A else B := iteT q
theorem g_bF {A B : Prop} (q : B) : if false = true then A else B := iteF q
theorem g_bNT {A B : Prop} (q : B) : if (!true) = true then A else B := iteF q
theorem g_bNF {A B : Prop} (q : A) : if (!false) = true then A else B := iteT q
theorem g_bm {K : PySem.W.Frag} {T : String} {r : V → List V → Hp → VK → Prop} (q : ta σ H fun x H1 => tyV K T x H1 ∧ tl σ H1 fun xs H2 => r x xs H2 Q) : tBM K T r ta tl σ H Q := q
theorem g_bm0 {K : PySem.W.Frag} {T : String} {r : V → List V → Hp → VK → Prop} (q : ta σ H fun x H1 => tyV K T x H1 ∧ r x [] H1 Q) : tBM0 K T r ta σ H Q := q
theorem g_tyL {K : PySem.W.Frag} {p : Addr} {xs : List V} {c : Prop} (h : H p = some (.lst xs)) (q : c) : tyV K "list" (.ref p) H ∧ c := ⟨.inl ⟨rfl, _, SqL.of h⟩, q⟩
theorem g_yes {k : Bool → Hp → Prop} (q : k true H) : tYes σ H k := q
theorem g_nes {x : V} {A B : Prop} (q : B) : if (!decide (x = x)) = true then A else B := by
  rw [decide_eq_true rfl]
  exact iteF q
theorem g_es {x : V} {A B : Prop} (q : A) : if decide (x = x) = true then A else B := by
  rw [decide_eq_true rfl]
  exact iteT q
theorem g_callK {sp : Sp} {gV : List V → List V → List V} {E : XK} {tk : TA} (q : tl σ H fun vs H1 => tk σ H1 fun zs H2 => sp (gV vs zs) H2 Q E) : tCallK sp gV E tl tk σ H Q := q
end
local macro_rules | `(tactic| walk_at "wn1") => `(tactic| first | ((with_reducible show (if (!decide _) = true then _ else _)); refine' g_nes ?_) | ((with_reducible show (if (decide _) = true then _ else _)); refine' g_es ?_) | with_reducible first
  | (refine' g_var ?h ?q; (case h => with_unfolding_all rfl))
  | refine' g_c ?_ | refine' g_op ?_ | refine' g_rI0 ?_ | refine' g_asg ?_ | refine' g_name ?_ | refine' g_seq ?_ | refine' g_ret ?_ | refine' g_retN ?_ | refine' g_next ?_ | refine' g_drop ?_
  | refine' g_nil ?_ | refine' g_cons ?_ | refine' g_cb ?_ | refine' g_test ?_ | refine' g_bl ?_ | refine' g_if ?_ | refine' g_ifs ?_ | refine' g_not ?_ | refine' g_part ?_ | refine' g_pint ?_ | refine' g_nopart ?_ | refine' g_call ?_
  | (refine' g_mul ?h ?q; (case h => with_unfolding_all first | exact Or.inl ⟨by decide, by decide⟩ | exact Or.inr ⟨by decide, by decide⟩ | exact Or.inl ⟨by omega, by omega⟩ | exact Or.inr ⟨by omega, by omega⟩))
  | (refine' g_mod ?h ?q; (case h => with_unfolding_all first | decide | omega))
  | refine' g_rIsN ?_ | refine' g_rNotN ?_ | refine' g_max2 ?_ | refine' g_min2 ?_ | refine' g_and ?_ | refine' g_or ?_ | refine' g_orV ?_ | refine' g_andV ?_ | refine' g_notV ?_ | refine' g_m1 ?_ | refine' g_yes ?_ | refine' g_bm ?_ | refine' g_bm0 ?_
  | (refine' g_tyL ?h ?q; (case h => first | assumption | exact upd_same))
  | refine' g_m0 ?_ | refine' g_tB ?_ | refine' g_isS ?_ | refine' g_bT ?_ | refine' g_bF ?_ | refine' g_bNT ?_ | refine' g_callK ?_ | refine' g_bNF ?_
  | (refine' g_lenL ?h ?q; (case h => first | assumption | exact upd_same))
  | refine' g_un ?_ | refine' g_rint _ ?_ | refine' g_rabs ?_ | refine' g_sl ?_ 
  | (refine' g_ixL ?h ?a ?q; (case h => first | assumption | exact upd_same); (case a => with_unfolding_all rfl))
  | (refine' g_div ?h0 ?h1 ?q; (case h0 => with_unfolding_all first | decide | omega); (case h1 => with_unfolding_all first | decide | omega))
  | refine' g_sub ?_
  | (refine' g_setL ?h ?a ?q; (case h => first | assumption | exact upd_same); (case a => with_unfolding_all rfl))
  | refine' g_lst ?_ | refine' g_tup ?_
  | (refine' g_rEq ?h ?q; (case h => with_unfolding_all rfl)) | (refine' g_rNe ?h ?q; (case h => with_unfolding_all rfl)))
local macro_rules | `(tactic| walk_at "wn") => `(tactic| repeat walk_at "wn1")

/-! the bag of draws: two numbers that are not negative, the second one below 2 ^ 31 -/
noncomputable def BagAt (H : Hp) (p : Addr) : Prop := ∃ a b : Int, H p = some (.lst [.int a, .int b]) ∧ 0 ≤ a ∧ 0 ≤ b ∧ b < 2147483648
noncomputable def Dr (p : Addr) (H H' : Hp) : Prop := (∀ a o, a ≠ p → H a = some o → H' a = some o) ∧ BagAt H' p
theorem Dr.refl {p : Addr} {H : Hp} (b : BagAt H p) : Dr p H H := ⟨fun _ _ _ h => h, b⟩
theorem Dr.trans {p : Addr} {H H1 H2 : Hp} (a : Dr p H H1) (b : Dr p H1 H2) : Dr p H H2 := ⟨fun x o n h => b.1 x o n (a.1 x o n h), b.2⟩
theorem Dr.ex {p : Addr} {H H1 : Hp} (b : BagAt H p) (e : Ex H H1) : Dr p H H1 := ⟨fun x o _ h => e x o h, by
  obtain ⟨u, v, h, r⟩ := b
  exact ⟨u, v, e _ _ h, r⟩⟩
theorem seq_at {K : PySem.W.Frag} {H H' : Hp} {l : Addr} {xs : List V} (e : H' l = H l) (h : SqL K H l xs) : SqL K H' l xs := by
  rcases h with (h | ⟨o, h⟩) | h
  · exact .inl (.inl (e.trans h))
  · exact .inl (.inr ⟨o, e.trans h⟩)
  · exact .inr h
structure DrawTxt (mg : Str → Option Value) : Prop where
  len : mg "len" = none
  enum : mg "enumerate" = none
  int : mg "int" = none
  abs : mg "abs" = none
inductive PspBag (K : PySem.W.Frag) (vs : List V) (H : Hp) (Q : VK) : Prop
  | mk (a : Addr) (ns : List Int) (i : Nat) (h_0 : vs = [.ref a, .int i]) (h_1 : SqL K H a (ns.map V.int)) (h_2 : ns.length ≤ 63) (h_3 : i ≤ 100) (h_4 : ∀ (H' : Hp) (p : Addr), H p = none → Same H H' → BagAt H' p → Q (.ref p) H') : PspBag K vs H Q
noncomputable def spBag (K : PySem.W.Frag) : Sp := fun vs H Q _ => PspBag K vs H Q
inductive PspTake  (vs : List V) (H : Hp) (Q : VK) : Prop
  | mk (p : Addr) (m : Int) (h_0 : vs = [.ref p, .int m]) (h_1 : BagAt H p) (h_2 : 0 < m) (h_3 : m < 4611686018427387904) (h_4 : ∀ (k : Int) (H' : Hp), 0 ≤ k → k < m → (∀ b, b ≠ p → H' b = H b) → BagAt H' p → Q (.int k) H') : PspTake  vs H Q
noncomputable def spTake  : Sp := fun vs H Q _ => PspTake  vs H Q
inductive PspOf (K : PySem.W.Frag) (vs : List V) (H : Hp) (Q : VK) : Prop
  | mk (p l : Addr) (xs : List V) (h_0 : vs = [.ref p, .ref l]) (h_1 : BagAt H p) (h_2 : SqL K H l xs) (h_3 : l ≠ p) (h_4 : 0 < xs.length) (h_5 : xs.length ≤ 1000) (h_6 : ∀ (k : Nat) (v : V) (H' : Hp), xs[k]? = some v → (∀ b, b ≠ p → H' b = H b) → BagAt H' p → Q v H') : PspOf K vs H Q
noncomputable def spOf (K : PySem.W.Frag) : Sp := fun vs H Q _ => PspOf K vs H Q
section
variable {P : Program} {w : World} {K : PySem.W.Frag} {mg : Str → Option Value} {base : Heap}
theorem scBag : FnScope ["_law_script", "_law_at", "_law_cell", "_law_blend", "_law_k", "_law_each"] ["_law_script", "_law_at"] (defScope sBag) := ⟨rfl, rfl, rfl, by decide +kernel, rfl, by decide +kernel, by decide +kernel⟩
theorem okBag {f : Addr} {fd : FuncData} (F : Fun K "_law_bag" "_law_bag" sBag f fd) (T : DrawTxt mg) : FnOk P w K mg base CX0 1 f fd ["_law_script", "_law_at"] (spBag K) := by
  refine F.ok scBag (fun vs H Q E h => ?_) (fun cdv A outer s H vs Q E hr h => ?_)
  · obtain ⟨a, ns, i, rfl, _⟩ := h
    rfl
  · obtain ⟨a, ns, i, rfl, hS, hl, hi, k⟩ := h
    refine ⟨_, pss_cut (ps_set (i := 2) scBag.nd rfl (Or.inl rfl) (pe_ifExp (pt_cmpR op_lt (pv 1) (pe_callB cLenQ (by rfl) T.len PySem.boot_len (pa_cons (pv 0) pa_nil)) (nomark _)) (pe_ix ix_list (pv 0) (pv 1) (fun _ _ => rfl)) pe_int))
      (pss_cons (ps_set (i := 3) scBag.nd rfl (Or.inl rfl) (pe_op op_add (pe_op op_mul pe_int (pv 1)) pe_int))
      (pss_cut (ps_for PassesOwn.never rfl (pi_enum (by rfl) T.enum (pa_cons (pe_slice sl_list (pv 0) po_none (po_some pe_int)) pa_nil)) (pg_tup rfl (pgs_cons (pg_name (i := 4) scBag.nd rfl (Or.inl rfl)) (pgs_cons (pg_name (i := 5) scBag.nd rfl (Or.inl rfl)) pgs_nil)))
        (pss_one (ps_set (i := 3) scBag.nd rfl (Or.inl rfl) (pe_op op_mod (pe_callTy cInt1 (by rfl) T.int PyProof.Rows.boot_int (pa_cons (pe_op op_add (pe_op op_add (pe_op op_add (pe_op op_mul (pv 3) pe_int) (pe_op op_mod (pe_callTy cInt1 (by rfl) T.int PyProof.Rows.boot_int (pa_cons (pv 5) pa_nil)) pe_int)) (pe_op op_mul pe_int (pv 4))) pe_int) pa_nil)) pe_int))))
      (pss_one (ps_ret (pe_lst (pa_cons (pe_ifExp (pt_cmpR op_ge (pe_callB cAbs (by rfl) T.abs (by decide +kernel) (pa_cons (pv 2) pa_nil)) (pe_op op_pow pe_int pe_int) (nomark _)) (pe_callB cAbs (by rfl) T.abs (by decide +kernel) (pa_cons (pv 2) pa_nil)) pe_int) (pa_cons (pv 3) pa_nil))))))), ?_⟩
    refine ⟨fun σ' H' => ∃ c : Int, σ' = [some (.ref a), some (.int i), some (.int c), none, none, none] ∧ H' = H, ?_, ?_⟩
    · walk_at "wn"
      refine ⟨a, _, rfl, .inl hS, ?_⟩
      walk_at "wn"
      refine ite2 (fun hc => ?_) (fun hc => ?_)
      · have hlt : i < (ns.map V.int).length := by have := of_decide_eq_true hc; omega
        rw [List.length_map] at hlt
        walk_at "wn"
        refine ⟨a, _, _, _, rfl, rfl, hS, atI_nat (v := V.int (ns[i])) (by rw [List.getElem?_map, List.getElem?_eq_getElem hlt]; rfl), ?_⟩
        exact ⟨_, rfl, rfl⟩
      · exact ⟨0, rfl, rfl⟩
    · rintro σ' H' ⟨c, rfl, rfl⟩
      walk_at "wn"
      refine ⟨fun σ' H2 => ∃ (b : Int) (u v : Option V), 0 ≤ b ∧ b < 2147483648 ∧ σ' = [some (.ref a), some (.int i), some (.int c), some (.int b), u, v] ∧ Same H' H2, ?_, ?_⟩
      · show tSl _ _ _ _ _ _ _
        walk_at "wn"
        refine ⟨a, _, rfl, hS, fun p hp => ?_⟩
        walk_at "wn"
        refine ⟨p, _, rfl, SqL.of upd_same, ?_⟩
        refine for_it (walk_enum (xs := cutV (ns.map V.int) none (some 40))) (fun j σ' H3 => ∃ (b : Int) (u v : Option V), 0 ≤ b ∧ b < 2147483648 ∧ σ' = [some (.ref a), some (.int i), some (.int c), some (.int b), u, v] ∧ Same (upd H' p (.lst (cutV (ns.map V.int) none (some 40)))) H3) ?_ ?_ ?_ ?_
        · exact ⟨_, none, none, by omega, by omega, rfl, Same.refl _⟩
        · rintro j σ' H3 hj ⟨b, u, v, b0, b1, rfl, sm⟩
          exact sm.seq (SqL.of upd_same)
        · rintro j x σ' H3 H4 hj ⟨b, u, v, b0, b1, rfl, sm⟩ ⟨T1, x1, y1, rfl, nT, rfl, hx, hy⟩
          obtain rfl := Option.some.inj hx
          obtain ⟨z, rfl⟩ : ∃ z, y1 = V.int z := by
            have q : y1 ∈ ns.map V.int := List.mem_of_mem_drop (List.mem_of_mem_take (List.mem_of_getElem? hy))
            obtain ⟨z, _, e⟩ := List.mem_map.mp q
            exact ⟨z, e.symm⟩
          refine ⟨T1, _, rfl, SqT.of upd_same, rfl, _, _, rfl, ?_⟩
          walk_at "wn"
          refine ⟨_, _, rfl, ?_⟩
          walk_at "wn"
          refine ⟨rfl, ?_⟩
          walk_at "wn"
          refine ⟨_, _, _, by omega, by omega, rfl, fun x o hx => ?_⟩
          rw [upd_ne (ne_of_none (sm _ _ hx) nT)]
          exact sm _ _ hx
        · rintro σ' H3 ⟨b, u, v, b0, b1, rfl, sm⟩
          exact ⟨b, u, v, b0, b1, rfl, fun x o hx => sm _ _ (by rw [upd_ne (ne_of_none hx hp)]; exact hx)⟩
      · rintro σ' H2 ⟨b, u, v, b0, b1, rfl, sm⟩
        walk_at "wn"
        refine g_rI ⟨by decide, by decide, by decide⟩ ?_
        walk_at "wn"
        have fin : ∀ z : Int, 0 ≤ z → ([V.int z, V.int b].length ≤ sizeLine ∧ ∀ p, H2 p = none → Q (V.ref p) (upd H2 p (HO.lst [V.int z, V.int b]))) := fun z hz => ⟨by show 2 ≤ sizeLine; decide, fun p hp => k _ p (sm.free hp) (fun x o hx => by
          rw [upd_ne (ne_of_none (sm _ _ hx) hp)]
          exact sm _ _ hx) ⟨z, b, upd_same, hz, b0, b1⟩⟩
        refine ite2 (fun hc => ?_) (fun hc => ?_)
        · walk_at "wn"
          exact fin _ (by split <;> omega)
        · walk_at "wn"
          exact fin 0 (by decide)
theorem scTake : FnScope ["_law_bag_here", "_law_many", "_law_digit"] ["_law_bag_here", "_law_many"] (defScope sTake) := ⟨rfl, rfl, rfl, by decide +kernel, rfl, by decide +kernel, by decide +kernel⟩
theorem okTake {f : Addr} {fd : FuncData} (F : Fun K "_law_take" "_law_take" sTake f fd) (T : DrawTxt mg) : FnOk P w K mg base CX0 1 f fd ["_law_bag_here", "_law_many"] spTake := by
  refine F.ok scTake (fun vs H Q E h => ?_) (fun cdv A outer s H vs Q E hr h => ?_)
  · obtain ⟨a, m, rfl, _⟩ := h
    rfl
  · obtain ⟨p, m, rfl, ⟨a, b, hp, a0, b0, b1⟩, m0, m1, k⟩ := h
    refine ⟨_, pss_cons (ps_if (pt_cmpR op_gt (pe_ix ix_list (pv 0) pe_int (fun _ _ => rfl)) pe_int (nomark _))
        (pss_cons (ps_set (i := 2) scTake.nd rfl (Or.inl rfl) (pe_op op_mod (pe_callTy cInt1 (by rfl) T.int PyProof.Rows.boot_int (pa_cons (pe_ix ix_list (pv 0) pe_int (fun _ _ => rfl)) pa_nil)) (pv 1)))
        (pss_cons (ps_asg (pe_op op_fdivW (pe_ix ix_list (pv 0) pe_int (fun _ _ => rfl)) (pv 1)) (pg_sub (pv 0) pe_int set_list))
        (pss_one (ps_ret (pv 2))))) pss_nil)
      (pss_cons (ps_asg (pe_op op_mod (pe_callTy cInt1 (by rfl) T.int PyProof.Rows.boot_int (pa_cons (pe_op op_add (pe_op op_mul (pe_ix ix_list (pv 0) pe_int (fun _ _ => rfl)) pe_int) pe_int) pa_nil)) pe_int) (pg_sub (pv 0) pe_int set_list))
      (pss_one (ps_ret (pe_op op_mod (pe_op op_fdivW (pe_op op_mod (pe_callTy cInt1 (by rfl) T.int PyProof.Rows.boot_int (pa_cons (pe_op op_mul (pe_op op_fdivW (pe_ix ix_list (pv 0) pe_int (fun _ _ => rfl)) pe_int) pe_int) pa_nil)) pe_int) pe_int) (pv 1))))), ?_⟩
    walk_at "wn"
    refine ite2 (fun hc => ?_) (fun hc => ?_)
    · walk_at "wn"
      refine k _ _ (Int.emod_nonneg _ (by omega)) (Int.emod_lt_of_pos _ m0) (fun x hx => upd_ne hx) ⟨_, _, upd_same, Int.ediv_nonneg a0 (by omega), b0, b1⟩
    · walk_at "wn"
      refine k _ _ (Int.emod_nonneg _ (by omega)) (Int.emod_lt_of_pos _ m0) (fun x hx => upd_ne hx) ⟨_, _, upd_same, a0, by omega, by omega⟩
theorem scOf : FnScope ["_law_bag_here", "_law_some"] ["_law_bag_here", "_law_some"] (defScope sOf) := ⟨rfl, rfl, rfl, by decide +kernel, rfl, by decide +kernel, by decide +kernel⟩
theorem okOf {f fT : Addr} {fd fdT : FuncData} (F : Fun K "_law_of" "_law_of" sOf f fd) (T : DrawTxt mg) (FT : Fun K "_law_take" "_law_take" sTake fT fdT) (gT : mg "_law_take" = some (.ref fT)) (bT : Binds K fdT ["_law_bag_here", "_law_many"] []) : FnOk P w K mg base CX0 2 f fd ["_law_bag_here", "_law_some"] (spOf K) := by
  have GT : FnOk P w K mg base CX0 1 fT fdT ["_law_bag_here", "_law_many"] spTake := okTake FT T
  refine F.ok scOf (fun vs H Q E h => ?_) (fun cdv A outer s H vs Q E hr h => ?_)
  · obtain ⟨a, l, xs, rfl, _⟩ := h
    rfl
  · obtain ⟨p, l, xs, rfl, hb, hx, hl, l0, l1, k⟩ := h
    refine ⟨_, pss_one (ps_ret (pe_ix ix_seq (pv 1) (pe_call GT hr (by rfl) gT FT.kp bT .nil pass0 (pa_cons (pv 0) (pa_cons (pe_callB cLenQ (by rfl) T.len PySem.boot_len (pa_cons (pv 1) pa_nil)) pa_nil))) (fun _ _ => rfl))), ?_⟩
    walk_at "wn"
    refine ⟨l, xs, rfl, .inl hx, ?_⟩
    walk_at "wn"
    refine ⟨p, _, rfl, hb, by omega, by omega, fun i H1 i0 i1 he hb1 => ?_⟩
    obtain ⟨j, rfl⟩ := Int.eq_ofNat_of_zero_le i0
    have hj : j < xs.length := by omega
    exact .inl ⟨l, xs, _, xs[j], rfl, rfl, seq_at (he l hl) hx, atI_nat (List.getElem?_eq_getElem hj), k j _ H1 (List.getElem?_eq_getElem hj) he hb1⟩
end

noncomputable def clsBody : Stmt → List Stmt
  | .ClassDef _ _ _ b _ _ _ _ _ _ _ => b
  | _ => []
noncomputable def meth (i j : Nat) : Stmt := (clsBody (top i)).getD j (.Pass ⟨0, 0, 0, 0⟩)
noncomputable abbrev sIsInteger : Stmt := top 20
noncomputable abbrev sIsBetween : Stmt := top 21
noncomputable abbrev sIsCount : Stmt := top 22
noncomputable abbrev sIsLabel : Stmt := top 23
noncomputable abbrev sIsWord : Stmt := top 24
noncomputable abbrev sRegInit : Stmt := meth 26 0
noncomputable abbrev sWsInit : Stmt := meth 27 0
noncomputable abbrev sLabelOf : Stmt := meth 27 2
noncomputable abbrev sPut : Stmt := meth 27 3
noncomputable abbrev sAppend : Stmt := meth 27 4
noncomputable abbrev sNotice : Stmt := meth 27 7
noncomputable abbrev sReports : Stmt := meth 27 8
noncomputable abbrev sSettle : Stmt := meth 27 9
/-! own __contains__ -/
noncomputable def rOwnNotIn (C : Addr) (sp : Sp) : R2 := fun x y H Q => ∃ a dx fs, y = .ref a ∧ H a = some (.ins C dx fs) ∧ sp [.ref a, x] H (fun v H' => ∃ b, v = .bl b ∧ Q (.bl (!b)) H') fun _ _ _ => False
theorem op_ownNotIn {X : Cx} {CX : CXT} {k : Nat} {C f : Addr} {fd : FuncData} {ps : List Str} {sp : Sp} (F : FnOk X.prog X.w X.K X.mg X.base CX k f fd ps sp) (hr : Room k X.A)
    (hs : PySem.W.findIn X.K (.ref C) "__contains__" = some (some (.ref f))) (hf : PySem.W.isFn X.K (.ref f) = true) (hb : Binds X.K fd ps []) (hx : Passes CX X fun _ _ _ => False) : OpR X (compareOp .NotIn) (rOwnNotIn C sp) := by
  intro pins s σ H x y v u Q I rx ry d
  obtain ⟨a, dx, fs, rfl, ha, hsp⟩ := d
  cases ry
  obtain ⟨mA, J, _⟩ := ins_get I.hok ha
  obtain ⟨od, J, _⟩ := J.look
  obtain ⟨m, hF⟩ := I.fr
  refine PySem.W.notIn_K hF I.ok.mod.kin J hs hf ?_
  have hl := F.len _ _ _ _ hsp
  have r2 : Vals [V.ref a, x] [Value.ref a, v] := .cons rfl (.cons rx .nil)
  refine wpAny_call (codeAny_mono (F.run X.A X.stack s H ⟨[.ref a, v], []⟩ [.ref a, v] [.ref a, x] _ _ hr I.env0 (by
    have := hb s [.ref a, v] I.kIn (by simpa using hl)
    simpa using this) r2 hsp) fun r s' hq => ?_)
  cases r with
  | error e => exact hx pins σ H s e s' I hq
  | ok fl =>
    cases fl with
    | ret w =>
      obtain ⟨z, H', I', rz, b, ez, q⟩ := I.after hq
      subst ez
      cases rz
      exact wpAny_truthy_bool ⟨.bl (!b), H', I', rfl, q⟩
    | next => exact False.elim hq
    | brk => exact False.elim hq
    | cont => exact False.elim hq
section
variable {P : Program} {w : World} {K : PySem.W.Frag} {mg : Str → Option Value} {base : Heap}
structure ChkTxt (K : PySem.W.Frag) (mg : Str → Option Value) : Prop where
  isin : mg "isinstance" = none
  int : mg "int" = none
  bool : mg "bool" = none
  count : ∃ t, mg "MOST_COUNT" = some (.int 1000000 t)
  label : ∃ t, mg "MOST_LABEL" = some (.int 999999 t)
  words : ∃ a, mg "WORDS" = some (.ref a) ∧ ∀ H, SqT K H a [.str "level", .str "edge", .str "once"]
inductive PspIsInteger  (vs : List V) (H : Hp) (Q : VK) : Prop
  | mk (i : Int) (h_0 : vs = [.int i]) (h_1 : Q (.bl true) H) : PspIsInteger  vs H Q
noncomputable def spIsInteger  : Sp := fun vs H Q _ => PspIsInteger  vs H Q
theorem scIsInteger : FnScope ["x"] ["x"] (defScope sIsInteger) := ⟨rfl, rfl, rfl, by decide +kernel, rfl, by decide +kernel, by decide +kernel⟩
theorem okIsInteger {f : Addr} {fd : FuncData} (F : Fun K "is_integer" "is_integer" sIsInteger f fd) (T : ChkTxt K mg) : FnOk P w K mg base CX0 1 f fd ["x"] spIsInteger := by
  refine F.ok scIsInteger (fun vs H Q E h => ?_) (fun cdv A outer s H vs Q E hr h => ?_)
  · obtain ⟨x, rfl, _⟩ := h
    rfl
  · obtain ⟨i, rfl, k⟩ := h
    refine ⟨_, pss_one (ps_ret (pe_and (pe_callB call_isi (by rfl) T.isin PyProof.Rows.boot_isinstance (pa_cons (pv 0) (pa_cons (pe_bltn (v := .ty "int") (by rfl) T.int PyProof.Rows.boot_int rfl) pa_nil))) (pe_one (pe_not (pe_callB call_isi (by rfl) T.isin PyProof.Rows.boot_isinstance (pa_cons (pv 0) (pa_cons (pe_bltn (v := .ty "bool") (by rfl) T.bool (by decide +kernel) rfl) pa_nil))))))), ?_⟩
    refine ⟨_, rfl, _, _, _, _, true, rfl, .ty "int", .base (.int i), kit_ty (by decide +kernel), ?_⟩
    refine ⟨_, rfl, _, rfl, _, _, _, _, false, rfl, .ty "bool", .base (.int i), kit_ty (by decide +kernel), ?_⟩
    exact ⟨_, rfl, k⟩
inductive PspIsBetween  (vs : List V) (H : Hp) (Q : VK) : Prop
  | mk (i a b : Int) (h_0 : vs = [.int i, .int a, .int b]) (h_1 : Q (.bl (decide (a ≤ i) && decide (i ≤ b))) H) : PspIsBetween  vs H Q
noncomputable def spIsBetween  : Sp := fun vs H Q _ => PspIsBetween  vs H Q
theorem scIsBetween : FnScope ["x", "least", "most"] ["x", "least", "most"] (defScope sIsBetween) := ⟨rfl, rfl, rfl, by decide +kernel, rfl, by decide +kernel, by decide +kernel⟩
theorem okIsBetween {f fI : Addr} {fd fdI : FuncData} (F : Fun K "is_between" "is_between" sIsBetween f fd) (GI : FnOk P w K mg base CX0 1 fI fdI ["x"] spIsInteger) (kI : PySem.W.keepIn K (.ref fI) = true) (gI : mg "is_integer" = some (.ref fI)) (bI : Binds K fdI ["x"] []) :
    FnOk P w K mg base CX0 2 f fd ["x", "least", "most"] spIsBetween := by
  refine F.ok scIsBetween (fun vs H Q E h => ?_) (fun cdv A outer s H vs Q E hr h => ?_)
  · obtain ⟨x, y, z, rfl, _⟩ := h
    rfl
  · obtain ⟨i, a, b, rfl, k⟩ := h
    refine ⟨_, pss_one (ps_ret (pe_and (pe_call GI hr (by rfl) gI kI bI .nil pass0 (pa_cons (pv 0) pa_nil)) (pe_one (pe_chain op_le op_le (pv 1) (pv 0) (pv 2))))), ?_⟩
    walk_at "wn"
    refine ⟨i, rfl, ?_⟩
    walk_at "wn"
    refine ⟨_, rfl, _, rfl, a, i, rfl, rfl, _, rfl, ?_⟩
    refine ite2 (fun hc => ?_) (fun hc => ?_)
    · rw [hc, Bool.true_and] at k
      exact ⟨_, rfl, i, b, rfl, rfl, k⟩
    · rw [Bool.eq_false_iff.mpr hc, Bool.false_and] at k
      exact k
inductive PspIsCount  (vs : List V) (H : Hp) (Q : VK) : Prop
  | mk (i : Int) (h_0 : vs = [.int i]) (h_1 : Q (.bl (decide (1 ≤ i) && decide (i ≤ 1000000))) H) : PspIsCount  vs H Q
noncomputable def spIsCount  : Sp := fun vs H Q _ => PspIsCount  vs H Q
theorem scIsCount : FnScope ["x"] ["x"] (defScope sIsCount) := ⟨rfl, rfl, rfl, by decide +kernel, rfl, by decide +kernel, by decide +kernel⟩
theorem okIsCount {f fB : Addr} {fd fdB : FuncData} (F : Fun K "is_count" "is_count" sIsCount f fd) (T : ChkTxt K mg) (GB : FnOk P w K mg base CX0 2 fB fdB ["x", "least", "most"] spIsBetween) (kB : PySem.W.keepIn K (.ref fB) = true) (gB : mg "is_between" = some (.ref fB)) (bB : Binds K fdB ["x", "least", "most"] []) :
    FnOk P w K mg base CX0 3 f fd ["x"] spIsCount := by
  refine F.ok scIsCount (fun vs H Q E h => ?_) (fun cdv A outer s H vs Q E hr h => ?_)
  · obtain ⟨x, rfl, _⟩ := h
    rfl
  · obtain ⟨i, rfl, k⟩ := h
    obtain ⟨t, ht⟩ := T.count
    refine ⟨_, pss_one (ps_ret (pe_call GB hr (by rfl) gB kB bB .nil pass0 (pa_cons (pv 0) (pa_cons pe_int (pa_cons (pe_glob (v := .int 1000000) (by rfl) ht ⟨_, rfl⟩) pa_nil))))), ?_⟩
    walk_at "wn"
    exact ⟨i, 1, 1000000, rfl, k⟩
inductive PspIsLabel  (vs : List V) (H : Hp) (Q : VK) : Prop
  | mk (i : Int) (h_0 : vs = [.int i]) (h_1 : Q (.bl (decide (0 ≤ i) && decide (i ≤ 999999))) H) : PspIsLabel  vs H Q
noncomputable def spIsLabel  : Sp := fun vs H Q _ => PspIsLabel  vs H Q
theorem scIsLabel : FnScope ["x"] ["x"] (defScope sIsLabel) := ⟨rfl, rfl, rfl, by decide +kernel, rfl, by decide +kernel, by decide +kernel⟩
theorem okIsLabel {f fB : Addr} {fd fdB : FuncData} (F : Fun K "is_label" "is_label" sIsLabel f fd) (T : ChkTxt K mg) (GB : FnOk P w K mg base CX0 2 fB fdB ["x", "least", "most"] spIsBetween) (kB : PySem.W.keepIn K (.ref fB) = true) (gB : mg "is_between" = some (.ref fB)) (bB : Binds K fdB ["x", "least", "most"] []) :
    FnOk P w K mg base CX0 3 f fd ["x"] spIsLabel := by
  refine F.ok scIsLabel (fun vs H Q E h => ?_) (fun cdv A outer s H vs Q E hr h => ?_)
  · obtain ⟨x, rfl, _⟩ := h
    rfl
  · obtain ⟨i, rfl, k⟩ := h
    obtain ⟨t, ht⟩ := T.label
    refine ⟨_, pss_one (ps_ret (pe_call GB hr (by rfl) gB kB bB .nil pass0 (pa_cons (pv 0) (pa_cons pe_int (pa_cons (pe_glob (v := .int 999999) (by rfl) ht ⟨_, rfl⟩) pa_nil))))), ?_⟩
    walk_at "wn"
    exact ⟨i, 0, 999999, rfl, k⟩
noncomputable def wordsL : List Str := ["level", "edge", "once"]
inductive PspIsWord  (vs : List V) (H : Hp) (Q : VK) : Prop
  | mk (x : Str) (h_0 : vs = [.str x]) (h_1 : x ∈ wordsL) (h_2 : Q (.bl true) H) : PspIsWord  vs H Q
noncomputable def spIsWord  : Sp := fun vs H Q _ => PspIsWord  vs H Q
theorem word_in : ∀ x ∈ wordsL, inV (.str x) [.str "level", .str "edge", .str "once"] = true := by decide +kernel
theorem scIsWord : FnScope ["x"] ["x"] (defScope sIsWord) := ⟨rfl, rfl, rfl, by decide +kernel, rfl, by decide +kernel, by decide +kernel⟩
theorem okIsWord {f : Addr} {fd : FuncData} (F : Fun K "is_word" "is_word" sIsWord f fd) (T : ChkTxt K mg) : FnOk P w K mg base CX0 1 f fd ["x"] spIsWord := by
  refine F.ok scIsWord (fun vs H Q E h => ?_) (fun cdv A outer s H vs Q E hr h => ?_)
  · obtain ⟨x, rfl, _⟩ := h
    rfl
  · obtain ⟨x, rfl, hx, k⟩ := h
    obtain ⟨aW, gW, sW⟩ := T.words
    refine ⟨_, pss_one (ps_ret (pe_cmpR op_in_seq (pv 0) (pe_glob (v := .ref aW) (by rfl) gW rfl) (by rfl))), ?_⟩
    walk_at "wn"
    refine ⟨aW, _, rfl, .inr (sW _), rfl, by decide, ?_⟩
    show Q (.bl (inV _ _)) H
    rw [word_in x hx]
    exact k
end

/-! the classes of the program -/
structure ClsF (K : PySem.W.Frag) (C : Addr) (fs : List Str) : Prop where
  cl : Cls K C
  no : ∀ f ∈ fs, NoAttr K C f
noncomputable abbrev regF : List Str := ["number", "source", "word", "armed"]
noncomputable abbrev wsF : List Str := ["entries", "queue"]
noncomputable abbrev sysF : List Str := ["process_limit", "number_limit", "tables", "sources", "sets", "next_thing"]
noncomputable def regO (C dx : Addr) (n s : Int) (wd : Str) (ar : Bool) : HO := .ins C dx [("number", .int n), ("source", .int s), ("word", .str wd), ("armed", .bl ar)]
noncomputable def wsO (C dx e q : Addr) : HO := .ins C dx [("entries", .ref e), ("queue", .ref q)]
theorem Same.new' {H : Hp} {l : Addr} {o : HO} (hl : H l = none) : Same H (upd H l o) := fun b u e => by rw [upd_ne (ne_of_none e hl)]; exact e
theorem inV_int (l : Int) : ∀ qs : List Int, inV (.int l) (qs.map V.int) = decide (l ∈ qs)
  | [] => rfl
  | x :: qs => by
    have ih := inV_int l qs
    unfold inV at ih ⊢
    rw [List.map_cons, List.any_cons, ih]
    have e : eqV (V.int x) (V.int l) = decide (x = l) := rfl
    rw [e]
    by_cases h : x = l
    · rw [decide_eq_true h, Bool.true_or]
      exact (decide_eq_true (by rw [h]; exact List.mem_cons_self)).symm
    · rw [decide_eq_false h, Bool.false_or]
      by_cases h2 : l ∈ qs
      · rw [decide_eq_true h2]
        exact (decide_eq_true (List.mem_cons_of_mem _ h2)).symm
      · rw [decide_eq_false h2]
        exact (decide_eq_false fun z => (List.mem_cons.mp z).elim (fun e => h e.symm) h2).symm
theorem flat_ints (qs : List Int) : (qs.map V.int).all flatV = true := by
  rw [List.all_map, List.all_eq_true]
  intro x _
  rfl
section
variable {P : Program} {w : World} {K : PySem.W.Frag} {mg : Str → Option Value} {base : Heap} {CR CW : Addr}
/-! Registration -/
inductive PspRegInit (CR : Addr) (vs : List V) (H : Hp) (Q : VK) : Prop
  | mk (a dx : Addr) (n s : Int) (wd : Str) (ar : Bool) (h_0 : vs = [.ref a, .int n, .int s, .str wd, .bl ar]) (h_1 : H a = some (.ins CR dx [])) (h_2 : ∀ H', (∀ b, b ≠ a → H' b = H b) → H' a = some (regO CR dx n s wd ar) → Q .non H') : PspRegInit CR vs H Q
noncomputable def spRegInit (CR : Addr) : Sp := fun vs H Q _ => PspRegInit CR vs H Q
theorem scRegInit : FnScope ["self", "number", "source", "word", "armed"] ["self", "number", "source", "word", "armed"] (defScope sRegInit) := ⟨rfl, rfl, rfl, by decide +kernel, rfl, by decide +kernel, by decide +kernel⟩
theorem okRegInit {f : Addr} {fd : FuncData} (F : Fun K "__init__" "Registration.__init__" sRegInit f fd) (T : ClsF K CR regF) : FnOk P w K mg base CX0 1 f fd ["self", "number", "source", "word", "armed"] (spRegInit CR) := by
  refine F.ok scRegInit (fun vs H Q E h => ?_) (fun cdv A outer s H vs Q E hr h => ?_)
  · obtain ⟨_, _, _, _, _, _, rfl, _⟩ := h
    rfl
  · obtain ⟨a, dx, n, s, wd, ar, rfl, ha, k⟩ := h
    refine ⟨_, pss_cons (ps_fld (pv 0) (pv 1) rfl) (pss_cons (ps_fld (pv 0) (pv 2) rfl) (pss_cons (ps_fld (pv 0) (pv 3) rfl) (pss_one (ps_fld (pv 0) (pv 4) rfl)))), ?_⟩
    refine ⟨_, rfl, _, rfl, a, CR, dx, _, rfl, ha, T.cl, T.no _ (by decide), by decide, ?_⟩
    refine ⟨_, rfl, _, rfl, a, CR, dx, _, rfl, upd_same, T.cl, T.no _ (by decide), by show 1 < 1000; decide, ?_⟩
    refine ⟨_, rfl, _, rfl, a, CR, dx, _, rfl, upd_same, T.cl, T.no _ (by decide), by show 2 < 1000; decide, ?_⟩
    refine ⟨_, rfl, _, rfl, a, CR, dx, _, rfl, upd_same, T.cl, T.no _ (by decide), by show 3 < 1000; decide, ?_⟩
    exact k _ (fun b hb => by rw [upd_ne hb, upd_ne hb, upd_ne hb, upd_ne hb]) upd_same
/-! WaitingSet -/
inductive PspWsInit (CW : Addr) (vs : List V) (H : Hp) (Q : VK) : Prop
  | mk (a dx : Addr) (h_0 : vs = [.ref a]) (h_1 : H a = some (.ins CW dx [])) (h_2 : ∀ H' e q, H e = none → H q = none → H' e = some (.dK []) → H' q = some (.lst []) → H' a = some (wsO CW dx e q) → (∀ b, b ≠ a → b ≠ e → b ≠ q → H' b = H b) → Q .non H') : PspWsInit CW vs H Q
noncomputable def spWsInit (CW : Addr) : Sp := fun vs H Q _ => PspWsInit CW vs H Q
theorem scWsInit : FnScope ["self"] ["self"] (defScope sWsInit) := ⟨rfl, rfl, rfl, by decide +kernel, rfl, by decide +kernel, by decide +kernel⟩
theorem okWsInit {f : Addr} {fd : FuncData} (F : Fun K "__init__" "WaitingSet.__init__" sWsInit f fd) (T : ClsF K CW wsF) : FnOk P w K mg base CX0 1 f fd ["self"] (spWsInit CW) := by
  refine F.ok scWsInit (fun vs H Q E h => ?_) (fun cdv A outer s H vs Q E hr h => ?_)
  · obtain ⟨_, _, rfl, _⟩ := h
    rfl
  · obtain ⟨a, dx, rfl, ha, k⟩ := h
    refine ⟨_, pss_cons (ps_fld (pv 0) pe_dnewK rfl) (pss_one (ps_fld (pv 0) (pe_lst pa_nil) rfl)), ?_⟩
    intro e he
    have nae : a ≠ e := ne_of_none ha he
    refine ⟨_, rfl, a, CW, dx, _, rfl, by rw [upd_ne nae]; exact ha, T.cl, T.no _ (by decide), by decide, ?_⟩
    refine ⟨Nat.zero_le _, fun q hq => ?_⟩
    have nqa : q ≠ a := fun z => by rw [z, upd_same] at hq; cases hq
    rw [upd_ne nqa] at hq
    have nqe : q ≠ e := fun z => by rw [z, upd_same] at hq; cases hq
    rw [upd_ne nqe] at hq
    refine ⟨_, rfl, a, CW, dx, _, rfl, by rw [upd_ne (Ne.symm nqa)]; exact upd_same, T.cl, T.no _ (by decide), by show 1 < 1000; decide, ?_⟩
    refine k _ e q he hq ?_ ?_ upd_same (fun b h1 h2 h3 => ?_)
    · rw [upd_ne (Ne.symm nae), upd_ne (Ne.symm nqe), upd_ne (Ne.symm nae), upd_same]
    · rw [upd_ne nqa, upd_same]
    · rw [upd_ne h1, upd_ne h3, upd_ne h1, upd_ne h2]
/-! append_pending -/
noncomputable def qAdd (l : Int) (qs : List Int) : List Int := if l ∈ qs then qs else qs ++ [l]
inductive PspAppend (CW : Addr) (vs : List V) (H : Hp) (Q : VK) : Prop
  | mk (a dx e q : Addr) (l : Int) (qs : List Int) (h_0 : vs = [.ref a, .int l]) (h_1 : H a = some (wsO CW dx e q)) (h_2 : H q = some (.lst (qs.map V.int))) (h_3 : qs.length ≤ 10000) (h_4 : ∀ H', H' q = some (.lst ((qAdd l qs).map V.int)) → (∀ b, b ≠ q → H' b = H b) → Q .non H') : PspAppend CW vs H Q
noncomputable def spAppend (CW : Addr) : Sp := fun vs H Q _ => PspAppend CW vs H Q
theorem scAppend : FnScope ["self", "label"] ["self", "label"] (defScope sAppend) := ⟨rfl, rfl, rfl, by decide +kernel, rfl, by decide +kernel, by decide +kernel⟩
theorem okAppend {f : Addr} {fd : FuncData} (F : Fun K "append_pending" "WaitingSet.append_pending" sAppend f fd) (T : ClsF K CW wsF) : FnOk P w K mg base CX0 1 f fd ["self", "label"] (spAppend CW) := by
  refine F.ok scAppend (fun vs H Q E h => ?_) (fun cdv A outer s H vs Q E hr h => ?_)
  · obtain ⟨_, _, _, _, _, _, rfl, _⟩ := h
    rfl
  · obtain ⟨a, dx, e, q, l, qs, rfl, ha, hq, hl, k⟩ := h
    refine ⟨_, pss_one (ps_if (pt_cmpR op_notIn_seq (pv 1) (pe_fld (pv 0) rfl) (by rfl)) (pss_one (ps_expr (pe_bm PySem.F.plainAttrs_list PySem.F.slot_list_append PySem.F.type_list_append mt_append (pe_fld (pv 0) rfl) (pa_cons (pv 1) pa_nil)))) pss_nil), ?_⟩
    walk_at "wn"
    refine ⟨_, rfl, a, CW, dx, _, _, rfl, ha, T.cl, T.no _ (by decide), rfl, ?_⟩
    refine ⟨q, qs.map V.int, rfl, .inl (SqL.of hq), rfl, flat_ints qs, ?_⟩
    refine ⟨_, rfl, ?_⟩
    rw [inV_int]
    by_cases h : l ∈ qs
    · rw [decide_eq_true h]
      walk_at "wn"
      refine k H ?_ fun _ _ => rfl
      unfold qAdd
      rw [if_pos h]
      exact hq
    · rw [decide_eq_false h]
      walk_at "wn"
      refine ⟨_, rfl, a, CW, dx, _, _, rfl, ha, T.cl, T.no _ (by decide), rfl, ?_⟩
      refine ⟨.inl ⟨rfl, _, SqL.of hq⟩, ?_⟩
      refine ⟨_, rfl, q, _, _, rfl, rfl, hq, by rw [List.length_map, sizeLine_eq]; omega, ?_⟩
      refine k _ ?_ fun b hb => upd_ne hb
      unfold qAdd
      rw [if_neg h, upd_same, List.map_append]
      rfl
end

/-- a registration as data -/
structure Reg where
  num : Int
  src : Int
  word : Str
  armed : Bool
/-- the entries: labels, with what stands at the address of each -/
noncomputable def entKV (ls : List Int) (ad : Int → Addr) : List (Key × V) := ls.map fun l => (Sum.inl l, .ref (ad l))
theorem ent_val (ls : List Int) (ad : Int → Addr) (l : Int) : valV (entKV ls ad) (Sum.inl l) = if l ∈ ls then some (.ref (ad l)) else none := by
  induction ls with
  | nil => rfl
  | cons x ls ih =>
    unfold entKV at ih ⊢
    rw [List.map_cons]
    by_cases h : x = l
    · subst h
      rw [valV_pos rfl, if_pos List.mem_cons_self]
    · rw [valV_neg (fun z => h (Sum.inl.inj z)), ih]
      by_cases h2 : l ∈ ls
      · rw [if_pos h2, if_pos (List.mem_cons_of_mem _ h2)]
      · rw [if_neg h2, if_neg fun z => (List.mem_cons.mp z).elim (fun e => h e.symm) h2]
theorem ent_put (ls : List Int) (ad : Int → Addr) (l : Int) (b : Addr) : putK (entKV ls ad) (Sum.inl l) (.ref b) = entKV (if l ∈ ls then ls else ls ++ [l]) (fun j => if j = l then b else ad j) := by
  unfold putK
  rw [valV_any, ent_val]
  by_cases h : l ∈ ls
  · rw [if_pos h, if_pos h]
    show List.map _ (entKV ls ad) = _
    unfold entKV
    rw [List.map_map]
    refine List.map_congr_left fun x _ => ?_
    by_cases e : x = l
    · show (if (Sum.inl x : Key) = Sum.inl l then _ else _) = _
      rw [if_pos (by rw [e])]
      show (_, V.ref b) = (_, V.ref (if x = l then b else ad x))
      rw [if_pos e]
    · show (if (Sum.inl x : Key) = Sum.inl l then _ else _) = _
      rw [if_neg (fun z => e (Sum.inl.inj z))]
      show _ = (_, V.ref (if x = l then b else ad x))
      rw [if_neg e]
  · rw [if_neg h, if_neg h]
    show entKV ls ad ++ _ = _
    unfold entKV
    rw [List.map_append]
    have e1 : ls.map (fun j => ((Sum.inl j : Key), V.ref (if j = l then b else ad j))) = ls.map fun j => (Sum.inl j, V.ref (ad j)) := List.map_congr_left fun x hx => by rw [if_neg fun z : x = l => h (by rw [← z]; exact hx)]
    rw [e1]
    congr 1
    show [(_, V.ref b)] = [(_, V.ref (if l = l then b else ad l))]
    rw [if_pos rfl]
/-- at the labels' addresses stand the registrations -/
noncomputable def RegsAt (CR : Addr) (H : Hp) (ls : List Int) (ad : Int → Addr) (reg : Int → Reg) : Prop := ∀ l ∈ ls, ∃ dx, H (ad l) = some (regO CR dx (reg l).num (reg l).src (reg l).word (reg l).armed)
theorem RegsAt.same {CR : Addr} {H H' : Hp} {ls : List Int} {ad : Int → Addr} {reg : Int → Reg} (r : RegsAt CR H ls ad reg) (s : ∀ b C dx fs, H b = some (.ins C dx fs) → C = CR → H' b = H b) : RegsAt CR H' ls ad reg := fun l hl => by
  obtain ⟨dx, e⟩ := r l hl
  exact ⟨dx, (s _ _ _ _ e rfl).trans e⟩
section
variable {P : Program} {w : World} {K : PySem.W.Frag} {mg : Str → Option Value} {base : Heap} {CR CW : Addr}
theorem str_inj' {x y : Str} : V.str x = V.str y ↔ x = y := ⟨fun h => by cases h; rfl, fun h => by rw [h]⟩
noncomputable def settled (reg : Int → Reg) (l : Int) : Int → Reg := fun j => if j = l ∧ (reg l).word = "once" then { reg l with armed := false } else reg j
theorem settled_at {reg : Int → Reg} {l : Int} (h : (reg l).word = "once") : settled reg l l = { reg l with armed := false } := if_pos ⟨rfl, h⟩
theorem settled_ne {reg : Int → Reg} {l j : Int} (h : j ≠ l) : settled reg l j = reg j := if_neg fun z => h z.1
theorem settled_no {reg : Int → Reg} {l j : Int} (h : (reg l).word ≠ "once") : settled reg l j = reg j := if_neg fun z => h z.2
/-! put -/
inductive PspPut (CW : Addr) (vs : List V) (H : Hp) (Q : VK) : Prop
  | mk (a dx e q b : Addr) (l : Int) (r : Bool) (qs : List Int) (kvs : List (Key × V)) (h_0 : vs = [.ref a, .int l, .ref b, .bl r]) (h_1 : H a = some (wsO CW dx e q)) (h_2 : H q = some (.lst (qs.map V.int))) (h_3 : H e = some (.dK kvs)) (h_4 : qs.length ≤ 10000) (h_5 : kvs.length ≤ 10000) (h_6 : ∀ H', H' e = some (.dK (putK kvs (Sum.inl l) (.ref b))) → H' q = some (.lst ((if r = true then qAdd l qs else qs).map V.int)) → (∀ x, x ≠ e → x ≠ q → H' x = H x) → Q .non H') : PspPut CW vs H Q
noncomputable def spPut (CW : Addr) : Sp := fun vs H Q _ => PspPut CW vs H Q
theorem scPut : FnScope ["self", "label", "kept", "ready"] ["self", "label", "kept", "ready"] (defScope sPut) := ⟨rfl, rfl, rfl, by decide +kernel, rfl, by decide +kernel, by decide +kernel⟩
theorem okPut {f fA : Addr} {fd fdA : FuncData} (F : Fun K "put" "WaitingSet.put" sPut f fd) (T : ClsF K CW wsF) (GA : FnOk P w K mg base CX0 1 fA fdA ["self", "label"] (spAppend CW)) (mA : Meth K CW "append_pending" fA) (bA : Binds K fdA ["self", "label"] []) :
    FnOk P w K mg base CX0 2 f fd ["self", "label", "kept", "ready"] (spPut CW) := by
  refine F.ok scPut (fun vs H Q E h => ?_) (fun cdv A outer s H vs Q E hr h => ?_)
  · obtain ⟨_, _, _, _, _, _, _, _, _, rfl, _⟩ := h
    rfl
  · obtain ⟨a, dx, e, q, b, l, r, qs, kvs, rfl, ha, hq, he, hl, hl2, k⟩ := h
    have hu := hu_of hr
    refine ⟨_, pss_cons (ps_dput hu (pe_fld (pv 0) rfl) (pv 1) (pv 2) rfl) (pss_one (ps_if (pt_val (pv 3)) (pss_one (ps_expr (pe_meth (pv 0) T.cl mA GA hr bA .nil pass0 (pa_cons (pv 1) pa_nil)))) pss_nil)), ?_⟩
    have nae : a ≠ e := ne_of ha he (by intro z; cases z)
    have nqe : q ≠ e := ne_of hq he (by intro z; cases z)
    refine ⟨_, rfl, _, rfl, a, CW, dx, _, _, rfl, ha, T.cl, T.no _ (by decide), rfl, ?_⟩
    refine ⟨_, rfl, e, _, rfl, DPut.k (k := Sum.inl l) he (by rw [sizeLine_eq]; omega), ?_⟩
    refine ⟨_, rfl, r, rfl, ?_⟩
    have hq1 : upd H e (.dK (putK kvs (Sum.inl l) (.ref b))) q = some (.lst (qs.map V.int)) := by rw [upd_ne nqe]; exact hq
    cases r with
    | true =>
      walk_at "wn"
      refine ⟨_, rfl, a, dx, _, rfl, by rw [upd_ne nae]; exact ha, rfl, ?_⟩
      walk_at "wn"
      refine ⟨a, dx, e, q, l, qs, rfl, by rw [upd_ne nae]; exact ha, hq1, hl, fun H' h1 h2 => ?_⟩
      refine k H' ?_ h1 fun x n1 n2 => ?_
      · rw [h2 e (Ne.symm nqe), upd_same]
      · rw [h2 x n2, upd_ne n1]
    | false =>
      walk_at "wn"
      exact k _ upd_same hq1 fun x n1 n2 => upd_ne n1
/-! settle -/
inductive PspSettle (CW CR : Addr) (vs : List V) (H : Hp) (Q : VK) : Prop
  | mk (a dx e q : Addr) (l : Int) (qs ls : List Int) (ad : Int → Addr) (reg : Int → Reg) (h_0 : vs = [.ref a, .int l]) (h_1 : H a = some (wsO CW dx e q)) (h_2 : H q = some (.lst (qs.map V.int))) (h_3 : H e = some (.dK (entKV ls ad))) (h_4 : RegsAt CR H ls ad reg) (h_5 : l ∈ ls) (h_6 : CW ≠ CR) (h_7 : qs.length ≤ 10000) (h_8 : ls.length ≤ 10000) (h_9 : ∀ H' ad', H' e = some (.dK (entKV ls ad')) → H' q = some (.lst ((if (reg l).word = "level" then qs ++ [l] else qs).map V.int)) → (∀ j, j ≠ l → ad' j = ad j) → (ad' l = ad l ∨ H (ad' l) = none) → RegsAt CR H' ls ad' (settled reg l) → (∀ x o, x ≠ e → x ≠ q → H x = some o → H' x = some o) → Q .non H') : PspSettle CW CR vs H Q
noncomputable def spSettle (CW CR : Addr) : Sp := fun vs H Q _ => PspSettle CW CR vs H Q
theorem scSettle : FnScope ["self", "label", "kept"] ["self", "label"] (defScope sSettle) := ⟨rfl, rfl, rfl, by decide +kernel, rfl, by decide +kernel, by decide +kernel⟩
theorem okSettle {f fI : Addr} {fd fdI : FuncData} (F : Fun K "settle" "WaitingSet.settle" sSettle f fd) (T : ClsF K CW wsF) (TR : ClsF K CR regF) (gR : mg "Registration" = some (.ref CR)) (M : Mk K CR fI) (GI : FnOk P w K mg base CX0 1 fI fdI ["self", "number", "source", "word", "armed"] (spRegInit CR)) (bI : Binds K fdI ["self", "number", "source", "word", "armed"] []) :
    FnOk P w K mg base CX0 3 f fd ["self", "label"] (spSettle CW CR) := by
  refine F.ok scSettle (fun vs H Q E h => ?_) (fun cdv A outer s H vs Q E hr h => ?_)
  · obtain ⟨_, _, _, _, _, _, _, _, _, rfl, _⟩ := h
    rfl
  · obtain ⟨a, dx, e, q, l, qs, ls, ad, reg, rfl, ha, hq, he, hR, hl, nWR, hz, hz2, k⟩ := h
    have hu := hu_of hr
    refine ⟨_, pss_cons (ps_set (i := 2) scSettle.nd rfl (Or.inl rfl) (pe_dget hu (pe_fld (pv 0) rfl) (pv 1) (fun _ _ => rfl)))
      (pss_cut (ps_if (pt_cmpR op_eq (pe_fld (pv 2) rfl) pe_str (nomark _)) (pss_one (ps_expr (pe_bm PySem.F.plainAttrs_list PySem.F.slot_list_append PySem.F.type_list_append mt_append (pe_fld (pv 0) rfl) (pa_cons (pv 1) pa_nil)))) pss_nil)
      (pss_one (ps_if (pt_cmpR op_eq (pe_fld (pv 2) rfl) pe_str (nomark _)) (pss_one (ps_dput hu (pe_fld (pv 0) rfl) (pv 1) (pe_make M GI hr (by rfl) gR bI .nil pass0 (pa_cons (pe_fld (pv 2) rfl) (pa_cons (pe_fld (pv 2) rfl) (pa_cons (pe_fld (pv 2) rfl) (pa_cons pe_bl pa_nil))))) rfl)) pss_nil))), ?_⟩
    obtain ⟨dr, hr1⟩ := hR l hl
    have nqe : q ≠ e := ne_of hq he (by intro z; cases z)
    have nae : a ≠ e := ne_of ha he (by intro z; cases z)
    have naq : a ≠ q := ne_of ha hq (by intro z; cases z)
    have nre : ad l ≠ e := ne_of hr1 he (by intro z; cases z)
    have nrq : ad l ≠ q := ne_of hr1 hq (by intro z; cases z)
    refine ⟨_, rfl, a, CW, dx, _, _, rfl, ha, T.cl, T.no _ (by decide), rfl, ?_⟩
    have hv : valV (entKV ls ad) (Sum.inl l) = some (.ref (ad l)) := by rw [ent_val, if_pos hl]
    refine ⟨_, rfl, e, _, rfl, hv ▸ DGet.k (k := Sum.inl l) he, ?_⟩
    refine ⟨fun σ' H1 => σ' = [some (.ref a), some (.int l), some (.ref (ad l))] ∧ H1 q = some (.lst ((if (reg l).word = "level" then qs ++ [l] else qs).map V.int)) ∧ ∀ x, x ≠ q → H1 x = H x, ?_, ?_⟩
    · refine ⟨_, rfl, ad l, CR, dr, _, _, rfl, hr1, TR.cl, TR.no _ (by decide), rfl, rfl, _, rfl, ?_⟩
      by_cases h : (reg l).word = "level"
      · rw [decide_eq_true (str_inj'.mpr h)]
        walk_at "wn"
        refine ⟨_, rfl, a, CW, dx, _, _, rfl, ha, T.cl, T.no _ (by decide), rfl, ?_⟩
        refine ⟨.inl ⟨rfl, _, SqL.of hq⟩, ?_⟩
        refine ⟨_, rfl, q, _, _, rfl, rfl, hq, by rw [List.length_map, sizeLine_eq]; omega, ?_⟩
        refine ⟨rfl, ?_, fun x n => upd_ne n⟩
        rw [if_pos h, upd_same, List.map_append]
        rfl
      · rw [decide_eq_false (fun z => h (str_inj'.mp z))]
        walk_at "wn"
        exact ⟨rfl, by rw [if_neg h]; exact hq, fun _ _ => rfl⟩
    rintro σ' H1 ⟨rfl, hq1, h1⟩
    have hr2 : H1 (ad l) = _ := (h1 _ nrq).trans hr1
    have he1 : H1 e = _ := (h1 _ (Ne.symm nqe)).trans he
    have ha1 : H1 a = _ := (h1 _ naq).trans ha
    have hR1 : ∀ j ∈ ls, ∃ dx, H1 (ad j) = some (regO CR dx (reg j).num (reg j).src (reg j).word (reg j).armed) := fun j hj => by
      obtain ⟨dj, ej⟩ := hR j hj
      exact ⟨dj, (h1 _ (ne_of ej hq (by intro z; cases z))).trans ej⟩
    refine ⟨_, rfl, ad l, CR, dr, _, _, rfl, hr2, TR.cl, TR.no _ (by decide), rfl, rfl, _, rfl, ?_⟩
    by_cases h : (reg l).word = "once"
    · rw [decide_eq_true (str_inj'.mpr h)]
      walk_at "wn"
      refine ⟨_, rfl, ad l, CR, dr, _, _, rfl, hr2, TR.cl, TR.no _ (by decide), rfl, ?_⟩
      refine ⟨_, rfl, ad l, CR, dr, _, _, rfl, hr2, TR.cl, TR.no _ (by decide), rfl, ?_⟩
      refine ⟨_, rfl, ad l, CR, dr, _, _, rfl, hr2, TR.cl, TR.no _ (by decide), rfl, ?_⟩
      walk_at "wn"
      intro x dx2 hx hdx ndx
      refine ⟨x, dx2, _, _, _, _, rfl, upd_same, fun H2 k1 k2 => ⟨rfl, ?_⟩⟩
      have k3 : ∀ b o, H1 b = some o → H2 b = some o := fun b o e => by
        rw [k1 b (ne_of_none e hx), upd_ne (ne_of_none e hx), upd_ne (ne_of_none e hdx)]
        exact e
      refine ⟨_, rfl, a, CW, dx, _, _, rfl, k3 _ _ ha1, T.cl, T.no _ (by decide), rfl, ?_⟩
      refine ⟨_, rfl, e, _, rfl, DPut.k (k := Sum.inl l) (k3 _ _ he1) (by rw [sizeLine_eq]; unfold entKV; rw [List.length_map]; omega), ?_⟩
      rw [ent_put, if_pos hl]
      have nxe : x ≠ e := fun z => by rw [z, he1] at hx; cases hx
      refine k _ _ upd_same ?_ (fun j hj => if_neg hj) (.inr ?_) (fun j hj => ?_) fun b o n1 n2 e2 => ?_
      · rw [upd_ne nqe]
        exact k3 _ _ hq1
      · show H (if l = l then x else ad l) = none
        rw [if_pos rfl, ← h1 x (fun z => by rw [z, hq1] at hx; cases hx)]
        exact hx
      · show ∃ dx, upd H2 e _ (if j = l then x else ad j) = _
        by_cases ej : j = l
        · rw [ej, if_pos rfl, settled_at h, upd_ne nxe, k2]
          exact ⟨dx2, rfl⟩
        · rw [if_neg ej, settled_ne ej]
          obtain ⟨dj, e3⟩ := hR1 j hj
          rw [upd_ne (ne_of e3 he1 (by intro z; cases z))]
          exact ⟨dj, k3 _ _ e3⟩
      · rw [upd_ne n1]
        exact k3 _ _ ((h1 _ n2).trans e2)
    · rw [decide_eq_false (fun z => h (str_inj'.mp z))]
      walk_at "wn"
      refine k H1 ad he1 hq1 (fun _ _ => rfl) (.inl rfl) (fun j hj => ?_) fun b o n1 n2 e2 => (h1 _ n2).trans e2
      rw [settled_no h]
      exact hR1 j hj
/-! label_of -/
noncomputable def keyOf (reg : Int → Reg) (n s : Int) (l : Int) : Bool := decide ((reg l).num = n) && decide ((reg l).src = s)
inductive PspLabelOf (CW CR : Addr) (vs : List V) (H : Hp) (Q : VK) : Prop
  | mk (a dx e q : Addr) (n s : Int) (ls : List Int) (ad : Int → Addr) (reg : Int → Reg) (h_0 : vs = [.ref a, .int n, .int s]) (h_1 : H a = some (wsO CW dx e q)) (h_2 : H e = some (.dK (entKV ls ad))) (h_3 : RegsAt CR H ls ad reg) (h_4 : ∀ H', Same H H' → Q (match ls.find? (keyOf reg n s) with | some l => .int l | none => .non) H') : PspLabelOf CW CR vs H Q
noncomputable def spLabelOf (CW CR : Addr) : Sp := fun vs H Q _ => PspLabelOf CW CR vs H Q
theorem scLabelOf : FnScope ["self", "number", "source", "label", "kept"] ["self", "number", "source"] (defScope sLabelOf) := ⟨rfl, rfl, rfl, by decide +kernel, rfl, by decide +kernel, by decide +kernel⟩
theorem okLabelOf {f : Addr} {fd : FuncData} (F : Fun K "label_of" "WaitingSet.label_of" sLabelOf f fd) (T : ClsF K CW wsF) (TR : ClsF K CR regF) : FnOk P w K mg base CX0 1 f fd ["self", "number", "source"] (spLabelOf CW CR) := by
  refine F.ok scLabelOf (fun vs H Q E h => ?_) (fun cdv A outer s H vs Q E hr h => ?_)
  · obtain ⟨_, _, _, _, _, _, _, _, _, rfl, _⟩ := h
    rfl
  · obtain ⟨a, dx, e, q, n, s, ls, ad, reg, rfl, ha, he, hR, k⟩ := h
    refine ⟨_, pss_cons (ps_lock (ps_for PassesOwn.never rfl (pi_items (pe_fld (pv 0) rfl)) (pg_tup rfl (pgs_cons (pg_name (i := 3) scLabelOf.nd rfl (Or.inl rfl)) (pgs_cons (pg_name (i := 4) scLabelOf.nd rfl (Or.inl rfl)) pgs_nil)))
        (pss_one (ps_if (PW.pt (pw_and (pt_cmpR op_eq (pe_fld (pv 4) rfl) (pv 1) (nomark _)) (pw_and1 (pt_cmpR op_eq (pe_fld (pv 4) rfl) (pv 2) (nomark _))))) (pss_one (ps_ret (pv 3))) pss_nil))))
      (pss_one (ps_ret pe_non)), ?_⟩
    have nae : a ≠ e := ne_of ha he (by intro z; cases z)
    refine ⟨e, _, he, trivial, fun od => ?_⟩
    have ha1 : upd H e (.frz od (.dK (entKV ls ad))) a = some (wsO CW dx e q) := by rw [upd_ne nae]; exact ha
    refine ⟨_, rfl, a, CW, dx, _, _, rfl, ha1, T.cl, T.no _ (by decide), rfl, ?_⟩
    refine ⟨e, od, entKV ls ad, rfl, upd_same, ?_⟩
    -- behind the lock
    have un : ∀ {H1 : Hp}, Same (upd H e (.frz od (.dK (entKV ls ad)))) H1 → Same H (upd H1 e (.dK (entKV ls ad))) := fun {H1} sm b o e1 => by
      by_cases hb : b = e
      · rw [hb, upd_same, ← he, ← hb, e1]
      · rw [upd_ne hb]
        exact sm _ _ (by rw [upd_ne hb]; exact e1)
    have hR1 : ∀ j ∈ ls, ∃ dx, upd H e (.frz od (.dK (entKV ls ad))) (ad j) = some (regO CR dx (reg j).num (reg j).src (reg j).word (reg j).armed) := fun j hj => by
      obtain ⟨dj, ej⟩ := hR j hj
      exact ⟨dj, by rw [upd_ne (ne_of ej he (by intro z; cases z))]; exact ej⟩
    refine for_it walk_items (fun i σ' H1 => ∃ u v : Option V, σ' = [some (.ref a), some (.int n), some (.int s), u, v] ∧ Same (upd H e (.frz od (.dK (entKV ls ad)))) H1 ∧ ∀ j l, ls[j]? = some l → j < i → keyOf reg n s l = false) ⟨_, _, rfl, Same.refl _, fun _ _ _ z => absurd z (Nat.not_lt_zero _)⟩ (fun i σ' H1 _ ⟨_, _, _, sm, _⟩ => sm _ _ upd_same) ?_ ?_
    · rintro i x σ' H1 H2 hi ⟨u, v, rfl, sm, hn⟩ ⟨T1, x1, y1, rfl, nT, rfl, ex, ey⟩
      have hi' : i < ls.length := by unfold entKV at hi; rwa [List.length_map] at hi
      have e1 : (entKV ls ad)[i]? = some (Sum.inl ls[i], .ref (ad ls[i])) := by
        unfold entKV
        rw [List.getElem?_map, List.getElem?_eq_getElem hi']
        rfl
      have ex : (entKV ls ad)[i]?.map (fun kv => kV kv.1) = some x1 := ex
      have ey : (entKV ls ad)[i]?.map Prod.snd = some y1 := ey
      rw [e1] at ex ey
      cases ex
      cases ey
      have smT := sm.trans (Same.new' (o := .tup [V.int ls[i], V.ref (ad ls[i])]) nT)
      obtain ⟨dr, er⟩ := hR1 ls[i] (List.getElem_mem hi')
      have er2 := smT _ _ er
      refine ⟨T1, _, rfl, SqT.of upd_same, rfl, _, _, rfl, ?_⟩
      walk_at "wn"
      refine ⟨_, _, rfl, ?_⟩
      walk_at "wn"
      refine ⟨rfl, ?_⟩
      refine ⟨_, rfl, ad ls[i], CR, dr, _, _, rfl, er2, TR.cl, TR.no _ (by decide), rfl, _, rfl, rfl, _, rfl, ?_⟩
      have no : keyOf reg n s ls[i] = false → ∃ u v : Option V, ([some (.ref a), some (.int n), some (.int s), some (.int ls[i]), some (.ref (ad ls[i]))] : L2.St) = [some (.ref a), some (.int n), some (.int s), u, v] ∧ Same (upd H e (.frz od (.dK (entKV ls ad)))) (upd H1 T1 (.tup [V.int ls[i], V.ref (ad ls[i])])) ∧ ∀ j l, ls[j]? = some l → j < i + 1 → keyOf reg n s l = false := fun hk => ⟨_, _, rfl, smT, fun j l ej hj => by
        rcases Nat.lt_or_ge j i with z | z
        · exact hn j l ej z
        · obtain rfl : j = i := by omega
          rw [List.getElem?_eq_getElem hi'] at ej
          cases ej
          exact hk⟩
      by_cases h1 : (reg ls[i]).num = n
      · rw [decide_eq_true (by rw [h1])]
        walk_at "wn"
        refine ⟨_, rfl, ad ls[i], CR, dr, _, _, rfl, er2, TR.cl, TR.no _ (by decide), rfl, _, rfl, rfl, _, rfl, ?_⟩
        by_cases h2 : (reg ls[i]).src = s
        · rw [decide_eq_true (by rw [h2])]
          walk_at "wn"
          refine ⟨smT _ _ upd_same, ?_⟩
          have hf : ls.find? (keyOf reg n s) = some ls[i] := by
            rw [List.find?_eq_some_iff_getElem]
            refine ⟨by unfold keyOf; rw [decide_eq_true h1, decide_eq_true h2]; rfl, i, hi', rfl, fun j hj => ?_⟩
            rw [hn j _ (List.getElem?_eq_getElem (by omega)) hj]
            rfl
          have z := k _ (un smT)
          rw [hf] at z
          exact z
        · rw [decide_eq_false fun z => h2 (V.int.inj z)]
          walk_at "wn"
          exact no (by unfold keyOf; rw [decide_eq_false h2, Bool.and_false])
      · rw [decide_eq_false fun z => h1 (V.int.inj z)]
        walk_at "wn"
        exact no (by unfold keyOf; rw [decide_eq_false h1, Bool.false_and])
    · rintro σ' H1 ⟨u, v, rfl, sm, hn⟩
      refine ⟨sm _ _ upd_same, ?_⟩
      walk_at "wn"
      have hf : ls.find? (keyOf reg n s) = none := by
        rw [List.find?_eq_none]
        intro l hl
        obtain ⟨j, hj, rfl⟩ := List.getElem_of_mem hl
        rw [hn j _ (List.getElem?_eq_getElem hj) (by unfold entKV; rw [List.length_map]; exact hj)]
        exact Bool.false_ne_true
      have z := k _ (un sm)
      rw [hf] at z
      exact z
/-! notice -/
noncomputable def noticeQ (reg : Int → Reg) (s : Int) (ls qs : List Int) : List Int := ls.foldl (fun acc l => if (reg l).src = s ∧ (reg l).armed = true then qAdd l acc else acc) qs
theorem notice_len (reg : Int → Reg) (s : Int) : ∀ ls qs : List Int, (noticeQ reg s ls qs).length ≤ qs.length + ls.length
  | [], _ => Nat.le_refl _
  | l :: ls, qs => by
    have := notice_len reg s ls (if (reg l).src = s ∧ (reg l).armed = true then qAdd l qs else qs)
    have h2 : (if (reg l).src = s ∧ (reg l).armed = true then qAdd l qs else qs).length ≤ qs.length + 1 := by
      unfold qAdd
      split
      · split
        · omega
        · rw [List.length_append]
          exact Nat.le_refl _
      · omega
    refine Nat.le_trans this ?_
    rw [List.length_cons]
    omega
theorem notice_step (reg : Int → Reg) (s : Int) (ls qs : List Int) {i : Nat} (hi : i < ls.length) : noticeQ reg s (ls.take (i + 1)) qs = if (reg ls[i]).src = s ∧ (reg ls[i]).armed = true then qAdd ls[i] (noticeQ reg s (ls.take i) qs) else noticeQ reg s (ls.take i) qs := by
  unfold noticeQ
  rw [List.take_add_one, List.getElem?_eq_getElem hi, List.foldl_append]
  rfl
inductive PspNotice (CW CR : Addr) (vs : List V) (H : Hp) (Q : VK) : Prop
  | mk (a dx e q : Addr) (s : Int) (qs ls : List Int) (ad : Int → Addr) (reg : Int → Reg) (h_0 : vs = [.ref a, .int s]) (h_1 : H a = some (wsO CW dx e q)) (h_2 : H q = some (.lst (qs.map V.int))) (h_3 : H e = some (.dK (entKV ls ad))) (h_4 : RegsAt CR H ls ad reg) (h_5 : qs.length ≤ 4000) (h_6 : ls.length ≤ 4000) (h_7 : ∀ H', H' q = some (.lst ((noticeQ reg s ls qs).map V.int)) → (∀ b o, b ≠ q → H b = some o → H' b = some o) → Q .non H') : PspNotice CW CR vs H Q
noncomputable def spNotice (CW CR : Addr) : Sp := fun vs H Q _ => PspNotice CW CR vs H Q
theorem scNotice : FnScope ["self", "source", "label", "kept"] ["self", "source"] (defScope sNotice) := ⟨rfl, rfl, rfl, by decide +kernel, rfl, by decide +kernel, by decide +kernel⟩
theorem okNotice {f fA : Addr} {fd fdA : FuncData} (F : Fun K "notice" "WaitingSet.notice" sNotice f fd) (T : ClsF K CW wsF) (TR : ClsF K CR regF) (GA : FnOk P w K mg base CX0 1 fA fdA ["self", "label"] (spAppend CW)) (mA : Meth K CW "append_pending" fA) (bA : Binds K fdA ["self", "label"] []) :
    FnOk P w K mg base CX0 2 f fd ["self", "source"] (spNotice CW CR) := by
  refine F.ok scNotice (fun vs H Q E h => ?_) (fun cdv A outer s H vs Q E hr h => ?_)
  · obtain ⟨_, _, _, _, _, _, _, _, _, rfl, _⟩ := h
    rfl
  · obtain ⟨a, dx, e, q, s, qs, ls, ad, reg, rfl, ha, hq, he, hR, hz, hz2, k⟩ := h
    refine ⟨_, pss_one (ps_lock (ps_for PassesOwn.never rfl (pi_items (pe_fld (pv 0) rfl)) (pg_tup rfl (pgs_cons (pg_name (i := 2) scNotice.nd rfl (Or.inl rfl)) (pgs_cons (pg_name (i := 3) scNotice.nd rfl (Or.inl rfl)) pgs_nil)))
        (pss_one (ps_if (PW.pt (pw_and (pt_cmpR op_eq (pe_fld (pv 3) rfl) (pv 1) (nomark _)) (pw_and1 (pt_val (pe_fld (pv 3) rfl))))) (pss_one (ps_expr (pe_meth (pv 0) T.cl mA GA hr bA .nil pass0 (pa_cons (pv 2) pa_nil)))) pss_nil)))), ?_⟩
    have nae : a ≠ e := ne_of ha he (by intro z; cases z)
    have naq : a ≠ q := ne_of ha hq (by intro z; cases z)
    have nqe : q ≠ e := ne_of hq he (by intro z; cases z)
    refine ⟨e, _, he, trivial, fun od => ?_⟩
    have ha1 : upd H e (.frz od (.dK (entKV ls ad))) a = some (wsO CW dx e q) := by rw [upd_ne nae]; exact ha
    have hq1 : upd H e (.frz od (.dK (entKV ls ad))) q = some (.lst (qs.map V.int)) := by rw [upd_ne nqe]; exact hq
    refine ⟨_, rfl, a, CW, dx, _, _, rfl, ha1, T.cl, T.no _ (by decide), rfl, ?_⟩
    refine ⟨e, od, entKV ls ad, rfl, upd_same, ?_⟩
    have hR1 : ∀ j ∈ ls, ∃ dx, upd H e (.frz od (.dK (entKV ls ad))) (ad j) = some (regO CR dx (reg j).num (reg j).src (reg j).word (reg j).armed) ∧ ad j ≠ q := fun j hj => by
      obtain ⟨dj, ej⟩ := hR j hj
      exact ⟨dj, by rw [upd_ne (ne_of ej he (by intro z; cases z))]; exact ej, ne_of ej hq (by intro z; cases z)⟩
    have un : ∀ {H1 : Hp}, (∀ b o, b ≠ q → upd H e (.frz od (.dK (entKV ls ad))) b = some o → H1 b = some o) → ∀ b o, b ≠ q → H b = some o → upd H1 e (.dK (entKV ls ad)) b = some o := fun {H1} sm b o n e1 => by
      by_cases hb : b = e
      · rw [hb, upd_same, ← he, ← hb, e1]
      · rw [upd_ne hb]
        exact sm _ _ n (by rw [upd_ne hb]; exact e1)
    refine for_it walk_items (fun i σ' H1 => ∃ u v : Option V, σ' = [some (.ref a), some (.int s), u, v] ∧ (∀ b o, b ≠ q → upd H e (.frz od (.dK (entKV ls ad))) b = some o → H1 b = some o) ∧ H1 q = some (.lst ((noticeQ reg s (ls.take i) qs).map V.int))) ⟨_, _, rfl, fun _ _ _ z => z, hq1⟩ (fun i σ' H1 _ ⟨_, _, _, sm, _⟩ => sm _ _ (Ne.symm nqe) upd_same) ?_ ?_
    · rintro i x σ' H1 H2 hi ⟨u, v, rfl, sm, hqi⟩ ⟨T1, x1, y1, rfl, nT, rfl, ex, ey⟩
      have hi' : i < ls.length := by unfold entKV at hi; rwa [List.length_map] at hi
      have e1 : (entKV ls ad)[i]? = some (Sum.inl ls[i], .ref (ad ls[i])) := by
        unfold entKV
        rw [List.getElem?_map, List.getElem?_eq_getElem hi']
        rfl
      have ex : (entKV ls ad)[i]?.map (fun kv => kV kv.1) = some x1 := ex
      have ey : (entKV ls ad)[i]?.map Prod.snd = some y1 := ey
      rw [e1] at ex ey
      cases ex
      cases ey
      have nT2 := Same.new' (o := .tup [V.int ls[i], V.ref (ad ls[i])]) nT
      have smT : ∀ b o, b ≠ q → upd H e (.frz od (.dK (entKV ls ad))) b = some o → upd H1 T1 (.tup [V.int ls[i], V.ref (ad ls[i])]) b = some o := fun b o n z => nT2 _ _ (sm b o n z)
      have hqT := nT2 _ _ hqi
      obtain ⟨dr, er, nrq⟩ := hR1 ls[i] (List.getElem_mem hi')
      have er2 := smT _ _ nrq er
      have st := notice_step reg s ls qs hi'
      refine ⟨T1, _, rfl, SqT.of upd_same, rfl, _, _, rfl, ?_⟩
      walk_at "wn"
      refine ⟨_, _, rfl, ?_⟩
      walk_at "wn"
      refine ⟨rfl, ?_⟩
      refine ⟨_, rfl, ad ls[i], CR, dr, _, _, rfl, er2, TR.cl, TR.no _ (by decide), rfl, _, rfl, rfl, _, rfl, ?_⟩
      by_cases h1 : (reg ls[i]).src = s
      · rw [decide_eq_true (by rw [h1])]
        walk_at "wn"
        refine ⟨_, rfl, ad ls[i], CR, dr, _, _, rfl, er2, TR.cl, TR.no _ (by decide), rfl, _, rfl, ?_⟩
        cases h2 : (reg ls[i]).armed with
        | true =>
          walk_at "wn"
          refine ⟨_, rfl, a, dx, _, rfl, smT _ _ naq ha1, rfl, ?_⟩
          walk_at "wn"
          have hl3 := notice_len reg s (ls.take i) qs
          rw [List.length_take] at hl3
          refine ⟨a, dx, e, q, ls[i], _, rfl, smT _ _ naq ha1, hqT, by omega, fun H' k1 k2 => ?_⟩
          refine ⟨_, _, rfl, fun b o n z => by rw [k2 b n]; exact smT b o n z, ?_⟩
          rw [st, if_pos ⟨h1, h2⟩]
          exact k1
        | false =>
          walk_at "wn"
          refine ⟨_, _, rfl, smT, ?_⟩
          rw [st, if_neg fun z => by rw [h2] at z; exact Bool.noConfusion z.2]
          exact hqT
      · rw [decide_eq_false fun z => h1 (V.int.inj z)]
        walk_at "wn"
        refine ⟨_, _, rfl, smT, ?_⟩
        rw [st, if_neg fun z => h1 z.1]
        exact hqT
    · rintro σ' H1 ⟨u, v, rfl, sm, hqi⟩
      refine ⟨sm _ _ (Ne.symm nqe) upd_same, ?_⟩
      have e3 : ls.take (entKV ls ad).length = ls := by unfold entKV; rw [List.length_map, List.take_length]
      rw [e3] at hqi
      exact k _ (by rw [upd_ne nqe]; exact hqi) (un sm)
end

/-! what a wait takes -/
structure TSt where
  reps : List (Int × Int × Bool)
  que : List Int
  reg : Int → Reg
noncomputable def takeStep (unit : Int → Int × Bool) (s : TSt) (l : Int) : TSt :=
  if decide (0 < (unit (s.reg l).src).1) || (unit (s.reg l).src).2 then ⟨s.reps ++ [(l, (unit (s.reg l).src).1, (unit (s.reg l).src).2)], if (s.reg l).word = "level" then s.que.drop 1 ++ [l] else s.que.drop 1, settled s.reg l⟩ else ⟨s.reps, s.que.drop 1, s.reg⟩
noncomputable def takeAll (unit : Int → Int × Bool) (most : Int) : List Int → TSt → TSt
  | [], s => s
  | l :: ls, s => if (s.reps.length : Int) = most then s else takeAll unit most ls (takeStep unit s l)
theorem settled_src (reg : Int → Reg) (l j : Int) : (settled reg l j).src = (reg j).src := by
  unfold settled
  split
  · rename_i h
    rw [h.1]
  · rfl
theorem step_src (unit : Int → Int × Bool) (s : TSt) (l j : Int) : ((takeStep unit s l).reg j).src = (s.reg j).src := by
  unfold takeStep
  split
  · exact settled_src _ _ _
  · rfl
theorem step_len (unit : Int → Int × Bool) (s : TSt) (l : Int) : (takeStep unit s l).que.length ≤ s.que.length + 1 ∧ (takeStep unit s l).reps.length ≤ s.reps.length + 1 := by
  unfold takeStep
  split
  · refine ⟨?_, by simp⟩
    dsimp only
    split
    · rw [List.length_append, List.length_drop]
      show s.que.length - 1 + 1 ≤ _
      omega
    · rw [List.length_drop]
      omega
  · refine ⟨?_, Nat.le_succ _⟩
    dsimp only
    rw [List.length_drop]
    omega
theorem cut_one (l : List V) : cutV l (some 1) none = l.drop 1 := by
  cases l with
  | nil => rfl
  | cons v l =>
    unfold cutV HT.sIx
    simp
/-- the units of the sources, each a tuple -/
noncomputable def UnitsAt (H : Hp) (ss : List Int) (ad : Int → Addr) (unit : Int → Int × Bool) : Prop := ∀ s ∈ ss, H (ad s) = some (.tup [.int (unit s).1, .bl (unit s).2])
noncomputable abbrev RepAt (H : Hp) : V → Int × Int × Bool → Prop := fun v r => ∃ t, v = .ref t ∧ H t = some (.tup [.int r.1, .int r.2.1, .bl r.2.2])
theorem reps_keep {H H' : Hp} {vs : List V} {rs : List (Int × Int × Bool)} (p : Paired (RepAt H) vs rs) (k : ∀ b xs, H b = some (.tup xs) → H' b = some (.tup xs)) : Paired (RepAt H') vs rs := by
  induction p with
  | nil => exact .nil
  | cons r _ ih =>
    obtain ⟨t, e1, e2⟩ := r
    exact .cons ⟨t, e1, k _ _ e2⟩ ih
theorem reps_snoc {H : Hp} {vs : List V} {rs : List (Int × Int × Bool)} {v : V} {r : Int × Int × Bool} (p : Paired (RepAt H) vs rs) (q : RepAt H v r) : Paired (RepAt H) (vs ++ [v]) (rs ++ [r]) := by
  induction p with
  | nil => exact .cons q .nil
  | cons r _ ih => exact .cons r ih
theorem or_pure {σ : L2.St} {H : Hp} {t u : TT} {b1 b2 : Bool} {k : Bool → Hp → Prop} (h1 : ∀ k : Bool → Hp → Prop, k b1 H → t σ H k) (h2 : ∀ k : Bool → Hp → Prop, k b2 H → u σ H k) (q : k (b1 || b2) H) : tOr t u σ H k := by
  show t σ H fun b H1 => if b = true then k true H1 else u σ H1 k
  refine h1 _ ?_
  cases b1 with
  | true => exact q
  | false => exact h2 k q
section
variable {P : Program} {w : World} {K : PySem.W.Frag} {mg : Str → Option Value} {base : Heap} {CR CW : Addr}
inductive PspReports (CW CR : Addr) (vs : List V) (H : Hp) (Q : VK) : Prop
  | mk (a dx e q D : Addr) (most : Int) (qs ls ss : List Int) (ad adS : Int → Addr) (reg : Int → Reg) (unit : Int → Int × Bool) (h_0 : vs = [.ref a, .int most, .ref D]) (h_1 : H a = some (wsO CW dx e q)) (h_2 : H q = some (.lst (qs.map V.int))) (h_3 : H e = some (.dK (entKV ls ad))) (h_4 : RegsAt CR H ls ad reg) (h_5 : H D = some (.dK (entKV ss adS))) (h_6 : D ≠ e) (h_7 : UnitsAt H ss adS unit) (h_8 : (∀ l ∈ qs, l ∈ ls)) (h_9 : (∀ l ∈ ls, (reg l).src ∈ ss)) (h_10 : CW ≠ CR) (h_11 : (∀ l ∈ ls, ∀ l' ∈ ls, ad l = ad l' → l = l')) (h_12 : qs.length ≤ 1000) (h_13 : ls.length ≤ 1000) (h_14 : ∀ H' r rs q' ad', H' a = some (wsO CW dx e q') → H' q' = some (.lst ((takeAll unit most qs ⟨[], qs, reg⟩).que.map V.int)) → (q' = q ∨ H q' = none) → H' e = some (.dK (entKV ls ad')) → RegsAt CR H' ls ad' (takeAll unit most qs ⟨[], qs, reg⟩).reg → (∀ j, ad' j = ad j ∨ H (ad' j) = none) → (∀ l ∈ ls, ∀ l' ∈ ls, ad' l = ad' l' → l = l') → H r = none → r ≠ q' → H' r = some (.lst rs) → Paired (RepAt H') rs (takeAll unit most qs ⟨[], qs, reg⟩).reps → (∀ b o, b ≠ a → b ≠ e → b ≠ q → H b = some o → H' b = some o) → Q (.ref r) H') : PspReports CW CR vs H Q
noncomputable def spReports (CW CR : Addr) : Sp := fun vs H Q _ => PspReports CW CR vs H Q
theorem scReports : FnScope ["self", "most", "sources", "reports", "pending", "label", "unread", "finished"] ["self", "most", "sources"] (defScope sReports) := ⟨rfl, rfl, rfl, by decide +kernel, rfl, by decide +kernel, by decide +kernel⟩
structure WsTxt (mg : Str → Option Value) : Prop where
  list : mg "list" = none
  len : mg "len" = none
inductive RepI (CW CR : Addr) (H : Hp) (a dx e q r p D : Addr) (most : Int) (qs ls ss : List Int) (ad : Int → Addr) (reg : Int → Reg) (unit : Int → Int × Bool) (i : Nat) (σ' : L2.St) (H1 : Hp) : Prop
  | mk (st : TSt) (rs : List V) (q' : Addr) (ad' : Int → Addr) (u5 u6 u7 : Option V) (h_0 : σ' = [some (.ref a), some (.int most), some (.ref D), some (.ref r), some (.ref p), u5, u6, u7]) (h_1 : takeAll unit most (qs.drop i) st = takeAll unit most qs ⟨[], qs, reg⟩) (h_2 : H1 a = some (wsO CW dx e q')) (h_3 : H1 q' = some (.lst (st.que.map V.int))) (h_4 : (q' = q ∨ H q' = none)) (h_5 : q' ≠ r) (h_6 : q' ≠ p) (h_7 : H1 e = some (.dK (entKV ls ad'))) (h_8 : RegsAt CR H1 ls ad' st.reg) (h_9 : (∀ j, ad' j = ad j ∨ H (ad' j) = none)) (h_10 : (∀ l ∈ ls, ∀ l' ∈ ls, ad' l = ad' l' → l = l')) (h_11 : H1 r = some (.lst rs)) (h_12 : H1 p = some (.lst (qs.map V.int))) (h_13 : Paired (RepAt H1) rs st.reps) (h_14 : (∀ b o, b ≠ a → b ≠ e → b ≠ q → H b = some o → H1 b = some o)) (h_15 : (∀ l ∈ ls, (st.reg l).src ∈ ss)) (h_16 : st.que.length ≤ 1000 + i) (h_17 : st.reps.length ≤ i) (h_18 : ∃ o, H1 q = some o) : RepI CW CR H a dx e q r p D most qs ls ss ad reg unit i σ' H1
theorem okReports {f fS : Addr} {fd fdS : FuncData} (F : Fun K "take_reports" "WaitingSet.take_reports" sReports f fd) (X : WsTxt mg) (T : ClsF K CW wsF) (TR : ClsF K CR regF) (GS : FnOk P w K mg base CX0 3 fS fdS ["self", "label"] (spSettle CW CR)) (mS : Meth K CW "settle" fS) (bS : Binds K fdS ["self", "label"] []) :
    FnOk P w K mg base CX0 4 f fd ["self", "most", "sources"] (spReports CW CR) := by
  refine F.ok scReports (fun vs H Q E h => ?_) (fun cdv A outer s H vs Q E hr h => ?_)
  · obtain ⟨_, _, _, _, _, _, _, _, _, _, _, _, _, rfl, _⟩ := h
    rfl
  · obtain ⟨a, dx, e, q, D, most, qs, ls, ss, ad, adS, reg, unit, rfl, ha, hq, he, hR, hD, nDe, hU, hql, hls, nWR, hinj, hz, hz2, k⟩ := h
    have hu := hu_of hr
    refine ⟨_, pss_cons (ps_set (i := 3) scReports.nd rfl (Or.inl rfl) (pe_lst pa_nil))
      (pss_cons (ps_set (i := 4) scReports.nd rfl (Or.inl rfl) (pe_callTy call_list_of (by rfl) X.list PyProof.Rows.boot_list (pa_cons (pe_fld (pv 0) rfl) pa_nil)))
      (pss_cons (ps_for PassesOwn.never rfl (pi_list (pv 4)) (pg_name (i := 5) scReports.nd rfl (Or.inl rfl))
        (pss_cons (ps_if (pt_cmpR op_eq (pe_callB cLenQ (by rfl) X.len PySem.boot_len (pa_cons (pv 3) pa_nil)) (pv 1) (nomark _)) (pss_one ps_break) pss_nil)
        (pss_cons (ps_fld (pv 0) (pe_slice sl_list (pe_fld (pv 0) rfl) (po_some pe_int) po_none) rfl)
        (pss_cons (ps_asg (pe_dget hu (pv 2) (pe_fld (pe_dget hu (pe_fld (pv 0) rfl) (pv 5) (fun _ _ => rfl)) rfl) (fun _ _ => rfl)) (pg_tup rfl (pgs_cons (pg_name (i := 6) scReports.nd rfl (Or.inl rfl)) (pgs_cons (pg_name (i := 7) scReports.nd rfl (Or.inl rfl)) pgs_nil))))
        (pss_one (ps_if (PW.pt (pw_or (pt_cmpR op_gt (pv 6) pe_int (nomark _)) (pw_or1 (pt_val (pv 7)))))
          (pss_cons (ps_expr (pe_bm PySem.F.plainAttrs_list PySem.F.slot_list_append PySem.F.type_list_append mt_append (pv 3) (pa_cons (pe_tup (pa_cons (pv 5) (pa_cons (pv 6) (pa_cons (pv 7) pa_nil)))) pa_nil)))
          (pss_one (ps_expr (pe_meth (pv 0) T.cl mS GS hr bS .nil pass0 (pa_cons (pv 5) pa_nil))))) pss_nil))))))
      (pss_one (ps_ret (pv 3))))), ?_⟩
    walk_at "wn"
    refine ⟨Nat.zero_le _, fun r hr0 => ?_⟩
    walk_at "wn"
    have s1 := Same.new' (o := .lst []) hr0
    refine ⟨_, rfl, a, CW, dx, _, _, rfl, s1 _ _ ha, T.cl, T.no _ (by decide), rfl, ?_⟩
    refine ⟨q, qs.map V.int, rfl, .inl (SqL.of (s1 _ _ hq)), fun p hp => ?_⟩
    walk_at "wn"
    have s2 := Same.new' (o := .lst (qs.map V.int)) hp
    have hrr : upd (upd H r (.lst [])) p (.lst (qs.map V.int)) r = some (.lst []) := s2 _ _ upd_same
    have nPr : p ≠ r := fun z => by rw [z, upd_same] at hp; cases hp
    have npr : p ≠ r := fun z => by rw [z, upd_same] at hp; cases hp
    have hp0 : H p = none := by rw [upd_ne npr] at hp; exact hp
    have sm := s1.trans s2
    have hpp : upd (upd H r (.lst [])) p (.lst (qs.map V.int)) p = some (.lst (qs.map V.int)) := upd_same
    generalize upd (upd H r (.lst [])) p (.lst (qs.map V.int)) = H0 at sm hrr hpp
    refine ⟨_, rfl, p, rfl, ⟨_, SqL.of hpp⟩, for_list (xs := qs.map V.int) (fun i σ' H1 => RepI CW CR H a dx e q r p D most qs ls ss ad reg unit i σ' H1) ?_ (fun i σ' H1 _ z => by obtain ⟨_, _, _, _, _, _, _, _, _, _, _, _, _, _, _, _, _, _, _, h, _⟩ := z; exact SqL.of h) ?_ ?_⟩
    · refine ⟨⟨[], qs, reg⟩, [], q, ad, _, _, _, rfl, rfl, sm _ _ ha, sm _ _ hq, .inl rfl, ne_of_none hq hr0, ne_of_none hq hp0, sm _ _ he, fun l hl => ?_, fun _ => .inl rfl, hinj, hrr, hpp, .nil, fun b o _ _ _ z => sm b o z, hls, by show qs.length ≤ 1000 + 0; omega, Nat.le_refl _, _, sm _ _ hq⟩
      obtain ⟨dl, el⟩ := hR l hl
      exact ⟨dl, sm _ _ el⟩
    · rintro i x σ' H1 hx ⟨st, rs, q', ad', u5, u6, u7, rfl, ht, h1a, h1q, hq', nqr, nqp, h1e, hR1, had, hij, h1r, h1p, hreps, fr, hsrc, hql1, hrl, oq, hoq⟩
      rw [List.getElem?_map] at hx
      cases el : qs[i]? with
      | none => rw [el] at hx; cases hx
      | some l =>
      rw [el] at hx
      cases hx
      obtain ⟨hi, eli⟩ := List.getElem?_eq_some_iff.mp el
      have hin : i < 1000 := by omega
      have hll : l ∈ ls := hql l (List.mem_of_getElem? el)
      rw [List.drop_eq_getElem_cons hi, eli] at ht
      have hlen := hreps.length
      walk_at "wn"
      by_cases hm : (st.reps.length : Int) = most
      · rw [decide_eq_true (by rw [hlen, hm])]
        walk_at "wn"
        have ht2 : st = takeAll unit most qs ⟨[], qs, reg⟩ := by
          rw [← ht]
          unfold takeAll
          rw [if_pos hm]
        refine ⟨_, rfl, ?_⟩
        exact k H1 r rs q' ad' h1a (ht2 ▸ h1q) hq' h1e (ht2 ▸ hR1) had hij hr0 (Ne.symm nqr) h1r (ht2 ▸ hreps) fr
      · rw [decide_eq_false fun z => hm (by rw [← hlen]; exact V.int.inj z)]
        walk_at "wn"
        have ht2 : takeAll unit most (qs.drop (i + 1)) (takeStep unit st l) = takeAll unit most qs ⟨[], qs, reg⟩ := by
          rw [← ht]
          conv => rhs; unfold takeAll
          rw [if_neg hm]
        have nDa : D ≠ a := ne_of hD ha (by intro z; cases z)
        have nDq : D ≠ q := ne_of hD hq (by intro z; cases z)
        have h1D := fr D _ nDa nDe nDq hD
        have ec : cutV (st.que.map V.int) (some 1) none = (st.que.drop 1).map V.int := by rw [cut_one, List.map_drop]
        refine ⟨_, rfl, a, CW, dx, _, _, rfl, h1a, T.cl, T.no _ (by decide), rfl, ?_⟩
        refine ⟨1, rfl, q', _, rfl, SqL.of h1q, fun p2 hp2 => ?_⟩
        rw [ec]
        have s3 := Same.new' (o := .lst ((st.que.drop 1).map V.int)) hp2
        have np2a : p2 ≠ a := fun z => by rw [z, h1a] at hp2; cases hp2
        have np2p : p2 ≠ p := fun z => by rw [z, h1p] at hp2; cases hp2
        have np2r : p2 ≠ r := fun z => by rw [z, h1r] at hp2; cases hp2
        refine ⟨_, rfl, a, CW, dx, _, rfl, s3 _ _ h1a, T.cl, T.no _ (by decide), by show 2 < 1000; decide, ?_⟩
        have h3a : upd (upd H1 p2 (.lst ((st.que.drop 1).map V.int))) a (.ins CW dx (putF "queue" (V.ref p2) [("entries", V.ref e), ("queue", V.ref q')])) a = some (wsO CW dx e p2) := upd_same
        have h3p : upd (upd H1 p2 (.lst ((st.que.drop 1).map V.int))) a (.ins CW dx (putF "queue" (V.ref p2) [("entries", V.ref e), ("queue", V.ref q')])) p2 = some (.lst ((st.que.drop 1).map V.int)) := by rw [upd_ne np2a, upd_same]
        have h3 : ∀ b o, b ≠ a → H1 b = some o → upd (upd H1 p2 (.lst ((st.que.drop 1).map V.int))) a (.ins CW dx (putF "queue" (V.ref p2) [("entries", V.ref e), ("queue", V.ref q')])) b = some o := fun b o n z => by rw [upd_ne n]; exact s3 _ _ z
        generalize upd (upd H1 p2 (.lst ((st.que.drop 1).map V.int))) a (.ins CW dx (putF "queue" (V.ref p2) [("entries", V.ref e), ("queue", V.ref q')])) = H3 at h3a h3p h3
        have h3e := h3 e _ (ne_of h1e h1a (by intro z; cases z)) h1e
        have h3D := h3 D _ nDa h1D
        have h3r := h3 r _ (ne_of h1r h1a (by intro z; cases z)) h1r
        have h3P := h3 p _ (ne_of h1p h1a (by intro z; cases z)) h1p
        have hR3 : RegsAt CR H3 ls ad' st.reg := fun j hj => by
          obtain ⟨dj, ej⟩ := hR1 j hj
          refine ⟨dj, h3 _ _ (fun z => ?_) ej⟩
          rw [z, h1a] at ej
          cases ej
        have hreps3 : Paired (RepAt H3) rs st.reps := reps_keep hreps fun b xs z => h3 b _ (ne_of z h1a (by intro z; cases z)) z
        have fr3 : ∀ b o, b ≠ a → b ≠ e → b ≠ q → H b = some o → H3 b = some o := fun b o n1 n2 n3 z => h3 b o n1 (fr b o n1 n2 n3 z)
        obtain ⟨dr, er⟩ := hR3 l hll
        have hsl : (st.reg l).src ∈ ss := hsrc l hll
        have hUl := hU _ hsl
        have h3U := fr3 _ _ (ne_of hUl ha (by intro z; cases z)) (ne_of hUl he (by intro z; cases z)) (ne_of hUl hq (by intro z; cases z)) hUl
        have hp2H : H p2 = none := by
          cases z : H p2 with
          | none => rfl
          | some o =>
            by_cases n2 : p2 = e
            · rw [n2, h1e] at hp2
              cases hp2
            · by_cases n3 : p2 = q
              · rw [n3, hoq] at hp2
                cases hp2
              · rw [fr p2 o np2a n2 n3 z] at hp2
                cases hp2
        have naq : q ≠ a := ne_of hq ha (by intro z; cases z)
        have neq : q ≠ e := ne_of hq he (by intro z; cases z)
        have np2q : q ≠ p2 := fun z => by rw [← z, hoq] at hp2; cases hp2
        have np2e : p2 ≠ e := fun z => by rw [z, h1e] at hp2; cases hp2
        have h3q := h3 q _ naq hoq
        have hv1 : valV (entKV ls ad') (Sum.inl l) = some (.ref (ad' l)) := by rw [ent_val, if_pos hll]
        have hv2 : valV (entKV ss adS) (Sum.inl (st.reg l).src) = some (.ref (adS (st.reg l).src)) := by rw [ent_val, if_pos hsl]
        have stl := step_len unit st l
        walk_at "wn"
        refine ⟨_, rfl, _, rfl, a, CW, dx, _, _, rfl, h3a, T.cl, T.no _ (by decide), rfl, ?_⟩
        refine ⟨_, rfl, e, _, rfl, hv1 ▸ DGet.k (k := Sum.inl l) h3e, ?_⟩
        refine ⟨ad' l, CR, dr, _, _, rfl, er, TR.cl, TR.no _ (by decide), rfl, ?_⟩
        refine ⟨D, _, rfl, hv2 ▸ DGet.k (k := Sum.inl (st.reg l).src) h3D, ?_⟩
        refine ⟨adS (st.reg l).src, _, rfl, SqT.of h3U, rfl, _, _, rfl, ?_⟩
        walk_at "wn"
        refine ⟨_, _, rfl, ?_⟩
        walk_at "wn"
        refine ⟨rfl, ?_⟩
        with_reducible refine' g_ifs ?_
        refine or_pure (b1 := decide (0 < (unit (st.reg l).src).1)) (b2 := (unit (st.reg l).src).2) (fun k q => ?_) (fun k q => ?_) ?_
        · exact ⟨_, rfl, _, _, rfl, rfl, _, rfl, q⟩
        · exact ⟨_, rfl, _, rfl, q⟩
        refine ite2 (fun hd => ?_) (fun hd => ?_)
        · have est : takeStep unit st l = ⟨st.reps ++ [(l, (unit (st.reg l).src).1, (unit (st.reg l).src).2)], if (st.reg l).word = "level" then st.que.drop 1 ++ [l] else st.que.drop 1, settled st.reg l⟩ := by
            unfold takeStep
            rw [if_pos hd]
          walk_at "wn"
          refine ⟨by show 3 ≤ sizeLine; decide, fun t nt => ?_⟩
          have s4 := Same.new' (o := .tup [V.int l, V.int (unit (st.reg l).src).1, V.bl (unit (st.reg l).src).2]) nt
          have h4t : upd H3 t (.tup [V.int l, V.int (unit (st.reg l).src).1, V.bl (unit (st.reg l).src).2]) t = some (.tup [V.int l, V.int (unit (st.reg l).src).1, V.bl (unit (st.reg l).src).2]) := upd_same
          generalize upd H3 t (.tup [V.int l, V.int (unit (st.reg l).src).1, V.bl (unit (st.reg l).src).2]) = H4 at s4 h4t
          have h4r := s4 _ _ h3r
          refine ⟨r, rs, _, rfl, rfl, h4r, by rw [sizeLine_eq]; omega, ?_⟩
          have s5 : ∀ b o, b ≠ r → H3 b = some o → upd H4 r (.lst (rs ++ [V.ref t])) b = some o := fun b o n z => by rw [upd_ne n]; exact s4 _ _ z
          have h5r : upd H4 r (.lst (rs ++ [V.ref t])) r = some (.lst (rs ++ [V.ref t])) := upd_same
          have h5t : upd H4 r (.lst (rs ++ [V.ref t])) t = some (.tup [V.int l, V.int (unit (st.reg l).src).1, V.bl (unit (st.reg l).src).2]) := by rw [upd_ne (ne_of h4t h4r (by intro z; cases z))]; exact h4t
          generalize upd H4 r (.lst (rs ++ [V.ref t])) = H5 at s5 h5r h5t
          have nra : a ≠ r := ne_of h3a h3r (by intro z; cases z)
          have nre : e ≠ r := ne_of h3e h3r (by intro z; cases z)
          have h5a := s5 _ _ nra h3a
          have h5e := s5 _ _ nre h3e
          have h5p := s5 _ _ np2r h3p
          have h5P := s5 _ _ nPr h3P
          have hR5 : RegsAt CR H5 ls ad' st.reg := fun j hj => by
            obtain ⟨dj, ej⟩ := hR3 j hj
            exact ⟨dj, s5 _ _ (ne_of ej h3r (by intro z; cases z)) ej⟩
          have hreps5 := reps_snoc (r := (l, (unit (st.reg l).src).1, (unit (st.reg l).src).2)) (reps_keep hreps3 fun b xs z => s5 b _ (ne_of z h3r (by intro z; cases z)) z) ⟨t, rfl, h5t⟩
          walk_at "wn"
          refine ⟨_, rfl, a, dx, _, rfl, h5a, rfl, ?_⟩
          walk_at "wn"
          refine ⟨a, dx, e, p2, l, st.que.drop 1, ls, ad', st.reg, rfl, h5a, h5p, h5e, hR5, hll, nWR, by rw [List.length_drop]; omega, by omega, fun H6 ad6 k1 k2 k3 k4 k5 k6 => ?_⟩
          have nae : a ≠ e := ne_of ha he (by intro z; cases z)
          have inj6 : ∀ j ∈ ls, ∀ j' ∈ ls, ad6 j = ad6 j' → j = j' := fun j hj j' hj' z => by
            have some5 : ∀ j ∈ ls, H5 (ad' j) ≠ none := fun j hj y => by
              obtain ⟨dj, ej⟩ := hR5 j hj
              rw [y] at ej
              cases ej
            by_cases e1 : j = l
            · by_cases e2 : j' = l
              · rw [e1, e2]
              · rw [k3 j' e2, e1] at z
                rcases k4 with y | y
                · exact hij j hj j' hj' (by rw [e1, ← y, z])
                · rw [z] at y
                  exact absurd y (some5 j' hj')
            · by_cases e2 : j' = l
              · rw [k3 j e1, e2] at z
                rcases k4 with y | y
                · exact hij j hj j' hj' (by rw [e2, ← y, z])
                · rw [← z] at y
                  exact absurd y (some5 j hj)
              · rw [k3 j e1, k3 j' e2] at z
                exact hij j hj j' hj' z
          refine ⟨_, rs ++ [V.ref t], p2, ad6, _, _, _, rfl, ht2, k6 _ _ nae (Ne.symm np2a) h5a, ?_, .inr hp2H, np2r, np2p, k1, ?_, fun j => ?_, inj6, k6 _ _ (Ne.symm nre) (Ne.symm np2r) h5r, k6 _ _ ?_ (Ne.symm np2p) h5P, ?_, fun b o n1 n2 n3 z => ?_, fun j hj => by rw [step_src]; exact hsrc j hj, by omega, by omega, oq, k6 _ _ neq np2q (s5 _ _ ?_ h3q)⟩
          · rw [est]
            exact k2
          · rw [est]
            exact k5
          · by_cases ej : j = l
            · rw [ej]
              rcases k4 with z | z
              · rw [z]
                exact had l
              · refine .inr ?_
                cases y : H (ad6 l) with
                | none => rfl
                | some o =>
                  exfalso
                  by_cases m1 : ad6 l = a
                  · rw [m1, h5a] at z
                    cases z
                  · by_cases m2 : ad6 l = e
                    · rw [m2, h5e] at z
                      cases z
                    · by_cases m3 : ad6 l = q
                      · rw [m3, s5 _ _ (ne_of_none hq hr0) h3q] at z
                        cases z
                      · rw [s5 _ _ (fun w => by rw [w, hr0] at y; cases y) (fr3 _ _ m1 m2 m3 y)] at z
                        cases z
            · rw [k3 j ej]
              exact had j
          · exact ne_of h1p h1e (by intro z; cases z)
          · rw [est]
            exact reps_keep hreps5 fun b xs z => k6 b _ (ne_of z h5e (by intro z; cases z)) (ne_of z h5p (by intro z; cases z)) z
          · refine k6 _ _ n2 (fun w => by rw [w, hp2H] at z; cases z) (s5 _ _ (fun w => by rw [w, hr0] at z; cases z) (fr3 _ _ n1 n2 n3 z))
          · exact ne_of_none hq hr0
        · have est : takeStep unit st l = ⟨st.reps, st.que.drop 1, st.reg⟩ := by
            unfold takeStep
            rw [if_neg hd]
          walk_at "wn"
          refine ⟨_, rs, p2, ad', _, _, _, rfl, ht2, h3a, by rw [est]; exact h3p, .inr hp2H, np2r, np2p, h3e, by rw [est]; exact hR3, had, hij, h3r, h3P, by rw [est]; exact hreps3, fr3, fun j hj => by rw [step_src]; exact hsrc j hj, by omega, by omega, oq, h3q⟩
    · rintro σ' H1 ⟨st, rs, q', ad', u5, u6, u7, rfl, ht, h1a, h1q, hq', nqr, nqp, h1e, hR1, had, hij, h1r, h1p, hreps, fr, hsrc, hql1, hrl, oq, hoq⟩
      have e0 : qs.drop (qs.map V.int).length = [] := by rw [List.length_map, List.drop_length]
      rw [e0] at ht
      have ht2 : st = takeAll unit most qs ⟨[], qs, reg⟩ := ht
      walk_at "wn"
      exact k H1 r rs q' ad' h1a (ht2 ▸ h1q) hq' h1e (ht2 ▸ hR1) had hij hr0 (Ne.symm nqr) h1r (ht2 ▸ hreps) fr
end

noncomputable abbrev sSysInit : Stmt := meth 31 2
noncomputable abbrev sNewSource : Stmt := meth 31 4
noncomputable abbrev sNewSet : Stmt := meth 31 5
noncomputable abbrev sArrive : Stmt := meth 31 10
noncomputable abbrev sRead : Stmt := meth 31 12
noncomputable abbrev sAdd : Stmt := meth 31 13
noncomputable abbrev sWait : Stmt := meth 31 16
noncomputable abbrev sRowOf : Stmt := meth 31 24
noncomputable abbrev sContains : Stmt := meth 31 30
noncomputable abbrev sTableOf : Stmt := meth 31 32
noncomputable abbrev sIsTabNum : Stmt := meth 31 33
noncomputable abbrev sThingAt : Stmt := meth 31 34
noncomputable abbrev sSourceAt : Stmt := meth 31 35
noncomputable abbrev sSetAt : Stmt := meth 31 36
noncomputable abbrev sFreeNum : Stmt := meth 31 37
noncomputable abbrev sNewThing : Stmt := meth 31 39
noncomputable abbrev sUnfinished : Stmt := meth 31 42
noncomputable abbrev sIsReady : Stmt := meth 31 43
noncomputable abbrev sNotify : Stmt := meth 31 45
/-! a system, its cells and what stands in them -/
inductive Cell
  | box | tabD | srcD | setD
  | tab (p : Int) | srcT (t : Int) | ws (s : Int) | ent (s : Int) | que (s : Int)
  | reg (s l : Int)
  deriving DecidableEq
structure Sys where
  P : Int
  N : Int
  next : Int
  procs : List Int
  tab : Int → List (Option Int)
  srcs : List Int
  unit : Int → Int × Bool
  sets : List Int
  ents : Int → List Int
  reg : Int → Int → Reg
  que : Int → List Int
noncomputable def live (S : Sys) : Cell → Prop
  | .box | .tabD | .srcD | .setD => True
  | .tab p => p ∈ S.procs
  | .srcT t => t ∈ S.srcs
  | .ws s | .ent s | .que s => s ∈ S.sets
  | .reg s l => s ∈ S.sets ∧ l ∈ S.ents s
noncomputable def optV : Option Int → V
  | none => .non
  | some t => .int t
noncomputable def sysO (CS dx : Addr) (S : Sys) (t s u : Addr) : HO := .ins CS dx [("process_limit", .int S.P), ("number_limit", .int S.N), ("tables", .ref t), ("sources", .ref s), ("sets", .ref u), ("next_thing", .int S.next)]
structure Cs where
  S : Addr
  W : Addr
  R : Addr
noncomputable def co (C : Cs) (S : Sys) (ad dx : Cell → Addr) : Cell → HO
  | .box => sysO C.S (dx .box) S (ad .tabD) (ad .srcD) (ad .setD)
  | .tabD => .dK (entKV S.procs fun p => ad (.tab p))
  | .srcD => .dK (entKV S.srcs fun t => ad (.srcT t))
  | .setD => .dK (entKV S.sets fun s => ad (.ws s))
  | .tab p => .lst ((S.tab p).map optV)
  | .srcT t => .tup [.int (S.unit t).1, .bl (S.unit t).2]
  | .ws s => wsO C.W (dx (.ws s)) (ad (.ent s)) (ad (.que s))
  | .ent s => .dK (entKV (S.ents s) fun l => ad (.reg s l))
  | .que s => .lst ((S.que s).map V.int)
  | .reg s l => regO C.R (dx (.reg s l)) (S.reg s l).num (S.reg s l).src (S.reg s l).word (S.reg s l).armed
structure At (C : Cs) (H : Hp) (S : Sys) (ad dx : Cell → Addr) : Prop where
  at_ : ∀ c, live S c → H (ad c) = some (co C S ad dx c)
  inj : ∀ c c', live S c → live S c' → ad c = ad c' → c = c'
noncomputable def own (S : Sys) (ad : Cell → Addr) (b : Addr) : Prop := ∃ c, live S c ∧ ad c = b
/-- what lies outside stays; what comes in is new -/
structure Step (H : Hp) (S : Sys) (ad : Cell → Addr) (H' : Hp) (S' : Sys) (ad' : Cell → Addr) : Prop where
  keep : ∀ b o, ¬ own S ad b → H b = some o → H' b = some o
  new : ∀ b, own S' ad' b → own S ad b ∨ H b = none
  box : ad' .box = ad .box
section
variable {C : Cs} {H H' H2 : Hp} {S S' S2 : Sys} {ad ad' ad2 dx dx' : Cell → Addr}
theorem Step.refl : Step H S ad H S ad := ⟨fun _ _ _ z => z, fun _ z => .inl z, rfl⟩
theorem Step.trans (a : Step H S ad H' S' ad') (b : Step H' S' ad' H2 S2 ad2) : Step H S ad H2 S2 ad2 := by
  refine ⟨fun x o n e => b.keep x o (fun z => ?_) (a.keep x o n e), fun x z => ?_, b.box.trans a.box⟩
  · rcases a.new x z with y | y
    · exact n y
    · rw [y] at e
      cases e
  · rcases b.new x z with y | y
    · exact a.new x y
    · cases e : H x with
      | none => exact .inr rfl
      | some o =>
        by_cases w : own S ad x
        · exact .inl w
        · rw [a.keep x o w e] at y
          cases y
theorem Step.same (s : Same H H') : Step H S ad H' S ad := ⟨fun b o _ e => s _ _ e, fun _ z => .inl z, rfl⟩
theorem At.same (A : At C H S ad dx) (s : Same H H') : At C H' S ad dx := ⟨fun c hc => s _ _ (A.at_ c hc), A.inj⟩
theorem At.ne (A : At C H S ad dx) {c c' : Cell} (h : live S c) (h' : live S c') (n : c ≠ c') : ad c ≠ ad c' := fun z => n (A.inj c c' h h' z)
theorem At.new (A : At C H S ad dx) {c : Cell} {l : Addr} (h : live S c) (n : H l = none) : ad c ≠ l := ne_of_none (A.at_ c h) n
/-- where the cells' addresses stay -/
theorem At.re (A : At C H S ad dx) (hl : ∀ c, live S' c ↔ live S c) (h : ∀ c, live S c → (H' (ad c) = some (co C S' ad dx c)) ∨ (co C S' ad dx c = co C S ad dx c ∧ H' (ad c) = H (ad c))) : At C H' S' ad dx := by
  refine ⟨fun c hc => ?_, fun c c' h1 h2 => A.inj c c' ((hl c).mp h1) ((hl c').mp h2)⟩
  have hc := (hl c).mp hc
  rcases h c hc with e | ⟨e1, e2⟩
  · exact e
  · rw [e1, e2]
    exact A.at_ c hc
theorem Step.re (hl : ∀ c, live S' c ↔ live S c) (h : ∀ b o, ¬ own S ad b → H b = some o → H' b = some o) : Step H S ad H' S' ad := ⟨h, fun b ⟨c, h1, h2⟩ => .inl ⟨c, (hl c).mp h1, h2⟩, rfl⟩
end
section
variable {P : Program} {w : World} {K : PySem.W.Frag} {mg : Str → Option Value} {base : Heap} {C : Cs}
structure MO (P : Program) (w : World) (K : PySem.W.Frag) (mg : Str → Option Value) (base : Heap) (k : Nat) (C : Addr) (m : Str) (ps : List Str) (sp : Sp) (f : Addr) (fd : FuncData) : Prop where
  g : FnOk P w K mg base CX0 k f fd ps sp
  m : Meth K C m f
  b : Binds K fd ps []
structure DO (P : Program) (w : World) (K : PySem.W.Frag) (mg : Str → Option Value) (base : Heap) (k : Nat) (x : Str) (ps : List Str) (sp : Sp) (f : Addr) (fd : FuncData) : Prop where
  g : FnOk P w K mg base CX0 k f fd ps sp
  k : PySem.W.keepIn K (.ref f) = true
  m : mg x = some (.ref f)
  b : Binds K fd ps []
/-- a call on a system -/
noncomputable def OnSys (C : Cs) (vs : List V) (H : Hp) (rest : List V) (k : Sys → (Cell → Addr) → (Cell → Addr) → Prop) : Prop := ∃ (S : Sys) (ad dx : Cell → Addr), vs = .ref (ad .box) :: rest ∧ At C H S ad dx ∧ k S ad dx
inductive PspContains (C : Cs) (vs : List V) (H : Hp) (Q : VK) : Prop
  | mk (p : Int) (S : Sys) (ad dx : Cell → Addr) (h_0 : vs = .ref (ad .box) :: [.int p]) (h_1 : At C H S ad dx) (h_2 : Q (.bl (decide (p ∈ S.procs))) H) : PspContains C vs H Q
noncomputable def spContains (C : Cs) : Sp := fun vs H Q _ => PspContains C vs H Q
theorem scContains : FnScope ["self", "x"] ["self", "x"] (defScope sContains) := ⟨rfl, rfl, rfl, by decide +kernel, rfl, by decide +kernel, by decide +kernel⟩
theorem okContains {f fI : Addr} {fd fdI : FuncData} (F : Fun K "__contains__" "System.__contains__" sContains f fd) (T : ClsF K C.S sysF) (GI : DO P w K mg base 1 "is_integer" ["x"] spIsInteger fI fdI) : FnOk P w K mg base CX0 2 f fd ["self", "x"] (spContains C) := by
  refine F.ok scContains (fun vs H Q E h => ?_) (fun cdv A outer s H vs Q E hr h => ?_)
  · obtain ⟨_, _, _, _, rfl, _⟩ := h
    rfl
  · obtain ⟨p, S, ad, dx, rfl, A0, k⟩ := h
    have hu := hu_of hr
    refine ⟨_, pss_one (ps_ret (pe_and (pe_call GI.g hr (by rfl) GI.m GI.k GI.b .nil pass0 (pa_cons (pv 1) pa_nil)) (pe_one (pe_cmp (pc_din hu (pv 1) (pe_fld (pv 0) rfl)) rfl)))), ?_⟩
    walk_at "wn"
    refine ⟨p, rfl, ?_⟩
    walk_at "wn"
    refine ⟨_, rfl, _, rfl, ad .box, C.S, dx .box, _, _, rfl, A0.at_ .box trivial, T.cl, T.no _ (by decide), rfl, ?_⟩
    refine ⟨ad .tabD, _, rfl, DGet.k (k := Sum.inl p) (A0.at_ .tabD trivial), ?_⟩
    rw [ent_val]
    by_cases hp : p ∈ S.procs
    · rw [if_pos hp]
      rw [decide_eq_true hp] at k
      exact k
    · rw [if_neg hp]
      rw [decide_eq_false hp] at k
      exact k
inductive PspTableOf (C : Cs) (vs : List V) (H : Hp) (Q : VK) : Prop
  | mk (p : Int) (S : Sys) (ad dx : Cell → Addr) (h_0 : vs = .ref (ad .box) :: [.int p]) (h_1 : At C H S ad dx) (h_2 : p ∈ S.procs) (h_3 : Q (.ref (ad (.tab p))) H) : PspTableOf C vs H Q
noncomputable def spTableOf (C : Cs) : Sp := fun vs H Q _ => PspTableOf C vs H Q
theorem scTableOf : FnScope ["self", "process"] ["self", "process"] (defScope sTableOf) := ⟨rfl, rfl, rfl, by decide +kernel, rfl, by decide +kernel, by decide +kernel⟩
theorem okTableOf {f fC : Addr} {fd fdC : FuncData} (F : Fun K "table_of" "System.table_of" sTableOf f fd) (T : ClsF K C.S sysF) (GC : MO P w K mg base 2 C.S "__contains__" ["self", "x"] (spContains C) fC fdC) : FnOk P w K mg base CX0 3 f fd ["self", "process"] (spTableOf C) := by
  refine F.ok scTableOf (fun vs H Q E h => ?_) (fun cdv A outer s H vs Q E hr h => ?_)
  · obtain ⟨_, _, _, _, rfl, _⟩ := h
    rfl
  · obtain ⟨p, S, ad, dx, rfl, A0, hp, k⟩ := h
    have hu := hu_of hr
    refine ⟨_, pss_cons (ps_if (pt_cmpR (op_ownNotIn GC.g hr GC.m.at_ GC.m.fn GC.b pass0) (pv 1) (pv 0) (by rfl)) (pss_one ps_never) pss_nil)
      (pss_one (ps_ret (pe_dget hu (pe_fld (pv 0) rfl) (pv 1) (fun _ _ => rfl)))), ?_⟩
    walk_at "wn"
    refine ⟨ad .box, dx .box, _, rfl, A0.at_ .box trivial, p, S, ad, dx, rfl, A0, _, rfl, ?_⟩
    rw [decide_eq_true hp]
    walk_at "wn"
    refine ⟨_, rfl, ad .box, C.S, dx .box, _, _, rfl, A0.at_ .box trivial, T.cl, T.no _ (by decide), rfl, ?_⟩
    have hv : valV (entKV S.procs fun p => ad (.tab p)) (Sum.inl p) = some (.ref (ad (.tab p))) := by rw [ent_val, if_pos hp]
    exact ⟨_, rfl, ad .tabD, _, rfl, hv ▸ DGet.k (k := Sum.inl p) (A0.at_ .tabD trivial), k⟩
inductive PspIsTabNum (C : Cs) (vs : List V) (H : Hp) (Q : VK) : Prop
  | mk (n : Int) (S : Sys) (ad dx : Cell → Addr) (h_0 : vs = .ref (ad .box) :: [.int n]) (h_1 : At C H S ad dx) (h_2 : Q (.bl (decide (0 ≤ n) && decide (n ≤ S.N - 1))) H) : PspIsTabNum C vs H Q
noncomputable def spIsTabNum (C : Cs) : Sp := fun vs H Q _ => PspIsTabNum C vs H Q
theorem scIsTabNum : FnScope ["self", "number"] ["self", "number"] (defScope sIsTabNum) := ⟨rfl, rfl, rfl, by decide +kernel, rfl, by decide +kernel, by decide +kernel⟩
theorem okIsTabNum {f fB : Addr} {fd fdB : FuncData} (F : Fun K "is_table_number" "System.is_table_number" sIsTabNum f fd) (T : ClsF K C.S sysF) (GB : DO P w K mg base 2 "is_between" ["x", "least", "most"] spIsBetween fB fdB) : FnOk P w K mg base CX0 3 f fd ["self", "number"] (spIsTabNum C) := by
  refine F.ok scIsTabNum (fun vs H Q E h => ?_) (fun cdv A outer s H vs Q E hr h => ?_)
  · obtain ⟨_, _, _, _, rfl, _⟩ := h
    rfl
  · obtain ⟨n, S, ad, dx, rfl, A0, k⟩ := h
    refine ⟨_, pss_one (ps_ret (pe_call GB.g hr (by rfl) GB.m GB.k GB.b .nil pass0 (pa_cons (pv 1) (pa_cons pe_int (pa_cons (pe_op op_sub (pe_fld (pv 0) rfl) pe_int) pa_nil))))), ?_⟩
    walk_at "wn"
    refine ⟨_, rfl, ad .box, C.S, dx .box, _, _, rfl, A0.at_ .box trivial, T.cl, T.no _ (by decide), rfl, ?_⟩
    walk_at "wn"
    exact ⟨n, 0, S.N - 1, rfl, k⟩
/-- a number that means a thing -/
structure Means (S : Sys) (p n t : Int) : Prop where
  pr : p ∈ S.procs
  lo : 0 ≤ n
  hi : n ≤ S.N - 1
  at_ : (S.tab p)[n.toNat]? = some (some t)
inductive PspThingAt (C : Cs) (vs : List V) (H : Hp) (Q : VK) : Prop
  | mk (p n t : Int) (S : Sys) (ad dx : Cell → Addr) (h_0 : vs = .ref (ad .box) :: [.int p, .int n]) (h_1 : At C H S ad dx) (h_2 : Means S p n t) (h_3 : Q (.int t) H) : PspThingAt C vs H Q
noncomputable def spThingAt (C : Cs) : Sp := fun vs H Q _ => PspThingAt C vs H Q
theorem scThingAt : FnScope ["self", "process", "number", "table"] ["self", "process", "number"] (defScope sThingAt) := ⟨rfl, rfl, rfl, by decide +kernel, rfl, by decide +kernel, by decide +kernel⟩
theorem okThingAt {f fT fN : Addr} {fd fdT fdN : FuncData} (F : Fun K "thing_at" "System.thing_at" sThingAt f fd) (T : ClsF K C.S sysF) (GT : MO P w K mg base 3 C.S "table_of" ["self", "process"] (spTableOf C) fT fdT) (GN : MO P w K mg base 3 C.S "is_table_number" ["self", "number"] (spIsTabNum C) fN fdN) :
    FnOk P w K mg base CX0 4 f fd ["self", "process", "number"] (spThingAt C) := by
  refine F.ok scThingAt (fun vs H Q E h => ?_) (fun cdv A outer s H vs Q E hr h => ?_)
  · obtain ⟨_, _, _, _, _, _, rfl, _⟩ := h
    rfl
  · obtain ⟨p, n, t, S, ad, dx, rfl, A0, M, k⟩ := h
    refine ⟨_, pss_cons (ps_set (i := 3) scThingAt.nd rfl (Or.inl rfl) (pe_meth (pv 0) T.cl GT.m GT.g hr GT.b .nil pass0 (pa_cons (pv 1) pa_nil)))
      (pss_cons (ps_if (PW.pt (pw_or (pt_not (pt_val (pe_meth (pv 0) T.cl GN.m GN.g hr GN.b .nil pass0 (pa_cons (pv 2) pa_nil)))) (pw_or1 (pt_cmpR oIsN (pe_ix ix_list (pv 3) (pv 2) (fun _ _ => rfl)) pe_non (nomark _))))) (pss_one ps_never) pss_nil)
      (pss_one (ps_ret (pe_ix ix_list (pv 3) (pv 2) (fun _ _ => rfl))))), ?_⟩
    have hb := A0.at_ .box trivial
    have ht := A0.at_ (.tab p) M.pr
    obtain ⟨m, hm⟩ := Int.eq_ofNat_of_zero_le M.lo
    have hat : atI ((S.tab p).map optV) n = some (V.int t) := by
      have e := M.at_
      rw [hm] at e ⊢
      refine atI_nat ?_
      rw [List.getElem?_map, show (S.tab p)[m]? = some (some t) from e]
      rfl
    walk_at "wn"
    refine ⟨_, rfl, ad .box, dx .box, _, rfl, hb, rfl, ?_⟩
    walk_at "wn"
    refine ⟨p, S, ad, dx, rfl, A0, M.pr, ?_⟩
    walk_at "wn"
    refine ⟨_, rfl, ad .box, dx .box, _, rfl, hb, rfl, ?_⟩
    walk_at "wn"
    refine ⟨n, S, ad, dx, rfl, A0, ?_⟩
    dsimp only
    rw [decide_eq_true M.lo, decide_eq_true M.hi]
    walk_at "wn"
    refine ⟨_, rfl, ?_⟩
    walk_at "wn"
    refine ⟨ad (.tab p), _, n, _, rfl, rfl, SqL.of ht, hat, ?_⟩
    walk_at "wn"
    have e : decide (V.int t = V.non) = false := decide_eq_false fun z => nomatch z
    rw [e]
    walk_at "wn"
    exact ⟨ad (.tab p), _, n, _, rfl, rfl, SqL.of ht, hat, k⟩
inductive PspSourceAt (C : Cs) (vs : List V) (H : Hp) (Q : VK) : Prop
  | mk (p n t : Int) (S : Sys) (ad dx : Cell → Addr) (h_0 : vs = .ref (ad .box) :: [.int p, .int n]) (h_1 : At C H S ad dx) (h_2 : Means S p n t) (h_3 : t ∈ S.srcs) (h_4 : Q (.int t) H) : PspSourceAt C vs H Q
noncomputable def spSourceAt (C : Cs) : Sp := fun vs H Q _ => PspSourceAt C vs H Q
theorem scSourceAt : FnScope ["self", "process", "number", "thing"] ["self", "process", "number"] (defScope sSourceAt) := ⟨rfl, rfl, rfl, by decide +kernel, rfl, by decide +kernel, by decide +kernel⟩
theorem okSourceAt {f fT : Addr} {fd fdT : FuncData} (F : Fun K "source_at" "System.source_at" sSourceAt f fd) (T : ClsF K C.S sysF) (GT : MO P w K mg base 4 C.S "thing_at" ["self", "process", "number"] (spThingAt C) fT fdT) :
    FnOk P w K mg base CX0 5 f fd ["self", "process", "number"] (spSourceAt C) := by
  refine F.ok scSourceAt (fun vs H Q E h => ?_) (fun cdv A outer s H vs Q E hr h => ?_)
  · obtain ⟨_, _, _, _, _, _, rfl, _⟩ := h
    rfl
  · obtain ⟨p, n, t, S, ad, dx, rfl, A0, M, ht, k⟩ := h
    have hu := hu_of hr
    refine ⟨_, pss_cons (ps_set (i := 3) scSourceAt.nd rfl (Or.inl rfl) (pe_meth (pv 0) T.cl GT.m GT.g hr GT.b .nil pass0 (pa_cons (pv 1) (pa_cons (pv 2) pa_nil))))
      (pss_cons (ps_if (pt_cmp (pc_dnotin hu (pv 3) (pe_fld (pv 0) rfl)) rfl) (pss_one ps_never) pss_nil)
      (pss_one (ps_ret (pv 3)))), ?_⟩
    have hb := A0.at_ .box trivial
    walk_at "wn"
    refine ⟨_, rfl, ad .box, dx .box, _, rfl, hb, rfl, ?_⟩
    walk_at "wn"
    refine ⟨p, n, t, S, ad, dx, rfl, A0, M, ?_⟩
    walk_at "wn"
    refine ⟨_, rfl, _, rfl, ad .box, C.S, dx .box, _, _, rfl, hb, T.cl, T.no _ (by decide), rfl, ?_⟩
    refine ⟨ad .srcD, _, rfl, DGet.k (k := Sum.inl t) (A0.at_ .srcD trivial), ?_⟩
    rw [ent_val, if_pos ht]
    refine ⟨_, rfl, ?_⟩
    show if false = true then _ else _
    walk_at "wn"
    exact k
inductive PspSetAt (C : Cs) (vs : List V) (H : Hp) (Q : VK) : Prop
  | mk (p n t : Int) (S : Sys) (ad dx : Cell → Addr) (h_0 : vs = .ref (ad .box) :: [.int p, .int n]) (h_1 : At C H S ad dx) (h_2 : Means S p n t) (h_3 : t ∈ S.sets) (h_4 : Q (.ref (ad (.ws t))) H) : PspSetAt C vs H Q
noncomputable def spSetAt (C : Cs) : Sp := fun vs H Q _ => PspSetAt C vs H Q
theorem scSetAt : FnScope ["self", "process", "set_number", "thing"] ["self", "process", "set_number"] (defScope sSetAt) := ⟨rfl, rfl, rfl, by decide +kernel, rfl, by decide +kernel, by decide +kernel⟩
theorem okSetAt {f fT : Addr} {fd fdT : FuncData} (F : Fun K "set_at" "System.set_at" sSetAt f fd) (T : ClsF K C.S sysF) (GT : MO P w K mg base 4 C.S "thing_at" ["self", "process", "number"] (spThingAt C) fT fdT) :
    FnOk P w K mg base CX0 5 f fd ["self", "process", "set_number"] (spSetAt C) := by
  refine F.ok scSetAt (fun vs H Q E h => ?_) (fun cdv A outer s H vs Q E hr h => ?_)
  · obtain ⟨_, _, _, _, _, _, rfl, _⟩ := h
    rfl
  · obtain ⟨p, n, t, S, ad, dx, rfl, A0, M, ht, k⟩ := h
    have hu := hu_of hr
    refine ⟨_, pss_cons (ps_set (i := 3) scSetAt.nd rfl (Or.inl rfl) (pe_meth (pv 0) T.cl GT.m GT.g hr GT.b .nil pass0 (pa_cons (pv 1) (pa_cons (pv 2) pa_nil))))
      (pss_cons (ps_if (pt_cmp (pc_dnotin hu (pv 3) (pe_fld (pv 0) rfl)) rfl) (pss_one ps_never) pss_nil)
      (pss_one (ps_ret (pe_dget hu (pe_fld (pv 0) rfl) (pv 3) (fun _ _ => rfl))))), ?_⟩
    have hb := A0.at_ .box trivial
    walk_at "wn"
    refine ⟨_, rfl, ad .box, dx .box, _, rfl, hb, rfl, ?_⟩
    walk_at "wn"
    refine ⟨p, n, t, S, ad, dx, rfl, A0, M, ?_⟩
    walk_at "wn"
    have hv : valV (entKV S.sets fun s => ad (.ws s)) (Sum.inl t) = some (.ref (ad (.ws t))) := by rw [ent_val, if_pos ht]
    refine ⟨_, rfl, _, rfl, ad .box, C.S, dx .box, _, _, rfl, hb, T.cl, T.no _ (by decide), rfl, ?_⟩
    refine ⟨ad .setD, _, rfl, DGet.k (k := Sum.inl t) (A0.at_ .setD trivial), ?_⟩
    rw [ent_val, if_pos ht]
    refine ⟨_, rfl, ?_⟩
    show if false = true then _ else _
    walk_at "wn"
    refine ⟨_, rfl, ad .box, C.S, dx .box, _, _, rfl, hb, T.cl, T.no _ (by decide), rfl, ?_⟩
    exact ⟨_, rfl, ad .setD, _, rfl, hv ▸ DGet.k (k := Sum.inl t) (A0.at_ .setD trivial), k⟩
/-! free_number -/
noncomputable def firstFree (t : List (Option Int)) (n : Nat) : Prop := t[n]? = some none ∧ ∀ i, i < n → ∃ x, t[i]? = some (some x)
inductive PspFreeNum (C : Cs) (vs : List V) (H : Hp) (Q : VK) : Prop
  | mk (p : Int) (n : Nat) (S : Sys) (ad dx : Cell → Addr) (h_0 : vs = .ref (ad .box) :: [.int p]) (h_1 : At C H S ad dx) (h_2 : p ∈ S.procs) (h_3 : firstFree (S.tab p) n) (h_4 : (S.tab p).length ≤ 1000) (h_5 : ∀ H', Same H H' → Q (.int (n : Int)) H') : PspFreeNum C vs H Q
noncomputable def spFreeNum (C : Cs) : Sp := fun vs H Q _ => PspFreeNum C vs H Q
theorem scFreeNum : FnScope ["self", "process", "number", "thing"] ["self", "process"] (defScope sFreeNum) := ⟨rfl, rfl, rfl, by decide +kernel, rfl, by decide +kernel, by decide +kernel⟩
structure SysTxt (mg : Str → Option Value) : Prop where
  enum : mg "enumerate" = none
  list : mg "list" = none
  min : mg "min" = none
theorem okFreeNum {f fT : Addr} {fd fdT : FuncData} (F : Fun K "free_number" "System.free_number" sFreeNum f fd) (X : SysTxt mg) (T : ClsF K C.S sysF) (GT : MO P w K mg base 3 C.S "table_of" ["self", "process"] (spTableOf C) fT fdT) :
    FnOk P w K mg base CX0 4 f fd ["self", "process"] (spFreeNum C) := by
  refine F.ok scFreeNum (fun vs H Q E h => ?_) (fun cdv A outer s H vs Q E hr h => ?_)
  · obtain ⟨_, _, _, _, _, rfl, _⟩ := h
    rfl
  · obtain ⟨p, n, S, ad, dx, rfl, A0, hp, hf, hl, k⟩ := h
    refine ⟨_, pss_cons (ps_for PassesOwn.never rfl (pi_enum (by rfl) X.enum (pa_cons (pe_meth (pv 0) T.cl GT.m GT.g hr GT.b .nil pass0 (pa_cons (pv 1) pa_nil)) pa_nil)) (pg_tup rfl (pgs_cons (pg_name (i := 2) scFreeNum.nd rfl (Or.inl rfl)) (pgs_cons (pg_name (i := 3) scFreeNum.nd rfl (Or.inl rfl)) pgs_nil)))
        (pss_one (ps_if (pt_cmpR oIsN (pv 3) pe_non (nomark _)) (pss_one (ps_ret (pv 2))) pss_nil)))
      (pss_one ps_never), ?_⟩
    have hb := A0.at_ .box trivial
    have ht := A0.at_ (.tab p) hp
    refine ⟨_, rfl, ad .box, dx .box, _, rfl, hb, rfl, ?_⟩
    walk_at "wn"
    refine ⟨p, S, ad, dx, rfl, A0, hp, ?_⟩
    refine ⟨ad (.tab p), _, rfl, SqL.of ht, ?_⟩
    have hn : n < (S.tab p).length := (List.getElem?_eq_some_iff.mp hf.1).1
    refine for_it (walk_enum (xs := (S.tab p).map optV)) (fun i σ' H1 => ∃ u v : Option V, σ' = [some (.ref (ad .box)), some (.int p), u, v] ∧ Same H H1 ∧ i ≤ n) ⟨_, _, rfl, Same.refl _, Nat.zero_le _⟩ (fun i σ' H1 _ ⟨_, _, _, sm, _⟩ => Same.seq sm (SqL.of ht)) ?_ ?_
    · rintro i x σ' H1 H2 hi ⟨u, v, rfl, sm, hin⟩ ⟨T1, x1, y1, rfl, nT, rfl, ex, ey⟩
      have smT := sm.trans (Same.new' (o := .tup [x1, y1]) nT)
      obtain rfl := Option.some.inj ex
      have ey : ((S.tab p).map optV)[i]? = some y1 := ey
      rw [List.getElem?_map] at ey
      refine ⟨T1, _, rfl, SqT.of upd_same, rfl, _, _, rfl, ?_⟩
      walk_at "wn"
      refine ⟨_, _, rfl, ?_⟩
      walk_at "wn"
      refine ⟨rfl, ?_⟩
      walk_at "wn"
      rcases Nat.lt_or_ge i n with z | z
      · obtain ⟨t, et⟩ := hf.2 i z
        rw [et] at ey
        cases ey
        have e : decide (optV (some t) = V.non) = false := decide_eq_false fun z => nomatch z
        rw [e]
        walk_at "wn"
        exact ⟨_, _, rfl, smT, z⟩
      · obtain rfl : i = n := by omega
        rw [hf.1] at ey
        cases ey
        have e : decide (optV none = V.non) = true := decide_eq_true rfl
        rw [e]
        walk_at "wn"
        exact k _ smT
    · rintro σ' H1 ⟨u, v, rfl, sm, hin⟩
      rw [List.length_map] at hin
      exact absurd hin (by omega)
end

section
variable {C : Cs} {H H' H2 : Hp} {S S' S2 : Sys} {ad ad' ad2 dx dx' : Cell → Addr}
/-- some cells are written, made or stand elsewhere; the others stay -/
theorem At.re3 (ch : List Cell) (A : At C H S ad dx) (hl : ∀ c, live S' c → c ∈ ch ∨ live S c) (h1 : ∀ c ∈ ch, live S' c → H' (ad' c) = some (co C S' ad' dx' c)) (h2 : ∀ c, c ∉ ch → live S c → ad' c = ad c ∧ co C S' ad' dx' c = co C S ad dx c)
    (fresh : ∀ c ∈ ch, live S' c → (ad' c = ad c ∧ live S c) ∨ H (ad' c) = none) (dist : ∀ c ∈ ch, ∀ c' ∈ ch, live S' c → live S' c' → H (ad' c) = none → ad' c = ad' c' → c = c')
    (k : ∀ b o, (∀ c ∈ ch, live S c → b ≠ ad c) → H b = some o → H' b = some o) (box : ad' .box = ad .box) : At C H' S' ad' dx' ∧ Step H S ad H' S' ad' := by
  have out : ∀ c, c ∉ ch → live S' c → live S c := fun c hc l => (hl c l).resolve_left hc
  have keep : ∀ c, c ∉ ch → live S c → H' (ad c) = H (ad c) := fun c hc l => by
    rw [A.at_ c l]
    exact k _ _ (fun c' hc' l' z => hc (by rw [A.inj c c' l l' z]; exact hc')) (A.at_ c l)
  refine ⟨⟨fun c l => ?_, fun c c' l l' z => ?_⟩, ⟨fun b o n e => k b o (fun c hc lc z => n ⟨c, lc, z.symm⟩) e, fun b ⟨c, l, e⟩ => ?_, box⟩⟩
  · by_cases hc : c ∈ ch
    · exact h1 c hc l
    · have ls := out c hc l
      obtain ⟨e1, e2⟩ := h2 c hc ls
      rw [e1, e2, keep c hc ls]
      exact A.at_ c ls
  · have some_ : ∀ c, c ∉ ch → live S' c → H (ad' c) ≠ none := fun c hc l z => by
      have ls := out c hc l
      rw [(h2 c hc ls).1, A.at_ c ls] at z
      cases z
    by_cases hc : c ∈ ch
    · by_cases hc' : c' ∈ ch
      · rcases fresh c hc l with f | f
        · rcases fresh c' hc' l' with f' | f'
          · exact A.inj c c' f.2 f'.2 (by rw [← f.1, ← f'.1, z])
          · rw [← z, f.1, A.at_ c f.2] at f'
            cases f'
        · exact dist c hc c' hc' l l' f z
      · rcases fresh c hc l with f | f
        · have ls := out c' hc' l'
          exact A.inj c c' f.2 ls (by rw [← f.1, z, (h2 c' hc' ls).1])
        · rw [z] at f
          exact absurd f (some_ c' hc' l')
    · have ls := out c hc l
      by_cases hc' : c' ∈ ch
      · rcases fresh c' hc' l' with f | f
        · exact A.inj c c' ls f.2 (by rw [← f.1, ← z, (h2 c hc ls).1])
        · rw [← z] at f
          exact absurd f (some_ c hc l)
      · have ls' := out c' hc' l'
        exact A.inj c c' ls ls' (by rw [← (h2 c hc ls).1, z, (h2 c' hc' ls').1])
  · by_cases hc : c ∈ ch
    · rcases fresh c hc l with f | f
      · exact .inl ⟨c, f.2, by rw [← f.1]; exact e⟩
      · rw [e] at f
        exact .inr f
    · have ls := out c hc l
      exact .inl ⟨c, ls, by rw [← (h2 c hc ls).1]; exact e⟩
/-- where the addresses stay -/
theorem At.re2 (ch : List Cell) (A : At C H S ad dx) (hl : ∀ c, live S' c → live S c) (lv : ∀ c ∈ ch, live S c) (h1 : ∀ c ∈ ch, H' (ad c) = some (co C S' ad dx c)) (h2 : ∀ c, c ∉ ch → live S c → co C S' ad dx c = co C S ad dx c)
    (k : ∀ b o, (∀ c ∈ ch, b ≠ ad c) → H b = some o → H' b = some o) : At C H' S' ad dx ∧ Step H S ad H' S' ad :=
  At.re3 ch A (fun c l => .inr (hl c l)) (fun c hc _ => h1 c hc) (fun c hc l => ⟨rfl, h2 c hc l⟩) (fun c hc l => .inl ⟨rfl, hl c l⟩) (fun c hc c' hc' l l' _ z => A.inj c c' (hl c l) (hl c' l') z)
    (fun b o n e => k b o (fun c hc => n c hc (lv c hc)) e) rfl
theorem At.not_own (A : At C H S ad dx) {l : Addr} (n : H l = none) : ¬ own S ad l := fun ⟨c, h, e⟩ => by
  rw [← e, A.at_ c h] at n
  cases n
end
theorem nodup_idx {α : Type} : ∀ {l : List α} {i j : Nat} {a : α}, l.Nodup → l[i]? = some a → l[j]? = some a → i = j
  | [], i, _, _, _, h, _ => by simp at h
  | _ :: _, 0, 0, _, _, _, _ => rfl
  | x :: l, 0, j + 1, a, nd, h, h' => by
    obtain rfl : x = a := by simpa using h
    exact absurd (List.mem_of_getElem? (show l[j]? = some x from h')) (List.nodup_cons.mp nd).1
  | x :: l, i + 1, 0, a, nd, h, h' => by
    obtain rfl : x = a := by simpa using h'
    exact absurd (List.mem_of_getElem? (show l[i]? = some x from h)) (List.nodup_cons.mp nd).1
  | x :: l, i + 1, j + 1, a, nd, h, h' => by rw [nodup_idx (List.nodup_cons.mp nd).2 (show l[i]? = some a from h) (show l[j]? = some a from h')]
noncomputable def newThing (S : Sys) (p : Int) (n : Nat) : Sys := { S with next := S.next + 1, tab := fun q => if q = p then (S.tab p).set n (some S.next) else S.tab q }
section
variable {P : Program} {w : World} {K : PySem.W.Frag} {mg : Str → Option Value} {base : Heap} {C : Cs}
inductive PspNewThing (C : Cs) (vs : List V) (H : Hp) (Q : VK) : Prop
  | mk (p : Int) (n : Nat) (S : Sys) (ad dx : Cell → Addr) (h_0 : vs = .ref (ad .box) :: [.int p]) (h_1 : At C H S ad dx) (h_2 : p ∈ S.procs) (h_3 : firstFree (S.tab p) n) (h_4 : (S.tab p).length ≤ 1000) (h_5 : ∀ H' T, H T = none → H' T = some (.tup [.int (n : Int), .int S.next]) → At C H' (newThing S p n) ad dx → Step H S ad H' (newThing S p n) ad → Q (.ref T) H') : PspNewThing C vs H Q
noncomputable def spNewThing (C : Cs) : Sp := fun vs H Q _ => PspNewThing C vs H Q
theorem scNewThing : FnScope ["self", "process", "number", "thing"] ["self", "process"] (defScope sNewThing) := ⟨rfl, rfl, rfl, by decide +kernel, rfl, by decide +kernel, by decide +kernel⟩
theorem okNewThing {f fF : Addr} {fd fdF : FuncData} (F : Fun K "new_thing" "System.new_thing" sNewThing f fd) (T : ClsF K C.S sysF) (GF : MO P w K mg base 4 C.S "free_number" ["self", "process"] (spFreeNum C) fF fdF) :
    FnOk P w K mg base CX0 5 f fd ["self", "process"] (spNewThing C) := by
  refine F.ok scNewThing (fun vs H Q E h => ?_) (fun cdv A outer s H vs Q E hr h => ?_)
  · obtain ⟨_, _, _, _, _, rfl, _⟩ := h
    rfl
  · obtain ⟨p, n, S, ad, dx, rfl, A0, hp, hf, hl, k⟩ := h
    have hu := hu_of hr
    refine ⟨_, pss_cons (ps_set (i := 2) scNewThing.nd rfl (Or.inl rfl) (pe_meth (pv 0) T.cl GF.m GF.g hr GF.b .nil pass0 (pa_cons (pv 1) pa_nil)))
      (pss_cons (ps_set (i := 3) scNewThing.nd rfl (Or.inl rfl) (pe_fld (pv 0) rfl))
      (pss_cons (ps_fldaug (pv 0) pe_int in_add)
      (pss_cons (ps_asg (pv 3) (pg_sub (pe_dget hu (pe_fld (pv 0) rfl) (pv 1) (fun _ _ => rfl)) (pv 2) set_list))
      (pss_one (ps_ret (pe_tup (pa_cons (pv 2) (pa_cons (pv 3) pa_nil)))))))), ?_⟩
    walk_at "wn"
    refine ⟨_, rfl, ad .box, dx .box, _, rfl, A0.at_ .box trivial, rfl, ?_⟩
    walk_at "wn"
    refine ⟨p, n, S, ad, dx, rfl, A0, hp, hf, hl, fun H1 s1 => ?_⟩
    have A1 := A0.same s1
    have hb := A1.at_ .box trivial
    have ht := A1.at_ (.tab p) hp
    have nbt : ad .box ≠ ad (.tab p) := A1.ne (c := .box) (c' := .tab p) trivial hp (by intro z; cases z)
    have nbd : ad .tabD ≠ ad .box := A1.ne (c := .tabD) (c' := .box) trivial trivial (by intro z; cases z)
    walk_at "wn"
    refine ⟨_, rfl, ad .box, C.S, dx .box, _, _, rfl, hb, T.cl, T.no _ (by decide), rfl, ?_⟩
    walk_at "wn"
    refine ⟨_, rfl, ad .box, C.S, dx .box, _, _, rfl, hb, T.cl, T.no _ (by decide), rfl, ?_⟩
    refine ⟨_, _, rfl, rfl, ?_⟩
    refine ⟨_, _, hb, by show 6 < 1000; decide, ?_⟩
    walk_at "wn"
    have hv : valV (entKV S.procs fun p => ad (.tab p)) (Sum.inl p) = some (.ref (ad (.tab p))) := by rw [ent_val, if_pos hp]
    refine ⟨_, rfl, ad .box, C.S, dx .box, _, _, rfl, upd_same, T.cl, T.no _ (by decide), rfl, ?_⟩
    refine ⟨_, rfl, ad .tabD, _, rfl, hv ▸ DGet.k (k := Sum.inl p) (by rw [upd_ne nbd]; exact A1.at_ .tabD trivial), ?_⟩
    have hn : n < (S.tab p).length := (List.getElem?_eq_some_iff.mp hf.1).1
    refine ⟨_, rfl, ad (.tab p), _, _, n, rfl, rfl, by rw [upd_ne (Ne.symm nbt)]; exact ht, by rw [List.length_map]; exact ixN_nat hn, ?_⟩
    walk_at "wn"
    refine ⟨by show 2 ≤ sizeLine; decide, fun T1 hT => ?_⟩
    have nTt : T1 ≠ ad (.tab p) := fun z => by rw [z, upd_same] at hT; cases hT
    rw [upd_ne nTt] at hT
    have nTb : T1 ≠ ad .box := fun z => by rw [z, upd_same] at hT; cases hT
    rw [upd_ne nTb] at hT
    refine (fun z : At C _ _ _ _ ∧ Step _ _ _ _ _ _ => k _ T1 (s1.free hT) upd_same z.1 ((Step.same s1).trans z.2)) ?_
    refine At.re2 [.box, .tab p] A1 (fun c l => by cases c <;> exact l) (fun c hc => ?_) (fun c hc => ?_) (fun c hc l => ?_) (fun b o n e => ?_)
    · simp only [List.mem_cons, List.not_mem_nil, or_false] at hc
      rcases hc with rfl | rfl
      · exact trivial
      · exact hp
    · simp only [List.mem_cons, List.not_mem_nil, or_false] at hc
      rcases hc with rfl | rfl
      · rw [upd_ne (Ne.symm nTb), upd_ne nbt, upd_same]
        rfl
      · rw [upd_ne (Ne.symm nTt), upd_same]
        show _ = some (HO.lst ((if p = p then (S.tab p).set n (some S.next) else S.tab p).map optV))
        rw [if_pos rfl, List.map_set]
        rfl
    · cases c with
      | box => exact absurd List.mem_cons_self hc
      | tab q =>
        have nq : q ≠ p := fun z => hc (by rw [z]; simp)
        show HO.lst ((if q = p then (S.tab p).set n (some S.next) else S.tab q).map optV) = _
        rw [if_neg nq]
        rfl
      | _ => rfl
    · have n1 := n .box (by simp)
      have n2 := n (.tab p) (by simp)
      rw [upd_ne (ne_of_none e hT), upd_ne n2, upd_ne n1]
      exact e
/-! unread_of_unfinished, is_ready -/
inductive PspUnfinished (C : Cs) (vs : List V) (H : Hp) (Q : VK) : Prop
  | mk (t n : Int) (S : Sys) (ad dx : Cell → Addr) (h_0 : vs = .ref (ad .box) :: [.int t, .int n]) (h_1 : At C H S ad dx) (h_2 : t ∈ S.srcs) (h_3 : (S.unit t).2 = false) (h_4 : Q (.int (S.unit t).1) H) : PspUnfinished C vs H Q
noncomputable def spUnfinished (C : Cs) : Sp := fun vs H Q _ => PspUnfinished C vs H Q
theorem scUnfinished : FnScope ["self", "source", "number", "unread", "finished"] ["self", "source", "number"] (defScope sUnfinished) := ⟨rfl, rfl, rfl, by decide +kernel, rfl, by decide +kernel, by decide +kernel⟩
theorem okUnfinished {f : Addr} {fd : FuncData} (F : Fun K "unread_of_unfinished" "System.unread_of_unfinished" sUnfinished f fd) (T : ClsF K C.S sysF) : FnOk P w K mg base CX0 1 f fd ["self", "source", "number"] (spUnfinished C) := by
  refine F.ok scUnfinished (fun vs H Q E h => ?_) (fun cdv A outer s H vs Q E hr h => ?_)
  · obtain ⟨_, _, _, _, _, rfl, _⟩ := h
    rfl
  · obtain ⟨t, n, S, ad, dx, rfl, A0, ht, hf, k⟩ := h
    have hu := hu_of hr
    refine ⟨_, pss_cons (ps_asg (pe_dget hu (pe_fld (pv 0) rfl) (pv 1) (fun _ _ => rfl)) (pg_tup rfl (pgs_cons (pg_name (i := 3) scUnfinished.nd rfl (Or.inl rfl)) (pgs_cons (pg_name (i := 4) scUnfinished.nd rfl (Or.inl rfl)) pgs_nil))))
      (pss_cons (ps_if (pt_val (pv 4)) (pss_one ps_never) pss_nil) (pss_one (ps_ret (pv 3)))), ?_⟩
    have hv : valV (entKV S.srcs fun t => ad (.srcT t)) (Sum.inl t) = some (.ref (ad (.srcT t))) := by rw [ent_val, if_pos ht]
    walk_at "wn"
    refine ⟨_, rfl, ad .box, C.S, dx .box, _, _, rfl, A0.at_ .box trivial, T.cl, T.no _ (by decide), rfl, ?_⟩
    refine ⟨_, rfl, ad .srcD, _, rfl, hv ▸ DGet.k (k := Sum.inl t) (A0.at_ .srcD trivial), ?_⟩
    refine ⟨ad (.srcT t), _, rfl, SqT.of (A0.at_ (.srcT t) ht), rfl, _, _, rfl, ?_⟩
    walk_at "wn"
    refine ⟨_, _, rfl, ?_⟩
    walk_at "wn"
    refine ⟨rfl, ?_⟩
    walk_at "wn"
    rw [hf]
    walk_at "wn"
    exact k
noncomputable def ready (S : Sys) (t : Int) : Bool := decide (0 < (S.unit t).1) || (S.unit t).2
inductive PspIsReady (C : Cs) (vs : List V) (H : Hp) (Q : VK) : Prop
  | mk (t : Int) (S : Sys) (ad dx : Cell → Addr) (h_0 : vs = .ref (ad .box) :: [.int t]) (h_1 : At C H S ad dx) (h_2 : t ∈ S.srcs) (h_3 : Q (.bl (ready S t)) H) : PspIsReady C vs H Q
noncomputable def spIsReady (C : Cs) : Sp := fun vs H Q _ => PspIsReady C vs H Q
theorem scIsReady : FnScope ["self", "source", "unread", "finished"] ["self", "source"] (defScope sIsReady) := ⟨rfl, rfl, rfl, by decide +kernel, rfl, by decide +kernel, by decide +kernel⟩
theorem okIsReady {f : Addr} {fd : FuncData} (F : Fun K "is_ready" "System.is_ready" sIsReady f fd) (T : ClsF K C.S sysF) : FnOk P w K mg base CX0 1 f fd ["self", "source"] (spIsReady C) := by
  refine F.ok scIsReady (fun vs H Q E h => ?_) (fun cdv A outer s H vs Q E hr h => ?_)
  · obtain ⟨_, _, _, _, rfl, _⟩ := h
    rfl
  · obtain ⟨t, S, ad, dx, rfl, A0, ht, k⟩ := h
    have hu := hu_of hr
    refine ⟨_, pss_cons (ps_asg (pe_dget hu (pe_fld (pv 0) rfl) (pv 1) (fun _ _ => rfl)) (pg_tup rfl (pgs_cons (pg_name (i := 2) scIsReady.nd rfl (Or.inl rfl)) (pgs_cons (pg_name (i := 3) scIsReady.nd rfl (Or.inl rfl)) pgs_nil))))
      (pss_one (ps_ret (pe_or (pe_cmpR op_gt (pv 2) pe_int (nomark _)) (pe_one (pv 3))))), ?_⟩
    have hv : valV (entKV S.srcs fun t => ad (.srcT t)) (Sum.inl t) = some (.ref (ad (.srcT t))) := by rw [ent_val, if_pos ht]
    walk_at "wn"
    refine ⟨_, rfl, ad .box, C.S, dx .box, _, _, rfl, A0.at_ .box trivial, T.cl, T.no _ (by decide), rfl, ?_⟩
    refine ⟨_, rfl, ad .srcD, _, rfl, hv ▸ DGet.k (k := Sum.inl t) (A0.at_ .srcD trivial), ?_⟩
    refine ⟨ad (.srcT t), _, rfl, SqT.of (A0.at_ (.srcT t) ht), rfl, _, _, rfl, ?_⟩
    walk_at "wn"
    refine ⟨_, _, rfl, ?_⟩
    walk_at "wn"
    refine ⟨rfl, ?_⟩
    walk_at "wn"
    unfold ready at k
    refine ite2 (fun hd => ?_) (fun hd => ?_)
    · rw [show decide (0 < (S.unit t).1) = true from hd, Bool.true_or] at k
      exact k
    · rw [show decide (0 < (S.unit t).1) = false from Bool.eq_false_iff.mpr hd, Bool.false_or] at k
      exact ⟨_, rfl, k⟩
/-! notify -/
noncomputable def notified (S : Sys) (t : Int) : Sys := { S with que := fun s => if s ∈ S.sets then noticeQ (S.reg s) t (S.ents s) (S.que s) else S.que s }
structure Small (S : Sys) : Prop where
  que : ∀ s ∈ S.sets, (S.que s).length ≤ 900
  ents : ∀ s ∈ S.sets, (S.ents s).length ≤ 900
  srcs : S.srcs.length ≤ 900
  sets : S.sets.length ≤ 900
  nd : S.sets.Nodup
inductive PspNotify (C : Cs) (vs : List V) (H : Hp) (Q : VK) : Prop
  | mk (t : Int) (S : Sys) (ad dx : Cell → Addr) (h_0 : vs = .ref (ad .box) :: [.int t]) (h_1 : At C H S ad dx) (h_2 : Small S) (h_3 : ∀ H', At C H' (notified S t) ad dx → Step H S ad H' (notified S t) ad → Q .non H') : PspNotify C vs H Q
noncomputable def spNotify (C : Cs) : Sp := fun vs H Q _ => PspNotify C vs H Q
theorem scNotify : FnScope ["self", "source", "waiting"] ["self", "source"] (defScope sNotify) := ⟨rfl, rfl, rfl, by decide +kernel, rfl, by decide +kernel, by decide +kernel⟩
theorem okNotify {f fN : Addr} {fd fdN : FuncData} (F : Fun K "notify" "System.notify" sNotify f fd) (T : ClsF K C.S sysF) (TW : Cls K C.W) (GN : MO P w K mg base 2 C.W "notice" ["self", "source"] (spNotice C.W C.R) fN fdN) : FnOk P w K mg base CX0 3 f fd ["self", "source"] (spNotify C) := by
  refine F.ok scNotify (fun vs H Q E h => ?_) (fun cdv A outer s H vs Q E hr h => ?_)
  · obtain ⟨_, _, _, _, rfl, _⟩ := h
    rfl
  · obtain ⟨t, S, ad, dx, rfl, A0, sm0, k⟩ := h
    refine ⟨_, pss_one (ps_lock (ps_for PassesOwn.never rfl (pi_values (pe_fld (pv 0) rfl)) (pg_name (i := 2) scNotify.nd rfl (Or.inl rfl)) (pss_one (ps_expr (pe_meth (pv 2) TW GN.m GN.g hr GN.b .nil pass0 (pa_cons (pv 1) pa_nil)))))), ?_⟩
    have hb := A0.at_ .box trivial
    have hD := A0.at_ .setD trivial
    have nbD : ad .box ≠ ad .setD := A0.ne (c := .box) (c' := .setD) trivial trivial (by intro z; cases z)
    refine ⟨ad .setD, _, hD, trivial, fun od => ?_⟩
    refine ⟨_, rfl, ad .box, C.S, dx .box, _, _, rfl, by rw [upd_ne nbD]; exact hb, T.cl, T.no _ (by decide), rfl, ?_⟩
    refine ⟨ad .setD, od, _, rfl, upd_same, ?_⟩
    have hqs : ∀ s ∈ S.sets, ad (.que s) ≠ ad .setD := fun s hs => A0.ne (c := .que s) (c' := .setD) hs trivial (by intro z; cases z)
    have eo : co C S ad dx .setD = .dK (entKV S.sets fun s => ad (.ws s)) := rfl
    rw [eo]
    have old : ∀ c, live S c → c ≠ .setD → upd H (ad .setD) (.frz od (.dK (entKV S.sets fun s => ad (.ws s)))) (ad c) = some (co C S ad dx c) := fun c hc n => by rw [upd_ne (A0.ne hc (c' := .setD) trivial n)]; exact A0.at_ c hc
    refine for_it walk_values (fun i σ' H1 => ∃ u : Option V, σ' = [some (.ref (ad .box)), some (.int t), u] ∧ (∀ b o, (∀ s ∈ S.sets, b ≠ ad (.que s)) → upd H (ad .setD) (.frz od (.dK (entKV S.sets fun s => ad (.ws s)))) b = some o → H1 b = some o) ∧ ∀ (j : Nat) (s : Int), S.sets[j]? = some s → H1 (ad (.que s)) = some (.lst ((if j < i then noticeQ (S.reg s) t (S.ents s) (S.que s) else S.que s).map V.int))) ⟨_, rfl, fun _ _ _ z => z, fun j s hj => ?_⟩ (fun i σ' H1 _ ⟨_, _, kp, _⟩ => kp _ _ (fun s hs => Ne.symm (hqs s hs)) upd_same) ?_ ?_
    · rw [if_neg (Nat.not_lt_zero _)]
      exact old (.que s) (List.mem_of_getElem? hj) (by intro z; cases z)
    · rintro i x σ' H1 H2 hi ⟨u, rfl, kp, hq⟩ ⟨rfl, kx, ex⟩
      have hi' : i < S.sets.length := by unfold entKV at hi; rwa [List.length_map] at hi
      have es : S.sets[i]? = some S.sets[i] := List.getElem?_eq_getElem hi'
      have hs : S.sets[i] ∈ S.sets := List.getElem_mem hi'
      unfold entKV at ex
      rw [List.getElem?_map, es] at ex
      cases ex
      generalize S.sets[i] = s at es hs
      have at1 : ∀ c, live S c → c ≠ .setD → (∀ s' , c ≠ .que s') → H2 (ad c) = some (co C S ad dx c) := fun c hc n1 n2 => kp _ _ (fun s' hs' => A0.ne hc (c' := .que s') hs' (n2 s')) (old c hc n1)
      have hw := at1 (.ws s) hs (by intro z; cases z) (fun s' z => by cases z)
      have he := at1 (.ent s) hs (by intro z; cases z) (fun s' z => by cases z)
      have hq1 := hq i s es
      rw [if_neg (Nat.lt_irrefl i)] at hq1
      walk_at "wn"
      refine ⟨_, rfl, ad (.ws s), dx (.ws s), _, rfl, hw, rfl, ?_⟩
      walk_at "wn"
      refine ⟨ad (.ws s), dx (.ws s), ad (.ent s), ad (.que s), t, S.que s, S.ents s, fun l => ad (.reg s l), S.reg s, rfl, hw, hq1, he, fun l hl => ⟨dx (.reg s l), at1 (.reg s l) ⟨hs, hl⟩ (by intro z; cases z) (fun s' z => by cases z)⟩, Nat.le_trans (sm0.que s hs) (by decide), Nat.le_trans (sm0.ents s hs) (by decide), fun H' k1 k2 => ?_⟩
      refine ⟨_, rfl, fun b o n e => k2 b o (n s hs) (kp b o n e), fun j s' hj => ?_⟩
      by_cases e : s' = s
      · subst e
        have hji : j = i := by
          exact nodup_idx sm0.nd hj es
        rw [if_pos (by omega)]
        exact k1
      · have hs' := List.mem_of_getElem? hj
        rw [k2 _ _ (A0.ne (c := .que s') (c' := .que s) hs' hs (fun z => e (by cases z; rfl))) (hq j s' hj)]
        have hji : j ≠ i := fun z => e (by rw [z, es] at hj; cases hj; rfl)
        by_cases hlt : j < i
        · rw [if_pos hlt, if_pos (by omega)]
        · rw [if_neg hlt, if_neg (by omega)]
    · rintro σ' H1 ⟨u, rfl, kp, hq⟩
      refine ⟨kp _ _ (fun s hs => Ne.symm (hqs s hs)) upd_same, ?_⟩
      refine (fun z : At C _ _ _ _ ∧ Step _ _ _ _ _ _ => k _ z.1 z.2) ?_
      refine At.re2 (S.sets.map Cell.que) A0 (fun c l => by cases c <;> exact l) (fun c hc => ?_) (fun c hc => ?_) (fun c hc l => ?_) (fun b o n e => ?_)
      · obtain ⟨s, hs, rfl⟩ := List.mem_map.mp hc
        exact hs
      · obtain ⟨s, hs, rfl⟩ := List.mem_map.mp hc
        obtain ⟨j, hj, ej⟩ := List.getElem_of_mem hs
        have ej2 : S.sets[j]? = some s := by rw [List.getElem?_eq_getElem hj, ej]
        have q := hq j s ej2
        rw [if_pos (by unfold entKV; rw [List.length_map]; exact hj)] at q
        rw [upd_ne (hqs s hs), q]
        show _ = some (HO.lst ((if s ∈ S.sets then noticeQ (S.reg s) t (S.ents s) (S.que s) else S.que s).map V.int))
        rw [if_pos hs]
      · cases c with
        | que s =>
          have ns : s ∉ S.sets := fun z => hc (List.mem_map.mpr ⟨s, z, rfl⟩)
          exact absurd l ns
        | _ => rfl
      · by_cases hb2 : b = ad .setD
        · rw [hb2, upd_same, ← eo, ← hD, ← hb2, e]
        · rw [upd_ne hb2]
          exact kp b o (fun s hs => n (.que s) (List.mem_map.mpr ⟨s, hs, rfl⟩)) (by rw [upd_ne hb2]; exact e)
end

noncomputable def setA (ad : Cell → Addr) (c0 : Cell) (T : Addr) : Cell → Addr := fun c => if c = c0 then T else ad c
theorem setA_same {ad : Cell → Addr} {c0 : Cell} {T : Addr} : setA ad c0 T c0 = T := if_pos rfl
theorem setA_ne {ad : Cell → Addr} {c0 c : Cell} {T : Addr} (h : c ≠ c0) : setA ad c0 T c = ad c := if_neg h
theorem srcT_fun (ad : Cell → Addr) (t : Int) (T : Addr) : (fun j => if j = t then T else ad (.srcT j)) = fun j => setA ad (.srcT t) T (.srcT j) := by
  funext j
  by_cases h : j = t
  · rw [if_pos h, h, setA_same]
  · rw [if_neg h, setA_ne fun z => h (by cases z; rfl)]
noncomputable def withUnit (S : Sys) (t u : Int) (f : Bool) : Sys := { S with unit := fun j => if j = t then (u, f) else S.unit j }
section
variable {C : Cs} {H : Hp} {S : Sys} {ad dx : Cell → Addr}
/-- sources[t] = (u, f) -/
theorem At.unit (A : At C H S ad dx) {t u : Int} {f : Bool} {T : Addr} (ht : t ∈ S.srcs) (hT : H T = none) :
    At C (upd (upd H T (.tup [.int u, .bl f])) (ad .srcD) (.dK (putK (entKV S.srcs fun j => ad (.srcT j)) (Sum.inl t) (.ref T)))) (withUnit S t u f) (setA ad (.srcT t) T) dx ∧
    Step H S ad (upd (upd H T (.tup [.int u, .bl f])) (ad .srcD) (.dK (putK (entKV S.srcs fun j => ad (.srcT j)) (Sum.inl t) (.ref T)))) (withUnit S t u f) (setA ad (.srcT t) T) := by
  have hD := A.at_ .srcD trivial
  have nTD : T ≠ ad .srcD := fun z => by rw [z, hD] at hT; cases hT
  refine At.re3 [.srcD, .srcT t] A (fun c l => .inr (by cases c <;> exact l)) (fun c hc l => ?_) (fun c hc l => ?_) (fun c hc l => ?_) (fun c hc c' hc' l l' z e => ?_) (fun b o n e => ?_) (setA_ne (by intro z; cases z))
  · simp only [List.mem_cons, List.not_mem_nil, or_false] at hc
    rcases hc with rfl | rfl
    · rw [setA_ne (by intro z; cases z), upd_same, ent_put, if_pos ht, srcT_fun]
      rfl
    · rw [setA_same, upd_ne nTD, upd_same]
      show _ = some (HO.tup [.int (if t = t then (u, f) else S.unit t).1, .bl (if t = t then (u, f) else S.unit t).2])
      rw [if_pos rfl]
  · have n1 : c ≠ .srcD := fun z => hc (by rw [z]; simp)
    have n2 : c ≠ .srcT t := fun z => hc (by rw [z]; simp)
    refine ⟨setA_ne n2, ?_⟩
    cases c with
    | srcD => exact absurd rfl n1
    | srcT j =>
      have nj : j ≠ t := fun z => n2 (by rw [z])
      show HO.tup [.int (if j = t then (u, f) else S.unit j).1, .bl (if j = t then (u, f) else S.unit j).2] = _
      rw [if_neg nj]
      rfl
    | _ => rfl
  · simp only [List.mem_cons, List.not_mem_nil, or_false] at hc
    rcases hc with rfl | rfl
    · exact .inl ⟨setA_ne (by intro z; cases z), trivial⟩
    · exact .inr (by rw [setA_same]; exact hT)
  · simp only [List.mem_cons, List.not_mem_nil, or_false] at hc hc'
    rcases hc with rfl | rfl
    · rw [setA_ne (by intro z; cases z), hD] at z
      cases z
    · rcases hc' with rfl | rfl
      · rw [setA_same, setA_ne (by intro z; cases z)] at e
        exact absurd e nTD
      · rfl
  · rw [upd_ne (n .srcD (by simp) trivial), upd_ne (ne_of_none e hT)]
    exact e
end
section
variable {P : Program} {w : World} {K : PySem.W.Frag} {mg : Str → Option Value} {base : Heap} {C : Cs}
noncomputable def arrived (S : Sys) (t m : Int) : Sys := notified (withUnit S t ((S.unit t).1 + m) false) t
inductive PspArrive (C : Cs) (vs : List V) (H : Hp) (Q : VK) : Prop
  | mk (p n t m : Int) (S : Sys) (ad dx : Cell → Addr) (h_0 : vs = .ref (ad .box) :: [.int p, .int n, .int m]) (h_1 : At C H S ad dx) (h_2 : Means S p n t) (h_3 : t ∈ S.srcs) (h_4 : (S.unit t).2 = false) (h_5 : 1 ≤ m) (h_6 : m ≤ 1000000) (h_7 : Small S) (h_8 : ∀ H' ad', At C H' (arrived S t m) ad' dx → Step H S ad H' (arrived S t m) ad' → Q .non H') : PspArrive C vs H Q
noncomputable def spArrive (C : Cs) : Sp := fun vs H Q _ => PspArrive C vs H Q
theorem scArrive : FnScope ["self", "process", "number", "many", "source", "unread"] ["self", "process", "number", "many"] (defScope sArrive) := ⟨rfl, rfl, rfl, by decide +kernel, rfl, by decide +kernel, by decide +kernel⟩
theorem okArrive {dvs : List V} {kws : List (Str × V)} {f fS fU fN fC : Addr} {fd fdS fdU fdN fdC : FuncData} (F : FunD K "arrive" "System.arrive" (defArgs sArrive) (defBody sArrive) (defScope sArrive) dvs kws f fd) (T : ClsF K C.S sysF)
    (GS : MO P w K mg base 5 C.S "source_at" ["self", "process", "number"] (spSourceAt C) fS fdS) (GU : MO P w K mg base 1 C.S "unread_of_unfinished" ["self", "source", "number"] (spUnfinished C) fU fdU) (GN : MO P w K mg base 3 C.S "notify" ["self", "source"] (spNotify C) fN fdN)
    (GC : DO P w K mg base 3 "is_count" ["x"] spIsCount fC fdC) : FnOk P w K mg base CX0 6 f fd ["self", "process", "number", "many"] (spArrive C) := by
  refine F.ok scArrive (fun vs H Q E h => ?_) (fun cdv A outer s H vs Q E hr h => ?_)
  · obtain ⟨_, _, _, _, _, _, _, rfl, _⟩ := h
    rfl
  · obtain ⟨p, n, t, m, S, ad, dx, rfl, A0, M, ht, hf, m0, m1, sm0, k⟩ := h
    have hu := hu_of hr
    have hr1 : Room 1 _ := hr.mono (by decide)
    have hr3 : Room 3 _ := hr.mono (by decide)
    refine ⟨_, pss_cons (ps_set (i := 4) scArrive.nd rfl (Or.inl rfl) (pe_meth (pv 0) T.cl GS.m GS.g hr GS.b .nil pass0 (pa_cons (pv 1) (pa_cons (pv 2) pa_nil))))
      (pss_cons (ps_if (pt_not (pt_val (pe_call GC.g hr3 (by rfl) GC.m GC.k GC.b .nil pass0 (pa_cons (pv 3) pa_nil)))) (pss_one ps_never) pss_nil)
      (pss_cons (ps_set (i := 5) scArrive.nd rfl (Or.inl rfl) (pe_meth (pv 0) T.cl GU.m GU.g hr1 GU.b .nil pass0 (pa_cons (pv 4) (pa_cons (pv 2) pa_nil))))
      (pss_cons (ps_dput hu (pe_fld (pv 0) rfl) (pv 4) (pe_tup (pa_cons (pe_op op_add (pv 5) (pv 3)) (pa_cons pe_bl pa_nil))) rfl)
      (pss_one (ps_expr (pe_meth (pv 0) T.cl GN.m GN.g hr3 GN.b .nil pass0 (pa_cons (pv 4) pa_nil))))))), ?_⟩
    have hb := A0.at_ .box trivial
    walk_at "wn"
    refine ⟨_, rfl, ad .box, dx .box, _, rfl, hb, rfl, ?_⟩
    walk_at "wn"
    refine ⟨p, n, t, S, ad, dx, rfl, A0, M, ht, ?_⟩
    walk_at "wn"
    refine ⟨m, rfl, ?_⟩
    rw [decide_eq_true m0, decide_eq_true m1]
    refine ⟨_, rfl, ?_⟩
    walk_at "wn"
    refine ⟨_, rfl, ad .box, dx .box, _, rfl, hb, rfl, ?_⟩
    walk_at "wn"
    refine ⟨t, n, S, ad, dx, rfl, A0, ht, hf, ?_⟩
    walk_at "wn"
    refine ⟨_, rfl, _, rfl, _, _, rfl, rfl, by show 2 ≤ sizeLine; decide, fun T1 hT => ?_⟩
    have nbT : ad .box ≠ T1 := ne_of_none hb hT
    have nDT : ad .srcD ≠ T1 := ne_of_none (A0.at_ .srcD trivial) hT
    refine ⟨_, rfl, ad .box, C.S, dx .box, _, _, rfl, by rw [upd_ne nbT]; exact hb, T.cl, T.no _ (by decide), rfl, ?_⟩
    refine ⟨_, rfl, ad .srcD, _, rfl, DPut.k (k := Sum.inl t) (by rw [upd_ne nDT]; exact A0.at_ .srcD trivial) (by unfold entKV; rw [List.length_map, sizeLine_eq]; have := sm0.srcs; omega), ?_⟩
    obtain ⟨A1, st1⟩ := A0.unit (u := (S.unit t).1 + m) (f := false) ht hT
    walk_at "wn"
    refine ⟨_, rfl, setA ad (.srcT t) T1 .box, dx .box, _, by rw [setA_ne (by intro z; cases z)], A1.at_ .box trivial, rfl, ?_⟩
    walk_at "wn"
    refine ⟨t, _, _, dx, by rw [setA_ne (by intro z; cases z)]; rfl, A1, ⟨sm0.que, sm0.ents, sm0.srcs, sm0.sets, sm0.nd⟩, fun H' A2 st2 => k H' _ A2 (st1.trans st2)⟩
/-! read -/
noncomputable def taken (u : Int) : Option Int → Int
  | none => u
  | some m => if u < m then u else m
noncomputable def readS (S : Sys) (t : Int) (mo : Option Int) : Sys := withUnit S t ((S.unit t).1 - taken (S.unit t).1 mo) (S.unit t).2
inductive PspRead (C : Cs) (vs : List V) (H : Hp) (Q : VK) : Prop
  | mk (p n t : Int) (mo : Option Int) (S : Sys) (ad dx : Cell → Addr) (h_0 : vs = .ref (ad .box) :: [.int p, .int n, optV mo]) (h_1 : At C H S ad dx) (h_2 : Means S p n t) (h_3 : t ∈ S.srcs) (h_4 : (∀ m, mo = some m → 1 ≤ m ∧ m ≤ 1000000)) (h_5 : Small S) (h_6 : ∀ H' ad', At C H' (readS S t mo) ad' dx → Step H S ad H' (readS S t mo) ad' → Q (.int (taken (S.unit t).1 mo)) H') : PspRead C vs H Q
noncomputable def spRead (C : Cs) : Sp := fun vs H Q _ => PspRead C vs H Q
theorem scRead : FnScope ["self", "process", "number", "many", "source", "unread", "finished", "taken"] ["self", "process", "number", "many"] (defScope sRead) := ⟨rfl, rfl, rfl, by decide +kernel, rfl, by decide +kernel, by decide +kernel⟩
theorem okRead {dvs : List V} {kws : List (Str × V)} {f fS fC : Addr} {fd fdS fdC : FuncData} (F : FunD K "read" "System.read" (defArgs sRead) (defBody sRead) (defScope sRead) dvs kws f fd) (X : SysTxt mg) (T : ClsF K C.S sysF)
    (GS : MO P w K mg base 5 C.S "source_at" ["self", "process", "number"] (spSourceAt C) fS fdS) (GC : DO P w K mg base 3 "is_count" ["x"] spIsCount fC fdC) : FnOk P w K mg base CX0 6 f fd ["self", "process", "number", "many"] (spRead C) := by
  refine F.ok scRead (fun vs H Q E h => ?_) (fun cdv A outer s H vs Q E hr h => ?_)
  · obtain ⟨_, _, _, _, _, _, _, rfl, _⟩ := h
    rfl
  · obtain ⟨p, n, t, mo, S, ad, dx, rfl, A0, M, ht, hm, sm0, k⟩ := h
    have hu := hu_of hr
    have hr3 : Room 3 _ := hr.mono (by decide)
    refine ⟨_, pss_cons (ps_set (i := 4) scRead.nd rfl (Or.inl rfl) (pe_meth (pv 0) T.cl GS.m GS.g hr GS.b .nil pass0 (pa_cons (pv 1) (pa_cons (pv 2) pa_nil))))
      (pss_cut (ps_if (PW.pt (pw_and (pt_cmpR oNotN (pv 3) pe_non (nomark _)) (pw_and1 (pt_not (pt_val (pe_call GC.g hr3 (by rfl) GC.m GC.k GC.b .nil pass0 (pa_cons (pv 3) pa_nil))))))) (pss_one ps_never) pss_nil)
      (pss_cons (ps_asg (pe_dget hu (pe_fld (pv 0) rfl) (pv 4) (fun _ _ => rfl)) (pg_tup rfl (pgs_cons (pg_name (i := 5) scRead.nd rfl (Or.inl rfl)) (pgs_cons (pg_name (i := 6) scRead.nd rfl (Or.inl rfl)) pgs_nil))))
      (pss_cut (ps_set (i := 7) scRead.nd rfl (Or.inl rfl) (pe_ifExp (pt_cmpR oIsN (pv 3) pe_non (nomark _)) (pv 5) (pe_callB (cMin2 rfl) (by rfl) X.min (by decide +kernel) (pa_cons (pv 3) (pa_cons (pv 5) pa_nil)))))
      (pss_cons (ps_dput hu (pe_fld (pv 0) rfl) (pv 4) (pe_tup (pa_cons (pe_op op_sub (pv 5) (pv 7)) (pa_cons (pv 6) pa_nil))) rfl)
      (pss_one (ps_ret (pv 7))))))), ?_⟩
    have hb := A0.at_ .box trivial
    have hv : valV (entKV S.srcs fun t => ad (.srcT t)) (Sum.inl t) = some (.ref (ad (.srcT t))) := by rw [ent_val, if_pos ht]
    walk_at "wn"
    refine ⟨_, rfl, ad .box, dx .box, _, rfl, hb, rfl, ?_⟩
    walk_at "wn"
    refine ⟨p, n, t, S, ad, dx, rfl, A0, M, ht, ?_⟩
    walk_at "wn"
    refine ⟨fun σ' H' => σ' = [some (.ref (ad .box)), some (.int p), some (.int n), some (optV mo), some (.int t), none, none, none] ∧ H' = H, ?_, ?_⟩
    · walk_at "wn"
      cases mo with
      | none =>
        have e : decide (optV none = V.non) = true := decide_eq_true rfl
        rw [e]
        walk_at "wn"
        exact ⟨rfl, rfl⟩
      | some m =>
        have e : decide (optV (some m) = V.non) = false := decide_eq_false fun z => nomatch z
        rw [e]
        walk_at "wn"
        refine ⟨m, rfl, ?_⟩
        rw [decide_eq_true (hm m rfl).1, decide_eq_true (hm m rfl).2]
        refine ⟨_, rfl, ?_⟩
        walk_at "wn"
        exact ⟨rfl, rfl⟩
    rintro σ' H' ⟨rfl, rfl⟩
    walk_at "wn"
    refine ⟨_, rfl, ad .box, C.S, dx .box, _, _, rfl, hb, T.cl, T.no _ (by decide), rfl, ?_⟩
    refine ⟨_, rfl, ad .srcD, _, rfl, hv ▸ DGet.k (k := Sum.inl t) (A0.at_ .srcD trivial), ?_⟩
    refine ⟨ad (.srcT t), _, rfl, SqT.of (A0.at_ (.srcT t) ht), rfl, _, _, rfl, ?_⟩
    walk_at "wn"
    refine ⟨_, _, rfl, ?_⟩
    walk_at "wn"
    refine ⟨rfl, ?_⟩
    refine ⟨fun σ' H1 => σ' = [some (.ref (ad .box)), some (.int p), some (.int n), some (optV mo), some (.int t), some (.int (S.unit t).1), some (.bl (S.unit t).2), some (.int (taken (S.unit t).1 mo))] ∧ H1 = H', ?_, ?_⟩
    · walk_at "wn"
      cases mo with
      | none =>
        have e : decide (optV none = V.non) = true := decide_eq_true rfl
        rw [e]
        walk_at "wn"
        exact ⟨rfl, rfl⟩
      | some m =>
        have e : decide (optV (some m) = V.non) = false := decide_eq_false fun z => nomatch z
        rw [e]
        walk_at "wn"
        refine ⟨m, (S.unit t).1, rfl, ?_⟩
        exact ⟨rfl, rfl⟩
    rintro σ' H1 ⟨rfl, rfl⟩
    walk_at "wn"
    refine ⟨_, rfl, _, rfl, _, _, rfl, rfl, ?_⟩
    walk_at "wn"
    refine ⟨by show 2 ≤ sizeLine; decide, fun T1 hT => ?_⟩
    have nbT : ad .box ≠ T1 := ne_of_none hb hT
    have nDT : ad .srcD ≠ T1 := ne_of_none (A0.at_ .srcD trivial) hT
    refine ⟨_, rfl, ad .box, C.S, dx .box, _, _, rfl, by rw [upd_ne nbT]; exact hb, T.cl, T.no _ (by decide), rfl, ?_⟩
    refine ⟨_, rfl, ad .srcD, _, rfl, DPut.k (k := Sum.inl t) (by rw [upd_ne nDT]; exact A0.at_ .srcD trivial) (by unfold entKV; rw [List.length_map, sizeLine_eq]; have := sm0.srcs; omega), ?_⟩
    obtain ⟨A1, st1⟩ := A0.unit (u := (S.unit t).1 - taken (S.unit t).1 mo) (f := (S.unit t).2) ht hT
    walk_at "wn"
    exact k _ _ A1 st1
/-! row_of -/
inductive PspRowOf (C : Cs) (vs : List V) (H : Hp) (Q : VK) : Prop
  | mk (p n t : Int) (S : Sys) (ad dx : Cell → Addr) (h_0 : vs = .ref (ad .box) :: [.int p, .int n]) (h_1 : At C H S ad dx) (h_2 : Means S p n t) (h_3 : t ∈ S.sets) (h_4 : ∀ r, H r = none → Q (.ref r) (upd H r (.lst ((S.que t).map V.int)))) : PspRowOf C vs H Q
noncomputable def spRowOf (C : Cs) : Sp := fun vs H Q _ => PspRowOf C vs H Q
theorem scRowOf : FnScope ["self", "process", "set_number"] ["self", "process", "set_number"] (defScope sRowOf) := ⟨rfl, rfl, rfl, by decide +kernel, rfl, by decide +kernel, by decide +kernel⟩
theorem okRowOf {f fS : Addr} {fd fdS : FuncData} (F : Fun K "row_of" "System.row_of" sRowOf f fd) (X : SysTxt mg) (T : ClsF K C.S sysF) (TW : ClsF K C.W wsF) (GS : MO P w K mg base 5 C.S "set_at" ["self", "process", "set_number"] (spSetAt C) fS fdS) :
    FnOk P w K mg base CX0 6 f fd ["self", "process", "set_number"] (spRowOf C) := by
  refine F.ok scRowOf (fun vs H Q E h => ?_) (fun cdv A outer s H vs Q E hr h => ?_)
  · obtain ⟨_, _, _, _, _, _, rfl, _⟩ := h
    rfl
  · obtain ⟨p, n, t, S, ad, dx, rfl, A0, M, ht, k⟩ := h
    refine ⟨_, pss_one (ps_ret (pe_callTy call_list_of (by rfl) X.list PyProof.Rows.boot_list (pa_cons (pe_fld (pe_meth (pv 0) T.cl GS.m GS.g hr GS.b .nil pass0 (pa_cons (pv 1) (pa_cons (pv 2) pa_nil))) rfl) pa_nil))), ?_⟩
    have hb := A0.at_ .box trivial
    walk_at "wn"
    refine ⟨_, rfl, ad .box, dx .box, _, rfl, hb, rfl, ?_⟩
    walk_at "wn"
    refine ⟨p, n, t, S, ad, dx, rfl, A0, M, ht, ?_⟩
    refine ⟨ad (.ws t), C.W, dx (.ws t), _, _, rfl, A0.at_ (.ws t) ht, TW.cl, TW.no _ (by decide), rfl, ?_⟩
    exact ⟨ad (.que t), _, rfl, .inl (SqL.of (A0.at_ (.que t) ht)), fun r hr0 => k r hr0⟩
end

theorem reg_fun (ad : Cell → Addr) (s l : Int) (T : Addr) : (fun j => if j = l then T else ad (.reg s j)) = fun j => setA ad (.reg s l) T (.reg s j) := by
  funext j
  by_cases h : j = l
  · rw [if_pos h, h, setA_same]
  · rw [if_neg h, setA_ne fun z => h (by cases z; rfl)]
noncomputable def added (S : Sys) (s l : Int) (r : Reg) : Sys := { S with
  ents := fun j => if j = s then S.ents s ++ [l] else S.ents j
  reg := fun j i => if j = s ∧ i = l then r else S.reg j i
  que := fun j => if j = s then (if ready S r.src = true then qAdd l (S.que s) else S.que s) else S.que j }
section
variable {P : Program} {w : World} {K : PySem.W.Frag} {mg : Str → Option Value} {base : Heap} {C : Cs}
inductive PspAdd (C : Cs) (vs : List V) (H : Hp) (Q : VK) : Prop
  | mk (p sn n l s t : Int) (wd : Str) (S : Sys) (ad dx : Cell → Addr) (h_0 : vs = .ref (ad .box) :: [.int p, .int sn, .int n, .int l, .str wd]) (h_1 : At C H S ad dx) (h_2 : Means S p sn s) (h_3 : s ∈ S.sets) (h_4 : Means S p n t) (h_5 : t ∈ S.srcs) (h_6 : 0 ≤ l) (h_7 : l ≤ 999999) (h_8 : wd ∈ wordsL) (h_9 : (S.ents s).find? (keyOf (S.reg s) n t) = none) (h_10 : l ∉ S.ents s) (h_11 : Small S) (h_12 : ∀ H' ad' dx', At C H' (added S s l ⟨n, t, wd, true⟩) ad' dx' → Step H S ad H' (added S s l ⟨n, t, wd, true⟩) ad' → Q .non H') : PspAdd C vs H Q
noncomputable def spAdd (C : Cs) : Sp := fun vs H Q _ => PspAdd C vs H Q
theorem scAdd : FnScope ["self", "process", "set_number", "number", "label", "word", "waiting", "source"] ["self", "process", "set_number", "number", "label", "word"] (defScope sAdd) := ⟨rfl, rfl, rfl, by decide +kernel, rfl, by decide +kernel, by decide +kernel⟩
theorem okAdd {dvs : List V} {kws : List (Str × V)} {f fW fS fL fD fO fR fI fP : Addr} {fd fdW fdS fdL fdD fdO fdR fdI fdP : FuncData} (F : FunD K "add" "System.add" (defArgs sAdd) (defBody sAdd) (defScope sAdd) dvs kws f fd) (T : ClsF K C.S sysF) (TW : ClsF K C.W wsF)
    (GW : MO P w K mg base 5 C.S "set_at" ["self", "process", "set_number"] (spSetAt C) fW fdW) (GS : MO P w K mg base 5 C.S "source_at" ["self", "process", "number"] (spSourceAt C) fS fdS)
    (GL : DO P w K mg base 3 "is_label" ["x"] spIsLabel fL fdL) (GD : DO P w K mg base 1 "is_word" ["x"] spIsWord fD fdD) (GO : MO P w K mg base 1 C.W "label_of" ["self", "number", "source"] (spLabelOf C.W C.R) fO fdO)
    (gR : mg "Registration" = some (.ref C.R)) (MR : Mk K C.R fR) (GR : FnOk P w K mg base CX0 1 fR fdR ["self", "number", "source", "word", "armed"] (spRegInit C.R)) (bR : Binds K fdR ["self", "number", "source", "word", "armed"] [])
    (GI : MO P w K mg base 1 C.S "is_ready" ["self", "source"] (spIsReady C) fI fdI) (GP : MO P w K mg base 2 C.W "put" ["self", "label", "kept", "ready"] (spPut C.W) fP fdP) :
    FnOk P w K mg base CX0 6 f fd ["self", "process", "set_number", "number", "label", "word"] (spAdd C) := by
  refine F.ok scAdd (fun vs H Q E h => ?_) (fun cdv A outer s H vs Q E hr h => ?_)
  · obtain ⟨_, _, _, _, _, _, _, _, _, _, rfl, _⟩ := h
    rfl
  · obtain ⟨p, sn, n, l, s, t, wd, S, ad, dx, rfl, A0, Ms, hs, Mt, ht, l0, l1, hwd, hfind, hl, sm0, k⟩ := h
    have hu := hu_of hr
    have hr1 : Room 1 _ := hr.mono (by decide)
    have hr2 : Room 2 _ := hr.mono (by decide)
    have hr3 : Room 3 _ := hr.mono (by decide)
    refine ⟨_, pss_cons (ps_set (i := 6) scAdd.nd rfl (Or.inl rfl) (pe_meth (pv 0) T.cl GW.m GW.g hr GW.b .nil pass0 (pa_cons (pv 1) (pa_cons (pv 2) pa_nil))))
      (pss_cons (ps_set (i := 7) scAdd.nd rfl (Or.inl rfl) (pe_meth (pv 0) T.cl GS.m GS.g hr GS.b .nil pass0 (pa_cons (pv 1) (pa_cons (pv 3) pa_nil))))
      (pss_cons (ps_if (pt_not (pt_val (pe_call GL.g hr3 (by rfl) GL.m GL.k GL.b .nil pass0 (pa_cons (pv 4) pa_nil)))) (pss_one ps_never) pss_nil)
      (pss_cons (ps_if (pt_not (pt_val (pe_call GD.g hr1 (by rfl) GD.m GD.k GD.b .nil pass0 (pa_cons (pv 5) pa_nil)))) (pss_one ps_never) pss_nil)
      (pss_cons (ps_if (pt_cmpR oNotN (pe_meth (pv 6) TW.cl GO.m GO.g hr1 GO.b .nil pass0 (pa_cons (pv 3) (pa_cons (pv 7) pa_nil))) pe_non (nomark _)) (pss_one ps_never) pss_nil)
      (pss_cons (ps_if (pt_cmp (pc_din hu (pv 4) (pe_fld (pv 6) rfl)) rfl) (pss_one ps_never) pss_nil)
      (pss_one (ps_expr (pe_meth (pv 6) TW.cl GP.m GP.g hr2 GP.b .nil pass0 (pa_cons (pv 4) (pa_cons (pe_make MR GR hr2 (by rfl) gR bR .nil pass0 (pa_cons (pv 3) (pa_cons (pv 7) (pa_cons (pv 5) (pa_cons pe_bl pa_nil))))) (pa_cons (pe_meth (pv 0) T.cl GI.m GI.g hr1 GI.b .nil pass0 (pa_cons (pv 7) pa_nil)) pa_nil))))))))))), ?_⟩
    have hb := A0.at_ .box trivial
    walk_at "wn"
    refine ⟨_, rfl, ad .box, dx .box, _, rfl, hb, rfl, ?_⟩
    walk_at "wn"
    refine ⟨p, sn, s, S, ad, dx, rfl, A0, Ms, hs, ?_⟩
    walk_at "wn"
    refine ⟨_, rfl, ad .box, dx .box, _, rfl, hb, rfl, ?_⟩
    walk_at "wn"
    refine ⟨p, n, t, S, ad, dx, rfl, A0, Mt, ht, ?_⟩
    walk_at "wn"
    refine ⟨l, rfl, ?_⟩
    rw [decide_eq_true l0, decide_eq_true l1]
    refine ⟨_, rfl, ?_⟩
    walk_at "wn"
    refine ⟨_, rfl, wd, rfl, hwd, ?_⟩
    refine ⟨_, rfl, ?_⟩
    walk_at "wn"
    have hw := A0.at_ (.ws s) hs
    refine ⟨_, rfl, ad (.ws s), dx (.ws s), _, rfl, hw, rfl, ?_⟩
    walk_at "wn"
    refine ⟨ad (.ws s), dx (.ws s), ad (.ent s), ad (.que s), n, t, S.ents s, fun j => ad (.reg s j), S.reg s, rfl, hw, A0.at_ (.ent s) hs, fun j hj => ⟨dx (.reg s j), A0.at_ (.reg s j) ⟨hs, hj⟩⟩, fun H1 s1 => ?_⟩
    rw [hfind]
    have A1 := A0.same s1
    have hw1 := A1.at_ (.ws s) hs
    have he1 := A1.at_ (.ent s) hs
    have hq1 := A1.at_ (.que s) hs
    walk_at "wn"
    refine ⟨_, rfl, _, rfl, ad (.ws s), C.W, dx (.ws s), _, _, rfl, hw1, TW.cl, TW.no _ (by decide), rfl, ?_⟩
    refine ⟨ad (.ent s), _, rfl, DGet.k (k := Sum.inl l) he1, ?_⟩
    rw [ent_val, if_neg hl]
    refine ⟨_, rfl, ?_⟩
    show if false = true then _ else _
    walk_at "wn"
    refine ⟨_, rfl, ad (.ws s), dx (.ws s), _, rfl, hw1, rfl, ?_⟩
    walk_at "wn"
    refine ⟨_, rfl, _, rfl, _, rfl, fun x dx2 hx hdx ndx => ?_⟩
    refine ⟨x, dx2, n, t, wd, true, rfl, upd_same, fun H2 k1 k2 => ⟨rfl, ?_⟩⟩
    have s2 : Same H1 H2 := fun b o e => by
      rw [k1 b (ne_of_none e hx), upd_ne (ne_of_none e hx), upd_ne (ne_of_none e hdx)]
      exact e
    have A2 := A1.same s2
    refine ⟨_, rfl, ad .box, dx .box, _, rfl, A2.at_ .box trivial, rfl, ?_⟩
    walk_at "wn"
    refine ⟨t, S, ad, dx, rfl, A2, ht, ?_⟩
    have he2 := A2.at_ (.ent s) hs
    have hq2 := A2.at_ (.que s) hs
    have z1 := sm0.que s hs
    have z2 := sm0.ents s hs
    refine ⟨ad (.ws s), dx (.ws s), ad (.ent s), ad (.que s), x, l, ready S t, S.que s, _, rfl, A2.at_ (.ws s) hs, hq2, he2, by omega, by unfold entKV; rw [List.length_map]; omega, fun H3 j1 j2 j3 => ?_⟩
    rw [ent_put, if_neg hl, reg_fun] at j1
    have nxe : x ≠ ad (.ent s) := fun z => by rw [z, he1] at hx; cases hx
    have nxq : x ≠ ad (.que s) := fun z => by rw [z, hq1] at hx; cases hx
    have fresh : H x = none := s1.free hx
    refine (fun z : At C _ _ _ _ ∧ Step H S ad _ _ _ => k H3 (setA ad (.reg s l) x) (setA dx (.reg s l) dx2) z.1 z.2) ?_
    refine At.re3 [.ent s, .que s, .reg s l] A0 (fun c lc => ?_) (fun c hc lc => ?_) (fun c hc lc => ?_) (fun c hc lc => ?_) (fun c hc c' hc' lc lc' z e => ?_) (fun b o nb e => ?_) (setA_ne (by intro z; cases z))
    · cases c with
      | reg s' l' =>
        obtain ⟨h1, h2⟩ := lc
        by_cases e : s' = s
        · subst e
          have h2 : l' ∈ (if s' = s' then S.ents s' ++ [l] else S.ents s') := h2
          rw [if_pos rfl] at h2
          rcases List.mem_append.mp h2 with y | y
          · exact .inr ⟨h1, y⟩
          · rw [List.mem_singleton.mp y]
            exact .inl (by simp)
        · have h2 : l' ∈ (if s' = s then S.ents s ++ [l] else S.ents s') := h2
          rw [if_neg e] at h2
          exact .inr ⟨h1, h2⟩
      | _ => exact .inr lc
    · simp only [List.mem_cons, List.not_mem_nil, or_false] at hc
      rcases hc with rfl | rfl | rfl
      · rw [setA_ne (by intro z; cases z), j1]
        show _ = some (HO.dK (entKV (if s = s then S.ents s ++ [l] else S.ents s) _))
        rw [if_pos rfl]
      · rw [setA_ne (by intro z; cases z), j2]
        show _ = some (HO.lst ((if s = s then _ else S.que s).map V.int))
        rw [if_pos rfl]
      · rw [setA_same, j3 x nxe nxq, k2]
        show _ = some (regO C.R (setA dx (.reg s l) dx2 (.reg s l)) (if s = s ∧ l = l then (⟨n, t, wd, true⟩ : Reg) else S.reg s l).num (if s = s ∧ l = l then (⟨n, t, wd, true⟩ : Reg) else S.reg s l).src (if s = s ∧ l = l then (⟨n, t, wd, true⟩ : Reg) else S.reg s l).word (if s = s ∧ l = l then (⟨n, t, wd, true⟩ : Reg) else S.reg s l).armed)
        rw [if_pos ⟨rfl, rfl⟩, setA_same]
    · have n1 : c ≠ .ent s := fun z => hc (by rw [z]; simp)
      have n2 : c ≠ .que s := fun z => hc (by rw [z]; simp)
      have n3 : c ≠ .reg s l := fun z => hc (by rw [z]; simp)
      refine ⟨setA_ne n3, ?_⟩
      cases c with
      | ent s' =>
        have ns : s' ≠ s := fun z => n1 (by rw [z])
        show HO.dK (entKV (if s' = s then S.ents s ++ [l] else S.ents s') fun j => setA ad (.reg s l) x (.reg s' j)) = _
        rw [if_neg ns]
        have ef : (fun j => setA ad (.reg s l) x (.reg s' j)) = fun j => ad (.reg s' j) := funext fun j => setA_ne fun z => ns (by cases z; rfl)
        rw [ef]
        rfl
      | que s' =>
        have ns : s' ≠ s := fun z => n2 (by rw [z])
        show HO.lst ((if s' = s then _ else S.que s').map V.int) = _
        rw [if_neg ns]
        rfl
      | reg s' l' =>
        have nr : ¬ (s' = s ∧ l' = l) := fun z => n3 (by rw [z.1, z.2])
        show regO C.R (setA dx (.reg s l) dx2 (.reg s' l')) (if s' = s ∧ l' = l then (⟨n, t, wd, true⟩ : Reg) else S.reg s' l').num (if s' = s ∧ l' = l then (⟨n, t, wd, true⟩ : Reg) else S.reg s' l').src (if s' = s ∧ l' = l then (⟨n, t, wd, true⟩ : Reg) else S.reg s' l').word (if s' = s ∧ l' = l then (⟨n, t, wd, true⟩ : Reg) else S.reg s' l').armed = _
        rw [if_neg nr, setA_ne n3]
        rfl
      | _ => rfl
    · simp only [List.mem_cons, List.not_mem_nil, or_false] at hc
      rcases hc with rfl | rfl | rfl
      · exact .inl ⟨setA_ne (by intro z; cases z), hs⟩
      · exact .inl ⟨setA_ne (by intro z; cases z), hs⟩
      · exact .inr (by rw [setA_same]; exact fresh)
    · have of : ∀ c, c ∈ ([.ent s, .que s, .reg s l] : List Cell) → H (setA ad (.reg s l) x c) = none → c = .reg s l := fun c hc z => by
        simp only [List.mem_cons, List.not_mem_nil, or_false] at hc
        rcases hc with rfl | rfl | rfl
        · rw [setA_ne (by intro z; cases z), A0.at_ (.ent s) hs] at z
          cases z
        · rw [setA_ne (by intro z; cases z), A0.at_ (.que s) hs] at z
          cases z
        · rfl
      rw [of c hc z, of c' hc' (by rw [← e]; exact z)]
    · rw [j3 b (nb (.ent s) (by simp) hs) (nb (.que s) (by simp) hs)]
      exact s2 _ _ (s1 _ _ e)
end

noncomputable def took (S : Sys) (s most : Int) : TSt := takeAll S.unit most (S.que s) ⟨[], S.que s, S.reg s⟩
noncomputable def waited (S : Sys) (s most : Int) : Sys := { S with
  que := fun j => if j = s then (took S s most).que else S.que j
  reg := fun j => if j = s then (took S s most).reg else S.reg j }
section
variable {P : Program} {w : World} {K : PySem.W.Frag} {mg : Str → Option Value} {base : Heap} {C : Cs}
inductive PspWait (C : Cs) (vs : List V) (H : Hp) (Q : VK) : Prop
  | mk (p sn s most : Int) (S : Sys) (ad dx : Cell → Addr) (h_0 : vs = .ref (ad .box) :: [.int p, .int sn, .int most]) (h_1 : At C H S ad dx) (h_2 : Means S p sn s) (h_3 : s ∈ S.sets) (h_4 : 1 ≤ most) (h_5 : most ≤ 1000000) (h_6 : (∀ l ∈ S.que s, l ∈ S.ents s)) (h_7 : (∀ l ∈ S.ents s, (S.reg s l).src ∈ S.srcs)) (h_8 : C.W ≠ C.R) (h_9 : Small S) (h_10 : ∀ H' ad' dx' r rs, H r = none → H' r = some (.lst rs) → ¬ own (waited S s most) ad' r → Paired (RepAt H') rs (took S s most).reps → At C H' (waited S s most) ad' dx' → Step H S ad H' (waited S s most) ad' → Q (.ref r) H') : PspWait C vs H Q
noncomputable def spWait (C : Cs) : Sp := fun vs H Q _ => PspWait C vs H Q
theorem scWait : FnScope ["self", "process", "set_number", "most", "waiting"] ["self", "process", "set_number", "most"] (defScope sWait) := ⟨rfl, rfl, rfl, by decide +kernel, rfl, by decide +kernel, by decide +kernel⟩
noncomputable def setW (ad : Cell → Addr) (s : Int) (q : Addr) (r : Int → Addr) : Cell → Addr
  | .que j => if j = s then q else ad (.que j)
  | .reg j l => if j = s then r l else ad (.reg j l)
  | c => ad c
theorem okWait {dvs : List V} {kws : List (Str × V)} {f fW fC fR : Addr} {fd fdW fdC fdR : FuncData} (F : FunD K "wait" "System.wait" (defArgs sWait) (defBody sWait) (defScope sWait) dvs kws f fd) (T : ClsF K C.S sysF) (TW : ClsF K C.W wsF)
    (GW : MO P w K mg base 5 C.S "set_at" ["self", "process", "set_number"] (spSetAt C) fW fdW) (GC : DO P w K mg base 3 "is_count" ["x"] spIsCount fC fdC) (GR : MO P w K mg base 4 C.W "take_reports" ["self", "most", "sources"] (spReports C.W C.R) fR fdR) :
    FnOk P w K mg base CX0 6 f fd ["self", "process", "set_number", "most"] (spWait C) := by
  refine F.ok scWait (fun vs H Q E h => ?_) (fun cdv A outer s H vs Q E hr h => ?_)
  · obtain ⟨_, _, _, _, _, _, _, rfl, _⟩ := h
    rfl
  · obtain ⟨p, sn, s, most, S, ad, dx, rfl, A0, Ms, hs, m0, m1, hqe, hes, nWR, sm0, k⟩ := h
    have hr3 : Room 3 _ := hr.mono (by decide)
    have hr4 : Room 4 _ := hr.mono (by decide)
    refine ⟨_, pss_cons (ps_set (i := 4) scWait.nd rfl (Or.inl rfl) (pe_meth (pv 0) T.cl GW.m GW.g hr GW.b .nil pass0 (pa_cons (pv 1) (pa_cons (pv 2) pa_nil))))
      (pss_cons (ps_if (pt_not (pt_val (pe_call GC.g hr3 (by rfl) GC.m GC.k GC.b .nil pass0 (pa_cons (pv 3) pa_nil)))) (pss_one ps_never) pss_nil)
      (pss_one (ps_ret (pe_meth (pv 4) TW.cl GR.m GR.g hr4 GR.b .nil pass0 (pa_cons (pv 3) (pa_cons (pe_fld (pv 0) rfl) pa_nil)))))), ?_⟩
    have hb := A0.at_ .box trivial
    have hw := A0.at_ (.ws s) hs
    have he := A0.at_ (.ent s) hs
    have hq := A0.at_ (.que s) hs
    walk_at "wn"
    refine ⟨_, rfl, ad .box, dx .box, _, rfl, hb, rfl, ?_⟩
    walk_at "wn"
    refine ⟨p, sn, s, S, ad, dx, rfl, A0, Ms, hs, ?_⟩
    walk_at "wn"
    refine ⟨most, rfl, ?_⟩
    rw [decide_eq_true m0, decide_eq_true m1]
    refine ⟨_, rfl, ?_⟩
    walk_at "wn"
    refine ⟨_, rfl, ad (.ws s), dx (.ws s), _, rfl, hw, rfl, ?_⟩
    refine ⟨_, rfl, _, rfl, ad .box, C.S, dx .box, _, _, rfl, hb, T.cl, T.no _ (by decide), rfl, ?_⟩
    have z1 := sm0.que s hs
    have z2 := sm0.ents s hs
    refine ⟨ad (.ws s), dx (.ws s), ad (.ent s), ad (.que s), ad .srcD, most, S.que s, S.ents s, S.srcs, (fun l => ad (.reg s l)), (fun t => ad (.srcT t)), S.reg s, S.unit, rfl, hw, hq, he, fun l hl => ⟨dx (.reg s l), A0.at_ (.reg s l) ⟨hs, hl⟩⟩, A0.at_ .srcD trivial,
      A0.ne (c := .srcD) (c' := .ent s) trivial hs (by intro z; cases z), fun t ht => A0.at_ (.srcT t) ht, hqe, hes, nWR, fun l hl l' hl' z => by cases A0.inj (.reg s l) (.reg s l') ⟨hs, hl⟩ ⟨hs, hl'⟩ z; rfl, by omega, by omega, fun H' r rs q' adE k1 k2 k3 k4 k5 k6 k7 k8 k9 k10 k11 k12 => ?_⟩
    have k5' : ∀ l ∈ S.ents s, ∃ d : Addr, H' (adE l) = some (regO C.R d ((took S s most).reg l).num ((took S s most).reg l).src ((took S s most).reg l).word ((took S s most).reg l).armed) := k5
    obtain ⟨dE, hdE⟩ : ∃ dE : Int → Addr, ∀ l ∈ S.ents s, H' (adE l) = some (regO C.R (dE l) ((took S s most).reg l).num ((took S s most).reg l).src ((took S s most).reg l).word ((took S s most).reg l).armed) := by
      refine ⟨fun l => if h : l ∈ S.ents s then Classical.choose (k5' l h) else 0, fun l hl => ?_⟩
      dsimp only
      rw [dif_pos hl]
      exact Classical.choose_spec (k5' l hl)
    let dx' : Cell → Addr := fun c => match c with
      | .reg j l => if j = s then dE l else dx (.reg j l)
      | c => dx c
    have sE : ∀ l, setW ad s q' adE (.reg s l) = adE l := fun l => if_pos rfl
    have sQ : setW ad s q' adE (.que s) = q' := if_pos rfl
    have dEe : ∀ l, dx' (.reg s l) = dE l := fun l => if_pos rfl
    have key : At C H' (waited S s most) (setW ad s q' adE) dx' ∧ Step H S ad H' (waited S s most) (setW ad s q' adE) := by
      refine At.re3 ([.ws s, .que s, .ent s] ++ (S.ents s).map (Cell.reg s)) A0 (fun c lc => .inr ?_) (fun c hc lc => ?_) (fun c hc lc => ?_) (fun c hc lc => ?_) (fun c hc c' hc' lc lc' z e => ?_) (fun b o nb e => ?_) rfl
      · cases c <;> exact lc
      · rcases List.mem_append.mp hc with hc | hc
        · simp only [List.mem_cons, List.not_mem_nil, or_false] at hc
          rcases hc with rfl | rfl | rfl
          · show H' (ad (.ws s)) = some (wsO C.W (dx (.ws s)) (ad (.ent s)) (setW ad s q' adE (.que s)))
            rw [sQ]
            exact k1
          · rw [sQ, k2]
            show _ = some (HO.lst ((if s = s then (took S s most).que else S.que s).map V.int))
            rw [if_pos rfl]
            rfl
          · show H' (ad (.ent s)) = some (HO.dK (entKV (S.ents s) fun l => setW ad s q' adE (.reg s l)))
            rw [k4]
            have ef : (fun l => setW ad s q' adE (.reg s l)) = adE := funext sE
            rw [ef]
        · obtain ⟨l, hl, rfl⟩ := List.mem_map.mp hc
          rw [sE, hdE l hl]
          show _ = some (regO C.R (dx' (.reg s l)) ((if s = s then (took S s most).reg else S.reg s) l).num ((if s = s then (took S s most).reg else S.reg s) l).src ((if s = s then (took S s most).reg else S.reg s) l).word ((if s = s then (took S s most).reg else S.reg s) l).armed)
          rw [if_pos rfl, dEe]
      · have n1 : c ≠ .ws s := fun z => hc (by rw [z]; simp)
        have n2 : c ≠ .que s := fun z => hc (by rw [z]; simp)
        have n3 : c ≠ .ent s := fun z => hc (by rw [z]; simp)
        cases c with
        | ws j =>
          have nj : j ≠ s := fun z => n1 (by rw [z])
          refine ⟨rfl, ?_⟩
          show wsO C.W (dx (.ws j)) (ad (.ent j)) (if j = s then q' else ad (.que j)) = _
          rw [if_neg nj]
          rfl
        | que j =>
          have nj : j ≠ s := fun z => n2 (by rw [z])
          refine ⟨if_neg nj, ?_⟩
          show HO.lst ((if j = s then (took S s most).que else S.que j).map V.int) = _
          rw [if_neg nj]
          rfl
        | ent j =>
          have nj : j ≠ s := fun z => n3 (by rw [z])
          refine ⟨rfl, ?_⟩
          have ef : (fun l => setW ad s q' adE (.reg j l)) = fun l => ad (.reg j l) := funext fun l => if_neg nj
          show HO.dK (entKV (S.ents j) fun l => setW ad s q' adE (.reg j l)) = _
          rw [ef]
          rfl
        | reg j l =>
          have nj : j ≠ s := fun z => hc (List.mem_append.mpr (.inr (List.mem_map.mpr ⟨l, by rw [← z]; exact lc.2, by rw [z]⟩)))
          refine ⟨if_neg nj, ?_⟩
          show regO C.R (if j = s then dE l else dx (.reg j l)) ((if j = s then (took S s most).reg else S.reg j) l).num ((if j = s then (took S s most).reg else S.reg j) l).src ((if j = s then (took S s most).reg else S.reg j) l).word ((if j = s then (took S s most).reg else S.reg j) l).armed = _
          rw [if_neg nj, if_neg nj]
          rfl
        | _ => exact ⟨rfl, rfl⟩
      · rcases List.mem_append.mp hc with hc | hc
        · simp only [List.mem_cons, List.not_mem_nil, or_false] at hc
          rcases hc with rfl | rfl | rfl
          · exact .inl ⟨rfl, hs⟩
          · rw [sQ]
            rcases k3 with z | z
            · exact .inl ⟨z, hs⟩
            · exact .inr z
          · exact .inl ⟨rfl, hs⟩
        · obtain ⟨l, hl, rfl⟩ := List.mem_map.mp hc
          rw [sE]
          rcases k6 l with z | z
          · exact .inl ⟨z, ⟨hs, hl⟩⟩
          · exact .inr z
      · have kind : ∀ c ∈ ([.ws s, .que s, .ent s] ++ (S.ents s).map (Cell.reg s) : List Cell), H (setW ad s q' adE c) = none → c = .que s ∨ ∃ l ∈ S.ents s, c = .reg s l := fun c hc z => by
          rcases List.mem_append.mp hc with hc | hc
          · simp only [List.mem_cons, List.not_mem_nil, or_false] at hc
            rcases hc with rfl | rfl | rfl
            · rw [show setW ad s q' adE (.ws s) = ad (.ws s) from rfl, hw] at z
              cases z
            · exact .inl rfl
            · rw [show setW ad s q' adE (.ent s) = ad (.ent s) from rfl, he] at z
              cases z
          · obtain ⟨l, hl, rfl⟩ := List.mem_map.mp hc
            exact .inr ⟨l, hl, rfl⟩
        have z' : H (setW ad s q' adE c') = none := by rw [← e]; exact z
        rcases kind c hc z with rfl | ⟨l, hl, rfl⟩
        · rcases kind c' hc' z' with rfl | ⟨l', hl', rfl⟩
          · rfl
          · rw [sQ, sE] at e
            have x := hdE l' hl'
            rw [← e, k2] at x
            cases x
        · rcases kind c' hc' z' with rfl | ⟨l', hl', rfl⟩
          · rw [sQ, sE] at e
            have x := hdE l hl
            rw [e, k2] at x
            cases x
          · rw [sE, sE] at e
            rw [k7 l hl l' hl' e]
      · exact k12 b o (nb (.ws s) (by simp) hs) (nb (.ent s) (by simp) hs) (nb (.que s) (by simp) hs) e
    refine k H' _ dx' r rs k8 k10 (fun ⟨c, lc, ec⟩ => ?_) k11 key.1 key.2
    have x := key.1.at_ c lc
    rw [ec, k10] at x
    cases c with
    | tab j =>
      have y : H (ad (.tab j)) = _ := A0.at_ (.tab j) lc
      rw [show ad (.tab j) = r from ec, k8] at y
      cases y
    | que j =>
      by_cases nj : j = s
      · subst nj
        rw [sQ] at ec
        exact k9 ec.symm
      · have ec2 : (if j = s then q' else ad (.que j)) = r := ec
        rw [if_neg nj] at ec2
        have y : H (ad (.que j)) = _ := A0.at_ (.que j) lc
        rw [ec2, k8] at y
        cases y
    | _ => cases x
end

noncomputable def newSource (S : Sys) (p : Int) (n : Nat) : Sys := { newThing S p n with
  srcs := S.srcs ++ [S.next]
  unit := fun j => if j = S.next then (0, false) else S.unit j }
noncomputable def newSet (S : Sys) (p : Int) (n : Nat) : Sys := { newThing S p n with
  sets := S.sets ++ [S.next]
  ents := fun j => if j = S.next then [] else S.ents j
  que := fun j => if j = S.next then [] else S.que j }
section
variable {P : Program} {w : World} {K : PySem.W.Frag} {mg : Str → Option Value} {base : Heap} {C : Cs}
inductive PspNewSource (C : Cs) (vs : List V) (H : Hp) (Q : VK) : Prop
  | mk (p : Int) (n : Nat) (S : Sys) (ad dx : Cell → Addr) (h_0 : vs = .ref (ad .box) :: [.int p]) (h_1 : At C H S ad dx) (h_2 : p ∈ S.procs) (h_3 : firstFree (S.tab p) n) (h_4 : (S.tab p).length ≤ 1000) (h_5 : S.srcs.length ≤ 1000) (h_6 : S.next ∉ S.srcs) (h_7 : ∀ H' ad', At C H' (newSource S p n) ad' dx → Step H S ad H' (newSource S p n) ad' → Q (.int (n : Int)) H') : PspNewSource C vs H Q
noncomputable def spNewSource (C : Cs) : Sp := fun vs H Q _ => PspNewSource C vs H Q
theorem scNewSource : FnScope ["self", "process", "number", "thing"] ["self", "process"] (defScope sNewSource) := ⟨rfl, rfl, rfl, by decide +kernel, rfl, by decide +kernel, by decide +kernel⟩
theorem okNewSource {f fN : Addr} {fd fdN : FuncData} (F : Fun K "new_source" "System.new_source" sNewSource f fd) (T : ClsF K C.S sysF) (GN : MO P w K mg base 5 C.S "new_thing" ["self", "process"] (spNewThing C) fN fdN) :
    FnOk P w K mg base CX0 6 f fd ["self", "process"] (spNewSource C) := by
  refine F.ok scNewSource (fun vs H Q E h => ?_) (fun cdv A outer s H vs Q E hr h => ?_)
  · obtain ⟨_, _, _, _, _, rfl, _⟩ := h
    rfl
  · obtain ⟨p, n, S, ad, dx, rfl, A0, hp, hf, hl, hz, hnx, k⟩ := h
    have hu := hu_of hr
    refine ⟨_, pss_cons (ps_asg (pe_meth (pv 0) T.cl GN.m GN.g hr GN.b .nil pass0 (pa_cons (pv 1) pa_nil)) (pg_tup rfl (pgs_cons (pg_name (i := 2) scNewSource.nd rfl (Or.inl rfl)) (pgs_cons (pg_name (i := 3) scNewSource.nd rfl (Or.inl rfl)) pgs_nil))))
      (pss_cons (ps_dput hu (pe_fld (pv 0) rfl) (pv 3) (pe_tup (pa_cons pe_int (pa_cons pe_bl pa_nil))) rfl) (pss_one (ps_ret (pv 2)))), ?_⟩
    walk_at "wn"
    refine ⟨_, rfl, ad .box, dx .box, _, rfl, A0.at_ .box trivial, rfl, ?_⟩
    walk_at "wn"
    refine ⟨p, n, S, ad, dx, rfl, A0, hp, hf, hl, fun H1 T1 hT1 hT A1 st1 => ?_⟩
    refine ⟨T1, _, rfl, SqT.of hT, rfl, _, _, rfl, ?_⟩
    walk_at "wn"
    refine ⟨_, _, rfl, ?_⟩
    walk_at "wn"
    refine ⟨rfl, ?_⟩
    walk_at "wn"
    refine ⟨by show 2 ≤ sizeLine; decide, fun T2 hT2 => ?_⟩
    have hb := A1.at_ .box trivial
    have hD : H1 (ad .srcD) = some (.dK (entKV S.srcs fun t => ad (.srcT t))) := A1.at_ .srcD trivial
    have nTD : T2 ≠ ad .srcD := fun z => by rw [z, hD] at hT2; cases hT2
    have nTb : ad .box ≠ T2 := ne_of_none hb hT2
    refine ⟨_, rfl, ad .box, C.S, dx .box, _, _, rfl, by rw [upd_ne nTb]; exact hb, T.cl, T.no _ (by decide), rfl, ?_⟩
    refine ⟨_, rfl, ad .srcD, _, rfl, DPut.k (k := Sum.inl S.next) (by rw [upd_ne (Ne.symm nTD)]; exact hD) (by unfold entKV; rw [List.length_map, sizeLine_eq]; omega), ?_⟩
    walk_at "wn"
    refine (fun z : At C _ _ _ _ ∧ Step H1 (newThing S p n) ad _ _ _ => k _ (setA ad (.srcT S.next) T2) z.1 (st1.trans z.2)) ?_
    refine At.re3 [.srcD, .srcT S.next] A1 (fun c lc => ?_) (fun c hc lc => ?_) (fun c hc lc => ?_) (fun c hc lc => ?_) (fun c hc c' hc' lc lc' z e => ?_) (fun b o nb e => ?_) (setA_ne (by intro z; cases z))
    · cases c with
      | srcT t =>
        rcases List.mem_append.mp (show t ∈ S.srcs ++ [S.next] from lc) with y | y
        · exact .inr y
        · rw [List.mem_singleton.mp y]
          exact .inl (by simp)
      | _ => exact .inr lc
    · simp only [List.mem_cons, List.not_mem_nil, or_false] at hc
      rcases hc with rfl | rfl
      · rw [setA_ne (by intro z; cases z), upd_same, ent_put, if_neg hnx, srcT_fun]
        rfl
      · rw [setA_same, upd_ne nTD, upd_same]
        show _ = some (HO.tup [.int (if S.next = S.next then ((0 : Int), false) else S.unit S.next).1, .bl (if S.next = S.next then ((0 : Int), false) else S.unit S.next).2])
        rw [if_pos rfl]
    · have n1 : c ≠ .srcD := fun z => hc (by rw [z]; simp)
      have n2 : c ≠ .srcT S.next := fun z => hc (by rw [z]; simp)
      refine ⟨setA_ne n2, ?_⟩
      cases c with
      | srcD => exact absurd rfl n1
      | srcT j =>
        have nj : j ≠ S.next := fun z => n2 (by rw [z])
        show HO.tup [.int (if j = S.next then ((0 : Int), false) else S.unit j).1, .bl (if j = S.next then ((0 : Int), false) else S.unit j).2] = _
        rw [if_neg nj]
        rfl
      | _ => rfl
    · simp only [List.mem_cons, List.not_mem_nil, or_false] at hc
      rcases hc with rfl | rfl
      · exact .inl ⟨setA_ne (by intro z; cases z), trivial⟩
      · exact .inr (by rw [setA_same]; exact hT2)
    · simp only [List.mem_cons, List.not_mem_nil, or_false] at hc hc'
      rcases hc with rfl | rfl
      · rw [setA_ne (by intro z; cases z), hD] at z
        cases z
      · rcases hc' with rfl | rfl
        · rw [setA_same, setA_ne (by intro z; cases z)] at e
          exact absurd e nTD
        · rfl
    · rw [upd_ne (nb .srcD (by simp) trivial), upd_ne (ne_of_none e hT2)]
      exact e
inductive PspNewSet (C : Cs) (vs : List V) (H : Hp) (Q : VK) : Prop
  | mk (p : Int) (n : Nat) (S : Sys) (ad dx : Cell → Addr) (h_0 : vs = .ref (ad .box) :: [.int p]) (h_1 : At C H S ad dx) (h_2 : p ∈ S.procs) (h_3 : firstFree (S.tab p) n) (h_4 : (S.tab p).length ≤ 1000) (h_5 : S.sets.length ≤ 1000) (h_6 : S.next ∉ S.sets) (h_7 : ∀ H' ad' dx', At C H' (newSet S p n) ad' dx' → Step H S ad H' (newSet S p n) ad' → Q (.int (n : Int)) H') : PspNewSet C vs H Q
noncomputable def spNewSet (C : Cs) : Sp := fun vs H Q _ => PspNewSet C vs H Q
theorem scNewSet : FnScope ["self", "process", "number", "thing"] ["self", "process"] (defScope sNewSet) := ⟨rfl, rfl, rfl, by decide +kernel, rfl, by decide +kernel, by decide +kernel⟩
theorem okNewSet {f fN fI : Addr} {fd fdN fdI : FuncData} (F : Fun K "new_set" "System.new_set" sNewSet f fd) (T : ClsF K C.S sysF) (GN : MO P w K mg base 5 C.S "new_thing" ["self", "process"] (spNewThing C) fN fdN)
    (gW : mg "WaitingSet" = some (.ref C.W)) (MW : Mk K C.W fI) (GI : FnOk P w K mg base CX0 1 fI fdI ["self"] (spWsInit C.W)) (bI : Binds K fdI ["self"] []) :
    FnOk P w K mg base CX0 6 f fd ["self", "process"] (spNewSet C) := by
  refine F.ok scNewSet (fun vs H Q E h => ?_) (fun cdv A outer s H vs Q E hr h => ?_)
  · obtain ⟨_, _, _, _, _, rfl, _⟩ := h
    rfl
  · obtain ⟨p, n, S, ad, dx, rfl, A0, hp, hf, hl, hz, hnx, k⟩ := h
    have hu := hu_of hr
    have hr2 : Room 2 _ := hr.mono (by decide)
    refine ⟨_, pss_cons (ps_asg (pe_meth (pv 0) T.cl GN.m GN.g hr GN.b .nil pass0 (pa_cons (pv 1) pa_nil)) (pg_tup rfl (pgs_cons (pg_name (i := 2) scNewSet.nd rfl (Or.inl rfl)) (pgs_cons (pg_name (i := 3) scNewSet.nd rfl (Or.inl rfl)) pgs_nil))))
      (pss_cons (ps_dput hu (pe_fld (pv 0) rfl) (pv 3) (pe_make0 MW GI hr2 (by rfl) gW bI .nil pass0) rfl) (pss_one (ps_ret (pv 2)))), ?_⟩
    walk_at "wn"
    refine ⟨_, rfl, ad .box, dx .box, _, rfl, A0.at_ .box trivial, rfl, ?_⟩
    walk_at "wn"
    refine ⟨p, n, S, ad, dx, rfl, A0, hp, hf, hl, fun H1 T1 hT1 hT A1 st1 => ?_⟩
    refine ⟨T1, _, rfl, SqT.of hT, rfl, _, _, rfl, ?_⟩
    walk_at "wn"
    refine ⟨_, _, rfl, ?_⟩
    walk_at "wn"
    refine ⟨rfl, ?_⟩
    refine (fun x dx2 hx hdx ndx => ?_ : ∀ x dx2, _ → _ → _ → _)
    refine ⟨x, dx2, rfl, upd_same, fun H2 e q he hq h2e h2q h2x h2 => ⟨rfl, ?_⟩⟩
    have nex : e ≠ x := fun z => by rw [z, upd_same] at he; cases he
    have nqx : q ≠ x := fun z => by rw [z, upd_same] at hq; cases hq
    rw [upd_ne nex] at he
    rw [upd_ne nqx] at hq
    have ned : e ≠ dx2 := fun z => by rw [z, upd_same] at he; cases he
    have nqd : q ≠ dx2 := fun z => by rw [z, upd_same] at hq; cases hq
    rw [upd_ne ned] at he
    rw [upd_ne nqd] at hq
    have neq : e ≠ q := fun z => by rw [z, h2q] at h2e; cases h2e
    have s2 : Same H1 H2 := fun b o y => by
      rw [h2 b (ne_of_none y hx) (ne_of_none y he) (ne_of_none y hq), upd_ne (ne_of_none y hx), upd_ne (ne_of_none y hdx)]
      exact y
    have A2 := A1.same s2
    have hb := A2.at_ .box trivial
    have hD : H2 (ad .setD) = some (.dK (entKV S.sets fun t => ad (.ws t))) := A2.at_ .setD trivial
    have hD1 : H1 (ad .setD) = some (.dK (entKV S.sets fun t => ad (.ws t))) := A1.at_ .setD trivial
    have nxD : x ≠ ad .setD := fun z => by rw [z, hD1] at hx; cases hx
    have neD : e ≠ ad .setD := fun z => by rw [z, hD1] at he; cases he
    have nqD : q ≠ ad .setD := fun z => by rw [z, hD1] at hq; cases hq
    refine ⟨_, rfl, ad .box, C.S, dx .box, _, _, rfl, hb, T.cl, T.no _ (by decide), rfl, ?_⟩
    refine ⟨_, rfl, ad .setD, _, rfl, DPut.k (k := Sum.inl S.next) hD (by unfold entKV; rw [List.length_map, sizeLine_eq]; omega), ?_⟩
    walk_at "wn"
    have wf : (fun j => if j = S.next then x else ad (.ws j)) = fun j => setA (setA (setA ad (.ws S.next) x) (.ent S.next) e) (.que S.next) q (.ws j) := by
      funext j
      rw [setA_ne (by intro z; cases z), setA_ne (by intro z; cases z)]
      by_cases h : j = S.next
      · rw [if_pos h, h, setA_same]
      · rw [if_neg h, setA_ne fun z => h (by cases z; rfl)]
    have aw : setA (setA (setA ad (.ws S.next) x) (.ent S.next) e) (.que S.next) q (.ws S.next) = x := by rw [setA_ne (by intro z; cases z), setA_ne (by intro z; cases z), setA_same]
    have ae : setA (setA (setA ad (.ws S.next) x) (.ent S.next) e) (.que S.next) q (.ent S.next) = e := by rw [setA_ne (by intro z; cases z), setA_same]
    have aq : setA (setA (setA ad (.ws S.next) x) (.ent S.next) e) (.que S.next) q (.que S.next) = q := setA_same
    have ao : ∀ c, c ≠ .ws S.next → c ≠ .ent S.next → c ≠ .que S.next → setA (setA (setA ad (.ws S.next) x) (.ent S.next) e) (.que S.next) q c = ad c := fun c h1 h2 h3 => by rw [setA_ne h3, setA_ne h2, setA_ne h1]
    refine (fun z : At C _ _ _ _ ∧ Step H1 (newThing S p n) ad _ _ _ => k _ (setA (setA (setA ad (.ws S.next) x) (.ent S.next) e) (.que S.next) q) (setA dx (.ws S.next) dx2) z.1 (st1.trans z.2)) ?_
    refine At.re3 [.setD, .ws S.next, .ent S.next, .que S.next] A1 (fun c lc => ?_) (fun c hc lc => ?_) (fun c hc lc => ?_) (fun c hc lc => ?_) (fun c hc c' hc' lc lc' z ee => ?_) (fun b o nb ee => ?_) (ao _ (by intro z; cases z) (by intro z; cases z) (by intro z; cases z))
    · have split : ∀ t, t ∈ S.sets ++ [S.next] → t ∈ S.sets ∨ t = S.next := fun t h => by
        rcases List.mem_append.mp h with y | y
        · exact .inl y
        · exact .inr (List.mem_singleton.mp y)
      cases c with
      | ws t =>
        rcases split t lc with y | rfl
        · exact .inr y
        · exact .inl (by simp)
      | ent t =>
        rcases split t lc with y | rfl
        · exact .inr y
        · exact .inl (by simp)
      | que t =>
        rcases split t lc with y | rfl
        · exact .inr y
        · exact .inl (by simp)
      | reg t l =>
        obtain ⟨h1, h2⟩ := lc
        have h2 : l ∈ (if t = S.next then [] else S.ents t) := h2
        by_cases nt : t = S.next
        · rw [if_pos nt] at h2
          cases h2
        · rw [if_neg nt] at h2
          rcases split t h1 with y | y
          · exact .inr ⟨y, h2⟩
          · exact absurd y nt
      | _ => exact .inr lc
    · simp only [List.mem_cons, List.not_mem_nil, or_false] at hc
      rcases hc with rfl | rfl | rfl | rfl
      · rw [ao _ (by intro z; cases z) (by intro z; cases z) (by intro z; cases z), upd_same, ent_put, if_neg hnx, wf]
        rfl
      · rw [aw, upd_ne nxD, h2x]
        show _ = some (wsO C.W (setA dx (.ws S.next) dx2 (.ws S.next)) _ _)
        rw [setA_same, ae, aq]
      · rw [ae, upd_ne neD, h2e]
        show _ = some (HO.dK (entKV (if S.next = S.next then [] else S.ents S.next) _))
        rw [if_pos rfl]
        rfl
      · rw [aq, upd_ne nqD, h2q]
        show _ = some (HO.lst ((if S.next = S.next then [] else S.que S.next).map V.int))
        rw [if_pos rfl]
        rfl
    · have n1 : c ≠ .setD := fun z => hc (by rw [z]; simp)
      have n2 : c ≠ .ws S.next := fun z => hc (by rw [z]; simp)
      have n3 : c ≠ .ent S.next := fun z => hc (by rw [z]; simp)
      have n4 : c ≠ .que S.next := fun z => hc (by rw [z]; simp)
      refine ⟨ao c n2 n3 n4, ?_⟩
      cases c with
      | setD => exact absurd rfl n1
      | ws t =>
        have nt : t ≠ S.next := fun z => n2 (by rw [z])
        show wsO C.W (setA dx (.ws S.next) dx2 (.ws t)) _ _ = _
        rw [setA_ne n2, ao (.ent t) (by intro z; cases z) (fun z => nt (by cases z; rfl)) (by intro z; cases z), ao (.que t) (by intro z; cases z) (by intro z; cases z) (fun z => nt (by cases z; rfl))]
        rfl
      | ent t =>
        have nt : t ≠ S.next := fun z => n3 (by rw [z])
        show HO.dK (entKV (if t = S.next then [] else S.ents t) _) = _
        rw [if_neg nt]
        rfl
      | que t =>
        have nt : t ≠ S.next := fun z => n4 (by rw [z])
        show HO.lst ((if t = S.next then [] else S.que t).map V.int) = _
        rw [if_neg nt]
        rfl
      | _ => rfl
    · simp only [List.mem_cons, List.not_mem_nil, or_false] at hc
      rcases hc with rfl | rfl | rfl | rfl
      · exact .inl ⟨ao _ (by intro z; cases z) (by intro z; cases z) (by intro z; cases z), trivial⟩
      · exact .inr (by rw [aw]; exact hx)
      · exact .inr (by rw [ae]; exact he)
      · exact .inr (by rw [aq]; exact hq)
    · simp only [List.mem_cons, List.not_mem_nil, or_false] at hc hc'
      have oD : setA (setA (setA ad (.ws S.next) x) (.ent S.next) e) (.que S.next) q .setD = ad .setD := ao _ (by intro z; cases z) (by intro z; cases z) (by intro z; cases z)
      rcases hc with rfl | rfl | rfl | rfl
      · rw [oD, hD1] at z
        cases z
      · rcases hc' with rfl | rfl | rfl | rfl
        · rw [aw, oD] at ee
          exact absurd ee nxD
        · rfl
        · rw [aw, ae] at ee
          exact absurd ee.symm nex
        · rw [aw, aq] at ee
          exact absurd ee.symm nqx
      · rcases hc' with rfl | rfl | rfl | rfl
        · rw [ae, oD] at ee
          exact absurd ee neD
        · rw [aw, ae] at ee
          exact absurd ee nex
        · rfl
        · rw [ae, aq] at ee
          exact absurd ee neq
      · rcases hc' with rfl | rfl | rfl | rfl
        · rw [aq, oD] at ee
          exact absurd ee nqD
        · rw [aw, aq] at ee
          exact absurd ee nqx
        · rw [ae, aq] at ee
          exact absurd ee.symm neq
        · rfl
    · rw [upd_ne (nb .setD (by simp) trivial)]
      exact s2 _ _ ee
end

noncomputable def newSys (P N : Int) : Sys where
  P := P
  N := N
  next := 0
  procs := [0]
  tab := fun _ => List.replicate N.toNat none
  srcs := []
  unit := fun _ => (0, false)
  sets := []
  ents := fun _ => []
  reg := fun _ _ => ⟨0, 0, "level", true⟩
  que := fun _ => []
section
variable {P : Program} {w : World} {K : PySem.W.Frag} {mg : Str → Option Value} {base : Heap} {C : Cs}
structure LimTxt (K : PySem.W.Frag) (mg : Str → Option Value) (CS : Addr) : Prop where
  lp : ∃ t, mg "LEAST_PROCESSES" = some (.int 2 t)
  ln : ∃ t, mg "LEAST_NUMBERS" = some (.int 3 t)
  mp : ∃ u, Con K CS "MOST_PROCESSES" (.int 6) u
  mn : ∃ u, Con K CS "MOST_NUMBERS" (.int 8) u
inductive PspSysInit (C : Cs) (vs : List V) (H : Hp) (Q : VK) : Prop
  | mk (x dx0 : Addr) (p n : Int) (h_0 : vs = [.ref x, .int p, .int n]) (h_1 : H x = some (.ins C.S dx0 [])) (h_2 : 2 ≤ p) (h_3 : p ≤ 6) (h_4 : 3 ≤ n) (h_5 : n ≤ 8) (h_6 : ∀ H' ad dx, ad .box = x → At C H' (newSys p n) ad dx → (∀ b o, b ≠ x → H b = some o → H' b = some o) → (∀ b, own (newSys p n) ad b → b = x ∨ H b = none) → Q .non H') : PspSysInit C vs H Q
noncomputable def spSysInit (C : Cs) : Sp := fun vs H Q _ => PspSysInit C vs H Q
theorem scSysInit : FnScope ["self", "processes", "numbers"] ["self", "processes", "numbers"] (defScope sSysInit) := ⟨rfl, rfl, rfl, by decide +kernel, rfl, by decide +kernel, by decide +kernel⟩
noncomputable def initA (x td sd ud tl : Addr) : Cell → Addr
  | .box => x
  | .tabD => td
  | .srcD => sd
  | .setD => ud
  | _ => tl
theorem okSysInit {dvs : List V} {kws : List (Str × V)} {f fB : Addr} {fd fdB : FuncData} (F : FunD K "__init__" "System.__init__" (defArgs sSysInit) (defBody sSysInit) (defScope sSysInit) dvs kws f fd) (T : ClsF K C.S sysF) (L : LimTxt K mg C.S)
    (GB : DO P w K mg base 2 "is_between" ["x", "least", "most"] spIsBetween fB fdB) : FnOk P w K mg base CX0 3 f fd ["self", "processes", "numbers"] (spSysInit C) := by
  refine F.ok scSysInit (fun vs H Q E h => ?_) (fun cdv A outer s H vs Q E hr h => ?_)
  · obtain ⟨_, _, _, _, rfl, _⟩ := h
    rfl
  · obtain ⟨x, dx0, p, n, rfl, hx, p0, p1, n0, n1, k⟩ := h
    obtain ⟨tp, lp⟩ := L.lp
    obtain ⟨tn, ln⟩ := L.ln
    obtain ⟨up, mp⟩ := L.mp
    obtain ⟨un, mn⟩ := L.mn
    refine ⟨_, pss_cons (ps_if (pt_not (pt_val (pe_call GB.g hr (by rfl) GB.m GB.k GB.b .nil pass0 (pa_cons (pv 1) (pa_cons (pe_glob (v := .int 2) (by rfl) lp ⟨_, rfl⟩) (pa_cons (pe_con (pv 0) rfl) pa_nil)))))) (pss_one ps_never) pss_nil)
      (pss_cons (ps_if (pt_not (pt_val (pe_call GB.g hr (by rfl) GB.m GB.k GB.b .nil pass0 (pa_cons (pv 2) (pa_cons (pe_glob (v := .int 3) (by rfl) ln ⟨_, rfl⟩) (pa_cons (pe_con (pv 0) rfl) pa_nil)))))) (pss_one ps_never) pss_nil)
      (pss_cons (ps_fld (pv 0) (pv 1) rfl) (pss_cons (ps_fld (pv 0) (pv 2) rfl)
      (pss_cons (ps_fld (pv 0) (pe_disp (pps_cons pe_int (pe_op op_rep (pe_lst (pa_cons pe_non pa_nil)) (pv 2)) pps_nil) (by rfl) (by rfl) (fun z => by cases z) (by decide)) rfl)
      (pss_cons (ps_fld (pv 0) pe_dnewK rfl) (pss_cons (ps_fld (pv 0) pe_dnewK rfl) (pss_one (ps_fld (pv 0) pe_int rfl)))))))), ?_⟩
    walk_at "wn"
    refine ⟨_, rfl, x, C.S, dx0, _, _, _, rfl, hx, T.cl, mp, rfl, ?_⟩
    refine ⟨p, 2, 6, rfl, ?_⟩
    rw [decide_eq_true p0, decide_eq_true p1]
    refine ⟨_, rfl, ?_⟩
    walk_at "wn"
    refine ⟨_, rfl, _, rfl, x, C.S, dx0, _, _, _, rfl, hx, T.cl, mn, rfl, ?_⟩
    refine ⟨n, 3, 8, rfl, ?_⟩
    rw [decide_eq_true n0, decide_eq_true n1]
    refine ⟨_, rfl, ?_⟩
    refine ⟨_, rfl, _, rfl, x, C.S, dx0, _, rfl, hx, T.cl, T.no _ (by decide), by show 0 < 1000; decide, ?_⟩
    refine ⟨_, rfl, _, rfl, x, C.S, dx0, _, rfl, upd_same, T.cl, T.no _ (by decide), by show 1 < 1000; decide, ?_⟩
    have g1 : ∀ b o, b ≠ x → H b = some o → upd (upd H x (.ins C.S dx0 (putF "process_limit" (V.int p) []))) x (.ins C.S dx0 (putF "number_limit" (V.int n) (putF "process_limit" (V.int p) []))) b = some o := fun b o nb e => by rw [upd_ne nb, upd_ne nb]; exact e
    have x1 : upd (upd H x (.ins C.S dx0 (putF "process_limit" (V.int p) []))) x (.ins C.S dx0 (putF "number_limit" (V.int n) (putF "process_limit" (V.int p) []))) x = some (.ins C.S dx0 [("process_limit", .int p), ("number_limit", .int n)]) := upd_same
    generalize upd (upd H x (.ins C.S dx0 (putF "process_limit" (V.int p) []))) x (.ins C.S dx0 (putF "number_limit" (V.int n) (putF "process_limit" (V.int p) []))) = H1 at g1 x1
    have fr : ∀ {H' : Hp} {l : Addr}, (∀ b o, b ≠ x → H b = some o → H' b = some o) → H' l = none → l ≠ x → H l = none := fun {H'} {l} g e nl => by
      cases z : H l with
      | none => rfl
      | some o => rw [g l o nl z] at e; cases e
    intro td htd
    have ntx : td ≠ x := fun z => by rw [z, x1] at htd; cases htd
    have s2 := Same.new' (o := .dK []) htd
    refine ⟨by show 1 ≤ sizeLine; decide, fun l0 hl0 => ?_⟩
    have s3 := Same.new' (o := .lst [V.non]) hl0
    have l0' : upd (upd H1 td (.dK [])) l0 (.lst [V.non]) l0 = some (.lst [V.non]) := upd_same
    refine ⟨_, rfl, l0, n, _, rfl, rfl, l0', by omega, by omega, ?_, fun tl htl => ?_⟩
    · show 1 * n.toNat ≤ sizeLine
      rw [sizeLine_eq]
      omega
    have s4 := Same.new' (o := .lst (List.replicate n.toNat [V.non]).flatten) htl
    have td4 : upd (upd (upd H1 td (.dK [])) l0 (.lst [V.non])) tl (.lst (List.replicate n.toNat [V.non]).flatten) td = some (.dK []) := s4 _ _ (s3 _ _ upd_same)
    have x4 := s4 _ _ (s3 _ _ (s2 _ _ x1))
    have tl4 : upd (upd (upd H1 td (.dK [])) l0 (.lst [V.non])) tl (.lst (List.replicate n.toNat [V.non]).flatten) tl = some (.lst (List.replicate n.toNat [V.non]).flatten) := upd_same
    have g4 : ∀ b o, b ≠ x → H b = some o → upd (upd (upd H1 td (.dK [])) l0 (.lst [V.non])) tl (.lst (List.replicate n.toNat [V.non]).flatten) b = some o := fun b o nb e => s4 _ _ (s3 _ _ (s2 _ _ (g1 b o nb e)))
    have hd0 : H td = none := fr g1 htd ntx
    have ntlx : tl ≠ x := fun z => by rw [z] at htl; rw [s3 _ _ (s2 _ _ x1)] at htl; cases htl
    have htl0 : H tl = none := fr (H' := upd (upd H1 td (.dK [])) l0 (.lst [V.non])) (fun b o nb e => s3 _ _ (s2 _ _ (g1 b o nb e))) htl ntlx
    generalize upd (upd (upd H1 td (.dK [])) l0 (.lst [V.non])) tl (.lst (List.replicate n.toNat [V.non]).flatten) = H4 at td4 x4 tl4 g4
    have ntd : tl ≠ td := ne_of tl4 td4 (by intro z; cases z)
    refine ⟨td4, [(Sum.inl 0, .ref tl)], rfl, by show 1 ≤ 15; decide, ?_⟩
    have g5 : ∀ b o, b ≠ x → H b = some o → upd H4 td (.dK (mergeK [] [((Sum.inl 0 : Key), V.ref tl)])) b = some o := fun b o nb e => by rw [upd_ne (ne_of_none e hd0)]; exact g4 b o nb e
    have x5 : upd H4 td (.dK (mergeK [] [((Sum.inl 0 : Key), V.ref tl)])) x = _ := (upd_ne (Ne.symm ntx)).trans x4
    have tl5 : upd H4 td (.dK (mergeK [] [((Sum.inl 0 : Key), V.ref tl)])) tl = _ := (upd_ne ntd).trans tl4
    have td5 : upd H4 td (.dK (mergeK [] [((Sum.inl 0 : Key), V.ref tl)])) td = some (.dK [((Sum.inl 0 : Key), V.ref tl)]) := upd_same
    generalize upd H4 td (.dK (mergeK [] [((Sum.inl 0 : Key), V.ref tl)])) = H5 at g5 x5 tl5 td5
    refine ⟨_, rfl, x, C.S, dx0, _, rfl, x5, T.cl, T.no _ (by decide), by show 2 < 1000; decide, ?_⟩
    have g6 : ∀ b o, b ≠ x → H5 b = some o → upd H5 x (.ins C.S dx0 (putF "tables" (V.ref td) [("process_limit", .int p), ("number_limit", .int n)])) b = some o := fun b o nb e => by rw [upd_ne nb]; exact e
    have x6 : upd H5 x (.ins C.S dx0 (putF "tables" (V.ref td) [("process_limit", .int p), ("number_limit", .int n)])) x = some (.ins C.S dx0 [("process_limit", .int p), ("number_limit", .int n), ("tables", .ref td)]) := upd_same
    generalize upd H5 x (.ins C.S dx0 (putF "tables" (V.ref td) [("process_limit", .int p), ("number_limit", .int n)])) = H6 at g6 x6
    intro sd hsd
    have nsx : sd ≠ x := fun z => by rw [z, x6] at hsd; cases hsd
    have nst : sd ≠ td := fun z => by rw [z, g6 _ _ ntx td5] at hsd; cases hsd
    have hsd0 : H sd = none := fr (fun b o nb e => g6 b o nb (g5 b o nb e)) hsd nsx
    have s7 := Same.new' (o := .dK []) hsd
    refine ⟨_, rfl, x, C.S, dx0, _, rfl, s7 _ _ x6, T.cl, T.no _ (by decide), by show 3 < 1000; decide, ?_⟩
    have g8 : ∀ b o, b ≠ x → H6 b = some o → upd (upd H6 sd (.dK [])) x (.ins C.S dx0 (putF "sources" (V.ref sd) [("process_limit", .int p), ("number_limit", .int n), ("tables", .ref td)])) b = some o := fun b o nb e => by rw [upd_ne nb]; exact s7 _ _ e
    have sd8 : upd (upd H6 sd (.dK [])) x (.ins C.S dx0 (putF "sources" (V.ref sd) [("process_limit", .int p), ("number_limit", .int n), ("tables", .ref td)])) sd = some (.dK []) := by rw [upd_ne nsx]; exact upd_same
    have x8 : upd (upd H6 sd (.dK [])) x (.ins C.S dx0 (putF "sources" (V.ref sd) [("process_limit", .int p), ("number_limit", .int n), ("tables", .ref td)])) x = some (.ins C.S dx0 [("process_limit", .int p), ("number_limit", .int n), ("tables", .ref td), ("sources", .ref sd)]) := upd_same
    generalize upd (upd H6 sd (.dK [])) x (.ins C.S dx0 (putF "sources" (V.ref sd) [("process_limit", .int p), ("number_limit", .int n), ("tables", .ref td)])) = H8 at g8 sd8 x8
    intro ud hud
    have nux : ud ≠ x := fun z => by rw [z, x8] at hud; cases hud
    have nut : ud ≠ td := fun z => by rw [z, g8 _ _ ntx (g6 _ _ ntx td5)] at hud; cases hud
    have nus : ud ≠ sd := fun z => by rw [z, sd8] at hud; cases hud
    have hud0 : H ud = none := fr (fun b o nb e => g8 b o nb (g6 b o nb (g5 b o nb e))) hud nux
    have s9 := Same.new' (o := .dK []) hud
    refine ⟨_, rfl, x, C.S, dx0, _, rfl, s9 _ _ x8, T.cl, T.no _ (by decide), by show 4 < 1000; decide, ?_⟩
    refine ⟨_, rfl, x, C.S, dx0, _, rfl, upd_same, T.cl, T.no _ (by decide), by show 5 < 1000; decide, ?_⟩
    have fin : ∀ b o, b ≠ x → upd H8 ud (.dK []) b = some o → upd (upd (upd H8 ud (.dK [])) x (.ins C.S dx0 (putF "sets" (V.ref ud) [("process_limit", .int p), ("number_limit", .int n), ("tables", .ref td), ("sources", .ref sd)]))) x (.ins C.S dx0 (putF "next_thing" (V.int 0) (putF "sets" (V.ref ud) [("process_limit", .int p), ("number_limit", .int n), ("tables", .ref td), ("sources", .ref sd)]))) b = some o := fun b o nb e => by rw [upd_ne nb, upd_ne nb]; exact e
    have xf : upd (upd (upd H8 ud (.dK [])) x (.ins C.S dx0 (putF "sets" (V.ref ud) [("process_limit", .int p), ("number_limit", .int n), ("tables", .ref td), ("sources", .ref sd)]))) x (.ins C.S dx0 (putF "next_thing" (V.int 0) (putF "sets" (V.ref ud) [("process_limit", .int p), ("number_limit", .int n), ("tables", .ref td), ("sources", .ref sd)]))) x = some (sysO C.S dx0 (newSys p n) td sd ud) := upd_same
    generalize upd (upd (upd H8 ud (.dK [])) x (.ins C.S dx0 (putF "sets" (V.ref ud) [("process_limit", .int p), ("number_limit", .int n), ("tables", .ref td), ("sources", .ref sd)]))) x (.ins C.S dx0 (putF "next_thing" (V.int 0) (putF "sets" (V.ref ud) [("process_limit", .int p), ("number_limit", .int n), ("tables", .ref td), ("sources", .ref sd)]))) = HF at fin xf
    have tdF : HF td = some (.dK [((Sum.inl 0 : Key), V.ref tl)]) := fin _ _ ntx (s9 _ _ (g8 _ _ ntx (g6 _ _ ntx td5)))
    have sdF : HF sd = some (.dK []) := fin _ _ nsx (s9 _ _ sd8)
    have udF : HF ud = some (.dK []) := fin _ _ nux upd_same
    have tlF : HF tl = some (.lst (List.replicate n.toNat [V.non]).flatten) := fin _ _ ntlx (s9 _ _ (g8 _ _ ntlx (g6 _ _ ntlx tl5)))
    have et : (List.replicate n.toNat [V.non]).flatten = (List.replicate n.toNat (none : Option Int)).map optV := by
      rw [List.map_replicate]
      have : ∀ m : Nat, (List.replicate m [V.non]).flatten = List.replicate m V.non := by
        intro m
        induction m with
        | zero => rfl
        | succ m ih => rw [List.replicate_succ, List.flatten_cons, ih]; rfl
      exact this _
    rw [et] at tlF
    have lt0 : ∀ t, live (newSys p n) (.tab t) → t = 0 := fun t h => List.mem_singleton.mp h
    have no : ∀ t : Int, t ∉ ([] : List Int) := fun t h => nomatch h
    refine k HF (initA x td sd ud tl) (fun _ => dx0) rfl ⟨fun c hc => ?_, fun c c' hc hc' z => ?_⟩ (fun b o nb e => fin b o nb (s9 _ _ (g8 b o nb (g6 b o nb (g5 b o nb e))))) (fun b hb => ?_)
    · cases c with
      | box => exact xf
      | tabD => exact tdF
      | srcD => exact sdF
      | setD => exact udF
      | tab t => exact tlF
      | srcT t => exact absurd hc (no t)
      | ws t => exact absurd hc (no t)
      | ent t => exact absurd hc (no t)
      | que t => exact absurd hc (no t)
      | reg t l => exact absurd hc.1 (no t)
    · have n_xt : x ≠ td := Ne.symm ntx
      have n_ts : tl ≠ sd := ne_of tlF sdF (by intro z; cases z)
      have n_tu : tl ≠ ud := ne_of tlF udF (by intro z; cases z)
      have dead : ∀ {c : Cell}, live (newSys p n) c → c = .box ∨ c = .tabD ∨ c = .srcD ∨ c = .setD ∨ c = .tab 0 := fun {c} hc => by
        cases c with
        | box => exact .inl rfl
        | tabD => exact .inr (.inl rfl)
        | srcD => exact .inr (.inr (.inl rfl))
        | setD => exact .inr (.inr (.inr (.inl rfl)))
        | tab t => exact .inr (.inr (.inr (.inr (by rw [lt0 t hc]))))
        | srcT t => exact absurd hc (no t)
        | ws t => exact absurd hc (no t)
        | ent t => exact absurd hc (no t)
        | que t => exact absurd hc (no t)
        | reg t l => exact absurd hc.1 (no t)
      rcases dead hc with rfl | rfl | rfl | rfl | rfl <;> rcases dead hc' with rfl | rfl | rfl | rfl | rfl <;> first | rfl | (exfalso; revert z; first | exact fun z => n_xt z | exact fun z => n_xt z.symm | exact fun z => nsx z | exact fun z => nsx z.symm | exact fun z => nux z | exact fun z => nux z.symm | exact fun z => ntlx z | exact fun z => ntlx z.symm | exact fun z => nst z | exact fun z => nst z.symm | exact fun z => nut z | exact fun z => nut z.symm | exact fun z => nus z | exact fun z => nus z.symm | exact fun z => ntd z | exact fun z => ntd z.symm | exact fun z => n_ts z | exact fun z => n_ts z.symm | exact fun z => n_tu z | exact fun z => n_tu z.symm)
    · obtain ⟨c, hc, rfl⟩ := hb
      cases c with
      | box => exact .inl rfl
      | tabD => exact .inr hd0
      | srcD => exact .inr hsd0
      | setD => exact .inr hud0
      | tab t => exact .inr htl0
      | srcT t => exact absurd hc (no t)
      | ws t => exact absurd hc (no t)
      | ent t => exact absurd hc (no t)
      | que t => exact absurd hc (no t)
      | reg t l => exact absurd hc.1 (no t)
end

noncomputable abbrev sDrop : Stmt := meth 27 5
noncomputable abbrev sChange : Stmt := meth 31 14
noncomputable abbrev sRemove : Stmt := meth 31 15
/-! o.m(e, .., k = v, ..) -/
noncomputable def tMethK (C : Addr) (m : Str) (n j : Nat) (sp : Sp) (gV : List V → List V → List V) (E : XK) (ta : TE) (t tk : TA) : TE := fun σ H Q => ta σ H fun x H1 => ∃ a dx fs, x = .ref a ∧ H1 a = some (.ins C dx fs) ∧ fs.lookup m = none ∧ t σ H1 fun vs H2 => tk σ H2 fun zs H3 => vs.length = n ∧ zs.length = j ∧ sp (gV (x :: vs) zs) H3 Q E
section
variable {X : Cx} {CX : CXT} {k n : Nat} {f C : Addr} {fd : FuncData} {ps ks : List Str} {sp : Sp} {E : XK} {m : Str} {apos pos : Pos} {o e : Expr} {es : List Expr} {kws : List Keyword} {ta : TE} {t tk : TA} {g : List Value → List Value → List Value} {gV : List V → List V → List V}
theorem pe_methK {pl : Sem Bool} (he : PE X o ta) (c : Cls X.K C) (hm : Meth X.K C m f) (F : FnOk X.prog X.w X.K X.mg X.base CX k f fd ps sp) (hr : Room k X.A) (hb : KBn X.K fd ps (n + 1) ks g gV) (hx : Passes CX X E) (ha : PA X (e :: es) t) (hkw : PK X kws tk)
    (hall : (backToKw pos (keywordEach kws X.env)).all (·.1.isSome) = true := by rfl) (hks : (backToKw pos (keywordEach kws X.env)).filterMap (·.1) = ks := by rfl)
    (hst : starEach (e :: es) X.env = (false, eval e X.env) :: starEach es X.env := by rfl) (hpl : ((backTo pos (starEach (e :: es) X.env)).any (·.1) || (backToKw pos (keywordEach kws X.env)).any (·.1.isNone)) = false := by rfl)
    (ht : eval (.Call (.Attribute o m apos) (e :: es) kws pos) X.env = (do
      let ov ← eval o X.env
      standAt apos.atName
      let (f, first) ← holding [ov] (getMethod ov m pl)
      callWith pos f first (backTo pos (starEach (e :: es) X.env)) (backToKw pos (keywordEach kws X.env))) := by rfl) :
    PE X (.Call (.Attribute o m apos) (e :: es) kws pos) (tMethK C m n ks.length sp gV E ta t tk) := by
  refine ⟨fun pins s σ H Q I h => ?_⟩
  refine PySem.W.methodCall_KW (pl := pl) (thn (he.run pins s σ H _ I h) fun u s1 ⟨x, H1, I1, rx, a, dx, fs, ex, ea, l, q⟩ => ?_) ht
  subst ex
  obtain rfl : u = Value.ref a := rx
  refine getmeth_ok I1 ea c hm l ?_
  refine PySem.W.callWith_KW (first := [.ref a]) (h₀ := X.base) I.ok.mod.kin hm.kp hall (thn (ha.run pos pins s1 σ H1 _ I1 q) fun us s2 ⟨vs, H2, I2, r, q2⟩ => ?_) hpl hst
  refine thn (hkw.run pos pins s2 σ H2 _ I2 q2) fun ws s3 ⟨zs, H3, I3, rz, l1, l2, q3⟩ => ⟨I3.kIn, ?_⟩
  rw [hks]
  exact run_fnN (us := .ref a :: us) (vs := .ref a :: vs) F hr hb hx I3 (.cons rfl r) rz (by rw [List.length_cons, l1]) l2 q3
end
/-! WaitingSet.drop -/
theorem ent_drop (ls : List Int) (ad : Int → Addr) (l : Int) : dropK (entKV ls ad) (Sum.inl l) = entKV (ls.filter fun x => decide (x ≠ l)) ad := by
  unfold dropK entKV
  induction ls with
  | nil => rfl
  | cons x ls ih =>
    rw [List.map_cons, List.filter_cons, List.filter_cons, ih]
    by_cases h : x = l
    · have e1 : decide ((Sum.inl x : Key) ≠ Sum.inl l) = false := decide_eq_false fun z => z (by rw [h])
      have e2 : decide (x ≠ l) = false := decide_eq_false fun z => z h
      rw [e2]
      show (if decide ((Sum.inl x : Key) ≠ Sum.inl l) = true then _ else _) = _
      rw [e1]
      rfl
    · have e1 : decide ((Sum.inl x : Key) ≠ Sum.inl l) = true := decide_eq_true fun z => h (Sum.inl.inj z)
      have e2 : decide (x ≠ l) = true := decide_eq_true h
      rw [e2]
      show (if decide ((Sum.inl x : Key) ≠ Sum.inl l) = true then _ else _) = _
      rw [e1]
      rfl
section
variable {P : Program} {w : World} {K : PySem.W.Frag} {mg : Str → Option Value} {base : Heap} {CR CW : Addr}
noncomputable def without (l : Int) (ls : List Int) : List Int := ls.filter fun x => decide (x ≠ l)
inductive PspDrop (CW : Addr) (vs : List V) (H : Hp) (Q : VK) : Prop
  | mk (a dx e q : Addr) (l : Int) (qs ls : List Int) (ad : Int → Addr) (h_0 : vs = [.ref a, .int l]) (h_1 : H a = some (wsO CW dx e q)) (h_2 : H q = some (.lst (qs.map V.int))) (h_3 : H e = some (.dK (entKV ls ad))) (h_4 : l ∈ ls) (h_5 : qs.length ≤ 10000) (h_6 : ∀ H' q', H q' = none → H' a = some (wsO CW dx e q') → H' q' = some (.lst ((without l qs).map V.int)) → H' e = some (.dK (entKV (without l ls) ad)) → (∀ b o, b ≠ a → b ≠ e → H b = some o → H' b = some o) → Q .non H') : PspDrop CW vs H Q
noncomputable def spDrop (CW : Addr) : Sp := fun vs H Q _ => PspDrop CW vs H Q
theorem scDrop : FnScope ["self", "label", "pending"] ["self", "label"] (defScope sDrop) := ⟨rfl, rfl, rfl, by decide +kernel, rfl, by decide +kernel, by decide +kernel⟩
theorem okDrop {f : Addr} {fd : FuncData} (F : Fun K "drop" "WaitingSet.drop" sDrop f fd) (T : ClsF K CW wsF) : FnOk P w K mg base CX0 1 f fd ["self", "label"] (spDrop CW) := by
  refine F.ok scDrop (fun vs H Q E h => ?_) (fun cdv A outer s H vs Q E hr h => ?_)
  · obtain ⟨_, _, _, _, _, _, _, _, rfl, _⟩ := h
    rfl
  · obtain ⟨a, dx, e, q, l, qs, ls, ad, rfl, ha, hq, he, hl, hz, k⟩ := h
    have hu := hu_of hr
    refine ⟨_, pss_cons (ps_ddel (pe_fld (pv 0) rfl) (pv 1))
      (pss_one (ps_fld (pv 0) (pe_lc (own := [("pending", 2)]) (g := gName 2) (tt := tTest (tOp rNe (tVar 2) (tVar 1))) (te := tVar 2) rfl scDrop.nd (pi_list (pe_fld (pv 0) rfl)) (blkOk_by (N := ["self", "label", "pending"]) (sc := defScope sDrop) (by decide +kernel)) (fun _ _ _ _ _ => pg_name (i := 2) scDrop.nd rfl (Or.inl rfl)) (fun _ _ _ _ _ => pts_one (pt_cmpR op_ne (pv 2) (pv 1) (nomark _))) (fun _ _ _ _ _ => pv 2)) rfl)), ?_⟩
    have nae : a ≠ e := ne_of ha he (by intro z; cases z)
    have nqe : q ≠ e := ne_of hq he (by intro z; cases z)
    refine ⟨_, rfl, a, CW, dx, _, _, rfl, ha, T.cl, T.no _ (by decide), rfl, ?_⟩
    refine ⟨_, rfl, e, _, Sum.inl l, rfl, he, rfl, by rw [ent_val, if_pos hl]; rfl, ?_⟩
    rw [ent_drop]
    have g1 : ∀ b o, b ≠ e → H b = some o → upd H e (.dK (entKV (ls.filter fun x => decide (x ≠ l)) ad)) b = some o := fun b o n z => by rw [upd_ne n]; exact z
    have e1 : upd H e (.dK (entKV (ls.filter fun x => decide (x ≠ l)) ad)) e = some (.dK (entKV (without l ls) ad)) := upd_same
    generalize upd H e (.dK (entKV (ls.filter fun x => decide (x ≠ l)) ad)) = H1 at g1 e1
    have a1 := g1 _ _ nae ha
    have q1 := g1 _ _ nqe hq
    refine ⟨_, rfl, a, CW, dx, _, _, rfl, a1, T.cl, T.no _ (by decide), rfl, ?_⟩
    refine ⟨q, rfl, ⟨_, SqL.of q1⟩, fun D hD => lc_list (K := K) (a := q) (xs := qs.map V.int) (fun i H' => Same H1 H' ∧ H' D = some (.lst ((without l (qs.take i)).map V.int))) ⟨Same.new' hD, by rw [upd_same]; rfl⟩ (fun i H' _ h => SqL.of (h.1 _ _ q1)) ?_ ?_⟩
    · rintro i v H' hv ⟨sm, hD'⟩
      rw [List.getElem?_map] at hv
      cases el : qs[i]? with
      | none => rw [el] at hv; cases hv
      | some x =>
      rw [el] at hv
      cases hv
      obtain ⟨hi, _⟩ := List.getElem?_eq_some_iff.mp el
      have et : without l (qs.take (i + 1)) = without l (qs.take i) ++ (if x ≠ l then [x] else []) := by
        unfold without
        rw [List.take_add_one, el, List.filter_append]
        by_cases h : x = l
        · rw [if_neg (fun z => z h)]
          simp [h]
        · rw [if_pos h]
          simp [h]
      refine ⟨rfl, ?_⟩
      show tTest _ _ _ _
      walk_at "wn"
      by_cases h : x = l
      · subst h
        rw [et, if_neg (show ¬ (x ≠ x) from fun z => z rfl), List.append_nil]
        walk_at "wn"
        exact ⟨sm, hD'⟩
      · rw [decide_eq_false fun z => h (V.int.inj z), et, if_pos h, List.map_append]
        walk_at "wn"
        refine ⟨_, hD', ?_, fun b o z => ?_, upd_same⟩
        · rw [List.length_map]
          have : (without l (qs.take i)).length ≤ (qs.take i).length := List.length_filter_le _ _
          rw [List.length_take] at this
          rw [sizeLine_eq]
          omega
        · rw [upd_ne (ne_of_none z hD)]
          exact sm _ _ z
    · rintro H' ⟨sm, hD'⟩
      have hD0 : H D = none := by
        cases z : H D with
        | none => rfl
        | some o =>
          by_cases n : D = e
          · rw [n, e1] at hD
            cases hD
          · rw [g1 _ _ n z] at hD
            cases hD
      have eq : without l (qs.take (qs.map V.int).length) = without l qs := by rw [List.length_map, List.take_length]
      rw [eq] at hD'
      refine ⟨_, rfl, a, CW, dx, _, rfl, sm _ _ a1, T.cl, T.no _ (by decide), by show 2 < 1000; decide, ?_⟩
      have naD : a ≠ D := ne_of_none a1 hD
      have neD : e ≠ D := ne_of_none e1 hD
      refine k _ D hD0 upd_same ((upd_ne (Ne.symm naD)).trans hD') ((upd_ne (Ne.symm nae)).trans (sm _ _ e1)) fun b o n1 n2 z => ?_
      rw [upd_ne n1]
      exact sm _ _ (g1 _ _ n2 z)
end
/-! System.change, System.remove -/
noncomputable def changed (S : Sys) (s l : Int) (r : Reg) : Sys := { S with
  reg := fun j i => if j = s ∧ i = l then r else S.reg j i
  que := fun j => if j = s then (if ready S r.src = true then qAdd l (S.que s) else S.que s) else S.que j }
noncomputable def dropped (S : Sys) (s l : Int) : Sys := { S with
  ents := fun j => if j = s then without l (S.ents s) else S.ents j
  que := fun j => if j = s then without l (S.que s) else S.que j }
section
variable {P : Program} {w : World} {K : PySem.W.Frag} {mg : Str → Option Value} {base : Heap} {C : Cs}
inductive PspChange (C : Cs) (vs : List V) (H : Hp) (Q : VK) : Prop
  | mk (p sn n l s t : Int) (wd : Str) (S : Sys) (ad dx : Cell → Addr) (h_0 : vs = .ref (ad .box) :: [.int p, .int sn, .int n, .str wd]) (h_1 : At C H S ad dx) (h_2 : Means S p sn s) (h_3 : s ∈ S.sets) (h_4 : Means S p n t) (h_5 : t ∈ S.srcs) (h_6 : wd ∈ wordsL) (h_7 : (S.ents s).find? (keyOf (S.reg s) n t) = some l) (h_8 : Small S) (h_9 : ∀ H' ad' dx', At C H' (changed S s l ⟨n, t, wd, true⟩) ad' dx' → Step H S ad H' (changed S s l ⟨n, t, wd, true⟩) ad' → Q .non H') : PspChange C vs H Q
noncomputable def spChange (C : Cs) : Sp := fun vs H Q _ => PspChange C vs H Q
theorem scChange : FnScope ["self", "process", "set_number", "number", "word", "waiting", "source", "label"] ["self", "process", "set_number", "number", "word"] (defScope sChange) := ⟨rfl, rfl, rfl, by decide +kernel, rfl, by decide +kernel, by decide +kernel⟩
theorem okChange {f fW fS fD fO fR fI fP : Addr} {fd fdW fdS fdD fdO fdR fdI fdP : FuncData} (F : Fun K "change" "System.change" sChange f fd) (T : ClsF K C.S sysF) (TW : ClsF K C.W wsF)
    (GW : MO P w K mg base 5 C.S "set_at" ["self", "process", "set_number"] (spSetAt C) fW fdW) (GS : MO P w K mg base 5 C.S "source_at" ["self", "process", "number"] (spSourceAt C) fS fdS)
    (GD : DO P w K mg base 1 "is_word" ["x"] spIsWord fD fdD) (GO : MO P w K mg base 1 C.W "label_of" ["self", "number", "source"] (spLabelOf C.W C.R) fO fdO)
    (gR : mg "Registration" = some (.ref C.R)) (MR : Mk K C.R fR) (GR : FnOk P w K mg base CX0 1 fR fdR ["self", "number", "source", "word", "armed"] (spRegInit C.R)) (bR : Binds K fdR ["self", "number", "source", "word", "armed"] [])
    (GI : MO P w K mg base 1 C.S "is_ready" ["self", "source"] (spIsReady C) fI fdI) (GP : MO P w K mg base 2 C.W "put" ["self", "label", "kept", "ready"] (spPut C.W) fP fdP) :
    FnOk P w K mg base CX0 6 f fd ["self", "process", "set_number", "number", "word"] (spChange C) := by
  refine F.ok scChange (fun vs H Q E h => ?_) (fun cdv A outer s H vs Q E hr h => ?_)
  · obtain ⟨_, _, _, _, _, _, _, _, _, _, rfl, _⟩ := h
    rfl
  · obtain ⟨p, sn, n, l, s, t, wd, S, ad, dx, rfl, A0, Ms, hs, Mt, ht, hwd, hfind, sm0, k⟩ := h
    have hu := hu_of hr
    have hr1 : Room 1 _ := hr.mono (by decide)
    have hr2 : Room 2 _ := hr.mono (by decide)
    have hl : l ∈ S.ents s := List.mem_of_find?_eq_some hfind
    refine ⟨_, pss_cons (ps_set (i := 5) scChange.nd rfl (Or.inl rfl) (pe_meth (pv 0) T.cl GW.m GW.g hr GW.b .nil pass0 (pa_cons (pv 1) (pa_cons (pv 2) pa_nil))))
      (pss_cons (ps_set (i := 6) scChange.nd rfl (Or.inl rfl) (pe_meth (pv 0) T.cl GS.m GS.g hr GS.b .nil pass0 (pa_cons (pv 1) (pa_cons (pv 3) pa_nil))))
      (pss_cons (ps_if (pt_not (pt_val (pe_call GD.g hr1 (by rfl) GD.m GD.k GD.b .nil pass0 (pa_cons (pv 4) pa_nil)))) (pss_one ps_never) pss_nil)
      (pss_cons (ps_set (i := 7) scChange.nd rfl (Or.inl rfl) (pe_meth (pv 5) TW.cl GO.m GO.g hr1 GO.b .nil pass0 (pa_cons (pv 3) (pa_cons (pv 6) pa_nil))))
      (pss_cons (ps_if (pt_cmpR oIsN (pv 7) pe_non (nomark _)) (pss_one ps_never) pss_nil)
      (pss_one (ps_expr (pe_meth (pv 5) TW.cl GP.m GP.g hr2 GP.b .nil pass0 (pa_cons (pv 7) (pa_cons (pe_make MR GR hr2 (by rfl) gR bR .nil pass0 (pa_cons (pv 3) (pa_cons (pv 6) (pa_cons (pv 4) (pa_cons pe_bl pa_nil))))) (pa_cons (pe_meth (pv 0) T.cl GI.m GI.g hr1 GI.b .nil pass0 (pa_cons (pv 6) pa_nil)) pa_nil)))))))))), ?_⟩
    have hb := A0.at_ .box trivial
    walk_at "wn"
    refine ⟨_, rfl, ad .box, dx .box, _, rfl, hb, rfl, ?_⟩
    walk_at "wn"
    refine ⟨p, sn, s, S, ad, dx, rfl, A0, Ms, hs, ?_⟩
    walk_at "wn"
    refine ⟨_, rfl, ad .box, dx .box, _, rfl, hb, rfl, ?_⟩
    walk_at "wn"
    refine ⟨p, n, t, S, ad, dx, rfl, A0, Mt, ht, ?_⟩
    walk_at "wn"
    refine ⟨wd, rfl, hwd, ?_⟩
    refine ⟨_, rfl, ?_⟩
    walk_at "wn"
    have hw := A0.at_ (.ws s) hs
    refine ⟨_, rfl, ad (.ws s), dx (.ws s), _, rfl, hw, rfl, ?_⟩
    walk_at "wn"
    refine ⟨ad (.ws s), dx (.ws s), ad (.ent s), ad (.que s), n, t, S.ents s, fun j => ad (.reg s j), S.reg s, rfl, hw, A0.at_ (.ent s) hs, fun j hj => ⟨dx (.reg s j), A0.at_ (.reg s j) ⟨hs, hj⟩⟩, fun H1 s1 => ?_⟩
    rw [hfind]
    have A1 := A0.same s1
    have hw1 := A1.at_ (.ws s) hs
    have he1 := A1.at_ (.ent s) hs
    have hq1 := A1.at_ (.que s) hs
    walk_at "wn"
    rw [decide_eq_false (by intro z; cases z)]
    walk_at "wn"
    refine ⟨_, rfl, ad (.ws s), dx (.ws s), _, rfl, hw1, rfl, ?_⟩
    walk_at "wn"
    refine ⟨_, rfl, _, rfl, _, rfl, fun x dx2 hx hdx ndx => ?_⟩
    refine ⟨x, dx2, n, t, wd, true, rfl, upd_same, fun H2 k1 k2 => ⟨rfl, ?_⟩⟩
    have s2 : Same H1 H2 := fun b o e => by
      rw [k1 b (ne_of_none e hx), upd_ne (ne_of_none e hx), upd_ne (ne_of_none e hdx)]
      exact e
    have A2 := A1.same s2
    refine ⟨_, rfl, ad .box, dx .box, _, rfl, A2.at_ .box trivial, rfl, ?_⟩
    walk_at "wn"
    refine ⟨t, S, ad, dx, rfl, A2, ht, ?_⟩
    have he2 := A2.at_ (.ent s) hs
    have hq2 := A2.at_ (.que s) hs
    have z1 := sm0.que s hs
    have z2 := sm0.ents s hs
    refine ⟨ad (.ws s), dx (.ws s), ad (.ent s), ad (.que s), x, l, ready S t, S.que s, _, rfl, A2.at_ (.ws s) hs, hq2, he2, by omega, by unfold entKV; rw [List.length_map]; omega, fun H3 j1 j2 j3 => ?_⟩
    rw [ent_put, if_pos hl, reg_fun] at j1
    have nxe : x ≠ ad (.ent s) := fun z => by rw [z, he1] at hx; cases hx
    have nxq : x ≠ ad (.que s) := fun z => by rw [z, hq1] at hx; cases hx
    have fresh : H x = none := s1.free hx
    refine (fun z : At C _ _ _ _ ∧ Step H S ad _ _ _ => k H3 (setA ad (.reg s l) x) (setA dx (.reg s l) dx2) z.1 z.2) ?_
    refine At.re3 [.ent s, .que s, .reg s l] A0 (fun c lc => .inr ?_) (fun c hc lc => ?_) (fun c hc lc => ?_) (fun c hc lc => ?_) (fun c hc c' hc' lc lc' z e => ?_) (fun b o nb e => ?_) (setA_ne (by intro z; cases z))
    · cases c <;> exact lc
    · simp only [List.mem_cons, List.not_mem_nil, or_false] at hc
      rcases hc with rfl | rfl | rfl
      · rw [setA_ne (by intro z; cases z), j1]
        rfl
      · rw [setA_ne (by intro z; cases z), j2]
        show _ = some (HO.lst ((if s = s then _ else S.que s).map V.int))
        rw [if_pos rfl]
      · rw [setA_same, j3 x nxe nxq, k2]
        show _ = some (regO C.R (setA dx (.reg s l) dx2 (.reg s l)) (if s = s ∧ l = l then (⟨n, t, wd, true⟩ : Reg) else S.reg s l).num (if s = s ∧ l = l then (⟨n, t, wd, true⟩ : Reg) else S.reg s l).src (if s = s ∧ l = l then (⟨n, t, wd, true⟩ : Reg) else S.reg s l).word (if s = s ∧ l = l then (⟨n, t, wd, true⟩ : Reg) else S.reg s l).armed)
        rw [if_pos ⟨rfl, rfl⟩, setA_same]
    · have n1 : c ≠ .ent s := fun z => hc (by rw [z]; simp)
      have n2 : c ≠ .que s := fun z => hc (by rw [z]; simp)
      have n3 : c ≠ .reg s l := fun z => hc (by rw [z]; simp)
      refine ⟨setA_ne n3, ?_⟩
      cases c with
      | ent s' =>
        have ns : s' ≠ s := fun z => n1 (by rw [z])
        have ef : (fun j => setA ad (.reg s l) x (.reg s' j)) = fun j => ad (.reg s' j) := funext fun j => setA_ne fun z => ns (by cases z; rfl)
        show HO.dK (entKV (S.ents s') fun j => setA ad (.reg s l) x (.reg s' j)) = _
        rw [ef]
        rfl
      | que s' =>
        have ns : s' ≠ s := fun z => n2 (by rw [z])
        show HO.lst ((if s' = s then _ else S.que s').map V.int) = _
        rw [if_neg ns]
        rfl
      | reg s' l' =>
        have nr : ¬ (s' = s ∧ l' = l) := fun z => n3 (by rw [z.1, z.2])
        show regO C.R (setA dx (.reg s l) dx2 (.reg s' l')) (if s' = s ∧ l' = l then (⟨n, t, wd, true⟩ : Reg) else S.reg s' l').num (if s' = s ∧ l' = l then (⟨n, t, wd, true⟩ : Reg) else S.reg s' l').src (if s' = s ∧ l' = l then (⟨n, t, wd, true⟩ : Reg) else S.reg s' l').word (if s' = s ∧ l' = l then (⟨n, t, wd, true⟩ : Reg) else S.reg s' l').armed = _
        rw [if_neg nr, setA_ne n3]
        rfl
      | _ => rfl
    · simp only [List.mem_cons, List.not_mem_nil, or_false] at hc
      rcases hc with rfl | rfl | rfl
      · exact .inl ⟨setA_ne (by intro z; cases z), hs⟩
      · exact .inl ⟨setA_ne (by intro z; cases z), hs⟩
      · exact .inr (by rw [setA_same]; exact fresh)
    · have of : ∀ c, c ∈ ([.ent s, .que s, .reg s l] : List Cell) → H (setA ad (.reg s l) x c) = none → c = .reg s l := fun c hc z => by
        simp only [List.mem_cons, List.not_mem_nil, or_false] at hc
        rcases hc with rfl | rfl | rfl
        · rw [setA_ne (by intro z; cases z), A0.at_ (.ent s) hs] at z
          cases z
        · rw [setA_ne (by intro z; cases z), A0.at_ (.que s) hs] at z
          cases z
        · rfl
      rw [of c hc z, of c' hc' (by rw [← e]; exact z)]
    · rw [j3 b (nb (.ent s) (by simp) hs) (nb (.que s) (by simp) hs)]
      exact s2 _ _ (s1 _ _ e)
inductive PspRemove (C : Cs) (vs : List V) (H : Hp) (Q : VK) : Prop
  | mk (p sn n l s t : Int) (S : Sys) (ad dx : Cell → Addr) (h_0 : vs = .ref (ad .box) :: [.int p, .int sn, .int n]) (h_1 : At C H S ad dx) (h_2 : Means S p sn s) (h_3 : s ∈ S.sets) (h_4 : Means S p n t) (h_5 : t ∈ S.srcs) (h_6 : (S.ents s).find? (keyOf (S.reg s) n t) = some l) (h_7 : Small S) (h_8 : ∀ H' ad' dx', At C H' (dropped S s l) ad' dx' → Step H S ad H' (dropped S s l) ad' → Q .non H') : PspRemove C vs H Q
noncomputable def spRemove (C : Cs) : Sp := fun vs H Q _ => PspRemove C vs H Q
theorem scRemove : FnScope ["self", "process", "set_number", "number", "waiting", "source", "label"] ["self", "process", "set_number", "number"] (defScope sRemove) := ⟨rfl, rfl, rfl, by decide +kernel, rfl, by decide +kernel, by decide +kernel⟩
theorem okRemove {f fW fS fO fP : Addr} {fd fdW fdS fdO fdP : FuncData} (F : Fun K "remove" "System.remove" sRemove f fd) (T : ClsF K C.S sysF) (TW : ClsF K C.W wsF)
    (GW : MO P w K mg base 5 C.S "set_at" ["self", "process", "set_number"] (spSetAt C) fW fdW) (GS : MO P w K mg base 5 C.S "source_at" ["self", "process", "number"] (spSourceAt C) fS fdS)
    (GO : MO P w K mg base 1 C.W "label_of" ["self", "number", "source"] (spLabelOf C.W C.R) fO fdO) (GP : MO P w K mg base 1 C.W "drop" ["self", "label"] (spDrop C.W) fP fdP) :
    FnOk P w K mg base CX0 6 f fd ["self", "process", "set_number", "number"] (spRemove C) := by
  refine F.ok scRemove (fun vs H Q E h => ?_) (fun cdv A outer s H vs Q E hr h => ?_)
  · obtain ⟨_, _, _, _, _, _, _, _, _, rfl, _⟩ := h
    rfl
  · obtain ⟨p, sn, n, l, s, t, S, ad, dx, rfl, A0, Ms, hs, Mt, ht, hfind, sm0, k⟩ := h
    have hr1 : Room 1 _ := hr.mono (by decide)
    have hl : l ∈ S.ents s := List.mem_of_find?_eq_some hfind
    refine ⟨_, pss_cons (ps_set (i := 4) scRemove.nd rfl (Or.inl rfl) (pe_meth (pv 0) T.cl GW.m GW.g hr GW.b .nil pass0 (pa_cons (pv 1) (pa_cons (pv 2) pa_nil))))
      (pss_cons (ps_set (i := 5) scRemove.nd rfl (Or.inl rfl) (pe_meth (pv 0) T.cl GS.m GS.g hr GS.b .nil pass0 (pa_cons (pv 1) (pa_cons (pv 3) pa_nil))))
      (pss_cons (ps_set (i := 6) scRemove.nd rfl (Or.inl rfl) (pe_meth (pv 4) TW.cl GO.m GO.g hr1 GO.b .nil pass0 (pa_cons (pv 3) (pa_cons (pv 5) pa_nil))))
      (pss_cons (ps_if (pt_cmpR oIsN (pv 6) pe_non (nomark _)) (pss_one ps_never) pss_nil)
      (pss_one (ps_expr (pe_meth (pv 4) TW.cl GP.m GP.g hr1 GP.b .nil pass0 (pa_cons (pv 6) pa_nil))))))), ?_⟩
    have hb := A0.at_ .box trivial
    walk_at "wn"
    refine ⟨_, rfl, ad .box, dx .box, _, rfl, hb, rfl, ?_⟩
    walk_at "wn"
    refine ⟨p, sn, s, S, ad, dx, rfl, A0, Ms, hs, ?_⟩
    walk_at "wn"
    refine ⟨_, rfl, ad .box, dx .box, _, rfl, hb, rfl, ?_⟩
    walk_at "wn"
    refine ⟨p, n, t, S, ad, dx, rfl, A0, Mt, ht, ?_⟩
    walk_at "wn"
    have hw := A0.at_ (.ws s) hs
    refine ⟨_, rfl, ad (.ws s), dx (.ws s), _, rfl, hw, rfl, ?_⟩
    walk_at "wn"
    refine ⟨ad (.ws s), dx (.ws s), ad (.ent s), ad (.que s), n, t, S.ents s, fun j => ad (.reg s j), S.reg s, rfl, hw, A0.at_ (.ent s) hs, fun j hj => ⟨dx (.reg s j), A0.at_ (.reg s j) ⟨hs, hj⟩⟩, fun H1 s1 => ?_⟩
    rw [hfind]
    have A1 := A0.same s1
    have hw1 := A1.at_ (.ws s) hs
    have he1 := A1.at_ (.ent s) hs
    have hq1 := A1.at_ (.que s) hs
    walk_at "wn"
    rw [decide_eq_false (by intro z; cases z)]
    walk_at "wn"
    refine ⟨_, rfl, ad (.ws s), dx (.ws s), _, rfl, hw1, rfl, ?_⟩
    walk_at "wn"
    have z1 := sm0.que s hs
    refine ⟨ad (.ws s), dx (.ws s), ad (.ent s), ad (.que s), l, S.que s, S.ents s, fun j => ad (.reg s j), rfl, hw1, hq1, he1, hl, by omega, fun H2 q' j0 j1 j2 j3 j4 => ?_⟩
    have fresh : H q' = none := s1.free j0
    refine (fun z : At C _ _ _ _ ∧ Step H S ad _ _ _ => k H2 (setA ad (.que s) q') dx z.1 z.2) ?_
    refine At.re3 [.ws s, .ent s, .que s] A0 (fun c lc => .inr ?_) (fun c hc lc => ?_) (fun c hc lc => ?_) (fun c hc lc => ?_) (fun c hc c' hc' lc lc' z e => ?_) (fun b o nb e => ?_) (setA_ne (by intro z; cases z))
    · cases c with
      | reg s' l' =>
        obtain ⟨h1, h2⟩ := lc
        have h2 : l' ∈ (if s' = s then without l (S.ents s) else S.ents s') := h2
        by_cases e : s' = s
        · subst e
          rw [if_pos rfl] at h2
          exact ⟨h1, (List.mem_filter.mp h2).1⟩
        · rw [if_neg e] at h2
          exact ⟨h1, h2⟩
      | _ => exact lc
    · simp only [List.mem_cons, List.not_mem_nil, or_false] at hc
      rcases hc with rfl | rfl | rfl
      · rw [setA_ne (by intro z; cases z), j1]
        show _ = some (wsO C.W (dx (.ws s)) (setA ad (.que s) q' (.ent s)) (setA ad (.que s) q' (.que s)))
        rw [setA_ne (by intro z; cases z), setA_same]
      · rw [setA_ne (by intro z; cases z), j3]
        show _ = some (HO.dK (entKV (if s = s then without l (S.ents s) else S.ents s) fun j => setA ad (.que s) q' (.reg s j)))
        rw [if_pos rfl]
        have ef : (fun j => setA ad (.que s) q' (.reg s j)) = fun j => ad (.reg s j) := funext fun j => setA_ne (by intro z; cases z)
        rw [ef]
      · rw [setA_same, j2]
        show _ = some (HO.lst ((if s = s then without l (S.que s) else S.que s).map V.int))
        rw [if_pos rfl]
    · have n1 : c ≠ .ws s := fun z => hc (by rw [z]; simp)
      have n2 : c ≠ .ent s := fun z => hc (by rw [z]; simp)
      have n3 : c ≠ .que s := fun z => hc (by rw [z]; simp)
      refine ⟨setA_ne n3, ?_⟩
      cases c with
      | ws s' =>
        have ns : s' ≠ s := fun z => n1 (by rw [z])
        show wsO C.W (dx (.ws s')) (setA ad (.que s) q' (.ent s')) (setA ad (.que s) q' (.que s')) = _
        rw [setA_ne (by intro z; cases z), setA_ne (fun z => ns (by cases z; rfl))]
        rfl
      | ent s' =>
        have ns : s' ≠ s := fun z => n2 (by rw [z])
        have ef : (fun j => setA ad (.que s) q' (.reg s' j)) = fun j => ad (.reg s' j) := funext fun j => setA_ne (by intro z; cases z)
        show HO.dK (entKV (if s' = s then without l (S.ents s) else S.ents s') fun j => setA ad (.que s) q' (.reg s' j)) = _
        rw [if_neg ns, ef]
        rfl
      | que s' =>
        have ns : s' ≠ s := fun z => n3 (by rw [z])
        show HO.lst ((if s' = s then _ else S.que s').map V.int) = _
        rw [if_neg ns]
        rfl
      | _ => rfl
    · simp only [List.mem_cons, List.not_mem_nil, or_false] at hc
      rcases hc with rfl | rfl | rfl
      · exact .inl ⟨setA_ne (by intro z; cases z), hs⟩
      · exact .inl ⟨setA_ne (by intro z; cases z), hs⟩
      · exact .inr (by rw [setA_same]; exact fresh)
    · have of : ∀ c, c ∈ ([.ws s, .ent s, .que s] : List Cell) → H (setA ad (.que s) q' c) = none → c = .que s := fun c hc z => by
        simp only [List.mem_cons, List.not_mem_nil, or_false] at hc
        rcases hc with rfl | rfl | rfl
        · rw [setA_ne (by intro z; cases z), hw] at z
          cases z
        · rw [setA_ne (by intro z; cases z), A0.at_ (.ent s) hs] at z
          cases z
        · rfl
      rw [of c hc z, of c' hc' (by rw [← e]; exact z)]
    · exact j4 b o (nb (.ws s) (by simp) hs) (nb (.ent s) (by simp) hs) (s1 _ _ e)
end

noncomputable abbrev sCopy : Stmt := meth 31 6
noncomputable abbrev sFinish : Stmt := meth 31 11
noncomputable def finished (S : Sys) (t : Int) : Sys := notified (withUnit S t (S.unit t).1 true) t
noncomputable def copied (S : Sys) (p : Int) (m : Nat) (t : Int) : Sys := { S with tab := fun q => if q = p then (S.tab p).set m (some t) else S.tab q }
section
variable {P : Program} {w : World} {K : PySem.W.Frag} {mg : Str → Option Value} {base : Heap} {C : Cs}
inductive PspFinish (C : Cs) (vs : List V) (H : Hp) (Q : VK) : Prop
  | mk (p n t : Int) (S : Sys) (ad dx : Cell → Addr) (h_0 : vs = .ref (ad .box) :: [.int p, .int n]) (h_1 : At C H S ad dx) (h_2 : Means S p n t) (h_3 : t ∈ S.srcs) (h_4 : (S.unit t).2 = false) (h_5 : Small S) (h_6 : ∀ H' ad', At C H' (finished S t) ad' dx → Step H S ad H' (finished S t) ad' → Q .non H') : PspFinish C vs H Q
noncomputable def spFinish (C : Cs) : Sp := fun vs H Q _ => PspFinish C vs H Q
theorem scFinish : FnScope ["self", "process", "number", "source", "unread"] ["self", "process", "number"] (defScope sFinish) := ⟨rfl, rfl, rfl, by decide +kernel, rfl, by decide +kernel, by decide +kernel⟩
theorem okFinish {f fS fU fN : Addr} {fd fdS fdU fdN : FuncData} (F : Fun K "finish" "System.finish" sFinish f fd) (T : ClsF K C.S sysF)
    (GS : MO P w K mg base 5 C.S "source_at" ["self", "process", "number"] (spSourceAt C) fS fdS) (GU : MO P w K mg base 1 C.S "unread_of_unfinished" ["self", "source", "number"] (spUnfinished C) fU fdU) (GN : MO P w K mg base 3 C.S "notify" ["self", "source"] (spNotify C) fN fdN) :
    FnOk P w K mg base CX0 6 f fd ["self", "process", "number"] (spFinish C) := by
  refine F.ok scFinish (fun vs H Q E h => ?_) (fun cdv A outer s H vs Q E hr h => ?_)
  · obtain ⟨_, _, _, _, _, _, rfl, _⟩ := h
    rfl
  · obtain ⟨p, n, t, S, ad, dx, rfl, A0, M, ht, hf, sm0, k⟩ := h
    have hu := hu_of hr
    have hr1 : Room 1 _ := hr.mono (by decide)
    have hr3 : Room 3 _ := hr.mono (by decide)
    refine ⟨_, pss_cons (ps_set (i := 3) scFinish.nd rfl (Or.inl rfl) (pe_meth (pv 0) T.cl GS.m GS.g hr GS.b .nil pass0 (pa_cons (pv 1) (pa_cons (pv 2) pa_nil))))
      (pss_cons (ps_set (i := 4) scFinish.nd rfl (Or.inl rfl) (pe_meth (pv 0) T.cl GU.m GU.g hr1 GU.b .nil pass0 (pa_cons (pv 3) (pa_cons (pv 2) pa_nil))))
      (pss_cons (ps_dput hu (pe_fld (pv 0) rfl) (pv 3) (pe_tup (pa_cons (pv 4) (pa_cons pe_bl pa_nil))) rfl)
      (pss_one (ps_expr (pe_meth (pv 0) T.cl GN.m GN.g hr3 GN.b .nil pass0 (pa_cons (pv 3) pa_nil)))))), ?_⟩
    have hb := A0.at_ .box trivial
    walk_at "wn"
    refine ⟨_, rfl, ad .box, dx .box, _, rfl, hb, rfl, ?_⟩
    walk_at "wn"
    refine ⟨p, n, t, S, ad, dx, rfl, A0, M, ht, ?_⟩
    walk_at "wn"
    refine ⟨_, rfl, ad .box, dx .box, _, rfl, hb, rfl, ?_⟩
    walk_at "wn"
    refine ⟨t, n, S, ad, dx, rfl, A0, ht, hf, ?_⟩
    walk_at "wn"
    refine ⟨_, rfl, by show 2 ≤ sizeLine; decide, fun T1 hT => ?_⟩
    have nbT : ad .box ≠ T1 := ne_of_none hb hT
    have nDT : ad .srcD ≠ T1 := ne_of_none (A0.at_ .srcD trivial) hT
    refine ⟨_, rfl, ad .box, C.S, dx .box, _, _, rfl, by rw [upd_ne nbT]; exact hb, T.cl, T.no _ (by decide), rfl, ?_⟩
    refine ⟨_, rfl, ad .srcD, _, rfl, DPut.k (k := Sum.inl t) (by rw [upd_ne nDT]; exact A0.at_ .srcD trivial) (by unfold entKV; rw [List.length_map, sizeLine_eq]; have := sm0.srcs; omega), ?_⟩
    obtain ⟨A1, st1⟩ := A0.unit (u := (S.unit t).1) (f := true) ht hT
    walk_at "wn"
    refine ⟨_, rfl, setA ad (.srcT t) T1 .box, dx .box, _, by rw [setA_ne (by intro z; cases z)], A1.at_ .box trivial, rfl, ?_⟩
    walk_at "wn"
    refine ⟨t, _, _, dx, by rw [setA_ne (by intro z; cases z)]; rfl, A1, ⟨sm0.que, sm0.ents, sm0.srcs, sm0.sets, sm0.nd⟩, fun H' A2 st2 => k H' _ A2 (st1.trans st2)⟩
/-! a copy onto the lowest free number -/
inductive PspCopy (C : Cs) (vs : List V) (H : Hp) (Q : VK) : Prop
  | mk (p n t : Int) (m : Nat) (S : Sys) (ad dx : Cell → Addr) (h_0 : vs = .ref (ad .box) :: [.int p, .int n, .non]) (h_1 : At C H S ad dx) (h_2 : Means S p n t) (h_3 : firstFree (S.tab p) m) (h_4 : (S.tab p).length ≤ 1000) (h_5 : ∀ H', At C H' (copied S p m t) ad dx → Step H S ad H' (copied S p m t) ad → Q (.int (m : Int)) H') : PspCopy C vs H Q
noncomputable def spCopy (C : Cs) : Sp := fun vs H Q _ => PspCopy C vs H Q
theorem scCopy : FnScope ["self", "process", "number", "to", "thing", "goal", "table"] ["self", "process", "number", "to"] (defScope sCopy) := ⟨rfl, rfl, rfl, by decide +kernel, rfl, by decide +kernel, by decide +kernel⟩
theorem okCopy {dvs : List V} {kws : List (Str × V)} {f fT fN fF : Addr} {fd fdT fdN fdF : FuncData} (F : FunD K "copy" "System.copy" (defArgs sCopy) (defBody sCopy) (defScope sCopy) dvs kws f fd) (T : ClsF K C.S sysF)
    (GT : MO P w K mg base 4 C.S "thing_at" ["self", "process", "number"] (spThingAt C) fT fdT) (GN : MO P w K mg base 3 C.S "is_table_number" ["self", "number"] (spIsTabNum C) fN fdN) (GF : MO P w K mg base 4 C.S "free_number" ["self", "process"] (spFreeNum C) fF fdF) :
    FnOk P w K mg base CX0 5 f fd ["self", "process", "number", "to"] (spCopy C) := by
  refine F.ok scCopy (fun vs H Q E h => ?_) (fun cdv A outer s H vs Q E hr h => ?_)
  · obtain ⟨_, _, _, _, _, _, _, rfl, _⟩ := h
    rfl
  · obtain ⟨p, n, t, m, S, ad, dx, rfl, A0, M, hf, hl, k⟩ := h
    have hu := hu_of hr
    have hr3 : Room 3 _ := hr.mono (by decide)
    refine ⟨_, pss_cons (ps_set (i := 4) scCopy.nd rfl (Or.inl rfl) (pe_meth (pv 0) T.cl GT.m GT.g hr GT.b .nil pass0 (pa_cons (pv 1) (pa_cons (pv 2) pa_nil))))
      (pss_cons (ps_if (PW.pt (pw_and (pt_cmpR oNotN (pv 3) pe_non (nomark _)) (pw_and1 (pt_not (pt_val (pe_meth (pv 0) T.cl GN.m GN.g hr3 GN.b .nil pass0 (pa_cons (pv 3) pa_nil))))))) (pss_one ps_never) pss_nil)
      (pss_cons (ps_set (i := 5) scCopy.nd rfl (Or.inl rfl) (pe_ifExp (pt_cmpR oIsN (pv 3) pe_non (nomark _)) (pe_meth (pv 0) T.cl GF.m GF.g hr GF.b .nil pass0 (pa_cons (pv 1) pa_nil)) (pv 3)))
      (pss_cons (ps_set (i := 6) scCopy.nd rfl (Or.inl rfl) (pe_dget hu (pe_fld (pv 0) rfl) (pv 1) (fun _ _ => rfl)))
      (pss_cons (ps_if (pt_cmpR op_ne (pe_ix ix_list (pv 6) (pv 5) (fun _ _ => rfl)) (pv 4) (nomark _))
        (pss_cons (ps_if (pt_cmpR oNotN (pe_ix ix_list (pv 6) (pv 5) (fun _ _ => rfl)) pe_non (nomark _)) (pss_one ps_never) pss_nil)
        (pss_one (ps_asg (pv 4) (pg_sub (pv 6) (pv 5) set_list)))) pss_nil)
      (pss_one (ps_ret (pv 5))))))), ?_⟩
    have hb := A0.at_ .box trivial
    walk_at "wn"
    refine ⟨_, rfl, ad .box, dx .box, _, rfl, hb, rfl, ?_⟩
    walk_at "wn"
    refine ⟨p, n, t, S, ad, dx, rfl, A0, M, ?_⟩
    walk_at "wn"
    refine ⟨_, rfl, ad .box, dx .box, _, rfl, hb, rfl, ?_⟩
    walk_at "wn"
    refine ⟨p, m, S, ad, dx, rfl, A0, M.pr, hf, hl, fun H1 s1 => ?_⟩
    have A1 := A0.same s1
    have hb1 := A1.at_ .box trivial
    have ht := A1.at_ (.tab p) M.pr
    walk_at "wn"
    have hv : valV (entKV S.procs fun p => ad (.tab p)) (Sum.inl p) = some (.ref (ad (.tab p))) := by rw [ent_val, if_pos M.pr]
    refine ⟨_, rfl, ad .box, C.S, dx .box, _, _, rfl, hb1, T.cl, T.no _ (by decide), rfl, ?_⟩
    refine ⟨_, rfl, ad .tabD, _, rfl, hv ▸ DGet.k (k := Sum.inl p) (A1.at_ .tabD trivial), ?_⟩
    have hm : m < (S.tab p).length := (List.getElem?_eq_some_iff.mp hf.1).1
    have hat : atI ((S.tab p).map optV) (m : Int) = some V.non := atI_nat (by rw [List.getElem?_map, hf.1]; rfl)
    walk_at "wn"
    refine ⟨ad (.tab p), _, (m : Int), _, rfl, rfl, SqL.of ht, hat, ?_⟩
    walk_at "wn"
    rw [decide_eq_false (by intro z; cases z)]
    walk_at "wn"
    refine ⟨ad (.tab p), _, (m : Int), _, rfl, rfl, SqL.of ht, hat, ?_⟩
    walk_at "wn"
    refine ⟨ad (.tab p), _, (m : Int), m, rfl, rfl, ht, by rw [List.length_map]; exact ixN_nat hm, ?_⟩
    walk_at "wn"
    refine (fun z : At C _ _ _ _ ∧ Step _ _ _ _ _ _ => k _ z.1 ((Step.same s1).trans z.2)) ?_
    refine At.re2 [.tab p] A1 (fun c l => by cases c <;> exact l) (fun c hc => ?_) (fun c hc => ?_) (fun c hc l => ?_) (fun b o n e => ?_)
    · rw [List.mem_singleton.mp hc]
      exact M.pr
    · rw [List.mem_singleton.mp hc, upd_same]
      show _ = some (HO.lst ((if p = p then (S.tab p).set m (some t) else S.tab p).map optV))
      rw [if_pos rfl, List.map_set]
      rfl
    · cases c with
      | tab q =>
        have nq : q ≠ p := fun z => hc (by rw [z]; simp)
        show HO.lst ((if q = p then (S.tab p).set m (some t) else S.tab q).map optV) = _
        rw [if_neg nq]
        rfl
      | _ => rfl
    · rw [upd_ne (n (.tab p) (by simp))]
      exact e
end

noncomputable abbrev sPend : Stmt := top 36
noncomputable abbrev sTaken : Stmt := top 37
noncomputable abbrev sOutside : Stmt := top 38
noncomputable abbrev sWithin : Stmt := top 39
noncomputable abbrev sLaw : Stmt := top 40
/-! data of ints and of reports -/
theorem dp_ints {K : PySem.W.Frag} {H : Hp} : ∀ l : List Int, DpAll K H (l.map V.int) (l.map PyData.int)
  | [] => .nil
  | _ :: l => .cons (.int _) (dp_ints l)
theorem ints_lay : ∀ l : List Int, PyData.canLayAll0 (l.map PyData.int) = true ∧ PyData.depthAll (l.map PyData.int) = 0
  | [] => ⟨rfl, rfl⟩
  | c :: l => by
    obtain ⟨a, b⟩ := ints_lay l
    refine ⟨?_, ?_⟩
    · simp only [List.map_cons, PyData.canLayAll0, a, Bool.and_true, PyData.canLay0]
    · simp only [List.map_cons, PyData.depthAll, b, PyData.depth]
      rfl
theorem ints_shaped (l : List Int) : SeqAt.shaped (.list (l.map PyData.int)) = true := by
  obtain ⟨a, b⟩ := ints_lay l
  unfold SeqAt.shaped
  rw [Bool.and_eq_true]
  refine ⟨by simp only [PyData.canLay0]; exact a, decide_eq_true ?_⟩
  simp only [PyData.depth, b]
  decide
theorem ints_nil (l : List Int) : PyData.eqv (.list (l.map PyData.int)) (.list []) = l.isEmpty := by
  cases l with
  | nil => rfl
  | cons a b => rfl
noncomputable def repD (r : Int × Int × Bool) : PyData := .tuple [.int r.1, .int r.2.1, .bool r.2.2]
theorem reps_lay : ∀ l : List (Int × Int × Bool), PyData.canLayAll0 (l.map repD) = true ∧ PyData.depthAll (l.map repD) ≤ 1
  | [] => ⟨rfl, Nat.zero_le _⟩
  | c :: l => by
    obtain ⟨a, b⟩ := reps_lay l
    refine ⟨?_, ?_⟩
    · simp only [List.map_cons, PyData.canLayAll0, a, Bool.and_true, repD, PyData.canLay0]
    · simp only [List.map_cons, PyData.depthAll, repD, PyData.depth]
      omega
theorem reps_shaped (l : List (Int × Int × Bool)) : SeqAt.shaped (.list (l.map repD)) = true := by
  obtain ⟨a, b⟩ := reps_lay l
  unfold SeqAt.shaped
  rw [Bool.and_eq_true]
  refine ⟨by simp only [PyData.canLay0]; exact a, decide_eq_true ?_⟩
  simp only [PyData.depth]
  omega
theorem dp_reps {K : PySem.W.Frag} {H : Hp} {vs : List V} {l : List (Int × Int × Bool)} (p : Paired (RepAt H) vs l) : DpAll K H vs (l.map repD) := by
  induction p with
  | nil => exact .nil
  | cons r _ ih =>
    obtain ⟨t, rfl, e⟩ := r
    exact .cons (.tup (SqT.of e) (.cons (.int _) (.cons (.int _) (.cons (.bl _) .nil)))) ih
section
variable {K : PySem.W.Frag} {H : Hp} {a b : Addr} {Q : VK}
theorem q_neNil {l : List Int} (h1 : H a = some (.lst (l.map V.int))) (h2 : H b = some (.lst [])) (k : Q (.bl (!l.isEmpty)) H) : rNeD K (.ref a) (.ref b) H Q := by
  refine ⟨_, _, .lst (SqL.of h1) (dp_ints l), .lst (SqL.of h2) .nil, ints_shaped l, rfl, ?_⟩
  rw [ints_nil]
  exact k
end
section
variable {K : PySem.W.Frag} {H : Hp} {a b : Addr} {Q : VK}
theorem q_neReps {vs ws : List V} {l : List (Int × Int × Bool)} (h1 : H a = some (.lst vs)) (p1 : Paired (RepAt H) vs l) (h2 : H b = some (.lst ws)) (p2 : Paired (RepAt H) ws l) (k : Q (.bl false) H) : rNeD K (.ref a) (.ref b) H Q := by
  refine ⟨_, _, .lst (SqL.of h1) (dp_reps p1), .lst (SqL.of h2) (dp_reps p2), reps_shaped l, reps_shaped l, ?_⟩
  rw [PySem.SeqAt.eqv_refl _ (SeqAt.canLay_of_shaped (reps_shaped l))]
  exact k
end
structure LawTx (mg : Str → Option Value) : Prop where
  range : mg "range" = none
  max : mg "max" = none
  min : mg "min" = none
  len : mg "len" = none
  list : mg "list" = none
  sorted : mg "sorted" = none
noncomputable def usF (us : List Int) : Int → Int := fun l => us.getD l.toNat 0
theorem nodup_le : ∀ (n : Nat) {l : List Int}, l.Nodup → (∀ x ∈ l, 0 ≤ x ∧ x.toNat < n) → l.length ≤ n
  | 0, l, _, h => by
    cases l with
    | nil => exact Nat.le_refl _
    | cons x l => exact absurd (h x List.mem_cons_self).2 (Nat.not_lt_zero _)
  | n + 1, l, nd, h => by
    by_cases hn : (n : Int) ∈ l
    · have e1 := List.length_erase_of_mem hn
      have ih := nodup_le n (nd.erase (n : Int)) fun x hx => by
        have hm := (List.Nodup.mem_erase_iff nd).mp hx
        have h1 := h x hm.2
        refine ⟨h1.1, ?_⟩
        have : x ≠ (n : Int) := hm.1
        omega
      omega
    · have ih := nodup_le n nd fun x hx => by
        have h1 := h x hx
        refine ⟨h1.1, ?_⟩
        have : x ≠ (n : Int) := fun z => hn (z ▸ hx)
        omega
      omega
theorem qAdd_idem (l : Int) (qs : List Int) : qAdd l (qAdd l qs) = qAdd l qs := by
  have : l ∈ qAdd l qs := by
    unfold qAdd
    split
    · assumption
    · simp
  exact (if_pos this : (if l ∈ qAdd l qs then qAdd l qs else qAdd l qs ++ [l]) = qAdd l qs)
theorem notice_one {reg : Int → Reg} {t l : Int} : ∀ {ls qs : List Int}, (∀ x ∈ ls, ((reg x).src = t ∧ (reg x).armed = true) ↔ x = l) → noticeQ reg t ls qs = if l ∈ ls then qAdd l qs else qs
  | [], qs, _ => by simp [noticeQ]
  | x :: ls, qs, h => by
    show noticeQ reg t ls (if (reg x).src = t ∧ (reg x).armed = true then qAdd x qs else qs) = _
    rw [notice_one fun y hy => h y (List.mem_cons_of_mem _ hy)]
    have hx := h x List.mem_cons_self
    by_cases e : x = l
    · rw [if_pos (hx.mpr e), e, if_pos List.mem_cons_self]
      split
      · exact qAdd_idem l qs
      · rfl
    · rw [if_neg fun z => e (hx.mp z)]
      by_cases hl : l ∈ ls
      · rw [if_pos hl, if_pos (List.mem_cons_of_mem _ hl)]
      · rw [if_neg hl, if_neg fun z => (List.mem_cons.mp z).elim (fun w => e w.symm) hl]
section
variable {C : Cs} {Hb H H1 H' : Hp} {S S1 : Sys} {ad ad1 dx dx1 : Cell → Addr} {p box ul rr r b : Addr}
theorem Step.not (st : Step H S ad H1 S1 ad1) {o : HO} (h : H b = some o) (n : ¬ own S ad b) : ¬ own S1 ad1 b := fun z => (st.new b z).elim n fun y => by
  rw [h] at y
  cases y
end
theorem Dr.same {p : Addr} {H H' : Hp} (b : BagAt H p) (e : Same H H') : Dr p H H' := ⟨fun a o _ h => e a o h, by
  obtain ⟨x, y, h, r⟩ := b
  exact ⟨x, y, e _ _ h, r⟩⟩
theorem reps_keep' {H H' : Hp} {vs : List V} {rs : List (Int × Int × Bool)} (p : Paired (RepAt H) vs rs) (k : ∀ b x y z, H b = some (.tup [x, y, z]) → H' b = some (.tup [x, y, z])) : Paired (RepAt H') vs rs := by
  induction p with
  | nil => exact .nil
  | cons r _ ih =>
    obtain ⟨t, e1, e2⟩ := r
    exact .cons ⟨t, e1, k _ _ _ _ e2⟩ ih
theorem BagAt.ne' {H : Hp} {p l : Addr} (b : BagAt H p) (h : H l = none) : l ≠ p := fun z => by
  obtain ⟨x, y, e, _⟩ := b
  rw [← z, h] at e
  cases e
theorem BagAt.some {H : Hp} {p : Addr} (b : BagAt H p) : ∃ o, H p = some o := by
  obtain ⟨x, y, e, _⟩ := b
  exact ⟨_, e⟩
/-- a method whose last arguments have defaults -/
structure MD (P : Program) (w : World) (K : PySem.W.Frag) (mg : Str → Option Value) (base : Heap) (k : Nat) (C : Addr) (m : Str) (ps : List Str) (sp : Sp) (f : Addr) (fd : FuncData) (ds : List Value) (dvs : List V) : Prop where
  g : FnOk P w K mg base CX0 k f fd ps sp
  m : Meth K C m f
  b : Binds K fd ps ds
  d : Vals dvs ds
theorem Dr.draw {p : Addr} {H H' : Hp} (e : ∀ b, b ≠ p → H' b = H b) (b : BagAt H' p) : Dr p H H' := ⟨fun a o n h => (e a n).trans h, b⟩
theorem Same.dr {p : Addr} {H H1 H2 : Hp} (n : H p = none) (s : Same H H1) (d : Dr p H1 H2) : Same H H2 := fun a o e => d.1 a o (fun z => by rw [z, n] at e; cases e) (s a o e)
theorem erase_mid {α : Type} (l : α) (B : List α) : ∀ A : List α, (A ++ l :: B).eraseIdx A.length = A ++ B
  | [] => rfl
  | a :: A => by
    show a :: (A ++ l :: B).eraseIdx A.length = _
    rw [erase_mid l B A]
    rfl
theorem split_at : ∀ {n : Nat} {xs : List Int}, n < xs.length → ∃ A l B, xs = A ++ l :: B ∧ A.length = n
  | 0, x :: xs, _ => ⟨[], x, xs, rfl, rfl⟩
  | n + 1, x :: xs, h => by
    obtain ⟨A, l, B, e, hA⟩ := split_at (n := n) (xs := xs) (Nat.lt_of_succ_lt_succ h)
    exact ⟨x :: A, l, B, by rw [e]; rfl, by rw [← hA]; rfl⟩
/-- a method called with keywords -/
structure MW (P : Program) (w : World) (K : PySem.W.Frag) (mg : Str → Option Value) (base : Heap) (k : Nat) (C : Addr) (m : Str) (ps : List Str) (sp : Sp) (f : Addr) (fd : FuncData) (n : Nat) (ks : List Str) (gg : List Value → List Value → List Value) (gV : List V → List V → List V) : Prop where
  g : FnOk P w K mg base CX0 k f fd ps sp
  m : Meth K C m f
  b : KBn K fd ps n ks gg gV
theorem mem_qAdd {k x : Int} {l : List Int} : x ∈ qAdd k l ↔ x ∈ l ∨ x = k := by
  unfold qAdd
  by_cases h : k ∈ l
  · rw [if_pos h]
    exact ⟨.inl, fun z => z.elim id fun e => by rw [e]; exact h⟩
  · rw [if_neg h, List.mem_append, List.mem_singleton]
theorem nodup_qAdd {k : Int} {l : List Int} (h : l.Nodup) : (qAdd k l).Nodup := by
  unfold qAdd
  by_cases z : k ∈ l
  · rw [if_pos z]
    exact h
  · rw [if_neg z, List.nodup_append]
    exact ⟨h, by simp, fun a ha b hb => by rw [List.mem_singleton.mp hb]; exact fun e => z (e ▸ ha)⟩
/-! the system, the bag and other cells while the law goes on -/
structure WQ (C : Cs) (Hb H : Hp) (p box : Addr) (ks : List (Addr × HO)) (Φ : Sys → Prop) : Prop where
  ex : ∃ S ad dx, ad .box = box ∧ At C H S ad dx ∧ Φ S ∧ (∀ b, own S ad b → Hb b = none) ∧ ¬ own S ad p ∧ ∀ q ∈ ks, ¬ own S ad q.1
  same : Same Hb H
  bag : BagAt H p
  bp : Hb p = none
  kat : ∀ q ∈ ks, H q.1 = some q.2
  kne : ∀ q ∈ ks, q.1 ≠ p ∧ Hb q.1 = none
section
variable {C : Cs} {Hb H H1 : Hp} {p box l : Addr} {ks ks1 : List (Addr × HO)} {o o1 : HO} {Φ Φ1 : Sys → Prop}
theorem WQ.call (W : WQ C Hb H p box ks Φ) {S S1 : Sys} {ad ad1 dx1 : Cell → Addr} (hbox : ad .box = box) (own0 : ∀ b, own S ad b → Hb b = none) (np : ¬ own S ad p) (nk : ∀ q ∈ ks, ¬ own S ad q.1)
    (A1 : At C H1 S1 ad1 dx1) (st : Step H S ad H1 S1 ad1) (F1 : Φ1 S1) : WQ C Hb H1 p box ks Φ1 := by
  obtain ⟨op, hp⟩ := W.bag.some
  refine ⟨⟨S1, ad1, dx1, st.box.trans hbox, A1, F1, fun b ob => ?_, st.not hp np, fun q hq => st.not (W.kat q hq) (nk q hq)⟩, fun b o e => ?_, ?_, W.bp, fun q hq => st.keep _ _ (nk q hq) (W.kat q hq), W.kne⟩
  · rcases st.new b ob with z | z
    · exact own0 b z
    · exact W.same.free z
  · exact st.keep _ _ (fun z => by rw [own0 b z] at e; cases e) (W.same _ _ e)
  · obtain ⟨x, y, e, r⟩ := W.bag
    exact ⟨x, y, st.keep _ _ np e, r⟩
theorem WQ.put (W : WQ C Hb H p box ((l, o) :: ks) Φ) (k : ∀ b, b ≠ l → H1 b = H b) (h : H1 l = some o1) (n : ∀ q ∈ ks, q.1 ≠ l) : WQ C Hb H1 p box ((l, o1) :: ks) Φ := by
  obtain ⟨S, ad, dx, e1, A, F, o1', o2, o4⟩ := W.ex
  have hl := W.kne _ (List.mem_cons_self (a := (l, o)) (l := ks))
  have nl := o4 _ (List.mem_cons_self (a := (l, o)) (l := ks))
  refine ⟨⟨S, ad, dx, e1, ⟨fun c hc => (k _ fun z => nl ⟨c, hc, z⟩).trans (A.at_ c hc), A.inj⟩, F, o1', o2, fun q hq => ?_⟩, fun b o e => (k b fun z => by rw [z, hl.2] at e; cases e).trans (W.same _ _ e), ?_, W.bp, fun q hq => ?_, fun q hq => ?_⟩
  · rcases List.mem_cons.mp hq with rfl | hq
    · exact nl
    · exact o4 q (List.mem_cons_of_mem _ hq)
  · obtain ⟨x, y, e, r⟩ := W.bag
    exact ⟨x, y, (k _ (Ne.symm hl.1)).trans e, r⟩
  · rcases List.mem_cons.mp hq with rfl | hq
    · exact h
    · exact (k _ (n q hq)).trans (W.kat q (List.mem_cons_of_mem _ hq))
  · rcases List.mem_cons.mp hq with rfl | hq
    · exact hl
    · exact W.kne q (List.mem_cons_of_mem _ hq)
theorem WQ.keep (W : WQ C Hb H p box ks Φ) (k : ∀ b o, b ≠ p → H b = some o → H1 b = some o) (bg : BagAt H1 p) : WQ C Hb H1 p box ks Φ := by
  obtain ⟨S, ad, dx, e1, A, F, o1, o2, o4⟩ := W.ex
  exact ⟨⟨S, ad, dx, e1, ⟨fun c hc => k _ _ (fun z => o2 ⟨c, hc, z⟩) (A.at_ c hc), A.inj⟩, F, o1, o2, o4⟩, fun b o e => k b o (fun z => by rw [z, W.bp] at e; cases e) (W.same _ _ e), bg, W.bp, fun q hq => k _ _ (W.kne q hq).1 (W.kat q hq), W.kne⟩
theorem WQ.draw (W : WQ C Hb H p box ks Φ) (e : ∀ b, b ≠ p → H1 b = H b) (bg : BagAt H1 p) : WQ C Hb H1 p box ks Φ := W.keep (fun b o n h => by rw [e b n]; exact h) bg
theorem WQ.same' (W : WQ C Hb H p box ks Φ) (s : Same H H1) : WQ C Hb H1 p box ks Φ := W.keep (fun b o _ h => s _ _ h) (Dr.same W.bag s).2
theorem WQ.dr (W : WQ C Hb H p box ks Φ) (d : Dr p H H1) : WQ C Hb H1 p box ks Φ := W.keep d.1 d.2
theorem WQ.hold (W : WQ C Hb H p box ks Φ) (h : H l = none) (d : Dr p H H1) (e : H1 l = some o) : WQ C Hb H1 p box ((l, o) :: ks) Φ := by
  have W1 := W.dr d
  obtain ⟨S, ad, dx, e1, A, F, o1, o2, o4⟩ := W.ex
  have A1 : At C H1 S ad dx := ⟨fun c hc => d.1 _ _ (fun z => o2 ⟨c, hc, z⟩) (A.at_ c hc), A.inj⟩
  refine ⟨⟨S, ad, dx, e1, A1, F, o1, o2, fun q hq => ?_⟩, W1.same, W1.bag, W.bp, fun q hq => ?_, fun q hq => ?_⟩
  · rcases List.mem_cons.mp hq with rfl | hq
    · exact A.not_own h
    · exact o4 q hq
  · rcases List.mem_cons.mp hq with rfl | hq
    · exact e
    · exact W1.kat q hq
  · rcases List.mem_cons.mp hq with rfl | hq
    · exact ⟨BagAt.ne' W.bag h, W.same.free h⟩
    · exact W.kne q hq
theorem WQ.new (W : WQ C Hb H p box ks Φ) (h : H l = none) : WQ C Hb (upd H l o) p box ((l, o) :: ks) Φ := W.hold h (Dr.same W.bag (Same.new' h)) upd_same
theorem WQ.sub (W : WQ C Hb H p box ks Φ) (h : ∀ q ∈ ks1, q ∈ ks) : WQ C Hb H p box ks1 Φ := by
  obtain ⟨S, ad, dx, e1, A, F, o1, o2, o4⟩ := W.ex
  exact ⟨⟨S, ad, dx, e1, A, F, o1, o2, fun q hq => o4 q (h q hq)⟩, W.same, W.bag, W.bp, fun q hq => W.kat q (h q hq), fun q hq => W.kne q (h q hq)⟩
theorem WQ.to (W : WQ C Hb H p box ks Φ) (f : ∀ S, Φ S → Φ1 S) : WQ C Hb H p box ks Φ1 := by
  obtain ⟨S, ad, dx, e1, A, F, o⟩ := W.ex
  exact ⟨⟨S, ad, dx, e1, A, f S F, o⟩, W.same, W.bag, W.bp, W.kat, W.kne⟩
theorem WQ.pure {φ : Prop} (W : WQ C Hb H p box ks Φ) (f : ∀ S, Φ S → φ) : φ := by
  obtain ⟨S, ad, dx, e1, A, F, o⟩ := W.ex
  exact f S F
theorem WQ.boxAt (W : WQ C Hb H p box ks Φ) : ∃ (dx : Addr) (S : Sys) (td sd ud : Addr), H box = some (sysO C.S dx S td sd ud) := by
  obtain ⟨S, ad, dx, e1, A, F, o⟩ := W.ex
  exact ⟨_, S, _, _, _, by rw [← e1]; exact A.at_ .box trivial⟩
end
section
variable {C : Cs} {Hb H1 H2 : Hp} {p x dx0 : Addr} {ad dx : Cell → Addr}
theorem WQ.start {P0 N0 : Int} (s1 : Same Hb H1) (b1 : BagAt H1 p) (n0 : Hb p = none) (nx : H1 x = none) (nd : H1 dx0 = none) (A : At C H2 (newSys P0 N0) ad dx) (hb : ad .box = x)
    (k : ∀ b o, b ≠ x → upd (upd H1 dx0 (.own x)) x (.ins C.S dx0 []) b = some o → H2 b = some o) (on : ∀ b, own (newSys P0 N0) ad b → b = x ∨ upd (upd H1 dx0 (.own x)) x (.ins C.S dx0 []) b = none) :
    WQ C Hb H2 p x [] (fun S => S = newSys P0 N0) ∧ Same H1 H2 := by
  have s12 : Same H1 H2 := fun b o e => k b o (ne_of_none e nx) (by rw [upd_ne (ne_of_none e nx), upd_ne (ne_of_none e nd)]; exact e)
  obtain ⟨op, hp⟩ := b1.some
  refine ⟨⟨⟨newSys P0 N0, ad, dx, hb, A, rfl, fun b ob => ?_, fun z => ?_, (fun q hq => nomatch hq)⟩, s1.trans s12, (Dr.same b1 s12).2, n0, (fun q hq => nomatch hq), (fun q hq => nomatch hq)⟩, s12⟩
  · rcases on b ob with rfl | e
    · exact s1.free nx
    · have n1 : b ≠ x := fun z => by rw [z, upd_same] at e; cases e
      rw [upd_ne n1] at e
      have n2 : b ≠ dx0 := fun z => by rw [z, upd_same] at e; cases e
      rw [upd_ne n2] at e
      exact s1.free e
  · rcases on p z with e | e
    · rw [e, nx] at hp
      cases hp
    · rw [upd_ne (ne_of_none hp nx), upd_ne (ne_of_none hp nd), hp] at e
      cases e
end
theorem free_of {l : List (Option Int)} {n : Nat} (h1 : l[n]? = some none) (h2 : (l.take n).all (·.isSome) = true) : firstFree l n := by
  refine ⟨h1, fun j hj => ?_⟩
  have hn := (List.getElem?_eq_some_iff.mp h1).1
  have hjl : j < (l.take n).length := by rw [List.length_take]; omega
  have := List.all_eq_true.mp h2 _ (List.getElem_mem hjl)
  rw [List.getElem_take] at this
  obtain ⟨x, hx⟩ := Option.isSome_iff_exists.mp this
  exact ⟨x, by rw [List.getElem?_eq_getElem (by omega), hx]⟩
theorem means_eq {S S' : Sys} {p n t : Int} (h : Means S p n t) (e1 : S'.procs = S.procs) (e2 : S'.N = S.N) (e3 : S'.tab = S.tab) : Means S' p n t := ⟨by rw [e1]; exact h.pr, h.lo, by rw [e2]; exact h.hi, by rw [e3]; exact h.at_⟩
theorem nodup_add {l : List Int} {k : Int} (h : l.Nodup) (n : k ∉ l) : (l ++ [k]).Nodup := by
  rw [List.nodup_append]
  exact ⟨h, by simp, fun a ha b hb => by rw [List.mem_singleton.mp hb]; exact fun e => n (e ▸ ha)⟩
theorem mem_add {l : List Int} {k x : Int} : x ∈ l ++ [k] ↔ x ∈ l ∨ x = k := by rw [List.mem_append, List.mem_singleton]
noncomputable abbrev intsTo (n : Nat) : List Int := (List.range n).map fun j : Nat => (j : Int)
theorem filter_take {f : Int → Bool} {q : List Int} {i : Nat} {x : Int} (el : q[i]? = some x) : (q.take (i + 1)).filter f = (q.take i).filter f ++ if f x = true then [x] else [] := by
  rw [List.take_add_one, el, List.filter_append]
  show _ ++ List.filter f [x] = _
  rw [List.filter_cons]
  rfl
/-! the law's picture: the sources 0, 1, 2 at 2k and 2k + 1, the sets 3 and 4 at 6 and 7 -/
structure LR where
  lab : Int
  kind : Int
  term : Str
  armed : Bool
noncomputable abbrev labs (rs : List LR) : List Int := rs.map LR.lab
noncomputable abbrev kinds (rs : List LR) : List Int := rs.map LR.kind
noncomputable def sd (s : Int) : Prop := s = 0 ∨ s = 1
noncomputable def tk (s : Int) : Prop := s = 0 ∨ s = 1 ∨ s = 2
noncomputable def upF {α : Type} (f : Int → α) (s : Int) (v : α) : Int → α := fun j => if j = s then v else f j
theorem upF_same {α : Type} {f : Int → α} {s : Int} {v : α} : upF f s v s = v := if_pos rfl
theorem upF_ne {α : Type} {f : Int → α} {s j : Int} {v : α} (h : j ≠ s) : upF f s v j = f j := if_neg h
noncomputable def rdyU (v : Int × Bool) : Bool := decide (0 < v.1) || v.2
noncomputable abbrev okR (r : LR) : Prop := 0 ≤ r.lab ∧ r.lab < 30 ∧ 0 ≤ r.kind ∧ r.kind < 6 ∧ r.term ∈ wordsL
noncomputable abbrev regOf (r : LR) : Reg := ⟨r.kind, r.kind / 2, r.term, r.armed⟩
structure Good (rs : List LR) (row : List Int) : Prop where
  ok : ∀ r ∈ rs, okR r
  nd : (labs rs).Nodup
  kn : (kinds rs).Nodup
  rn : row.Nodup
  ri : ∀ l ∈ row, l ∈ labs rs
structure Pic (S : Sys) (rg : Int → List LR) (rw : Int → List Int) (u : Int → Int × Bool) : Prop where
  sets : S.sets = [3, 4]
  srcs : S.srcs = [0, 1, 2]
  ms : ∀ s, sd s → Means S 0 (6 + s) (3 + s)
  mn : ∀ n : Int, 0 ≤ n → n < 6 → Means S 0 n (n / 2)
  unit : ∀ k, tk k → S.unit k = u k
  upos : ∀ k, tk k → 0 ≤ (u k).1
  ents : ∀ s, sd s → S.ents (3 + s) = labs (rg s)
  que : ∀ s, sd s → S.que (3 + s) = rw s
  reg : ∀ s, sd s → ∀ r ∈ rg s, S.reg (3 + s) r.lab = regOf r
  good : ∀ s, sd s → Good (rg s) (rw s)
theorem sd0 : sd 0 := .inl rfl
theorem sd1 : sd 1 := .inr rfl
theorem tk_of {n : Int} (h0 : 0 ≤ n) (h1 : n < 6) : tk (n / 2) := by
  unfold tk
  omega
theorem inj_of {f : LR → Int} : ∀ {rs : List LR} {r r' : LR}, (rs.map f).Nodup → r ∈ rs → r' ∈ rs → f r = f r' → r = r'
  | [], _, _, _, h, _, _ => nomatch h
  | x :: rs, r, r', h, h1, h2, e => by
    obtain ⟨n1, n2⟩ := List.nodup_cons.mp h
    rcases List.mem_cons.mp h1 with z1 | z1
    · rcases List.mem_cons.mp h2 with z2 | z2
      · rw [z1, z2]
      · exact absurd (show f x ∈ rs.map f from List.mem_map.mpr ⟨r', z2, by rw [← e, z1]⟩) n1
    · rcases List.mem_cons.mp h2 with z2 | z2
      · exact absurd (show f x ∈ rs.map f from List.mem_map.mpr ⟨r, z1, by rw [e, z2]⟩) n1
      · exact inj_of n2 z1 z2 e
section
variable {S : Sys} {rg : Int → List LR} {rw : Int → List Int} {u : Int → Int × Bool} {s : Int} {rs : List LR} {row : List Int}
theorem Good.kd (G : Good rs row) {r : LR} (h : r ∈ rs) : tk (r.kind / 2) := tk_of (G.ok r h).2.2.1 (G.ok r h).2.2.2.1
theorem Good.len (G : Good rs row) : rs.length ≤ 6 := by
  have := nodup_le 6 G.kn fun x hx => by
    obtain ⟨r, hr, rfl⟩ := List.mem_map.mp hx
    have := G.ok r hr
    exact ⟨by omega, by omega⟩
  rw [List.length_map] at this
  exact this
theorem nodup_sub : ∀ {l m : List Int}, l.Nodup → (∀ x ∈ l, x ∈ m) → l.length ≤ m.length
  | [], m, _, _ => Nat.zero_le _
  | x :: l, m, nd, h => by
    obtain ⟨n1, n2⟩ := List.nodup_cons.mp nd
    have hx := h x List.mem_cons_self
    have e1 := List.length_erase_of_mem hx
    have ih := nodup_sub (m := m.erase x) n2 fun y hy => by
      have : y ≠ x := fun z => n1 (z ▸ hy)
      exact (List.mem_erase_of_ne this).mpr (h y (List.mem_cons_of_mem _ hy))
    have : 0 < m.length := List.length_pos_of_mem hx
    rw [List.length_cons]
    omega
theorem Good.rlen (G : Good rs row) : row.length ≤ 6 := by
  have := nodup_sub G.rn G.ri
  rw [List.length_map] at this
  have := G.len
  omega
theorem Pic.inS (F : Pic S rg rw u) (hs : sd s) : 3 + s ∈ S.sets := by
  rw [F.sets]
  rcases hs with rfl | rfl <;> decide
theorem Pic.inK (F : Pic S rg rw u) {k : Int} (hk : tk k) : k ∈ S.srcs := by
  rw [F.srcs]
  rcases hk with rfl | rfl | rfl <;> decide
theorem Pic.means (F : Pic S rg rw u) (hs : sd s) {r : LR} (h : r ∈ rg s) : Means S 0 r.kind (r.kind / 2) := by
  obtain ⟨a, b, c, d, _⟩ := (F.good s hs).ok r h
  exact F.mn _ c d
theorem sd_of {S : Sys} (e : S.sets = [3, 4]) {t : Int} (h : t ∈ S.sets) : ∃ s, sd s ∧ t = 3 + s := by
  rw [e] at h
  simp only [List.mem_cons, List.not_mem_nil, or_false] at h
  rcases h with rfl | rfl
  · exact ⟨0, sd0, rfl⟩
  · exact ⟨1, sd1, rfl⟩
theorem Pic.small (F : Pic S rg rw u) : Small S := by
  refine ⟨fun t ht => ?_, fun t ht => ?_, by rw [F.srcs]; decide, by rw [F.sets]; decide, by rw [F.sets]; decide⟩
  · obtain ⟨s, hs, rfl⟩ := sd_of F.sets ht
    rw [F.que s hs]
    have := (F.good s hs).rlen
    omega
  · obtain ⟨s, hs, rfl⟩ := sd_of F.sets ht
    rw [F.ents s hs, List.length_map]
    have := (F.good s hs).len
    omega
theorem Pic.find (F : Pic S rg rw u) (hs : sd s) {r : LR} (h : r ∈ rg s) : (S.ents (3 + s)).find? (keyOf (S.reg (3 + s)) r.kind (r.kind / 2)) = some r.lab := by
  rw [F.ents s hs]
  have key : ∀ l ∈ labs (rg s), keyOf (S.reg (3 + s)) r.kind (r.kind / 2) l = decide (l = r.lab) := fun l hl => by
    obtain ⟨r', hr', rfl⟩ := List.mem_map.mp hl
    unfold keyOf
    rw [F.reg s hs r' hr']
    by_cases e : r'.kind = r.kind
    · rw [inj_of (F.good s hs).kn hr' h e]
      simp [regOf]
    · have : r'.lab ≠ r.lab := fun z => e (by rw [inj_of (F.good s hs).nd hr' h z])
      simp [e, regOf, this]
  cases hf : (labs (rg s)).find? (keyOf (S.reg (3 + s)) r.kind (r.kind / 2)) with
  | none =>
    have := List.find?_eq_none.mp hf r.lab (List.mem_map.mpr ⟨r, h, rfl⟩)
    rw [key _ (List.mem_map.mpr ⟨r, h, rfl⟩)] at this
    exact absurd (decide_eq_true rfl) this
  | some l =>
    have hl := List.mem_of_find?_eq_some hf
    have := List.find?_some hf
    rw [key l hl] at this
    rw [of_decide_eq_true this]
theorem Pic.nofind (F : Pic S rg rw u) (hs : sd s) {n t : Int} (h : n ∉ kinds (rg s)) : (S.ents (3 + s)).find? (keyOf (S.reg (3 + s)) n t) = none := by
  rw [F.ents s hs, List.find?_eq_none]
  intro x hx z
  obtain ⟨r', hr', rfl⟩ := List.mem_map.mp hx
  unfold keyOf at z
  rw [F.reg s hs r' hr'] at z
  have : r'.kind = n := by
    by_cases e : r'.kind = n
    · exact e
    · simp [e, regOf] at z
  exact h (List.mem_map.mpr ⟨r', hr', this⟩)
theorem Pic.ready (F : Pic S rg rw u) {k : Int} (hk : tk k) : Wn.ready S k = rdyU (u k) := by
  unfold Wn.ready rdyU
  rw [F.unit k hk]
/-! what a pend appends -/
noncomputable def pendR (k : Int) (b : Bool) (rs : List LR) (row : List Int) : List Int := rs.foldl (fun acc r => if r.kind / 2 = k ∧ r.armed = true ∧ b = true then qAdd r.lab acc else acc) row
theorem notice_row {reg : Int → Reg} {k : Int} : ∀ {rs : List LR} {row : List Int}, (∀ r ∈ rs, reg r.lab = regOf r) → noticeQ reg k (labs rs) row = pendR k true rs row
  | [], row, _ => rfl
  | r :: rs, row, h => by
    show noticeQ reg k (labs rs) (if (reg r.lab).src = k ∧ (reg r.lab).armed = true then qAdd r.lab row else row) = pendR k true rs (if r.kind / 2 = k ∧ r.armed = true ∧ true = true then qAdd r.lab row else row)
    rw [notice_row fun x hx => h x (List.mem_cons_of_mem _ hx), h r List.mem_cons_self]
    congr 1
    show (if r.kind / 2 = k ∧ r.armed = true then _ else _) = _
    by_cases e : r.kind / 2 = k ∧ r.armed = true
    · rw [if_pos e, if_pos ⟨e.1, e.2, rfl⟩]
    · rw [if_neg e, if_neg fun z => e ⟨z.1, z.2.1⟩]
theorem pend_mem {k : Int} {b : Bool} {x : Int} : ∀ {l : List LR} {q : List Int}, x ∈ pendR k b l q → x ∈ q ∨ x ∈ labs l
  | [], q, h => .inl h
  | r :: l, q, h => by
    have h : x ∈ pendR k b l (if r.kind / 2 = k ∧ r.armed = true ∧ b = true then qAdd r.lab q else q) := h
    rcases pend_mem h with y | y
    · split at y
      · rcases mem_qAdd.mp y with z | z
        · exact .inl z
        · exact .inr (by rw [z]; exact List.mem_cons_self)
      · exact .inl y
    · exact .inr (List.mem_cons_of_mem _ y)
theorem pend_nodup {k : Int} {b : Bool} : ∀ {l : List LR} {q : List Int}, q.Nodup → (pendR k b l q).Nodup
  | [], q, h => h
  | r :: l, q, h => by
    show (pendR k b l (if r.kind / 2 = k ∧ r.armed = true ∧ b = true then qAdd r.lab q else q)).Nodup
    refine pend_nodup ?_
    split
    · exact nodup_qAdd h
    · exact h
theorem pend_len (k : Int) (b : Bool) : ∀ (rs : List LR) (row : List Int), (pendR k b rs row).length ≤ row.length + rs.length
  | [], _ => Nat.le_refl _
  | r :: rs, row => by
    show (pendR k b rs (if r.kind / 2 = k ∧ r.armed = true ∧ b = true then qAdd r.lab row else row)).length ≤ _
    refine Nat.le_trans (pend_len k b rs _) ?_
    rw [List.length_cons]
    have : (if r.kind / 2 = k ∧ r.armed = true ∧ b = true then qAdd r.lab row else row).length ≤ row.length + 1 := by
      unfold qAdd
      split
      · split
        · omega
        · rw [List.length_append]; exact Nat.le_refl _
      · omega
    omega
theorem Good.pend (G : Good rs row) {k : Int} {b : Bool} {l : List LR} (h : ∀ x ∈ l, x.lab ∈ labs rs) : Good rs (pendR k b l row) :=
  ⟨G.ok, G.nd, G.kn, pend_nodup G.rn, fun x hx => (pend_mem hx).elim (G.ri x) fun y => by
    obtain ⟨r, hr, rfl⟩ := List.mem_map.mp y
    exact h r hr⟩
/-! arrivals, finishes, reads -/
theorem Pic.notify (F : Pic S rg rw u) {k : Int} (hk : tk k) {v : Int} {b : Bool} (hv : 0 ≤ v) : Pic (notified (withUnit S k v b) k) rg (fun s => pendR k true (rg s) (rw s)) (upF u k (v, b)) := by
  refine ⟨F.sets, F.srcs, fun s hs => means_eq (F.ms s hs) rfl rfl rfl, fun n a c => means_eq (F.mn n a c) rfl rfl rfl, fun j hj => ?_, fun j hj => ?_, F.ents, fun s hs => ?_, F.reg, fun s hs => (F.good s hs).pend fun x hx => List.mem_map.mpr ⟨x, hx, rfl⟩⟩
  · show (if j = k then (v, b) else S.unit j) = _
    by_cases e : j = k
    · rw [e, if_pos rfl, upF_same]
    · rw [if_neg e, upF_ne e]
      exact F.unit j hj
  · by_cases e : j = k
    · rw [e, upF_same]
      exact hv
    · rw [upF_ne e]
      exact F.upos j hj
  · show (if 3 + s ∈ S.sets then noticeQ (S.reg (3 + s)) k (S.ents (3 + s)) (S.que (3 + s)) else S.que (3 + s)) = _
    rw [if_pos (F.inS hs), F.ents s hs, F.que s hs]
    exact notice_row (F.reg s hs)
theorem Pic.read (F : Pic S rg rw u) {k : Int} (hk : tk k) : Pic (readS S k none) rg rw (upF u k (0, (u k).2)) := by
  refine ⟨F.sets, F.srcs, fun s hs => means_eq (F.ms s hs) rfl rfl rfl, fun n a c => means_eq (F.mn n a c) rfl rfl rfl, fun j hj => ?_, fun j hj => ?_, F.ents, F.que, F.reg, F.good⟩
  · show (if j = k then ((S.unit k).1 - (S.unit k).1, (S.unit k).2) else S.unit j) = _
    by_cases e : j = k
    · rw [e, if_pos rfl, upF_same, F.unit k hk, Int.sub_self]
    · rw [if_neg e, upF_ne e]
      exact F.unit j hj
  · by_cases e : j = k
    · rw [e, upF_same]
      exact Int.le_refl _
    · rw [upF_ne e]
      exact F.upos j hj
/-! a new registration -/
theorem nodup_map_snoc {f : LR → Int} {rs : List LR} {r : LR} (h : (rs.map f).Nodup) (n : f r ∉ rs.map f) : ((rs ++ [r]).map f).Nodup := by
  rw [List.map_append]
  exact nodup_add h n
theorem Good.snoc (G : Good rs row) {r : LR} (h : okR r) (n : r.lab ∉ labs rs) (m : r.kind ∉ kinds rs) : Good (rs ++ [r]) row := by
  refine ⟨fun x hx => ?_, nodup_map_snoc G.nd n, nodup_map_snoc G.kn m, G.rn, fun l hl => ?_⟩
  · rcases List.mem_append.mp hx with y | y
    · exact G.ok x y
    · rw [List.mem_singleton.mp y]
      exact h
  · show l ∈ (rs ++ [r]).map LR.lab
    rw [List.map_append]
    exact List.mem_append.mpr (.inl (G.ri l hl))
theorem pend_one {k : Int} {b : Bool} {r : LR} {row : List Int} (hk : r.kind / 2 = k) (ha : r.armed = true) : pendR k b [r] row = if b = true then qAdd r.lab row else row := by
  show (if r.kind / 2 = k ∧ r.armed = true ∧ b = true then qAdd r.lab row else row) = _
  by_cases e : b = true
  · rw [if_pos ⟨hk, ha, e⟩, if_pos e]
  · rw [if_neg fun z => e z.2.2, if_neg e]
theorem Pic.add (F : Pic S rg rw u) (hs : sd s) {r : LR} (ha : r.armed = true) (h : okR r) (n : r.lab ∉ labs (rg s)) (m : r.kind ∉ kinds (rg s)) :
    Pic (added S (3 + s) r.lab ⟨r.kind, r.kind / 2, r.term, true⟩) (upF rg s (rg s ++ [r])) (upF rw s (pendR (r.kind / 2) (rdyU (u (r.kind / 2))) [r] (rw s))) u := by
  have hk := tk_of h.2.2.1 h.2.2.2.1
  refine ⟨F.sets, F.srcs, fun s hs => means_eq (F.ms s hs) rfl rfl rfl, fun n a c => means_eq (F.mn n a c) rfl rfl rfl, F.unit, F.upos, fun j hj => ?_, fun j hj => ?_, fun j hj x hx => ?_, fun j hj => ?_⟩
  · show (if 3 + j = 3 + s then S.ents (3 + s) ++ [r.lab] else S.ents (3 + j)) = _
    by_cases e : j = s
    · rw [e, if_pos rfl, upF_same, F.ents s hs]
      show (rg s).map LR.lab ++ [r.lab] = (rg s ++ [r]).map LR.lab
      rw [List.map_append]
      rfl
    · rw [if_neg (by omega), upF_ne e]
      exact F.ents j hj
  · show (if 3 + j = 3 + s then (if Wn.ready S (r.kind / 2) = true then qAdd r.lab (S.que (3 + s)) else S.que (3 + s)) else S.que (3 + j)) = _
    by_cases e : j = s
    · rw [e, if_pos rfl, upF_same, F.ready hk, F.que s hs, pend_one rfl ha]
    · rw [if_neg (by omega), upF_ne e]
      exact F.que j hj
  · show (if 3 + j = 3 + s ∧ x.lab = r.lab then (⟨r.kind, r.kind / 2, r.term, true⟩ : Reg) else S.reg (3 + j) x.lab) = _
    by_cases e : j = s
    · subst e
      rw [upF_same] at hx
      rcases List.mem_append.mp hx with y | y
      · rw [if_neg fun z : 3 + j = 3 + j ∧ x.lab = r.lab => n (z.2 ▸ List.mem_map.mpr ⟨x, y, rfl⟩)]
        exact F.reg j hj x y
      · rw [List.mem_singleton.mp y, if_pos ⟨rfl, rfl⟩]
        unfold regOf
        rw [ha]
    · rw [if_neg fun z => e (by have := z.1; omega)]
      rw [upF_ne e] at hx
      exact F.reg j hj x hx
  · by_cases e : j = s
    · rw [e, upF_same, upF_same]
      refine ((F.good s hs).snoc h n m).pend fun x hx => ?_
      rw [List.mem_singleton.mp hx]
      exact List.mem_map.mpr ⟨r, List.mem_append.mpr (.inr List.mem_cons_self), rfl⟩
    · rw [upF_ne e, upF_ne e]
      exact F.good j hj
/-! a change -/
theorem set_map {f : LR → Int} {i : Nat} {r r' : LR} (h : rs[i]? = some r) (e : f r' = f r) : (rs.set i r').map f = rs.map f := by
  obtain ⟨hi, ei⟩ := List.getElem?_eq_some_iff.mp h
  rw [List.map_set, e, ← ei]
  exact List.ext_getElem (by simp) fun n h1 h2 => by
    rw [List.getElem_set]
    split
    · rename_i z
      subst z
      simp
    · rfl
theorem mem_set_lab (nd : (labs rs).Nodup) {i : Nat} {r r' x : LR} (h : rs[i]? = some r) (e : r'.lab = r.lab) (hx : x ∈ rs.set i r') : (x.lab = r.lab ∧ x = r') ∨ (x.lab ≠ r.lab ∧ x ∈ rs) := by
  obtain ⟨hi, ei⟩ := List.getElem?_eq_some_iff.mp h
  obtain ⟨j, hj, ej⟩ := List.getElem_of_mem hx
  rw [List.getElem_set] at ej
  split at ej
  · exact .inl ⟨by rw [← ej, e], ej.symm⟩
  · rename_i n
    rw [List.length_set] at hj
    refine .inr ⟨fun z => n ?_, by rw [← ej]; exact List.getElem_mem hj⟩
    have h1 : (labs rs)[i]? = some r.lab := by
      show (rs.map LR.lab)[i]? = _
      rw [List.getElem?_map, h]
      rfl
    have h2 : (labs rs)[j]? = some r.lab := by
      show (rs.map LR.lab)[j]? = _
      rw [List.getElem?_map, List.getElem?_eq_getElem hj, ej]
      show some x.lab = _
      rw [z]
    exact nodup_idx nd h1 h2
theorem Good.set (G : Good rs row) {i : Nat} {r : LR} (hi : rs[i]? = some r) {w : Str} {b : Bool} (hw : w ∈ wordsL) : Good (rs.set i ⟨r.lab, r.kind, w, b⟩) row := by
  have hr : r ∈ rs := List.mem_of_getElem? hi
  have el : labs (rs.set i ⟨r.lab, r.kind, w, b⟩) = labs rs := set_map hi rfl
  have ek : kinds (rs.set i ⟨r.lab, r.kind, w, b⟩) = kinds rs := set_map hi rfl
  refine ⟨fun x hx => ?_, by rw [el]; exact G.nd, by rw [ek]; exact G.kn, G.rn, by rw [el]; exact G.ri⟩
  rcases mem_set_lab (r' := ⟨r.lab, r.kind, w, b⟩) G.nd hi rfl hx with ⟨h1, h2⟩ | ⟨h1, h2⟩
  · rw [h2]
    obtain ⟨a, b, c, d, _⟩ := G.ok r hr
    exact ⟨a, b, c, d, hw⟩
  · exact G.ok x h2
theorem Pic.change (F : Pic S rg rw u) (hs : sd s) {i : Nat} {r : LR} (hi : (rg s)[i]? = some r) {w : Str} (hw : w ∈ wordsL) :
    Pic (changed S (3 + s) r.lab ⟨r.kind, r.kind / 2, w, true⟩) (upF rg s ((rg s).set i ⟨r.lab, r.kind, w, true⟩)) (upF rw s (pendR (r.kind / 2) (rdyU (u (r.kind / 2))) [⟨r.lab, r.kind, w, true⟩] (rw s))) u := by
  have hr : r ∈ rg s := List.mem_of_getElem? hi
  have G := F.good s hs
  have el : labs ((rg s).set i ⟨r.lab, r.kind, w, true⟩) = labs (rg s) := set_map hi rfl
  refine ⟨F.sets, F.srcs, fun s hs => means_eq (F.ms s hs) rfl rfl rfl, fun n a c => means_eq (F.mn n a c) rfl rfl rfl, F.unit, F.upos, fun j hj => ?_, fun j hj => ?_, fun j hj x hx => ?_, fun j hj => ?_⟩
  · show S.ents (3 + j) = _
    by_cases e : j = s
    · rw [e, upF_same, el, F.ents s hs]
    · rw [upF_ne e]
      exact F.ents j hj
  · show (if 3 + j = 3 + s then (if Wn.ready S (r.kind / 2) = true then qAdd r.lab (S.que (3 + s)) else S.que (3 + s)) else S.que (3 + j)) = _
    by_cases e : j = s
    · rw [e, if_pos rfl, upF_same, F.ready (G.kd hr), F.que s hs, pend_one (r := ⟨r.lab, r.kind, w, true⟩) rfl rfl]
    · rw [if_neg (by omega), upF_ne e]
      exact F.que j hj
  · show (if 3 + j = 3 + s ∧ x.lab = r.lab then (⟨r.kind, r.kind / 2, w, true⟩ : Reg) else S.reg (3 + j) x.lab) = _
    by_cases e : j = s
    · subst e
      rw [upF_same] at hx
      rcases mem_set_lab (r' := ⟨r.lab, r.kind, w, true⟩) G.nd hi rfl hx with ⟨h1, h2⟩ | ⟨h1, h2⟩
      · rw [h2, if_pos ⟨rfl, rfl⟩]
      · rw [if_neg fun z => h1 z.2]
        exact F.reg j hj x h2
    · rw [if_neg fun z => e (by have := z.1; omega)]
      rw [upF_ne e] at hx
      exact F.reg j hj x hx
  · by_cases e : j = s
    · rw [e, upF_same, upF_same]
      refine (G.set hi hw).pend fun x hx => ?_
      rw [List.mem_singleton.mp hx, el]
      exact List.mem_map.mpr ⟨r, hr, rfl⟩
    · rw [upF_ne e, upF_ne e]
      exact F.good j hj
/-! a removal -/
theorem erase_labs : ∀ {rs : List LR} {i : Nat} {r : LR}, (labs rs).Nodup → rs[i]? = some r → labs (rs.eraseIdx i) = without r.lab (labs rs)
  | [], i, r, _, h => by simp at h
  | x :: rs, 0, r, nd, h => by
    cases h
    obtain ⟨n1, _⟩ := List.nodup_cons.mp nd
    show labs rs = without x.lab (x.lab :: labs rs)
    have e0 : decide (x.lab ≠ x.lab) = false := by simp
    unfold without
    rw [List.filter_cons, e0]
    show labs rs = List.filter (fun y => decide (y ≠ x.lab)) (labs rs)
    refine (List.filter_eq_self.mpr fun y hy => ?_).symm
    have ny : y ≠ x.lab := fun z => n1 (z ▸ hy)
    exact decide_eq_true ny
  | x :: rs, i + 1, r, nd, h => by
    obtain ⟨n1, n2⟩ := List.nodup_cons.mp nd
    have h : rs[i]? = some r := h
    have hx : x.lab ≠ r.lab := fun z => n1 (z ▸ List.mem_map.mpr ⟨r, List.mem_of_getElem? h, rfl⟩)
    show x.lab :: labs (rs.eraseIdx i) = without r.lab (x.lab :: labs rs)
    have e0 : decide (x.lab ≠ r.lab) = true := decide_eq_true hx
    rw [erase_labs n2 h]
    unfold without
    rw [List.filter_cons, e0]
    rfl
theorem mem_without {k x : Int} {l : List Int} : x ∈ without k l ↔ x ∈ l ∧ x ≠ k := by
  unfold without
  rw [List.mem_filter]
  exact ⟨fun ⟨a, b⟩ => ⟨a, of_decide_eq_true b⟩, fun ⟨a, b⟩ => ⟨a, decide_eq_true b⟩⟩
theorem Pic.remove (F : Pic S rg rw u) (hs : sd s) {i : Nat} {r : LR} (hi : (rg s)[i]? = some r) : Pic (dropped S (3 + s) r.lab) (upF rg s ((rg s).eraseIdx i)) (upF rw s (without r.lab (rw s))) u := by
  have G := F.good s hs
  have el := erase_labs G.nd hi
  have sub : ∀ x ∈ (rg s).eraseIdx i, x ∈ rg s := fun x hx => (List.eraseIdx_sublist _ _).subset hx
  refine ⟨F.sets, F.srcs, fun s hs => means_eq (F.ms s hs) rfl rfl rfl, fun n a c => means_eq (F.mn n a c) rfl rfl rfl, F.unit, F.upos, fun j hj => ?_, fun j hj => ?_, fun j hj x hx => ?_, fun j hj => ?_⟩
  · show (if 3 + j = 3 + s then without r.lab (S.ents (3 + s)) else S.ents (3 + j)) = _
    by_cases e : j = s
    · rw [e, if_pos rfl, upF_same, el, F.ents s hs]
    · rw [if_neg (by omega), upF_ne e]
      exact F.ents j hj
  · show (if 3 + j = 3 + s then without r.lab (S.que (3 + s)) else S.que (3 + j)) = _
    by_cases e : j = s
    · rw [e, if_pos rfl, upF_same, F.que s hs]
    · rw [if_neg (by omega), upF_ne e]
      exact F.que j hj
  · show S.reg (3 + j) x.lab = _
    by_cases e : j = s
    · subst e
      rw [upF_same] at hx
      exact F.reg j hj x (sub x hx)
    · rw [upF_ne e] at hx
      exact F.reg j hj x hx
  · by_cases e : j = s
    · rw [e, upF_same, upF_same]
      refine ⟨fun x hx => G.ok x (sub x hx), by rw [el]; exact G.nd.filter _, ((List.eraseIdx_sublist _ _).map LR.kind).nodup G.kn, G.rn.filter _, fun l hl => ?_⟩
      rw [el]
      obtain ⟨a, b⟩ := mem_without.mp hl
      exact mem_without.mpr ⟨G.ri l a, b⟩
    · rw [upF_ne e, upF_ne e]
      exact F.good j hj
end

/-! a wait -/
theorem find_lab {rs : List LR} (nd : (labs rs).Nodup) {r : LR} (h : r ∈ rs) : rs.find? (fun x => decide (x.lab = r.lab)) = some r := by
  cases hf : rs.find? (fun x => decide (x.lab = r.lab)) with
  | none => exact absurd (decide_eq_true rfl) (List.find?_eq_none.mp hf r h)
  | some x =>
    have hx := List.find?_some (p := fun x => decide (LR.lab x = r.lab)) hf
    rw [inj_of nd (List.mem_of_find?_eq_some hf) h (of_decide_eq_true hx)]
noncomputable def disarm (l : Int) (x : LR) : LR := if x.lab = l then ⟨x.lab, x.kind, x.term, false⟩ else x
structure KSt where
  told : Int
  row : List Int
  rs : List LR
noncomputable def tkS (u : Int → Int × Bool) (most : Int) (st : KSt) (l : Int) : KSt :=
  if st.told < most then
    match st.rs.find? (fun x => decide (x.lab = l)) with
    | none => st
    | some r => if rdyU (u (r.kind / 2)) = true then ⟨st.told + 1, if r.term = "level" then st.row.erase l ++ [l] else st.row.erase l, if r.term = "once" then st.rs.map (disarm l) else st.rs⟩ else ⟨st.told, st.row.erase l, st.rs⟩
  else st
noncomputable abbrev key3 (rs : List LR) : List (Int × Int × Str) := rs.map fun r => (r.lab, r.kind, r.term)
theorem disarm_lab (l : Int) (x : LR) : (disarm l x).lab = x.lab ∧ (disarm l x).kind = x.kind ∧ (disarm l x).term = x.term := by
  unfold disarm
  split <;> exact ⟨rfl, rfl, rfl⟩
theorem key_disarm (l : Int) (rs : List LR) : key3 (rs.map (disarm l)) = key3 rs := by
  unfold key3
  rw [List.map_map]
  refine List.map_congr_left fun x _ => ?_
  obtain ⟨a, b, c⟩ := disarm_lab l x
  show ((disarm l x).lab, (disarm l x).kind, (disarm l x).term) = _
  rw [a, b, c]
theorem labs_key {rs rs' : List LR} (h : key3 rs' = key3 rs) : labs rs' = labs rs := by
  have := congrArg (List.map fun x : Int × Int × Str => x.1) h
  rw [List.map_map, List.map_map] at this
  exact this
theorem kinds_key {rs rs' : List LR} (h : key3 rs' = key3 rs) : kinds rs' = kinds rs := by
  have := congrArg (List.map fun x : Int × Int × Str => x.2.1) h
  rw [List.map_map, List.map_map] at this
  exact this
theorem tk_over {u : Int → Int × Bool} {most : Int} : ∀ (left : List Int) {st : KSt}, ¬ st.told < most → left.foldl (tkS u most) st = st
  | [], st, _ => rfl
  | l :: left, st, h => by
    show left.foldl (tkS u most) (tkS u most st l) = st
    have e : tkS u most st l = st := if_neg h
    rw [e, tk_over left h]
structure Sim (t : TSt) (st : KSt) (rs0 : List LR) : Prop where
  que : t.que = st.row
  reg : ∀ r ∈ st.rs, t.reg r.lab = regOf r
  key : key3 st.rs = key3 rs0
  nd : st.row.Nodup
  sub : ∀ l ∈ st.row, l ∈ labs rs0
theorem tk_sim {unit u : Int → Int × Bool} {most : Int} {rs0 : List LR} (nd0 : (labs rs0).Nodup) (hu : ∀ r ∈ rs0, unit (r.kind / 2) = u (r.kind / 2)) : ∀ (left kept : List Int) (reps : List (Int × Int × Bool)) (reg : Int → Reg) (rs : List LR),
    (reps.length : Int) ≤ most → Sim ⟨reps, left ++ kept, reg⟩ ⟨reps.length, left ++ kept, rs⟩ rs0 → Sim (takeAll unit most left ⟨reps, left ++ kept, reg⟩) (left.foldl (tkS u most) ⟨reps.length, left ++ kept, rs⟩) rs0
  | [], kept, reps, reg, rs, _, h => h
  | l :: left, kept, reps, reg, rs, hm, h => by
    by_cases e : (reps.length : Int) = most
    · rw [tk_over _ (by show ¬ (reps.length : Int) < most; omega)]
      unfold takeAll
      rw [if_pos e]
      exact h
    · have hl : l ∈ labs rs := by
        rw [labs_key h.key]
        exact h.sub l (List.mem_append.mpr (.inl List.mem_cons_self))
      have nd1 : (labs rs).Nodup := by
        rw [labs_key h.key]
        exact nd0
      obtain ⟨r, hr, rfl⟩ := List.mem_map.mp hl
      have hreg : reg r.lab = regOf r := h.reg r hr
      have hun : unit (r.kind / 2) = u (r.kind / 2) := by
        have : (r.lab, r.kind, r.term) ∈ key3 rs := List.mem_map.mpr ⟨r, hr, rfl⟩
        rw [show key3 rs = key3 rs0 from h.key] at this
        obtain ⟨r0, h0, e0⟩ := List.mem_map.mp this
        have e2 : r0.kind = r.kind := congrArg (fun x : Int × Int × Str => x.2.1) e0
        rw [← e2]
        exact hu r0 h0
      have ndq : (r.lab :: (left ++ kept)).Nodup := h.nd
      obtain ⟨n1, n2⟩ := List.nodup_cons.mp ndq
      have subq : ∀ x ∈ left ++ kept, x ∈ labs rs0 := fun x hx => h.sub x (List.mem_cons_of_mem _ hx)
      have l0 : r.lab ∈ labs rs0 := h.sub _ List.mem_cons_self
      have er : (r.lab :: left ++ kept).erase r.lab = left ++ kept := List.erase_cons_head ..
      unfold takeAll
      rw [if_neg e]
      show Sim (takeAll unit most left (takeStep unit ⟨reps, r.lab :: left ++ kept, reg⟩ r.lab)) (left.foldl (tkS u most) (tkS u most ⟨reps.length, r.lab :: left ++ kept, rs⟩ r.lab)) rs0
      have e1 : tkS u most ⟨reps.length, r.lab :: left ++ kept, rs⟩ r.lab = if rdyU (u (r.kind / 2)) = true then ⟨reps.length + 1, if r.term = "level" then (left ++ kept) ++ [r.lab] else left ++ kept, if r.term = "once" then rs.map (disarm r.lab) else rs⟩ else ⟨reps.length, left ++ kept, rs⟩ := by
        unfold tkS
        rw [if_pos (by show (reps.length : Int) < most; omega)]
        dsimp only
        rw [find_lab nd1 hr]
        dsimp only
        rw [er]
      have e2 : takeStep unit ⟨reps, r.lab :: left ++ kept, reg⟩ r.lab = if rdyU (u (r.kind / 2)) = true then ⟨reps ++ [(r.lab, (u (r.kind / 2)).1, (u (r.kind / 2)).2)], if r.term = "level" then (left ++ kept) ++ [r.lab] else left ++ kept, settled reg r.lab⟩ else ⟨reps, left ++ kept, reg⟩ := by
        have e3 : takeStep unit ⟨reps, r.lab :: left ++ kept, reg⟩ r.lab = if (decide (0 < (unit (reg r.lab).src).1) || (unit (reg r.lab).src).2) = true then ⟨reps ++ [(r.lab, (unit (reg r.lab).src).1, (unit (reg r.lab).src).2)], if (reg r.lab).word = "level" then (left ++ kept) ++ [r.lab] else left ++ kept, settled reg r.lab⟩ else ⟨reps, left ++ kept, reg⟩ := rfl
        rw [e3, show (reg r.lab).src = r.kind / 2 by rw [hreg], show (reg r.lab).word = r.term by rw [hreg], hun]
        rfl
      rw [e1, e2]
      by_cases hrd : rdyU (u (r.kind / 2)) = true
      · rw [if_pos hrd, if_pos hrd]
        have el : ((reps ++ [(r.lab, (u (r.kind / 2)).1, (u (r.kind / 2)).2)]).length : Int) = reps.length + 1 := by
          rw [List.length_append]
          rfl
        have hm1 : ((reps ++ [(r.lab, (u (r.kind / 2)).1, (u (r.kind / 2)).2)]).length : Int) ≤ most := by
          rw [el]
          omega
        have S1 : ∀ kept', (left ++ kept').Nodup → (∀ x ∈ left ++ kept', x ∈ labs rs0) → Sim ⟨reps ++ [(r.lab, (u (r.kind / 2)).1, (u (r.kind / 2)).2)], left ++ kept', settled reg r.lab⟩ ⟨reps.length + 1, left ++ kept', if r.term = "once" then rs.map (disarm r.lab) else rs⟩ rs0 := fun kept' a b => by
          refine ⟨rfl, fun x hx => ?_, ?_, a, b⟩
          · dsimp only at hx ⊢
            unfold settled
            by_cases ho : r.term = "once"
            · rw [if_pos ho] at hx
              obtain ⟨y, hy, rfl⟩ := List.mem_map.mp hx
              rw [(disarm_lab r.lab y).1]
              by_cases z : y.lab = r.lab
              · obtain rfl := inj_of nd1 hy hr z
                rw [hreg, if_pos ⟨rfl, ho⟩]
                unfold disarm
                rw [if_pos rfl]
              · rw [if_neg fun q => z q.1]
                unfold disarm
                rw [if_neg z]
                exact h.reg y hy
            · rw [if_neg ho] at hx
              rw [if_neg fun q => ho (by have := q.2; rw [hreg] at this; exact this)]
              exact h.reg x hx
          · dsimp only
            by_cases ho : r.term = "once"
            · rw [if_pos ho, key_disarm]
              exact h.key
            · rw [if_neg ho]
              exact h.key
        by_cases hv : r.term = "level"
        · rw [if_pos hv, List.append_assoc]
          have := tk_sim nd0 hu left (kept ++ [r.lab]) (reps ++ [(r.lab, (u (r.kind / 2)).1, (u (r.kind / 2)).2)]) (settled reg r.lab) (if r.term = "once" then rs.map (disarm r.lab) else rs) hm1
          rw [el] at this
          refine this (S1 _ ?_ fun x hx => ?_)
          · rw [← List.append_assoc]
            exact nodup_add n2 n1
          · rw [← List.append_assoc] at hx
            rcases mem_add.mp hx with y | y
            · exact subq x y
            · rw [y]
              exact l0
        · rw [if_neg hv]
          have := tk_sim nd0 hu left kept (reps ++ [(r.lab, (u (r.kind / 2)).1, (u (r.kind / 2)).2)]) (settled reg r.lab) (if r.term = "once" then rs.map (disarm r.lab) else rs) hm1
          rw [el] at this
          exact this (S1 _ n2 subq)
      · rw [if_neg hrd, if_neg hrd]
        exact tk_sim nd0 hu left kept reps reg rs hm ⟨rfl, h.reg, h.key, n2, subq⟩
noncomputable abbrev tkAll (u : Int → Int × Bool) (most : Int) (row : List Int) (rs : List LR) : KSt := row.foldl (tkS u most) ⟨0, row, rs⟩
section
variable {S : Sys} {rg : Int → List LR} {rw : Int → List Int} {u : Int → Int × Bool} {s : Int} {rs : List LR} {row : List Int} {most : Int}
theorem Pic.sim (F : Pic S rg rw u) (hs : sd s) (hm : 0 ≤ most) : Sim (Wn.took S (3 + s) most) (tkAll u most (rw s) (rg s)) (rg s) := by
  have G := F.good s hs
  have := tk_sim (unit := S.unit) (u := u) (most := most) (rs0 := rg s) G.nd (fun r hr => F.unit _ (G.kd hr)) (rw s) [] [] (S.reg (3 + s)) (rg s) hm ⟨rfl, F.reg s hs, rfl, by rw [List.append_nil]; exact G.rn, by rw [List.append_nil]; exact G.ri⟩
  rw [List.append_nil] at this
  unfold Wn.took
  rw [F.que s hs]
  exact this
theorem Good.key {rs rs' : List LR} {row row' : List Int} (G : Good rs row) (h : key3 rs' = key3 rs) (nd : row'.Nodup) (sub : ∀ l ∈ row', l ∈ labs rs) : Good rs' row' := by
  refine ⟨fun x hx => ?_, by rw [labs_key h]; exact G.nd, by rw [kinds_key h]; exact G.kn, nd, by rw [labs_key h]; exact sub⟩
  have : (x.lab, x.kind, x.term) ∈ key3 rs' := List.mem_map.mpr ⟨x, hx, rfl⟩
  rw [h] at this
  obtain ⟨y, hy, e⟩ := List.mem_map.mp this
  have e1 : y.lab = x.lab := congrArg (fun x : Int × Int × Str => x.1) e
  have e2 : y.kind = x.kind := congrArg (fun x : Int × Int × Str => x.2.1) e
  have e3 : y.term = x.term := congrArg (fun x : Int × Int × Str => x.2.2) e
  have := G.ok y hy
  unfold okR at this ⊢
  rw [← e1, ← e2, ← e3]
  exact this
theorem Pic.wait (F : Pic S rg rw u) (hs : sd s) (hm : 0 ≤ most) : Pic (waited S (3 + s) most) (upF rg s (tkAll u most (rw s) (rg s)).rs) (upF rw s (tkAll u most (rw s) (rg s)).row) u := by
  have G := F.good s hs
  have M := F.sim hs hm
  refine ⟨F.sets, F.srcs, fun s hs => means_eq (F.ms s hs) rfl rfl rfl, fun n a c => means_eq (F.mn n a c) rfl rfl rfl, F.unit, F.upos, fun j hj => ?_, fun j hj => ?_, fun j hj x hx => ?_, fun j hj => ?_⟩
  · show S.ents (3 + j) = _
    by_cases e : j = s
    · rw [e, upF_same, labs_key M.key, F.ents s hs]
    · rw [upF_ne e]
      exact F.ents j hj
  · show (if 3 + j = 3 + s then (Wn.took S (3 + s) most).que else S.que (3 + j)) = _
    by_cases e : j = s
    · rw [e, if_pos rfl, upF_same]
      exact M.que
    · rw [if_neg (by omega), upF_ne e]
      exact F.que j hj
  · show (if 3 + j = 3 + s then (Wn.took S (3 + s) most).reg else S.reg (3 + j)) x.lab = _
    by_cases e : j = s
    · subst e
      rw [upF_same] at hx
      rw [if_pos rfl]
      exact M.reg x hx
    · rw [if_neg (by omega)]
      rw [upF_ne e] at hx
      exact F.reg j hj x hx
  · by_cases e : j = s
    · rw [e, upF_same, upF_same]
      exact G.key M.key M.nd M.sub
    · rw [upF_ne e, upF_ne e]
      exact F.good j hj
end

/-! the law's lists -/
structure AD where
  rg : Addr
  rw : Addr
  ul : Addr
  g : Int → Addr
  w : Int → Addr
  ts : Int → List Addr
  us : Int → Addr
noncomputable abbrev tup4 (r : LR) : HO := .tup [.int r.lab, .int r.kind, .str r.term, .bl r.armed]
noncomputable abbrev utup (v : Int × Bool) : HO := .tup [.int v.1, .bl v.2]
structure Dist (A : AD) : Prop where
  ww : A.w 0 ≠ A.w 1
  gg : A.g 0 ≠ A.g 1
  gw : ∀ s s', sd s → sd s' → A.g s ≠ A.w s'
  g1 : ∀ s, sd s → A.g s ≠ A.rg ∧ A.g s ≠ A.rw ∧ A.g s ≠ A.ul
  w1 : ∀ s, sd s → A.w s ≠ A.rg ∧ A.w s ≠ A.rw ∧ A.w s ≠ A.ul
  r1 : A.rg ≠ A.rw ∧ A.rg ≠ A.ul ∧ A.rw ≠ A.ul
noncomputable abbrev ulV (A : AD) : List V := [.ref (A.us 0), .ref (A.us 1), .ref (A.us 2)]
structure UH (H : Hp) (ul : Addr) (us : Int → Addr) (u : Int → Int × Bool) : Prop where
  hul : H ul = some (.lst [.ref (us 0), .ref (us 1), .ref (us 2)])
  hu : ∀ k, tk k → H (us k) = some (utup (u k))
structure LH (H : Hp) (A : AD) (rg : Int → List LR) (rw : Int → List Int) (u : Int → Int × Bool) : Prop where
  hrg : H A.rg = some (.lst [.ref (A.g 0), .ref (A.g 1)])
  hrw : H A.rw = some (.lst [.ref (A.w 0), .ref (A.w 1)])
  U : UH H A.ul A.us u
  hg : ∀ s, sd s → H (A.g s) = some (.lst ((A.ts s).map V.ref))
  hw : ∀ s, sd s → H (A.w s) = some (.lst ((rw s).map V.int))
  ht : ∀ s, sd s → Paired (fun t r => H t = some (tup4 r)) (A.ts s) (rg s)
  d : Dist A
theorem at2 {α : Type} {f : α → V} {x : Int → α} {s : Int} (hs : sd s) : atI [f (x 0), f (x 1)] s = some (f (x s)) := by
  rcases hs with rfl | rfl <;> rfl
theorem ix2 {α : Type} {a b : α} {s : Int} (hs : sd s) : ixN [a, b].length s = some s.toNat := by
  rcases hs with rfl | rfl <;> rfl
theorem at3 {α : Type} {f : α → V} {x : Int → α} {s : Int} (hs : tk s) : atI [f (x 0), f (x 1), f (x 2)] s = some (f (x s)) := by
  rcases hs with rfl | rfl | rfl <;> rfl
theorem ix3 {α : Type} {a b c : α} {s : Int} (hs : tk s) : ixN [a, b, c].length s = some s.toNat := by
  rcases hs with rfl | rfl | rfl <;> rfl
theorem pair_get {α β : Type} {r : α → β → Prop} {xs : List α} {ys : List β} (p : Paired r xs ys) : ∀ {i : Nat} {x : α}, xs[i]? = some x → ∃ y, ys[i]? = some y ∧ r x y := by
  induction p with
  | nil => intro i x h; simp at h
  | cons h _ ih =>
    intro i x hx
    cases i with
    | zero => cases hx; exact ⟨_, rfl, h⟩
    | succ i => exact ih (i := i) hx
theorem pair_keep {H H' : Hp} {ts : List Addr} {rs : List LR} (p : Paired (fun t r => H t = some (tup4 r)) ts rs) (k : ∀ b xs, H b = some (.tup xs) → H' b = some (.tup xs)) : Paired (fun t r => H' t = some (tup4 r)) ts rs := by
  induction p with
  | nil => exact .nil
  | cons h _ ih => exact .cons (k _ _ h) ih
theorem pair_set {α β : Type} {r : α → β → Prop} {xs : List α} {ys : List β} (p : Paired r xs ys) {x : α} {y : β} (h : r x y) : ∀ j : Nat, Paired r (xs.set j x) (ys.set j y) := by
  induction p with
  | nil => intro j; exact .nil
  | cons h0 _ ih =>
    intro j
    cases j with
    | zero => exact .cons h (by assumption)
    | succ j => exact .cons h0 (ih j)
theorem pair_snoc {α β : Type} {r : α → β → Prop} {xs : List α} {ys : List β} {x : α} {y : β} (p : Paired r xs ys) (q : r x y) : Paired r (xs ++ [x]) (ys ++ [y]) := by
  induction p with
  | nil => exact .cons q .nil
  | cons h _ ih => exact .cons h ih
theorem pair_erase {α β : Type} {r : α → β → Prop} {xs : List α} {ys : List β} (p : Paired r xs ys) : ∀ j : Nat, Paired r (xs.eraseIdx j) (ys.eraseIdx j) := by
  induction p with
  | nil => intro j; exact .nil
  | cons h0 h1 ih =>
    intro j
    cases j with
    | zero => exact h1
    | succ j => exact .cons h0 (ih j)
theorem map_erase {α β : Type} (f : α → β) : ∀ (l : List α) (i : Nat), (l.map f).eraseIdx i = (l.eraseIdx i).map f
  | [], _ => rfl
  | _ :: _, 0 => rfl
  | x :: l, i + 1 => by
    show f x :: (l.map f).eraseIdx i = _
    rw [map_erase f l i]
    rfl
noncomputable def setTs (A : AD) (s : Int) (ts : List Addr) : AD := { A with ts := upF A.ts s ts }
noncomputable def setUs (A : AD) (k : Int) (a : Addr) : AD := { A with us := upF A.us k a }
theorem upF_twice {α : Type} {f : Int → α} {s : Int} {v w : α} : upF (upF f s v) s w = upF f s w := by
  funext m
  by_cases z : m = s
  · rw [z, upF_same, upF_same]
  · rw [upF_ne z, upF_ne z, upF_ne z]
theorem upF_self {α : Type} {f : Int → α} {s : Int} : upF f s (f s) = f := by
  funext m
  by_cases z : m = s
  · rw [z, upF_same]
  · rw [upF_ne z]
theorem setTs_twice {A : AD} {s : Int} {t t' : List Addr} : setTs (setTs A s t) s t' = setTs A s t' := by
  unfold setTs
  congr 1
  exact upF_twice
section
variable {H H1 : Hp} {A : AD} {rg : Int → List LR} {rw : Int → List Int} {u : Int → Int × Bool} {s k0 : Int} {row : List Int} {ts' : List Addr} {rs' : List LR} {a' : Addr} {v : Int × Bool}
theorem Dist.w_ne (d : Dist A) {s s' : Int} (hs : sd s) (hs' : sd s') (n : s' ≠ s) : A.w s' ≠ A.w s := by
  rcases hs with rfl | rfl <;> rcases hs' with rfl | rfl
  · exact absurd rfl n
  · exact Ne.symm d.ww
  · exact d.ww
  · exact absurd rfl n
theorem Dist.g_ne (d : Dist A) {s s' : Int} (hs : sd s) (hs' : sd s') (n : s' ≠ s) : A.g s' ≠ A.g s := by
  rcases hs with rfl | rfl <;> rcases hs' with rfl | rfl
  · exact absurd rfl n
  · exact Ne.symm d.gg
  · exact d.gg
  · exact absurd rfl n
theorem UH.keep {ul : Addr} {us : Int → Addr} (L : UH H ul us u) (k : ∀ b o, b ≠ a' → H b = some o → H1 b = some o) {xs : List V} (h : H a' = some (.lst xs)) (n : ul ≠ a') : UH H1 ul us u :=
  ⟨k _ _ n L.hul, fun j hj => k _ _ (ne_of (L.hu j hj) h (by intro z; cases z)) (L.hu j hj)⟩
theorem LH.keep (L : LH H A rg rw u) (k : ∀ b o, H b = some o → H1 b = some o) : LH H1 A rg rw u :=
  ⟨k _ _ L.hrg, k _ _ L.hrw, ⟨k _ _ L.U.hul, fun j hj => k _ _ (L.U.hu j hj)⟩, fun s hs => k _ _ (L.hg s hs), fun s hs => k _ _ (L.hw s hs), fun s hs => pair_keep (L.ht s hs) fun b xs e => k b _ e, L.d⟩
theorem LH.setRow (L : LH H A rg rw u) (hs : sd s) (k : ∀ b o, b ≠ A.w s → H b = some o → H1 b = some o) (h : H1 (A.w s) = some (.lst (row.map V.int))) : LH H1 A rg (upF rw s row) u := by
  obtain ⟨w1, w2, w3⟩ := L.d.w1 s hs
  refine ⟨k _ _ (Ne.symm w1) L.hrg, k _ _ (Ne.symm w2) L.hrw, L.U.keep k (L.hw s hs) (Ne.symm w3), fun j hj => k _ _ (L.d.gw j s hj hs) (L.hg j hj), fun j hj => ?_, fun j hj => pair_keep (L.ht j hj) fun b xs e => k b _ ?_ e, L.d⟩
  · by_cases e : j = s
    · rw [e, upF_same, h]
    · rw [upF_ne e]
      exact k _ _ (L.d.w_ne hs hj e) (L.hw j hj)
  · exact ne_of e (L.hw s hs) (by intro z; cases z)
theorem LH.rows (L : LH H A rg rw u) {rw' : Int → List Int} (h : ∀ s, sd s → rw' s = rw s) : LH H A rg rw' u :=
  ⟨L.hrg, L.hrw, L.U, L.hg, fun s hs => by rw [h s hs]; exact L.hw s hs, L.ht, L.d⟩
theorem Dist.setTs (d : Dist A) : Dist (setTs A s ts') := ⟨d.ww, d.gg, d.gw, d.g1, d.w1, d.r1⟩
theorem LH.setReg (L : LH H A rg rw u) (hs : sd s) (k : ∀ b o, b ≠ A.g s → H b = some o → H1 b = some o) (h : H1 (A.g s) = some (.lst (ts'.map V.ref))) (ht : Paired (fun t r => H1 t = some (tup4 r)) ts' rs') : LH H1 (setTs A s ts') (upF rg s rs') rw u := by
  obtain ⟨w1, w2, w3⟩ := L.d.g1 s hs
  refine ⟨k _ _ (Ne.symm w1) L.hrg, k _ _ (Ne.symm w2) L.hrw, L.U.keep k (L.hg s hs) (Ne.symm w3), fun j hj => ?_, fun j hj => k _ _ (Ne.symm (L.d.gw s j hs hj)) (L.hw j hj), fun j hj => ?_, L.d.setTs⟩
  · by_cases e : j = s
    · rw [e]
      show H1 (A.g s) = some (.lst ((upF A.ts s ts' s).map V.ref))
      rw [upF_same]
      exact h
    · show H1 (A.g j) = some (.lst ((upF A.ts s ts' j).map V.ref))
      rw [upF_ne e]
      exact k _ _ (L.d.g_ne hs hj e) (L.hg j hj)
  · by_cases e : j = s
    · rw [e]
      show Paired _ (upF A.ts s ts' s) (upF rg s rs' s)
      rw [upF_same, upF_same]
      exact ht
    · show Paired _ (upF A.ts s ts' j) (upF rg s rs' j)
      rw [upF_ne e, upF_ne e]
      exact pair_keep (L.ht j hj) fun b xs z => k _ _ (ne_of z (L.hg s hs) (by intro q; cases q)) z
theorem ul_set (hk : tk k0) : (ulV A).set k0.toNat (.ref a') = ulV (setUs A k0 a') := by
  unfold ulV setUs upF
  rcases hk with rfl | rfl | rfl <;> rfl
theorem LH.setU (L : LH H A rg rw u) (hk : tk k0) (k : ∀ b o, b ≠ A.ul → H b = some o → H1 b = some o) (h : H1 A.ul = some (.lst ((ulV A).set k0.toNat (.ref a')))) (ha : H1 a' = some (utup v)) : LH H1 (setUs A k0 a') rg rw (upF u k0 v) := by
  refine ⟨k _ _ L.d.r1.2.1 L.hrg, k _ _ L.d.r1.2.2 L.hrw, ⟨?_, fun j hj => ?_⟩, fun j hj => k _ _ (L.d.g1 j hj).2.2 (L.hg j hj), fun j hj => k _ _ (L.d.w1 j hj).2.2 (L.hw j hj), fun j hj => pair_keep (L.ht j hj) fun b xs z => k _ _ (ne_of z L.U.hul (by intro q; cases q)) z, ⟨L.d.ww, L.d.gg, L.d.gw, L.d.g1, L.d.w1, L.d.r1⟩⟩
  · rw [ul_set hk] at h
    exact h
  · show H1 (upF A.us k0 a' j) = _
    by_cases e : j = k0
    · rw [e, upF_same, upF_same]
      exact ha
    · rw [upF_ne e, upF_ne e]
      exact k _ _ (ne_of (L.U.hu j hj) L.U.hul (by intro z; cases z)) (L.U.hu j hj)
end
theorem WQ.mut {C : Cs} {Hb H H1 : Hp} {p box : Addr} {ks ks1 : List (Addr × HO)} {Φ : Sys → Prop} (W : WQ C Hb H p box ks Φ) (ch : Addr → Prop) (hch : ∀ l, ch l → ∃ o, (l, o) ∈ ks) (k : ∀ b o, ¬ ch b → b ≠ p → H b = some o → H1 b = some o) (bg : BagAt H1 p)
    (hk : ∀ q ∈ ks1, H1 q.1 = some q.2 ∧ (ch q.1 ∨ H q.1 = none)) : WQ C Hb H1 p box ks1 Φ := by
  obtain ⟨S, ad, dx, e1, A, F, o1, o2, o4⟩ := W.ex
  refine ⟨⟨S, ad, dx, e1, ⟨fun c hc => k _ _ (fun z => ?_) (fun z => o2 ⟨c, hc, z⟩) (A.at_ c hc), A.inj⟩, F, o1, o2, fun q hq z => ?_⟩, fun b o e => k b o (fun z => ?_) (fun z => by rw [z, W.bp] at e; cases e) (W.same _ _ e), bg, W.bp, fun q hq => (hk q hq).1, fun q hq => ?_⟩
  · obtain ⟨o, ho⟩ := hch _ z
    exact o4 _ ho ⟨c, hc, rfl⟩
  · rcases (hk q hq).2 with y | y
    · obtain ⟨o, ho⟩ := hch _ y
      exact o4 _ ho z
    · exact A.not_own y z
  · obtain ⟨o', ho⟩ := hch _ z
    rw [(W.kne _ ho).2] at e
    cases e
  · rcases (hk q hq).2 with y | y
    · obtain ⟨o, ho⟩ := hch _ y
      exact W.kne (q.1, o) ho
    · exact ⟨BagAt.ne' W.bag y, W.same.free y⟩
noncomputable def tc : List Addr → List LR → List (Addr × HO)
  | t :: ts, r :: rs => (t, tup4 r) :: tc ts rs
  | _, _ => []
noncomputable def kS (A : AD) (rg : Int → List LR) (rw : Int → List Int) (s : Int) : List (Addr × HO) := (A.g s, .lst ((A.ts s).map V.ref)) :: (A.w s, .lst ((rw s).map V.int)) :: tc (A.ts s) (rg s)
noncomputable def kU (A : AD) (u : Int → Int × Bool) : List (Addr × HO) := [(A.ul, .lst (ulV A)), (A.us 0, utup (u 0)), (A.us 1, utup (u 1)), (A.us 2, utup (u 2))]
noncomputable def KS (A : AD) (rg : Int → List LR) (rw : Int → List Int) (u : Int → Int × Bool) : List (Addr × HO) := (A.rg, .lst [.ref (A.g 0), .ref (A.g 1)]) :: (A.rw, .lst [.ref (A.w 0), .ref (A.w 1)]) :: (kU A u ++ (kS A rg rw 0 ++ kS A rg rw 1))
noncomputable def inU (A : AD) (b : Addr) : Prop := b = A.ul ∨ ∃ k, tk k ∧ b = A.us k
noncomputable def inA (A : AD) (b : Addr) : Prop := b = A.rg ∨ b = A.rw ∨ inU A b ∨ ∃ s, sd s ∧ (b = A.g s ∨ b = A.w s ∨ b ∈ A.ts s)
theorem tc_at {H : Hp} {ts : List Addr} {rs : List LR} (p : Paired (fun t r => H t = some (tup4 r)) ts rs) : ∀ q ∈ tc ts rs, H q.1 = some q.2 ∧ q.1 ∈ ts := by
  induction p with
  | nil => intro q h; cases h
  | cons h _ ih =>
    intro q hq
    rcases List.mem_cons.mp hq with rfl | hq
    · exact ⟨h, List.mem_cons_self⟩
    · exact ⟨(ih q hq).1, List.mem_cons_of_mem _ (ih q hq).2⟩
theorem tc_of {H H1 : Hp} {ts : List Addr} {rs : List LR} (p : Paired (fun t r => H t = some (tup4 r)) ts rs) (h : ∀ q ∈ tc ts rs, H1 q.1 = some q.2) : Paired (fun t r => H1 t = some (tup4 r)) ts rs := by
  induction p with
  | nil => exact .nil
  | cons _ _ ih => exact .cons (h _ List.mem_cons_self) (ih fun q hq => h q (List.mem_cons_of_mem _ hq))
theorem tc_in {H : Hp} {ts : List Addr} {rs : List LR} (p : Paired (fun t r => H t = some (tup4 r)) ts rs) : ∀ t ∈ ts, ∃ o, (t, o) ∈ tc ts rs := by
  induction p with
  | nil => intro q h; cases h
  | cons h _ ih =>
    intro t ht
    rcases List.mem_cons.mp ht with rfl | ht
    · exact ⟨_, List.mem_cons_self⟩
    · obtain ⟨o, ho⟩ := ih t ht
      exact ⟨o, List.mem_cons_of_mem _ ho⟩
section
variable {H H1 : Hp} {A : AD} {rg : Int → List LR} {rw : Int → List Int} {u : Int → Int × Bool}
theorem kU_mem {q : Addr × HO} : q ∈ kU A u ↔ q = (A.ul, .lst (ulV A)) ∨ ∃ k, tk k ∧ q = (A.us k, utup (u k)) := by
  unfold kU
  simp only [List.mem_cons, List.not_mem_nil, or_false]
  constructor
  · rintro (h | h | h | h)
    · exact .inl h
    · exact .inr ⟨0, .inl rfl, h⟩
    · exact .inr ⟨1, .inr (.inl rfl), h⟩
    · exact .inr ⟨2, .inr (.inr rfl), h⟩
  · rintro (h | ⟨k, rfl | rfl | rfl, h⟩)
    · exact .inl h
    · exact .inr (.inl h)
    · exact .inr (.inr (.inl h))
    · exact .inr (.inr (.inr h))
theorem KS_mem {q : Addr × HO} : q ∈ KS A rg rw u ↔ q = (A.rg, .lst [.ref (A.g 0), .ref (A.g 1)]) ∨ q = (A.rw, .lst [.ref (A.w 0), .ref (A.w 1)]) ∨ q ∈ kU A u ∨ ∃ s, sd s ∧ (q = (A.g s, .lst ((A.ts s).map V.ref)) ∨ q = (A.w s, .lst ((rw s).map V.int)) ∨ q ∈ tc (A.ts s) (rg s)) := by
  unfold KS kS
  simp only [List.mem_cons, List.mem_append]
  constructor
  · rintro (h | h | h | h | h)
    · exact .inl h
    · exact .inr (.inl h)
    · exact .inr (.inr (.inl h))
    · exact .inr (.inr (.inr ⟨0, sd0, h⟩))
    · exact .inr (.inr (.inr ⟨1, sd1, h⟩))
  · rintro (h | h | h | ⟨s, rfl | rfl, h⟩)
    · exact .inl h
    · exact .inr (.inl h)
    · exact .inr (.inr (.inl h))
    · exact .inr (.inr (.inr (.inl h)))
    · exact .inr (.inr (.inr (.inr h)))
theorem LH.ks (L : LH H A rg rw u) : ∀ q ∈ KS A rg rw u, H q.1 = some q.2 ∧ inA A q.1 := fun q hq => by
  rcases KS_mem.mp hq with rfl | rfl | h | ⟨s, hs, rfl | rfl | h⟩
  · exact ⟨L.hrg, .inl rfl⟩
  · exact ⟨L.hrw, .inr (.inl rfl)⟩
  · rcases kU_mem.mp h with rfl | ⟨k, hk, rfl⟩
    · exact ⟨L.U.hul, .inr (.inr (.inl (.inl rfl)))⟩
    · exact ⟨L.U.hu k hk, .inr (.inr (.inl (.inr ⟨k, hk, rfl⟩)))⟩
  · exact ⟨L.hg s hs, .inr (.inr (.inr ⟨s, hs, .inl rfl⟩))⟩
  · exact ⟨L.hw s hs, .inr (.inr (.inr ⟨s, hs, .inr (.inl rfl)⟩))⟩
  · obtain ⟨a, b⟩ := tc_at (L.ht s hs) q h
    exact ⟨a, .inr (.inr (.inr ⟨s, hs, .inr (.inr b)⟩))⟩
theorem LH.inKS (L : LH H A rg rw u) {b : Addr} (h : inA A b) : ∃ o, (b, o) ∈ KS A rg rw u := by
  rcases h with rfl | rfl | h | ⟨s, hs, rfl | rfl | h⟩
  · exact ⟨_, KS_mem.mpr (.inl rfl)⟩
  · exact ⟨_, KS_mem.mpr (.inr (.inl rfl))⟩
  · rcases h with rfl | ⟨k, hk, rfl⟩
    · exact ⟨_, KS_mem.mpr (.inr (.inr (.inl (kU_mem.mpr (.inl rfl)))))⟩
    · exact ⟨_, KS_mem.mpr (.inr (.inr (.inl (kU_mem.mpr (.inr ⟨k, hk, rfl⟩)))))⟩
  · exact ⟨_, KS_mem.mpr (.inr (.inr (.inr ⟨s, hs, .inl rfl⟩)))⟩
  · exact ⟨_, KS_mem.mpr (.inr (.inr (.inr ⟨s, hs, .inr (.inl rfl)⟩)))⟩
  · obtain ⟨o, ho⟩ := tc_in (L.ht s hs) b h
    exact ⟨o, KS_mem.mpr (.inr (.inr (.inr ⟨s, hs, .inr (.inr ho)⟩)))⟩
theorem LH.of_ks (L : LH H A rg rw u) (h : ∀ q ∈ KS A rg rw u, H1 q.1 = some q.2) : LH H1 A rg rw u :=
  ⟨h _ (KS_mem.mpr (.inl rfl)), h _ (KS_mem.mpr (.inr (.inl rfl))), ⟨h _ (KS_mem.mpr (.inr (.inr (.inl (kU_mem.mpr (.inl rfl)))))), fun k hk => h _ (KS_mem.mpr (.inr (.inr (.inl (kU_mem.mpr (.inr ⟨k, hk, rfl⟩))))))⟩, fun s hs => h _ (KS_mem.mpr (.inr (.inr (.inr ⟨s, hs, .inl rfl⟩)))), fun s hs => h _ (KS_mem.mpr (.inr (.inr (.inr ⟨s, hs, .inr (.inl rfl)⟩)))), fun s hs => tc_of (L.ht s hs) fun q hq => h q (KS_mem.mpr (.inr (.inr (.inr ⟨s, hs, .inr (.inr hq)⟩)))), L.d⟩
theorem in_g {A : AD} {s : Int} (hs : sd s) : inA A (A.g s) := .inr (.inr (.inr ⟨s, hs, .inl rfl⟩))
theorem in_w {A : AD} {s : Int} (hs : sd s) : inA A (A.w s) := .inr (.inr (.inr ⟨s, hs, .inr (.inl rfl)⟩))
theorem in_ul {A : AD} : inA A A.ul := .inr (.inr (.inl (.inl rfl)))
theorem in_setTs {A : AD} {s : Int} {ts : List Addr} {H : Hp} (h : ∀ t ∈ ts, t ∈ A.ts s ∨ H t = none) (hs : sd s) {b : Addr} (hb : inA (setTs A s ts) b) : inA A b ∨ H b = none := by
  rcases hb with h1 | h1 | h1 | ⟨j, hj, h1 | h1 | h1⟩
  · exact .inl (.inl h1)
  · exact .inl (.inr (.inl h1))
  · exact .inl (.inr (.inr (.inl h1)))
  · exact .inl (.inr (.inr (.inr ⟨j, hj, .inl h1⟩)))
  · exact .inl (.inr (.inr (.inr ⟨j, hj, .inr (.inl h1)⟩)))
  · by_cases e : j = s
    · have h1 : b ∈ upF A.ts s ts j := h1
      rw [e, upF_same] at h1
      rcases h b h1 with y | y
      · exact .inl (.inr (.inr (.inr ⟨s, hs, .inr (.inr y)⟩)))
      · exact .inr y
    · have h1 : b ∈ upF A.ts s ts j := h1
      rw [upF_ne e] at h1
      exact .inl (.inr (.inr (.inr ⟨j, hj, .inr (.inr h1)⟩)))
theorem in_setUs {A : AD} {k : Int} {a : Addr} {H : Hp} (h : H a = none) {b : Addr} (hb : inA (setUs A k a) b) : inA A b ∨ H b = none := by
  rcases hb with h1 | h1 | (h1 | ⟨j, hj, h1⟩) | h1
  · exact .inl (.inl h1)
  · exact .inl (.inr (.inl h1))
  · exact .inl (.inr (.inr (.inl (.inl h1))))
  · have h1 : b = upF A.us k a j := h1
    by_cases e : j = k
    · rw [e, upF_same] at h1
      exact .inr (by rw [h1]; exact h)
    · rw [upF_ne e] at h1
      exact .inl (.inr (.inr (.inl (.inr ⟨j, hj, h1⟩))))
  · exact .inl (.inr (.inr (.inr h1)))
end
/-! the system and the law's lists -/
structure WL (C : Cs) (Hb H : Hp) (p box : Addr) (A : AD) (rg : Int → List LR) (rw : Int → List Int) (u : Int → Int × Bool) (Φ : Sys → Prop) : Prop where
  W : WQ C Hb H p box (KS A rg rw u) Φ
  L : LH H A rg rw u
section
variable {C : Cs} {Hb H H1 : Hp} {p box : Addr} {A A1 : AD} {rg rg1 : Int → List LR} {rw rw1 : Int → List Int} {u u1 : Int → Int × Bool} {Φ Φ1 : Sys → Prop} {s k : Int} {r : LR} {wd : Str} {Q : VK} {E : XK} {i : Nat}
theorem WL.of (W : WL C Hb H p box A rg rw u Φ) (W1 : WQ C Hb H1 p box (KS A rg rw u) Φ1) : WL C Hb H1 p box A rg rw u Φ1 := ⟨W1, W.L.of_ks W1.kat⟩
theorem WL.draw (W : WL C Hb H p box A rg rw u Φ) (e : ∀ b, b ≠ p → H1 b = H b) (bg : BagAt H1 p) : WL C Hb H1 p box A rg rw u Φ := W.of (W.W.draw e bg)
theorem WL.dr (W : WL C Hb H p box A rg rw u Φ) (d : Dr p H H1) : WL C Hb H1 p box A rg rw u Φ := W.of (W.W.dr d)
theorem WL.same' (W : WL C Hb H p box A rg rw u Φ) (e : Same H H1) : WL C Hb H1 p box A rg rw u Φ := W.of (W.W.same' e)
theorem WL.to (W : WL C Hb H p box A rg rw u Φ) (f : ∀ S, Φ S → Φ1 S) : WL C Hb H p box A rg rw u Φ1 := ⟨W.W.to f, W.L⟩
theorem WL.mut (W : WL C Hb H p box A rg rw u Φ) (L1 : LH H1 A1 rg1 rw1 u1) (k : ∀ b o, ¬ inA A b → H b = some o → H1 b = some o) (hin : ∀ b, inA A1 b → inA A b ∨ H b = none) : WL C Hb H1 p box A1 rg1 rw1 u1 Φ := by
  have np : ¬ inA A p := fun z => by
    obtain ⟨o, ho⟩ := W.L.inKS z
    exact (W.W.kne _ ho).1 rfl
  refine ⟨W.W.mut (inA A) (fun l h => W.L.inKS h) (fun b o n _ e => k b o n e) ?_ fun q hq => ?_, L1⟩
  · obtain ⟨x, y, e, z⟩ := W.W.bag
    exact ⟨x, y, k _ _ np e, z⟩
  · obtain ⟨a, b⟩ := L1.ks q hq
    exact ⟨a, hin _ b⟩
theorem num_of {n k : Int} (hk : tk k) (h : n = 2 * k ∨ n = 2 * k + 1) : 0 ≤ n ∧ n < 6 ∧ n / 2 = k := by
  unfold tk at hk
  omega
theorem WL.arrive {n : Int} (W : WL C Hb H p box A rg rw u fun S => Pic S rg1 rw1 u1) (hk : tk k) (hn : n = 2 * k ∨ n = 2 * k + 1) (hf : (u1 k).2 = false)
    (q : ∀ H1, WL C Hb H1 p box A rg rw u (fun S => Pic S rg1 (fun s => pendR k true (rg1 s) (rw1 s)) (upF u1 k ((u1 k).1 + 1, false))) → Q .non H1) : spArrive C [.ref box, .int 0, .int n, .int 1] H Q E := by
  obtain ⟨S, ad, dx, hb, A0, F, o1, o2, o4⟩ := W.W.ex
  obtain ⟨h0, h1, h2⟩ := num_of hk hn
  have hm : Means S 0 n k := by
    have := F.mn n h0 h1
    rw [h2] at this
    exact this
  have N := F.notify hk (v := (u1 k).1 + 1) (b := false) (by have := F.upos k hk; omega)
  refine ⟨0, n, k, 1, S, ad, dx, by rw [hb], A0, hm, F.inK hk, by rw [F.unit k hk]; exact hf, by decide, by decide, F.small, fun H3 ad3 A3 st3 => q _ (W.of (W.W.call (ad := ad) hb o1 o2 o4 A3 st3 ?_))⟩
  unfold arrived
  rw [F.unit k hk]
  exact N
theorem WL.finish {n : Int} (W : WL C Hb H p box A rg rw u fun S => Pic S rg1 rw1 u1) (hk : tk k) (hn : n = 2 * k ∨ n = 2 * k + 1) (hf : (u1 k).2 = false)
    (q : ∀ H1, WL C Hb H1 p box A rg rw u (fun S => Pic S rg1 (fun s => pendR k true (rg1 s) (rw1 s)) (upF u1 k ((u1 k).1, true))) → Q .non H1) : spFinish C [.ref box, .int 0, .int n] H Q E := by
  obtain ⟨S, ad, dx, hb, A0, F, o1, o2, o4⟩ := W.W.ex
  obtain ⟨h0, h1, h2⟩ := num_of hk hn
  have hm : Means S 0 n k := by
    have := F.mn n h0 h1
    rw [h2] at this
    exact this
  have N := F.notify hk (v := (u1 k).1) (b := true) (F.upos k hk)
  refine ⟨0, n, k, S, ad, dx, by rw [hb], A0, hm, F.inK hk, by rw [F.unit k hk]; exact hf, F.small, fun H3 ad3 A3 st3 => q _ (W.of (W.W.call (ad := ad) hb o1 o2 o4 A3 st3 ?_))⟩
  unfold finished
  rw [F.unit k hk]
  exact N
theorem WL.read {n : Int} (W : WL C Hb H p box A rg rw u fun S => Pic S rg1 rw1 u1) (hk : tk k) (hn : n = 2 * k ∨ n = 2 * k + 1)
    (q : ∀ v H1, WL C Hb H1 p box A rg rw u (fun S => Pic S rg1 rw1 (upF u1 k (0, (u1 k).2))) → Q (.int v) H1) : spRead C [.ref box, .int 0, .int n, .non] H Q E := by
  obtain ⟨S, ad, dx, hb, A0, F, o1, o2, o4⟩ := W.W.ex
  obtain ⟨h0, h1, h2⟩ := num_of hk hn
  have hm : Means S 0 n k := by
    have := F.mn n h0 h1
    rw [h2] at this
    exact this
  exact ⟨0, n, k, none, S, ad, dx, by rw [hb]; rfl, A0, hm, F.inK hk, (fun m z => by cases z), F.small, fun H3 ad3 A3 st3 => q _ _ (W.of (W.W.call (ad := ad) hb o1 o2 o4 A3 st3 (F.read hk)))⟩
theorem WL.change (W : WL C Hb H p box A rg rw u fun S => Pic S rg1 rw1 u1) (hs : sd s) (hi : (rg1 s)[i]? = some r) (hw : wd ∈ wordsL)
    (q : ∀ H1, WL C Hb H1 p box A rg rw u (fun S => Pic S (upF rg1 s ((rg1 s).set i ⟨r.lab, r.kind, wd, true⟩)) (upF rw1 s (pendR (r.kind / 2) (rdyU (u1 (r.kind / 2))) [⟨r.lab, r.kind, wd, true⟩] (rw1 s))) u1) → Q .non H1) : spChange C [.ref box, .int 0, .int (6 + s), .int r.kind, .str wd] H Q E := by
  obtain ⟨S, ad, dx, hb, A0, F, o1, o2, o4⟩ := W.W.ex
  have hr := List.mem_of_getElem? hi
  exact ⟨0, 6 + s, r.kind, r.lab, 3 + s, r.kind / 2, wd, S, ad, dx, by rw [hb], A0, F.ms s hs, F.inS hs, F.means hs hr, F.inK ((F.good s hs).kd hr), hw, F.find hs hr, F.small, fun H3 ad3 dx3 A3 st3 => q _ (W.of (W.W.call (ad := ad) hb o1 o2 o4 A3 st3 (F.change hs hi hw)))⟩
theorem WL.remove (W : WL C Hb H p box A rg rw u fun S => Pic S rg1 rw1 u1) (hs : sd s) (hi : (rg1 s)[i]? = some r)
    (q : ∀ H1, WL C Hb H1 p box A rg rw u (fun S => Pic S (upF rg1 s ((rg1 s).eraseIdx i)) (upF rw1 s (without r.lab (rw1 s))) u1) → Q .non H1) : spRemove C [.ref box, .int 0, .int (6 + s), .int r.kind] H Q E := by
  obtain ⟨S, ad, dx, hb, A0, F, o1, o2, o4⟩ := W.W.ex
  have hr := List.mem_of_getElem? hi
  exact ⟨0, 6 + s, r.kind, r.lab, 3 + s, r.kind / 2, S, ad, dx, by rw [hb], A0, F.ms s hs, F.inS hs, F.means hs hr, F.inK ((F.good s hs).kd hr), F.find hs hr, F.small, fun H3 ad3 dx3 A3 st3 => q _ (W.of (W.W.call (ad := ad) hb o1 o2 o4 A3 st3 (F.remove hs hi)))⟩
theorem WL.add (W : WL C Hb H p box A rg rw u fun S => Pic S rg1 rw1 u1) (hs : sd s) (ha : r.armed = true) (h : okR r) (n : r.lab ∉ labs (rg1 s)) (m : r.kind ∉ kinds (rg1 s))
    (q : ∀ H1, WL C Hb H1 p box A rg rw u (fun S => Pic S (upF rg1 s (rg1 s ++ [r])) (upF rw1 s (pendR (r.kind / 2) (rdyU (u1 (r.kind / 2))) [r] (rw1 s))) u1) → Q .non H1) : spAdd C [.ref box, .int 0, .int (6 + s), .int r.kind, .int r.lab, .str r.term] H Q E := by
  obtain ⟨S, ad, dx, hb, A0, F, o1, o2, o4⟩ := W.W.ex
  have hk := tk_of h.2.2.1 h.2.2.2.1
  obtain ⟨a1, a2, a3, a4, a5⟩ := h
  exact ⟨0, 6 + s, r.kind, r.lab, 3 + s, r.kind / 2, r.term, S, ad, dx, by rw [hb], A0, F.ms s hs, F.inS hs, F.mn _ a3 a4, F.inK hk, a1, by omega, a5, F.nofind hs m, by rw [F.ents s hs]; exact n, F.small, fun H3 ad3 dx3 A3 st3 => q _ (W.of (W.W.call (ad := ad) hb o1 o2 o4 A3 st3 (F.add hs ha ⟨a1, a2, a3, a4, a5⟩ n m)))⟩
theorem WL.rowOf (W : WL C Hb H p box A rg rw u fun S => Pic S rg1 rw1 u1) (hs : sd s) {n : Int} (hn : n = 6 + s) (q : ∀ a, H a = none → Q (.ref a) (upd H a (.lst ((rw1 s).map V.int)))) : spRowOf C [.ref box, .int 0, .int n] H Q E := by
  obtain ⟨S, ad, dx, hb, A0, F, o1, o2, o4⟩ := W.W.ex
  refine ⟨0, n, 3 + s, S, ad, dx, by rw [hb], A0, by rw [hn]; exact F.ms s hs, F.inS hs, ?_⟩
  rw [F.que s hs]
  exact q
theorem WL.wait {most : Int} (W : WL C Hb H p box A rg rw u fun S => Pic S rg1 rw1 u1) (nWR : C.W ≠ C.R) (hs : sd s) (h1 : 1 ≤ most) (h2 : most ≤ 1000000)
    (q : ∀ H1 a, WL C Hb H1 p box A rg rw u (fun S => Pic S (upF rg1 s (tkAll u1 most (rw1 s) (rg1 s)).rs) (upF rw1 s (tkAll u1 most (rw1 s) (rg1 s)).row) u1) → Q (.ref a) H1) : spWait C [.ref box, .int 0, .int (6 + s), .int most] H Q E := by
  obtain ⟨S, ad, dx, hb, A0, F, o1, o2, o4⟩ := W.W.ex
  refine ⟨0, 6 + s, 3 + s, most, S, ad, dx, by rw [hb], A0, F.ms s hs, F.inS hs, h1, h2, fun l hl => ?_, fun l hl => ?_, nWR, F.small, fun H3 ad3 dx3 a vs h1 h2 h3 h4 A3 st3 => ?_⟩
  · rw [F.que s hs] at hl
    rw [F.ents s hs]
    exact (F.good s hs).ri l hl
  · rw [F.ents s hs] at hl
    obtain ⟨r, hr, rfl⟩ := List.mem_map.mp hl
    rw [F.reg s hs r hr]
    exact F.inK ((F.good s hs).kd hr)
  · exact q _ a (W.of (W.W.call (ad := ad) hb o1 o2 o4 A3 st3 (F.wait hs (by omega))))
end

theorem q_half {H : Hp} {Q : VK} {n : Int} (h0 : 0 ≤ n) (h1 : n < 6) (q : Q (.int (n / 2)) H) : rI CDiv (fun i j => V.int (i / j)) (.int n) (.int 2) H Q := by
  refine ⟨n, 2, rfl, rfl, ?_, q⟩
  unfold CDiv
  omega
section
variable {P : Program} {w : World} {K : PySem.W.Frag} {mg : Str → Option Value} {base : Heap} {C : Cs}
inductive PspPend  (vs : List V) (H : Hp) (Q : VK) : Prop
  | mk (a b c : Addr) (k : Int) (ts : List Addr) (rs : List LR) (row : List Int) (us : Int → Addr) (u : Int → Int × Bool) (h_0 : vs = [.ref a, .ref b, .int k, .ref c]) (h_1 : tk k) (h_2 : H a = some (.lst (ts.map V.ref))) (h_3 : Paired (fun t r => H t = some (tup4 r)) ts rs) (h_4 : H b = some (.lst (row.map V.int))) (h_5 : UH H c us u) (h_6 : a ≠ b) (h_7 : c ≠ b) (h_8 : row.length ≤ 8) (h_9 : rs.length ≤ 8) (h_10 : (∀ r ∈ rs, 0 ≤ r.kind ∧ r.kind < 6)) (h_11 : ∀ H', H' b = some (.lst ((pendR k (rdyU (u k)) rs row).map V.int)) → (∀ x o, x ≠ b → H x = some o → H' x = some o) → Q .non H') : PspPend  vs H Q
noncomputable def spPend  : Sp := fun vs H Q _ => PspPend  vs H Q
theorem scPend : FnScope ["_law_regs", "_law_row", "_law_source", "_law_units", "_law_label", "_law_digit", "_law_term", "_law_armed"] ["_law_regs", "_law_row", "_law_source", "_law_units"] (defScope sPend) := ⟨rfl, rfl, rfl, by decide +kernel, rfl, by decide +kernel, by decide +kernel⟩
theorem pend_take {k : Int} {b : Bool} {rs : List LR} {row : List Int} {i : Nat} {r : LR} (h : rs[i]? = some r) : pendR k b (rs.take (i + 1)) row = (if r.kind / 2 = k ∧ r.armed = true ∧ b = true then qAdd r.lab (pendR k b (rs.take i) row) else pendR k b (rs.take i) row) := by
  unfold pendR
  rw [List.take_add_one, h, List.foldl_append]
  rfl
theorem okPend {f : Addr} {fd : FuncData} (F : Fun K "_law_pend" "_law_pend" sPend f fd) : FnOk P w K mg base CX0 1 f fd ["_law_regs", "_law_row", "_law_source", "_law_units"] spPend := by
  refine F.ok scPend (fun vs H Q E h => ?_) (fun cdv A outer s H vs Q E hr h => ?_)
  · obtain ⟨_, _, _, _, _, _, _, _, _, rfl, _⟩ := h
    rfl
  · obtain ⟨a, b, c, k, ts, rs, row, us, u, rfl, hk, ha, hp, hb, hU, nab, ncb, hz1, hz2, hok, q⟩ := h
    refine ⟨_, pss_one (ps_for PassesOwn.never rfl (pi_list (pv 0)) (pg_tup rfl (pgs_cons (pg_name (i := 4) scPend.nd rfl (Or.inl rfl)) (pgs_cons (pg_name (i := 5) scPend.nd rfl (Or.inl rfl)) (pgs_cons (pg_name (i := 6) scPend.nd rfl (Or.inl rfl)) (pgs_cons (pg_name (i := 7) scPend.nd rfl (Or.inl rfl)) pgs_nil)))))
        (pss_one (ps_if (PW.pt (pw_and (pt_cmpR op_eq (pe_op op_fdiv (pv 5) pe_int) (pv 2) (nomark _)) (pw_and (pt_val (pv 7)) (pw_and (pt_cmpR op_notIn_seq (pv 4) (pv 1) (by rfl))
            (pw_and1 (PW.pt (pw_or (pt_cmpR op_gt (pe_ix ix_tup (pe_ix ix_list (pv 3) (pv 2) (fun _ _ => rfl)) pe_int (fun _ _ => rfl)) pe_int (nomark _)) (pw_or1 (pt_val (pe_ix ix_tup (pe_ix ix_list (pv 3) (pv 2) (fun _ _ => rfl)) pe_int (fun _ _ => rfl)))))))))))
          (pss_one (ps_expr (pe_bm PySem.F.plainAttrs_list PySem.F.slot_list_append PySem.F.type_list_append mt_append (pv 1) (pa_cons (pv 4) pa_nil)))) pss_nil))), ?_⟩
    have lz : ts.length = rs.length := hp.length
    show iList _ _ _ _ _
    refine ⟨_, rfl, a, rfl, ⟨_, SqL.of ha⟩, for_list (K := K) (a := a) (xs := ts.map V.ref) (fun j σ' H' => ∃ v4 v5 v6 v7 : Option V, σ' = [some (.ref a), some (.ref b), some (.int k), some (.ref c), v4, v5, v6, v7] ∧ H' b = some (.lst ((pendR k (rdyU (u k)) (rs.take j) row).map V.int)) ∧ (∀ x o, x ≠ b → H x = some o → H' x = some o)) ⟨_, _, _, _, rfl, hb, fun x o _ e => e⟩ (fun j σ' H' _ ⟨_, _, _, _, _, _, kp⟩ => SqL.of (kp _ _ nab ha)) ?_ ?_⟩
    · rintro j v σ' H2 hv ⟨v4, v5, v6, v7, rfl, hb2, kp⟩
      rw [List.getElem?_map] at hv
      cases el : ts[j]? with
      | none => rw [el] at hv; cases hv
      | some t =>
      rw [el] at hv
      cases hv
      obtain ⟨r, er, ht⟩ := pair_get hp el
      have ht := kp _ _ (ne_of ht hb (by intro z; cases z)) ht
      have hul := kp _ _ ncb hU.hul
      have hut := kp _ _ (ne_of (hU.hu k hk) hb (by intro z; cases z)) (hU.hu k hk)
      have lr : (pendR k (rdyU (u k)) (rs.take j) row).length ≤ 16 := by
        refine Nat.le_trans (pend_len k _ _ _) ?_
        rw [List.length_take]
        omega
      refine ⟨t, _, rfl, SqT.of ht, rfl, _, _, rfl, ?_⟩
      walk_at "wn"
      refine ⟨_, _, rfl, ?_⟩
      walk_at "wn"
      refine ⟨_, _, rfl, ?_⟩
      walk_at "wn"
      refine ⟨_, _, rfl, ?_⟩
      walk_at "wn"
      refine ⟨rfl, ?_⟩
      rw [pend_take er]
      obtain ⟨kd0, kd1⟩ := hok r (List.mem_of_getElem? er)
      walk_at "wn"
      refine q_half kd0 kd1 ?_
      walk_at "wn"
      by_cases hkk : r.kind / 2 = k
      · rw [show decide (V.int (r.kind / 2) = V.int k) = true from decide_eq_true (by rw [hkk])]
        walk_at "wn"
        by_cases hA : r.armed = true
        · rw [hA]
          walk_at "wn"
          refine ⟨b, _, rfl, .inl (SqL.of hb2), rfl, flat_ints _, ?_⟩
          refine ⟨_, rfl, ?_⟩
          show if (!inV (.int r.lab) _) = true then _ else _
          rw [inV_int]
          by_cases hin : r.lab ∈ pendR k (rdyU (u k)) (rs.take j) row
          · rw [decide_eq_true hin]
            walk_at "wn"
            have e : (if r.kind / 2 = k ∧ true = true ∧ rdyU (u k) = true then qAdd r.lab (pendR k (rdyU (u k)) (rs.take j) row) else pendR k (rdyU (u k)) (rs.take j) row) = pendR k (rdyU (u k)) (rs.take j) row := by
              split
              · exact if_pos hin
              · rfl
            rw [e]
            exact ⟨_, _, _, _, rfl, hb2, kp⟩
          · rw [decide_eq_false hin]
            walk_at "wn"
            refine ⟨c, _, k, _, rfl, rfl, SqL.of hul, at3 (f := V.ref) hk, ?_⟩
            walk_at "wn"
            refine ⟨us k, _, 0, _, rfl, rfl, SqT.of hut, rfl, ?_⟩
            walk_at "wn"
            by_cases h1 : 0 < (u k).1
            · have hrd : rdyU (u k) = true := by unfold rdyU; rw [decide_eq_true h1]; rfl
              rw [decide_eq_true h1]
              walk_at "wn"
              refine ⟨b, _, _, rfl, rfl, hb2, by rw [List.length_map, sizeLine_eq]; omega, ?_⟩
              rw [if_pos (show r.kind / 2 = k ∧ true = true ∧ rdyU (u k) = true from ⟨hkk, rfl, hrd⟩)]
              have e : qAdd r.lab (pendR k (rdyU (u k)) (rs.take j) row) = pendR k (rdyU (u k)) (rs.take j) row ++ [r.lab] := if_neg hin
              rw [e]
              refine ⟨_, _, _, _, rfl, ?_, fun x o n z => ?_⟩
              · rw [upd_same, List.map_append]
                rfl
              · rw [upd_ne n]
                exact kp x o n z
            · rw [decide_eq_false h1]
              walk_at "wn"
              refine ⟨c, _, k, _, rfl, rfl, SqL.of hul, at3 (f := V.ref) hk, ?_⟩
              walk_at "wn"
              refine ⟨us k, _, 1, _, rfl, rfl, SqT.of hut, rfl, ?_⟩
              cases h2 : (u k).2 with
              | true =>
                have hrd : rdyU (u k) = true := by unfold rdyU; rw [h2, Bool.or_true]
                walk_at "wn"
                refine ⟨b, _, _, rfl, rfl, hb2, by rw [List.length_map, sizeLine_eq]; omega, ?_⟩
                rw [if_pos (show r.kind / 2 = k ∧ true = true ∧ rdyU (u k) = true from ⟨hkk, rfl, hrd⟩)]
                have e : qAdd r.lab (pendR k (rdyU (u k)) (rs.take j) row) = pendR k (rdyU (u k)) (rs.take j) row ++ [r.lab] := if_neg hin
                rw [e]
                refine ⟨_, _, _, _, rfl, ?_, fun x o n z => ?_⟩
                · rw [upd_same, List.map_append]
                  rfl
                · rw [upd_ne n]
                  exact kp x o n z
              | false =>
                have hrd : ¬ rdyU (u k) = true := by unfold rdyU; rw [h2, decide_eq_false h1]; decide
                walk_at "wn"
                rw [if_neg (show ¬ (r.kind / 2 = k ∧ true = true ∧ rdyU (u k) = true) from fun z => hrd z.2.2)]
                exact ⟨_, _, _, _, rfl, hb2, kp⟩
        · rw [if_neg (show ¬ (r.kind / 2 = k ∧ r.armed = true ∧ rdyU (u k) = true) from fun z => hA z.2.1)]
          rw [Bool.eq_false_iff.mpr hA]
          walk_at "wn"
          exact ⟨_, _, _, _, rfl, hb2, kp⟩
      · rw [if_neg (show ¬ (r.kind / 2 = k ∧ r.armed = true ∧ rdyU (u k) = true) from fun z => hkk z.1), show decide (V.int (r.kind / 2) = V.int k) = false from decide_eq_false fun z => hkk (V.int.inj z)]
        walk_at "wn"
        exact ⟨_, _, _, _, rfl, hb2, kp⟩
    · rintro σ' H2 ⟨v4, v5, v6, v7, rfl, hb2, kp⟩
      rw [List.length_map, lz, List.take_length] at hb2
      walk_at "wn"
      exact q _ hb2 kp
end

noncomputable abbrev noW : WX := fun _ _ _ _ => False
theorem takes0 {X : Cx} : Takes X noW := fun u s' ⟨_, _, _, _, _, _, _, _, _, _, _, _, _, _, _, _, w⟩ => w.elim
structure KI (row : List Int) (rs : List LR) (j : Nat) (st : KSt) : Prop where
  key : key3 st.rs = key3 rs
  sub : ∀ x ∈ st.row, x ∈ labs rs
  nd : st.row.Nodup
  rest : ∀ x ∈ row.drop j, x ∈ st.row
theorem disarm_set {rs : List LR} {i : Nat} {r : LR} (nd : (labs rs).Nodup) (h : rs[i]? = some r) : rs.map (disarm r.lab) = rs.set i ⟨r.lab, r.kind, r.term, false⟩ := by
  refine List.ext_getElem? fun m => ?_
  rw [List.getElem?_map, List.getElem?_set]
  obtain ⟨hi, ei⟩ := List.getElem?_eq_some_iff.mp h
  by_cases e : i = m
  · subst e
    rw [if_pos rfl, if_pos hi, h]
    show some (disarm r.lab r) = _
    unfold disarm
    rw [if_pos rfl]
  · rw [if_neg e]
    cases hm : rs[m]? with
    | none => rfl
    | some x =>
      show some (disarm r.lab x) = some x
      have : x.lab ≠ r.lab := fun z => e (nodup_idx nd (show (labs rs)[i]? = some r.lab by rw [List.getElem?_map, h]; rfl) (show (labs rs)[m]? = some r.lab by rw [List.getElem?_map, hm]; show some x.lab = _; rw [z]))
      unfold disarm
      rw [if_neg this]
theorem ki_step {row : List Int} {rs : List LR} {j : Nat} {st : KSt} {l : Int} {u : Int → Int × Bool} {most : Int} (I : KI row rs j st) (el : row[j]? = some l) (nr : row.Nodup) (nd : (labs rs).Nodup) (sub : ∀ x ∈ row, x ∈ labs rs) :
    ∃ (i : Nat) (r : LR), st.rs[i]? = some r ∧ r.lab = l ∧ l ∈ st.row ∧ (labs st.rs).Nodup ∧ KI row rs (j + 1) (tkS u most st l) ∧
      (st.told < most → rdyU (u (r.kind / 2)) = true → tkS u most st l = ⟨st.told + 1, if r.term = "level" then st.row.erase l ++ [l] else st.row.erase l, if r.term = "once" then st.rs.set i ⟨r.lab, r.kind, r.term, false⟩ else st.rs⟩) ∧
      (st.told < most → ¬ rdyU (u (r.kind / 2)) = true → tkS u most st l = ⟨st.told, st.row.erase l, st.rs⟩) ∧ (¬ st.told < most → tkS u most st l = st) := by
  obtain ⟨hj, ej⟩ := List.getElem?_eq_some_iff.mp el
  have nd1 : (labs st.rs).Nodup := by
    rw [labs_key I.key]
    exact nd
  have l0 := sub l (List.mem_of_getElem? el)
  have hl : l ∈ labs st.rs := by
    rw [labs_key I.key]
    exact l0
  obtain ⟨r, hr, rfl⟩ := List.mem_map.mp hl
  obtain ⟨i, hi, ei⟩ := List.getElem_of_mem hr
  have er : st.rs[i]? = some r := by rw [List.getElem?_eq_getElem hi, ei]
  have hd : row.drop j = r.lab :: row.drop (j + 1) := by rw [List.drop_eq_getElem_cons hj, ej]
  have hin : r.lab ∈ st.row := I.rest _ (by rw [hd]; exact List.mem_cons_self)
  have ndd : (r.lab :: row.drop (j + 1)).Nodup := by
    rw [← hd]
    exact (List.drop_sublist j row).nodup nr
  have nin : r.lab ∉ row.drop (j + 1) := (List.nodup_cons.mp ndd).1
  have e1 : st.told < most → rdyU (u (r.kind / 2)) = true → tkS u most st r.lab = ⟨st.told + 1, if r.term = "level" then st.row.erase r.lab ++ [r.lab] else st.row.erase r.lab, if r.term = "once" then st.rs.set i ⟨r.lab, r.kind, r.term, false⟩ else st.rs⟩ := fun h1 h2 => by
    unfold tkS
    rw [if_pos h1, find_lab nd1 hr]
    dsimp only
    rw [if_pos h2, disarm_set nd1 er]
  have e2 : st.told < most → ¬ rdyU (u (r.kind / 2)) = true → tkS u most st r.lab = ⟨st.told, st.row.erase r.lab, st.rs⟩ := fun h1 h2 => by
    unfold tkS
    rw [if_pos h1, find_lab nd1 hr]
    dsimp only
    rw [if_neg h2]
  have e3 : ¬ st.told < most → tkS u most st r.lab = st := fun h1 => if_neg h1
  have nde : (st.row.erase r.lab).Nodup := I.nd.erase _
  have sube : ∀ x ∈ st.row.erase r.lab, x ∈ labs rs := fun x hx => I.sub x (List.mem_of_mem_erase hx)
  have reste : ∀ x ∈ row.drop (j + 1), x ∈ st.row.erase r.lab := fun x hx => (List.mem_erase_of_ne fun z : x = r.lab => nin (by rw [← z]; exact hx)).mpr (I.rest x (by rw [hd]; exact List.mem_cons_of_mem _ hx))
  refine ⟨i, r, er, rfl, hin, nd1, ?_, e1, e2, e3⟩
  by_cases h1 : st.told < most
  · by_cases h2 : rdyU (u (r.kind / 2)) = true
    · rw [e1 h1 h2]
      refine ⟨?_, ?_, ?_, ?_⟩
      · dsimp only
        split
        · rw [← disarm_set nd1 er, key_disarm]
          exact I.key
        · exact I.key
      · dsimp only
        split
        · intro x hx
          rcases mem_add.mp hx with y | y
          · exact sube x y
          · rw [y]
            exact l0
        · exact sube
      · dsimp only
        split
        · exact nodup_add nde fun z => ((List.Nodup.mem_erase_iff I.nd).mp z).1 rfl
        · exact nde
      · dsimp only
        split
        · exact fun x hx => mem_add.mpr (.inl (reste x hx))
        · exact reste
    · rw [e2 h1 h2]
      exact ⟨I.key, sube, nde, reste⟩
  · rw [e3 h1]
    exact ⟨I.key, I.sub, I.nd, fun x hx => I.rest x (by rw [hd]; exact List.mem_cons_of_mem _ hx)⟩
theorem take_fold {α : Type} {f : α → Int → α} {a : α} {row : List Int} {j : Nat} {l : Int} (el : row[j]? = some l) : (row.take (j + 1)).foldl f a = f ((row.take j).foldl f a) l := by
  rw [List.take_add_one, el, List.foldl_append]
  rfl
section
variable {P : Program} {w : World} {K : PySem.W.Frag} {mg : Str → Option Value} {base : Heap} {C : Cs}
inductive PspTaken  (vs : List V) (H : Hp) (Q : VK) : Prop
  | mk (a b c : Addr) (most : Int) (ts : List Addr) (rs : List LR) (row : List Int) (us : Int → Addr) (u : Int → Int × Bool) (h_0 : vs = [.ref a, .ref b, .ref c, .int most]) (h_1 : H a = some (.lst (ts.map V.ref))) (h_2 : Paired (fun t r => H t = some (tup4 r)) ts rs) (h_3 : H b = some (.lst (row.map V.int))) (h_4 : UH H c us u) (h_5 : a ≠ b) (h_6 : c ≠ b) (h_7 : c ≠ a) (h_8 : Good rs row) (h_9 : ∀ H' ts', H' a = some (.lst (ts'.map V.ref)) → Paired (fun t r => H' t = some (tup4 r)) ts' (tkAll u most row rs).rs → H' b = some (.lst ((tkAll u most row rs).row.map V.int)) → (∀ x o, x ≠ a → x ≠ b → H x = some o → H' x = some o) → (∀ t ∈ ts', t ∈ ts ∨ H t = none) → Q .non H') : PspTaken  vs H Q
noncomputable def spTaken  : Sp := fun vs H Q _ => PspTaken  vs H Q
noncomputable abbrev nTaken : List Str := ["_law_regs", "_law_row", "_law_units", "_law_most", "_law_told", "_law_label", "_law_at", "_law_reg", "_law_k"]
theorem scTaken : FnScope nTaken ["_law_regs", "_law_row", "_law_units", "_law_most"] (defScope sTaken) := ⟨rfl, rfl, rfl, by decide +kernel, rfl, by decide +kernel, by decide +kernel⟩
theorem okTaken {f : Addr} {fd : FuncData} (F : Fun K "_law_taken" "_law_taken" sTaken f fd) (X : LawTx mg) : FnOk P w K mg base CX0 1 f fd ["_law_regs", "_law_row", "_law_units", "_law_most"] spTaken := by
  refine F.ok scTaken (fun vs H Q E h => ?_) (fun cdv A outer s H vs Q E hr h => ?_)
  · obtain ⟨_, _, _, _, _, _, _, _, _, rfl, _⟩ := h
    rfl
  · obtain ⟨a, b, c, most, ts, rs, row, us, u, rfl, ha, hp, hb, hU, nab, ncb, nca, G, q⟩ := h
    refine ⟨_, pss_cons (ps_set (i := 4) scTaken.nd rfl (Or.inl rfl) pe_int)
      (pss_one (ps_for PassesOwn.never rfl (pi_list (pe_callTy call_list_of (by rfl) X.list PyProof.Rows.boot_list (pa_cons (pv 1) pa_nil))) (pg_name (i := 5) scTaken.nd rfl (Or.inr rfl))
        (pss_cut (ps_set (i := 6) scTaken.nd rfl (Or.inl rfl) (pe_ix ix_list (pe_lc (own := [("_law_k", 8)]) (g := gName 8) (tt := tTest (tOp rEq (tOp (rIxT K) (tOp (rIxL K) (tVar 0) (tVar 8)) (tC (.int 0))) (tVar 5))) (te := tVar 8) rfl scTaken.nd (pi_range1 (by rfl) X.range (pa_cons (pe_callB cLenQ (by rfl) X.len PySem.boot_len (pa_cons (pv 0) pa_nil)) pa_nil)) (blkOk_by (N := nTaken) (sc := defScope sTaken) (by decide +kernel)) (fun _ _ _ _ _ => pg_name (i := 8) scTaken.nd rfl (Or.inl rfl)) (fun _ _ _ _ _ => pts_one (pt_cmpR op_eq (pe_ix ix_tup (pe_ix ix_list (pv 0) (pv 8) (fun _ _ => rfl)) pe_int (fun _ _ => rfl)) (pv 5) (nomark _))) (fun _ _ _ _ _ => pv 8)) pe_int (fun _ _ => rfl)))
        (pss_cut (ps_set (i := 7) scTaken.nd rfl (Or.inl rfl) (pe_ix ix_list (pv 0) (pv 6) (fun _ _ => rfl)))
        (pss_one (ps_if (pt_cmpR op_lt (pv 4) (pv 3) (nomark _))
          (pss_cons (ps_expr (pe_remX rfl takes0 (pv 1) (pv 5)))
          (pss_one (ps_if (PW.pt (pw_or (pt_cmpR op_gt (pe_ix ix_tup (pe_ix ix_list (pv 2) (pe_op op_fdiv (pe_ix ix_tup (pv 7) pe_int (fun _ _ => rfl)) pe_int) (fun _ _ => rfl)) pe_int (fun _ _ => rfl)) pe_int (nomark _)) (pw_or1 (pt_val (pe_ix ix_tup (pe_ix ix_list (pv 2) (pe_op op_fdiv (pe_ix ix_tup (pv 7) pe_int (fun _ _ => rfl)) pe_int) (fun _ _ => rfl)) pe_int (fun _ _ => rfl))))))
            (pss_cons (ps_set (i := 4) scTaken.nd rfl (Or.inl rfl) (pe_op op_add (pv 4) pe_int))
            (pss_cut (ps_if (pt_cmpR op_eq (pe_ix ix_tup (pv 7) pe_int (fun _ _ => rfl)) pe_str (nomark _)) (pss_one (ps_expr (pe_bm PySem.F.plainAttrs_list PySem.F.slot_list_append PySem.F.type_list_append mt_append (pv 1) (pa_cons (pv 5) pa_nil)))) pss_nil)
            (pss_one (ps_if (pt_cmpR op_eq (pe_ix ix_tup (pv 7) pe_int (fun _ _ => rfl)) pe_str (nomark _)) (pss_one (ps_asg (pe_op op_catT (pe_slice sl_tup (pv 7) po_none (po_some pe_int)) (pe_tup (pa_cons pe_bl pa_nil))) (pg_sub (pv 0) (pv 6) set_list))) pss_nil)))) pss_nil))) pss_nil)))))), ?_⟩
    walk_at "wn"
    refine ⟨_, rfl, b, row.map V.int, rfl, .inl (SqL.of hb), fun p hp0 => ?_⟩
    have s1 := Same.new' (o := .lst (row.map V.int)) hp0
    have ha1 := s1 _ _ ha
    have hb1 := s1 _ _ hb
    have hU1 : UH (upd H p (.lst (row.map V.int))) c us u := ⟨s1 _ _ hU.hul, fun j hj => s1 _ _ (hU.hu j hj)⟩
    have hpp : upd H p (.lst (row.map V.int)) p = some (.lst (row.map V.int)) := upd_same
    have npa : p ≠ a := fun z => by rw [z, ha] at hp0; cases hp0
    have npb : p ≠ b := fun z => by rw [z, hb] at hp0; cases hp0
    have hp1 := pair_keep hp fun x xs e => s1 x _ e
    generalize upd H p (.lst (row.map V.int)) = H0 at s1 ha1 hb1 hU1 hpp hp1
    have rl := G.rlen
    have zl := G.len
    refine ⟨p, rfl, ⟨_, SqL.of hpp⟩, for_list (K := K) (a := p) (xs := row.map V.int) (fun j σ' H' => ∃ (v5 v6 v7 : Option V) (ts' : List Addr), σ' = [some (.ref a), some (.ref b), some (.ref c), some (.int most), some (.int ((row.take j).foldl (tkS u most) ⟨0, row, rs⟩).told), v5, v6, v7, none] ∧ KI row rs j ((row.take j).foldl (tkS u most) ⟨0, row, rs⟩) ∧
      H' a = some (.lst (ts'.map V.ref)) ∧ Paired (fun t r => H' t = some (tup4 r)) ts' ((row.take j).foldl (tkS u most) ⟨0, row, rs⟩).rs ∧ H' b = some (.lst (((row.take j).foldl (tkS u most) ⟨0, row, rs⟩).row.map V.int)) ∧ (∀ x o, x ≠ a → x ≠ b → H0 x = some o → H' x = some o) ∧ (∀ t ∈ ts', t ∈ ts ∨ H t = none))
      ⟨_, _, _, ts, rfl, ⟨rfl, G.ri, G.rn, fun x hx => hx⟩, ha1, hp1, hb1, fun x o _ _ e => e, fun t ht => .inl ht⟩ (fun j σ' H' _ ⟨_, _, _, _, _, _, _, _, _, kp, _⟩ => SqL.of (kp _ _ npa npb hpp)) ?_ ?_⟩
    · rintro j v σ' H2 hv ⟨v5, v6, v7, ts', rfl, I, ha2, hp2, hb2, kp, fr⟩
      rw [List.getElem?_map] at hv
      cases el : row[j]? with
      | none => rw [el] at hv; cases hv
      | some l =>
      rw [el] at hv
      cases hv
      obtain ⟨i, r, er, rfl, hin, nd1, I', E1, E2, E3⟩ := ki_step (u := u) (most := most) I el G.rn G.nd G.ri
      rw [take_fold el]
      generalize (row.take j).foldl (tkS u most) ⟨0, row, rs⟩ = st at I hp2 hb2 er hin nd1 I' E1 E2 E3 ⊢
      have lz : ts'.length = st.rs.length := hp2.length
      have lk : st.rs.length = rs.length := by
        have := congrArg List.length I.key
        rw [List.length_map, List.length_map] at this
        exact this
      have hi := (List.getElem?_eq_some_iff.mp er).1
      obtain ⟨t, et⟩ : ∃ t, ts'[i]? = some t := ⟨ts'[i]'(by omega), List.getElem?_eq_getElem (by omega)⟩
      obtain ⟨r', er', ht⟩ := pair_get hp2 et
      rw [er] at er'
      cases er'
      have okr : okR r := by
        have : (r.lab, r.kind, r.term) ∈ key3 st.rs := List.mem_map.mpr ⟨r, List.mem_of_getElem? er, rfl⟩
        rw [show key3 st.rs = key3 rs from I.key] at this
        obtain ⟨y, hy, e⟩ := List.mem_map.mp this
        have e1 : y.lab = r.lab := congrArg (fun x : Int × Int × Str => x.1) e
        have e2 : y.kind = r.kind := congrArg (fun x : Int × Int × Str => x.2.1) e
        have e3 : y.term = r.term := congrArg (fun x : Int × Int × Str => x.2.2) e
        have := G.ok y hy
        unfold okR at this ⊢
        rw [← e1, ← e2, ← e3]
        exact this
      have hk := tk_of okr.2.2.1 okr.2.2.2.1
      walk_at "wn"
      refine ⟨fun σ' H3 => σ' = [some (.ref a), some (.ref b), some (.ref c), some (.int most), some (.int st.told), some (.int r.lab), some (.int (i : Int)), v7, none] ∧ Same H2 H3, ?_, ?_⟩
      · walk_at "wn"
        show tLc _ _ _ _ _ _ _ _
        refine ⟨_, rfl, a, _, rfl, .inl (SqL.of ha2), _, rfl, by rw [List.length_map]; omega, by rw [List.length_map]; omega, fun D hD => lc_range (lo := 0) (fun m H' => Same H2 H' ∧ H' D = some (.lst (if i < m then [V.int (i : Int)] else []))) ⟨Same.new' hD, by rw [upd_same, if_neg (Nat.not_lt_zero _)]⟩ ?_ ?_⟩
        · rintro m H' hm ⟨sm, hD'⟩
          rw [Int.zero_add]
          have hm : m < ts'.length := by
            have := hm
            rw [List.length_map] at this
            exact this
          obtain ⟨tm, etm⟩ : ∃ t, ts'[m]? = some t := ⟨ts'[m], List.getElem?_eq_getElem hm⟩
          obtain ⟨rm, erm, htm⟩ := pair_get hp2 etm
          refine ⟨rfl, ?_⟩
          show tTest _ _ _ _
          walk_at "wn"
          refine ⟨a, _, (m : Int), _, rfl, rfl, SqL.of (sm _ _ ha2), atI_nat (j := m) (by rw [List.getElem?_map, etm]; rfl), ?_⟩
          walk_at "wn"
          refine ⟨tm, _, 0, _, rfl, rfl, SqT.of (sm _ _ htm), atI_nat (j := 0) rfl, ?_⟩
          walk_at "wn"
          by_cases e : m = i
          · subst e
            rw [er] at erm
            cases erm
            rw [show decide (V.int r.lab = V.int r.lab) = true from decide_eq_true rfl]
            rw [if_neg (Nat.lt_irrefl _)] at hD'
            walk_at "wn"
            refine ⟨_, hD', by show 0 < sizeLine; decide, fun x o z => ?_, ?_⟩
            · rw [upd_ne (ne_of_none z hD)]
              exact sm _ _ z
            · rw [upd_same, if_pos (Nat.lt_succ_self _)]
              rfl
          · have ne : rm.lab ≠ r.lab := fun z => e (nodup_idx nd1 (show (labs st.rs)[m]? = some r.lab by rw [List.getElem?_map, erm]; show some rm.lab = _; rw [z]) (show (labs st.rs)[i]? = some r.lab by rw [List.getElem?_map, er]; rfl))
            rw [show decide (V.int rm.lab = V.int r.lab) = false from decide_eq_false fun z => ne (V.int.inj z)]
            walk_at "wn"
            refine ⟨sm, ?_⟩
            rw [hD']
            by_cases z : i < m
            · rw [if_pos z, if_pos (by omega)]
            · rw [if_neg z, if_neg (by omega)]
        · rintro H' ⟨sm, hD'⟩
          rw [if_pos (show i < (((ts'.map V.ref).length : Nat) : Int).toNat by rw [List.length_map, Int.toNat_natCast]; omega)] at hD'
          walk_at "wn"
          exact ⟨rfl, sm⟩
      rintro σ' H3 ⟨rfl, sm3⟩
      have ha3 := sm3 _ _ ha2
      have hb3 := sm3 _ _ hb2
      have ht3 := sm3 _ _ ht
      have hp3 := pair_keep hp2 fun x xs e => sm3 x _ e
      have kp3 : ∀ x o, x ≠ a → x ≠ b → H0 x = some o → H3 x = some o := fun x o n1 n2 e => sm3 _ _ (kp x o n1 n2 e)
      refine ⟨fun σ' H4 => σ' = [some (.ref a), some (.ref b), some (.ref c), some (.int most), some (.int st.told), some (.int r.lab), some (.int (i : Int)), some (.ref t), none] ∧ H4 = H3, ?_, ?_⟩
      · walk_at "wn"
        refine ⟨a, _, (i : Int), _, rfl, rfl, SqL.of ha3, atI_nat (j := i) (by rw [List.getElem?_map, et]; rfl), ?_⟩
        exact ⟨rfl, rfl⟩
      rintro σ' H4 ⟨rfl, rfl⟩
      walk_at "wn"
      by_cases h1 : st.told < most
      · rw [decide_eq_true h1]
        walk_at "wn"
        refine ⟨_, rfl, .inl ⟨rfl, _, SqL.of hb3⟩, _, rfl, b, st.row, r.lab, rfl, rfl, hb3, fun _ => ?_, fun z => absurd hin z⟩
        have k5 : ∀ x o, x ≠ b → H4 x = some o → upd H4 b (.lst ((st.row.erase r.lab).map V.int)) x = some o := fun x o n e => by rw [upd_ne n]; exact e
        have hb5 : upd H4 b (.lst ((st.row.erase r.lab).map V.int)) b = some (.lst ((st.row.erase r.lab).map V.int)) := upd_same
        have ln : (st.row.erase r.lab).length ≤ 6 := by
          have e1 : (st.row.erase r.lab).length ≤ st.row.length := List.erase_sublist.length_le
          have e2 := nodup_sub I.nd I.sub
          rw [List.length_map] at e2
          omega
        have ht5 := k5 _ _ (ne_of ht3 hb3 (by intro z; cases z)) ht3
        have ha5 := k5 _ _ nab ha3
        have hp5 := pair_keep hp3 fun x xs e => k5 x _ (ne_of e hb3 (by intro z; cases z)) e
        have kp5 : ∀ x o, x ≠ a → x ≠ b → H0 x = some o → upd H4 b (.lst ((st.row.erase r.lab).map V.int)) x = some o := fun x o n1 n2 e => k5 x o n2 (kp3 x o n1 n2 e)
        have hul5 := kp5 _ _ nca ncb hU1.hul
        have hut5 := kp5 _ _ (ne_of (hU1.hu _ hk) ha1 (by intro z; cases z)) (ne_of (hU1.hu _ hk) hb1 (by intro z; cases z)) (hU1.hu _ hk)
        generalize upd H4 b (.lst ((st.row.erase r.lab).map V.int)) = H5 at k5 hb5 ht5 ha5 hp5 kp5 hul5 hut5 ⊢
        walk_at "wn"
        refine ⟨t, _, 1, _, rfl, rfl, SqT.of ht5, atI_nat (j := 1) rfl, ?_⟩
        walk_at "wn"
        refine q_half okr.2.2.1 okr.2.2.2.1 ?_
        refine ⟨c, _, r.kind / 2, _, rfl, rfl, SqL.of hul5, at3 (f := V.ref) hk, ?_⟩
        walk_at "wn"
        refine ⟨us (r.kind / 2), _, 0, _, rfl, rfl, SqT.of hut5, rfl, ?_⟩
        walk_at "wn"
        by_cases h2 : 0 < (u (r.kind / 2)).1
        · have hrd : rdyU (u (r.kind / 2)) = true := by unfold rdyU; rw [decide_eq_true h2]; rfl
          rw [decide_eq_true h2]
          walk_at "wn"
          refine ⟨fun σ' H6 => σ' = [some (.ref a), some (.ref b), some (.ref c), some (.int most), some (.int (st.told + 1)), some (.int r.lab), some (.int (i : Int)), some (.ref t), none] ∧ H6 b = some (.lst ((if r.term = "level" then st.row.erase r.lab ++ [r.lab] else st.row.erase r.lab).map V.int)) ∧ (∀ x o, x ≠ b → H5 x = some o → H6 x = some o), ?_, ?_⟩
          · walk_at "wn"
            refine ⟨t, _, 2, _, rfl, rfl, SqT.of ht5, atI_nat (j := 2) rfl, ?_⟩
            walk_at "wn"
            by_cases hv : r.term = "level"
            · rw [decide_eq_true (by rw [hv])]
              walk_at "wn"
              refine ⟨b, _, _, rfl, rfl, hb5, by rw [List.length_map, sizeLine_eq]; omega, ?_⟩
              refine ⟨rfl, ?_, fun x o n e => by rw [upd_ne n]; exact e⟩
              rw [upd_same, if_pos hv, List.map_append]
              rfl
            · rw [decide_eq_false fun z => hv (V.str.inj z)]
              walk_at "wn"
              exact ⟨rfl, by rw [if_neg hv]; exact hb5, fun x o _ e => e⟩
          rintro σ' H6 ⟨rfl, hb6, k6⟩
          have ht6 := k6 _ _ (ne_of ht5 hb5 (by intro z; cases z)) ht5
          have ha6 := k6 _ _ nab ha5
          have hp6 : Paired (fun t r => H6 t = some (tup4 r)) ts' st.rs := pair_keep hp5 fun x xs e => k6 x _ (ne_of e hb5 (by intro z; cases z)) e
          have kp6 : ∀ x o, x ≠ a → x ≠ b → H0 x = some o → H6 x = some o := fun x o n1 n2 e => k6 x o n2 (kp5 x o n1 n2 e)
          rw [E1 h1 hrd] at I' ⊢
          walk_at "wn"
          refine ⟨t, _, 2, _, rfl, rfl, SqT.of ht6, atI_nat (j := 2) rfl, ?_⟩
          walk_at "wn"
          by_cases ho : r.term = "once"
          · rw [decide_eq_true (by rw [ho])]
            walk_at "wn"
            refine ⟨t, _, rfl, SqT.of ht6, by show ¬ (HT.sIx 4 0 none = 0 ∧ HT.sIx 4 4 (some 3) = 4); decide, fun p1 h1' => ?_⟩
            have s7 := Same.new' (o := .tup (cutV [V.int r.lab, V.int r.kind, V.str r.term, V.bl r.armed] none (some 3))) h1'
            walk_at "wn"
            refine ⟨by show 1 ≤ sizeLine; decide, fun p2 h2' => ?_⟩
            have s8 := Same.new' (o := .tup [V.bl false]) h2'
            refine ⟨p1, p2, [V.int r.lab, V.int r.kind, V.str r.term], [V.bl false], rfl, rfl, SqT.of (s8 _ _ upd_same), SqT.of upd_same, (by intro z; cases z), by show 4 ≤ sizeLine; decide, (fun z => by cases z), fun _ p3 h3' => ?_⟩
            have s9 := Same.new' (o := .tup ([V.int r.lab, V.int r.kind, V.str r.term] ++ [V.bl false])) h3'
            have sm := s7.trans (s8.trans s9)
            have f6 : H6 p3 = none := (s7.trans s8).free h3'
            have h9 : upd (upd (upd H6 p1 (.tup (cutV [V.int r.lab, V.int r.kind, V.str r.term, V.bl r.armed] none (some 3)))) p2 (.tup [V.bl false])) p3 (.tup ([V.int r.lab, V.int r.kind, V.str r.term] ++ [V.bl false])) p3 = some (tup4 ⟨r.lab, r.kind, r.term, false⟩) := upd_same
            generalize upd (upd (upd H6 p1 (.tup (cutV [V.int r.lab, V.int r.kind, V.str r.term, V.bl r.armed] none (some 3)))) p2 (.tup [V.bl false])) p3 (.tup ([V.int r.lab, V.int r.kind, V.str r.term] ++ [V.bl false])) = H9 at sm h9
            have ha9 := sm _ _ ha6
            have hb9 := sm _ _ hb6
            walk_at "wn"
            refine ⟨a, _, (i : Int), i, rfl, rfl, ha9, by rw [List.length_map]; exact ixN_nat (by omega), ?_⟩
            walk_at "wn"
            have e5 : (ts'.map V.ref).set i (V.ref p3) = (ts'.set i p3).map V.ref := by rw [List.map_set]
            rw [e5]
            have kk : ∀ x o, x ≠ a → H9 x = some o → upd H9 a (.lst ((ts'.set i p3).map V.ref)) x = some o := fun x o n e => by rw [upd_ne n]; exact e
            refine ⟨_, _, _, ts'.set i p3, rfl, I', upd_same, ?_, kk _ _ (Ne.symm nab) hb9, fun x o n1 n2 e => kk x o n1 (sm _ _ (kp6 x o n1 n2 e)), fun x hx => ?_⟩
            · show Paired _ _ (if r.term = "once" then st.rs.set i ⟨r.lab, r.kind, r.term, false⟩ else st.rs)
              rw [if_pos ho]
              exact pair_set (pair_keep hp6 fun x xs e => kk x _ (ne_of e ha6 (by intro z; cases z)) (sm _ _ e)) (kk _ _ (ne_of h9 ha9 (by intro z; cases z)) h9) i
            · rcases List.mem_or_eq_of_mem_set hx with z | z
              · exact fr x z
              · rw [z]
                refine .inr ?_
                cases e1 : H p3 with
                | none => rfl
                | some o =>
                  have e2 := s1 _ _ e1
                  have := kp6 p3 o (fun z => by rw [z, ha6] at f6; cases f6) (fun z => by rw [z, hb6] at f6; cases f6) e2
                  rw [f6] at this
                  cases this
          · rw [decide_eq_false fun z => ho (V.str.inj z)]
            walk_at "wn"
            refine ⟨_, _, _, ts', rfl, I', ha6, ?_, hb6, kp6, fr⟩
            show Paired _ _ (if r.term = "once" then st.rs.set i ⟨r.lab, r.kind, r.term, false⟩ else st.rs)
            rw [if_neg ho]
            exact hp6
        · rw [decide_eq_false h2]
          walk_at "wn"
          refine ⟨t, _, 1, _, rfl, rfl, SqT.of ht5, atI_nat (j := 1) rfl, ?_⟩
          walk_at "wn"
          refine q_half okr.2.2.1 okr.2.2.2.1 ?_
          refine ⟨c, _, r.kind / 2, _, rfl, rfl, SqL.of hul5, at3 (f := V.ref) hk, ?_⟩
          walk_at "wn"
          refine ⟨us (r.kind / 2), _, 1, _, rfl, rfl, SqT.of hut5, rfl, ?_⟩
          cases h3 : (u (r.kind / 2)).2 with
          | true =>
            have hrd : rdyU (u (r.kind / 2)) = true := by unfold rdyU; rw [h3, Bool.or_true]
            walk_at "wn"
            refine ⟨fun σ' H6 => σ' = [some (.ref a), some (.ref b), some (.ref c), some (.int most), some (.int (st.told + 1)), some (.int r.lab), some (.int (i : Int)), some (.ref t), none] ∧ H6 b = some (.lst ((if r.term = "level" then st.row.erase r.lab ++ [r.lab] else st.row.erase r.lab).map V.int)) ∧ (∀ x o, x ≠ b → H5 x = some o → H6 x = some o), ?_, ?_⟩
            · walk_at "wn"
              refine ⟨t, _, 2, _, rfl, rfl, SqT.of ht5, atI_nat (j := 2) rfl, ?_⟩
              walk_at "wn"
              by_cases hv : r.term = "level"
              · rw [decide_eq_true (by rw [hv])]
                walk_at "wn"
                refine ⟨b, _, _, rfl, rfl, hb5, by rw [List.length_map, sizeLine_eq]; omega, ?_⟩
                refine ⟨rfl, ?_, fun x o n e => by rw [upd_ne n]; exact e⟩
                rw [upd_same, if_pos hv, List.map_append]
                rfl
              · rw [decide_eq_false fun z => hv (V.str.inj z)]
                walk_at "wn"
                exact ⟨rfl, by rw [if_neg hv]; exact hb5, fun x o _ e => e⟩
            rintro σ' H6 ⟨rfl, hb6, k6⟩
            have ht6 := k6 _ _ (ne_of ht5 hb5 (by intro z; cases z)) ht5
            have ha6 := k6 _ _ nab ha5
            have hp6 : Paired (fun t r => H6 t = some (tup4 r)) ts' st.rs := pair_keep hp5 fun x xs e => k6 x _ (ne_of e hb5 (by intro z; cases z)) e
            have kp6 : ∀ x o, x ≠ a → x ≠ b → H0 x = some o → H6 x = some o := fun x o n1 n2 e => k6 x o n2 (kp5 x o n1 n2 e)
            rw [E1 h1 hrd] at I' ⊢
            walk_at "wn"
            refine ⟨t, _, 2, _, rfl, rfl, SqT.of ht6, atI_nat (j := 2) rfl, ?_⟩
            walk_at "wn"
            by_cases ho : r.term = "once"
            · rw [decide_eq_true (by rw [ho])]
              walk_at "wn"
              refine ⟨t, _, rfl, SqT.of ht6, by show ¬ (HT.sIx 4 0 none = 0 ∧ HT.sIx 4 4 (some 3) = 4); decide, fun p1 h1' => ?_⟩
              have s7 := Same.new' (o := .tup (cutV [V.int r.lab, V.int r.kind, V.str r.term, V.bl r.armed] none (some 3))) h1'
              walk_at "wn"
              refine ⟨by show 1 ≤ sizeLine; decide, fun p2 h2' => ?_⟩
              have s8 := Same.new' (o := .tup [V.bl false]) h2'
              refine ⟨p1, p2, [V.int r.lab, V.int r.kind, V.str r.term], [V.bl false], rfl, rfl, SqT.of (s8 _ _ upd_same), SqT.of upd_same, (by intro z; cases z), by show 4 ≤ sizeLine; decide, (fun z => by cases z), fun _ p3 h3' => ?_⟩
              have s9 := Same.new' (o := .tup ([V.int r.lab, V.int r.kind, V.str r.term] ++ [V.bl false])) h3'
              have sm := s7.trans (s8.trans s9)
              have f6 : H6 p3 = none := (s7.trans s8).free h3'
              have h9 : upd (upd (upd H6 p1 (.tup (cutV [V.int r.lab, V.int r.kind, V.str r.term, V.bl r.armed] none (some 3)))) p2 (.tup [V.bl false])) p3 (.tup ([V.int r.lab, V.int r.kind, V.str r.term] ++ [V.bl false])) p3 = some (tup4 ⟨r.lab, r.kind, r.term, false⟩) := upd_same
              generalize upd (upd (upd H6 p1 (.tup (cutV [V.int r.lab, V.int r.kind, V.str r.term, V.bl r.armed] none (some 3)))) p2 (.tup [V.bl false])) p3 (.tup ([V.int r.lab, V.int r.kind, V.str r.term] ++ [V.bl false])) = H9 at sm h9
              have ha9 := sm _ _ ha6
              have hb9 := sm _ _ hb6
              walk_at "wn"
              refine ⟨a, _, (i : Int), i, rfl, rfl, ha9, by rw [List.length_map]; exact ixN_nat (by omega), ?_⟩
              walk_at "wn"
              have e5 : (ts'.map V.ref).set i (V.ref p3) = (ts'.set i p3).map V.ref := by rw [List.map_set]
              rw [e5]
              have kk : ∀ x o, x ≠ a → H9 x = some o → upd H9 a (.lst ((ts'.set i p3).map V.ref)) x = some o := fun x o n e => by rw [upd_ne n]; exact e
              refine ⟨_, _, _, ts'.set i p3, rfl, I', upd_same, ?_, kk _ _ (Ne.symm nab) hb9, fun x o n1 n2 e => kk x o n1 (sm _ _ (kp6 x o n1 n2 e)), fun x hx => ?_⟩
              · show Paired _ _ (if r.term = "once" then st.rs.set i ⟨r.lab, r.kind, r.term, false⟩ else st.rs)
                rw [if_pos ho]
                exact pair_set (pair_keep hp6 fun x xs e => kk x _ (ne_of e ha6 (by intro z; cases z)) (sm _ _ e)) (kk _ _ (ne_of h9 ha9 (by intro z; cases z)) h9) i
              · rcases List.mem_or_eq_of_mem_set hx with z | z
                · exact fr x z
                · rw [z]
                  refine .inr ?_
                  cases e1 : H p3 with
                  | none => rfl
                  | some o =>
                    have e2 := s1 _ _ e1
                    have := kp6 p3 o (fun z => by rw [z, ha6] at f6; cases f6) (fun z => by rw [z, hb6] at f6; cases f6) e2
                    rw [f6] at this
                    cases this
            · rw [decide_eq_false fun z => ho (V.str.inj z)]
              walk_at "wn"
              refine ⟨_, _, _, ts', rfl, I', ha6, ?_, hb6, kp6, fr⟩
              show Paired _ _ (if r.term = "once" then st.rs.set i ⟨r.lab, r.kind, r.term, false⟩ else st.rs)
              rw [if_neg ho]
              exact hp6
          | false =>
            have hrd : ¬ rdyU (u (r.kind / 2)) = true := by unfold rdyU; rw [h3, decide_eq_false h2]; decide
            rw [E2 h1 hrd] at I' ⊢
            walk_at "wn"
            exact ⟨_, _, _, ts', rfl, I', ha5, hp5, hb5, kp5, fr⟩
      · rw [decide_eq_false h1]
        rw [E3 h1] at I' ⊢
        walk_at "wn"
        exact ⟨_, _, _, ts', rfl, I', ha3, hp3, hb3, kp3, fr⟩
    · rintro σ' H2 ⟨v5, v6, v7, ts', rfl, I, ha2, hp2, hb2, kp, fr⟩
      rw [List.length_map, List.take_length] at hp2 hb2
      walk_at "wn"
      exact q _ ts' ha2 hp2 hb2 (fun x o n1 n2 e => kp x o n1 n2 (s1 _ _ e)) fr
end

section
variable {P : Program} {w : World} {K : PySem.W.Frag} {mg : Str → Option Value} {base : Heap} {C : Cs}
/-- the source to which something came is told, with the rows as they are due; else None -/
inductive PspOutside (C : Cs) (vs : List V) (H : Hp) (Q : VK) : Prop
  | mk (Hb : Hp) (p box : Addr) (A : AD) (rg : Int → List LR) (rw : Int → List Int) (u : Int → Int × Bool) (h_0 : vs = [.ref p, .ref box, .ref A.ul]) (h_1 : WL C Hb H p box A rg rw u (fun S => Pic S rg rw u)) (h_2 : (∀ H' A' u', A'.rg = A.rg → A'.rw = A.rw → A'.ul = A.ul → WL C Hb H' p box A' rg rw u' (fun S => Pic S rg rw u') → Q .non H')) (h_3 : (∀ k H' A' u', tk k → rdyU (u' k) = true → A'.rg = A.rg → A'.rw = A.rw → A'.ul = A.ul → WL C Hb H' p box A' rg rw u' (fun S => Pic S rg (fun s => pendR k true (rg s) (rw s)) u') → Q (.int k) H')) : PspOutside C vs H Q
noncomputable def spOutside (C : Cs) : Sp := fun vs H Q _ => PspOutside C vs H Q
noncomputable abbrev nOutside : List Str := ["_law_bag_here", "_law_box", "_law_units", "_law_source", "_law_way", "_law_n"]
theorem scOutside : FnScope nOutside ["_law_bag_here", "_law_box", "_law_units"] (defScope sOutside) := ⟨rfl, rfl, rfl, by decide +kernel, rfl, by decide +kernel, by decide +kernel⟩
theorem okOutside {f fT fA fI fR : Addr} {fd fdT fdA fdI fdR : FuncData} {dA dR : List Value} (F : Fun K "_law_outside" "_law_outside" sOutside f fd) (X : LawTx mg) (T : ClsF K C.S sysF)
    (GT : DO P w K mg base 1 "_law_take" ["_law_bag_here", "_law_many"] spTake fT fdT)
    (GA : MD P w K mg base 6 C.S "arrive" ["self", "process", "number", "many"] (spArrive C) fA fdA dA [.int 1]) (GI : MO P w K mg base 6 C.S "finish" ["self", "process", "number"] (spFinish C) fI fdI) (GR : MD P w K mg base 6 C.S "read" ["self", "process", "number", "many"] (spRead C) fR fdR dR [.non]) :
    FnOk P w K mg base CX0 7 f fd ["_law_bag_here", "_law_box", "_law_units"] (spOutside C) := by
  refine F.ok scOutside (fun vs H Q E h => ?_) (fun cdv A outer s H vs Q E hr h => ?_)
  · obtain ⟨_, _, _, _, _, _, _, rfl, _⟩ := h
    rfl
  · obtain ⟨Hb, p, box, B, rg, rw', u, rfl, W0, qN, qS⟩ := h
    have r1 : Room 1 _ := hr.mono (by decide)
    have ix0 := fun (j : Int) => j
    refine ⟨_, pss_cut (ps_set (i := 3) scOutside.nd rfl (Or.inl rfl) (pe_call GT.g r1 (by rfl) GT.m GT.k GT.b .nil pass0 (pa_cons (pv 0) (pa_cons pe_int pa_nil))))
      (pss_cut (ps_par (i := 4) (j := 5) (by rfl) scOutside.nd rfl rfl (by decide) rfl rfl (pa_cons (pe_call GT.g r1 (by rfl) GT.m GT.k GT.b .nil pass0 (pa_cons (pv 0) (pa_cons pe_int pa_nil))) (pa_cons (pe_op op_add (pe_op op_mul pe_int (pv 3)) (pe_call GT.g r1 (by rfl) GT.m GT.k GT.b .nil pass0 (pa_cons (pv 0) (pa_cons pe_int pa_nil)))) pa_nil)) (by rfl))
      (pss_cons (ps_if (PW.pt (pw_and (pt_cmpR op_lt (pv 4) pe_int (nomark _)) (pw_and1 (pt_not (pt_val (pe_ix ix_tup (pe_ix ix_list (pv 2) (pv 3) (fun _ _ => rfl)) pe_int (fun _ _ => rfl)))))))
        (pss_cut (ps_expr (pe_meth (pv 1) T.cl GA.m GA.g hr GA.b GA.d pass0 (pa_cons pe_int (pa_cons (pv 5) pa_nil))))
        (pss_cut (ps_asg (pe_tup (pa_cons (pe_op op_add (pe_ix ix_tup (pe_ix ix_list (pv 2) (pv 3) (fun _ _ => rfl)) pe_int (fun _ _ => rfl)) pe_int) (pa_cons pe_bl pa_nil))) (pg_sub (pv 2) (pv 3) set_list))
        (pss_one (ps_ret (pv 3))))) pss_nil)
      (pss_cons (ps_if (PW.pt (pw_and (pt_cmpR op_eq (pv 4) pe_int (nomark _)) (pw_and1 (pt_not (pt_val (pe_ix ix_tup (pe_ix ix_list (pv 2) (pv 3) (fun _ _ => rfl)) pe_int (fun _ _ => rfl)))))))
        (pss_cut (ps_expr (pe_meth (pv 1) T.cl GI.m GI.g hr GI.b .nil pass0 (pa_cons pe_int (pa_cons (pv 5) pa_nil))))
        (pss_cut (ps_asg (pe_tup (pa_cons (pe_ix ix_tup (pe_ix ix_list (pv 2) (pv 3) (fun _ _ => rfl)) pe_int (fun _ _ => rfl)) (pa_cons pe_bl pa_nil))) (pg_sub (pv 2) (pv 3) set_list))
        (pss_one (ps_ret (pv 3))))) pss_nil)
      (pss_cut (ps_expr (pe_meth (pv 1) T.cl GR.m GR.g hr GR.b GR.d pass0 (pa_cons pe_int (pa_cons (pv 5) pa_nil))))
      (pss_cut (ps_asg (pe_tup (pa_cons pe_int (pa_cons (pe_ix ix_tup (pe_ix ix_list (pv 2) (pv 3) (fun _ _ => rfl)) pe_int (fun _ _ => rfl)) pa_nil))) (pg_sub (pv 2) (pv 3) set_list))
      (pss_one (ps_ret pe_non))))))), ?_⟩
    refine ⟨fun σ' H1 => ∃ k : Int, tk k ∧ σ' = [some (.ref p), some (.ref box), some (.ref B.ul), some (.int k), none, none] ∧ WL C Hb H1 p box B rg rw' u (fun S => Pic S rg rw' u), ?_, ?_⟩
    · walk_at "wn"
      refine ⟨p, 3, rfl, W0.W.bag, by decide, by decide, fun kk H1 k0 k1 e1 b1 => ?_⟩
      exact ⟨kk, by unfold tk; omega, rfl, W0.draw e1 b1⟩
    rintro σ' H1 ⟨k, hk, rfl, W1⟩
    refine ⟨fun σ' H2 => ∃ way n : Int, (n = 2 * k ∨ n = 2 * k + 1) ∧ σ' = [some (.ref p), some (.ref box), some (.ref B.ul), some (.int k), some (.int way), some (.int n)] ∧ WL C Hb H2 p box B rg rw' u (fun S => Pic S rg rw' u), ?_, ?_⟩
    · show tCons _ _ _ _ _
      walk_at "wn"
      refine ⟨p, 8, rfl, W1.W.bag, by decide, by decide, fun way H2 _ _ e2 b2 => ?_⟩
      have W2 := W1.draw e2 b2
      walk_at "wn"
      refine ⟨p, 2, rfl, W2.W.bag, by decide, by decide, fun y H3 y0 y1 e3 b3 => ?_⟩
      have W3 := W2.draw e3 b3
      walk_at "wn"
      exact ⟨_, _, rfl, way, 2 * k + y, by omega, rfl, W3⟩
    rintro σ' H2 ⟨way, n, hn, rfl, W2⟩
    have hup : 0 ≤ (u k).1 := W2.W.pure fun S F => F.upos k hk
    walk_at "wn"
    by_cases h4 : way < 4
    · rw [decide_eq_true h4]
      walk_at "wn"
      refine ⟨B.ul, _, k, _, rfl, rfl, SqL.of W2.L.U.hul, at3 (f := V.ref) hk, ?_⟩
      walk_at "wn"
      refine ⟨B.us k, _, 1, _, rfl, rfl, SqT.of (W2.L.U.hu k hk), rfl, ?_⟩
      cases hf : (u k).2 with
      | false =>
        walk_at "wn"
        refine ⟨fun σ' H5 => σ' = [some (.ref p), some (.ref box), some (.ref B.ul), some (.int k), some (.int way), some (.int n)] ∧ WL C Hb H5 p box B rg rw' u (fun S => Pic S rg (fun s => pendR k true (rg s) (rw' s)) (upF u k ((u k).1 + 1, false))), ?_, ?_⟩
        · obtain ⟨bx, bS, td, sd', ud, hb⟩ := W2.W.boxAt
          walk_at "wn"
          refine ⟨_, rfl, box, bx, _, rfl, hb, rfl, ?_⟩
          walk_at "wn"
          refine W2.arrive hk hn hf ?_
          intro H5 W5
          walk_at "wn"
          exact ⟨rfl, W5⟩
        rintro σ' H5 ⟨rfl, W5⟩
        refine ⟨fun σ' H6 => ∃ t' : Addr, σ' = [some (.ref p), some (.ref box), some (.ref B.ul), some (.int k), some (.int way), some (.int n)] ∧ WL C Hb H6 p box (setUs B k t') rg rw' (upF u k ((u k).1 + 1, false)) (fun S => Pic S rg (fun s => pendR k true (rg s) (rw' s)) (upF u k ((u k).1 + 1, false))), ?_, ?_⟩
        · walk_at "wn"
          refine ⟨B.ul, _, k, _, rfl, rfl, SqL.of W5.L.U.hul, at3 (f := V.ref) hk, ?_⟩
          walk_at "wn"
          refine ⟨B.us k, _, 0, _, rfl, rfl, SqT.of (W5.L.U.hu k hk), rfl, ?_⟩
          walk_at "wn"
          refine ⟨by show 2 ≤ sizeLine; decide, fun t' ht' => ?_⟩
          have sN := Same.new' (o := .tup [V.int ((u k).1 + 1), V.bl false]) ht'
          have hulN := sN _ _ W5.L.U.hul
          have htN : upd H5 t' (.tup [V.int ((u k).1 + 1), V.bl false]) t' = some (utup ((u k).1 + 1, false)) := upd_same
          generalize upd H5 t' (.tup [V.int ((u k).1 + 1), V.bl false]) = H6 at sN hulN htN
          walk_at "wn"
          refine ⟨B.ul, _, k, k.toNat, rfl, rfl, hulN, ix3 hk, ?_⟩
          walk_at "wn"
          have kk : ∀ b o, b ≠ B.ul → H6 b = some o → upd H6 B.ul (.lst ((ulV B).set k.toNat (.ref t'))) b = some o := fun b o n e => by rw [upd_ne n]; exact e
          have L6 := LH.setU (H := H5) (H1 := upd H6 B.ul (.lst ((ulV B).set k.toNat (.ref t')))) (a' := t') (v := ((u k).1 + 1, false)) W5.L hk (fun b o n e => kk b o n (sN _ _ e)) upd_same (kk _ _ (ne_of htN hulN (by intro z; cases z)) htN)
          exact ⟨t', rfl, W5.mut L6 (fun b o n e => kk b o (fun z => n (by rw [z]; exact in_ul)) (sN _ _ e)) fun b hb => in_setUs ht' hb⟩
        rintro σ' H6 ⟨t', rfl, W6⟩
        walk_at "wn"
        exact qS k _ (setUs B k t') _ hk (by rw [upF_same]; unfold rdyU; rw [decide_eq_true (by have := hup; omega)]; rfl) rfl rfl rfl W6
      | true =>
        walk_at "wn"
        rw [show decide (V.int way = V.int 4) = false from decide_eq_false fun z => by have := V.int.inj z; omega]
        walk_at "wn"
        refine ⟨fun σ' H5 => σ' = [some (.ref p), some (.ref box), some (.ref B.ul), some (.int k), some (.int way), some (.int n)] ∧ WL C Hb H5 p box B rg rw' u (fun S => Pic S rg rw' (upF u k (0, (u k).2))), ?_, ?_⟩
        · obtain ⟨bx, bS, td, sd', ud, hb⟩ := W2.W.boxAt
          walk_at "wn"
          refine ⟨_, rfl, box, bx, _, rfl, hb, rfl, ?_⟩
          walk_at "wn"
          refine W2.read hk hn ?_
          intro v H5 W5
          walk_at "wn"
          exact ⟨rfl, W5⟩
        rintro σ' H5 ⟨rfl, W5⟩
        refine ⟨fun σ' H6 => ∃ t' : Addr, σ' = [some (.ref p), some (.ref box), some (.ref B.ul), some (.int k), some (.int way), some (.int n)] ∧ WL C Hb H6 p box (setUs B k t') rg rw' (upF u k (0, (u k).2)) (fun S => Pic S rg rw' (upF u k (0, (u k).2))), ?_, ?_⟩
        · walk_at "wn"
          refine ⟨B.ul, _, k, _, rfl, rfl, SqL.of W5.L.U.hul, at3 (f := V.ref) hk, ?_⟩
          walk_at "wn"
          refine ⟨B.us k, _, 1, _, rfl, rfl, SqT.of (W5.L.U.hu k hk), rfl, ?_⟩
          walk_at "wn"
          refine ⟨by show 2 ≤ sizeLine; decide, fun t' ht' => ?_⟩
          have sN := Same.new' (o := .tup [V.int 0, V.bl (u k).2]) ht'
          have hulN := sN _ _ W5.L.U.hul
          have htN : upd H5 t' (.tup [V.int 0, V.bl (u k).2]) t' = some (utup (0, (u k).2)) := upd_same
          generalize upd H5 t' (.tup [V.int 0, V.bl (u k).2]) = H6 at sN hulN htN
          walk_at "wn"
          refine ⟨B.ul, _, k, k.toNat, rfl, rfl, hulN, ix3 hk, ?_⟩
          walk_at "wn"
          have kk : ∀ b o, b ≠ B.ul → H6 b = some o → upd H6 B.ul (.lst ((ulV B).set k.toNat (.ref t'))) b = some o := fun b o n e => by rw [upd_ne n]; exact e
          have L6 := LH.setU (H := H5) (H1 := upd H6 B.ul (.lst ((ulV B).set k.toNat (.ref t')))) (a' := t') (v := (0, (u k).2)) W5.L hk (fun b o n e => kk b o n (sN _ _ e)) upd_same (kk _ _ (ne_of htN hulN (by intro z; cases z)) htN)
          exact ⟨t', rfl, W5.mut L6 (fun b o n e => kk b o (fun z => n (by rw [z]; exact in_ul)) (sN _ _ e)) fun b hb => in_setUs ht' hb⟩
        rintro σ' H6 ⟨t', rfl, W6⟩
        walk_at "wn"
        exact qN _ (setUs B k t') _ rfl rfl rfl W6
    · rw [decide_eq_false h4]
      walk_at "wn"
      by_cases h5 : way = 4
      · rw [show decide (V.int way = V.int 4) = true from decide_eq_true (by rw [h5])]
        walk_at "wn"
        refine ⟨B.ul, _, k, _, rfl, rfl, SqL.of W2.L.U.hul, at3 (f := V.ref) hk, ?_⟩
        walk_at "wn"
        refine ⟨B.us k, _, 1, _, rfl, rfl, SqT.of (W2.L.U.hu k hk), rfl, ?_⟩
        cases hf : (u k).2 with
        | false =>
          walk_at "wn"
          refine ⟨fun σ' H5 => σ' = [some (.ref p), some (.ref box), some (.ref B.ul), some (.int k), some (.int way), some (.int n)] ∧ WL C Hb H5 p box B rg rw' u (fun S => Pic S rg (fun s => pendR k true (rg s) (rw' s)) (upF u k ((u k).1, true))), ?_, ?_⟩
          · obtain ⟨bx, bS, td, sd', ud, hb⟩ := W2.W.boxAt
            walk_at "wn"
            refine ⟨_, rfl, box, bx, _, rfl, hb, rfl, ?_⟩
            walk_at "wn"
            refine W2.finish hk hn hf ?_
            intro H5 W5
            walk_at "wn"
            exact ⟨rfl, W5⟩
          rintro σ' H5 ⟨rfl, W5⟩
          refine ⟨fun σ' H6 => ∃ t' : Addr, σ' = [some (.ref p), some (.ref box), some (.ref B.ul), some (.int k), some (.int way), some (.int n)] ∧ WL C Hb H6 p box (setUs B k t') rg rw' (upF u k ((u k).1, true)) (fun S => Pic S rg (fun s => pendR k true (rg s) (rw' s)) (upF u k ((u k).1, true))), ?_, ?_⟩
          · walk_at "wn"
            refine ⟨B.ul, _, k, _, rfl, rfl, SqL.of W5.L.U.hul, at3 (f := V.ref) hk, ?_⟩
            walk_at "wn"
            refine ⟨B.us k, _, 0, _, rfl, rfl, SqT.of (W5.L.U.hu k hk), rfl, ?_⟩
            walk_at "wn"
            refine ⟨by show 2 ≤ sizeLine; decide, fun t' ht' => ?_⟩
            have sN := Same.new' (o := .tup [V.int (u k).1, V.bl true]) ht'
            have hulN := sN _ _ W5.L.U.hul
            have htN : upd H5 t' (.tup [V.int (u k).1, V.bl true]) t' = some (utup ((u k).1, true)) := upd_same
            generalize upd H5 t' (.tup [V.int (u k).1, V.bl true]) = H6 at sN hulN htN
            walk_at "wn"
            refine ⟨B.ul, _, k, k.toNat, rfl, rfl, hulN, ix3 hk, ?_⟩
            walk_at "wn"
            have kk : ∀ b o, b ≠ B.ul → H6 b = some o → upd H6 B.ul (.lst ((ulV B).set k.toNat (.ref t'))) b = some o := fun b o n e => by rw [upd_ne n]; exact e
            have L6 := LH.setU (H := H5) (H1 := upd H6 B.ul (.lst ((ulV B).set k.toNat (.ref t')))) (a' := t') (v := ((u k).1, true)) W5.L hk (fun b o n e => kk b o n (sN _ _ e)) upd_same (kk _ _ (ne_of htN hulN (by intro z; cases z)) htN)
            exact ⟨t', rfl, W5.mut L6 (fun b o n e => kk b o (fun z => n (by rw [z]; exact in_ul)) (sN _ _ e)) fun b hb => in_setUs ht' hb⟩
          rintro σ' H6 ⟨t', rfl, W6⟩
          walk_at "wn"
          exact qS k _ (setUs B k t') _ hk (by rw [upF_same]; unfold rdyU; exact Bool.or_true _) rfl rfl rfl W6
        | true =>
          walk_at "wn"
          refine ⟨fun σ' H5 => σ' = [some (.ref p), some (.ref box), some (.ref B.ul), some (.int k), some (.int way), some (.int n)] ∧ WL C Hb H5 p box B rg rw' u (fun S => Pic S rg rw' (upF u k (0, (u k).2))), ?_, ?_⟩
          · obtain ⟨bx, bS, td, sd', ud, hb⟩ := W2.W.boxAt
            walk_at "wn"
            refine ⟨_, rfl, box, bx, _, rfl, hb, rfl, ?_⟩
            walk_at "wn"
            refine W2.read hk hn ?_
            intro v H5 W5
            walk_at "wn"
            exact ⟨rfl, W5⟩
          rintro σ' H5 ⟨rfl, W5⟩
          refine ⟨fun σ' H6 => ∃ t' : Addr, σ' = [some (.ref p), some (.ref box), some (.ref B.ul), some (.int k), some (.int way), some (.int n)] ∧ WL C Hb H6 p box (setUs B k t') rg rw' (upF u k (0, (u k).2)) (fun S => Pic S rg rw' (upF u k (0, (u k).2))), ?_, ?_⟩
          · walk_at "wn"
            refine ⟨B.ul, _, k, _, rfl, rfl, SqL.of W5.L.U.hul, at3 (f := V.ref) hk, ?_⟩
            walk_at "wn"
            refine ⟨B.us k, _, 1, _, rfl, rfl, SqT.of (W5.L.U.hu k hk), rfl, ?_⟩
            walk_at "wn"
            refine ⟨by show 2 ≤ sizeLine; decide, fun t' ht' => ?_⟩
            have sN := Same.new' (o := .tup [V.int 0, V.bl (u k).2]) ht'
            have hulN := sN _ _ W5.L.U.hul
            have htN : upd H5 t' (.tup [V.int 0, V.bl (u k).2]) t' = some (utup (0, (u k).2)) := upd_same
            generalize upd H5 t' (.tup [V.int 0, V.bl (u k).2]) = H6 at sN hulN htN
            walk_at "wn"
            refine ⟨B.ul, _, k, k.toNat, rfl, rfl, hulN, ix3 hk, ?_⟩
            walk_at "wn"
            have kk : ∀ b o, b ≠ B.ul → H6 b = some o → upd H6 B.ul (.lst ((ulV B).set k.toNat (.ref t'))) b = some o := fun b o n e => by rw [upd_ne n]; exact e
            have L6 := LH.setU (H := H5) (H1 := upd H6 B.ul (.lst ((ulV B).set k.toNat (.ref t')))) (a' := t') (v := (0, (u k).2)) W5.L hk (fun b o n e => kk b o n (sN _ _ e)) upd_same (kk _ _ (ne_of htN hulN (by intro z; cases z)) htN)
            exact ⟨t', rfl, W5.mut L6 (fun b o n e => kk b o (fun z => n (by rw [z]; exact in_ul)) (sN _ _ e)) fun b hb => in_setUs ht' hb⟩
          rintro σ' H6 ⟨t', rfl, W6⟩
          walk_at "wn"
          exact qN _ (setUs B k t') _ rfl rfl rfl W6
      · rw [show decide (V.int way = V.int 4) = false from decide_eq_false fun z => h5 (V.int.inj z)]
        walk_at "wn"
        refine ⟨fun σ' H5 => σ' = [some (.ref p), some (.ref box), some (.ref B.ul), some (.int k), some (.int way), some (.int n)] ∧ WL C Hb H5 p box B rg rw' u (fun S => Pic S rg rw' (upF u k (0, (u k).2))), ?_, ?_⟩
        · obtain ⟨bx, bS, td, sd', ud, hb⟩ := W2.W.boxAt
          walk_at "wn"
          refine ⟨_, rfl, box, bx, _, rfl, hb, rfl, ?_⟩
          walk_at "wn"
          refine W2.read hk hn ?_
          intro v H5 W5
          walk_at "wn"
          exact ⟨rfl, W5⟩
        rintro σ' H5 ⟨rfl, W5⟩
        refine ⟨fun σ' H6 => ∃ t' : Addr, σ' = [some (.ref p), some (.ref box), some (.ref B.ul), some (.int k), some (.int way), some (.int n)] ∧ WL C Hb H6 p box (setUs B k t') rg rw' (upF u k (0, (u k).2)) (fun S => Pic S rg rw' (upF u k (0, (u k).2))), ?_, ?_⟩
        · walk_at "wn"
          refine ⟨B.ul, _, k, _, rfl, rfl, SqL.of W5.L.U.hul, at3 (f := V.ref) hk, ?_⟩
          walk_at "wn"
          refine ⟨B.us k, _, 1, _, rfl, rfl, SqT.of (W5.L.U.hu k hk), rfl, ?_⟩
          walk_at "wn"
          refine ⟨by show 2 ≤ sizeLine; decide, fun t' ht' => ?_⟩
          have sN := Same.new' (o := .tup [V.int 0, V.bl (u k).2]) ht'
          have hulN := sN _ _ W5.L.U.hul
          have htN : upd H5 t' (.tup [V.int 0, V.bl (u k).2]) t' = some (utup (0, (u k).2)) := upd_same
          generalize upd H5 t' (.tup [V.int 0, V.bl (u k).2]) = H6 at sN hulN htN
          walk_at "wn"
          refine ⟨B.ul, _, k, k.toNat, rfl, rfl, hulN, ix3 hk, ?_⟩
          walk_at "wn"
          have kk : ∀ b o, b ≠ B.ul → H6 b = some o → upd H6 B.ul (.lst ((ulV B).set k.toNat (.ref t'))) b = some o := fun b o n e => by rw [upd_ne n]; exact e
          have L6 := LH.setU (H := H5) (H1 := upd H6 B.ul (.lst ((ulV B).set k.toNat (.ref t')))) (a' := t') (v := (0, (u k).2)) W5.L hk (fun b o n e => kk b o n (sN _ _ e)) upd_same (kk _ _ (ne_of htN hulN (by intro z; cases z)) htN)
          exact ⟨t', rfl, W5.mut L6 (fun b o n e => kk b o (fun z => n (by rw [z]; exact in_ul)) (sN _ _ e)) fun b hb => in_setUs ht' hb⟩
        rintro σ' H6 ⟨t', rfl, W6⟩
        walk_at "wn"
        exact qN _ (setUs B k t') _ rfl rfl rfl W6
end

/-! the system, the law's lists and one list more -/
structure WX (C : Cs) (Hb H : Hp) (p box D : Addr) (o : HO) (A : AD) (rg : Int → List LR) (rw : Int → List Int) (u : Int → Int × Bool) (Φ : Sys → Prop) : Prop where
  W : WQ C Hb H p box ((D, o) :: KS A rg rw u) Φ
  L : LH H A rg rw u
  nd : ¬ inA A D
section
variable {C : Cs} {Hb H H1 : Hp} {p box D : Addr} {o : HO} {A A1 : AD} {rg rg1 : Int → List LR} {rw rw1 : Int → List Int} {u u1 : Int → Int × Bool} {Φ Φ1 : Sys → Prop} {s k : Int} {r : LR} {wd : Str} {Q : VK} {E : XK} {i : Nat}
theorem WX.wl (W : WX C Hb H p box D o A rg rw u Φ) : WL C Hb H p box A rg rw u Φ := ⟨W.W.sub fun q hq => List.mem_cons_of_mem _ hq, W.L⟩
theorem WL.wx (W : WL C Hb H p box A rg rw u Φ) (hD : H D = none) (d : Dr p H H1) (e : H1 D = some o) : WX C Hb H1 p box D o A rg rw u Φ := by
  have W1 := W.W.hold hD d e
  refine ⟨W1, W.L.of_ks fun q hq => W1.kat q (List.mem_cons_of_mem _ hq), fun z => ?_⟩
  obtain ⟨o', ho⟩ := W.L.inKS z
  have := W.W.kat _ ho
  rw [hD] at this
  cases this
theorem WX.at_ (W : WX C Hb H p box D o A rg rw u Φ) : H D = some o := W.W.kat _ List.mem_cons_self
theorem WX.of (W : WX C Hb H p box D o A rg rw u Φ) (W1 : WQ C Hb H1 p box ((D, o) :: KS A rg rw u) Φ1) : WX C Hb H1 p box D o A rg rw u Φ1 := ⟨W1, W.L.of_ks fun q hq => W1.kat q (List.mem_cons_of_mem _ hq), W.nd⟩
theorem WX.draw (W : WX C Hb H p box D o A rg rw u Φ) (e : ∀ b, b ≠ p → H1 b = H b) (bg : BagAt H1 p) : WX C Hb H1 p box D o A rg rw u Φ := W.of (W.W.draw e bg)
theorem WX.same' (W : WX C Hb H p box D o A rg rw u Φ) (e : Same H H1) : WX C Hb H1 p box D o A rg rw u Φ := W.of (W.W.same' e)
theorem WX.change (W : WX C Hb H p box D o A rg rw u fun S => Pic S rg1 rw1 u1) (hs : sd s) (hi : (rg1 s)[i]? = some r) (hw : wd ∈ wordsL)
    (q : ∀ H1, WX C Hb H1 p box D o A rg rw u (fun S => Pic S (upF rg1 s ((rg1 s).set i ⟨r.lab, r.kind, wd, true⟩)) (upF rw1 s (pendR (r.kind / 2) (rdyU (u1 (r.kind / 2))) [⟨r.lab, r.kind, wd, true⟩] (rw1 s))) u1) → Q .non H1) : spChange C [.ref box, .int 0, .int (6 + s), .int r.kind, .str wd] H Q E := by
  obtain ⟨S, ad, dx, hb, A0, F, o1, o2, o4⟩ := W.W.ex
  have hr := List.mem_of_getElem? hi
  exact ⟨0, 6 + s, r.kind, r.lab, 3 + s, r.kind / 2, wd, S, ad, dx, by rw [hb], A0, F.ms s hs, F.inS hs, F.means hs hr, F.inK ((F.good s hs).kd hr), hw, F.find hs hr, F.small, fun H3 ad3 dx3 A3 st3 => q _ (W.of (W.W.call (ad := ad) hb o1 o2 o4 A3 st3 (F.change hs hi hw)))⟩
theorem WX.remove (W : WX C Hb H p box D o A rg rw u fun S => Pic S rg1 rw1 u1) (hs : sd s) (hi : (rg1 s)[i]? = some r)
    (q : ∀ H1, WX C Hb H1 p box D o A rg rw u (fun S => Pic S (upF rg1 s ((rg1 s).eraseIdx i)) (upF rw1 s (without r.lab (rw1 s))) u1) → Q .non H1) : spRemove C [.ref box, .int 0, .int (6 + s), .int r.kind] H Q E := by
  obtain ⟨S, ad, dx, hb, A0, F, o1, o2, o4⟩ := W.W.ex
  have hr := List.mem_of_getElem? hi
  exact ⟨0, 6 + s, r.kind, r.lab, 3 + s, r.kind / 2, S, ad, dx, by rw [hb], A0, F.ms s hs, F.inS hs, F.means hs hr, F.inK ((F.good s hs).kd hr), F.find hs hr, F.small, fun H3 ad3 dx3 A3 st3 => q _ (W.of (W.W.call (ad := ad) hb o1 o2 o4 A3 st3 (F.remove hs hi)))⟩
end
/-- the labels of the rows of a pend are those of the system: without is erase -/
theorem erase_without {l : Int} {row : List Int} (h : row.Nodup) : row.erase l = without l row := by
  rw [h.erase_eq_filter]
  unfold without
  refine List.filter_congr fun x _ => ?_
  by_cases e : x = l
  · simp [e]
  · simp [e]

noncomputable def accI (ix : Option Nat) (m : Nat) : List V := match ix with
  | some i => if i < m then [V.int (i : Int)] else []
  | none => []
theorem acc0 {ix : Option Nat} : accI ix 0 = [] := by
  cases ix with
  | none => rfl
  | some i =>
    show (if i < 0 then [V.int (i : Int)] else []) = []
    exact if_neg (Nat.not_lt_zero _)
theorem acc_lt {ix : Option Nat} {m : Nat} (h : ix = some m) : accI ix m = [] := by
  rw [h]
  show (if m < m then [V.int (m : Int)] else []) = []
  exact if_neg (Nat.lt_irrefl _)
theorem acc_hit {ix : Option Nat} {m : Nat} (h : ix = some m) : accI ix m ++ [V.int (m : Int)] = accI ix (m + 1) := by
  rw [acc_lt h, h]
  show _ = (if m < m + 1 then [V.int (m : Int)] else [])
  exact (if_pos (Nat.lt_succ_self _)).symm
theorem acc_miss {ix : Option Nat} {m : Nat} (h : ix ≠ some m) : accI ix m = accI ix (m + 1) := by
  cases ix with
  | none => rfl
  | some i =>
    have : i ≠ m := fun z => h (by rw [z])
    show (if i < m then [V.int (i : Int)] else []) = if i < m + 1 then [V.int (i : Int)] else []
    by_cases z : i < m
    · rw [if_pos z, if_pos (by omega)]
    · rw [if_neg z, if_neg (by omega)]
theorem idx_of {rs : List LR} (nd : (kinds rs).Nodup) (n : Int) : ∃ ix : Option Nat, (∀ m rm, rs[m]? = some rm → (rm.kind = n ↔ ix = some m)) ∧ ((∃ i r, ix = some i ∧ rs[i]? = some r ∧ r.kind = n) ∨ (ix = none ∧ n ∉ kinds rs)) := by
  by_cases h : n ∈ kinds rs
  · obtain ⟨r, hr, rfl⟩ := List.mem_map.mp h
    obtain ⟨i, hi, ei⟩ := List.getElem_of_mem hr
    have er : rs[i]? = some r := by rw [List.getElem?_eq_getElem hi, ei]
    refine ⟨some i, fun m rm em => ⟨fun e => ?_, fun e => ?_⟩, .inl ⟨i, r, rfl, er, rfl⟩⟩
    · have : i = m := nodup_idx nd (show (kinds rs)[i]? = some r.kind by rw [List.getElem?_map, er]; rfl) (show (kinds rs)[m]? = some r.kind by rw [List.getElem?_map, em]; show some rm.kind = _; rw [e])
      rw [this]
    · cases e
      rw [er] at em
      cases em
      rfl
  · exact ⟨none, fun m rm em => ⟨fun e => absurd (List.mem_map.mpr ⟨rm, List.mem_of_getElem? em, e⟩) h, fun e => by cases e⟩, .inr ⟨rfl, h⟩⟩
theorem q_eqNil {K : PySem.W.Frag} {H : Hp} {a b : Addr} {Q : VK} {l : List Int} (h1 : H a = some (.lst (l.map V.int))) (h2 : H b = some (.lst [])) (k : Q (.bl l.isEmpty) H) : rEqD K (.ref a) (.ref b) H Q := by
  refine ⟨_, _, .lst (SqL.of h1) (dp_ints l), .lst (SqL.of h2) .nil, ints_shaped l, rfl, ?_⟩
  rw [ints_nil]
  exact k
theorem LH.set2 {H H1 : Hp} {A : AD} {rg : Int → List LR} {rw : Int → List Int} {u : Int → Int × Bool} {s : Int} {row : List Int} {ts' : List Addr} {rs' : List LR} (L : LH H A rg rw u) (hs : sd s) (k : ∀ b o, b ≠ A.g s → b ≠ A.w s → H b = some o → H1 b = some o) (h : H1 (A.g s) = some (.lst (ts'.map V.ref))) (ht : Paired (fun t r => H1 t = some (tup4 r)) ts' rs') (hw : H1 (A.w s) = some (.lst (row.map V.int))) : LH H1 (setTs A s ts') (upF rg s rs') (upF rw s row) u := by
  obtain ⟨g1, g2, g3⟩ := L.d.g1 s hs
  obtain ⟨w1, w2, w3⟩ := L.d.w1 s hs
  have tu : ∀ {b : Addr} {xs : List V}, H b = some (.tup xs) → H1 b = some (.tup xs) := fun e => k _ _ (ne_of e (L.hg s hs) (by intro z; cases z)) (ne_of e (L.hw s hs) (by intro z; cases z)) e
  refine ⟨k _ _ (Ne.symm g1) (Ne.symm w1) L.hrg, k _ _ (Ne.symm g2) (Ne.symm w2) L.hrw, ⟨k _ _ (Ne.symm g3) (Ne.symm w3) L.U.hul, fun j hj => tu (L.U.hu j hj)⟩, fun j hj => ?_, fun j hj => ?_, fun j hj => ?_, L.d.setTs⟩
  · by_cases e : j = s
    · rw [e]
      show H1 (A.g s) = some (.lst ((upF A.ts s ts' s).map V.ref))
      rw [upF_same]
      exact h
    · show H1 (A.g j) = some (.lst ((upF A.ts s ts' j).map V.ref))
      rw [upF_ne e]
      exact k _ _ (L.d.g_ne hs hj e) (L.d.gw j s hj hs) (L.hg j hj)
  · by_cases e : j = s
    · rw [e, upF_same]
      exact hw
    · rw [upF_ne e]
      exact k _ _ (Ne.symm (L.d.gw s j hs hj)) (L.d.w_ne hs hj e) (L.hw j hj)
  · by_cases e : j = s
    · rw [e]
      show Paired _ (upF A.ts s ts' s) (upF rg s rs' s)
      rw [upF_same, upF_same]
      exact ht
    · show Paired _ (upF A.ts s ts' j) (upF rg s rs' j)
      rw [upF_ne e, upF_ne e]
      exact pair_keep (L.ht j hj) fun b xs z => tu z
theorem q_eq0 {K : PySem.W.Frag} {H : Hp} {a b : Addr} {Q : VK} (h1 : H a = some (.lst [])) (h2 : H b = some (.lst [])) (k : Q (.bl true) H) : rEqD K (.ref a) (.ref b) H Q := q_eqNil (l := []) h1 h2 k
theorem q_eq1 {K : PySem.W.Frag} {H : Hp} {a b : Addr} {Q : VK} {i : Int} (h1 : H a = some (.lst [V.int i])) (h2 : H b = some (.lst [])) (k : Q (.bl false) H) : rEqD K (.ref a) (.ref b) H Q := q_eqNil (l := [i]) h1 h2 k
theorem q_ne0 {K : PySem.W.Frag} {H : Hp} {a b : Addr} {Q : VK} (h1 : H a = some (.lst [])) (h2 : H b = some (.lst [])) (k : Q (.bl false) H) : rNeD K (.ref a) (.ref b) H Q := q_neNil (l := []) h1 h2 k
theorem q_ne1 {K : PySem.W.Frag} {H : Hp} {a b : Addr} {Q : VK} {i : Int} (h1 : H a = some (.lst [V.int i])) (h2 : H b = some (.lst [])) (k : Q (.bl true) H) : rNeD K (.ref a) (.ref b) H Q := q_neNil (l := [i]) h1 h2 k
theorem WX.mut {C : Cs} {Hb H H1 : Hp} {p box D : Addr} {o : HO} {A A1 : AD} {rg rg1 : Int → List LR} {rw rw1 : Int → List Int} {u u1 : Int → Int × Bool} {Φ : Sys → Prop} (W : WX C Hb H p box D o A rg rw u Φ) (L1 : LH H1 A1 rg1 rw1 u1) (k : ∀ b o, ¬ inA A b → H b = some o → H1 b = some o) (hin : ∀ b, inA A1 b → inA A b ∨ H b = none) : WX C Hb H1 p box D o A1 rg1 rw1 u1 Φ := by
  have hD := W.at_
  have W1 := W.wl.mut L1 k hin
  have np : ¬ inA A p := fun z => by
    obtain ⟨o, ho⟩ := W.L.inKS z
    exact (W.W.kne (_, o) (List.mem_cons_of_mem _ ho)).1 rfl
  refine ⟨W.W.mut (fun b => inA A b ∨ b = D) (fun l h => ?_) (fun b o n _ e => k b o (fun z => n (.inl z)) e) ?_ (fun q hq => ?_), L1, fun z => ?_⟩
  · rcases h with h | h
    · obtain ⟨o', ho⟩ := W.L.inKS h
      exact ⟨o', List.mem_cons_of_mem _ ho⟩
    · exact ⟨o, by rw [h]; exact List.mem_cons_self⟩
  · obtain ⟨x, y, e, z⟩ := W.W.bag
    exact ⟨x, y, k _ _ np e, z⟩
  · rcases List.mem_cons.mp hq with rfl | hq
    · exact ⟨k _ _ W.nd hD, .inl (.inr rfl)⟩
    · obtain ⟨a, b⟩ := L1.ks q hq
      refine ⟨a, ?_⟩
      rcases hin _ b with y | y
      · exact .inl (.inl y)
      · exact .inr y
  · rcases hin _ z with y | y
    · exact W.nd y
    · rw [hD] at y
      cases y
theorem cut_last {l : List V} {x : V} : cutV (l ++ [x]) (some (-1)) none = [x] := by
  unfold cutV
  rw [HT.sIx_none]
  have e : HT.sIx (l ++ [x]).length 0 (some (-1)) = l.length := by
    rw [List.length_append]
    unfold HT.sIx
    simp
    omega
  rw [e, List.drop_left]
  rw [List.length_append]
  exact List.take_of_length_le (by show 1 ≤ l.length + 1 - l.length; omega)
section
variable {P : Program} {w : World} {K : PySem.W.Frag} {mg : Str → Option Value} {base : Heap} {C : Cs}
inductive PspWithin (C : Cs) (vs : List V) (H : Hp) (Q : VK) : Prop
  | mk (Hb : Hp) (p box : Addr) (A : AD) (rg : Int → List LR) (rw : Int → List Int) (u : Int → Int × Bool) (s : Int) (h_0 : vs = [.ref p, .ref box, .int s, .ref (A.g s), .ref (A.w s), .ref A.ul]) (h_1 : sd s) (h_2 : C.W ≠ C.R) (h_3 : WL C Hb H p box A rg rw u (fun S => Pic S rg rw u)) (h_4 : ∀ H' A' rg' rw', A'.rg = A.rg → A'.rw = A.rw → A'.ul = A.ul → WL C Hb H' p box A' rg' rw' u (fun S => Pic S rg' rw' u) → Q .non H') : PspWithin C vs H Q
noncomputable def spWithin (C : Cs) : Sp := fun vs H Q _ => PspWithin C vs H Q
noncomputable abbrev nWithin : List Str := ["_law_bag_here", "_law_box", "_law_side", "_law_regs", "_law_row", "_law_units", "_law_n", "_law_label", "_law_term", "_law_at", "_law_way", "_law_most", "_law_gone", "_law_k", "_law_reg"]
theorem scWithin : FnScope nWithin ["_law_bag_here", "_law_box", "_law_side", "_law_regs", "_law_row", "_law_units"] (defScope sWithin) := ⟨rfl, rfl, rfl, by decide +kernel, rfl, by decide +kernel, by decide +kernel⟩
theorem okWithin {f fT fO fP fK fC fD fM fW : Addr} {fd fdT fdO fdP fdK fdC fdD fdM fdW : FuncData} {gC gA : List Value → List Value → List Value} (F : Fun K "_law_within" "_law_within" sWithin f fd) (X : LawTx mg) (T : ClsF K C.S sysF)
    (GT : DO P w K mg base 1 "_law_take" ["_law_bag_here", "_law_many"] spTake fT fdT) (GO : DO P w K mg base 2 "_law_of" ["_law_bag_here", "_law_some"] (spOf K) fO fdO)
    (GP : DO P w K mg base 1 "_law_pend" ["_law_regs", "_law_row", "_law_source", "_law_units"] spPend fP fdP) (GK : DO P w K mg base 1 "_law_taken" ["_law_regs", "_law_row", "_law_units", "_law_most"] spTaken fK fdK)
    (GC : MW P w K mg base 6 C.S "change" ["self", "process", "set_number", "number", "word"] (spChange C) fC fdC 4 ["word"] gC (fun vs zs => vs ++ zs)) (GA : MW P w K mg base 6 C.S "add" ["self", "process", "set_number", "number", "label", "word"] (spAdd C) fD fdD 5 ["word"] gA (fun vs zs => vs ++ zs))
    (GM : MO P w K mg base 6 C.S "remove" ["self", "process", "set_number", "number"] (spRemove C) fM fdM) (GW : MO P w K mg base 6 C.S "wait" ["self", "process", "set_number", "most"] (spWait C) fW fdW) :
    FnOk P w K mg base CX0 7 f fd ["_law_bag_here", "_law_box", "_law_side", "_law_regs", "_law_row", "_law_units"] (spWithin C) := by
  refine F.ok scWithin (fun vs H Q E h => ?_) (fun cdv A outer s H vs Q E hr h => ?_)
  · obtain ⟨_, _, _, _, _, _, _, _, rfl, _⟩ := h
    rfl
  · obtain ⟨Hb, p, box, B, rg, rw', u, s, rfl, hs, nWR, W0, q⟩ := h
    have hu := hr.units
    have hu1 := hu_of hr
    have r1 : Room 1 _ := hr.mono (by decide)
    have r2 : Room 2 _ := hr.mono (by decide)
    have r6 : Room 6 _ := hr
    refine ⟨_, pss_cut (ps_asg (pe_tup (pa_cons (pe_call GT.g r1 (by rfl) GT.m GT.k GT.b .nil pass0 (pa_cons (pv 0) (pa_cons pe_int pa_nil))) (pa_cons (pe_call GT.g r1 (by rfl) GT.m GT.k GT.b .nil pass0 (pa_cons (pv 0) (pa_cons pe_int pa_nil))) (pa_cons (pe_call GO.g r2 (by rfl) GO.m GO.k GO.b .nil pass0 (pa_cons (pv 0) (pa_cons (pe_lst (pa_cons pe_str (pa_cons pe_str (pa_cons pe_str pa_nil)))) pa_nil))) pa_nil)))) (pg_tup rfl (pgs_cons (pg_name (i := 6) scWithin.nd rfl (Or.inr rfl)) (pgs_cons (pg_name (i := 7) scWithin.nd rfl (Or.inl rfl)) (pgs_cons (pg_name (i := 8) scWithin.nd rfl (Or.inl rfl)) pgs_nil)))))
      (pss_cut (ps_setLc (i := 9) (own := [("_law_k", 13)]) (g := gName 13) (tt := tTest (tOp rEq (tOp (rIxT K) (tOp (rIxL K) (tVar 3) (tVar 13)) (tC (.int 1))) (tVar 6))) (te := tVar 13) rfl scWithin.nd rfl rfl (sw_true rfl rfl rfl (by decide +kernel)) (pi_range1 (by rfl) X.range (pa_cons (pe_callB cLenQ (by rfl) X.len PySem.boot_len (pa_cons (pv 3) pa_nil)) pa_nil)) (blkOk_by (N := nWithin) (sc := defScope sWithin) (by decide +kernel)) (fun _ _ _ _ _ => pg_name (i := 13) scWithin.nd rfl (Or.inl rfl)) (fun _ _ _ _ _ => pts_one (pt_cmpR op_eq (pe_ix ix_tup (pe_ix ix_list (pv 3) (pv 13) (fun _ _ => rfl)) pe_int (fun _ _ => rfl)) (pv 6) (nomark _))) (fun _ _ _ _ _ => pv 13))
      (pss_cut (ps_set (i := 10) scWithin.nd rfl (Or.inl rfl) (pe_call GT.g r1 (by rfl) GT.m GT.k GT.b .nil pass0 (pa_cons (pv 0) (pa_cons pe_int pa_nil))))
      (pss_one (ps_if (pt_cmpR op_eq (pv 10) pe_int (nomark _))
        (pss_cut (ps_set (i := 11) scWithin.nd rfl (Or.inl rfl) (pe_op op_add pe_int (pe_call GT.g r1 (by rfl) GT.m GT.k GT.b .nil pass0 (pa_cons (pv 0) (pa_cons pe_int pa_nil)))))
        (pss_cut (ps_expr (pe_meth (pv 1) T.cl GW.m GW.g r6 GW.b .nil pass0 (pa_cons pe_int (pa_cons (pe_op op_add pe_int (pv 2)) (pa_cons (pv 11) pa_nil)))))
        (pss_one (ps_expr (pe_call GK.g r1 (by rfl) GK.m GK.k GK.b .nil pass0 (pa_cons (pv 3) (pa_cons (pv 4) (pa_cons (pv 5) (pa_cons (pv 11) pa_nil)))))))))
      (pss_one (ps_if (PW.pt (pw_and (pt_cmpR (op_eqD hu) (pv 9) (pe_lst pa_nil) (nomark _)) (pw_and1 (pt_cmpR op_notIn_seq (pv 7) (pe_lc (own := [("_law_reg", 14)]) (g := gName 14) (tt := tYes) (te := tOp (rIxT K) (tVar 14) (tC (.int 0))) rfl scWithin.nd (pi_list (pv 3)) (blkOk_by (N := nWithin) (sc := defScope sWithin) (by decide +kernel)) (fun _ _ _ _ _ => pg_name (i := 14) scWithin.nd rfl (Or.inl rfl)) (fun _ _ _ _ _ => pts_nil) (fun _ _ _ _ _ => pe_ix ix_tup (pv 14) pe_int (fun _ _ => rfl))) (by rfl)))))
        (pss_cut (ps_expr (pe_methK (pv 1) T.cl GA.m GA.g r6 GA.b pass0 (pa_cons pe_int (pa_cons (pe_op op_add pe_int (pv 2)) (pa_cons (pv 6) (pa_cons (pv 7) pa_nil)))) (pk_cons (pv 8) pk_nil)))
        (pss_cut (ps_expr (pe_bm PySem.F.plainAttrs_list PySem.F.slot_list_append PySem.F.type_list_append mt_append (pv 3) (pa_cons (pe_tup (pa_cons (pv 7) (pa_cons (pv 6) (pa_cons (pv 8) (pa_cons pe_bl pa_nil))))) pa_nil)))
        (pss_one (ps_expr (pe_call GP.g r1 (by rfl) GP.m GP.k GP.b .nil pass0 (pa_cons (pe_slice sl_list (pv 3) (po_some (pe_un un_neg pe_int)) po_none) (pa_cons (pv 4) (pa_cons (pe_op op_fdiv (pv 6) pe_int) (pa_cons (pv 5) pa_nil)))))))))
      (pss_one (ps_if (PW.pt (pw_and (pt_cmpR (op_neD hu) (pv 9) (pe_lst pa_nil) (nomark _)) (pw_and1 (pt_cmpR op_eq (pv 10) pe_int (nomark _)))))
        (pss_cut (ps_expr (pe_meth (pv 1) T.cl GM.m GM.g r6 GM.b .nil pass0 (pa_cons pe_int (pa_cons (pe_op op_add pe_int (pv 2)) (pa_cons (pv 6) pa_nil)))))
        (pss_cut (ps_set (i := 12) scWithin.nd rfl (Or.inl rfl) (pe_bm PySem.F.plainAttrs_list PySem.F.slot_list_pop PySem.F.type_list_pop mt_popAt (pv 3) (pa_cons (pe_ix ix_list (pv 9) pe_int (fun _ _ => rfl)) pa_nil)))
        (pss_one (ps_if (pt_cmpR op_in_seq (pe_ix ix_tup (pv 12) pe_int (fun _ _ => rfl)) (pv 4) (by rfl)) (pss_one (ps_expr (pe_remX rfl takes0 (pv 4) (pe_ix ix_tup (pv 12) pe_int (fun _ _ => rfl))))) pss_nil))))
      (pss_one (ps_if (pt_cmpR (op_neD hu) (pv 9) (pe_lst pa_nil) (nomark _))
        (pss_cut (ps_expr (pe_methK (pv 1) T.cl GC.m GC.g r6 GC.b pass0 (pa_cons pe_int (pa_cons (pe_op op_add pe_int (pv 2)) (pa_cons (pv 6) pa_nil))) (pk_cons (pv 8) pk_nil)))
        (pss_cut (ps_asg (pe_op op_catT (pe_slice sl_tup (pe_ix ix_list (pv 3) (pe_ix ix_list (pv 9) pe_int (fun _ _ => rfl)) (fun _ _ => rfl)) po_none (po_some pe_int)) (pe_tup (pa_cons (pv 8) (pa_cons pe_bl pa_nil)))) (pg_sub (pv 3) (pe_ix ix_list (pv 9) pe_int (fun _ _ => rfl)) set_list))
        (pss_one (ps_expr (pe_call GP.g r1 (by rfl) GP.m GP.k GP.b .nil pass0 (pa_cons (pe_lst (pa_cons (pe_ix ix_list (pv 3) (pe_ix ix_list (pv 9) pe_int (fun _ _ => rfl)) (fun _ _ => rfl)) pa_nil)) (pa_cons (pv 4) (pa_cons (pe_op op_fdiv (pv 6) pe_int) (pa_cons (pv 5) pa_nil))))))))) pss_nil)))))))))), ?_⟩
    refine ⟨fun σ' H1 => ∃ (n lb : Int) (wd : Str), 0 ≤ n ∧ n < 6 ∧ 0 ≤ lb ∧ lb < 30 ∧ wd ∈ wordsL ∧ σ' = [some (.ref p), some (.ref box), some (.int s), some (.ref (B.g s)), some (.ref (B.w s)), some (.ref B.ul), some (.int n), some (.int lb), some (.str wd), none, none, none, none, none, none] ∧ WL C Hb H1 p box B rg rw' u (fun S => Pic S rg rw' u), ?_, ?_⟩
    · walk_at "wn"
      refine ⟨p, 6, rfl, W0.W.bag, by decide, by decide, fun n H1 n0 n1 e1 b1 => ?_⟩
      have W1 := W0.draw e1 b1
      walk_at "wn"
      refine ⟨p, 30, rfl, W1.W.bag, by decide, by decide, fun lb H2 l0 l1 e2 b2 => ?_⟩
      have W2 := W1.draw e2 b2
      walk_at "wn"
      refine ⟨by show 3 ≤ sizeLine; decide, fun la h1 => ?_⟩
      have W3 := W2.same' (Same.new' (o := .lst [V.str "level", V.str "edge", V.str "once"]) h1)
      walk_at "wn"
      refine ⟨p, la, [V.str "level", V.str "edge", V.str "once"], rfl, W3.W.bag, SqL.of upd_same, BagAt.ne' W2.W.bag h1, by show 0 < 3; decide, by show 3 ≤ 1000; decide, fun jj v H4 hv e4 b4 => ?_⟩
      obtain ⟨wd, rfl, hw⟩ : ∃ wd, v = V.str wd ∧ wd ∈ wordsL := by
        have hm := List.mem_of_getElem? hv
        simp only [List.mem_cons, List.not_mem_nil, or_false] at hm
        rcases hm with rfl | rfl | rfl
        · exact ⟨_, rfl, by decide⟩
        · exact ⟨_, rfl, by decide⟩
        · exact ⟨_, rfl, by decide⟩
      have W4 := W3.draw e4 b4
      walk_at "wn"
      refine ⟨by show 3 ≤ sizeLine; decide, fun T1 hT1 => ?_⟩
      have W5 := W4.same' (Same.new' (o := .tup [V.int n, V.int lb, V.str wd]) hT1)
      refine ⟨T1, _, rfl, SqT.of upd_same, rfl, _, _, rfl, ?_⟩
      walk_at "wn"
      refine ⟨_, _, rfl, ?_⟩
      walk_at "wn"
      refine ⟨_, _, rfl, ?_⟩
      walk_at "wn"
      refine ⟨rfl, ?_⟩
      exact ⟨n, lb, wd, n0, n1, l0, l1, hw, rfl, W5⟩
    rintro σ' H1 ⟨n, lb, wd, n0, n1, l0, l1, hw, rfl, W1⟩
    have G0 : Good (rg s) (rw' s) := W1.W.pure fun S F => F.good s hs
    have lz := G0.len
    have lrow := G0.rlen
    have lts : (B.ts s).length = (rg s).length := (W1.L.ht s hs).length
    obtain ⟨ix, hix, hiy⟩ := idx_of G0.kn n
    refine ⟨fun σ' H2 => ∃ D : Addr, σ' = [some (.ref p), some (.ref box), some (.int s), some (.ref (B.g s)), some (.ref (B.w s)), some (.ref B.ul), some (.int n), some (.int lb), some (.str wd), some (.ref D), none, none, none, none, none] ∧ WX C Hb H2 p box D (.lst (accI ix (rg s).length)) B rg rw' u (fun S => Pic S rg rw' u), ?_, ?_⟩
    · walk_at "wn"
      show tLc _ _ _ _ _ _ _ _
      have hg1 := W1.L.hg s hs
      refine ⟨_, rfl, B.g s, _, rfl, .inl (SqL.of hg1), _, rfl, by rw [List.length_map]; omega, by rw [List.length_map]; omega, fun D hD => lc_range (lo := 0) (fun m H' => Same H1 H' ∧ H' D = some (.lst (accI ix m))) ⟨Same.new' hD, by rw [upd_same, acc0]⟩ ?_ ?_⟩
      · rintro m H' hm ⟨sm, hD'⟩
        rw [Int.zero_add]
        have hm : m < (B.ts s).length := by
          have := hm
          rw [List.length_map] at this
          exact this
        obtain ⟨tm, etm⟩ : ∃ t, (B.ts s)[m]? = some t := ⟨(B.ts s)[m], List.getElem?_eq_getElem hm⟩
        obtain ⟨rm, erm, htm⟩ := pair_get (W1.L.ht s hs) etm
        refine ⟨rfl, ?_⟩
        show tTest _ _ _ _
        walk_at "wn"
        refine ⟨B.g s, _, (m : Int), _, rfl, rfl, SqL.of (sm _ _ hg1), atI_nat (j := m) (by rw [List.getElem?_map, etm]; rfl), ?_⟩
        walk_at "wn"
        refine ⟨tm, _, 1, _, rfl, rfl, SqT.of (sm _ _ htm), atI_nat (j := 1) rfl, ?_⟩
        walk_at "wn"
        by_cases e : rm.kind = n
        · have e2 := (hix m rm erm).mp e
          rw [show decide (V.int rm.kind = V.int n) = true from decide_eq_true (by rw [e])]
          walk_at "wn"
          refine ⟨_, hD', by rw [acc_lt e2, sizeLine_eq]; show 0 < _; decide, fun x o z => ?_, ?_⟩
          · rw [upd_ne (ne_of_none z hD)]
            exact sm _ _ z
          · rw [upd_same, acc_hit e2]
        · rw [show decide (V.int rm.kind = V.int n) = false from decide_eq_false fun z => e (V.int.inj z)]
          walk_at "wn"
          refine ⟨sm, ?_⟩
          rw [hD', acc_miss fun z => e ((hix m rm erm).mpr z)]
      · rintro H' ⟨sm, hD'⟩
        have e : (((B.ts s).map V.ref).length : Int).toNat = (rg s).length := by rw [List.length_map, Int.toNat_natCast, lts]
        rw [e] at hD'
        walk_at "wn"
        exact ⟨D, rfl, W1.wx hD (Dr.same W1.W.bag sm) hD'⟩
    rintro σ' H2 ⟨D, rfl, W2⟩
    refine ⟨fun σ' H3 => ∃ way : Int, σ' = [some (.ref p), some (.ref box), some (.int s), some (.ref (B.g s)), some (.ref (B.w s)), some (.ref B.ul), some (.int n), some (.int lb), some (.str wd), some (.ref D), some (.int way), none, none, none, none] ∧ WX C Hb H3 p box D (.lst (accI ix (rg s).length)) B rg rw' u (fun S => Pic S rg rw' u), ?_, ?_⟩
    · walk_at "wn"
      refine ⟨p, 4, rfl, W2.W.bag, by decide, by decide, fun way H3 _ _ e3 b3 => ?_⟩
      exact ⟨way, rfl, W2.draw e3 b3⟩
    rintro σ' H3 ⟨way, rfl, W3⟩
    walk_at "wn"
    by_cases hw0 : way = 0
    · rw [show decide (V.int way = V.int 0) = true from decide_eq_true (by rw [hw0])]
      have W3 := W3.wl
      walk_at "wn"
      refine ⟨fun σ' H4 => ∃ most : Int, 1 ≤ most ∧ most ≤ 3 ∧ σ' = [some (.ref p), some (.ref box), some (.int s), some (.ref (B.g s)), some (.ref (B.w s)), some (.ref B.ul), some (.int n), some (.int lb), some (.str wd), some (.ref D), some (.int way), some (.int most), none, none, none] ∧ WL C Hb H4 p box B rg rw' u (fun S => Pic S rg rw' u), ?_, ?_⟩
      · walk_at "wn"
        refine ⟨p, 3, rfl, W3.W.bag, by decide, by decide, fun y H4 y0 y1 e4 b4 => ?_⟩
        walk_at "wn"
        exact ⟨1 + y, by omega, by omega, rfl, W3.draw e4 b4⟩
      rintro σ' H4 ⟨most, m1, m3, rfl, W4⟩
      refine ⟨fun σ' H5 => σ' = [some (.ref p), some (.ref box), some (.int s), some (.ref (B.g s)), some (.ref (B.w s)), some (.ref B.ul), some (.int n), some (.int lb), some (.str wd), some (.ref D), some (.int way), some (.int most), none, none, none] ∧ WL C Hb H5 p box B rg rw' u (fun S => Pic S (upF rg s (tkAll u most (rw' s) (rg s)).rs) (upF rw' s (tkAll u most (rw' s) (rg s)).row) u), ?_, ?_⟩
      · obtain ⟨bx, bS, td, sd', ud, hb⟩ := W4.W.boxAt
        walk_at "wn"
        refine ⟨_, rfl, box, bx, _, rfl, hb, rfl, ?_⟩
        walk_at "wn"
        refine W4.wait nWR hs m1 (by omega) fun H5 a W5 => ?_
        walk_at "wn"
        exact ⟨rfl, W5⟩
      rintro σ' H5 ⟨rfl, W5⟩
      walk_at "wn"
      have L5 := W5.L
      refine ⟨B.g s, B.w s, B.ul, most, B.ts s, rg s, rw' s, B.us, u, rfl, L5.hg s hs, L5.ht s hs, L5.hw s hs, L5.U, L5.d.gw s s hs hs, Ne.symm (L5.d.w1 s hs).2.2, Ne.symm (L5.d.g1 s hs).2.2, G0, fun H6 ts' ha hp hb kp fr => ?_⟩
      walk_at "wn"
      have L6 := L5.set2 hs kp ha hp hb
      exact q _ (setTs B s ts') _ _ rfl rfl rfl (W5.mut L6 (fun b o n e => kp b o (fun z => n (z ▸ in_g hs)) (fun z => n (z ▸ in_w hs)) e) fun b hb => in_setTs fr hs hb)
    rw [show decide (V.int way = V.int 0) = false from decide_eq_false fun z => hw0 (V.int.inj z)]
    walk_at "wn"
    refine ⟨Nat.zero_le _, fun e0 he0 => ?_⟩
    have W4 := W3.same' (Same.new' (o := .lst []) he0)
    have hg4 := W4.L.hg s hs
    rcases hiy with ⟨i, r, rfl, er, hkn⟩ | ⟨rfl, hnn⟩
    · have eD : accI (some i) (rg s).length = [V.int (i : Int)] := if_pos (List.getElem?_eq_some_iff.mp er).1
      refine q_eq1 (W4.at_.trans (by rw [eD])) upd_same ?_
      walk_at "wn"
      refine ⟨Nat.zero_le _, fun e1 he1 => ?_⟩
      have W5 := W4.same' (Same.new' (o := .lst []) he1)
      refine q_ne1 (W5.at_.trans (by rw [eD])) upd_same ?_
      walk_at "wn"
      subst hkn
      by_cases hw1 : way = 1
      · rw [show decide (V.int way = V.int 1) = true from decide_eq_true (by rw [hw1])]
        walk_at "wn"
        refine ⟨fun σ' H6 => σ' = [some (.ref p), some (.ref box), some (.int s), some (.ref (B.g s)), some (.ref (B.w s)), some (.ref B.ul), some (.int r.kind), some (.int lb), some (.str wd), some (.ref D), some (.int way), none, none, none, none] ∧ WX C Hb H6 p box D (.lst (accI (some i) (rg s).length)) B rg rw' u (fun S => Pic S (upF rg s ((rg s).eraseIdx i)) (upF rw' s (without r.lab (rw' s))) u), ?_, ?_⟩
        · obtain ⟨bx, bS, td, sd', ud, hb⟩ := W5.W.boxAt
          walk_at "wn"
          refine ⟨_, rfl, box, bx, _, rfl, hb, rfl, ?_⟩
          walk_at "wn"
          refine W5.remove hs er fun H6 W6 => ?_
          walk_at "wn"
          exact ⟨rfl, W6⟩
        rintro σ' H6 ⟨rfl, W6⟩
        have hil := (List.getElem?_eq_some_iff.mp er).1
        obtain ⟨t, et⟩ : ∃ t, (B.ts s)[i]? = some t := ⟨(B.ts s)[i]'(by omega), List.getElem?_eq_getElem (by omega)⟩
        obtain ⟨r', er', ht⟩ := pair_get (W6.L.ht s hs) et
        rw [er] at er'
        cases er'
        have hg6 := W6.L.hg s hs
        have hD6 : H6 D = some (.lst [V.int (i : Int)]) := W6.at_.trans (by rw [eD])
        refine ⟨fun σ' H7 => σ' = [some (.ref p), some (.ref box), some (.int s), some (.ref (B.g s)), some (.ref (B.w s)), some (.ref B.ul), some (.int r.kind), some (.int lb), some (.str wd), some (.ref D), some (.int way), none, some (.ref t), none, none] ∧ H7 t = some (tup4 r) ∧ WL C Hb H7 p box (setTs B s ((B.ts s).eraseIdx i)) (upF rg s ((rg s).eraseIdx i)) rw' u (fun S => Pic S (upF rg s ((rg s).eraseIdx i)) (upF rw' s (without r.lab (rw' s))) u), ?_, ?_⟩
        · walk_at "wn"
          refine ⟨B.g s, _, (i : Int), i, V.ref t, rfl, rfl, hg6, by omega, by omega, by
            have := seqIndex_of (k := (i : Int)) (n := ((B.ts s).map V.ref).length) (by omega) (by rw [List.length_map, lts]; omega)
            rw [Int.toNat_natCast] at this
            exact this, by rw [List.getElem?_map, et]; rfl, ?_⟩
          have e5 : ((B.ts s).map V.ref).eraseIdx i = ((B.ts s).eraseIdx i).map V.ref := map_erase _ _ _
          rw [e5]
          have kk : ∀ b o, b ≠ B.g s → H6 b = some o → upd H6 (B.g s) (.lst (((B.ts s).eraseIdx i).map V.ref)) b = some o := fun b o n e => by rw [upd_ne n]; exact e
          have L7 := W6.L.setReg (ts' := (B.ts s).eraseIdx i) (rs' := (rg s).eraseIdx i) hs kk upd_same (pair_erase (pair_keep (W6.L.ht s hs) fun b xs e => kk b _ (ne_of e hg6 (by intro q; cases q)) e) i)
          walk_at "wn"
          exact ⟨rfl, kk _ _ (ne_of ht hg6 (by intro q; cases q)) ht, W6.wl.mut L7 (fun b o n e => kk b o (fun z => n (z ▸ in_g hs)) e) fun b hb => in_setTs (fun t ht => .inl ((List.eraseIdx_sublist _ _).subset ht)) hs hb⟩
        rintro σ' H7 ⟨rfl, ht7, W7⟩
        have hw7 := W7.L.hw s hs
        walk_at "wn"
        refine ⟨t, _, 0, _, rfl, rfl, SqT.of ht7, atI_nat (j := 0) rfl, ?_⟩
        walk_at "wn"
        refine ⟨B.w s, _, rfl, .inl (SqL.of hw7), rfl, flat_ints _, ?_⟩
        refine ⟨_, rfl, ?_⟩
        show if inV (.int r.lab) _ = true then _ else _
        rw [inV_int]
        by_cases hin : r.lab ∈ rw' s
        · rw [decide_eq_true hin]
          walk_at "wn"
          refine ⟨_, rfl, .inl ⟨rfl, _, SqL.of hw7⟩, ?_⟩
          walk_at "wn"
          refine ⟨t, _, 0, _, rfl, rfl, SqT.of ht7, atI_nat (j := 0) rfl, ?_⟩
          refine ⟨B.w s, rw' s, r.lab, rfl, rfl, hw7, fun _ => ?_, fun z => absurd hin z⟩
          rw [erase_without G0.rn]
          have L8 := W7.L.setRow (row := without r.lab (rw' s)) (H1 := upd H7 (B.w s) (.lst ((without r.lab (rw' s)).map V.int))) hs (fun b o n e => by rw [upd_ne (show b ≠ B.w s from n)]; exact e) upd_same
          exact q _ (setTs B s ((B.ts s).eraseIdx i)) _ _ rfl rfl rfl (W7.mut L8 (fun b o n e => by rw [upd_ne fun z => n (by rw [z]; exact in_w (A := setTs B s ((B.ts s).eraseIdx i)) hs)]; exact e) fun b hb => .inl hb)
        · rw [decide_eq_false hin]
          walk_at "wn"
          have e : without r.lab (rw' s) = rw' s := List.filter_eq_self.mpr fun x hx => decide_eq_true fun z => hin (z ▸ hx)
          rw [e, upF_self] at W7
          exact q _ (setTs B s ((B.ts s).eraseIdx i)) _ _ rfl rfl rfl W7
      · rw [show decide (V.int way = V.int 1) = false from decide_eq_false fun z => hw1 (V.int.inj z)]
        walk_at "wn"
        refine ⟨Nat.zero_le _, fun e2 he2 => ?_⟩
        have W6 := W5.same' (Same.new' (o := .lst []) he2)
        refine q_ne1 (W6.at_.trans (by rw [eD])) upd_same ?_
        walk_at "wn"
        refine ⟨fun σ' H7 => σ' = [some (.ref p), some (.ref box), some (.int s), some (.ref (B.g s)), some (.ref (B.w s)), some (.ref B.ul), some (.int r.kind), some (.int lb), some (.str wd), some (.ref D), some (.int way), none, none, none, none] ∧ WX C Hb H7 p box D (.lst (accI (some i) (rg s).length)) B rg rw' u (fun S => Pic S (upF rg s ((rg s).set i ⟨r.lab, r.kind, wd, true⟩)) (upF rw' s (pendR (r.kind / 2) (rdyU (u (r.kind / 2))) [⟨r.lab, r.kind, wd, true⟩] (rw' s))) u), ?_, ?_⟩
        · obtain ⟨bx, bS, td, sd', ud, hb⟩ := W6.W.boxAt
          walk_at "wn"
          refine ⟨_, rfl, box, bx, _, rfl, hb, rfl, ?_⟩
          walk_at "wn"
          refine ⟨rfl, rfl, ?_⟩
          refine W6.change hs er hw fun H7 W7 => ?_
          walk_at "wn"
          exact ⟨rfl, W7⟩
        rintro σ' H7 ⟨rfl, W7⟩
        have hil := (List.getElem?_eq_some_iff.mp er).1
        obtain ⟨t, et⟩ : ∃ t, (B.ts s)[i]? = some t := ⟨(B.ts s)[i]'(by omega), List.getElem?_eq_getElem (by omega)⟩
        obtain ⟨r', er', ht⟩ := pair_get (W7.L.ht s hs) et
        rw [er] at er'
        cases er'
        have hg7 := W7.L.hg s hs
        have hD7 : H7 D = some (.lst [V.int (i : Int)]) := W7.at_.trans (by rw [eD])
        refine ⟨fun σ' H8 => ∃ t' : Addr, σ' = [some (.ref p), some (.ref box), some (.int s), some (.ref (B.g s)), some (.ref (B.w s)), some (.ref B.ul), some (.int r.kind), some (.int lb), some (.str wd), some (.ref D), some (.int way), none, none, none, none] ∧ H8 t' = some (tup4 ⟨r.lab, r.kind, wd, true⟩) ∧ WX C Hb H8 p box D (.lst (accI (some i) (rg s).length)) (setTs B s ((B.ts s).set i t')) (upF rg s ((rg s).set i ⟨r.lab, r.kind, wd, true⟩)) rw' u (fun S => Pic S (upF rg s ((rg s).set i ⟨r.lab, r.kind, wd, true⟩)) (upF rw' s (pendR (r.kind / 2) (rdyU (u (r.kind / 2))) [⟨r.lab, r.kind, wd, true⟩] (rw' s))) u), ?_, ?_⟩
        · walk_at "wn"
          refine ⟨B.g s, _, (i : Int), _, rfl, rfl, SqL.of hg7, atI_nat (j := i) (by rw [List.getElem?_map, et]; rfl), ?_⟩
          walk_at "wn"
          refine ⟨t, _, rfl, SqT.of ht, by show ¬ (HT.sIx 4 0 none = 0 ∧ HT.sIx 4 4 (some 2) = 4); decide, fun p1 h1' => ?_⟩
          have s7 := Same.new' (o := .tup (cutV [V.int r.lab, V.int r.kind, V.str r.term, V.bl r.armed] none (some 2))) h1'
          walk_at "wn"
          refine ⟨by show 2 ≤ sizeLine; decide, fun p2 h2' => ?_⟩
          have s8 := Same.new' (o := .tup [V.str wd, V.bl true]) h2'
          refine ⟨p1, p2, [V.int r.lab, V.int r.kind], [V.str wd, V.bl true], rfl, rfl, SqT.of (s8 _ _ upd_same), SqT.of upd_same, (by intro z; cases z), by show 4 ≤ sizeLine; decide, (fun z => by cases z), fun _ p3 h3' => ?_⟩
          have s9 := Same.new' (o := .tup ([V.int r.lab, V.int r.kind] ++ [V.str wd, V.bl true])) h3'
          have sm := s7.trans (s8.trans s9)
          have f6 : H7 p3 = none := (s7.trans s8).free h3'
          have h9 : upd (upd (upd H7 p1 (.tup (cutV [V.int r.lab, V.int r.kind, V.str r.term, V.bl r.armed] none (some 2)))) p2 (.tup [V.str wd, V.bl true])) p3 (.tup ([V.int r.lab, V.int r.kind] ++ [V.str wd, V.bl true])) p3 = some (tup4 ⟨r.lab, r.kind, wd, true⟩) := upd_same
          generalize upd (upd (upd H7 p1 (.tup (cutV [V.int r.lab, V.int r.kind, V.str r.term, V.bl r.armed] none (some 2)))) p2 (.tup [V.str wd, V.bl true])) p3 (.tup ([V.int r.lab, V.int r.kind] ++ [V.str wd, V.bl true])) = H9 at sm h9
          have hg9 := sm _ _ hg7
          have hD9 := sm _ _ hD7
          walk_at "wn"
          refine ⟨B.g s, _, (i : Int), i, rfl, rfl, hg9, by rw [List.length_map, lts]; exact ixN_nat hil, ?_⟩
          walk_at "wn"
          have e5 : ((B.ts s).map V.ref).set i (V.ref p3) = ((B.ts s).set i p3).map V.ref := by rw [List.map_set]
          rw [e5]
          have kk : ∀ x o, x ≠ B.g s → H9 x = some o → upd H9 (B.g s) (.lst (((B.ts s).set i p3).map V.ref)) x = some o := fun x o n e => by rw [upd_ne n]; exact e
          have h10 := kk _ _ (ne_of h9 hg9 (by intro z; cases z)) h9
          have L8 := W7.L.setReg (H1 := upd H9 (B.g s) (.lst (((B.ts s).set i p3).map V.ref))) (ts' := (B.ts s).set i p3) (rs' := (rg s).set i ⟨r.lab, r.kind, wd, true⟩) hs (fun b o n e => kk b o n (sm _ _ e)) upd_same (pair_set (pair_keep (W7.L.ht s hs) fun b xs e => kk b _ (ne_of e hg7 (by intro q; cases q)) (sm _ _ e)) h10 i)
          refine ⟨p3, rfl, h10, W7.mut L8 (fun b o n e => kk b o (fun z => n (z ▸ in_g hs)) (sm _ _ e)) fun b hb => in_setTs (fun x hx => ?_) hs hb⟩
          rcases List.mem_or_eq_of_mem_set hx with z | z
          · exact .inl z
          · exact .inr (by rw [z]; exact f6)
        rintro σ' H8 ⟨t', rfl, ht8, W8⟩
        have hg8 : H8 (B.g s) = some (.lst (((B.ts s).set i t').map V.ref)) := by
          have := W8.L.hg s hs
          rw [show (setTs B s ((B.ts s).set i t')).ts s = (B.ts s).set i t' from upF_same] at this
          exact this
        have hD8 : H8 D = some (.lst [V.int (i : Int)]) := W8.at_.trans (by rw [eD])
        obtain ⟨_, _, k0, k1, _⟩ := G0.ok r (List.mem_of_getElem? er)
        walk_at "wn"
        refine ⟨B.g s, _, (i : Int), V.ref t', rfl, rfl, SqL.of hg8, atI_nat (j := i) (by rw [List.getElem?_map, List.getElem?_set, if_pos rfl, if_pos (by omega)]; rfl), ?_⟩
        walk_at "wn"
        refine ⟨by show 1 ≤ sizeLine; decide, fun a2 ha2 => ?_⟩
        have s9 := Same.new' (o := .lst [V.ref t']) ha2
        have ha22 : upd H8 a2 (.lst [V.ref t']) a2 = some (.lst ([t'].map V.ref)) := upd_same
        have ht9 := s9 _ _ ht8
        have nwa : a2 ≠ B.w s := Ne.symm (ne_of_none (W8.L.hw s hs) ha2)
        have W9 := W8.wl.same' s9
        generalize upd H8 a2 (.lst [V.ref t']) = H9 at s9 ha22 ht9 W9 ⊢
        walk_at "wn"
        refine q_half k0 k1 ?_
        walk_at "wn"
        refine ⟨a2, B.w s, B.ul, r.kind / 2, [t'], [⟨r.lab, r.kind, wd, true⟩], rw' s, B.us, u, rfl, tk_of k0 k1, ha22, .cons ht9 .nil, W9.L.hw s hs, W9.L.U, nwa, Ne.symm (W9.L.d.w1 s hs).2.2, by omega, by show 1 ≤ 8; decide, fun x hx => by rw [List.mem_singleton.mp hx]; exact ⟨k0, k1⟩, fun Hz hbz kpz => ?_⟩
        walk_at "wn"
        have Lz := W9.L.setRow hs kpz hbz
        exact q _ (setTs B s ((B.ts s).set i t')) _ _ rfl rfl rfl (W9.mut Lz (fun b o n e => kpz b o (fun z => n (by rw [z]; exact in_w (A := setTs B s ((B.ts s).set i t')) hs)) e) fun b hb => .inl hb)
    · refine q_eq0 W4.at_ upd_same ?_
      walk_at "wn"
      show tLc _ _ _ _ _ _ _ _
      refine ⟨_, rfl, B.g s, rfl, ⟨_, SqL.of hg4⟩, fun Lb hLb => lc_list (K := K) (a := B.g s) (xs := (B.ts s).map V.ref) (fun j H' => Same (upd H3 e0 (.lst [])) H' ∧ H' Lb = some (.lst (((labs (rg s)).take j).map V.int))) ⟨Same.new' hLb, by rw [upd_same]; rfl⟩ (fun j H' _ h => SqL.of (h.1 _ _ hg4)) ?_ ?_⟩
      · rintro j v H' hv ⟨sm, hL'⟩
        rw [List.getElem?_map] at hv
        cases et : (B.ts s)[j]? with
        | none => rw [et] at hv; cases hv
        | some t =>
        rw [et] at hv
        cases hv
        obtain ⟨r, er, ht⟩ := pair_get (W4.L.ht s hs) et
        have hj := (List.getElem?_eq_some_iff.mp er).1
        refine ⟨rfl, ?_⟩
        walk_at "wn"
        refine ⟨t, _, 0, _, rfl, rfl, SqT.of (sm _ _ ht), atI_nat (j := 0) rfl, ?_⟩
        refine ⟨_, hL', by rw [List.length_map, List.length_take, sizeLine_eq]; omega, fun b o z => ?_, ?_⟩
        · rw [upd_ne (ne_of_none z hLb)]
          exact sm _ _ z
        · rw [upd_same, List.take_add_one, List.getElem?_map, er, List.map_append]
          rfl
      · rintro H' ⟨sm, hL'⟩
        rw [List.length_map, lts] at hL'
        have eL : (labs (rg s)).take (rg s).length = labs (rg s) := List.take_of_length_le (by rw [List.length_map]; exact Nat.le_refl _)
        rw [eL] at hL'
        have W5 := W4.same' sm
        refine ⟨Lb, _, rfl, .inl (SqL.of hL'), rfl, flat_ints _, ?_⟩
        refine ⟨_, rfl, ?_⟩
        show if (!inV (.int lb) _) = true then _ else _
        rw [inV_int]
        by_cases hin : lb ∈ labs (rg s)
        · rw [decide_eq_true hin]
          walk_at "wn"
          refine ⟨Nat.zero_le _, fun e1 he1 => ?_⟩
          have W6 := W5.same' (Same.new' (o := .lst []) he1)
          refine q_ne0 W6.at_ upd_same ?_
          walk_at "wn"
          refine ⟨Nat.zero_le _, fun e2 he2 => ?_⟩
          have W7 := W6.same' (Same.new' (o := .lst []) he2)
          refine q_ne0 W7.at_ upd_same ?_
          walk_at "wn"
          exact q _ B _ _ rfl rfl rfl W7.wl
        · rw [decide_eq_false hin]
          walk_at "wn"
          refine ⟨fun σ' H6 => σ' = [some (.ref p), some (.ref box), some (.int s), some (.ref (B.g s)), some (.ref (B.w s)), some (.ref B.ul), some (.int n), some (.int lb), some (.str wd), some (.ref D), some (.int way), none, none, none, none] ∧ WL C Hb H6 p box B rg rw' u (fun S => Pic S (upF rg s (rg s ++ [⟨lb, n, wd, true⟩])) (upF rw' s (pendR (n / 2) (rdyU (u (n / 2))) [⟨lb, n, wd, true⟩] (rw' s))) u), ?_, ?_⟩
          · obtain ⟨bx, bS, td, sd', ud, hb⟩ := W5.W.boxAt
            walk_at "wn"
            refine ⟨_, rfl, box, bx, _, rfl, hb, rfl, ?_⟩
            walk_at "wn"
            refine ⟨rfl, rfl, ?_⟩
            refine W5.wl.add (r := ⟨lb, n, wd, true⟩) hs rfl ⟨l0, l1, n0, n1, hw⟩ hin hnn fun H6 W6 => ?_
            walk_at "wn"
            exact ⟨rfl, W6⟩
          rintro σ' H6 ⟨rfl, W6⟩
          refine ⟨fun σ' H7 => ∃ t' : Addr, σ' = [some (.ref p), some (.ref box), some (.int s), some (.ref (B.g s)), some (.ref (B.w s)), some (.ref B.ul), some (.int n), some (.int lb), some (.str wd), some (.ref D), some (.int way), none, none, none, none] ∧ WL C Hb H7 p box (setTs B s (B.ts s ++ [t'])) (upF rg s (rg s ++ [⟨lb, n, wd, true⟩])) rw' u (fun S => Pic S (upF rg s (rg s ++ [⟨lb, n, wd, true⟩])) (upF rw' s (pendR (n / 2) (rdyU (u (n / 2))) [⟨lb, n, wd, true⟩] (rw' s))) u), ?_, ?_⟩
          · have hg6 := W6.L.hg s hs
            walk_at "wn"
            refine ⟨by show 4 ≤ sizeLine; decide, fun t' ht' => ?_⟩
            have sN := Same.new' (o := .tup [V.int lb, V.int n, V.str wd, V.bl true]) ht'
            have hgN := sN _ _ hg6
            walk_at "wn"
            refine ⟨B.g s, _, _, rfl, rfl, hgN, by rw [List.length_map, lts, sizeLine_eq]; omega, ?_⟩
            have e5 : (B.ts s).map V.ref ++ [V.ref t'] = (B.ts s ++ [t']).map V.ref := by rw [List.map_append]; rfl
            rw [e5]
            have kk : ∀ b o, b ≠ B.g s → H6 b = some o → upd (upd H6 t' (.tup [V.int lb, V.int n, V.str wd, V.bl true])) (B.g s) (.lst ((B.ts s ++ [t']).map V.ref)) b = some o := fun b o n e => by rw [upd_ne n]; exact sN _ _ e
            have L7 := W6.L.setReg (ts' := B.ts s ++ [t']) (rs' := rg s ++ [⟨lb, n, wd, true⟩]) hs kk upd_same (pair_snoc (pair_keep (W6.L.ht s hs) fun b xs e => kk b _ (ne_of e hg6 (by intro q; cases q)) e) ((upd_ne (ne_of upd_same hgN (by intro q; cases q))).trans upd_same))
            refine ⟨t', rfl, W6.mut L7 (fun b o n e => kk b o (fun z => n (z ▸ in_g hs)) e) fun b hb => in_setTs (fun t ht => ?_) hs hb⟩
            rcases List.mem_append.mp ht with z | z
            · exact .inl z
            · exact .inr (by rw [List.mem_singleton.mp z]; exact ht')
          rintro σ' H7 ⟨t', rfl, W7⟩
          have hg7 : H7 (B.g s) = some (.lst ((B.ts s ++ [t']).map V.ref)) := by
            have := W7.L.hg s hs
            rw [show (setTs B s (B.ts s ++ [t'])).ts s = B.ts s ++ [t'] from upF_same] at this
            exact this
          have ht7 : Paired (fun t r => H7 t = some (tup4 r)) (B.ts s ++ [t']) (rg s ++ [⟨lb, n, wd, true⟩]) := by
            have := W7.L.ht s hs
            rw [show (setTs B s (B.ts s ++ [t'])).ts s = B.ts s ++ [t'] from upF_same, upF_same] at this
            exact this
          have ht' : H7 t' = some (tup4 ⟨lb, n, wd, true⟩) := by
            obtain ⟨r1, e1, e2⟩ := pair_get (i := (B.ts s).length) ht7 (by rw [List.getElem?_append_right (Nat.le_refl _), Nat.sub_self]; rfl)
            rw [lts, List.getElem?_append_right (Nat.le_refl _), Nat.sub_self] at e1
            cases e1
            exact e2
          rw [List.map_append] at hg7
          walk_at "wn"
          refine ⟨1, rfl, ?_⟩
          refine ⟨-1, rfl, ?_⟩
          walk_at "wn"
          refine ⟨B.g s, _, rfl, SqL.of hg7, fun a2 ha2 => ?_⟩
          have ecut : cutV ((B.ts s).map V.ref ++ [t'].map V.ref) (some (-1)) none = [V.ref t'] := cut_last
          rw [ecut]
          have s9 := Same.new' (o := .lst [V.ref t']) ha2
          have ha22 : upd H7 a2 (.lst [V.ref t']) a2 = some (.lst ([t'].map V.ref)) := upd_same
          have ht9 := s9 _ _ ht'
          have nwa : a2 ≠ B.w s := Ne.symm (ne_of_none (W7.L.hw s hs) ha2)
          have W9 := W7.same' s9
          generalize upd H7 a2 (.lst [V.ref t']) = H9 at s9 ha22 ht9 W9 ⊢
          walk_at "wn"
          refine q_half n0 n1 ?_
          walk_at "wn"
          refine ⟨a2, B.w s, B.ul, n / 2, [t'], [⟨lb, n, wd, true⟩], rw' s, B.us, u, rfl, tk_of n0 n1, ha22, .cons ht9 .nil, W9.L.hw s hs, W9.L.U, nwa, Ne.symm (W9.L.d.w1 s hs).2.2, by omega, by show 1 ≤ 8; decide, fun x hx => by rw [List.mem_singleton.mp hx]; exact ⟨n0, n1⟩, fun Hz hbz kpz => ?_⟩
          walk_at "wn"
          have Lz := W9.L.setRow hs kpz hbz
          exact q _ (setTs B s (B.ts s ++ [t'])) _ _ rfl rfl rfl (W9.mut Lz (fun b o n e => kpz b o (fun z => n (by rw [z]; exact in_w (A := setTs B s (B.ts s ++ [t'])) hs)) e) fun b hb => .inl hb)
end

/-! o.m(k = v, ..) -/
noncomputable def tMethK0 (C : Addr) (m : Str) (j : Nat) (sp : Sp) (gV : List V → List V → List V) (E : XK) (ta : TE) (tk : TA) : TE := fun σ H Q => ta σ H fun x H1 => ∃ a dx fs, x = .ref a ∧ H1 a = some (.ins C dx fs) ∧ fs.lookup m = none ∧ tk σ H1 fun zs H3 => zs.length = j ∧ sp (gV [x] zs) H3 Q E
section
variable {X : Cx} {CX : CXT} {k : Nat} {f C : Addr} {fd : FuncData} {ps ks : List Str} {sp : Sp} {E : XK} {m : Str} {apos pos : Pos} {o : Expr} {kws : List Keyword} {ta : TE} {tk : TA} {g : List Value → List Value → List Value} {gV : List V → List V → List V}
theorem pe_methK0 {pl : Sem Bool} (he : PE X o ta) (c : Cls X.K C) (hm : Meth X.K C m f) (F : FnOk X.prog X.w X.K X.mg X.base CX k f fd ps sp) (hr : Room k X.A) (hb : KBn X.K fd ps 1 ks g gV) (hx : Passes CX X E) (hkw : PK X kws tk)
    (hall : (backToKw pos (keywordEach kws X.env)).all (·.1.isSome) = true := by rfl) (hks : (backToKw pos (keywordEach kws X.env)).filterMap (·.1) = ks := by rfl)
    (hpl : (backToKw pos (keywordEach kws X.env)).any (·.1.isNone) = false := by rfl)
    (ht : eval (.Call (.Attribute o m apos) [] kws pos) X.env = (do
      let ov ← eval o X.env
      standAt apos.atName
      let (f, first) ← holding [ov] (getMethod ov m pl)
      callWith pos f first (backTo pos (starEach [] X.env)) (backToKw pos (keywordEach kws X.env))) := by rfl) :
    PE X (.Call (.Attribute o m apos) [] kws pos) (tMethK0 C m ks.length sp gV E ta tk) := by
  refine ⟨fun pins s σ H Q I h => ?_⟩
  refine PySem.W.methodCall_KW (pl := pl) (thn (he.run pins s σ H _ I h) fun u s1 ⟨x, H1, I1, rx, a, dx, fs, ex, ea, l, q⟩ => ?_) ht
  subst ex
  obtain rfl : u = Value.ref a := rx
  refine getmeth_ok I1 ea c hm l ?_
  refine PySem.W.callWith_KW0 (first := [.ref a]) (h₀ := X.base) I1.ok.mod.kin hm.kp hall ?_ hpl
  refine thn (hkw.run pos pins s1 σ H1 _ I1 q) fun ws s3 ⟨zs, H3, I3, rz, l2, q3⟩ => ⟨I3.kIn, ?_⟩
  rw [hks]
  exact run_fnN (us := [.ref a]) (vs := [.ref a]) F hr hb hx I3 (.cons rfl .nil) rz rfl l2 q3
end

/-! the system while the law makes it -/
noncomputable def HS : Nat → Sys
  | 0 => newSys 2 8
  | j + 1 => copied (newSource (HS j) 0 (2 * j)) 0 (2 * j + 1) j
noncomputable def HT : Sys := newSet (HS 3) 0 6
noncomputable def HU : Sys := newSet HT 0 7
section
variable {C : Cs} {Hb H H1 : Hp} {p box : Addr} {ks : List (Addr × HO)} {Q : VK} {E : XK} {j : Nat}
theorem WQ.srcS (W : WQ C Hb H p box ks fun S => S = HS j) (hj : j < 3) (q : ∀ H1, WQ C Hb H1 p box ks (fun S => S = newSource (HS j) 0 (2 * j)) → Q (.int ((2 * j : Nat) : Int)) H1) : spNewSource C [.ref box, .int 0] H Q E := by
  obtain ⟨S, ad, dx, hb, A, rfl, o1, o2, o4⟩ := W.ex
  have hf : firstFree ((HS j).tab 0) (2 * j) ∧ ((HS j).tab 0).length ≤ 1000 ∧ (0 : Int) ∈ (HS j).procs ∧ (HS j).srcs.length ≤ 1000 ∧ (HS j).next ∉ (HS j).srcs := by
    have : j = 0 ∨ j = 1 ∨ j = 2 := by omega
    rcases this with rfl | rfl | rfl
    · exact ⟨free_of (by rfl) (by decide), by decide, by decide, by decide, by decide⟩
    · exact ⟨free_of (by rfl) (by decide), by decide, by decide, by decide, by decide⟩
    · exact ⟨free_of (by rfl) (by decide), by decide, by decide, by decide, by decide⟩
  exact ⟨0, 2 * j, HS j, ad, dx, by rw [hb], A, hf.2.2.1, hf.1, hf.2.1, hf.2.2.2.1, hf.2.2.2.2, fun H4 ad4 A4 st4 => q _ (W.call (ad := ad) hb o1 o2 o4 A4 st4 rfl)⟩
theorem WQ.cpS (W : WQ C Hb H p box ks fun S => S = newSource (HS j) 0 (2 * j)) (hj : j < 3) (q : ∀ (n : Nat) H1, WQ C Hb H1 p box ks (fun S => S = HS (j + 1)) → Q (.int n) H1) : spCopy C [.ref box, .int 0, .int ((2 * j : Nat) : Int), .non] H Q E := by
  obtain ⟨S, ad, dx, hb, A, rfl, o1, o2, o4⟩ := W.ex
  have hf : Means (newSource (HS j) 0 (2 * j)) 0 ((2 * j : Nat) : Int) (j : Int) ∧ firstFree ((newSource (HS j) 0 (2 * j)).tab 0) (2 * j + 1) ∧ ((newSource (HS j) 0 (2 * j)).tab 0).length ≤ 1000 := by
    have : j = 0 ∨ j = 1 ∨ j = 2 := by omega
    rcases this with rfl | rfl | rfl
    · exact ⟨⟨by decide, by decide, by decide, by rfl⟩, free_of (by rfl) (by decide), by decide⟩
    · exact ⟨⟨by decide, by decide, by decide, by rfl⟩, free_of (by rfl) (by decide), by decide⟩
    · exact ⟨⟨by decide, by decide, by decide, by rfl⟩, free_of (by rfl) (by decide), by decide⟩
  exact ⟨0, ((2 * j : Nat) : Int), (j : Int), 2 * j + 1, _, ad, dx, by rw [hb], A, hf.1, hf.2.1, hf.2.2, fun H4 A4 st4 => q _ _ (W.call (ad := ad) hb o1 o2 o4 A4 st4 rfl)⟩
theorem WQ.setT (W : WQ C Hb H p box ks fun S => S = HS 3) (q : ∀ (n : Nat) H1, WQ C Hb H1 p box ks (fun S => S = HT) → Q (.int n) H1) : spNewSet C [.ref box, .int 0] H Q E := by
  obtain ⟨S, ad, dx, hb, A, rfl, o1, o2, o4⟩ := W.ex
  exact ⟨0, 6, HS 3, ad, dx, by rw [hb], A, by decide, free_of (by rfl) (by decide), by decide, by decide, by decide, fun H4 ad4 dx4 A4 st4 => q _ _ (W.call (ad := ad) hb o1 o2 o4 A4 st4 rfl)⟩
theorem pic0 : Pic HU (fun _ => []) (fun _ => []) (fun _ => (0, false)) := by
  refine ⟨by rfl, by rfl, fun s hs => ?_, fun n h0 h1 => ?_, fun k hk => ?_, fun k _ => Int.le_refl _, fun s hs => ?_, fun s hs => ?_, (fun s _ r hr => nomatch hr), fun s _ => ⟨(fun r hr => nomatch hr), List.nodup_nil, List.nodup_nil, List.nodup_nil, (fun l hl => nomatch hl)⟩⟩
  · rcases hs with rfl | rfl
    · exact ⟨by decide, by decide, by decide, by rfl⟩
    · exact ⟨by decide, by decide, by decide, by rfl⟩
  · have : n = 0 ∨ n = 1 ∨ n = 2 ∨ n = 3 ∨ n = 4 ∨ n = 5 := by omega
    rcases this with rfl | rfl | rfl | rfl | rfl | rfl
    all_goals exact ⟨by decide, by decide, by decide, by rfl⟩
  · rcases hk with rfl | rfl | rfl <;> rfl
  · rcases hs with rfl | rfl <;> rfl
  · rcases hs with rfl | rfl <;> rfl
theorem WQ.setU (W : WQ C Hb H p box ks fun S => S = HT) (q : ∀ (n : Nat) H1, WQ C Hb H1 p box ks (fun S => Pic S (fun _ => []) (fun _ => []) (fun _ => (0, false))) → Q (.int n) H1) : spNewSet C [.ref box, .int 0] H Q E := by
  obtain ⟨S, ad, dx, hb, A, rfl, o1, o2, o4⟩ := W.ex
  exact ⟨0, 7, HT, ad, dx, by rw [hb], A, by decide, free_of (by rfl) (by decide), by decide, by decide, by decide, fun H4 ad4 dx4 A4 st4 => q _ _ (W.call (ad := ad) hb o1 o2 o4 A4 st4 pic0)⟩
end

theorem two_shaped (a b : List Int) : SeqAt.shaped (.list [.list (a.map PyData.int), .list (b.map PyData.int)]) = true := by
  obtain ⟨a1, a2⟩ := ints_lay a
  obtain ⟨b1, b2⟩ := ints_lay b
  unfold SeqAt.shaped
  rw [Bool.and_eq_true]
  refine ⟨by simp only [PyData.canLay0, PyData.canLayAll0, a1, b1, Bool.and_true], decide_eq_true ?_⟩
  simp only [PyData.depth, PyData.depthAll, a2, b2]
  decide
theorem q_neRows {K : PySem.W.Frag} {H : Hp} {a b a0 a1 b0 b1 : Addr} {Q : VK} {l m : List Int} (h1 : H a = some (.lst [.ref a0, .ref a1])) (h2 : H b = some (.lst [.ref b0, .ref b1])) (e0 : H a0 = some (.lst (l.map V.int))) (e1 : H a1 = some (.lst (m.map V.int))) (f0 : H b0 = some (.lst (l.map V.int))) (f1 : H b1 = some (.lst (m.map V.int))) (k : Q (.bl false) H) : rNeD K (.ref a) (.ref b) H Q := by
  refine ⟨_, _, .lst (SqL.of h1) (.cons (.lst (SqL.of e0) (dp_ints l)) (.cons (.lst (SqL.of e1) (dp_ints m)) .nil)), .lst (SqL.of h2) (.cons (.lst (SqL.of f0) (dp_ints l)) (.cons (.lst (SqL.of f1) (dp_ints m)) .nil)), two_shaped l m, two_shaped l m, ?_⟩
  rw [PySem.SeqAt.eqv_refl _ (SeqAt.canLay_of_shaped (two_shaped l m))]
  exact k
noncomputable abbrev nLaw : List Str := ["_law_script", "_law_at", "_law_bag_here", "_law_box", "_law_units", "_law_source", "_law_regs", "_law_rows", "_law_turn", "_law_side", "_law_k"]
inductive Iv1 (C : Cs) (Hb : Hp) (a p x : Addr) (i : Nat) (σ' : L2.St) (H : Hp) : Prop
  | mk (v5 v8 v9 v10 : Option V) (A : AD) (rg : Int → List LR) (rw : Int → List Int) (u : Int → Int × Bool) (h : σ' = [some (.ref a), some (.int (0 + (i : Int))), some (.ref p), some (.ref x), some (.ref A.ul), v5, some (.ref A.rg), some (.ref A.rw), v8, v9, v10]) (W : WL C Hb H p x A rg rw u (fun S => Pic S rg rw u)) : Iv1 C Hb a p x i σ' H
inductive Iv2 (C : Cs) (Hb : Hp) (a p x : Addr) (i tt : Nat) (s : Int) (σ' : L2.St) (H : Hp) : Prop
  | mk (v5 v10 : Option V) (A : AD) (rg : Int → List LR) (rw : Int → List Int) (u : Int → Int × Bool) (h : σ' = [some (.ref a), some (.int (0 + (i : Int))), some (.ref p), some (.ref x), some (.ref A.ul), v5, some (.ref A.rg), some (.ref A.rw), some (.int (0 + (tt : Int))), some (.int s), v10]) (W : WL C Hb H p x A rg rw u (fun S => Pic S rg rw u)) : Iv2 C Hb a p x i tt s σ' H
inductive Iv0 (K : PySem.W.Frag) (a : Addr) (ns : List Int) (i : Nat) (σ' : L2.St) (H' : Hp) : Prop
  | mk (u1 u2 u3 u4 u5 u6 u7 u8 u9 u10 : Option V) (h_0 : σ' = [some (.ref a), u1, u2, u3, u4, u5, u6, u7, u8, u9, u10]) (h_1 : SqL K H' a (ns.map V.int)) : Iv0 K a ns i σ' H'
section
variable {P : Program} {w : World} {K : PySem.W.Frag} {mg : Str → Option Value} {base : Heap} {C : Cs}
inductive PspLaw (K : PySem.W.Frag) (vs : List V) (H : Hp) (Q : VK) : Prop
  | mk (a : Addr) (ns : List Int) (h_0 : vs = [.ref a]) (h_1 : SqL K H a (ns.map V.int)) (h_2 : ns.length ≤ 63) (h_3 : ∀ H', Q (.bl true) H') : PspLaw K vs H Q
noncomputable def spLaw (K : PySem.W.Frag) : Sp := fun vs H Q _ => PspLaw K vs H Q
theorem scLaw : FnScope nLaw ["_law_script"] (defScope sLaw) := ⟨rfl, rfl, rfl, by decide +kernel, rfl, by decide +kernel, by decide +kernel⟩
theorem okLaw {f fB fT fP fU fI fE fN fC fX fO : Addr} {fd fdB fdT fdP fdU fdI fdE fdN fdC fdX fdO : FuncData} {dC : List Value} {gI gO : List Value → List Value → List Value} (F : Fun K "law" "law" sLaw f fd) (X : LawTx mg) (hint : mg "int" = none) (T : ClsF K C.S sysF) (nWR : C.W ≠ C.R)
    (GB : DO P w K mg base 1 "_law_bag" ["_law_script", "_law_at"] (spBag K) fB fdB) (GT : DO P w K mg base 1 "_law_take" ["_law_bag_here", "_law_many"] spTake fT fdT)
    (GP : DO P w K mg base 1 "_law_pend" ["_law_regs", "_law_row", "_law_source", "_law_units"] spPend fP fdP) (GU : DO P w K mg base 7 "_law_outside" ["_law_bag_here", "_law_box", "_law_units"] (spOutside C) fU fdU)
    (GX : DO P w K mg base 7 "_law_within" ["_law_bag_here", "_law_box", "_law_side", "_law_regs", "_law_row", "_law_units"] (spWithin C) fX fdX)
    (gS : mg "System" = some (.ref C.S)) (MS : Mk K C.S fI) (GI : FnOk P w K mg base CX0 3 fI fdI ["self", "processes", "numbers"] (spSysInit C)) (bI : KBn K fdI ["self", "processes", "numbers"] 1 ["processes", "numbers"] gI (fun vs zs => vs ++ zs))
    (GE : MO P w K mg base 6 C.S "new_set" ["self", "process"] (spNewSet C) fE fdE) (GN : MO P w K mg base 6 C.S "new_source" ["self", "process"] (spNewSource C) fN fdN)
    (GC : MD P w K mg base 5 C.S "copy" ["self", "process", "number", "to"] (spCopy C) fC fdC dC [.non])
    (GO : MO P w K mg base 6 C.S "row_of" ["self", "process", "set_number"] (spRowOf C) fO fdO) (bO : KBn K fdO ["self", "process", "set_number"] 1 ["process", "set_number"] gO (fun vs zs => vs ++ zs)) :
    FnOk P w K mg base CX0 8 f fd ["_law_script"] (spLaw K) := by
  refine F.ok scLaw (fun vs H Q E h => ?_) (fun cdv A outer s H vs Q E hr h => ?_)
  · obtain ⟨x, _, rfl, _⟩ := h
    rfl
  · obtain ⟨a, ns, rfl, hS, hl, k⟩ := h
    have r1 : Room 1 _ := hr.mono (by decide)
    have r4 : Room 4 _ := hr.mono (by decide)
    have r5 : Room 5 _ := hr.mono (by decide)
    have r6 : Room 6 _ := hr.mono (by decide)
    have hu := hr.units
    refine ⟨_, pss_cut (ps_for PassesOwn.never rfl (pi_range1 (by rfl) X.range (pa_cons (pe_callB (cMax2 rfl) (by rfl) X.max (by decide +kernel) (pa_cons pe_int (pa_cons (pe_callB (cMin2 rfl) (by rfl) X.min (by decide +kernel) (pa_cons pe_int (pa_cons (pe_callB cLenQ (by rfl) X.len PySem.boot_len (pa_cons (pv 0) pa_nil)) pa_nil))) pa_nil))) pa_nil)) (pg_name (i := 1) scLaw.nd rfl (Or.inl rfl)) (pss_cut (ps_set (i := 2) scLaw.nd rfl (Or.inl rfl) (pe_call GB.g r1 (by rfl) GB.m GB.k GB.b .nil pass0 (pa_cons (pv 0) (pa_cons (pv 1) pa_nil))))
      (pss_cut (ps_par (i := 3) (j := 4) (by rfl) scLaw.nd rfl rfl (by decide) rfl rfl (pa_cons (pe_makeK0 MS GI r4 (by rfl) gS bI pass0 (pk_cons pe_int (pk_cons pe_int pk_nil))) (pa_cons (pe_op op_rep (pe_lst (pa_cons (pe_tup (pa_cons pe_int (pa_cons pe_bl pa_nil))) pa_nil)) pe_int) pa_nil)) (by rfl))
      (pss_cut (ps_for PassesOwn.never rfl (pi_range1 (by rfl) X.range (pa_cons (pe_int) pa_nil)) (pg_name (i := 5) scLaw.nd rfl (Or.inl rfl)) (pss_one (ps_expr (pe_meth (pv 3) T.cl GC.m GC.g r5 GC.b GC.d pass0 (pa_cons pe_int (pa_cons (pe_meth (pv 3) T.cl GN.m GN.g r6 GN.b .nil pass0 (pa_cons pe_int pa_nil)) pa_nil))))))
      (pss_cut (ps_expr (pe_meth (pv 3) T.cl GE.m GE.g r6 GE.b .nil pass0 (pa_cons pe_int pa_nil)))
      (pss_cut (ps_expr (pe_meth (pv 3) T.cl GE.m GE.g r6 GE.b .nil pass0 (pa_cons pe_int pa_nil)))
      (pss_cut (ps_par (i := 6) (j := 7) (by rfl) scLaw.nd rfl rfl (by decide) rfl rfl (pa_cons (pe_lst (pa_cons (pe_lst pa_nil) (pa_cons (pe_lst pa_nil) pa_nil))) (pa_cons (pe_lst (pa_cons (pe_lst pa_nil) (pa_cons (pe_lst pa_nil) pa_nil))) pa_nil)) (by rfl))
      (pss_one (ps_for PassesOwn.never rfl (pi_range1 (by rfl) X.range (pa_cons (pe_op op_add pe_int (pe_call GT.g r1 (by rfl) GT.m GT.k GT.b .nil pass0 (pa_cons (pv 2) (pa_cons pe_int pa_nil)))) pa_nil)) (pg_name (i := 8) scLaw.nd rfl (Or.inl rfl)) (pss_cut (ps_set (i := 9) scLaw.nd rfl (Or.inl rfl) (pe_call GT.g r1 (by rfl) GT.m GT.k GT.b .nil pass0 (pa_cons (pv 2) (pa_cons pe_int pa_nil))))
      (pss_cut (ps_if (pt_cmpR op_gt (pe_call GT.g r1 (by rfl) GT.m GT.k GT.b .nil pass0 (pa_cons (pv 2) (pa_cons pe_int pa_nil))) pe_int (nomark _)) (pss_one (ps_expr (pe_call GX.g hr (by rfl) GX.m GX.k GX.b .nil pass0 (pa_cons (pv 2) (pa_cons (pv 3) (pa_cons (pv 9) (pa_cons (pe_ix ix_list (pv 6) (pv 9) (fun _ _ => rfl)) (pa_cons (pe_ix ix_list (pv 7) (pv 9) (fun _ _ => rfl)) (pa_cons (pv 4) pa_nil))))))))) (pss_cut (ps_set (i := 5) scLaw.nd rfl (Or.inl rfl) (pe_call GU.g hr (by rfl) GU.m GU.k GU.b .nil pass0 (pa_cons (pv 2) (pa_cons (pv 3) (pa_cons (pv 4) pa_nil)))))
      (pss_one (ps_for PassesOwn.never rfl (pi_range1 (by rfl) X.range (pa_cons (pe_op op_mul pe_int (pe_callTy cInt1 (by rfl) hint PyProof.Rows.boot_int (pa_cons (pe_cmpR oNotN (pv 5) pe_non (nomark _)) pa_nil))) pa_nil)) (pg_name (i := 10) scLaw.nd rfl (Or.inl rfl)) (pss_one (ps_expr (pe_call GP.g r1 (by rfl) GP.m GP.k GP.b .nil pass0 (pa_cons (pe_ix ix_list (pv 6) (pv 10) (fun _ _ => rfl)) (pa_cons (pe_ix ix_list (pv 7) (pv 10) (fun _ _ => rfl)) (pa_cons (pv 5) (pa_cons (pv 4) pa_nil)))))))))))
      (pss_cut (ps_if (pt_cmpR (op_neD hu) (pe_lst (pa_cons (pe_meth (pv 3) T.cl GO.m GO.g r6 GO.b .nil pass0 (pa_cons pe_int (pa_cons pe_int pa_nil))) (pa_cons (pe_methK0 (pv 3) T.cl GO.m GO.g r6 bO pass0 (pk_cons pe_int (pk_cons pe_int pk_nil))) pa_nil))) (pv 7) (nomark _)) (pss_one (ps_ret pe_bl)) pss_nil)
      (pss_one (ps_expr (pe_bm PySem.F.plainAttrs_list PySem.F.slot_list_append PySem.F.type_list_append mt_append (pe_meth (pv 3) T.cl GO.m GO.g r6 GO.b .nil pass0 (pa_cons pe_int (pa_cons pe_int pa_nil))) (pa_cons pe_int pa_nil))))))))))))))))
      (pss_one (ps_ret pe_bl)), ?_⟩
    refine ⟨fun _ _ => True, ?_, fun σ' H' _ => ?_⟩
    · show iRng1 _ _ _ _
      show tCons _ _ _ _ _
      walk_at "wn"
      refine ⟨a, _, rfl, .inl hS, ?_⟩
      walk_at "wn"
      refine ⟨_, rfl, ?_, ?_, ?_⟩
      · split <;> split <;> omega
      · split <;> split <;> omega
      refine for_range (lo := 0) (fun i σ' H' => Iv0 K a ns i σ' H') ⟨_, _, _, _, _, _, _, _, _, _, rfl, hS⟩ ?_ (fun _ _ _ => trivial)
      rintro i σ' Hb hi ⟨u1, u2, u3, u4, u5, u6, u7, u8, u9, u10, rfl, hSb⟩
      refine ⟨fun σ' H1 => ∃ p : Addr, σ' = [some (.ref a), some (.int (0 + (i : Int))), some (.ref p), u3, u4, u5, u6, u7, u8, u9, u10] ∧ Hb p = none ∧ Same Hb H1 ∧ BagAt H1 p, ?_, ?_⟩
      · walk_at "wn"
        refine ⟨a, ns, i, by simp, hSb, hl, by revert hi; split <;> split <;> omega, fun H1 p n0 s1 b1 => ?_⟩
        walk_at "wn"
        exact ⟨p, rfl, n0, s1, b1⟩
      rintro σ' H1 ⟨p, rfl, n0, s1, b1⟩
      refine ⟨fun σ' H2 => ∃ x ul t0 : Addr, σ' = [some (.ref a), some (.int (0 + (i : Int))), some (.ref p), some (.ref x), some (.ref ul), u5, u6, u7, u8, u9, u10] ∧ WQ C Hb H2 p x [(ul, .lst [.ref t0, .ref t0, .ref t0]), (t0, .tup [.int 0, .bl false])] (fun S => S = HS 0), ?_, ?_⟩
      · refine ⟨rfl, rfl, fun x dx0 hx hdx nxd => ?_⟩
        have n1 : upd (upd H1 dx0 (.own x)) x (.ins C.S dx0 []) x = some (.ins C.S dx0 []) := upd_same
        refine ⟨x, dx0, 2, 8, rfl, n1, by decide, by decide, by decide, by decide, fun H2 ad dx hb A2 k2 o2 => ⟨rfl, ?_⟩⟩
        obtain ⟨W2, s2⟩ := WQ.start s1 b1 n0 hx hdx A2 hb k2 o2
        walk_at "wn"
        refine ⟨by show 2 ≤ sizeLine; decide, fun t0 ht0 => ?_⟩
        have W3 := W2.new (o := .tup [V.int 0, V.bl false]) ht0
        walk_at "wn"
        refine ⟨by show 1 ≤ sizeLine; decide, fun l1 hl1 => ?_⟩
        have W4 := W3.new (o := .lst [V.ref t0]) hl1
        walk_at "wn"
        refine ⟨l1, 3, [V.ref t0], rfl, rfl, upd_same, by decide, by decide, by show 1 * 3 ≤ sizeLine; decide, fun ul hul => ?_⟩
        have W5 := W4.new (o := .lst [V.ref t0, V.ref t0, V.ref t0]) hul
        walk_at "wn"
        refine ⟨_, _, rfl, x, ul, t0, rfl, W5.sub fun q hq => ?_⟩
        rcases List.mem_cons.mp hq with rfl | hq
        · exact List.mem_cons_self
        · rw [List.mem_singleton.mp hq]
          exact List.mem_cons_of_mem _ (List.mem_cons_of_mem _ List.mem_cons_self)
      rintro σ' H2 ⟨x, ul, t0, rfl, W2⟩
      refine ⟨fun σ' H3 => ∃ v5 : Option V, σ' = [some (.ref a), some (.int (0 + (i : Int))), some (.ref p), some (.ref x), some (.ref ul), v5, u6, u7, u8, u9, u10] ∧ WQ C Hb H3 p x [(ul, .lst [.ref t0, .ref t0, .ref t0]), (t0, .tup [.int 0, .bl false])] (fun S => S = HS 3), ?_, ?_⟩
      · show iRng1 _ _ _ _
        show tCons _ _ _ _ _
        walk_at "wn"
        refine ⟨_, rfl, by decide, by decide, ?_⟩
        refine for_range (lo := 0) (fun j σ' H3 => ∃ v5 : Option V, σ' = [some (.ref a), some (.int (0 + (i : Int))), some (.ref p), some (.ref x), some (.ref ul), v5, u6, u7, u8, u9, u10] ∧ WQ C Hb H3 p x [(ul, .lst [.ref t0, .ref t0, .ref t0]), (t0, .tup [.int 0, .bl false])] (fun S => S = HS j)) ⟨_, rfl, W2⟩ ?_ (fun _ _ h => h)
        rintro j σ' H3 hj ⟨v5, rfl, W3⟩
        obtain ⟨bx, bS, td, sd', ud, hb⟩ := W3.boxAt
        walk_at "wn"
        refine ⟨_, rfl, x, bx, _, rfl, hb, rfl, ?_⟩
        walk_at "wn"
        refine ⟨_, rfl, x, bx, _, rfl, hb, rfl, ?_⟩
        walk_at "wn"
        refine W3.srcS hj fun H4 W4 => ?_
        walk_at "wn"
        refine W4.cpS hj fun n H5 W5 => ?_
        walk_at "wn"
        exact ⟨_, rfl, W5⟩
      rintro σ' H3 ⟨v5, rfl, W3⟩
      refine ⟨fun σ' H4 => σ' = [some (.ref a), some (.int (0 + (i : Int))), some (.ref p), some (.ref x), some (.ref ul), v5, u6, u7, u8, u9, u10] ∧ WQ C Hb H4 p x [(ul, .lst [.ref t0, .ref t0, .ref t0]), (t0, .tup [.int 0, .bl false])] (fun S => S = HT), ?_, ?_⟩
      · obtain ⟨bx, bS, td, sd', ud, hb⟩ := W3.boxAt
        walk_at "wn"
        refine ⟨_, rfl, x, bx, _, rfl, hb, rfl, ?_⟩
        walk_at "wn"
        refine W3.setT fun n H4 W4 => ?_
        walk_at "wn"
        exact ⟨rfl, W4⟩
      rintro σ' H4 ⟨rfl, W4⟩
      refine ⟨fun σ' H5 => σ' = [some (.ref a), some (.int (0 + (i : Int))), some (.ref p), some (.ref x), some (.ref ul), v5, u6, u7, u8, u9, u10] ∧ WQ C Hb H5 p x [(ul, .lst [.ref t0, .ref t0, .ref t0]), (t0, .tup [.int 0, .bl false])] (fun S => Pic S (fun _ => []) (fun _ => []) (fun _ => (0, false))), ?_, ?_⟩
      · obtain ⟨bx, bS, td, sd', ud, hb⟩ := W4.boxAt
        walk_at "wn"
        refine ⟨_, rfl, x, bx, _, rfl, hb, rfl, ?_⟩
        walk_at "wn"
        refine W4.setU fun n H5 W5 => ?_
        walk_at "wn"
        exact ⟨rfl, W5⟩
      rintro σ' H5 ⟨rfl, W5⟩
      refine ⟨fun σ' H6 => ∃ B : AD, σ' = [some (.ref a), some (.int (0 + (i : Int))), some (.ref p), some (.ref x), some (.ref B.ul), v5, some (.ref B.rg), some (.ref B.rw), u8, u9, u10] ∧ WL C Hb H6 p x B (fun _ => []) (fun _ => []) (fun _ => (0, false)) (fun S => Pic S (fun _ => []) (fun _ => []) (fun _ => (0, false))), ?_, ?_⟩
      · refine ⟨Nat.zero_le _, fun g0 hg0 => ⟨Nat.zero_le _, fun g1 hg1 => ⟨by show 2 ≤ sizeLine; decide, fun rgA hrg => ?_⟩⟩⟩
        refine ⟨Nat.zero_le _, fun w0 hw0 => ⟨Nat.zero_le _, fun w1 hw1 => ⟨by show 2 ≤ sizeLine; decide, fun rwA hrw => ?_⟩⟩⟩
        have V1 := W5.new (o := .lst []) hg0
        have V2 := V1.new (o := .lst []) hg1
        have V3 := V2.new (o := .lst [V.ref g0, V.ref g1]) hrg
        have V4 := V3.new (o := .lst []) hw0
        have V5 := V4.new (o := .lst []) hw1
        have V6 := V5.new (o := .lst [V.ref w0, V.ref w1]) hrw
        have a6 := V6.kat
        have m0 := a6 (rwA, .lst [V.ref w0, V.ref w1]) (by simp)
        have m1 := a6 (w1, .lst []) (by simp)
        have m2 := a6 (w0, .lst []) (by simp)
        have m3 := a6 (rgA, .lst [V.ref g0, V.ref g1]) (by simp)
        have m4 := a6 (g1, .lst []) (by simp)
        have m5 := a6 (g0, .lst []) (by simp)
        have m6 := a6 (ul, .lst [V.ref t0, V.ref t0, V.ref t0]) (by simp)
        have m7 := a6 (t0, .tup [V.int 0, V.bl false]) (by simp)
        have f0 := V5.kat
        have f1 := V4.kat
        have f2 := V3.kat
        have f3 := V2.kat
        have f4 := V1.kat
        have n_rw : ∀ q ∈ ((w1, HO.lst []) :: (w0, .lst []) :: (rgA, .lst [V.ref g0, V.ref g1]) :: (g1, .lst []) :: (g0, .lst []) :: [(ul, .lst [.ref t0, .ref t0, .ref t0]), (t0, .tup [.int 0, .bl false])]), q.1 ≠ rwA := fun q hq => ne_of_none (f0 q hq) hrw
        have n_w1 : ∀ q ∈ ((w0, HO.lst []) :: (rgA, .lst [V.ref g0, V.ref g1]) :: (g1, .lst []) :: (g0, .lst []) :: [(ul, .lst [.ref t0, .ref t0, .ref t0]), (t0, .tup [.int 0, .bl false])]), q.1 ≠ w1 := fun q hq => ne_of_none (f1 q hq) hw1
        have n_w0 : ∀ q ∈ ((rgA, HO.lst [V.ref g0, V.ref g1]) :: (g1, .lst []) :: (g0, .lst []) :: [(ul, .lst [.ref t0, .ref t0, .ref t0]), (t0, .tup [.int 0, .bl false])]), q.1 ≠ w0 := fun q hq => ne_of_none (f2 q hq) hw0
        have n_rg : ∀ q ∈ ((g1, HO.lst []) :: (g0, .lst []) :: [(ul, .lst [.ref t0, .ref t0, .ref t0]), (t0, .tup [.int 0, .bl false])]), q.1 ≠ rgA := fun q hq => ne_of_none (f3 q hq) hrg
        have n_g1 : ∀ q ∈ ((g0, HO.lst []) :: [(ul, .lst [.ref t0, .ref t0, .ref t0]), (t0, .tup [.int 0, .bl false])]), q.1 ≠ g1 := fun q hq => ne_of_none (f4 q hq) hg1
        have n_g0 : ul ≠ g0 := ne_of_none (W5.kat (ul, _) List.mem_cons_self) hg0
        have d_w1rw := n_rw (w1, .lst []) (by simp)
        have d_w0rw := n_rw (w0, .lst []) (by simp)
        have d_rgrw := n_rw (rgA, .lst [V.ref g0, V.ref g1]) (by simp)
        have d_g1rw := n_rw (g1, .lst []) (by simp)
        have d_g0rw := n_rw (g0, .lst []) (by simp)
        have d_ulrw := n_rw (ul, .lst [V.ref t0, V.ref t0, V.ref t0]) (by simp)
        have d_w0w1 := n_w1 (w0, .lst []) (by simp)
        have d_rgw1 := n_w1 (rgA, .lst [V.ref g0, V.ref g1]) (by simp)
        have d_g1w1 := n_w1 (g1, .lst []) (by simp)
        have d_g0w1 := n_w1 (g0, .lst []) (by simp)
        have d_ulw1 := n_w1 (ul, .lst [V.ref t0, V.ref t0, V.ref t0]) (by simp)
        have d_rgw0 := n_w0 (rgA, .lst [V.ref g0, V.ref g1]) (by simp)
        have d_g1w0 := n_w0 (g1, .lst []) (by simp)
        have d_g0w0 := n_w0 (g0, .lst []) (by simp)
        have d_ulw0 := n_w0 (ul, .lst [V.ref t0, V.ref t0, V.ref t0]) (by simp)
        have d_g1rg := n_rg (g1, .lst []) (by simp)
        have d_g0rg := n_rg (g0, .lst []) (by simp)
        have d_ulrg := n_rg (ul, .lst [V.ref t0, V.ref t0, V.ref t0]) (by simp)
        have d_g0g1 := n_g1 (g0, .lst []) (by simp)
        have d_ulg1 := n_g1 (ul, .lst [V.ref t0, V.ref t0, V.ref t0]) (by simp)
        refine ⟨_, _, rfl, ⟨rgA, rwA, ul, fun s => if s = 0 then g0 else g1, fun s => if s = 0 then w0 else w1, fun _ => [], fun _ => t0⟩, rfl, V6.sub fun q hq => ?_, ⟨m3, m0, ⟨m6, fun k _ => m7⟩, fun s hs => ?_, fun s hs => ?_, fun s hs => .nil, ⟨d_w0w1, d_g0g1, fun s s' hs hs' => ?_, fun s hs => ?_, fun s hs => ?_, d_rgrw, Ne.symm d_ulrg, Ne.symm d_ulrw⟩⟩⟩
        · rcases KS_mem.mp hq with rfl | rfl | h | ⟨s, hs, h⟩
          · simp
          · simp
          · rcases kU_mem.mp h with rfl | ⟨k, hk, rfl⟩
            · simp
            · simp
          · rcases hs with rfl | rfl <;> rcases h with rfl | rfl | h
            · simp
            · simp
            · cases h
            · simp
            · simp
            · cases h
        · rcases hs with rfl | rfl
          · exact m5
          · exact m4
        · rcases hs with rfl | rfl
          · exact m2
          · exact m1
        · rcases hs with rfl | rfl <;> rcases hs' with rfl | rfl
          · exact d_g0w0
          · exact d_g0w1
          · exact d_g1w0
          · exact d_g1w1
        · rcases hs with rfl | rfl
          · exact ⟨d_g0rg, d_g0rw, Ne.symm n_g0⟩
          · exact ⟨d_g1rg, d_g1rw, Ne.symm d_ulg1⟩
        · rcases hs with rfl | rfl
          · exact ⟨Ne.symm d_rgw0, d_w0rw, Ne.symm d_ulw0⟩
          · exact ⟨Ne.symm d_rgw1, d_w1rw, Ne.symm d_ulw1⟩
      rintro σ' H6 ⟨B, rfl, W6⟩
      clear W2 W3 W4 W5
      show iRng1 _ _ _ _
      show tCons _ _ _ _ _
      walk_at "wn"
      refine ⟨p, 26, rfl, W6.W.bag, by decide, by decide, fun kk H7 k0 k1 e7 b7 => ?_⟩
      have W7 := W6.draw e7 b7
      walk_at "wn"
      refine ⟨_, rfl, by omega, by omega, ?_⟩
      refine for_range (lo := 0) (fun tt σ' H8 => Iv1 C Hb a p x i σ' H8) ⟨_, _, _, _, B, _, _, _, rfl, W7⟩ ?_ (fun σ' H8 h => ?_)
      rotate_left
      · obtain ⟨v5, v8, v9, v10, A, rg, rw, u, rfl, W8⟩ := h
        walk_at "wn"
        exact ⟨_, _, _, _, _, _, _, _, _, _, rfl, Same.seq W8.W.same hSb⟩
      clear W6 W7
      rintro tt σ' H8 htt ⟨v5, v8, v9, v10, A, rg, rw, u, rfl, W8⟩
      refine ⟨fun σ' H9 => ∃ s : Int, sd s ∧ σ' = [some (.ref a), some (.int (0 + (i : Int))), some (.ref p), some (.ref x), some (.ref A.ul), v5, some (.ref A.rg), some (.ref A.rw), some (.int (0 + (tt : Int))), some (.int s), v10] ∧ WL C Hb H9 p x A rg rw u (fun S => Pic S rg rw u), ?_, ?_⟩
      · walk_at "wn"
        refine ⟨p, 2, rfl, W8.W.bag, by decide, by decide, fun s H9 s0 s1 e9 b9 => ?_⟩
        refine ⟨s, ?_, rfl, W8.draw e9 b9⟩
        unfold sd
        omega
      rintro σ' H9 ⟨s, hs, rfl, W9⟩
      refine ⟨fun σ' Ha => Iv2 C Hb a p x i tt s σ' Ha, ?_, ?_⟩
      · walk_at "wn"
        refine ⟨p, 3, rfl, W9.W.bag, by decide, by decide, fun y Ha y0 y1 ea ba => ?_⟩
        have Wa := W9.draw ea ba
        walk_at "wn"
        by_cases hy : 0 < y
        · rw [decide_eq_true hy]
          walk_at "wn"
          refine ⟨A.rg, _, s, _, rfl, rfl, SqL.of Wa.L.hrg, at2 (f := V.ref) hs, ?_⟩
          walk_at "wn"
          refine ⟨A.rw, _, s, _, rfl, rfl, SqL.of Wa.L.hrw, at2 (f := V.ref) hs, ?_⟩
          walk_at "wn"
          refine ⟨Hb, p, x, A, rg, rw, u, s, rfl, hs, nWR, Wa, fun Hc A' rg' rw' e1 e2 e3 Wc => ?_⟩
          walk_at "wn"
          exact ⟨_, _, A', rg', rw', u, by rw [e1, e2, e3], Wc⟩
        · rw [decide_eq_false hy]
          walk_at "wn"
          refine ⟨fun σ' Hc => (∃ (A' : AD) (u' : Int → Int × Bool), σ' = [some (.ref a), some (.int (0 + (i : Int))), some (.ref p), some (.ref x), some (.ref A'.ul), some .non, some (.ref A'.rg), some (.ref A'.rw), some (.int (0 + (tt : Int))), some (.int s), v10] ∧ WL C Hb Hc p x A' rg rw u' (fun S => Pic S rg rw u')) ∨ (∃ (k : Int) (A' : AD) (u' : Int → Int × Bool), tk k ∧ rdyU (u' k) = true ∧ σ' = [some (.ref a), some (.int (0 + (i : Int))), some (.ref p), some (.ref x), some (.ref A'.ul), some (.int k), some (.ref A'.rg), some (.ref A'.rw), some (.int (0 + (tt : Int))), some (.int s), v10] ∧ WL C Hb Hc p x A' rg rw u' (fun S => Pic S rg (fun s => pendR k true (rg s) (rw s)) u')), ?_, ?_⟩
          · walk_at "wn"
            refine ⟨Hb, p, x, A, rg, rw, u, rfl, Wa, fun Hc A' u' e1 e2 e3 Wc => ?_, fun k Hc A' u' hk hr' e1 e2 e3 Wc => ?_⟩
            · walk_at "wn"
              exact .inl ⟨A', u', by rw [e1, e2, e3]; rfl, Wc⟩
            · walk_at "wn"
              exact .inr ⟨k, A', u', hk, hr', by rw [e1, e2, e3]; rfl, Wc⟩
          rintro σ' Hc (⟨A', u', rfl, Wc⟩ | ⟨k, A', u', hk, hr', rfl, Wc⟩)
          · show iRng1 _ _ _ _
            show tCons _ _ _ _ _
            walk_at "wn"
            refine .inr ⟨_, rfl, ?_⟩
            walk_at "wn"
            refine ⟨_, rfl, by decide, by decide, ?_⟩
            exact for_range (lo := 0) (fun j σ' Hd => Iv2 C Hb a p x i tt s σ' Hd) ⟨_, _, A', rg, rw, u', rfl, Wc⟩ (fun j σ Hd hj => absurd hj (Nat.not_lt_zero _)) (fun _ _ h => h)
          · show iRng1 _ _ _ _
            show tCons _ _ _ _ _
            walk_at "wn"
            rw [show (!decide (V.int k = V.non)) = true by rw [decide_eq_false (by intro z; cases z)]; rfl]
            refine .inr ⟨true, rfl, ?_⟩
            walk_at "wn"
            refine ⟨_, rfl, by decide, by decide, ?_⟩
            have gd : ∀ j, sd j → Good (rg j) (pendR k true (rg j) (rw j)) := fun j hj => Wc.W.pure fun S F => F.good j hj
            have lr : ∀ j, sd j → (rw j).length ≤ 6 := fun j hj => Wa.W.pure fun S F => (F.good j hj).rlen
            refine for_range (lo := 0) (fun j σ' Hd => ∃ w10 : Option V, σ' = [some (.ref a), some (.int (0 + (i : Int))), some (.ref p), some (.ref x), some (.ref A'.ul), some (.int k), some (.ref A'.rg), some (.ref A'.rw), some (.int (0 + (tt : Int))), some (.int s), w10] ∧ WL C Hb Hd p x A' rg (fun s => if s < (j : Int) then pendR k true (rg s) (rw s) else rw s) u' (fun S => Pic S rg (fun s => pendR k true (rg s) (rw s)) u')) ⟨_, rfl, Wc.mut (Wc.L.rows fun s hs => if_neg (by rcases hs with rfl | rfl <;> decide)) (fun b o _ e => e) fun b hb => .inl hb⟩ ?_ (fun σ' Hd h => ?_)
            · rintro j σ' Hd hj ⟨w10, rfl, Wd⟩
              rw [Int.zero_add]
              have hj : j < 2 := hj
              have hs' : sd (j : Int) := by
                have : j = 0 ∨ j = 1 := by omega
                rcases this with rfl | rfl
                · exact sd0
                · exact sd1
              have G0 := gd _ hs'
              have hwj := Wd.L.hw _ hs'
              rw [if_neg (Int.lt_irrefl _)] at hwj
              walk_at "wn"
              refine ⟨A'.rg, _, (j : Int), _, rfl, rfl, SqL.of Wd.L.hrg, at2 (f := V.ref) hs', ?_⟩
              walk_at "wn"
              refine ⟨A'.rw, _, (j : Int), _, rfl, rfl, SqL.of Wd.L.hrw, at2 (f := V.ref) hs', ?_⟩
              walk_at "wn"
              refine ⟨A'.g j, A'.w j, A'.ul, k, A'.ts j, rg j, rw j, A'.us, u', rfl, hk, Wd.L.hg _ hs', Wd.L.ht _ hs', hwj, Wd.L.U, Wd.L.d.gw _ _ hs' hs', Ne.symm (Wd.L.d.w1 _ hs').2.2, by have := lr _ hs'; omega, by have := G0.len; omega, fun r hr0 => ⟨(G0.ok r hr0).2.2.1, (G0.ok r hr0).2.2.2.1⟩, fun He hbe kpe => ?_⟩
              rw [hr'] at hbe
              walk_at "wn"
              have Le := Wd.L.setRow hs' kpe hbe
              refine ⟨_, rfl, Wd.mut (Le.rows fun s hs => ?_) (fun b o n e => kpe b o (fun z => n (by rw [z]; exact in_w hs')) e) fun b hb => .inl hb⟩
              by_cases e : s = (j : Int)
              · rw [e, upF_same, if_pos (by omega)]
              · rw [upF_ne e]
                by_cases z : s < (j : Int)
                · rw [if_pos z, if_pos (by omega)]
                · rw [if_neg z, if_neg (by omega)]
            · obtain ⟨w10, rfl, Wd⟩ := h
              exact ⟨_, _, A', rg, _, u', rfl, Wd.mut (Wd.L.rows fun s hs => (if_pos (by rcases hs with rfl | rfl <;> decide)).symm) (fun b o _ e => e) fun b hb => .inl hb⟩
      rintro σ' Ha ⟨v5', v10', A', rg', rw', u', rfl, Wa⟩
      obtain ⟨bx, bS, td, sd', ud, hb⟩ := Wa.W.boxAt
      refine ⟨fun σ' Hb2 => Iv2 C Hb a p x i tt s σ' Hb2, ?_, ?_⟩
      · walk_at "wn"
        refine ⟨_, rfl, x, bx, _, rfl, hb, rfl, ?_⟩
        walk_at "wn"
        refine Wa.rowOf sd0 rfl fun r0 hr0 => ?_
        have s8 := Same.new' (o := .lst ((rw' 0).map V.int)) hr0
        have W8 := Wa.same' s8
        have hb8 := s8 _ _ hb
        walk_at "wn"
        refine ⟨_, rfl, x, bx, _, rfl, hb8, rfl, ?_⟩
        walk_at "wn"
        refine ⟨rfl, ?_⟩
        refine W8.rowOf sd1 rfl fun r1 hr1 => ?_
        have s9 := Same.new' (o := .lst ((rw' 1).map V.int)) hr1
        have W9 := W8.same' s9
        have h90 := s9 _ _ (upd_same (H := Ha) (a := r0) (o := .lst ((rw' 0).map V.int)))
        have h91 : upd (upd Ha r0 (.lst ((rw' 0).map V.int))) r1 (.lst ((rw' 1).map V.int)) r1 = some (.lst ((rw' 1).map V.int)) := upd_same
        generalize upd (upd Ha r0 (.lst ((rw' 0).map V.int))) r1 (.lst ((rw' 1).map V.int)) = H9 at W9 h90 h91
        walk_at "wn"
        refine ⟨by show 2 ≤ sizeLine; decide, fun c hc => ?_⟩
        have sa := Same.new' (o := .lst [V.ref r0, V.ref r1]) hc
        have W10 := W9.same' sa
        walk_at "wn"
        refine q_neRows upd_same W10.L.hrw (sa _ _ h90) (sa _ _ h91) (W10.L.hw 0 sd0) (W10.L.hw 1 sd1) ?_
        walk_at "wn"
        exact ⟨_, _, A', rg', rw', u', rfl, W10⟩
      rintro σ' Hb2 ⟨w5, w10, A2, rg2, rw2, u2, rfl, Wb⟩
      obtain ⟨bx, bS, td, sd', ud, hb⟩ := Wb.W.boxAt
      have l0 : (rw2 0).length ≤ 6 := Wb.W.pure fun S F => (F.good 0 sd0).rlen
      walk_at "wn"
      refine ⟨_, rfl, x, bx, _, rfl, hb, rfl, ?_⟩
      walk_at "wn"
      refine Wb.rowOf sd0 rfl fun r0 hr0 => ?_
      walk_at "wn"
      refine ⟨r0, _, _, rfl, rfl, upd_same, by rw [List.length_map, sizeLine_eq]; omega, ?_⟩
      exact ⟨_, _, _, _, A2, rg2, rw2, u2, rfl, Wb.same' fun b o e => by rw [upd_ne (ne_of_none e hr0), upd_ne (ne_of_none e hr0)]; exact e⟩
    · walk_at "wn"
      exact k _
end

theorem Ln0 {α : Type} : ∀ {us : List α}, us.length = 0 → us = []
  | [], _ => rfl
theorem Ln1 {α : Type} : ∀ {us : List α}, us.length = 1 → ∃ a0, us = [a0]
  | [a0], _ => ⟨_, rfl⟩
theorem Ln2 {α : Type} : ∀ {us : List α}, us.length = 2 → ∃ a0 a1, us = [a0, a1]
  | [a0, a1], _ => ⟨_, _, rfl⟩
theorem Ln3 {α : Type} : ∀ {us : List α}, us.length = 3 → ∃ a0 a1 a2, us = [a0, a1, a2]
  | [a0, a1, a2], _ => ⟨_, _, _, rfl⟩
theorem Ln4 {α : Type} : ∀ {us : List α}, us.length = 4 → ∃ a0 a1 a2 a3, us = [a0, a1, a2, a3]
  | [a0, a1, a2, a3], _ => ⟨_, _, _, _, rfl⟩
theorem Ln5 {α : Type} : ∀ {us : List α}, us.length = 5 → ∃ a0 a1 a2 a3 a4, us = [a0, a1, a2, a3, a4]
  | [a0, a1, a2, a3, a4], _ => ⟨_, _, _, _, _, rfl⟩
theorem Ln6 {α : Type} : ∀ {us : List α}, us.length = 6 → ∃ a0 a1 a2 a3 a4 a5, us = [a0, a1, a2, a3, a4, a5]
  | [a0, a1, a2, a3, a4, a5], _ => ⟨_, _, _, _, _, _, rfl⟩
theorem all_mk {P : Program} {w : World} {K : PySem.W.Frag} {h : Heap} {mg : Str → Option Value} {fa : Addr} (X : K.In h) (G : h.Ns mainGlobals mg) (hfa : mg "law" = some (.ref fa))
    {CS CW CR : Addr}
    {f_int : Addr} {oc_int dc_int pm_int cd_int ct_int : Value} {od_int an_int : Option Addr} {sl_int : Array (Option Value)}
    {kV_int : Value}
    {f_bet : Addr} {oc_bet dc_bet pm_bet cd_bet ct_bet : Value} {od_bet an_bet : Option Addr} {sl_bet : Array (Option Value)}
    {kV_bet : Value}
    {f_cnt : Addr} {oc_cnt dc_cnt pm_cnt cd_cnt ct_cnt : Value} {od_cnt an_cnt : Option Addr} {sl_cnt : Array (Option Value)}
    {kV_cnt : Value}
    {f_lab : Addr} {oc_lab dc_lab pm_lab cd_lab ct_lab : Value} {od_lab an_lab : Option Addr} {sl_lab : Array (Option Value)}
    {kV_lab : Value}
    {f_wrd : Addr} {oc_wrd dc_wrd pm_wrd cd_wrd ct_wrd : Value} {od_wrd an_wrd : Option Addr} {sl_wrd : Array (Option Value)}
    {kV_wrd : Value}
    {f_bag : Addr} {oc_bag dc_bag pm_bag cd_bag ct_bag : Value} {od_bag an_bag : Option Addr} {sl_bag : Array (Option Value)}
    {kV_bag : Value}
    {f_take : Addr} {oc_take dc_take pm_take cd_take ct_take : Value} {od_take an_take : Option Addr} {sl_take : Array (Option Value)}
    {kV_take : Value}
    {f_of : Addr} {oc_of dc_of pm_of cd_of ct_of : Value} {od_of an_of : Option Addr} {sl_of : Array (Option Value)}
    {kV_of : Value}
    {f_pnd : Addr} {oc_pnd dc_pnd pm_pnd cd_pnd ct_pnd : Value} {od_pnd an_pnd : Option Addr} {sl_pnd : Array (Option Value)}
    {kV_pnd : Value}
    {f_tkn : Addr} {oc_tkn dc_tkn pm_tkn cd_tkn ct_tkn : Value} {od_tkn an_tkn : Option Addr} {sl_tkn : Array (Option Value)}
    {kV_tkn : Value}
    {f_out : Addr} {oc_out dc_out pm_out cd_out ct_out : Value} {od_out an_out : Option Addr} {sl_out : Array (Option Value)}
    {kV_out : Value}
    {f_wtn : Addr} {oc_wtn dc_wtn pm_wtn cd_wtn ct_wtn : Value} {od_wtn an_wtn : Option Addr} {sl_wtn : Array (Option Value)}
    {kV_wtn : Value}
    {f_law : Addr} {oc_law dc_law pm_law cd_law ct_law : Value} {od_law an_law : Option Addr} {sl_law : Array (Option Value)}
    {kV_law : Value}
    {f_ri : Addr} {oc_ri dc_ri pm_ri cd_ri ct_ri : Value} {od_ri an_ri : Option Addr} {sl_ri : Array (Option Value)}
    {kV_ri : Value}
    {f_wi : Addr} {oc_wi dc_wi pm_wi cd_wi ct_wi : Value} {od_wi an_wi : Option Addr} {sl_wi : Array (Option Value)}
    {kV_wi : Value}
    {f_app : Addr} {oc_app dc_app pm_app cd_app ct_app : Value} {od_app an_app : Option Addr} {sl_app : Array (Option Value)}
    {kV_app : Value}
    {f_put : Addr} {oc_put dc_put pm_put cd_put ct_put : Value} {od_put an_put : Option Addr} {sl_put : Array (Option Value)}
    {kV_put : Value}
    {f_stl : Addr} {oc_stl dc_stl pm_stl cd_stl ct_stl : Value} {od_stl an_stl : Option Addr} {sl_stl : Array (Option Value)}
    {kV_stl : Value}
    {f_lof : Addr} {oc_lof dc_lof pm_lof cd_lof ct_lof : Value} {od_lof an_lof : Option Addr} {sl_lof : Array (Option Value)}
    {kV_lof : Value}
    {f_drp : Addr} {oc_drp dc_drp pm_drp cd_drp ct_drp : Value} {od_drp an_drp : Option Addr} {sl_drp : Array (Option Value)}
    {kV_drp : Value}
    {f_chg : Addr} {oc_chg dc_chg pm_chg cd_chg ct_chg : Value} {od_chg an_chg : Option Addr} {sl_chg : Array (Option Value)}
    {kV_chg : Value}
    {f_cpy : Addr} {oc_cpy dc_cpy pm_cpy cd_cpy ct_cpy : Value} {od_cpy an_cpy : Option Addr} {sl_cpy : Array (Option Value)}
    {T_cpy : Addr} {dd_cpy : Option Addr} {nd_cpy : Nat} {sd_cpy : Array (Option Value)}
    {kV_cpy : Value}
    {f_rem : Addr} {oc_rem dc_rem pm_rem cd_rem ct_rem : Value} {od_rem an_rem : Option Addr} {sl_rem : Array (Option Value)}
    {kV_rem : Value}
    {f_ntc : Addr} {oc_ntc dc_ntc pm_ntc cd_ntc ct_ntc : Value} {od_ntc an_ntc : Option Addr} {sl_ntc : Array (Option Value)}
    {kV_ntc : Value}
    {f_rep : Addr} {oc_rep dc_rep pm_rep cd_rep ct_rep : Value} {od_rep an_rep : Option Addr} {sl_rep : Array (Option Value)}
    {kV_rep : Value}
    {f_si : Addr} {oc_si dc_si pm_si cd_si ct_si : Value} {od_si an_si : Option Addr} {sl_si : Array (Option Value)}
    {D_si : Addr}
    {tw_si0 : Tok}
    {tw_si1 : Tok}
    {f_con : Addr} {oc_con dc_con pm_con cd_con ct_con : Value} {od_con an_con : Option Addr} {sl_con : Array (Option Value)}
    {kV_con : Value}
    {f_tof : Addr} {oc_tof dc_tof pm_tof cd_tof ct_tof : Value} {od_tof an_tof : Option Addr} {sl_tof : Array (Option Value)}
    {kV_tof : Value}
    {f_itn : Addr} {oc_itn dc_itn pm_itn cd_itn ct_itn : Value} {od_itn an_itn : Option Addr} {sl_itn : Array (Option Value)}
    {kV_itn : Value}
    {f_tha : Addr} {oc_tha dc_tha pm_tha cd_tha ct_tha : Value} {od_tha an_tha : Option Addr} {sl_tha : Array (Option Value)}
    {kV_tha : Value}
    {f_sra : Addr} {oc_sra dc_sra pm_sra cd_sra ct_sra : Value} {od_sra an_sra : Option Addr} {sl_sra : Array (Option Value)}
    {kV_sra : Value}
    {f_sta : Addr} {oc_sta dc_sta pm_sta cd_sta ct_sta : Value} {od_sta an_sta : Option Addr} {sl_sta : Array (Option Value)}
    {kV_sta : Value}
    {f_frn : Addr} {oc_frn dc_frn pm_frn cd_frn ct_frn : Value} {od_frn an_frn : Option Addr} {sl_frn : Array (Option Value)}
    {kV_frn : Value}
    {f_nth : Addr} {oc_nth dc_nth pm_nth cd_nth ct_nth : Value} {od_nth an_nth : Option Addr} {sl_nth : Array (Option Value)}
    {kV_nth : Value}
    {f_unf : Addr} {oc_unf dc_unf pm_unf cd_unf ct_unf : Value} {od_unf an_unf : Option Addr} {sl_unf : Array (Option Value)}
    {kV_unf : Value}
    {f_rdy : Addr} {oc_rdy dc_rdy pm_rdy cd_rdy ct_rdy : Value} {od_rdy an_rdy : Option Addr} {sl_rdy : Array (Option Value)}
    {kV_rdy : Value}
    {f_nfy : Addr} {oc_nfy dc_nfy pm_nfy cd_nfy ct_nfy : Value} {od_nfy an_nfy : Option Addr} {sl_nfy : Array (Option Value)}
    {kV_nfy : Value}
    {f_nso : Addr} {oc_nso dc_nso pm_nso cd_nso ct_nso : Value} {od_nso an_nso : Option Addr} {sl_nso : Array (Option Value)}
    {kV_nso : Value}
    {f_nse : Addr} {oc_nse dc_nse pm_nse cd_nse ct_nse : Value} {od_nse an_nse : Option Addr} {sl_nse : Array (Option Value)}
    {kV_nse : Value}
    {f_arr : Addr} {oc_arr dc_arr pm_arr cd_arr ct_arr : Value} {od_arr an_arr : Option Addr} {sl_arr : Array (Option Value)}
    {T_arr : Addr} {dd_arr : Option Addr} {nd_arr : Nat} {sd_arr : Array (Option Value)}
    {tv_arr0 : Tok}
    {kV_arr : Value}
    {f_rd : Addr} {oc_rd dc_rd pm_rd cd_rd ct_rd : Value} {od_rd an_rd : Option Addr} {sl_rd : Array (Option Value)}
    {T_rd : Addr} {dd_rd : Option Addr} {nd_rd : Nat} {sd_rd : Array (Option Value)}
    {kV_rd : Value}
    {f_fin : Addr} {oc_fin dc_fin pm_fin cd_fin ct_fin : Value} {od_fin an_fin : Option Addr} {sl_fin : Array (Option Value)}
    {kV_fin : Value}
    {f_row : Addr} {oc_row dc_row pm_row cd_row ct_row : Value} {od_row an_row : Option Addr} {sl_row : Array (Option Value)}
    {kV_row : Value}
    {f_add : Addr} {oc_add dc_add pm_add cd_add ct_add : Value} {od_add an_add : Option Addr} {sl_add : Array (Option Value)}
    {D_add : Addr}
    {tw_add0 : Tok}
    {f_wai : Addr} {oc_wai dc_wai pm_wai cd_wai ct_wai : Value} {od_wai an_wai : Option Addr} {sl_wai : Array (Option Value)}
    {T_wai : Addr} {dd_wai : Option Addr} {nd_wai : Nat} {sd_wai : Array (Option Value)}
    {tv_wai0 : Tok}
    {kV_wai : Value}
    {wW : Addr} {dW : Option Addr} {nW : Nat} {sW : Array (Option Value)} {tW0 tW1 tW2 tMC tML tLP tLN tMP tMN : Tok}
    (gCS : PySem.W.nsIn K mainGlobals "System" = some (some (.ref CS)))
    (pgS : PySem.W.plainGet K CS Str.empty = true)
    (hdS : PySem.W.hasDictIn K CS = true)
    (poS : PySem.W.plainOver K CS = true)
    (saS : PySem.W.findIn K (.ref CS) "__setattr__" = some (some (.builtin "object.__setattr__")))
    (mkS : PySem.W.makesIn K CS = true)
    (kcS : PySem.W.keepIn K (.ref CS) = true)
    (noS0 : PySem.W.findIn K (.ref CS) "process_limit" = some none)
    (noS1 : PySem.W.findIn K (.ref CS) "number_limit" = some none)
    (noS2 : PySem.W.findIn K (.ref CS) "tables" = some none)
    (noS3 : PySem.W.findIn K (.ref CS) "sources" = some none)
    (noS4 : PySem.W.findIn K (.ref CS) "sets" = some none)
    (noS5 : PySem.W.findIn K (.ref CS) "next_thing" = some none)
    (gCW : PySem.W.nsIn K mainGlobals "WaitingSet" = some (some (.ref CW)))
    (pgW : PySem.W.plainGet K CW Str.empty = true)
    (hdW : PySem.W.hasDictIn K CW = true)
    (poW : PySem.W.plainOver K CW = true)
    (saW : PySem.W.findIn K (.ref CW) "__setattr__" = some (some (.builtin "object.__setattr__")))
    (mkW : PySem.W.makesIn K CW = true)
    (kcW : PySem.W.keepIn K (.ref CW) = true)
    (noW0 : PySem.W.findIn K (.ref CW) "entries" = some none)
    (noW1 : PySem.W.findIn K (.ref CW) "queue" = some none)
    (gCR : PySem.W.nsIn K mainGlobals "Registration" = some (some (.ref CR)))
    (pgR : PySem.W.plainGet K CR Str.empty = true)
    (hdR : PySem.W.hasDictIn K CR = true)
    (poR : PySem.W.plainOver K CR = true)
    (saR : PySem.W.findIn K (.ref CR) "__setattr__" = some (some (.builtin "object.__setattr__")))
    (mkR : PySem.W.makesIn K CR = true)
    (kcR : PySem.W.keepIn K (.ref CR) = true)
    (noR0 : PySem.W.findIn K (.ref CR) "number" = some none)
    (noR1 : PySem.W.findIn K (.ref CR) "source" = some none)
    (noR2 : PySem.W.findIn K (.ref CR) "word" = some none)
    (noR3 : PySem.W.findIn K (.ref CR) "armed" = some none)
    (nWR : CW ≠ CR)
    (aint : PySem.W.nsIn K mainGlobals "is_integer" = some (some (.ref f_int)))
    (lint : K.lookup f_int = some ⟨oc_int, od_int, .func (PySem.W.fnOf "is_integer" "is_integer" (defArgs sIsInteger) (defBody sIsInteger) (defScope sIsInteger) .none kV_int dc_int pm_int an_int cd_int ct_int), sl_int⟩)
    (cint : PySem.W.codeIn K cd_int "is_integer" = true)
    (kint : PySem.W.keepIn K (.ref f_int) = true)
    (abet : PySem.W.nsIn K mainGlobals "is_between" = some (some (.ref f_bet)))
    (lbet : K.lookup f_bet = some ⟨oc_bet, od_bet, .func (PySem.W.fnOf "is_between" "is_between" (defArgs sIsBetween) (defBody sIsBetween) (defScope sIsBetween) .none kV_bet dc_bet pm_bet an_bet cd_bet ct_bet), sl_bet⟩)
    (cbet : PySem.W.codeIn K cd_bet "is_between" = true)
    (kbet : PySem.W.keepIn K (.ref f_bet) = true)
    (acnt : PySem.W.nsIn K mainGlobals "is_count" = some (some (.ref f_cnt)))
    (lcnt : K.lookup f_cnt = some ⟨oc_cnt, od_cnt, .func (PySem.W.fnOf "is_count" "is_count" (defArgs sIsCount) (defBody sIsCount) (defScope sIsCount) .none kV_cnt dc_cnt pm_cnt an_cnt cd_cnt ct_cnt), sl_cnt⟩)
    (ccnt : PySem.W.codeIn K cd_cnt "is_count" = true)
    (kcnt : PySem.W.keepIn K (.ref f_cnt) = true)
    (alab : PySem.W.nsIn K mainGlobals "is_label" = some (some (.ref f_lab)))
    (llab : K.lookup f_lab = some ⟨oc_lab, od_lab, .func (PySem.W.fnOf "is_label" "is_label" (defArgs sIsLabel) (defBody sIsLabel) (defScope sIsLabel) .none kV_lab dc_lab pm_lab an_lab cd_lab ct_lab), sl_lab⟩)
    (clab : PySem.W.codeIn K cd_lab "is_label" = true)
    (klab : PySem.W.keepIn K (.ref f_lab) = true)
    (awrd : PySem.W.nsIn K mainGlobals "is_word" = some (some (.ref f_wrd)))
    (lwrd : K.lookup f_wrd = some ⟨oc_wrd, od_wrd, .func (PySem.W.fnOf "is_word" "is_word" (defArgs sIsWord) (defBody sIsWord) (defScope sIsWord) .none kV_wrd dc_wrd pm_wrd an_wrd cd_wrd ct_wrd), sl_wrd⟩)
    (cwrd : PySem.W.codeIn K cd_wrd "is_word" = true)
    (kwrd : PySem.W.keepIn K (.ref f_wrd) = true)
    (abag : PySem.W.nsIn K mainGlobals "_law_bag" = some (some (.ref f_bag)))
    (lbag : K.lookup f_bag = some ⟨oc_bag, od_bag, .func (PySem.W.fnOf "_law_bag" "_law_bag" (defArgs sBag) (defBody sBag) (defScope sBag) .none kV_bag dc_bag pm_bag an_bag cd_bag ct_bag), sl_bag⟩)
    (cbag : PySem.W.codeIn K cd_bag "_law_bag" = true)
    (kbag : PySem.W.keepIn K (.ref f_bag) = true)
    (atake : PySem.W.nsIn K mainGlobals "_law_take" = some (some (.ref f_take)))
    (ltake : K.lookup f_take = some ⟨oc_take, od_take, .func (PySem.W.fnOf "_law_take" "_law_take" (defArgs sTake) (defBody sTake) (defScope sTake) .none kV_take dc_take pm_take an_take cd_take ct_take), sl_take⟩)
    (ctake : PySem.W.codeIn K cd_take "_law_take" = true)
    (ktake : PySem.W.keepIn K (.ref f_take) = true)
    (aof : PySem.W.nsIn K mainGlobals "_law_of" = some (some (.ref f_of)))
    (lof : K.lookup f_of = some ⟨oc_of, od_of, .func (PySem.W.fnOf "_law_of" "_law_of" (defArgs sOf) (defBody sOf) (defScope sOf) .none kV_of dc_of pm_of an_of cd_of ct_of), sl_of⟩)
    (cof : PySem.W.codeIn K cd_of "_law_of" = true)
    (kof : PySem.W.keepIn K (.ref f_of) = true)
    (apnd : PySem.W.nsIn K mainGlobals "_law_pend" = some (some (.ref f_pnd)))
    (lpnd : K.lookup f_pnd = some ⟨oc_pnd, od_pnd, .func (PySem.W.fnOf "_law_pend" "_law_pend" (defArgs sPend) (defBody sPend) (defScope sPend) .none kV_pnd dc_pnd pm_pnd an_pnd cd_pnd ct_pnd), sl_pnd⟩)
    (cpnd : PySem.W.codeIn K cd_pnd "_law_pend" = true)
    (kpnd : PySem.W.keepIn K (.ref f_pnd) = true)
    (atkn : PySem.W.nsIn K mainGlobals "_law_taken" = some (some (.ref f_tkn)))
    (ltkn : K.lookup f_tkn = some ⟨oc_tkn, od_tkn, .func (PySem.W.fnOf "_law_taken" "_law_taken" (defArgs sTaken) (defBody sTaken) (defScope sTaken) .none kV_tkn dc_tkn pm_tkn an_tkn cd_tkn ct_tkn), sl_tkn⟩)
    (ctkn : PySem.W.codeIn K cd_tkn "_law_taken" = true)
    (ktkn : PySem.W.keepIn K (.ref f_tkn) = true)
    (aout : PySem.W.nsIn K mainGlobals "_law_outside" = some (some (.ref f_out)))
    (lout : K.lookup f_out = some ⟨oc_out, od_out, .func (PySem.W.fnOf "_law_outside" "_law_outside" (defArgs sOutside) (defBody sOutside) (defScope sOutside) .none kV_out dc_out pm_out an_out cd_out ct_out), sl_out⟩)
    (cout : PySem.W.codeIn K cd_out "_law_outside" = true)
    (kout : PySem.W.keepIn K (.ref f_out) = true)
    (awtn : PySem.W.nsIn K mainGlobals "_law_within" = some (some (.ref f_wtn)))
    (lwtn : K.lookup f_wtn = some ⟨oc_wtn, od_wtn, .func (PySem.W.fnOf "_law_within" "_law_within" (defArgs sWithin) (defBody sWithin) (defScope sWithin) .none kV_wtn dc_wtn pm_wtn an_wtn cd_wtn ct_wtn), sl_wtn⟩)
    (cwtn : PySem.W.codeIn K cd_wtn "_law_within" = true)
    (kwtn : PySem.W.keepIn K (.ref f_wtn) = true)
    (alaw : PySem.W.nsIn K mainGlobals "law" = some (some (.ref f_law)))
    (llaw : K.lookup f_law = some ⟨oc_law, od_law, .func (PySem.W.fnOf "law" "law" (defArgs sLaw) (defBody sLaw) (defScope sLaw) .none kV_law dc_law pm_law an_law cd_law ct_law), sl_law⟩)
    (claw : PySem.W.codeIn K cd_law "law" = true)
    (klaw : PySem.W.keepIn K (.ref f_law) = true)
    (ari : PySem.W.findIn K (.ref CR) "__init__" = some (some (.ref f_ri)))
    (iri : PySem.W.isFn K (.ref f_ri) = true)
    (lri : K.lookup f_ri = some ⟨oc_ri, od_ri, .func (PySem.W.fnOf "__init__" "Registration.__init__" (defArgs sRegInit) (defBody sRegInit) (defScope sRegInit) .none kV_ri dc_ri pm_ri an_ri cd_ri ct_ri), sl_ri⟩)
    (cri : PySem.W.codeIn K cd_ri "Registration.__init__" = true)
    (kri : PySem.W.keepIn K (.ref f_ri) = true)
    (awi : PySem.W.findIn K (.ref CW) "__init__" = some (some (.ref f_wi)))
    (iwi : PySem.W.isFn K (.ref f_wi) = true)
    (lwi : K.lookup f_wi = some ⟨oc_wi, od_wi, .func (PySem.W.fnOf "__init__" "WaitingSet.__init__" (defArgs sWsInit) (defBody sWsInit) (defScope sWsInit) .none kV_wi dc_wi pm_wi an_wi cd_wi ct_wi), sl_wi⟩)
    (cwi : PySem.W.codeIn K cd_wi "WaitingSet.__init__" = true)
    (kwi : PySem.W.keepIn K (.ref f_wi) = true)
    (aapp : PySem.W.findIn K (.ref CW) "append_pending" = some (some (.ref f_app)))
    (iapp : PySem.W.isFn K (.ref f_app) = true)
    (lapp : K.lookup f_app = some ⟨oc_app, od_app, .func (PySem.W.fnOf "append_pending" "WaitingSet.append_pending" (defArgs sAppend) (defBody sAppend) (defScope sAppend) .none kV_app dc_app pm_app an_app cd_app ct_app), sl_app⟩)
    (capp : PySem.W.codeIn K cd_app "WaitingSet.append_pending" = true)
    (kapp : PySem.W.keepIn K (.ref f_app) = true)
    (aput : PySem.W.findIn K (.ref CW) "put" = some (some (.ref f_put)))
    (iput : PySem.W.isFn K (.ref f_put) = true)
    (lput : K.lookup f_put = some ⟨oc_put, od_put, .func (PySem.W.fnOf "put" "WaitingSet.put" (defArgs sPut) (defBody sPut) (defScope sPut) .none kV_put dc_put pm_put an_put cd_put ct_put), sl_put⟩)
    (cput : PySem.W.codeIn K cd_put "WaitingSet.put" = true)
    (kput : PySem.W.keepIn K (.ref f_put) = true)
    (astl : PySem.W.findIn K (.ref CW) "settle" = some (some (.ref f_stl)))
    (istl : PySem.W.isFn K (.ref f_stl) = true)
    (lstl : K.lookup f_stl = some ⟨oc_stl, od_stl, .func (PySem.W.fnOf "settle" "WaitingSet.settle" (defArgs sSettle) (defBody sSettle) (defScope sSettle) .none kV_stl dc_stl pm_stl an_stl cd_stl ct_stl), sl_stl⟩)
    (cstl : PySem.W.codeIn K cd_stl "WaitingSet.settle" = true)
    (kstl : PySem.W.keepIn K (.ref f_stl) = true)
    (alof : PySem.W.findIn K (.ref CW) "label_of" = some (some (.ref f_lof)))
    (ilof : PySem.W.isFn K (.ref f_lof) = true)
    (llof : K.lookup f_lof = some ⟨oc_lof, od_lof, .func (PySem.W.fnOf "label_of" "WaitingSet.label_of" (defArgs sLabelOf) (defBody sLabelOf) (defScope sLabelOf) .none kV_lof dc_lof pm_lof an_lof cd_lof ct_lof), sl_lof⟩)
    (clof : PySem.W.codeIn K cd_lof "WaitingSet.label_of" = true)
    (klof : PySem.W.keepIn K (.ref f_lof) = true)
    (adrp : PySem.W.findIn K (.ref CW) "drop" = some (some (.ref f_drp)))
    (idrp : PySem.W.isFn K (.ref f_drp) = true)
    (ldrp : K.lookup f_drp = some ⟨oc_drp, od_drp, .func (PySem.W.fnOf "drop" "WaitingSet.drop" (defArgs sDrop) (defBody sDrop) (defScope sDrop) .none kV_drp dc_drp pm_drp an_drp cd_drp ct_drp), sl_drp⟩)
    (cdrp : PySem.W.codeIn K cd_drp "WaitingSet.drop" = true)
    (kdrp : PySem.W.keepIn K (.ref f_drp) = true)
    (achg : PySem.W.findIn K (.ref CS) "change" = some (some (.ref f_chg)))
    (ichg : PySem.W.isFn K (.ref f_chg) = true)
    (lchg : K.lookup f_chg = some ⟨oc_chg, od_chg, .func (PySem.W.fnOf "change" "System.change" (defArgs sChange) (defBody sChange) (defScope sChange) .none kV_chg dc_chg pm_chg an_chg cd_chg ct_chg), sl_chg⟩)
    (cchg : PySem.W.codeIn K cd_chg "System.change" = true)
    (kchg : PySem.W.keepIn K (.ref f_chg) = true)
    (acpy : PySem.W.findIn K (.ref CS) "copy" = some (some (.ref f_cpy)))
    (icpy : PySem.W.isFn K (.ref f_cpy) = true)
    (lcpy : K.lookup f_cpy = some ⟨oc_cpy, od_cpy, .func (PySem.W.fnOf "copy" "System.copy" (defArgs sCopy) (defBody sCopy) (defScope sCopy) (.ref T_cpy) kV_cpy dc_cpy pm_cpy an_cpy cd_cpy ct_cpy), sl_cpy⟩)
    (ccpy : PySem.W.codeIn K cd_cpy "System.copy" = true)
    (kcpy : PySem.W.keepIn K (.ref f_cpy) = true)
    (Lcpy : K.lookup T_cpy = some ⟨.type "tuple", dd_cpy, .seq #[.none] nd_cpy, sd_cpy⟩)
    (arem : PySem.W.findIn K (.ref CS) "remove" = some (some (.ref f_rem)))
    (irem : PySem.W.isFn K (.ref f_rem) = true)
    (lrem : K.lookup f_rem = some ⟨oc_rem, od_rem, .func (PySem.W.fnOf "remove" "System.remove" (defArgs sRemove) (defBody sRemove) (defScope sRemove) .none kV_rem dc_rem pm_rem an_rem cd_rem ct_rem), sl_rem⟩)
    (crem : PySem.W.codeIn K cd_rem "System.remove" = true)
    (krem : PySem.W.keepIn K (.ref f_rem) = true)
    (antc : PySem.W.findIn K (.ref CW) "notice" = some (some (.ref f_ntc)))
    (intc : PySem.W.isFn K (.ref f_ntc) = true)
    (lntc : K.lookup f_ntc = some ⟨oc_ntc, od_ntc, .func (PySem.W.fnOf "notice" "WaitingSet.notice" (defArgs sNotice) (defBody sNotice) (defScope sNotice) .none kV_ntc dc_ntc pm_ntc an_ntc cd_ntc ct_ntc), sl_ntc⟩)
    (cntc : PySem.W.codeIn K cd_ntc "WaitingSet.notice" = true)
    (kntc : PySem.W.keepIn K (.ref f_ntc) = true)
    (arep : PySem.W.findIn K (.ref CW) "take_reports" = some (some (.ref f_rep)))
    (irep : PySem.W.isFn K (.ref f_rep) = true)
    (lrep : K.lookup f_rep = some ⟨oc_rep, od_rep, .func (PySem.W.fnOf "take_reports" "WaitingSet.take_reports" (defArgs sReports) (defBody sReports) (defScope sReports) .none kV_rep dc_rep pm_rep an_rep cd_rep ct_rep), sl_rep⟩)
    (crep : PySem.W.codeIn K cd_rep "WaitingSet.take_reports" = true)
    (krep : PySem.W.keepIn K (.ref f_rep) = true)
    (asi : PySem.W.findIn K (.ref CS) "__init__" = some (some (.ref f_si)))
    (isi : PySem.W.isFn K (.ref f_si) = true)
    (lsi : K.lookup f_si = some ⟨oc_si, od_si, .func (PySem.W.fnOf "__init__" "System.__init__" (defArgs sSysInit) (defBody sSysInit) (defScope sSysInit) .none (.ref D_si) dc_si pm_si an_si cd_si ct_si), sl_si⟩)
    (csi : PySem.W.codeIn K cd_si "System.__init__" = true)
    (ksi : PySem.W.keepIn K (.ref f_si) = true)
    (wsi0 : PySem.W.nsIn K D_si "processes" = some (some (.int 4 tw_si0)))
    (wsi1 : PySem.W.nsIn K D_si "numbers" = some (some (.int 8 tw_si1)))
    (acon : PySem.W.findIn K (.ref CS) "__contains__" = some (some (.ref f_con)))
    (icon : PySem.W.isFn K (.ref f_con) = true)
    (lcon : K.lookup f_con = some ⟨oc_con, od_con, .func (PySem.W.fnOf "__contains__" "System.__contains__" (defArgs sContains) (defBody sContains) (defScope sContains) .none kV_con dc_con pm_con an_con cd_con ct_con), sl_con⟩)
    (ccon : PySem.W.codeIn K cd_con "System.__contains__" = true)
    (kcon : PySem.W.keepIn K (.ref f_con) = true)
    (atof : PySem.W.findIn K (.ref CS) "table_of" = some (some (.ref f_tof)))
    (itof : PySem.W.isFn K (.ref f_tof) = true)
    (ltof : K.lookup f_tof = some ⟨oc_tof, od_tof, .func (PySem.W.fnOf "table_of" "System.table_of" (defArgs sTableOf) (defBody sTableOf) (defScope sTableOf) .none kV_tof dc_tof pm_tof an_tof cd_tof ct_tof), sl_tof⟩)
    (ctof : PySem.W.codeIn K cd_tof "System.table_of" = true)
    (ktof : PySem.W.keepIn K (.ref f_tof) = true)
    (aitn : PySem.W.findIn K (.ref CS) "is_table_number" = some (some (.ref f_itn)))
    (iitn : PySem.W.isFn K (.ref f_itn) = true)
    (litn : K.lookup f_itn = some ⟨oc_itn, od_itn, .func (PySem.W.fnOf "is_table_number" "System.is_table_number" (defArgs sIsTabNum) (defBody sIsTabNum) (defScope sIsTabNum) .none kV_itn dc_itn pm_itn an_itn cd_itn ct_itn), sl_itn⟩)
    (citn : PySem.W.codeIn K cd_itn "System.is_table_number" = true)
    (kitn : PySem.W.keepIn K (.ref f_itn) = true)
    (atha : PySem.W.findIn K (.ref CS) "thing_at" = some (some (.ref f_tha)))
    (itha : PySem.W.isFn K (.ref f_tha) = true)
    (ltha : K.lookup f_tha = some ⟨oc_tha, od_tha, .func (PySem.W.fnOf "thing_at" "System.thing_at" (defArgs sThingAt) (defBody sThingAt) (defScope sThingAt) .none kV_tha dc_tha pm_tha an_tha cd_tha ct_tha), sl_tha⟩)
    (ctha : PySem.W.codeIn K cd_tha "System.thing_at" = true)
    (ktha : PySem.W.keepIn K (.ref f_tha) = true)
    (asra : PySem.W.findIn K (.ref CS) "source_at" = some (some (.ref f_sra)))
    (isra : PySem.W.isFn K (.ref f_sra) = true)
    (lsra : K.lookup f_sra = some ⟨oc_sra, od_sra, .func (PySem.W.fnOf "source_at" "System.source_at" (defArgs sSourceAt) (defBody sSourceAt) (defScope sSourceAt) .none kV_sra dc_sra pm_sra an_sra cd_sra ct_sra), sl_sra⟩)
    (csra : PySem.W.codeIn K cd_sra "System.source_at" = true)
    (ksra : PySem.W.keepIn K (.ref f_sra) = true)
    (asta : PySem.W.findIn K (.ref CS) "set_at" = some (some (.ref f_sta)))
    (ista : PySem.W.isFn K (.ref f_sta) = true)
    (lsta : K.lookup f_sta = some ⟨oc_sta, od_sta, .func (PySem.W.fnOf "set_at" "System.set_at" (defArgs sSetAt) (defBody sSetAt) (defScope sSetAt) .none kV_sta dc_sta pm_sta an_sta cd_sta ct_sta), sl_sta⟩)
    (csta : PySem.W.codeIn K cd_sta "System.set_at" = true)
    (ksta : PySem.W.keepIn K (.ref f_sta) = true)
    (afrn : PySem.W.findIn K (.ref CS) "free_number" = some (some (.ref f_frn)))
    (ifrn : PySem.W.isFn K (.ref f_frn) = true)
    (lfrn : K.lookup f_frn = some ⟨oc_frn, od_frn, .func (PySem.W.fnOf "free_number" "System.free_number" (defArgs sFreeNum) (defBody sFreeNum) (defScope sFreeNum) .none kV_frn dc_frn pm_frn an_frn cd_frn ct_frn), sl_frn⟩)
    (cfrn : PySem.W.codeIn K cd_frn "System.free_number" = true)
    (kfrn : PySem.W.keepIn K (.ref f_frn) = true)
    (anth : PySem.W.findIn K (.ref CS) "new_thing" = some (some (.ref f_nth)))
    (inth : PySem.W.isFn K (.ref f_nth) = true)
    (lnth : K.lookup f_nth = some ⟨oc_nth, od_nth, .func (PySem.W.fnOf "new_thing" "System.new_thing" (defArgs sNewThing) (defBody sNewThing) (defScope sNewThing) .none kV_nth dc_nth pm_nth an_nth cd_nth ct_nth), sl_nth⟩)
    (cnth : PySem.W.codeIn K cd_nth "System.new_thing" = true)
    (knth : PySem.W.keepIn K (.ref f_nth) = true)
    (aunf : PySem.W.findIn K (.ref CS) "unread_of_unfinished" = some (some (.ref f_unf)))
    (iunf : PySem.W.isFn K (.ref f_unf) = true)
    (lunf : K.lookup f_unf = some ⟨oc_unf, od_unf, .func (PySem.W.fnOf "unread_of_unfinished" "System.unread_of_unfinished" (defArgs sUnfinished) (defBody sUnfinished) (defScope sUnfinished) .none kV_unf dc_unf pm_unf an_unf cd_unf ct_unf), sl_unf⟩)
    (cunf : PySem.W.codeIn K cd_unf "System.unread_of_unfinished" = true)
    (kunf : PySem.W.keepIn K (.ref f_unf) = true)
    (ardy : PySem.W.findIn K (.ref CS) "is_ready" = some (some (.ref f_rdy)))
    (irdy : PySem.W.isFn K (.ref f_rdy) = true)
    (lrdy : K.lookup f_rdy = some ⟨oc_rdy, od_rdy, .func (PySem.W.fnOf "is_ready" "System.is_ready" (defArgs sIsReady) (defBody sIsReady) (defScope sIsReady) .none kV_rdy dc_rdy pm_rdy an_rdy cd_rdy ct_rdy), sl_rdy⟩)
    (crdy : PySem.W.codeIn K cd_rdy "System.is_ready" = true)
    (krdy : PySem.W.keepIn K (.ref f_rdy) = true)
    (anfy : PySem.W.findIn K (.ref CS) "notify" = some (some (.ref f_nfy)))
    (infy : PySem.W.isFn K (.ref f_nfy) = true)
    (lnfy : K.lookup f_nfy = some ⟨oc_nfy, od_nfy, .func (PySem.W.fnOf "notify" "System.notify" (defArgs sNotify) (defBody sNotify) (defScope sNotify) .none kV_nfy dc_nfy pm_nfy an_nfy cd_nfy ct_nfy), sl_nfy⟩)
    (cnfy : PySem.W.codeIn K cd_nfy "System.notify" = true)
    (knfy : PySem.W.keepIn K (.ref f_nfy) = true)
    (anso : PySem.W.findIn K (.ref CS) "new_source" = some (some (.ref f_nso)))
    (inso : PySem.W.isFn K (.ref f_nso) = true)
    (lnso : K.lookup f_nso = some ⟨oc_nso, od_nso, .func (PySem.W.fnOf "new_source" "System.new_source" (defArgs sNewSource) (defBody sNewSource) (defScope sNewSource) .none kV_nso dc_nso pm_nso an_nso cd_nso ct_nso), sl_nso⟩)
    (cnso : PySem.W.codeIn K cd_nso "System.new_source" = true)
    (knso : PySem.W.keepIn K (.ref f_nso) = true)
    (anse : PySem.W.findIn K (.ref CS) "new_set" = some (some (.ref f_nse)))
    (inse : PySem.W.isFn K (.ref f_nse) = true)
    (lnse : K.lookup f_nse = some ⟨oc_nse, od_nse, .func (PySem.W.fnOf "new_set" "System.new_set" (defArgs sNewSet) (defBody sNewSet) (defScope sNewSet) .none kV_nse dc_nse pm_nse an_nse cd_nse ct_nse), sl_nse⟩)
    (cnse : PySem.W.codeIn K cd_nse "System.new_set" = true)
    (knse : PySem.W.keepIn K (.ref f_nse) = true)
    (aarr : PySem.W.findIn K (.ref CS) "arrive" = some (some (.ref f_arr)))
    (iarr : PySem.W.isFn K (.ref f_arr) = true)
    (larr : K.lookup f_arr = some ⟨oc_arr, od_arr, .func (PySem.W.fnOf "arrive" "System.arrive" (defArgs sArrive) (defBody sArrive) (defScope sArrive) (.ref T_arr) kV_arr dc_arr pm_arr an_arr cd_arr ct_arr), sl_arr⟩)
    (carr : PySem.W.codeIn K cd_arr "System.arrive" = true)
    (karr : PySem.W.keepIn K (.ref f_arr) = true)
    (Larr : K.lookup T_arr = some ⟨.type "tuple", dd_arr, .seq #[.int 1 tv_arr0] nd_arr, sd_arr⟩)
    (ard : PySem.W.findIn K (.ref CS) "read" = some (some (.ref f_rd)))
    (ird : PySem.W.isFn K (.ref f_rd) = true)
    (lrd : K.lookup f_rd = some ⟨oc_rd, od_rd, .func (PySem.W.fnOf "read" "System.read" (defArgs sRead) (defBody sRead) (defScope sRead) (.ref T_rd) kV_rd dc_rd pm_rd an_rd cd_rd ct_rd), sl_rd⟩)
    (crd : PySem.W.codeIn K cd_rd "System.read" = true)
    (krd : PySem.W.keepIn K (.ref f_rd) = true)
    (Lrd : K.lookup T_rd = some ⟨.type "tuple", dd_rd, .seq #[.none] nd_rd, sd_rd⟩)
    (afin : PySem.W.findIn K (.ref CS) "finish" = some (some (.ref f_fin)))
    (ifin : PySem.W.isFn K (.ref f_fin) = true)
    (lfin : K.lookup f_fin = some ⟨oc_fin, od_fin, .func (PySem.W.fnOf "finish" "System.finish" (defArgs sFinish) (defBody sFinish) (defScope sFinish) .none kV_fin dc_fin pm_fin an_fin cd_fin ct_fin), sl_fin⟩)
    (cfin : PySem.W.codeIn K cd_fin "System.finish" = true)
    (kfin : PySem.W.keepIn K (.ref f_fin) = true)
    (arow : PySem.W.findIn K (.ref CS) "row_of" = some (some (.ref f_row)))
    (irow : PySem.W.isFn K (.ref f_row) = true)
    (lrow : K.lookup f_row = some ⟨oc_row, od_row, .func (PySem.W.fnOf "row_of" "System.row_of" (defArgs sRowOf) (defBody sRowOf) (defScope sRowOf) .none kV_row dc_row pm_row an_row cd_row ct_row), sl_row⟩)
    (crow : PySem.W.codeIn K cd_row "System.row_of" = true)
    (krow : PySem.W.keepIn K (.ref f_row) = true)
    (aadd : PySem.W.findIn K (.ref CS) "add" = some (some (.ref f_add)))
    (iadd : PySem.W.isFn K (.ref f_add) = true)
    (ladd : K.lookup f_add = some ⟨oc_add, od_add, .func (PySem.W.fnOf "add" "System.add" (defArgs sAdd) (defBody sAdd) (defScope sAdd) .none (.ref D_add) dc_add pm_add an_add cd_add ct_add), sl_add⟩)
    (cadd : PySem.W.codeIn K cd_add "System.add" = true)
    (kadd : PySem.W.keepIn K (.ref f_add) = true)
    (wadd0 : PySem.W.nsIn K D_add "word" = some (some (.str "level" tw_add0)))
    (awai : PySem.W.findIn K (.ref CS) "wait" = some (some (.ref f_wai)))
    (iwai : PySem.W.isFn K (.ref f_wai) = true)
    (lwai : K.lookup f_wai = some ⟨oc_wai, od_wai, .func (PySem.W.fnOf "wait" "System.wait" (defArgs sWait) (defBody sWait) (defScope sWait) (.ref T_wai) kV_wai dc_wai pm_wai an_wai cd_wai ct_wai), sl_wai⟩)
    (cwai : PySem.W.codeIn K cd_wai "System.wait" = true)
    (kwai : PySem.W.keepIn K (.ref f_wai) = true)
    (Lwai : K.lookup T_wai = some ⟨.type "tuple", dd_wai, .seq #[.int 1 tv_wai0] nd_wai, sd_wai⟩)
    (z_len : PySem.W.nsIn K mainGlobals "len" = some none)
    (z_enumerate : PySem.W.nsIn K mainGlobals "enumerate" = some none)
    (z_int : PySem.W.nsIn K mainGlobals "int" = some none)
    (z_abs : PySem.W.nsIn K mainGlobals "abs" = some none)
    (z_isinstance : PySem.W.nsIn K mainGlobals "isinstance" = some none)
    (z_bool : PySem.W.nsIn K mainGlobals "bool" = some none)
    (z_list : PySem.W.nsIn K mainGlobals "list" = some none)
    (z_min : PySem.W.nsIn K mainGlobals "min" = some none)
    (z_max : PySem.W.nsIn K mainGlobals "max" = some none)
    (z_range : PySem.W.nsIn K mainGlobals "range" = some none)
    (z_sorted : PySem.W.nsIn K mainGlobals "sorted" = some none)
    (z_dict : PySem.W.nsIn K mainGlobals "dict" = some none)
    (wA : PySem.W.nsIn K mainGlobals "WORDS" = some (some (.ref wW)))
    (LW : K.lookup wW = some ⟨.type "tuple", dW, .seq #[.str "level" tW0, .str "edge" tW1, .str "once" tW2] nW, sW⟩)
    (gMC : PySem.W.nsIn K mainGlobals "MOST_COUNT" = some (some (.int 1000000 tMC)))
    (gML : PySem.W.nsIn K mainGlobals "MOST_LABEL" = some (some (.int 999999 tML)))
    (gLP : PySem.W.nsIn K mainGlobals "LEAST_PROCESSES" = some (some (.int 2 tLP)))
    (gLN : PySem.W.nsIn K mainGlobals "LEAST_NUMBERS" = some (some (.int 3 tLN)))
    (gMP : PySem.W.findIn K (.ref CS) "MOST_PROCESSES" = some (some (.int 6 tMP)))
    (gMN : PySem.W.findIn K (.ref CS) "MOST_NUMBERS" = some (some (.int 8 tMN)))
    (sMP : PySem.W.specialIn K (.int 6 tMP) "__get__" = some none)
    (sMN : PySem.W.specialIn K (.int 8 tMN) "__get__" = some none) :
    ∃ fd : FuncData, (∀ (s : Shared) (u : Value), BindsTo s fd ⟨[u], []⟩ [("_law_script", u)]) ∧ ∀ base : Heap, K.In base → base.Ns mainGlobals mg → FnOk P w K mg base CX0 8 fa fd ["_law_script"] (spLaw K) := by
  have e := hfa.symm.trans (PySem.W.mg_of X G alaw)
  cases e
  have Fint := fun_mk (st := sIsInteger) lint cint kint
  have bint := Fint.binds (ps := ["x"]) fun _ _ _ _ _ _ us hl => by
    obtain ⟨_, rfl⟩ := Ln1 hl
    rfl
  have mint := PySem.W.mg_of X G aint
  have Fbet := fun_mk (st := sIsBetween) lbet cbet kbet
  have bbet := Fbet.binds (ps := ["x", "least", "most"]) fun _ _ _ _ _ _ us hl => by
    obtain ⟨_, _, _, rfl⟩ := Ln3 hl
    rfl
  have mbet := PySem.W.mg_of X G abet
  have Fcnt := fun_mk (st := sIsCount) lcnt ccnt kcnt
  have bcnt := Fcnt.binds (ps := ["x"]) fun _ _ _ _ _ _ us hl => by
    obtain ⟨_, rfl⟩ := Ln1 hl
    rfl
  have mcnt := PySem.W.mg_of X G acnt
  have Flab := fun_mk (st := sIsLabel) llab clab klab
  have blab := Flab.binds (ps := ["x"]) fun _ _ _ _ _ _ us hl => by
    obtain ⟨_, rfl⟩ := Ln1 hl
    rfl
  have mlab := PySem.W.mg_of X G alab
  have Fwrd := fun_mk (st := sIsWord) lwrd cwrd kwrd
  have bwrd := Fwrd.binds (ps := ["x"]) fun _ _ _ _ _ _ us hl => by
    obtain ⟨_, rfl⟩ := Ln1 hl
    rfl
  have mwrd := PySem.W.mg_of X G awrd
  have Fbag := fun_mk (st := sBag) lbag cbag kbag
  have bbag := Fbag.binds (ps := ["_law_script", "_law_at"]) fun _ _ _ _ _ _ us hl => by
    obtain ⟨_, _, rfl⟩ := Ln2 hl
    rfl
  have mbag := PySem.W.mg_of X G abag
  have Ftake := fun_mk (st := sTake) ltake ctake ktake
  have btake := Ftake.binds (ps := ["_law_bag_here", "_law_many"]) fun _ _ _ _ _ _ us hl => by
    obtain ⟨_, _, rfl⟩ := Ln2 hl
    rfl
  have mtake := PySem.W.mg_of X G atake
  have Fof := fun_mk (st := sOf) lof cof kof
  have bof := Fof.binds (ps := ["_law_bag_here", "_law_some"]) fun _ _ _ _ _ _ us hl => by
    obtain ⟨_, _, rfl⟩ := Ln2 hl
    rfl
  have mof := PySem.W.mg_of X G aof
  have Fpnd := fun_mk (st := sPend) lpnd cpnd kpnd
  have bpnd := Fpnd.binds (ps := ["_law_regs", "_law_row", "_law_source", "_law_units"]) fun _ _ _ _ _ _ us hl => by
    obtain ⟨_, _, _, _, rfl⟩ := Ln4 hl
    rfl
  have mpnd := PySem.W.mg_of X G apnd
  have Ftkn := fun_mk (st := sTaken) ltkn ctkn ktkn
  have btkn := Ftkn.binds (ps := ["_law_regs", "_law_row", "_law_units", "_law_most"]) fun _ _ _ _ _ _ us hl => by
    obtain ⟨_, _, _, _, rfl⟩ := Ln4 hl
    rfl
  have mtkn := PySem.W.mg_of X G atkn
  have Fout := fun_mk (st := sOutside) lout cout kout
  have bout := Fout.binds (ps := ["_law_bag_here", "_law_box", "_law_units"]) fun _ _ _ _ _ _ us hl => by
    obtain ⟨_, _, _, rfl⟩ := Ln3 hl
    rfl
  have mout := PySem.W.mg_of X G aout
  have Fwtn := fun_mk (st := sWithin) lwtn cwtn kwtn
  have bwtn := Fwtn.binds (ps := ["_law_bag_here", "_law_box", "_law_side", "_law_regs", "_law_row", "_law_units"]) fun _ _ _ _ _ _ us hl => by
    obtain ⟨_, _, _, _, _, _, rfl⟩ := Ln6 hl
    rfl
  have mwtn := PySem.W.mg_of X G awtn
  have Flaw := fun_mk (st := sLaw) llaw claw klaw
  have blaw := Flaw.binds (ps := ["_law_script"]) fun _ _ _ _ _ _ us hl => by
    obtain ⟨_, rfl⟩ := Ln1 hl
    rfl
  have mlaw := PySem.W.mg_of X G alaw
  have Fri := fun_mk (st := sRegInit) lri cri kri
  have bri := Fri.binds (ps := ["self", "number", "source", "word", "armed"]) fun _ _ _ _ _ _ us hl => by
    obtain ⟨_, _, _, _, _, rfl⟩ := Ln5 hl
    rfl
  have Fwi := fun_mk (st := sWsInit) lwi cwi kwi
  have bwi := Fwi.binds (ps := ["self"]) fun _ _ _ _ _ _ us hl => by
    obtain ⟨_, rfl⟩ := Ln1 hl
    rfl
  have Fapp := fun_mk (st := sAppend) lapp capp kapp
  have bapp := Fapp.binds (ps := ["self", "label"]) fun _ _ _ _ _ _ us hl => by
    obtain ⟨_, _, rfl⟩ := Ln2 hl
    rfl
  have Fput := fun_mk (st := sPut) lput cput kput
  have bput := Fput.binds (ps := ["self", "label", "kept", "ready"]) fun _ _ _ _ _ _ us hl => by
    obtain ⟨_, _, _, _, rfl⟩ := Ln4 hl
    rfl
  have Fstl := fun_mk (st := sSettle) lstl cstl kstl
  have bstl := Fstl.binds (ps := ["self", "label"]) fun _ _ _ _ _ _ us hl => by
    obtain ⟨_, _, rfl⟩ := Ln2 hl
    rfl
  have Flof := fun_mk (st := sLabelOf) llof clof klof
  have blof := Flof.binds (ps := ["self", "number", "source"]) fun _ _ _ _ _ _ us hl => by
    obtain ⟨_, _, _, rfl⟩ := Ln3 hl
    rfl
  have Fdrp := fun_mk (st := sDrop) ldrp cdrp kdrp
  have bdrp := Fdrp.binds (ps := ["self", "label"]) fun _ _ _ _ _ _ us hl => by
    obtain ⟨_, _, rfl⟩ := Ln2 hl
    rfl
  have Fchg := fun_mk (st := sChange) lchg cchg kchg
  have bwchg : KBn K (PySem.W.fnOf "change" "System.change" (defArgs sChange) (defBody sChange) (defScope sChange) .none kV_chg dc_chg pm_chg an_chg cd_chg ct_chg) ["self", "process", "set_number", "number", "word"] 4 ["word"] (fun us ws => us ++ ws) (fun vs zs => vs ++ zs) := ⟨fun s us ws _ hu hw => by
    obtain ⟨_, _, _, _, rfl⟩ := Ln4 hu
    obtain ⟨_, rfl⟩ := Ln1 hw
    exact .of_eq rfl, fun a b => a.append b⟩
  have Fcpy : FunD K "copy" "System.copy" (defArgs sCopy) (defBody sCopy) (defScope sCopy) ([V.non] : List V) ([] : List (Str × V)) f_cpy (PySem.W.fnOf "copy" "System.copy" (defArgs sCopy) (defBody sCopy) (defScope sCopy) (.ref T_cpy) kV_cpy dc_cpy pm_cpy an_cpy cd_cpy ct_cpy) := ⟨⟨_, _, (.ref T_cpy), kV_cpy, _, _, _, _, _, _, rfl, lcpy, ccpy, .inr ⟨(by intro z; cases z), T_cpy, _, [.none], nd_cpy, rfl, Lcpy, rfl, (.cons rfl .nil)⟩, .inl rfl⟩, kcpy⟩
  obtain ⟨dscpy, vcpy, bcpy⟩ := Fcpy.binds1 (ps := ["self", "process", "number", "to"]) 3 0 (by intro z; cases z) rfl fun _ _ _ _ _ _ _ us its hu hi => by
    obtain ⟨_, _, _, rfl⟩ := Ln3 hu
    obtain ⟨_, rfl⟩ := Ln1 hi
    exact ⟨_, rfl, rfl⟩
  have Bcpy : Binds K (PySem.W.fnOf "copy" "System.copy" (defArgs sCopy) (defBody sCopy) (defScope sCopy) (.ref T_cpy) kV_cpy dc_cpy pm_cpy an_cpy cd_cpy ct_cpy) (["self", "process", "number", "to"] : List Str) [] := by
    obtain ⟨ds, v, b⟩ := Fcpy.binds1 (ps := ["self", "process", "number", "to"]) 4 1 (by intro z; cases z) rfl fun _ _ _ _ _ _ _ us its hu hi => by
      obtain ⟨_, _, _, _, rfl⟩ := Ln4 hu
      obtain ⟨_, rfl⟩ := Ln1 hi
      exact ⟨_, rfl, rfl⟩
    cases v
    exact b
  have Frem := fun_mk (st := sRemove) lrem crem krem
  have brem := Frem.binds (ps := ["self", "process", "set_number", "number"]) fun _ _ _ _ _ _ us hl => by
    obtain ⟨_, _, _, _, rfl⟩ := Ln4 hl
    rfl
  have Fntc := fun_mk (st := sNotice) lntc cntc kntc
  have bntc := Fntc.binds (ps := ["self", "source"]) fun _ _ _ _ _ _ us hl => by
    obtain ⟨_, _, rfl⟩ := Ln2 hl
    rfl
  have Frep := fun_mk (st := sReports) lrep crep krep
  have brep := Frep.binds (ps := ["self", "most", "sources"]) fun _ _ _ _ _ _ us hl => by
    obtain ⟨_, _, _, rfl⟩ := Ln3 hl
    rfl
  have Fsi : FunD K "__init__" "System.__init__" (defArgs sSysInit) (defBody sSysInit) (defScope sSysInit) ([] : List V) ([("processes", V.int 4), ("numbers", V.int 8)] : List (Str × V)) f_si (PySem.W.fnOf "__init__" "System.__init__" (defArgs sSysInit) (defBody sSysInit) (defScope sSysInit) .none (.ref D_si) dc_si pm_si an_si cd_si ct_si) := ⟨⟨_, _, .none, (.ref D_si), _, _, _, _, _, _, rfl, lsi, csi, .inl ⟨rfl, rfl⟩, .inr ⟨D_si, rfl, fun q hq => by
    simp only [List.mem_cons, List.not_mem_nil, or_false] at hq
    rcases hq with rfl | rfl
    · exact ⟨_, wsi0, _, rfl⟩
    · exact ⟨_, wsi1, _, rfl⟩⟩⟩, ksi⟩
  obtain ⟨mvsi, bsi⟩ := Fsi.kbinds0 (ps := ["self", "processes", "numbers"]) 1 ["processes", "numbers"] [] (fun us mv ws => us ++ ws) (by intro z; cases z) (fun q hq => absurd hq List.not_mem_nil) (fun a b c => a.append c) fun _ _ _ _ _ _ us mv ws hu hm hw => by
    obtain ⟨_, rfl⟩ := Ln1 hu
    obtain rfl := Ln0 hm
    obtain ⟨_, _, rfl⟩ := Ln2 hw
    rfl
  have Fcon := fun_mk (st := sContains) lcon ccon kcon
  have bcon := Fcon.binds (ps := ["self", "x"]) fun _ _ _ _ _ _ us hl => by
    obtain ⟨_, _, rfl⟩ := Ln2 hl
    rfl
  have Ftof := fun_mk (st := sTableOf) ltof ctof ktof
  have btof := Ftof.binds (ps := ["self", "process"]) fun _ _ _ _ _ _ us hl => by
    obtain ⟨_, _, rfl⟩ := Ln2 hl
    rfl
  have Fitn := fun_mk (st := sIsTabNum) litn citn kitn
  have bitn := Fitn.binds (ps := ["self", "number"]) fun _ _ _ _ _ _ us hl => by
    obtain ⟨_, _, rfl⟩ := Ln2 hl
    rfl
  have Ftha := fun_mk (st := sThingAt) ltha ctha ktha
  have btha := Ftha.binds (ps := ["self", "process", "number"]) fun _ _ _ _ _ _ us hl => by
    obtain ⟨_, _, _, rfl⟩ := Ln3 hl
    rfl
  have Fsra := fun_mk (st := sSourceAt) lsra csra ksra
  have bsra := Fsra.binds (ps := ["self", "process", "number"]) fun _ _ _ _ _ _ us hl => by
    obtain ⟨_, _, _, rfl⟩ := Ln3 hl
    rfl
  have Fsta := fun_mk (st := sSetAt) lsta csta ksta
  have bsta := Fsta.binds (ps := ["self", "process", "set_number"]) fun _ _ _ _ _ _ us hl => by
    obtain ⟨_, _, _, rfl⟩ := Ln3 hl
    rfl
  have Ffrn := fun_mk (st := sFreeNum) lfrn cfrn kfrn
  have bfrn := Ffrn.binds (ps := ["self", "process"]) fun _ _ _ _ _ _ us hl => by
    obtain ⟨_, _, rfl⟩ := Ln2 hl
    rfl
  have Fnth := fun_mk (st := sNewThing) lnth cnth knth
  have bnth := Fnth.binds (ps := ["self", "process"]) fun _ _ _ _ _ _ us hl => by
    obtain ⟨_, _, rfl⟩ := Ln2 hl
    rfl
  have Funf := fun_mk (st := sUnfinished) lunf cunf kunf
  have bunf := Funf.binds (ps := ["self", "source", "number"]) fun _ _ _ _ _ _ us hl => by
    obtain ⟨_, _, _, rfl⟩ := Ln3 hl
    rfl
  have Frdy := fun_mk (st := sIsReady) lrdy crdy krdy
  have brdy := Frdy.binds (ps := ["self", "source"]) fun _ _ _ _ _ _ us hl => by
    obtain ⟨_, _, rfl⟩ := Ln2 hl
    rfl
  have Fnfy := fun_mk (st := sNotify) lnfy cnfy knfy
  have bnfy := Fnfy.binds (ps := ["self", "source"]) fun _ _ _ _ _ _ us hl => by
    obtain ⟨_, _, rfl⟩ := Ln2 hl
    rfl
  have Fnso := fun_mk (st := sNewSource) lnso cnso knso
  have bnso := Fnso.binds (ps := ["self", "process"]) fun _ _ _ _ _ _ us hl => by
    obtain ⟨_, _, rfl⟩ := Ln2 hl
    rfl
  have Fnse := fun_mk (st := sNewSet) lnse cnse knse
  have bnse := Fnse.binds (ps := ["self", "process"]) fun _ _ _ _ _ _ us hl => by
    obtain ⟨_, _, rfl⟩ := Ln2 hl
    rfl
  have Farr : FunD K "arrive" "System.arrive" (defArgs sArrive) (defBody sArrive) (defScope sArrive) ([V.int 1] : List V) ([] : List (Str × V)) f_arr (PySem.W.fnOf "arrive" "System.arrive" (defArgs sArrive) (defBody sArrive) (defScope sArrive) (.ref T_arr) kV_arr dc_arr pm_arr an_arr cd_arr ct_arr) := ⟨⟨_, _, (.ref T_arr), kV_arr, _, _, _, _, _, _, rfl, larr, carr, .inr ⟨(by intro z; cases z), T_arr, _, [.int 1 tv_arr0], nd_arr, rfl, Larr, rfl, (.cons ⟨_, rfl⟩ .nil)⟩, .inl rfl⟩, karr⟩
  obtain ⟨dsarr, varr, barr⟩ := Farr.binds1 (ps := ["self", "process", "number", "many"]) 3 0 (by intro z; cases z) rfl fun _ _ _ _ _ _ _ us its hu hi => by
    obtain ⟨_, _, _, rfl⟩ := Ln3 hu
    obtain ⟨_, rfl⟩ := Ln1 hi
    exact ⟨_, rfl, rfl⟩
  have Barr : Binds K (PySem.W.fnOf "arrive" "System.arrive" (defArgs sArrive) (defBody sArrive) (defScope sArrive) (.ref T_arr) kV_arr dc_arr pm_arr an_arr cd_arr ct_arr) (["self", "process", "number", "many"] : List Str) [] := by
    obtain ⟨ds, v, b⟩ := Farr.binds1 (ps := ["self", "process", "number", "many"]) 4 1 (by intro z; cases z) rfl fun _ _ _ _ _ _ _ us its hu hi => by
      obtain ⟨_, _, _, _, rfl⟩ := Ln4 hu
      obtain ⟨_, rfl⟩ := Ln1 hi
      exact ⟨_, rfl, rfl⟩
    cases v
    exact b
  have Frd : FunD K "read" "System.read" (defArgs sRead) (defBody sRead) (defScope sRead) ([V.non] : List V) ([] : List (Str × V)) f_rd (PySem.W.fnOf "read" "System.read" (defArgs sRead) (defBody sRead) (defScope sRead) (.ref T_rd) kV_rd dc_rd pm_rd an_rd cd_rd ct_rd) := ⟨⟨_, _, (.ref T_rd), kV_rd, _, _, _, _, _, _, rfl, lrd, crd, .inr ⟨(by intro z; cases z), T_rd, _, [.none], nd_rd, rfl, Lrd, rfl, (.cons rfl .nil)⟩, .inl rfl⟩, krd⟩
  obtain ⟨dsrd, vrd, brd⟩ := Frd.binds1 (ps := ["self", "process", "number", "many"]) 3 0 (by intro z; cases z) rfl fun _ _ _ _ _ _ _ us its hu hi => by
    obtain ⟨_, _, _, rfl⟩ := Ln3 hu
    obtain ⟨_, rfl⟩ := Ln1 hi
    exact ⟨_, rfl, rfl⟩
  have Brd : Binds K (PySem.W.fnOf "read" "System.read" (defArgs sRead) (defBody sRead) (defScope sRead) (.ref T_rd) kV_rd dc_rd pm_rd an_rd cd_rd ct_rd) (["self", "process", "number", "many"] : List Str) [] := by
    obtain ⟨ds, v, b⟩ := Frd.binds1 (ps := ["self", "process", "number", "many"]) 4 1 (by intro z; cases z) rfl fun _ _ _ _ _ _ _ us its hu hi => by
      obtain ⟨_, _, _, _, rfl⟩ := Ln4 hu
      obtain ⟨_, rfl⟩ := Ln1 hi
      exact ⟨_, rfl, rfl⟩
    cases v
    exact b
  have Ffin := fun_mk (st := sFinish) lfin cfin kfin
  have bfin := Ffin.binds (ps := ["self", "process", "number"]) fun _ _ _ _ _ _ us hl => by
    obtain ⟨_, _, _, rfl⟩ := Ln3 hl
    rfl
  have Frow := fun_mk (st := sRowOf) lrow crow krow
  have brow := Frow.binds (ps := ["self", "process", "set_number"]) fun _ _ _ _ _ _ us hl => by
    obtain ⟨_, _, _, rfl⟩ := Ln3 hl
    rfl
  have bwrow : KBn K (PySem.W.fnOf "row_of" "System.row_of" (defArgs sRowOf) (defBody sRowOf) (defScope sRowOf) .none kV_row dc_row pm_row an_row cd_row ct_row) ["self", "process", "set_number"] 1 ["process", "set_number"] (fun us ws => us ++ ws) (fun vs zs => vs ++ zs) := ⟨fun s us ws _ hu hw => by
    obtain ⟨_, rfl⟩ := Ln1 hu
    obtain ⟨_, _, rfl⟩ := Ln2 hw
    exact .of_eq rfl, fun a b => a.append b⟩
  have Fadd : FunD K "add" "System.add" (defArgs sAdd) (defBody sAdd) (defScope sAdd) ([] : List V) ([("word", V.str "level")] : List (Str × V)) f_add (PySem.W.fnOf "add" "System.add" (defArgs sAdd) (defBody sAdd) (defScope sAdd) .none (.ref D_add) dc_add pm_add an_add cd_add ct_add) := ⟨⟨_, _, .none, (.ref D_add), _, _, _, _, _, _, rfl, ladd, cadd, .inl ⟨rfl, rfl⟩, .inr ⟨D_add, rfl, fun q hq => by
    simp only [List.mem_cons, List.not_mem_nil, or_false] at hq
    rcases hq with rfl
    · exact ⟨_, wadd0, _, rfl⟩⟩⟩, kadd⟩
  obtain ⟨mvw, bwadd⟩ := Fadd.kbinds0 (ps := ["self", "process", "set_number", "number", "label", "word"]) 5 ["word"] [] (fun us mv ws => us ++ ws) (by intro z; cases z) (fun q hq => absurd hq List.not_mem_nil) (fun a b c => a.append c) fun _ _ _ _ _ _ us mv ws hu hm hw => by
    obtain ⟨_, _, _, _, _, rfl⟩ := Ln5 hu
    obtain rfl := Ln0 hm
    obtain ⟨_, rfl⟩ := Ln1 hw
    rfl
  have Fwai : FunD K "wait" "System.wait" (defArgs sWait) (defBody sWait) (defScope sWait) ([V.int 1] : List V) ([] : List (Str × V)) f_wai (PySem.W.fnOf "wait" "System.wait" (defArgs sWait) (defBody sWait) (defScope sWait) (.ref T_wai) kV_wai dc_wai pm_wai an_wai cd_wai ct_wai) := ⟨⟨_, _, (.ref T_wai), kV_wai, _, _, _, _, _, _, rfl, lwai, cwai, .inr ⟨(by intro z; cases z), T_wai, _, [.int 1 tv_wai0], nd_wai, rfl, Lwai, rfl, (.cons ⟨_, rfl⟩ .nil)⟩, .inl rfl⟩, kwai⟩
  obtain ⟨dswai, vwai, bwai⟩ := Fwai.binds1 (ps := ["self", "process", "set_number", "most"]) 3 0 (by intro z; cases z) rfl fun _ _ _ _ _ _ _ us its hu hi => by
    obtain ⟨_, _, _, rfl⟩ := Ln3 hu
    obtain ⟨_, rfl⟩ := Ln1 hi
    exact ⟨_, rfl, rfl⟩
  have Bwai : Binds K (PySem.W.fnOf "wait" "System.wait" (defArgs sWait) (defBody sWait) (defScope sWait) (.ref T_wai) kV_wai dc_wai pm_wai an_wai cd_wai ct_wai) (["self", "process", "set_number", "most"] : List Str) [] := by
    obtain ⟨ds, v, b⟩ := Fwai.binds1 (ps := ["self", "process", "set_number", "most"]) 4 1 (by intro z; cases z) rfl fun _ _ _ _ _ _ _ us its hu hi => by
      obtain ⟨_, _, _, _, rfl⟩ := Ln4 hu
      obtain ⟨_, rfl⟩ := Ln1 hi
      exact ⟨_, rfl, rfl⟩
    cases v
    exact b
  have tup : ∀ {q : Addr} {dd : Option Addr} {its : Array Value} {n : Nat} {sl : Array (Option Value)} {xs : List Str}, K.lookup q = some ⟨.type "tuple", dd, .seq its n, sl⟩ → its.size ≤ sizeLine → Vals (xs.map V.str) its.toList → ∀ H, SqT K H q (xs.map V.str) := fun e hz hv H => .inr ⟨_, _, _, e, rfl, rfl, hz, hv⟩
  have DT : DrawTxt mg := ⟨(PySem.W.mg_none_of X G z_len), (PySem.W.mg_none_of X G z_enumerate), (PySem.W.mg_none_of X G z_int), (PySem.W.mg_none_of X G z_abs)⟩
  have CT : ChkTxt K mg := ⟨(PySem.W.mg_none_of X G z_isinstance), (PySem.W.mg_none_of X G z_int), (PySem.W.mg_none_of X G z_bool), ⟨tMC, PySem.W.mg_of X G gMC⟩, ⟨tML, PySem.W.mg_of X G gML⟩, ⟨wW, PySem.W.mg_of X G wA, tup (xs := wordsL) LW (by show 3 ≤ sizeLine; decide) (.cons ⟨_, rfl⟩ (.cons ⟨_, rfl⟩ (.cons ⟨_, rfl⟩ .nil)))⟩⟩
  have WT : WsTxt mg := ⟨(PySem.W.mg_none_of X G z_list), (PySem.W.mg_none_of X G z_len)⟩
  have YT : SysTxt mg := ⟨(PySem.W.mg_none_of X G z_enumerate), (PySem.W.mg_none_of X G z_list), (PySem.W.mg_none_of X G z_min)⟩
  have LX : LawTx mg := ⟨(PySem.W.mg_none_of X G z_range), (PySem.W.mg_none_of X G z_max), (PySem.W.mg_none_of X G z_min), (PySem.W.mg_none_of X G z_len), (PySem.W.mg_none_of X G z_list), (PySem.W.mg_none_of X G z_sorted)⟩
  have TS : ClsF K CS sysF := ⟨⟨pgS, hdS, poS, saS⟩, fun f hf => by
    simp only [sysF, List.mem_cons, List.not_mem_nil, or_false] at hf
    rcases hf with rfl | rfl | rfl | rfl | rfl | rfl
    · exact noS0
    · exact noS1
    · exact noS2
    · exact noS3
    · exact noS4
    · exact noS5⟩
  have TW : ClsF K CW wsF := ⟨⟨pgW, hdW, poW, saW⟩, fun f hf => by
    simp only [wsF, List.mem_cons, List.not_mem_nil, or_false] at hf
    rcases hf with rfl | rfl
    · exact noW0
    · exact noW1⟩
  have TR : ClsF K CR regF := ⟨⟨pgR, hdR, poR, saR⟩, fun f hf => by
    simp only [regF, List.mem_cons, List.not_mem_nil, or_false] at hf
    rcases hf with rfl | rfl | rfl | rfl
    · exact noR0
    · exact noR1
    · exact noR2
    · exact noR3⟩
  have LT : LimTxt K mg CS := ⟨⟨tLP, PySem.W.mg_of X G gLP⟩, ⟨tLN, PySem.W.mg_of X G gLN⟩, ⟨_, gMP, ⟨_, rfl⟩, sMP, by decide⟩, ⟨_, gMN, ⟨_, rfl⟩, sMN, by decide⟩⟩
  have KS : Mk K CS f_si := ⟨mkS, asi, isi, kcS⟩
  have gmS := PySem.W.mg_of X G gCS
  have KW : Mk K CW f_wi := ⟨mkW, awi, iwi, kcW⟩
  have gmW := PySem.W.mg_of X G gCW
  have KR : Mk K CR f_ri := ⟨mkR, ari, iri, kcR⟩
  have gmR := PySem.W.mg_of X G gCR
  refine ⟨PySem.W.fnOf "law" "law" (defArgs sLaw) (defBody sLaw) (defScope sLaw) .none kV_law dc_law pm_law an_law cd_law ct_law, fun s u => .of_eq rfl, fun base _ _ => ?_⟩
  have Gint := okIsInteger (P := P) (w := w) (K := K) (mg := mg) (base := base) Fint CT
  have Gbet := okIsBetween (P := P) (w := w) (K := K) (mg := mg) (base := base) Fbet Gint kint mint bint
  have Gcnt := okIsCount (P := P) (w := w) (K := K) (mg := mg) (base := base) Fcnt CT Gbet kbet mbet bbet
  have Glab := okIsLabel (P := P) (w := w) (K := K) (mg := mg) (base := base) Flab CT Gbet kbet mbet bbet
  have Gwrd := okIsWord (P := P) (w := w) (K := K) (mg := mg) (base := base) Fwrd CT
  have Gbag := okBag (P := P) (w := w) (K := K) (mg := mg) (base := base) Fbag DT
  have Gtake := okTake (P := P) (w := w) (K := K) (mg := mg) (base := base) Ftake DT
  have Gof := okOf (P := P) (w := w) (K := K) (mg := mg) (base := base) Fof DT Ftake mtake btake
  have Gpnd := okPend (P := P) (w := w) (K := K) (mg := mg) (base := base) Fpnd 
  have Gtkn := okTaken (P := P) (w := w) (K := K) (mg := mg) (base := base) Ftkn LX
  have Gri := okRegInit (P := P) (w := w) (K := K) (mg := mg) (base := base) Fri TR
  have Gwi := okWsInit (P := P) (w := w) (K := K) (mg := mg) (base := base) Fwi TW
  have Gapp := okAppend (P := P) (w := w) (K := K) (mg := mg) (base := base) Fapp TW
  have Gput := okPut (P := P) (w := w) (K := K) (mg := mg) (base := base) Fput TW Gapp ⟨aapp, iapp, kapp⟩ bapp
  have Gstl := okSettle (P := P) (w := w) (K := K) (mg := mg) (base := base) Fstl TW TR gmR KR Gri bri
  have Glof := okLabelOf (P := P) (w := w) (K := K) (mg := mg) (base := base) Flof TW TR
  have Gdrp := okDrop (P := P) (w := w) (K := K) (mg := mg) (base := base) Fdrp TW
  have Gntc := okNotice (P := P) (w := w) (K := K) (mg := mg) (base := base) Fntc TW TR Gapp ⟨aapp, iapp, kapp⟩ bapp
  have Grep := okReports (P := P) (w := w) (K := K) (mg := mg) (base := base) Frep WT TW TR Gstl ⟨astl, istl, kstl⟩ bstl
  have Gsi := okSysInit (P := P) (w := w) (K := K) (mg := mg) (base := base) (C := ⟨CS, CW, CR⟩) Fsi TS LT ⟨Gbet, kbet, mbet, bbet⟩
  have Gcon := okContains (P := P) (w := w) (K := K) (mg := mg) (base := base) (C := ⟨CS, CW, CR⟩) Fcon TS ⟨Gint, kint, mint, bint⟩
  have Gtof := okTableOf (P := P) (w := w) (K := K) (mg := mg) (base := base) (C := ⟨CS, CW, CR⟩) Ftof TS ⟨Gcon, ⟨acon, icon, kcon⟩, bcon⟩
  have Gitn := okIsTabNum (P := P) (w := w) (K := K) (mg := mg) (base := base) (C := ⟨CS, CW, CR⟩) Fitn TS ⟨Gbet, kbet, mbet, bbet⟩
  have Gtha := okThingAt (P := P) (w := w) (K := K) (mg := mg) (base := base) (C := ⟨CS, CW, CR⟩) Ftha TS ⟨Gtof, ⟨atof, itof, ktof⟩, btof⟩ ⟨Gitn, ⟨aitn, iitn, kitn⟩, bitn⟩
  have Gsra := okSourceAt (P := P) (w := w) (K := K) (mg := mg) (base := base) (C := ⟨CS, CW, CR⟩) Fsra TS ⟨Gtha, ⟨atha, itha, ktha⟩, btha⟩
  have Gsta := okSetAt (P := P) (w := w) (K := K) (mg := mg) (base := base) (C := ⟨CS, CW, CR⟩) Fsta TS ⟨Gtha, ⟨atha, itha, ktha⟩, btha⟩
  have Gfrn := okFreeNum (P := P) (w := w) (K := K) (mg := mg) (base := base) (C := ⟨CS, CW, CR⟩) Ffrn YT TS ⟨Gtof, ⟨atof, itof, ktof⟩, btof⟩
  have Gnth := okNewThing (P := P) (w := w) (K := K) (mg := mg) (base := base) (C := ⟨CS, CW, CR⟩) Fnth TS ⟨Gfrn, ⟨afrn, ifrn, kfrn⟩, bfrn⟩
  have Gunf := okUnfinished (P := P) (w := w) (K := K) (mg := mg) (base := base) (C := ⟨CS, CW, CR⟩) Funf TS
  have Grdy := okIsReady (P := P) (w := w) (K := K) (mg := mg) (base := base) (C := ⟨CS, CW, CR⟩) Frdy TS
  have Gnfy := okNotify (P := P) (w := w) (K := K) (mg := mg) (base := base) (C := ⟨CS, CW, CR⟩) Fnfy TS TW.cl ⟨Gntc, ⟨antc, intc, kntc⟩, bntc⟩
  have Garr := okArrive (P := P) (w := w) (K := K) (mg := mg) (base := base) (C := ⟨CS, CW, CR⟩) Farr TS ⟨Gsra, ⟨asra, isra, ksra⟩, bsra⟩ ⟨Gunf, ⟨aunf, iunf, kunf⟩, bunf⟩ ⟨Gnfy, ⟨anfy, infy, knfy⟩, bnfy⟩ ⟨Gcnt, kcnt, mcnt, bcnt⟩
  have Grd := okRead (P := P) (w := w) (K := K) (mg := mg) (base := base) (C := ⟨CS, CW, CR⟩) Frd YT TS ⟨Gsra, ⟨asra, isra, ksra⟩, bsra⟩ ⟨Gcnt, kcnt, mcnt, bcnt⟩
  have Gfin := okFinish (P := P) (w := w) (K := K) (mg := mg) (base := base) (C := ⟨CS, CW, CR⟩) Ffin TS ⟨Gsra, ⟨asra, isra, ksra⟩, bsra⟩ ⟨Gunf, ⟨aunf, iunf, kunf⟩, bunf⟩ ⟨Gnfy, ⟨anfy, infy, knfy⟩, bnfy⟩
  have Grow := okRowOf (P := P) (w := w) (K := K) (mg := mg) (base := base) (C := ⟨CS, CW, CR⟩) Frow YT TS TW ⟨Gsta, ⟨asta, ista, ksta⟩, bsta⟩
  have Gadd := okAdd (P := P) (w := w) (K := K) (mg := mg) (base := base) (C := ⟨CS, CW, CR⟩) Fadd TS TW ⟨Gsta, ⟨asta, ista, ksta⟩, bsta⟩ ⟨Gsra, ⟨asra, isra, ksra⟩, bsra⟩ ⟨Glab, klab, mlab, blab⟩ ⟨Gwrd, kwrd, mwrd, bwrd⟩ ⟨Glof, ⟨alof, ilof, klof⟩, blof⟩ gmR KR Gri bri ⟨Grdy, ⟨ardy, irdy, krdy⟩, brdy⟩ ⟨Gput, ⟨aput, iput, kput⟩, bput⟩
  have Gwai := okWait (P := P) (w := w) (K := K) (mg := mg) (base := base) (C := ⟨CS, CW, CR⟩) Fwai TS TW ⟨Gsta, ⟨asta, ista, ksta⟩, bsta⟩ ⟨Gcnt, kcnt, mcnt, bcnt⟩ ⟨Grep, ⟨arep, irep, krep⟩, brep⟩
  have Gnso := okNewSource (P := P) (w := w) (K := K) (mg := mg) (base := base) (C := ⟨CS, CW, CR⟩) Fnso TS ⟨Gnth, ⟨anth, inth, knth⟩, bnth⟩
  have Gnse := okNewSet (P := P) (w := w) (K := K) (mg := mg) (base := base) (C := ⟨CS, CW, CR⟩) Fnse TS ⟨Gnth, ⟨anth, inth, knth⟩, bnth⟩ gmW KW Gwi bwi
  have Gchg := okChange (P := P) (w := w) (K := K) (mg := mg) (base := base) (C := ⟨CS, CW, CR⟩) Fchg TS TW ⟨Gsta, ⟨asta, ista, ksta⟩, bsta⟩ ⟨Gsra, ⟨asra, isra, ksra⟩, bsra⟩ ⟨Gwrd, kwrd, mwrd, bwrd⟩ ⟨Glof, ⟨alof, ilof, klof⟩, blof⟩ gmR KR Gri bri ⟨Grdy, ⟨ardy, irdy, krdy⟩, brdy⟩ ⟨Gput, ⟨aput, iput, kput⟩, bput⟩
  have Grem := okRemove (P := P) (w := w) (K := K) (mg := mg) (base := base) (C := ⟨CS, CW, CR⟩) Frem TS TW ⟨Gsta, ⟨asta, ista, ksta⟩, bsta⟩ ⟨Gsra, ⟨asra, isra, ksra⟩, bsra⟩ ⟨Glof, ⟨alof, ilof, klof⟩, blof⟩ ⟨Gdrp, ⟨adrp, idrp, kdrp⟩, bdrp⟩
  have Gcpy := okCopy (P := P) (w := w) (K := K) (mg := mg) (base := base) (C := ⟨CS, CW, CR⟩) Fcpy TS ⟨Gtha, ⟨atha, itha, ktha⟩, btha⟩ ⟨Gitn, ⟨aitn, iitn, kitn⟩, bitn⟩ ⟨Gfrn, ⟨afrn, ifrn, kfrn⟩, bfrn⟩
  have Gout := okOutside (P := P) (w := w) (K := K) (mg := mg) (base := base) (C := ⟨CS, CW, CR⟩) Fout LX TS ⟨Gtake, ktake, mtake, btake⟩ ⟨Garr, ⟨aarr, iarr, karr⟩, barr, varr⟩ ⟨Gfin, ⟨afin, ifin, kfin⟩, bfin⟩ ⟨Grd, ⟨ard, ird, krd⟩, brd, vrd⟩
  have Gwtn := okWithin (P := P) (w := w) (K := K) (mg := mg) (base := base) (C := ⟨CS, CW, CR⟩) Fwtn LX TS ⟨Gtake, ktake, mtake, btake⟩ ⟨Gof, kof, mof, bof⟩ ⟨Gpnd, kpnd, mpnd, bpnd⟩ ⟨Gtkn, ktkn, mtkn, btkn⟩ ⟨Gchg, ⟨achg, ichg, kchg⟩, bwchg⟩ ⟨Gadd, ⟨aadd, iadd, kadd⟩, bwadd⟩ ⟨Grem, ⟨arem, irem, krem⟩, brem⟩ ⟨Gwai, ⟨awai, iwai, kwai⟩, Bwai⟩
  exact okLaw (C := ⟨CS, CW, CR⟩) Flaw LX (PySem.W.mg_none_of X G z_int) TS nWR ⟨Gbag, kbag, mbag, bbag⟩ ⟨Gtake, ktake, mtake, btake⟩ ⟨Gpnd, kpnd, mpnd, bpnd⟩ ⟨Gout, kout, mout, bout⟩ ⟨Gwtn, kwtn, mwtn, bwtn⟩ gmS KS Gsi bsi ⟨Gnse, ⟨anse, inse, knse⟩, bnse⟩ ⟨Gnso, ⟨anso, inso, knso⟩, bnso⟩ ⟨Gcpy, ⟨acpy, icpy, kcpy⟩, bcpy, vcpy⟩ ⟨Grow, ⟨arow, irow, krow⟩, brow⟩ bwrow
theorem walk09 {l : PySem.W.OpenLaw} {q : Program} {loose : List Str} {XP : (Str → Option Value) → Heap → Prop} {YP : World → Heap → Prop} {d : DefRec} {K : Params → PySem.W.Frag} (hn : l.most = some 63) (hdf : d.params.defaults = [])
    (hY : ∀ (w : World) (h : Heap), YP w h → (K w.params).In h)
    (F : ∀ (w : World) (mg : Str → Option Value) (fa : Addr) (h : Heap), (K w.params).In h → h.Ns mainGlobals mg → mg d.name = some (.ref fa) →
      ∃ fd : FuncData, (∀ (s : Shared) (u : Value), BindsTo s fd ⟨[u], []⟩ [("_law_script", u)]) ∧ ∀ base : Heap, (K w.params).In base → base.Ns mainGlobals mg → FnOk l.prog w (K w.params) mg base CX0 8 fa fd ["_law_script"] (spLaw (K w.params))) :
    PySem.W.WalkO q loose XP YP l.row.toRowW d [] (fun f vs => PySem.call f vs) :=
  L2.walk_of (n := 63) (k := 8) (x := "_law_script") (CX := fun _ => CX0) (sp := fun w => spLaw (K w.params)) hn (by decide) hdf ⟨rfl, by decide, by decide⟩ hY F (fun _ _ a ns hl _ hS => ⟨a, ns, rfl, hS, hl, fun _ => rfl⟩) fun _ _ _ _ _ z => z

end Wn
open PySem PySem.W PyProof.Rows in
set_option maxRecDepth 100000 in
set_option maxHeartbeats 0 in
theorem PySem.Challenge.cw_waitnumbers_k09_rows_of_pending_holds : PySem.Challenge.rw_waitnumbers_k09_rows_of_pending.Holds := by
  w_on; o_law; k_head; (case hw => w_witness2)
  k_fill
  refine Wn.walk09 (l := PySem.Challenge.rw_waitnumbers_k09_rows_of_pending) rfl rfl (fun w h Y => PySem.W.kIn_of Y) ?F
  case F =>
    intro w mg fa h KX G hmg
    refine' Wn.all_mk (w := w) KX G hmg ?gCS ?pgS ?hdS ?poS ?saS ?mkS ?kcS ?noS0 ?noS1 ?noS2 ?noS3 ?noS4 ?noS5 ?gCW ?pgW ?hdW ?poW ?saW ?mkW ?kcW ?noW0 ?noW1 ?gCR ?pgR ?hdR ?poR ?saR ?mkR ?kcR ?noR0 ?noR1 ?noR2 ?noR3 ?nWR ?aint ?lint ?cint ?kint ?abet ?lbet ?cbet ?kbet ?acnt ?lcnt ?ccnt ?kcnt ?alab ?llab ?clab ?klab ?awrd ?lwrd ?cwrd ?kwrd ?abag ?lbag ?cbag ?kbag ?atake ?ltake ?ctake ?ktake ?aof ?lof ?cof ?kof ?apnd ?lpnd ?cpnd ?kpnd ?atkn ?ltkn ?ctkn ?ktkn ?aout ?lout ?cout ?kout ?awtn ?lwtn ?cwtn ?kwtn ?alaw ?llaw ?claw ?klaw ?ari ?iri ?lri ?cri ?kri ?awi ?iwi ?lwi ?cwi ?kwi ?aapp ?iapp ?lapp ?capp ?kapp ?aput ?iput ?lput ?cput ?kput ?astl ?istl ?lstl ?cstl ?kstl ?alof ?ilof ?llof ?clof ?klof ?adrp ?idrp ?ldrp ?cdrp ?kdrp ?achg ?ichg ?lchg ?cchg ?kchg ?acpy ?icpy ?lcpy ?ccpy ?kcpy ?Lcpy ?arem ?irem ?lrem ?crem ?krem ?antc ?intc ?lntc ?cntc ?kntc ?arep ?irep ?lrep ?crep ?krep ?asi ?isi ?lsi ?csi ?ksi ?wsi0 ?wsi1 ?acon ?icon ?lcon ?ccon ?kcon ?atof ?itof ?ltof ?ctof ?ktof ?aitn ?iitn ?litn ?citn ?kitn ?atha ?itha ?ltha ?ctha ?ktha ?asra ?isra ?lsra ?csra ?ksra ?asta ?ista ?lsta ?csta ?ksta ?afrn ?ifrn ?lfrn ?cfrn ?kfrn ?anth ?inth ?lnth ?cnth ?knth ?aunf ?iunf ?lunf ?cunf ?kunf ?ardy ?irdy ?lrdy ?crdy ?krdy ?anfy ?infy ?lnfy ?cnfy ?knfy ?anso ?inso ?lnso ?cnso ?knso ?anse ?inse ?lnse ?cnse ?knse ?aarr ?iarr ?larr ?carr ?karr ?Larr ?ard ?ird ?lrd ?crd ?krd ?Lrd ?afin ?ifin ?lfin ?cfin ?kfin ?arow ?irow ?lrow ?crow ?krow ?aadd ?iadd ?ladd ?cadd ?kadd ?wadd0 ?awai ?iwai ?lwai ?cwai ?kwai ?Lwai ?z_len ?z_enumerate ?z_int ?z_abs ?z_isinstance ?z_bool ?z_list ?z_min ?z_max ?z_range ?z_sorted ?z_dict ?wA ?LW ?gMC ?gML ?gLP ?gLN ?gMP ?gMN ?sMP ?sMN
    (case gCS => k_is)
    (case pgS => k_is)
    (case hdS => k_is)
    (case poS => k_is)
    (case saS => k_is)
    (case mkS => k_is)
    (case kcS => k_is)
    (case noS0 => k_is)
    (case noS1 => k_is)
    (case noS2 => k_is)
    (case noS3 => k_is)
    (case noS4 => k_is)
    (case noS5 => k_is)
    (case gCW => k_is)
    (case pgW => k_is)
    (case hdW => k_is)
    (case poW => k_is)
    (case saW => k_is)
    (case mkW => k_is)
    (case kcW => k_is)
    (case noW0 => k_is)
    (case noW1 => k_is)
    (case gCR => k_is)
    (case pgR => k_is)
    (case hdR => k_is)
    (case poR => k_is)
    (case saR => k_is)
    (case mkR => k_is)
    (case kcR => k_is)
    (case noR0 => k_is)
    (case noR1 => k_is)
    (case noR2 => k_is)
    (case noR3 => k_is)
    (case nWR => decide)
    (case aint => k_is)
    (case lint => k_is)
    (case cint => k_is)
    (case kint => k_is)
    (case abet => k_is)
    (case lbet => k_is)
    (case cbet => k_is)
    (case kbet => k_is)
    (case acnt => k_is)
    (case lcnt => k_is)
    (case ccnt => k_is)
    (case kcnt => k_is)
    (case alab => k_is)
    (case llab => k_is)
    (case clab => k_is)
    (case klab => k_is)
    (case awrd => k_is)
    (case lwrd => k_is)
    (case cwrd => k_is)
    (case kwrd => k_is)
    (case abag => k_is)
    (case lbag => k_is)
    (case cbag => k_is)
    (case kbag => k_is)
    (case atake => k_is)
    (case ltake => k_is)
    (case ctake => k_is)
    (case ktake => k_is)
    (case aof => k_is)
    (case lof => k_is)
    (case cof => k_is)
    (case kof => k_is)
    (case apnd => k_is)
    (case lpnd => k_is)
    (case cpnd => k_is)
    (case kpnd => k_is)
    (case atkn => k_is)
    (case ltkn => k_is)
    (case ctkn => k_is)
    (case ktkn => k_is)
    (case aout => k_is)
    (case lout => k_is)
    (case cout => k_is)
    (case kout => k_is)
    (case awtn => k_is)
    (case lwtn => k_is)
    (case cwtn => k_is)
    (case kwtn => k_is)
    (case alaw => k_is)
    (case llaw => k_is)
    (case claw => k_is)
    (case klaw => k_is)
    (case ari => k_is)
    (case iri => k_is)
    (case lri => k_is)
    (case cri => k_is)
    (case kri => k_is)
    (case awi => k_is)
    (case iwi => k_is)
    (case lwi => k_is)
    (case cwi => k_is)
    (case kwi => k_is)
    (case aapp => k_is)
    (case iapp => k_is)
    (case lapp => k_is)
    (case capp => k_is)
    (case kapp => k_is)
    (case aput => k_is)
    (case iput => k_is)
    (case lput => k_is)
    (case cput => k_is)
    (case kput => k_is)
    (case astl => k_is)
    (case istl => k_is)
    (case lstl => k_is)
    (case cstl => k_is)
    (case kstl => k_is)
    (case alof => k_is)
    (case ilof => k_is)
    (case llof => k_is)
    (case clof => k_is)
    (case klof => k_is)
    (case adrp => k_is)
    (case idrp => k_is)
    (case ldrp => k_is)
    (case cdrp => k_is)
    (case kdrp => k_is)
    (case achg => k_is)
    (case ichg => k_is)
    (case lchg => k_is)
    (case cchg => k_is)
    (case kchg => k_is)
    (case acpy => k_is)
    (case icpy => k_is)
    (case lcpy => k_is)
    (case ccpy => k_is)
    (case kcpy => k_is)
    (case Lcpy => k_is)
    (case arem => k_is)
    (case irem => k_is)
    (case lrem => k_is)
    (case crem => k_is)
    (case krem => k_is)
    (case antc => k_is)
    (case intc => k_is)
    (case lntc => k_is)
    (case cntc => k_is)
    (case kntc => k_is)
    (case arep => k_is)
    (case irep => k_is)
    (case lrep => k_is)
    (case crep => k_is)
    (case krep => k_is)
    (case asi => k_is)
    (case isi => k_is)
    (case lsi => k_is)
    (case csi => k_is)
    (case ksi => k_is)
    (case wsi0 => k_is)
    (case wsi1 => k_is)
    (case acon => k_is)
    (case icon => k_is)
    (case lcon => k_is)
    (case ccon => k_is)
    (case kcon => k_is)
    (case atof => k_is)
    (case itof => k_is)
    (case ltof => k_is)
    (case ctof => k_is)
    (case ktof => k_is)
    (case aitn => k_is)
    (case iitn => k_is)
    (case litn => k_is)
    (case citn => k_is)
    (case kitn => k_is)
    (case atha => k_is)
    (case itha => k_is)
    (case ltha => k_is)
    (case ctha => k_is)
    (case ktha => k_is)
    (case asra => k_is)
    (case isra => k_is)
    (case lsra => k_is)
    (case csra => k_is)
    (case ksra => k_is)
    (case asta => k_is)
    (case ista => k_is)
    (case lsta => k_is)
    (case csta => k_is)
    (case ksta => k_is)
    (case afrn => k_is)
    (case ifrn => k_is)
    (case lfrn => k_is)
    (case cfrn => k_is)
    (case kfrn => k_is)
    (case anth => k_is)
    (case inth => k_is)
    (case lnth => k_is)
    (case cnth => k_is)
    (case knth => k_is)
    (case aunf => k_is)
    (case iunf => k_is)
    (case lunf => k_is)
    (case cunf => k_is)
    (case kunf => k_is)
    (case ardy => k_is)
    (case irdy => k_is)
    (case lrdy => k_is)
    (case crdy => k_is)
    (case krdy => k_is)
    (case anfy => k_is)
    (case infy => k_is)
    (case lnfy => k_is)
    (case cnfy => k_is)
    (case knfy => k_is)
    (case anso => k_is)
    (case inso => k_is)
    (case lnso => k_is)
    (case cnso => k_is)
    (case knso => k_is)
    (case anse => k_is)
    (case inse => k_is)
    (case lnse => k_is)
    (case cnse => k_is)
    (case knse => k_is)
    (case aarr => k_is)
    (case iarr => k_is)
    (case larr => k_is)
    (case carr => k_is)
    (case karr => k_is)
    (case Larr => k_is)
    (case ard => k_is)
    (case ird => k_is)
    (case lrd => k_is)
    (case crd => k_is)
    (case krd => k_is)
    (case Lrd => k_is)
    (case afin => k_is)
    (case ifin => k_is)
    (case lfin => k_is)
    (case cfin => k_is)
    (case kfin => k_is)
    (case arow => k_is)
    (case irow => k_is)
    (case lrow => k_is)
    (case crow => k_is)
    (case krow => k_is)
    (case aadd => k_is)
    (case iadd => k_is)
    (case ladd => k_is)
    (case cadd => k_is)
    (case kadd => k_is)
    (case wadd0 => k_is)
    (case awai => k_is)
    (case iwai => k_is)
    (case lwai => k_is)
    (case cwai => k_is)
    (case kwai => k_is)
    (case Lwai => k_is)
    (case z_len => k_is)
    (case z_enumerate => k_is)
    (case z_int => k_is)
    (case z_abs => k_is)
    (case z_isinstance => k_is)
    (case z_bool => k_is)
    (case z_list => k_is)
    (case z_min => k_is)
    (case z_max => k_is)
    (case z_range => k_is)
    (case z_sorted => k_is)
    (case z_dict => k_is)
    (case wA => k_is)
    (case LW => k_is)
    (case gMC => k_is)
    (case gML => k_is)
    (case gLP => k_is)
    (case gLN => k_is)
    (case gMP => k_is)
    (case gMN => k_is)
    (case sMP => first | k_is | rfl)
    (case sMN => first | k_is | rfl)

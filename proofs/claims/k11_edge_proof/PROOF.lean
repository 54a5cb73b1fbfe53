import PyProof.Rows.All
import Wide.All
import OpenK.AllK
import Wide.FinOn
import HandS.ForMost
import HandS.Wide
import HandS.Evl
import HandS.Walk
import HandS.NoneIn
import HandS.IsInst
import HandS.More
import HandS.Defaults
import HandS.MakeKwOnly
import HandS.Conv
import HandS.Style
import HandS.OwnEq
import HandS.DictComp
import HandS.SortRule
import PySem.Challenge.RW_waitnumbers_k11_edge_and_once
set_option Elab.async false
set_option linter.all false
set_option maxRecDepth 100000
set_option maxHeartbeats 4000000
namespace Wn
open PySem PySem.Spec PyProof.Rows L2 Evl
def top (i : Nat) : Stmt := PySem.Challenge.pw_waitnumbers_k11_edge_and_once.main.body.getD i (.Pass ⟨0, 0, 0, 0⟩)
abbrev sBag : Stmt := top 32
abbrev sTake : Stmt := top 33
abbrev sOf : Stmt := top 34
/-! readings with names -/
def rInt1 : List V → Hp → VK → Prop := fun xs H Q => (∃ i, xs = [.int i] ∧ Q (.int i) H) ∨ ∃ k, xs = [.bl k] ∧ Q (.int (if k = true then 1 else 0)) H
def rAbs : List V → Hp → VK → Prop := fun xs H Q => ∃ i, xs = [.int i] ∧ Q (.int (if i < 0 then -i else i)) H
theorem cInt1 {X : Cx} : CallR X (.type "int") rInt1 := call_int1
theorem cAbs {X : Cx} : CallR X (.builtin "abs") rAbs := call_abs
def rIsN : R2 := fun x y H Q => y = .non ∧ Q (.bl (decide (x = .non))) H
def rNotN : R2 := fun x y H Q => y = .non ∧ Q (.bl (!decide (x = .non))) H
def rAddS : R2 := fun x y H Q => ∃ i j, x = .str i ∧ y = .str j ∧ i.length + j.length ≤ sizeLine ∧ Q (.str (i ++ j)) H
def rLenQ (K : PySem.W.Frag) : List V → Hp → VK → Prop := fun xs H Q => ∃ p ys, xs = [.ref p] ∧ (SqL K H p ys ∨ SqT K H p ys) ∧ Q (.int ys.length) H
def rLenS : List V → Hp → VK → Prop := fun xs H Q => ∃ z, xs = [.str z] ∧ z.length ≤ sizeLine ∧ Q (.int z.length) H
def rMax2 : List V → Hp → VK → Prop := fun xs H Q => ∃ i j, xs = [.int i, .int j] ∧ Q (.int (if j > i then j else i)) H
def rMin2 : List V → Hp → VK → Prop := fun xs H Q => ∃ i j, xs = [.int i, .int j] ∧ Q (.int (if j < i then j else i)) H
theorem oIsN {X : Cx} : OpR X (compareOp .Is) rIsN := op_isN
theorem oNotN {X : Cx} : OpR X (compareOp .IsNot) rNotN := op_notN
theorem oAddS {X : Cx} : OpR X (binaryOp .Add) rAddS := op_add_str
theorem cLenQ {X : Cx} : CallR X (.builtin "len") (rLenQ X.K) := call_len_seq
theorem cLenS {X : Cx} : CallR X (.builtin "len") rLenS := call_len_str
theorem cMax2 {X : Cx} (hc : X.calm = true) : CallR X (.builtin "max") rMax2 := call_max2 hc
theorem cMin2 {X : Cx} (hc : X.calm = true) : CallR X (.builtin "min") rMin2 := call_min2 hc
/-! one step of a reading -/
section
variable {σ : L2.St} {H : Hp} {Q : VK} {ta tb te : TE} {tl : TA} {t u : TS} {D : Ends} {c : TT} {r : R2} {v : V} {i : Nat}
theorem g_var (h : σ[i]? = some (some v)) (q : Q v H) : tVar i σ H Q := ⟨v, h, q⟩
theorem g_c (q : Q v H) : tC v σ H Q := q
theorem g_op (q : ta σ H fun x H1 => tb σ H1 fun y H2 => r x y H2 Q) : tOp r ta tb σ H Q := q
theorem g_un {r : V → Hp → VK → Prop} (q : ta σ H fun x H1 => r x H1 Q) : tUn r ta σ H Q := q
theorem g_rI0 {g : Int → Int → V} {a b : Int} (q : Q (g a b) H) : rI0 g (.int a) (.int b) H Q := ⟨a, b, rfl, rfl, q⟩
theorem g_rI {C : Int → Int → Prop} {g : Int → Int → V} {a b : Int} (hc : C a b) (q : Q (g a b) H) : rI C g (.int a) (.int b) H Q := ⟨a, b, rfl, rfl, hc, q⟩
theorem g_mul {a b : Int} (h : (-(2 ^ 64) < a ∧ a < 2 ^ 64) ∨ (-(2 ^ 64) < b ∧ b < 2 ^ 64)) (q : Q (.int (a * b)) H) : rI CMul (fun i j => .int (i * j)) (.int a) (.int b) H Q := ⟨a, b, rfl, rfl, h, q⟩
theorem g_mod {a b : Int} (h : 0 < b) (q : Q (.int (a % b)) H) : rI (fun _ j => 0 < j) (fun i j => .int (i % j)) (.int a) (.int b) H Q := ⟨a, b, rfl, rfl, h, q⟩
theorem g_rEq {x y : V} (h : scal x y = true) (q : Q (.bl (decide (x = y))) H) : rEq x y H Q := ⟨h, q⟩
theorem g_rNe {x y : V} (h : scal x y = true) (q : Q (.bl (!decide (x = y))) H) : rNe x y H Q := ⟨h, q⟩
theorem g_asg {g : TG} (q : te σ H fun x H1 => g x σ H1 D.nx) : tAsg te g D σ H := q
theorem g_name {k : L2.St → Hp → Prop} (q : k (σ.set i (some v)) H) : gName i v σ H k := q
theorem g_seq (q : t { D with nx := u D } σ H) : tSeq t u D σ H := q
theorem g_ret (q : te σ H D.rt) : tRet te D σ H := q
theorem g_retN (q : D.rt .non H) : tRetN D σ H := q
theorem g_next (q : D.nx σ H) : tNext D σ H := q
theorem g_drop (q : te σ H fun _ H1 => D.nx σ H1) : tDrop te D σ H := q
theorem g_nil {k : List V → Hp → Prop} (q : k [] H) : tNil σ H k := q
theorem g_cons {k : List V → Hp → Prop} (q : ta σ H fun x H1 => tl σ H1 fun xs H2 => k (x :: xs) H2) : tCons ta tl σ H k := q
theorem g_cb {r : List V → Hp → VK → Prop} (q : tl σ H fun vs H1 => r vs H1 Q) : tCB r tl σ H Q := q
theorem g_test {k : Bool → Hp → Prop} (q : te σ H fun x H1 => ∃ b, x = .bl b ∧ k b H1) : tTest te σ H k := q
theorem g_tB {k : Bool → Hp → Prop} (q : te σ H fun x H1 => ∃ b, x = .bl b ∧ k b H1) : tB te σ H k := q
theorem g_bl {b : Bool} {k : Bool → Prop} (q : k b) : ∃ z, V.bl b = .bl z ∧ k z := ⟨b, rfl, q⟩
theorem g_if (q : c σ H fun b H1 => if b = true then ta σ H1 Q else tb σ H1 Q) : tIf c ta tb σ H Q := q
theorem g_ifs (q : c σ H fun b H1 => if b = true then t D σ H1 else u D σ H1) : tIfS c t u D σ H := q
theorem g_not {k : Bool → Hp → Prop} (q : c σ H fun b H1 => k (!b) H1) : tNot c σ H k := q
theorem g_part {k : Option Int → Hp → Prop} (q : te σ H fun x H1 => ∃ z, x = .int z ∧ k (some z) H1) : tPart te σ H k := q
theorem g_pint {z : Int} {k : Int → Prop} (q : k z) : ∃ y, V.int z = .int y ∧ k y := ⟨z, rfl, q⟩
theorem g_lst (q : tl σ H fun xs H1 => xs.length ≤ sizeLine ∧ ∀ p, H1 p = none → Q (.ref p) (upd H1 p (.lst xs))) : tLst tl σ H Q := q
theorem g_tup (q : tl σ H fun xs H1 => xs.length ≤ sizeLine ∧ ∀ p, H1 p = none → Q (.ref p) (upd H1 p (.tup xs))) : tTup tl σ H Q := q
theorem g_ixL {K : PySem.W.Frag} {p : Addr} {xs : List V} {z : Int} (h : H p = some (.lst xs)) (a : atI xs z = some v) (q : Q v H) : rIxL K (.ref p) (.int z) H Q := ⟨p, xs, z, v, rfl, rfl, SqL.of h, a, q⟩
theorem cdivw_of {a b : Int} (h0 : 0 < b) (h1 : b < 4611686018427387904) : CDivW a b := wide_div (b := 62) h0 (by omega) (by decide) (by decide)
theorem g_div {a b : Int} (h0 : 0 < b) (h1 : b < 4611686018427387904) (q : Q (.int (a / b)) H) : rI CDivW (fun i j => .int (i / j)) (.int a) (.int b) H Q := ⟨a, b, rfl, rfl, cdivw_of h0 h1, q⟩
theorem g_sub {to ti : TE} {ts : TSet} {k : L2.St → Hp → Prop} (q : to σ H fun o H1 => ti σ H1 fun i H2 => ts o i v H2 fun H3 => k σ H3) : gSub to ti ts v σ H k := q
theorem g_setL {p : Addr} {xs : List V} {z : Int} {j : Nat} {k : Hp → Prop} (h : H p = some (.lst xs)) (a : ixN xs.length z = some j) (q : k (upd H p (.lst (xs.set j v)))) : rSetL (.ref p) (.int z) v H k := ⟨p, xs, z, j, rfl, rfl, h, a, q⟩
theorem g_nopart {k : Option Int → Hp → Prop} (q : k none H) : tNoPart σ H k := q
theorem g_call {sp : Sp} {dvs : List V} {E : XK} (q : tl σ H fun vs H1 => sp (vs ++ dvs) H1 Q E) : tCall sp dvs E tl σ H Q := q
theorem g_rint (z : Int) (q : Q (.int z) H) : rInt1 [.int z] H Q := .inl ⟨z, rfl, q⟩
theorem g_rabs {z : Int} (q : Q (.int (if z < 0 then -z else z)) H) : rAbs [.int z] H Q := ⟨z, rfl, q⟩
theorem g_sl {r : V → Option Int → Option Int → Hp → VK → Prop} {a b : TO} (q : te σ H fun x H1 => a σ H1 fun l H2 => b σ H2 fun h H3 => r x l h H3 Q) : tSl r te a b σ H Q := q
theorem g_rIsN {x : V} (q : Q (.bl (decide (x = .non))) H) : rIsN x .non H Q := ⟨rfl, q⟩
theorem g_rNotN {x : V} (q : Q (.bl (!decide (x = .non))) H) : rNotN x .non H Q := ⟨rfl, q⟩
theorem g_lenL {K : PySem.W.Frag} {p : Addr} {xs : List V} (h : H p = some (.lst xs)) (q : Q (.int xs.length) H) : rLenQ K [.ref p] H Q := ⟨p, xs, rfl, .inl (SqL.of h), q⟩
theorem g_max2 {a b : Int} (q : Q (.int (if b > a then b else a)) H) : rMax2 [.int a, .int b] H Q := ⟨a, b, rfl, q⟩
theorem g_min2 {a b : Int} (q : Q (.int (if b < a then b else a)) H) : rMin2 [.int a, .int b] H Q := ⟨a, b, rfl, q⟩
theorem g_and {t u : TT} {k : Bool → Hp → Prop} (q : t σ H fun b H1 => if b = true then u σ H1 k else k false H1) : tAnd t u σ H k := q
theorem g_or {t u : TT} {k : Bool → Hp → Prop} (q : t σ H fun b H1 => if b = true then k true H1 else u σ H1 k) : tOr t u σ H k := q
theorem g_orV (q : ta σ H fun x H1 => ∃ b, x = .bl b ∧ if b = true then Q (.bl true) H1 else tb σ H1 Q) : tOrV ta tb σ H Q := q
theorem g_andV (q : ta σ H fun x H1 => ∃ b, x = .bl b ∧ if b = true then tb σ H1 Q else Q (.bl false) H1) : tAndV ta tb σ H Q := q
theorem g_notV (q : ta σ H fun x H1 => ∃ b, x = .bl b ∧ Q (.bl (!b)) H1) : tNotV ta σ H Q := q
theorem g_m0 {r : V → List V → Hp → VK → Prop} (q : ta σ H fun x H1 => (∃ a, x = .str a) ∧ r x [] H1 Q) : tM0 r ta σ H Q := q
theorem g_m1 {r : V → List V → Hp → VK → Prop} (q : ta σ H fun x H1 => (∃ a, x = .str a) ∧ tb σ H1 fun y H2 => r x [y] H2 Q) : tM1 r ta tb σ H Q := q
theorem g_isS {z : Str} {c : Prop} (q : c) : (∃ a, V.str z = .str a) ∧ c := ⟨⟨z, rfl⟩, q⟩
theorem g_bT {A B : Prop} (q : A) : if true = true then A else B := iteT q
theorem g_bF {A B : Prop} (q : B) : if false = true then A else B := iteF q
theorem g_bNT {A B : Prop} (q : B) : if (!true) = true then A else B := iteF q
theorem g_bNF {A B : Prop} (q : A) : if (!false) = true then A else B := iteT q
theorem g_bm {K : PySem.W.Frag} {T : String} {r : V → List V → Hp → VK → Prop} (q : ta σ H fun x H1 => tyV K T x H1 ∧ tl σ H1 fun xs H2 => r x xs H2 Q) : tBM K T r ta tl σ H Q := q
theorem g_bm0 {K : PySem.W.Frag} {T : String} {r : V → List V → Hp → VK → Prop} (q : ta σ H fun x H1 => tyV K T x H1 ∧ r x [] H1 Q) : tBM0 K T r ta σ H Q := q
theorem g_tyL {K : PySem.W.Frag} {p : Addr} {xs : List V} {c : Prop} (h : H p = some (.lst xs)) (q : c) : tyV K "list" (.ref p) H ∧ c := ⟨.inl ⟨rfl, _, SqL.of h⟩, q⟩
theorem g_lit {L : List V} {n : Nat} (h : L.length ≤ n) (z : n ≤ 100) : L.length ≤ 100 := Nat.le_trans h z
theorem g_yes {k : Bool → Hp → Prop} (q : k true H) : tYes σ H k := q
theorem g_nes {x : V} {A B : Prop} (q : B) : if (!decide (x = x)) = true then A else B := by
  rw [decide_eq_true rfl]
  exact iteF q
theorem g_es {x : V} {A B : Prop} (q : A) : if decide (x = x) = true then A else B := by
  rw [decide_eq_true rfl]
  exact iteT q
theorem g_callK {sp : Sp} {gV : List V → List V → List V} {E : XK} {tk : TA} (q : tl σ H fun vs H1 => tk σ H1 fun zs H2 => sp (gV vs zs) H2 Q E) : tCallK sp gV E tl tk σ H Q := q
theorem g_isN {x : V} (q : ta σ H fun x H1 => Q (.bl (decide (x = .non))) H1) : tIsN ta σ H Q := q
end
local macro_rules | `(tactic| walk_at "wn1") => `(tactic| first | ((with_reducible show (if (!decide _) = true then _ else _)); refine' g_nes ?_) | ((with_reducible show (if (decide _) = true then _ else _)); refine' g_es ?_) | with_reducible first
  | (refine' g_var ?h ?q; (case h => with_unfolding_all rfl))
  | refine' g_c ?_ | refine' g_op ?_ | refine' g_rI0 ?_ | refine' g_asg ?_ | refine' g_name ?_ | refine' g_seq ?_ | refine' g_ret ?_ | refine' g_retN ?_ | refine' g_next ?_ | refine' g_drop ?_
  | refine' g_nil ?_ | refine' g_cons ?_ | refine' g_cb ?_ | refine' g_test ?_ | refine' g_bl ?_ | refine' g_if ?_ | refine' g_ifs ?_ | refine' g_not ?_ | refine' g_part ?_ | refine' g_pint ?_ | refine' g_nopart ?_ | refine' g_call ?_
  | (refine' g_mul ?h ?q; (case h => with_unfolding_all first | exact Or.inl ⟨by decide, by decide⟩ | exact Or.inr ⟨by decide, by decide⟩ | exact Or.inl ⟨by omega, by omega⟩ | exact Or.inr ⟨by omega, by omega⟩))
  | (refine' g_mod ?h ?q; (case h => with_unfolding_all first | decide | omega))
  | refine' g_rIsN ?_ | refine' g_rNotN ?_ | refine' g_max2 ?_ | refine' g_min2 ?_ | refine' g_and ?_ | refine' g_or ?_ | refine' g_orV ?_ | refine' g_andV ?_ | refine' g_notV ?_ | refine' g_m1 ?_ | refine' g_yes ?_ | refine' g_bm ?_ | refine' g_bm0 ?_
  | (refine' g_tyL ?h ?q; (case h => first | assumption | exact upd_same))
  | refine' g_m0 ?_ | refine' g_tB ?_ | refine' g_isS ?_ | refine' g_bT ?_ | refine' g_bF ?_ | refine' g_bNT ?_ | refine' g_callK ?_ | refine' g_bNF ?_
  | (refine' g_lenL ?h ?q; (case h => first | assumption | exact upd_same))
  | refine' g_un ?_ | refine' g_rint _ ?_ | refine' g_rabs ?_ | refine' g_sl ?_ 
  | (refine' g_ixL ?h ?a ?q; (case h => first | assumption | exact upd_same); (case a => with_unfolding_all rfl))
  | (refine' g_div ?h0 ?h1 ?q; (case h0 => with_unfolding_all first | decide | omega); (case h1 => with_unfolding_all first | decide | omega))
  | refine' g_sub ?_
  | (refine' g_setL ?h ?a ?q; (case h => first | assumption | exact upd_same); (case a => with_unfolding_all rfl))
  | refine' g_lst ?_ | refine' g_tup ?_
  | (refine' g_rEq ?h ?q; (case h => with_unfolding_all rfl)) | (refine' g_rNe ?h ?q; (case h => with_unfolding_all rfl)))
local macro_rules | `(tactic| walk_at "wn") => `(tactic| repeat walk_at "wn1")

/-! the bag of draws: two numbers that are not negative, the second one below 2 ^ 31 -/
def BagAt (H : Hp) (p : Addr) : Prop := ∃ a b : Int, H p = some (.lst [.int a, .int b]) ∧ 0 ≤ a ∧ 0 ≤ b ∧ b < 2147483648
def Dr (p : Addr) (H H' : Hp) : Prop := (∀ a o, a ≠ p → H a = some o → H' a = some o) ∧ BagAt H' p
theorem Dr.refl {p : Addr} {H : Hp} (b : BagAt H p) : Dr p H H := ⟨fun _ _ _ h => h, b⟩
theorem Dr.trans {p : Addr} {H H1 H2 : Hp} (a : Dr p H H1) (b : Dr p H1 H2) : Dr p H H2 := ⟨fun x o n h => b.1 x o n (a.1 x o n h), b.2⟩
theorem Dr.ex {p : Addr} {H H1 : Hp} (b : BagAt H p) (e : Ex H H1) : Dr p H H1 := ⟨fun x o _ h => e x o h, by
  obtain ⟨u, v, h, r⟩ := b
  exact ⟨u, v, e _ _ h, r⟩⟩
theorem seq_at {K : PySem.W.Frag} {H H' : Hp} {l : Addr} {xs : List V} (e : H' l = H l) (h : SqL K H l xs) : SqL K H' l xs := by
  rcases h with (h | ⟨o, h⟩) | h
  · exact .inl (.inl (e.trans h))
  · exact .inl (.inr ⟨o, e.trans h⟩)
  · exact .inr h
theorem seqT_at {K : PySem.W.Frag} {H H' : Hp} {l : Addr} {xs : List V} (e : H' l = H l) (h : SqT K H l xs) : SqT K H' l xs := by
  rcases h with (h | ⟨o, h⟩) | h
  · exact .inl (.inl (e.trans h))
  · exact .inl (.inr ⟨o, e.trans h⟩)
  · exact .inr h
structure DrawTxt (mg : Str → Option Value) : Prop where
  len : mg "len" = none
  enum : mg "enumerate" = none
  int : mg "int" = none
  abs : mg "abs" = none
def spBag (K : PySem.W.Frag) : Sp := fun vs H Q _ => ∃ (a : Addr) (ns : List Int) (i : Nat), vs = [.ref a, .int i] ∧ SqL K H a (ns.map V.int) ∧ ns.length ≤ 63 ∧ i ≤ 100 ∧
  ∀ (H' : Hp) (p : Addr), H p = none → Same H H' → BagAt H' p → Q (.ref p) H'
def spTake : Sp := fun vs H Q _ => ∃ (p : Addr) (m : Int), vs = [.ref p, .int m] ∧ BagAt H p ∧ 0 < m ∧ m < 4611686018427387904 ∧
  ∀ (k : Int) (H' : Hp), 0 ≤ k → k < m → (∀ b, b ≠ p → H' b = H b) → BagAt H' p → Q (.int k) H'
def spOf (K : PySem.W.Frag) : Sp := fun vs H Q _ => ∃ (p l : Addr) (xs : List V), vs = [.ref p, .ref l] ∧ BagAt H p ∧ SqL K H l xs ∧ l ≠ p ∧ 0 < xs.length ∧ xs.length ≤ 1000 ∧
  ∀ (k : Nat) (v : V) (H' : Hp), xs[k]? = some v → (∀ b, b ≠ p → H' b = H b) → BagAt H' p → Q v H'
section
variable {P : Program} {w : World} {K : PySem.W.Frag} {mg : Str → Option Value} {base : Heap}
theorem scBag : FnScope ["_law_script", "_law_at", "_law_cell", "_law_blend", "_law_k", "_law_each"] ["_law_script", "_law_at"] (defScope sBag) := ⟨rfl, rfl, rfl, by decide +kernel, rfl, by decide +kernel, by decide +kernel⟩
theorem okBag {f : Addr} {fd : FuncData} (F : Fun K "_law_bag" "_law_bag" sBag f fd) (T : DrawTxt mg) : FnOk P w K mg base CX0 1 f fd ["_law_script", "_law_at"] (spBag K) := by
  refine F.ok scBag (fun vs H Q E h => ?_) (fun cdv A outer s H vs Q E hr h => ?_)
  · obtain ⟨a, ns, i, rfl, _⟩ := h
    rfl
  · obtain ⟨a, ns, i, rfl, hS, hl, hi, k⟩ := h
    refine ⟨_, pss_cut (ps_set (i := 2) scBag.nd rfl (Or.inl rfl) (pe_ifExp (pt_cmpR op_lt (pv 1) (pe_callB cLenQ (by rfl) T.len PySem.boot_len (pa_cons (pv 0) pa_nil)) (nomark _)) (pe_ix ix_list (pv 0) (pv 1) (fun _ _ => rfl)) pe_int))
      (pss_cons (ps_set (i := 3) scBag.nd rfl (Or.inl rfl) (pe_op op_add (pe_op op_mul pe_int (pv 1)) pe_int))
      (pss_cut (ps_for PassesOwn.never rfl (pi_enum (by rfl) T.enum (pa_cons (pe_slice sl_list (pv 0) po_none (po_some pe_int)) pa_nil)) (pg_tup rfl (pgs_cons (pg_name (i := 4) scBag.nd rfl (Or.inl rfl)) (pgs_cons (pg_name (i := 5) scBag.nd rfl (Or.inl rfl)) pgs_nil)))
        (pss_one (ps_set (i := 3) scBag.nd rfl (Or.inl rfl) (pe_op op_mod (pe_callTy cInt1 (by rfl) T.int PyProof.Rows.boot_int (pa_cons (pe_op op_add (pe_op op_add (pe_op op_add (pe_op op_mul (pv 3) pe_int) (pe_op op_mod (pe_callTy cInt1 (by rfl) T.int PyProof.Rows.boot_int (pa_cons (pv 5) pa_nil)) pe_int)) (pe_op op_mul pe_int (pv 4))) pe_int) pa_nil)) pe_int))))
      (pss_one (ps_ret (pe_lst (pa_cons (pe_ifExp (pt_cmpR op_ge (pe_callB cAbs (by rfl) T.abs (by decide +kernel) (pa_cons (pv 2) pa_nil)) (pe_op op_pow pe_int pe_int) (nomark _)) (pe_callB cAbs (by rfl) T.abs (by decide +kernel) (pa_cons (pv 2) pa_nil)) pe_int) (pa_cons (pv 3) pa_nil))))))), ?_⟩
    refine ⟨fun σ' H' => ∃ c : Int, σ' = [some (.ref a), some (.int i), some (.int c), none, none, none] ∧ H' = H, ?_, ?_⟩
    · walk_at "wn"
      refine ⟨a, _, rfl, .inl hS, ?_⟩
      walk_at "wn"
      refine ite2 (fun hc => ?_) (fun hc => ?_)
      · have hlt : i < (ns.map V.int).length := by have := of_decide_eq_true hc; omega
        rw [List.length_map] at hlt
        walk_at "wn"
        refine ⟨a, _, _, _, rfl, rfl, hS, atI_nat (v := V.int (ns[i])) (by rw [List.getElem?_map, List.getElem?_eq_getElem hlt]; rfl), ?_⟩
        exact ⟨_, rfl, rfl⟩
      · exact ⟨0, rfl, rfl⟩
    · rintro σ' H' ⟨c, rfl, rfl⟩
      walk_at "wn"
      refine ⟨fun σ' H2 => ∃ (b : Int) (u v : Option V), 0 ≤ b ∧ b < 2147483648 ∧ σ' = [some (.ref a), some (.int i), some (.int c), some (.int b), u, v] ∧ Same H' H2, ?_, ?_⟩
      · show tSl _ _ _ _ _ _ _
        walk_at "wn"
        refine ⟨a, _, rfl, hS, fun p hp => ?_⟩
        walk_at "wn"
        refine ⟨p, _, rfl, SqL.of upd_same, ?_⟩
        refine for_it (walk_enum (xs := cutV (ns.map V.int) none (some 40))) (fun j σ' H3 => ∃ (b : Int) (u v : Option V), 0 ≤ b ∧ b < 2147483648 ∧ σ' = [some (.ref a), some (.int i), some (.int c), some (.int b), u, v] ∧ Same (upd H' p (.lst (cutV (ns.map V.int) none (some 40)))) H3) ?_ ?_ ?_ ?_
        · exact ⟨_, none, none, by omega, by omega, rfl, Same.refl _⟩
        · rintro j σ' H3 hj ⟨b, u, v, b0, b1, rfl, sm⟩
          exact sm.seq (SqL.of upd_same)
        · rintro j x σ' H3 H4 hj ⟨b, u, v, b0, b1, rfl, sm⟩ ⟨T1, x1, y1, rfl, nT, rfl, hx, hy⟩
          obtain rfl := Option.some.inj hx
          obtain ⟨z, rfl⟩ : ∃ z, y1 = V.int z := by
            have q : y1 ∈ ns.map V.int := List.mem_of_mem_drop (List.mem_of_mem_take (List.mem_of_getElem? hy))
            obtain ⟨z, _, e⟩ := List.mem_map.mp q
            exact ⟨z, e.symm⟩
          refine ⟨T1, _, rfl, SqT.of upd_same, rfl, _, _, rfl, ?_⟩
          walk_at "wn"
          refine ⟨_, _, rfl, ?_⟩
          walk_at "wn"
          refine ⟨rfl, ?_⟩
          walk_at "wn"
          refine ⟨_, _, _, by omega, by omega, rfl, fun x o hx => ?_⟩
          rw [upd_ne (ne_of_none (sm _ _ hx) nT)]
          exact sm _ _ hx
        · rintro σ' H3 ⟨b, u, v, b0, b1, rfl, sm⟩
          exact ⟨b, u, v, b0, b1, rfl, fun x o hx => sm _ _ (by rw [upd_ne (ne_of_none hx hp)]; exact hx)⟩
      · rintro σ' H2 ⟨b, u, v, b0, b1, rfl, sm⟩
        walk_at "wn"
        refine g_rI ⟨by decide, by decide, by decide⟩ ?_
        walk_at "wn"
        have fin : ∀ z : Int, 0 ≤ z → ([V.int z, V.int b].length ≤ sizeLine ∧ ∀ p, H2 p = none → Q (V.ref p) (upd H2 p (HO.lst [V.int z, V.int b]))) := fun z hz => ⟨by show 2 ≤ sizeLine; decide, fun p hp => k _ p (sm.free hp) (fun x o hx => by
          rw [upd_ne (ne_of_none (sm _ _ hx) hp)]
          exact sm _ _ hx) ⟨z, b, upd_same, hz, b0, b1⟩⟩
        refine ite2 (fun hc => ?_) (fun hc => ?_)
        · walk_at "wn"
          exact fin _ (by split <;> omega)
        · walk_at "wn"
          exact fin 0 (by decide)
theorem scTake : FnScope ["_law_bag_here", "_law_many", "_law_digit"] ["_law_bag_here", "_law_many"] (defScope sTake) := ⟨rfl, rfl, rfl, by decide +kernel, rfl, by decide +kernel, by decide +kernel⟩
theorem okTake {f : Addr} {fd : FuncData} (F : Fun K "_law_take" "_law_take" sTake f fd) (T : DrawTxt mg) : FnOk P w K mg base CX0 1 f fd ["_law_bag_here", "_law_many"] spTake := by
  refine F.ok scTake (fun vs H Q E h => ?_) (fun cdv A outer s H vs Q E hr h => ?_)
  · obtain ⟨a, m, rfl, _⟩ := h
    rfl
  · obtain ⟨p, m, rfl, ⟨a, b, hp, a0, b0, b1⟩, m0, m1, k⟩ := h
    refine ⟨_, pss_cons (ps_if (pt_cmpR op_gt (pe_ix ix_list (pv 0) pe_int (fun _ _ => rfl)) pe_int (nomark _))
        (pss_cons (ps_set (i := 2) scTake.nd rfl (Or.inl rfl) (pe_op op_mod (pe_callTy cInt1 (by rfl) T.int PyProof.Rows.boot_int (pa_cons (pe_ix ix_list (pv 0) pe_int (fun _ _ => rfl)) pa_nil)) (pv 1)))
        (pss_cons (ps_asg (pe_op op_fdivW (pe_ix ix_list (pv 0) pe_int (fun _ _ => rfl)) (pv 1)) (pg_sub (pv 0) pe_int set_list))
        (pss_one (ps_ret (pv 2))))) pss_nil)
      (pss_cons (ps_asg (pe_op op_mod (pe_callTy cInt1 (by rfl) T.int PyProof.Rows.boot_int (pa_cons (pe_op op_add (pe_op op_mul (pe_ix ix_list (pv 0) pe_int (fun _ _ => rfl)) pe_int) pe_int) pa_nil)) pe_int) (pg_sub (pv 0) pe_int set_list))
      (pss_one (ps_ret (pe_op op_mod (pe_op op_fdivW (pe_op op_mod (pe_callTy cInt1 (by rfl) T.int PyProof.Rows.boot_int (pa_cons (pe_op op_mul (pe_op op_fdivW (pe_ix ix_list (pv 0) pe_int (fun _ _ => rfl)) pe_int) pe_int) pa_nil)) pe_int) pe_int) (pv 1))))), ?_⟩
    walk_at "wn"
    refine ite2 (fun hc => ?_) (fun hc => ?_)
    · walk_at "wn"
      refine k _ _ (Int.emod_nonneg _ (by omega)) (Int.emod_lt_of_pos _ m0) (fun x hx => upd_ne hx) ⟨_, _, upd_same, Int.ediv_nonneg a0 (by omega), b0, b1⟩
    · walk_at "wn"
      refine k _ _ (Int.emod_nonneg _ (by omega)) (Int.emod_lt_of_pos _ m0) (fun x hx => upd_ne hx) ⟨_, _, upd_same, a0, by omega, by omega⟩
theorem scOf : FnScope ["_law_bag_here", "_law_some"] ["_law_bag_here", "_law_some"] (defScope sOf) := ⟨rfl, rfl, rfl, by decide +kernel, rfl, by decide +kernel, by decide +kernel⟩
theorem okOf {f fT : Addr} {fd fdT : FuncData} (F : Fun K "_law_of" "_law_of" sOf f fd) (T : DrawTxt mg) (FT : Fun K "_law_take" "_law_take" sTake fT fdT) (gT : mg "_law_take" = some (.ref fT)) (bT : Binds K fdT ["_law_bag_here", "_law_many"] []) : FnOk P w K mg base CX0 2 f fd ["_law_bag_here", "_law_some"] (spOf K) := by
  have GT : FnOk P w K mg base CX0 1 fT fdT ["_law_bag_here", "_law_many"] spTake := okTake FT T
  refine F.ok scOf (fun vs H Q E h => ?_) (fun cdv A outer s H vs Q E hr h => ?_)
  · obtain ⟨a, l, xs, rfl, _⟩ := h
    rfl
  · obtain ⟨p, l, xs, rfl, hb, hx, hl, l0, l1, k⟩ := h
    refine ⟨_, pss_one (ps_ret (pe_ix ix_seq (pv 1) (pe_call GT hr (by rfl) gT FT.kp bT .nil pass0 (pa_cons (pv 0) (pa_cons (pe_callB cLenQ (by rfl) T.len PySem.boot_len (pa_cons (pv 1) pa_nil)) pa_nil))) (fun _ _ => rfl))), ?_⟩
    walk_at "wn"
    refine ⟨l, xs, rfl, .inl hx, ?_⟩
    walk_at "wn"
    refine ⟨p, _, rfl, hb, by omega, by omega, fun i H1 i0 i1 he hb1 => ?_⟩
    obtain ⟨j, rfl⟩ := Int.eq_ofNat_of_zero_le i0
    have hj : j < xs.length := by omega
    exact .inl ⟨l, xs, _, xs[j], rfl, rfl, seq_at (he l hl) hx, atI_nat (List.getElem?_eq_getElem hj), k j _ H1 (List.getElem?_eq_getElem hj) he hb1⟩
end

def clsBody : Stmt → List Stmt
  | .ClassDef _ _ _ b _ _ _ _ _ _ _ => b
  | _ => []
def meth (i j : Nat) : Stmt := (clsBody (top i)).getD j (.Pass ⟨0, 0, 0, 0⟩)
abbrev sIsInteger : Stmt := top 19
abbrev sIsBetween : Stmt := top 20
abbrev sIsCount : Stmt := top 21
abbrev sIsLabel : Stmt := top 22
abbrev sIsWord : Stmt := top 23
abbrev sRegInit : Stmt := meth 25 0
abbrev sWsInit : Stmt := meth 26 0
abbrev sLabelOf : Stmt := meth 26 2
abbrev sPut : Stmt := meth 26 3
abbrev sAppend : Stmt := meth 26 4
abbrev sNotice : Stmt := meth 26 7
abbrev sReports : Stmt := meth 26 8
abbrev sSettle : Stmt := meth 26 9
/-! own __contains__ -/
def rOwnNotIn (C : Addr) (sp : Sp) : R2 := fun x y H Q => ∃ a dx fs, y = .ref a ∧ H a = some (.ins C dx fs) ∧ sp [.ref a, x] H (fun v H' => ∃ b, v = .bl b ∧ Q (.bl (!b)) H') fun _ _ _ => False
theorem op_ownNotIn {X : Cx} {CX : CXT} {k : Nat} {C f : Addr} {fd : FuncData} {ps : List Str} {sp : Sp} (F : FnOk X.prog X.w X.K X.mg X.base CX k f fd ps sp) (hr : Room k X.A)
    (hs : PySem.W.findIn X.K (.ref C) "__contains__" = some (some (.ref f))) (hf : PySem.W.isFn X.K (.ref f) = true) (hb : Binds X.K fd ps []) (hx : Passes CX X fun _ _ _ => False) : OpR X (compareOp .NotIn) (rOwnNotIn C sp) := by
  intro pins s σ H x y v u Q I rx ry d
  obtain ⟨a, dx, fs, rfl, ha, hsp⟩ := d
  cases ry
  obtain ⟨mA, J, _⟩ := ins_get I.hok ha
  obtain ⟨od, J, _⟩ := J.look
  obtain ⟨m, hF⟩ := I.fr
  refine PySem.W.notIn_K hF I.ok.mod.kin J hs hf ?_
  have hl := F.len _ _ _ _ hsp
  have r2 : Vals [V.ref a, x] [Value.ref a, v] := .cons rfl (.cons rx .nil)
  refine wpAny_call (codeAny_mono (F.run X.A X.stack s H ⟨[.ref a, v], []⟩ [.ref a, v] [.ref a, x] _ _ hr I.env0 (by
    have := hb s [.ref a, v] I.kIn (by simpa using hl)
    simpa using this) r2 hsp) fun r s' hq => ?_)
  cases r with
  | error e => exact hx pins σ H s e s' I hq
  | ok fl =>
    cases fl with
    | ret w =>
      obtain ⟨z, H', I', rz, b, ez, q⟩ := I.after hq
      subst ez
      cases rz
      exact wpAny_truthy_bool ⟨.bl (!b), H', I', rfl, q⟩
    | next => exact False.elim hq
    | brk => exact False.elim hq
    | cont => exact False.elim hq
section
variable {P : Program} {w : World} {K : PySem.W.Frag} {mg : Str → Option Value} {base : Heap}
structure ChkTxt (K : PySem.W.Frag) (mg : Str → Option Value) : Prop where
  isin : mg "isinstance" = none
  int : mg "int" = none
  bool : mg "bool" = none
  count : ∃ t, mg "MOST_COUNT" = some (.int 1000000 t)
  label : ∃ t, mg "MOST_LABEL" = some (.int 999999 t)
  words : ∃ a, mg "WORDS" = some (.ref a) ∧ ∀ H, SqT K H a [.str "level", .str "edge", .str "once"]
def spIsInteger : Sp := fun vs H Q _ => ∃ i : Int, vs = [.int i] ∧ Q (.bl true) H
theorem scIsInteger : FnScope ["x"] ["x"] (defScope sIsInteger) := ⟨rfl, rfl, rfl, by decide +kernel, rfl, by decide +kernel, by decide +kernel⟩
theorem okIsInteger {f : Addr} {fd : FuncData} (F : Fun K "is_integer" "is_integer" sIsInteger f fd) (T : ChkTxt K mg) : FnOk P w K mg base CX0 1 f fd ["x"] spIsInteger := by
  refine F.ok scIsInteger (fun vs H Q E h => ?_) (fun cdv A outer s H vs Q E hr h => ?_)
  · obtain ⟨x, rfl, _⟩ := h
    rfl
  · obtain ⟨i, rfl, k⟩ := h
    refine ⟨_, pss_one (ps_ret (pe_and (pe_callB call_isi (by rfl) T.isin PyProof.Rows.boot_isinstance (pa_cons (pv 0) (pa_cons (pe_bltn (v := .ty "int") (by rfl) T.int PyProof.Rows.boot_int rfl) pa_nil))) (pe_one (pe_not (pe_callB call_isi (by rfl) T.isin PyProof.Rows.boot_isinstance (pa_cons (pv 0) (pa_cons (pe_bltn (v := .ty "bool") (by rfl) T.bool (by decide +kernel) rfl) pa_nil))))))), ?_⟩
    refine ⟨_, rfl, _, _, _, _, true, rfl, .ty "int", .base (.int i), kit_ty (by decide +kernel), ?_⟩
    refine ⟨_, rfl, _, rfl, _, _, _, _, false, rfl, .ty "bool", .base (.int i), kit_ty (by decide +kernel), ?_⟩
    exact ⟨_, rfl, k⟩
def spIsBetween : Sp := fun vs H Q _ => ∃ i a b : Int, vs = [.int i, .int a, .int b] ∧ Q (.bl (decide (a ≤ i) && decide (i ≤ b))) H
theorem scIsBetween : FnScope ["x", "least", "most"] ["x", "least", "most"] (defScope sIsBetween) := ⟨rfl, rfl, rfl, by decide +kernel, rfl, by decide +kernel, by decide +kernel⟩
theorem okIsBetween {f fI : Addr} {fd fdI : FuncData} (F : Fun K "is_between" "is_between" sIsBetween f fd) (GI : FnOk P w K mg base CX0 1 fI fdI ["x"] spIsInteger) (kI : PySem.W.keepIn K (.ref fI) = true) (gI : mg "is_integer" = some (.ref fI)) (bI : Binds K fdI ["x"] []) :
    FnOk P w K mg base CX0 2 f fd ["x", "least", "most"] spIsBetween := by
  refine F.ok scIsBetween (fun vs H Q E h => ?_) (fun cdv A outer s H vs Q E hr h => ?_)
  · obtain ⟨x, y, z, rfl, _⟩ := h
    rfl
  · obtain ⟨i, a, b, rfl, k⟩ := h
    refine ⟨_, pss_one (ps_ret (pe_and (pe_call GI hr (by rfl) gI kI bI .nil pass0 (pa_cons (pv 0) pa_nil)) (pe_one (pe_chain op_le op_le (pv 1) (pv 0) (pv 2))))), ?_⟩
    walk_at "wn"
    refine ⟨i, rfl, ?_⟩
    walk_at "wn"
    refine ⟨_, rfl, _, rfl, a, i, rfl, rfl, _, rfl, ?_⟩
    refine ite2 (fun hc => ?_) (fun hc => ?_)
    · rw [hc, Bool.true_and] at k
      exact ⟨_, rfl, i, b, rfl, rfl, k⟩
    · rw [Bool.eq_false_iff.mpr hc, Bool.false_and] at k
      exact k
def spIsCount : Sp := fun vs H Q _ => ∃ i : Int, vs = [.int i] ∧ Q (.bl (decide (1 ≤ i) && decide (i ≤ 1000000))) H
theorem scIsCount : FnScope ["x"] ["x"] (defScope sIsCount) := ⟨rfl, rfl, rfl, by decide +kernel, rfl, by decide +kernel, by decide +kernel⟩
theorem okIsCount {f fB : Addr} {fd fdB : FuncData} (F : Fun K "is_count" "is_count" sIsCount f fd) (T : ChkTxt K mg) (GB : FnOk P w K mg base CX0 2 fB fdB ["x", "least", "most"] spIsBetween) (kB : PySem.W.keepIn K (.ref fB) = true) (gB : mg "is_between" = some (.ref fB)) (bB : Binds K fdB ["x", "least", "most"] []) :
    FnOk P w K mg base CX0 3 f fd ["x"] spIsCount := by
  refine F.ok scIsCount (fun vs H Q E h => ?_) (fun cdv A outer s H vs Q E hr h => ?_)
  · obtain ⟨x, rfl, _⟩ := h
    rfl
  · obtain ⟨i, rfl, k⟩ := h
    obtain ⟨t, ht⟩ := T.count
    refine ⟨_, pss_one (ps_ret (pe_call GB hr (by rfl) gB kB bB .nil pass0 (pa_cons (pv 0) (pa_cons pe_int (pa_cons (pe_glob (v := .int 1000000) (by rfl) ht ⟨_, rfl⟩) pa_nil))))), ?_⟩
    walk_at "wn"
    exact ⟨i, 1, 1000000, rfl, k⟩
def spIsLabel : Sp := fun vs H Q _ => ∃ i : Int, vs = [.int i] ∧ Q (.bl (decide (0 ≤ i) && decide (i ≤ 999999))) H
theorem scIsLabel : FnScope ["x"] ["x"] (defScope sIsLabel) := ⟨rfl, rfl, rfl, by decide +kernel, rfl, by decide +kernel, by decide +kernel⟩
theorem okIsLabel {f fB : Addr} {fd fdB : FuncData} (F : Fun K "is_label" "is_label" sIsLabel f fd) (T : ChkTxt K mg) (GB : FnOk P w K mg base CX0 2 fB fdB ["x", "least", "most"] spIsBetween) (kB : PySem.W.keepIn K (.ref fB) = true) (gB : mg "is_between" = some (.ref fB)) (bB : Binds K fdB ["x", "least", "most"] []) :
    FnOk P w K mg base CX0 3 f fd ["x"] spIsLabel := by
  refine F.ok scIsLabel (fun vs H Q E h => ?_) (fun cdv A outer s H vs Q E hr h => ?_)
  · obtain ⟨x, rfl, _⟩ := h
    rfl
  · obtain ⟨i, rfl, k⟩ := h
    obtain ⟨t, ht⟩ := T.label
    refine ⟨_, pss_one (ps_ret (pe_call GB hr (by rfl) gB kB bB .nil pass0 (pa_cons (pv 0) (pa_cons pe_int (pa_cons (pe_glob (v := .int 999999) (by rfl) ht ⟨_, rfl⟩) pa_nil))))), ?_⟩
    walk_at "wn"
    exact ⟨i, 0, 999999, rfl, k⟩
def wordsL : List Str := ["level", "edge", "once"]
def spIsWord : Sp := fun vs H Q _ => ∃ x : Str, vs = [.str x] ∧ x ∈ wordsL ∧ Q (.bl true) H
theorem word_in : ∀ x ∈ wordsL, inV (.str x) [.str "level", .str "edge", .str "once"] = true := by decide +kernel
theorem scIsWord : FnScope ["x"] ["x"] (defScope sIsWord) := ⟨rfl, rfl, rfl, by decide +kernel, rfl, by decide +kernel, by decide +kernel⟩
theorem okIsWord {f : Addr} {fd : FuncData} (F : Fun K "is_word" "is_word" sIsWord f fd) (T : ChkTxt K mg) : FnOk P w K mg base CX0 1 f fd ["x"] spIsWord := by
  refine F.ok scIsWord (fun vs H Q E h => ?_) (fun cdv A outer s H vs Q E hr h => ?_)
  · obtain ⟨x, rfl, _⟩ := h
    rfl
  · obtain ⟨x, rfl, hx, k⟩ := h
    obtain ⟨aW, gW, sW⟩ := T.words
    refine ⟨_, pss_one (ps_ret (pe_cmpR op_in_seq (pv 0) (pe_glob (v := .ref aW) (by rfl) gW rfl) (by rfl))), ?_⟩
    walk_at "wn"
    refine ⟨aW, _, rfl, .inr (sW _), rfl, by decide, ?_⟩
    show Q (.bl (inV _ _)) H
    rw [word_in x hx]
    exact k
end

/-! the classes of the program -/
structure ClsF (K : PySem.W.Frag) (C : Addr) (fs : List Str) : Prop where
  cl : Cls K C
  no : ∀ f ∈ fs, NoAttr K C f
abbrev regF : List Str := ["number", "source", "word", "armed"]
abbrev wsF : List Str := ["entries", "queue"]
abbrev sysF : List Str := ["process_limit", "number_limit", "tables", "sources", "sets", "next_thing"]
def regO (C dx : Addr) (n s : Int) (wd : Str) (ar : Bool) : HO := .ins C dx [("number", .int n), ("source", .int s), ("word", .str wd), ("armed", .bl ar)]
def wsO (C dx e q : Addr) : HO := .ins C dx [("entries", .ref e), ("queue", .ref q)]
theorem Same.new' {H : Hp} {l : Addr} {o : HO} (hl : H l = none) : Same H (upd H l o) := fun b u e => by rw [upd_ne (ne_of_none e hl)]; exact e
theorem inV_int (l : Int) : ∀ qs : List Int, inV (.int l) (qs.map V.int) = decide (l ∈ qs)
  | [] => rfl
  | x :: qs => by
    have ih := inV_int l qs
    unfold inV at ih ⊢
    rw [List.map_cons, List.any_cons, ih]
    have e : eqV (V.int x) (V.int l) = decide (x = l) := rfl
    rw [e]
    by_cases h : x = l
    · rw [decide_eq_true h, Bool.true_or]
      exact (decide_eq_true (by rw [h]; exact List.mem_cons_self)).symm
    · rw [decide_eq_false h, Bool.false_or]
      by_cases h2 : l ∈ qs
      · rw [decide_eq_true h2]
        exact (decide_eq_true (List.mem_cons_of_mem _ h2)).symm
      · rw [decide_eq_false h2]
        exact (decide_eq_false fun z => (List.mem_cons.mp z).elim (fun e => h e.symm) h2).symm
theorem flat_ints (qs : List Int) : (qs.map V.int).all flatV = true := by
  rw [List.all_map, List.all_eq_true]
  intro x _
  rfl
section
variable {P : Program} {w : World} {K : PySem.W.Frag} {mg : Str → Option Value} {base : Heap} {CR CW : Addr}
/-! Registration -/
def spRegInit (CR : Addr) : Sp := fun vs H Q _ => ∃ (a dx : Addr) (n s : Int) (wd : Str) (ar : Bool), vs = [.ref a, .int n, .int s, .str wd, .bl ar] ∧ H a = some (.ins CR dx []) ∧
  ∀ H', (∀ b, b ≠ a → H' b = H b) → H' a = some (regO CR dx n s wd ar) → Q .non H'
theorem scRegInit : FnScope ["self", "number", "source", "word", "armed"] ["self", "number", "source", "word", "armed"] (defScope sRegInit) := ⟨rfl, rfl, rfl, by decide +kernel, rfl, by decide +kernel, by decide +kernel⟩
theorem okRegInit {f : Addr} {fd : FuncData} (F : Fun K "__init__" "Registration.__init__" sRegInit f fd) (T : ClsF K CR regF) : FnOk P w K mg base CX0 1 f fd ["self", "number", "source", "word", "armed"] (spRegInit CR) := by
  refine F.ok scRegInit (fun vs H Q E h => ?_) (fun cdv A outer s H vs Q E hr h => ?_)
  · obtain ⟨_, _, _, _, _, _, rfl, _⟩ := h
    rfl
  · obtain ⟨a, dx, n, s, wd, ar, rfl, ha, k⟩ := h
    refine ⟨_, pss_cons (ps_fld (pv 0) (pv 1) rfl) (pss_cons (ps_fld (pv 0) (pv 2) rfl) (pss_cons (ps_fld (pv 0) (pv 3) rfl) (pss_one (ps_fld (pv 0) (pv 4) rfl)))), ?_⟩
    refine ⟨_, rfl, _, rfl, a, CR, dx, _, rfl, ha, T.cl, T.no _ (by decide), by decide, ?_⟩
    refine ⟨_, rfl, _, rfl, a, CR, dx, _, rfl, upd_same, T.cl, T.no _ (by decide), by show 1 < 1000; decide, ?_⟩
    refine ⟨_, rfl, _, rfl, a, CR, dx, _, rfl, upd_same, T.cl, T.no _ (by decide), by show 2 < 1000; decide, ?_⟩
    refine ⟨_, rfl, _, rfl, a, CR, dx, _, rfl, upd_same, T.cl, T.no _ (by decide), by show 3 < 1000; decide, ?_⟩
    exact k _ (fun b hb => by rw [upd_ne hb, upd_ne hb, upd_ne hb, upd_ne hb]) upd_same
/-! WaitingSet -/
def spWsInit (CW : Addr) : Sp := fun vs H Q _ => ∃ (a dx : Addr), vs = [.ref a] ∧ H a = some (.ins CW dx []) ∧
  ∀ H' e q, H e = none → H q = none → H' e = some (.dK []) → H' q = some (.lst []) → H' a = some (wsO CW dx e q) → (∀ b, b ≠ a → b ≠ e → b ≠ q → H' b = H b) → Q .non H'
theorem scWsInit : FnScope ["self"] ["self"] (defScope sWsInit) := ⟨rfl, rfl, rfl, by decide +kernel, rfl, by decide +kernel, by decide +kernel⟩
theorem okWsInit {f : Addr} {fd : FuncData} (F : Fun K "__init__" "WaitingSet.__init__" sWsInit f fd) (T : ClsF K CW wsF) : FnOk P w K mg base CX0 1 f fd ["self"] (spWsInit CW) := by
  refine F.ok scWsInit (fun vs H Q E h => ?_) (fun cdv A outer s H vs Q E hr h => ?_)
  · obtain ⟨_, _, rfl, _⟩ := h
    rfl
  · obtain ⟨a, dx, rfl, ha, k⟩ := h
    refine ⟨_, pss_cons (ps_fld (pv 0) pe_dnewK rfl) (pss_one (ps_fld (pv 0) (pe_lst pa_nil) rfl)), ?_⟩
    intro e he
    have nae : a ≠ e := ne_of_none ha he
    refine ⟨_, rfl, a, CW, dx, _, rfl, by rw [upd_ne nae]; exact ha, T.cl, T.no _ (by decide), by decide, ?_⟩
    refine ⟨Nat.zero_le _, fun q hq => ?_⟩
    have nqa : q ≠ a := fun z => by rw [z, upd_same] at hq; cases hq
    rw [upd_ne nqa] at hq
    have nqe : q ≠ e := fun z => by rw [z, upd_same] at hq; cases hq
    rw [upd_ne nqe] at hq
    refine ⟨_, rfl, a, CW, dx, _, rfl, by rw [upd_ne (Ne.symm nqa)]; exact upd_same, T.cl, T.no _ (by decide), by show 1 < 1000; decide, ?_⟩
    refine k _ e q he hq ?_ ?_ upd_same (fun b h1 h2 h3 => ?_)
    · rw [upd_ne (Ne.symm nae), upd_ne (Ne.symm nqe), upd_ne (Ne.symm nae), upd_same]
    · rw [upd_ne nqa, upd_same]
    · rw [upd_ne h1, upd_ne h3, upd_ne h1, upd_ne h2]
/-! append_pending -/
def qAdd (l : Int) (qs : List Int) : List Int := if l ∈ qs then qs else qs ++ [l]
def spAppend (CW : Addr) : Sp := fun vs H Q _ => ∃ (a dx e q : Addr) (l : Int) (qs : List Int), vs = [.ref a, .int l] ∧ H a = some (wsO CW dx e q) ∧ H q = some (.lst (qs.map V.int)) ∧ qs.length ≤ 10000 ∧
  ∀ H', H' q = some (.lst ((qAdd l qs).map V.int)) → (∀ b, b ≠ q → H' b = H b) → Q .non H'
theorem scAppend : FnScope ["self", "label"] ["self", "label"] (defScope sAppend) := ⟨rfl, rfl, rfl, by decide +kernel, rfl, by decide +kernel, by decide +kernel⟩
theorem okAppend {f : Addr} {fd : FuncData} (F : Fun K "append_pending" "WaitingSet.append_pending" sAppend f fd) (T : ClsF K CW wsF) : FnOk P w K mg base CX0 1 f fd ["self", "label"] (spAppend CW) := by
  refine F.ok scAppend (fun vs H Q E h => ?_) (fun cdv A outer s H vs Q E hr h => ?_)
  · obtain ⟨_, _, _, _, _, _, rfl, _⟩ := h
    rfl
  · obtain ⟨a, dx, e, q, l, qs, rfl, ha, hq, hl, k⟩ := h
    refine ⟨_, pss_one (ps_if (pt_cmpR op_notIn_seq (pv 1) (pe_fld (pv 0) rfl) (by rfl)) (pss_one (ps_expr (pe_bm PySem.F.plainAttrs_list PySem.F.slot_list_append PySem.F.type_list_append mt_append (pe_fld (pv 0) rfl) (pa_cons (pv 1) pa_nil)))) pss_nil), ?_⟩
    walk_at "wn"
    refine ⟨_, rfl, a, CW, dx, _, _, rfl, ha, T.cl, T.no _ (by decide), rfl, ?_⟩
    refine ⟨q, qs.map V.int, rfl, .inl (SqL.of hq), rfl, flat_ints qs, ?_⟩
    refine ⟨_, rfl, ?_⟩
    rw [inV_int]
    by_cases h : l ∈ qs
    · rw [decide_eq_true h]
      walk_at "wn"
      refine k H ?_ fun _ _ => rfl
      unfold qAdd
      rw [if_pos h]
      exact hq
    · rw [decide_eq_false h]
      walk_at "wn"
      refine ⟨_, rfl, a, CW, dx, _, _, rfl, ha, T.cl, T.no _ (by decide), rfl, ?_⟩
      refine ⟨.inl ⟨rfl, _, SqL.of hq⟩, ?_⟩
      refine ⟨_, rfl, q, _, _, rfl, rfl, hq, by rw [List.length_map, sizeLine_eq]; omega, ?_⟩
      refine k _ ?_ fun b hb => upd_ne hb
      unfold qAdd
      rw [if_neg h, upd_same, List.map_append]
      rfl
end

/-- a registration as data -/
structure Reg where
  num : Int
  src : Int
  word : Str
  armed : Bool
/-- the entries: labels, with what stands at the address of each -/
def entKV (ls : List Int) (ad : Int → Addr) : List (Key × V) := ls.map fun l => (Sum.inl l, .ref (ad l))
theorem ent_val (ls : List Int) (ad : Int → Addr) (l : Int) : valV (entKV ls ad) (Sum.inl l) = if l ∈ ls then some (.ref (ad l)) else none := by
  induction ls with
  | nil => rfl
  | cons x ls ih =>
    unfold entKV at ih ⊢
    rw [List.map_cons]
    by_cases h : x = l
    · subst h
      rw [valV_pos rfl, if_pos List.mem_cons_self]
    · rw [valV_neg (fun z => h (Sum.inl.inj z)), ih]
      by_cases h2 : l ∈ ls
      · rw [if_pos h2, if_pos (List.mem_cons_of_mem _ h2)]
      · rw [if_neg h2, if_neg fun z => (List.mem_cons.mp z).elim (fun e => h e.symm) h2]
theorem ent_put (ls : List Int) (ad : Int → Addr) (l : Int) (b : Addr) : putK (entKV ls ad) (Sum.inl l) (.ref b) = entKV (if l ∈ ls then ls else ls ++ [l]) (fun j => if j = l then b else ad j) := by
  unfold putK
  rw [valV_any, ent_val]
  by_cases h : l ∈ ls
  · rw [if_pos h, if_pos h]
    show List.map _ (entKV ls ad) = _
    unfold entKV
    rw [List.map_map]
    refine List.map_congr_left fun x _ => ?_
    by_cases e : x = l
    · show (if (Sum.inl x : Key) = Sum.inl l then _ else _) = _
      rw [if_pos (by rw [e])]
      show (_, V.ref b) = (_, V.ref (if x = l then b else ad x))
      rw [if_pos e]
    · show (if (Sum.inl x : Key) = Sum.inl l then _ else _) = _
      rw [if_neg (fun z => e (Sum.inl.inj z))]
      show _ = (_, V.ref (if x = l then b else ad x))
      rw [if_neg e]
  · rw [if_neg h, if_neg h]
    show entKV ls ad ++ _ = _
    unfold entKV
    rw [List.map_append]
    have e1 : ls.map (fun j => ((Sum.inl j : Key), V.ref (if j = l then b else ad j))) = ls.map fun j => (Sum.inl j, V.ref (ad j)) := List.map_congr_left fun x hx => by rw [if_neg fun z : x = l => h (by rw [← z]; exact hx)]
    rw [e1]
    congr 1
    show [(_, V.ref b)] = [(_, V.ref (if l = l then b else ad l))]
    rw [if_pos rfl]
/-- at the labels' addresses stand the registrations -/
def RegsAt (CR : Addr) (H : Hp) (ls : List Int) (ad : Int → Addr) (reg : Int → Reg) : Prop := ∀ l ∈ ls, ∃ dx, H (ad l) = some (regO CR dx (reg l).num (reg l).src (reg l).word (reg l).armed)
theorem RegsAt.same {CR : Addr} {H H' : Hp} {ls : List Int} {ad : Int → Addr} {reg : Int → Reg} (r : RegsAt CR H ls ad reg) (s : ∀ b C dx fs, H b = some (.ins C dx fs) → C = CR → H' b = H b) : RegsAt CR H' ls ad reg := fun l hl => by
  obtain ⟨dx, e⟩ := r l hl
  exact ⟨dx, (s _ _ _ _ e rfl).trans e⟩
section
variable {P : Program} {w : World} {K : PySem.W.Frag} {mg : Str → Option Value} {base : Heap} {CR CW : Addr}
theorem str_inj' {x y : Str} : V.str x = V.str y ↔ x = y := ⟨fun h => by cases h; rfl, fun h => by rw [h]⟩
def settled (reg : Int → Reg) (l : Int) : Int → Reg := fun j => if j = l ∧ (reg l).word = "once" then { reg l with armed := false } else reg j
theorem settled_at {reg : Int → Reg} {l : Int} (h : (reg l).word = "once") : settled reg l l = { reg l with armed := false } := if_pos ⟨rfl, h⟩
theorem settled_ne {reg : Int → Reg} {l j : Int} (h : j ≠ l) : settled reg l j = reg j := if_neg fun z => h z.1
theorem settled_no {reg : Int → Reg} {l j : Int} (h : (reg l).word ≠ "once") : settled reg l j = reg j := if_neg fun z => h z.2
/-! put -/
def spPut (CW : Addr) : Sp := fun vs H Q _ => ∃ (a dx e q b : Addr) (l : Int) (r : Bool) (qs : List Int) (kvs : List (Key × V)), vs = [.ref a, .int l, .ref b, .bl r] ∧ H a = some (wsO CW dx e q) ∧ H q = some (.lst (qs.map V.int)) ∧ H e = some (.dK kvs) ∧ qs.length ≤ 10000 ∧ kvs.length ≤ 10000 ∧
  ∀ H', H' e = some (.dK (putK kvs (Sum.inl l) (.ref b))) → H' q = some (.lst ((if r = true then qAdd l qs else qs).map V.int)) → (∀ x, x ≠ e → x ≠ q → H' x = H x) → Q .non H'
theorem scPut : FnScope ["self", "label", "kept", "ready"] ["self", "label", "kept", "ready"] (defScope sPut) := ⟨rfl, rfl, rfl, by decide +kernel, rfl, by decide +kernel, by decide +kernel⟩
theorem okPut {f fA : Addr} {fd fdA : FuncData} (F : Fun K "put" "WaitingSet.put" sPut f fd) (T : ClsF K CW wsF) (GA : FnOk P w K mg base CX0 1 fA fdA ["self", "label"] (spAppend CW)) (mA : Meth K CW "append_pending" fA) (bA : Binds K fdA ["self", "label"] []) :
    FnOk P w K mg base CX0 2 f fd ["self", "label", "kept", "ready"] (spPut CW) := by
  refine F.ok scPut (fun vs H Q E h => ?_) (fun cdv A outer s H vs Q E hr h => ?_)
  · obtain ⟨_, _, _, _, _, _, _, _, _, rfl, _⟩ := h
    rfl
  · obtain ⟨a, dx, e, q, b, l, r, qs, kvs, rfl, ha, hq, he, hl, hl2, k⟩ := h
    have hu := hu_of hr
    refine ⟨_, pss_cons (ps_dput hu (pe_fld (pv 0) rfl) (pv 1) (pv 2) rfl) (pss_one (ps_if (pt_val (pv 3)) (pss_one (ps_expr (pe_meth (pv 0) T.cl mA GA hr bA .nil pass0 (pa_cons (pv 1) pa_nil)))) pss_nil)), ?_⟩
    have nae : a ≠ e := ne_of ha he (by intro z; cases z)
    have nqe : q ≠ e := ne_of hq he (by intro z; cases z)
    refine ⟨_, rfl, _, rfl, a, CW, dx, _, _, rfl, ha, T.cl, T.no _ (by decide), rfl, ?_⟩
    refine ⟨_, rfl, e, _, rfl, DPut.k (k := Sum.inl l) he (by rw [sizeLine_eq]; omega), ?_⟩
    refine ⟨_, rfl, r, rfl, ?_⟩
    have hq1 : upd H e (.dK (putK kvs (Sum.inl l) (.ref b))) q = some (.lst (qs.map V.int)) := by rw [upd_ne nqe]; exact hq
    cases r with
    | true =>
      walk_at "wn"
      refine ⟨_, rfl, a, dx, _, rfl, by rw [upd_ne nae]; exact ha, rfl, ?_⟩
      walk_at "wn"
      refine ⟨a, dx, e, q, l, qs, rfl, by rw [upd_ne nae]; exact ha, hq1, hl, fun H' h1 h2 => ?_⟩
      refine k H' ?_ h1 fun x n1 n2 => ?_
      · rw [h2 e (Ne.symm nqe), upd_same]
      · rw [h2 x n2, upd_ne n1]
    | false =>
      walk_at "wn"
      exact k _ upd_same hq1 fun x n1 n2 => upd_ne n1
/-! settle -/
def spSettle (CW CR : Addr) : Sp := fun vs H Q _ => ∃ (a dx e q : Addr) (l : Int) (qs ls : List Int) (ad : Int → Addr) (reg : Int → Reg), vs = [.ref a, .int l] ∧ H a = some (wsO CW dx e q) ∧ H q = some (.lst (qs.map V.int)) ∧ H e = some (.dK (entKV ls ad)) ∧ RegsAt CR H ls ad reg ∧ l ∈ ls ∧
  CW ≠ CR ∧ qs.length ≤ 10000 ∧ ls.length ≤ 10000 ∧
  ∀ H' ad', H' e = some (.dK (entKV ls ad')) → H' q = some (.lst ((if (reg l).word = "level" then qs ++ [l] else qs).map V.int)) → (∀ j, j ≠ l → ad' j = ad j) → (ad' l = ad l ∨ H (ad' l) = none) →
    RegsAt CR H' ls ad' (settled reg l) → (∀ x o, x ≠ e → x ≠ q → H x = some o → H' x = some o) → Q .non H'
theorem scSettle : FnScope ["self", "label", "kept"] ["self", "label"] (defScope sSettle) := ⟨rfl, rfl, rfl, by decide +kernel, rfl, by decide +kernel, by decide +kernel⟩
theorem okSettle {f fI : Addr} {fd fdI : FuncData} (F : Fun K "settle" "WaitingSet.settle" sSettle f fd) (T : ClsF K CW wsF) (TR : ClsF K CR regF) (gR : mg "Registration" = some (.ref CR)) (M : Mk K CR fI) (GI : FnOk P w K mg base CX0 1 fI fdI ["self", "number", "source", "word", "armed"] (spRegInit CR)) (bI : Binds K fdI ["self", "number", "source", "word", "armed"] []) :
    FnOk P w K mg base CX0 3 f fd ["self", "label"] (spSettle CW CR) := by
  refine F.ok scSettle (fun vs H Q E h => ?_) (fun cdv A outer s H vs Q E hr h => ?_)
  · obtain ⟨_, _, _, _, _, _, _, _, _, rfl, _⟩ := h
    rfl
  · obtain ⟨a, dx, e, q, l, qs, ls, ad, reg, rfl, ha, hq, he, hR, hl, nWR, hz, hz2, k⟩ := h
    have hu := hu_of hr
    refine ⟨_, pss_cons (ps_set (i := 2) scSettle.nd rfl (Or.inl rfl) (pe_dget hu (pe_fld (pv 0) rfl) (pv 1) (fun _ _ => rfl)))
      (pss_cut (ps_if (pt_cmpR op_eq (pe_fld (pv 2) rfl) pe_str (nomark _)) (pss_one (ps_expr (pe_bm PySem.F.plainAttrs_list PySem.F.slot_list_append PySem.F.type_list_append mt_append (pe_fld (pv 0) rfl) (pa_cons (pv 1) pa_nil)))) pss_nil)
      (pss_one (ps_if (pt_cmpR op_eq (pe_fld (pv 2) rfl) pe_str (nomark _)) (pss_one (ps_dput hu (pe_fld (pv 0) rfl) (pv 1) (pe_make M GI hr (by rfl) gR bI .nil pass0 (pa_cons (pe_fld (pv 2) rfl) (pa_cons (pe_fld (pv 2) rfl) (pa_cons (pe_fld (pv 2) rfl) (pa_cons pe_bl pa_nil))))) rfl)) pss_nil))), ?_⟩
    obtain ⟨dr, hr1⟩ := hR l hl
    have nqe : q ≠ e := ne_of hq he (by intro z; cases z)
    have nae : a ≠ e := ne_of ha he (by intro z; cases z)
    have naq : a ≠ q := ne_of ha hq (by intro z; cases z)
    have nre : ad l ≠ e := ne_of hr1 he (by intro z; cases z)
    have nrq : ad l ≠ q := ne_of hr1 hq (by intro z; cases z)
    refine ⟨_, rfl, a, CW, dx, _, _, rfl, ha, T.cl, T.no _ (by decide), rfl, ?_⟩
    have hv : valV (entKV ls ad) (Sum.inl l) = some (.ref (ad l)) := by rw [ent_val, if_pos hl]
    refine ⟨_, rfl, e, _, rfl, hv ▸ DGet.k (k := Sum.inl l) he, ?_⟩
    refine ⟨fun σ' H1 => σ' = [some (.ref a), some (.int l), some (.ref (ad l))] ∧ H1 q = some (.lst ((if (reg l).word = "level" then qs ++ [l] else qs).map V.int)) ∧ ∀ x, x ≠ q → H1 x = H x, ?_, ?_⟩
    · refine ⟨_, rfl, ad l, CR, dr, _, _, rfl, hr1, TR.cl, TR.no _ (by decide), rfl, rfl, _, rfl, ?_⟩
      by_cases h : (reg l).word = "level"
      · rw [decide_eq_true (str_inj'.mpr h)]
        walk_at "wn"
        refine ⟨_, rfl, a, CW, dx, _, _, rfl, ha, T.cl, T.no _ (by decide), rfl, ?_⟩
        refine ⟨.inl ⟨rfl, _, SqL.of hq⟩, ?_⟩
        refine ⟨_, rfl, q, _, _, rfl, rfl, hq, by rw [List.length_map, sizeLine_eq]; omega, ?_⟩
        refine ⟨rfl, ?_, fun x n => upd_ne n⟩
        rw [if_pos h, upd_same, List.map_append]
        rfl
      · rw [decide_eq_false (fun z => h (str_inj'.mp z))]
        walk_at "wn"
        exact ⟨rfl, by rw [if_neg h]; exact hq, fun _ _ => rfl⟩
    rintro σ' H1 ⟨rfl, hq1, h1⟩
    have hr2 : H1 (ad l) = _ := (h1 _ nrq).trans hr1
    have he1 : H1 e = _ := (h1 _ (Ne.symm nqe)).trans he
    have ha1 : H1 a = _ := (h1 _ naq).trans ha
    have hR1 : ∀ j ∈ ls, ∃ dx, H1 (ad j) = some (regO CR dx (reg j).num (reg j).src (reg j).word (reg j).armed) := fun j hj => by
      obtain ⟨dj, ej⟩ := hR j hj
      exact ⟨dj, (h1 _ (ne_of ej hq (by intro z; cases z))).trans ej⟩
    refine ⟨_, rfl, ad l, CR, dr, _, _, rfl, hr2, TR.cl, TR.no _ (by decide), rfl, rfl, _, rfl, ?_⟩
    by_cases h : (reg l).word = "once"
    · rw [decide_eq_true (str_inj'.mpr h)]
      walk_at "wn"
      refine ⟨_, rfl, ad l, CR, dr, _, _, rfl, hr2, TR.cl, TR.no _ (by decide), rfl, ?_⟩
      refine ⟨_, rfl, ad l, CR, dr, _, _, rfl, hr2, TR.cl, TR.no _ (by decide), rfl, ?_⟩
      refine ⟨_, rfl, ad l, CR, dr, _, _, rfl, hr2, TR.cl, TR.no _ (by decide), rfl, ?_⟩
      walk_at "wn"
      intro x dx2 hx hdx ndx
      refine ⟨x, dx2, _, _, _, _, rfl, upd_same, fun H2 k1 k2 => ⟨rfl, ?_⟩⟩
      have k3 : ∀ b o, H1 b = some o → H2 b = some o := fun b o e => by
        rw [k1 b (ne_of_none e hx), upd_ne (ne_of_none e hx), upd_ne (ne_of_none e hdx)]
        exact e
      refine ⟨_, rfl, a, CW, dx, _, _, rfl, k3 _ _ ha1, T.cl, T.no _ (by decide), rfl, ?_⟩
      refine ⟨_, rfl, e, _, rfl, DPut.k (k := Sum.inl l) (k3 _ _ he1) (by rw [sizeLine_eq]; unfold entKV; rw [List.length_map]; omega), ?_⟩
      rw [ent_put, if_pos hl]
      have nxe : x ≠ e := fun z => by rw [z, he1] at hx; cases hx
      refine k _ _ upd_same ?_ (fun j hj => if_neg hj) (.inr ?_) (fun j hj => ?_) fun b o n1 n2 e2 => ?_
      · rw [upd_ne nqe]
        exact k3 _ _ hq1
      · show H (if l = l then x else ad l) = none
        rw [if_pos rfl, ← h1 x (fun z => by rw [z, hq1] at hx; cases hx)]
        exact hx
      · show ∃ dx, upd H2 e _ (if j = l then x else ad j) = _
        by_cases ej : j = l
        · rw [ej, if_pos rfl, settled_at h, upd_ne nxe, k2]
          exact ⟨dx2, rfl⟩
        · rw [if_neg ej, settled_ne ej]
          obtain ⟨dj, e3⟩ := hR1 j hj
          rw [upd_ne (ne_of e3 he1 (by intro z; cases z))]
          exact ⟨dj, k3 _ _ e3⟩
      · rw [upd_ne n1]
        exact k3 _ _ ((h1 _ n2).trans e2)
    · rw [decide_eq_false (fun z => h (str_inj'.mp z))]
      walk_at "wn"
      refine k H1 ad he1 hq1 (fun _ _ => rfl) (.inl rfl) (fun j hj => ?_) fun b o n1 n2 e2 => (h1 _ n2).trans e2
      rw [settled_no h]
      exact hR1 j hj
/-! label_of -/
def keyOf (reg : Int → Reg) (n s : Int) (l : Int) : Bool := decide ((reg l).num = n) && decide ((reg l).src = s)
def spLabelOf (CW CR : Addr) : Sp := fun vs H Q _ => ∃ (a dx e q : Addr) (n s : Int) (ls : List Int) (ad : Int → Addr) (reg : Int → Reg), vs = [.ref a, .int n, .int s] ∧ H a = some (wsO CW dx e q) ∧ H e = some (.dK (entKV ls ad)) ∧ RegsAt CR H ls ad reg ∧
  ∀ H', Same H H' → Q (match ls.find? (keyOf reg n s) with | some l => .int l | none => .non) H'
theorem scLabelOf : FnScope ["self", "number", "source", "label", "kept"] ["self", "number", "source"] (defScope sLabelOf) := ⟨rfl, rfl, rfl, by decide +kernel, rfl, by decide +kernel, by decide +kernel⟩
theorem okLabelOf {f : Addr} {fd : FuncData} (F : Fun K "label_of" "WaitingSet.label_of" sLabelOf f fd) (T : ClsF K CW wsF) (TR : ClsF K CR regF) : FnOk P w K mg base CX0 1 f fd ["self", "number", "source"] (spLabelOf CW CR) := by
  refine F.ok scLabelOf (fun vs H Q E h => ?_) (fun cdv A outer s H vs Q E hr h => ?_)
  · obtain ⟨_, _, _, _, _, _, _, _, _, rfl, _⟩ := h
    rfl
  · obtain ⟨a, dx, e, q, n, s, ls, ad, reg, rfl, ha, he, hR, k⟩ := h
    refine ⟨_, pss_cons (ps_lock (ps_for PassesOwn.never rfl (pi_items (pe_fld (pv 0) rfl)) (pg_tup rfl (pgs_cons (pg_name (i := 3) scLabelOf.nd rfl (Or.inl rfl)) (pgs_cons (pg_name (i := 4) scLabelOf.nd rfl (Or.inl rfl)) pgs_nil)))
        (pss_one (ps_if (PW.pt (pw_and (pt_cmpR op_eq (pe_fld (pv 4) rfl) (pv 1) (nomark _)) (pw_and1 (pt_cmpR op_eq (pe_fld (pv 4) rfl) (pv 2) (nomark _))))) (pss_one (ps_ret (pv 3))) pss_nil))))
      (pss_one (ps_ret pe_non)), ?_⟩
    have nae : a ≠ e := ne_of ha he (by intro z; cases z)
    refine ⟨e, _, he, trivial, fun od => ?_⟩
    have ha1 : upd H e (.frz od (.dK (entKV ls ad))) a = some (wsO CW dx e q) := by rw [upd_ne nae]; exact ha
    refine ⟨_, rfl, a, CW, dx, _, _, rfl, ha1, T.cl, T.no _ (by decide), rfl, ?_⟩
    refine ⟨e, od, entKV ls ad, rfl, upd_same, ?_⟩
    -- behind the lock
    have un : ∀ {H1 : Hp}, Same (upd H e (.frz od (.dK (entKV ls ad)))) H1 → Same H (upd H1 e (.dK (entKV ls ad))) := fun {H1} sm b o e1 => by
      by_cases hb : b = e
      · rw [hb, upd_same, ← he, ← hb, e1]
      · rw [upd_ne hb]
        exact sm _ _ (by rw [upd_ne hb]; exact e1)
    have hR1 : ∀ j ∈ ls, ∃ dx, upd H e (.frz od (.dK (entKV ls ad))) (ad j) = some (regO CR dx (reg j).num (reg j).src (reg j).word (reg j).armed) := fun j hj => by
      obtain ⟨dj, ej⟩ := hR j hj
      exact ⟨dj, by rw [upd_ne (ne_of ej he (by intro z; cases z))]; exact ej⟩
    refine for_it walk_items (fun i σ' H1 => ∃ u v : Option V, σ' = [some (.ref a), some (.int n), some (.int s), u, v] ∧ Same (upd H e (.frz od (.dK (entKV ls ad)))) H1 ∧ ∀ j l, ls[j]? = some l → j < i → keyOf reg n s l = false) ⟨_, _, rfl, Same.refl _, fun _ _ _ z => absurd z (Nat.not_lt_zero _)⟩ (fun i σ' H1 _ ⟨_, _, _, sm, _⟩ => sm _ _ upd_same) ?_ ?_
    · rintro i x σ' H1 H2 hi ⟨u, v, rfl, sm, hn⟩ ⟨T1, x1, y1, rfl, nT, rfl, ex, ey⟩
      have hi' : i < ls.length := by unfold entKV at hi; rwa [List.length_map] at hi
      have e1 : (entKV ls ad)[i]? = some (Sum.inl ls[i], .ref (ad ls[i])) := by
        unfold entKV
        rw [List.getElem?_map, List.getElem?_eq_getElem hi']
        rfl
      have ex : (entKV ls ad)[i]?.map (fun kv => kV kv.1) = some x1 := ex
      have ey : (entKV ls ad)[i]?.map Prod.snd = some y1 := ey
      rw [e1] at ex ey
      cases ex
      cases ey
      have smT := sm.trans (Same.new' (o := .tup [V.int ls[i], V.ref (ad ls[i])]) nT)
      obtain ⟨dr, er⟩ := hR1 ls[i] (List.getElem_mem hi')
      have er2 := smT _ _ er
      refine ⟨T1, _, rfl, SqT.of upd_same, rfl, _, _, rfl, ?_⟩
      walk_at "wn"
      refine ⟨_, _, rfl, ?_⟩
      walk_at "wn"
      refine ⟨rfl, ?_⟩
      refine ⟨_, rfl, ad ls[i], CR, dr, _, _, rfl, er2, TR.cl, TR.no _ (by decide), rfl, _, rfl, rfl, _, rfl, ?_⟩
      have no : keyOf reg n s ls[i] = false → ∃ u v : Option V, ([some (.ref a), some (.int n), some (.int s), some (.int ls[i]), some (.ref (ad ls[i]))] : L2.St) = [some (.ref a), some (.int n), some (.int s), u, v] ∧ Same (upd H e (.frz od (.dK (entKV ls ad)))) (upd H1 T1 (.tup [V.int ls[i], V.ref (ad ls[i])])) ∧ ∀ j l, ls[j]? = some l → j < i + 1 → keyOf reg n s l = false := fun hk => ⟨_, _, rfl, smT, fun j l ej hj => by
        rcases Nat.lt_or_ge j i with z | z
        · exact hn j l ej z
        · obtain rfl : j = i := by omega
          rw [List.getElem?_eq_getElem hi'] at ej
          cases ej
          exact hk⟩
      by_cases h1 : (reg ls[i]).num = n
      · rw [decide_eq_true (by rw [h1])]
        walk_at "wn"
        refine ⟨_, rfl, ad ls[i], CR, dr, _, _, rfl, er2, TR.cl, TR.no _ (by decide), rfl, _, rfl, rfl, _, rfl, ?_⟩
        by_cases h2 : (reg ls[i]).src = s
        · rw [decide_eq_true (by rw [h2])]
          walk_at "wn"
          refine ⟨smT _ _ upd_same, ?_⟩
          have hf : ls.find? (keyOf reg n s) = some ls[i] := by
            rw [List.find?_eq_some_iff_getElem]
            refine ⟨by unfold keyOf; rw [decide_eq_true h1, decide_eq_true h2]; rfl, i, hi', rfl, fun j hj => ?_⟩
            rw [hn j _ (List.getElem?_eq_getElem (by omega)) hj]
            rfl
          have z := k _ (un smT)
          rw [hf] at z
          exact z
        · rw [decide_eq_false fun z => h2 (V.int.inj z)]
          walk_at "wn"
          exact no (by unfold keyOf; rw [decide_eq_false h2, Bool.and_false])
      · rw [decide_eq_false fun z => h1 (V.int.inj z)]
        walk_at "wn"
        exact no (by unfold keyOf; rw [decide_eq_false h1, Bool.false_and])
    · rintro σ' H1 ⟨u, v, rfl, sm, hn⟩
      refine ⟨sm _ _ upd_same, ?_⟩
      walk_at "wn"
      have hf : ls.find? (keyOf reg n s) = none := by
        rw [List.find?_eq_none]
        intro l hl
        obtain ⟨j, hj, rfl⟩ := List.getElem_of_mem hl
        rw [hn j _ (List.getElem?_eq_getElem hj) (by unfold entKV; rw [List.length_map]; exact hj)]
        exact Bool.false_ne_true
      have z := k _ (un sm)
      rw [hf] at z
      exact z
/-! notice -/
def noticeQ (reg : Int → Reg) (s : Int) (ls qs : List Int) : List Int := ls.foldl (fun acc l => if (reg l).src = s ∧ (reg l).armed = true then qAdd l acc else acc) qs
theorem notice_len (reg : Int → Reg) (s : Int) : ∀ ls qs : List Int, (noticeQ reg s ls qs).length ≤ qs.length + ls.length
  | [], _ => Nat.le_refl _
  | l :: ls, qs => by
    have := notice_len reg s ls (if (reg l).src = s ∧ (reg l).armed = true then qAdd l qs else qs)
    have h2 : (if (reg l).src = s ∧ (reg l).armed = true then qAdd l qs else qs).length ≤ qs.length + 1 := by
      unfold qAdd
      split
      · split
        · omega
        · rw [List.length_append]
          exact Nat.le_refl _
      · omega
    refine Nat.le_trans this ?_
    rw [List.length_cons]
    omega
theorem notice_step (reg : Int → Reg) (s : Int) (ls qs : List Int) {i : Nat} (hi : i < ls.length) : noticeQ reg s (ls.take (i + 1)) qs = if (reg ls[i]).src = s ∧ (reg ls[i]).armed = true then qAdd ls[i] (noticeQ reg s (ls.take i) qs) else noticeQ reg s (ls.take i) qs := by
  unfold noticeQ
  rw [List.take_add_one, List.getElem?_eq_getElem hi, List.foldl_append]
  rfl
def spNotice (CW CR : Addr) : Sp := fun vs H Q _ => ∃ (a dx e q : Addr) (s : Int) (qs ls : List Int) (ad : Int → Addr) (reg : Int → Reg), vs = [.ref a, .int s] ∧ H a = some (wsO CW dx e q) ∧ H q = some (.lst (qs.map V.int)) ∧ H e = some (.dK (entKV ls ad)) ∧ RegsAt CR H ls ad reg ∧ qs.length ≤ 4000 ∧ ls.length ≤ 4000 ∧
  ∀ H', H' q = some (.lst ((noticeQ reg s ls qs).map V.int)) → (∀ b o, b ≠ q → H b = some o → H' b = some o) → Q .non H'
theorem scNotice : FnScope ["self", "source", "label", "kept"] ["self", "source"] (defScope sNotice) := ⟨rfl, rfl, rfl, by decide +kernel, rfl, by decide +kernel, by decide +kernel⟩
theorem okNotice {f fA : Addr} {fd fdA : FuncData} (F : Fun K "notice" "WaitingSet.notice" sNotice f fd) (T : ClsF K CW wsF) (TR : ClsF K CR regF) (GA : FnOk P w K mg base CX0 1 fA fdA ["self", "label"] (spAppend CW)) (mA : Meth K CW "append_pending" fA) (bA : Binds K fdA ["self", "label"] []) :
    FnOk P w K mg base CX0 2 f fd ["self", "source"] (spNotice CW CR) := by
  refine F.ok scNotice (fun vs H Q E h => ?_) (fun cdv A outer s H vs Q E hr h => ?_)
  · obtain ⟨_, _, _, _, _, _, _, _, _, rfl, _⟩ := h
    rfl
  · obtain ⟨a, dx, e, q, s, qs, ls, ad, reg, rfl, ha, hq, he, hR, hz, hz2, k⟩ := h
    refine ⟨_, pss_one (ps_lock (ps_for PassesOwn.never rfl (pi_items (pe_fld (pv 0) rfl)) (pg_tup rfl (pgs_cons (pg_name (i := 2) scNotice.nd rfl (Or.inl rfl)) (pgs_cons (pg_name (i := 3) scNotice.nd rfl (Or.inl rfl)) pgs_nil)))
        (pss_one (ps_if (PW.pt (pw_and (pt_cmpR op_eq (pe_fld (pv 3) rfl) (pv 1) (nomark _)) (pw_and1 (pt_val (pe_fld (pv 3) rfl))))) (pss_one (ps_expr (pe_meth (pv 0) T.cl mA GA hr bA .nil pass0 (pa_cons (pv 2) pa_nil)))) pss_nil)))), ?_⟩
    have nae : a ≠ e := ne_of ha he (by intro z; cases z)
    have naq : a ≠ q := ne_of ha hq (by intro z; cases z)
    have nqe : q ≠ e := ne_of hq he (by intro z; cases z)
    refine ⟨e, _, he, trivial, fun od => ?_⟩
    have ha1 : upd H e (.frz od (.dK (entKV ls ad))) a = some (wsO CW dx e q) := by rw [upd_ne nae]; exact ha
    have hq1 : upd H e (.frz od (.dK (entKV ls ad))) q = some (.lst (qs.map V.int)) := by rw [upd_ne nqe]; exact hq
    refine ⟨_, rfl, a, CW, dx, _, _, rfl, ha1, T.cl, T.no _ (by decide), rfl, ?_⟩
    refine ⟨e, od, entKV ls ad, rfl, upd_same, ?_⟩
    have hR1 : ∀ j ∈ ls, ∃ dx, upd H e (.frz od (.dK (entKV ls ad))) (ad j) = some (regO CR dx (reg j).num (reg j).src (reg j).word (reg j).armed) ∧ ad j ≠ q := fun j hj => by
      obtain ⟨dj, ej⟩ := hR j hj
      exact ⟨dj, by rw [upd_ne (ne_of ej he (by intro z; cases z))]; exact ej, ne_of ej hq (by intro z; cases z)⟩
    have un : ∀ {H1 : Hp}, (∀ b o, b ≠ q → upd H e (.frz od (.dK (entKV ls ad))) b = some o → H1 b = some o) → ∀ b o, b ≠ q → H b = some o → upd H1 e (.dK (entKV ls ad)) b = some o := fun {H1} sm b o n e1 => by
      by_cases hb : b = e
      · rw [hb, upd_same, ← he, ← hb, e1]
      · rw [upd_ne hb]
        exact sm _ _ n (by rw [upd_ne hb]; exact e1)
    refine for_it walk_items (fun i σ' H1 => ∃ u v : Option V, σ' = [some (.ref a), some (.int s), u, v] ∧ (∀ b o, b ≠ q → upd H e (.frz od (.dK (entKV ls ad))) b = some o → H1 b = some o) ∧ H1 q = some (.lst ((noticeQ reg s (ls.take i) qs).map V.int))) ⟨_, _, rfl, fun _ _ _ z => z, hq1⟩ (fun i σ' H1 _ ⟨_, _, _, sm, _⟩ => sm _ _ (Ne.symm nqe) upd_same) ?_ ?_
    · rintro i x σ' H1 H2 hi ⟨u, v, rfl, sm, hqi⟩ ⟨T1, x1, y1, rfl, nT, rfl, ex, ey⟩
      have hi' : i < ls.length := by unfold entKV at hi; rwa [List.length_map] at hi
      have e1 : (entKV ls ad)[i]? = some (Sum.inl ls[i], .ref (ad ls[i])) := by
        unfold entKV
        rw [List.getElem?_map, List.getElem?_eq_getElem hi']
        rfl
      have ex : (entKV ls ad)[i]?.map (fun kv => kV kv.1) = some x1 := ex
      have ey : (entKV ls ad)[i]?.map Prod.snd = some y1 := ey
      rw [e1] at ex ey
      cases ex
      cases ey
      have nT2 := Same.new' (o := .tup [V.int ls[i], V.ref (ad ls[i])]) nT
      have smT : ∀ b o, b ≠ q → upd H e (.frz od (.dK (entKV ls ad))) b = some o → upd H1 T1 (.tup [V.int ls[i], V.ref (ad ls[i])]) b = some o := fun b o n z => nT2 _ _ (sm b o n z)
      have hqT := nT2 _ _ hqi
      obtain ⟨dr, er, nrq⟩ := hR1 ls[i] (List.getElem_mem hi')
      have er2 := smT _ _ nrq er
      have st := notice_step reg s ls qs hi'
      refine ⟨T1, _, rfl, SqT.of upd_same, rfl, _, _, rfl, ?_⟩
      walk_at "wn"
      refine ⟨_, _, rfl, ?_⟩
      walk_at "wn"
      refine ⟨rfl, ?_⟩
      refine ⟨_, rfl, ad ls[i], CR, dr, _, _, rfl, er2, TR.cl, TR.no _ (by decide), rfl, _, rfl, rfl, _, rfl, ?_⟩
      by_cases h1 : (reg ls[i]).src = s
      · rw [decide_eq_true (by rw [h1])]
        walk_at "wn"
        refine ⟨_, rfl, ad ls[i], CR, dr, _, _, rfl, er2, TR.cl, TR.no _ (by decide), rfl, _, rfl, ?_⟩
        cases h2 : (reg ls[i]).armed with
        | true =>
          walk_at "wn"
          refine ⟨_, rfl, a, dx, _, rfl, smT _ _ naq ha1, rfl, ?_⟩
          walk_at "wn"
          have hl3 := notice_len reg s (ls.take i) qs
          rw [List.length_take] at hl3
          refine ⟨a, dx, e, q, ls[i], _, rfl, smT _ _ naq ha1, hqT, by omega, fun H' k1 k2 => ?_⟩
          refine ⟨_, _, rfl, fun b o n z => by rw [k2 b n]; exact smT b o n z, ?_⟩
          rw [st, if_pos ⟨h1, h2⟩]
          exact k1
        | false =>
          walk_at "wn"
          refine ⟨_, _, rfl, smT, ?_⟩
          rw [st, if_neg fun z => by rw [h2] at z; exact Bool.noConfusion z.2]
          exact hqT
      · rw [decide_eq_false fun z => h1 (V.int.inj z)]
        walk_at "wn"
        refine ⟨_, _, rfl, smT, ?_⟩
        rw [st, if_neg fun z => h1 z.1]
        exact hqT
    · rintro σ' H1 ⟨u, v, rfl, sm, hqi⟩
      refine ⟨sm _ _ (Ne.symm nqe) upd_same, ?_⟩
      have e3 : ls.take (entKV ls ad).length = ls := by unfold entKV; rw [List.length_map, List.take_length]
      rw [e3] at hqi
      exact k _ (by rw [upd_ne nqe]; exact hqi) (un sm)
end

/-! what a wait takes -/
structure TSt where
  reps : List (Int × Int × Bool)
  que : List Int
  reg : Int → Reg
def takeStep (unit : Int → Int × Bool) (s : TSt) (l : Int) : TSt :=
  if decide (0 < (unit (s.reg l).src).1) || (unit (s.reg l).src).2 then ⟨s.reps ++ [(l, (unit (s.reg l).src).1, (unit (s.reg l).src).2)], if (s.reg l).word = "level" then s.que.drop 1 ++ [l] else s.que.drop 1, settled s.reg l⟩ else ⟨s.reps, s.que.drop 1, s.reg⟩
def takeAll (unit : Int → Int × Bool) (most : Int) : List Int → TSt → TSt
  | [], s => s
  | l :: ls, s => if (s.reps.length : Int) = most then s else takeAll unit most ls (takeStep unit s l)
theorem settled_src (reg : Int → Reg) (l j : Int) : (settled reg l j).src = (reg j).src := by
  unfold settled
  split
  · rename_i h
    rw [h.1]
  · rfl
theorem step_src (unit : Int → Int × Bool) (s : TSt) (l j : Int) : ((takeStep unit s l).reg j).src = (s.reg j).src := by
  unfold takeStep
  split
  · exact settled_src _ _ _
  · rfl
theorem step_len (unit : Int → Int × Bool) (s : TSt) (l : Int) : (takeStep unit s l).que.length ≤ s.que.length + 1 ∧ (takeStep unit s l).reps.length ≤ s.reps.length + 1 := by
  unfold takeStep
  split
  · refine ⟨?_, by simp⟩
    dsimp only
    split
    · rw [List.length_append, List.length_drop]
      show s.que.length - 1 + 1 ≤ _
      omega
    · rw [List.length_drop]
      omega
  · refine ⟨?_, Nat.le_succ _⟩
    dsimp only
    rw [List.length_drop]
    omega
theorem cut_one (l : List V) : cutV l (some 1) none = l.drop 1 := by
  cases l with
  | nil => rfl
  | cons v l =>
    unfold cutV HT.sIx
    simp
/-- the units of the sources, each a tuple -/
def UnitsAt (H : Hp) (ss : List Int) (ad : Int → Addr) (unit : Int → Int × Bool) : Prop := ∀ s ∈ ss, H (ad s) = some (.tup [.int (unit s).1, .bl (unit s).2])
abbrev RepAt (H : Hp) : V → Int × Int × Bool → Prop := fun v r => ∃ t, v = .ref t ∧ H t = some (.tup [.int r.1, .int r.2.1, .bl r.2.2])
theorem reps_keep {H H' : Hp} {vs : List V} {rs : List (Int × Int × Bool)} (p : Paired (RepAt H) vs rs) (k : ∀ b xs, H b = some (.tup xs) → H' b = some (.tup xs)) : Paired (RepAt H') vs rs := by
  induction p with
  | nil => exact .nil
  | cons r _ ih =>
    obtain ⟨t, e1, e2⟩ := r
    exact .cons ⟨t, e1, k _ _ e2⟩ ih
theorem reps_snoc {H : Hp} {vs : List V} {rs : List (Int × Int × Bool)} {v : V} {r : Int × Int × Bool} (p : Paired (RepAt H) vs rs) (q : RepAt H v r) : Paired (RepAt H) (vs ++ [v]) (rs ++ [r]) := by
  induction p with
  | nil => exact .cons q .nil
  | cons r _ ih => exact .cons r ih
theorem or_pure {σ : L2.St} {H : Hp} {t u : TT} {b1 b2 : Bool} {k : Bool → Hp → Prop} (h1 : ∀ k : Bool → Hp → Prop, k b1 H → t σ H k) (h2 : ∀ k : Bool → Hp → Prop, k b2 H → u σ H k) (q : k (b1 || b2) H) : tOr t u σ H k := by
  show t σ H fun b H1 => if b = true then k true H1 else u σ H1 k
  refine h1 _ ?_
  cases b1 with
  | true => exact q
  | false => exact h2 k q
section
variable {P : Program} {w : World} {K : PySem.W.Frag} {mg : Str → Option Value} {base : Heap} {CR CW : Addr}
def spReports (CW CR : Addr) : Sp := fun vs H Q _ => ∃ (a dx e q D : Addr) (most : Int) (qs ls ss : List Int) (ad adS : Int → Addr) (reg : Int → Reg) (unit : Int → Int × Bool), vs = [.ref a, .int most, .ref D] ∧ H a = some (wsO CW dx e q) ∧ H q = some (.lst (qs.map V.int)) ∧ H e = some (.dK (entKV ls ad)) ∧ RegsAt CR H ls ad reg ∧
  H D = some (.dK (entKV ss adS)) ∧ D ≠ e ∧ UnitsAt H ss adS unit ∧ (∀ l ∈ qs, l ∈ ls) ∧ (∀ l ∈ ls, (reg l).src ∈ ss) ∧ CW ≠ CR ∧ (∀ l ∈ ls, ∀ l' ∈ ls, ad l = ad l' → l = l') ∧ qs.length ≤ 1000 ∧ ls.length ≤ 1000 ∧
  ∀ H' r rs q' ad', H' a = some (wsO CW dx e q') → H' q' = some (.lst ((takeAll unit most qs ⟨[], qs, reg⟩).que.map V.int)) → (q' = q ∨ H q' = none) → H' e = some (.dK (entKV ls ad')) → RegsAt CR H' ls ad' (takeAll unit most qs ⟨[], qs, reg⟩).reg →
    (∀ j, ad' j = ad j ∨ H (ad' j) = none) → (∀ l ∈ ls, ∀ l' ∈ ls, ad' l = ad' l' → l = l') → H r = none → r ≠ q' → H' r = some (.lst rs) → Paired (RepAt H') rs (takeAll unit most qs ⟨[], qs, reg⟩).reps → (∀ b o, b ≠ a → b ≠ e → b ≠ q → H b = some o → H' b = some o) → Q (.ref r) H'
theorem scReports : FnScope ["self", "most", "sources", "reports", "pending", "label", "unread", "finished"] ["self", "most", "sources"] (defScope sReports) := ⟨rfl, rfl, rfl, by decide +kernel, rfl, by decide +kernel, by decide +kernel⟩
structure WsTxt (mg : Str → Option Value) : Prop where
  list : mg "list" = none
  len : mg "len" = none
theorem okReports {f fS : Addr} {fd fdS : FuncData} (F : Fun K "take_reports" "WaitingSet.take_reports" sReports f fd) (X : WsTxt mg) (T : ClsF K CW wsF) (TR : ClsF K CR regF) (GS : FnOk P w K mg base CX0 3 fS fdS ["self", "label"] (spSettle CW CR)) (mS : Meth K CW "settle" fS) (bS : Binds K fdS ["self", "label"] []) :
    FnOk P w K mg base CX0 4 f fd ["self", "most", "sources"] (spReports CW CR) := by
  refine F.ok scReports (fun vs H Q E h => ?_) (fun cdv A outer s H vs Q E hr h => ?_)
  · obtain ⟨_, _, _, _, _, _, _, _, _, _, _, _, _, rfl, _⟩ := h
    rfl
  · obtain ⟨a, dx, e, q, D, most, qs, ls, ss, ad, adS, reg, unit, rfl, ha, hq, he, hR, hD, nDe, hU, hql, hls, nWR, hinj, hz, hz2, k⟩ := h
    have hu := hu_of hr
    refine ⟨_, pss_cons (ps_set (i := 3) scReports.nd rfl (Or.inl rfl) (pe_lst pa_nil))
      (pss_cons (ps_set (i := 4) scReports.nd rfl (Or.inl rfl) (pe_callTy call_list_of (by rfl) X.list PyProof.Rows.boot_list (pa_cons (pe_fld (pv 0) rfl) pa_nil)))
      (pss_cons (ps_for PassesOwn.never rfl (pi_list (pv 4)) (pg_name (i := 5) scReports.nd rfl (Or.inl rfl))
        (pss_cons (ps_if (pt_cmpR op_eq (pe_callB cLenQ (by rfl) X.len PySem.boot_len (pa_cons (pv 3) pa_nil)) (pv 1) (nomark _)) (pss_one ps_break) pss_nil)
        (pss_cons (ps_fld (pv 0) (pe_slice sl_list (pe_fld (pv 0) rfl) (po_some pe_int) po_none) rfl)
        (pss_cons (ps_asg (pe_dget hu (pv 2) (pe_fld (pe_dget hu (pe_fld (pv 0) rfl) (pv 5) (fun _ _ => rfl)) rfl) (fun _ _ => rfl)) (pg_tup rfl (pgs_cons (pg_name (i := 6) scReports.nd rfl (Or.inl rfl)) (pgs_cons (pg_name (i := 7) scReports.nd rfl (Or.inl rfl)) pgs_nil))))
        (pss_one (ps_if (PW.pt (pw_or (pt_cmpR op_gt (pv 6) pe_int (nomark _)) (pw_or1 (pt_val (pv 7)))))
          (pss_cons (ps_expr (pe_bm PySem.F.plainAttrs_list PySem.F.slot_list_append PySem.F.type_list_append mt_append (pv 3) (pa_cons (pe_tup (pa_cons (pv 5) (pa_cons (pv 6) (pa_cons (pv 7) pa_nil)))) pa_nil)))
          (pss_one (ps_expr (pe_meth (pv 0) T.cl mS GS hr bS .nil pass0 (pa_cons (pv 5) pa_nil))))) pss_nil))))))
      (pss_one (ps_ret (pv 3))))), ?_⟩
    walk_at "wn"
    refine ⟨Nat.zero_le _, fun r hr0 => ?_⟩
    walk_at "wn"
    have s1 := Same.new' (o := .lst []) hr0
    refine ⟨_, rfl, a, CW, dx, _, _, rfl, s1 _ _ ha, T.cl, T.no _ (by decide), rfl, ?_⟩
    refine ⟨q, qs.map V.int, rfl, .inl (SqL.of (s1 _ _ hq)), fun p hp => ?_⟩
    walk_at "wn"
    have s2 := Same.new' (o := .lst (qs.map V.int)) hp
    have hrr : upd (upd H r (.lst [])) p (.lst (qs.map V.int)) r = some (.lst []) := s2 _ _ upd_same
    have nPr : p ≠ r := fun z => by rw [z, upd_same] at hp; cases hp
    have npr : p ≠ r := fun z => by rw [z, upd_same] at hp; cases hp
    have hp0 : H p = none := by rw [upd_ne npr] at hp; exact hp
    have sm := s1.trans s2
    have hpp : upd (upd H r (.lst [])) p (.lst (qs.map V.int)) p = some (.lst (qs.map V.int)) := upd_same
    generalize upd (upd H r (.lst [])) p (.lst (qs.map V.int)) = H0 at sm hrr hpp
    refine ⟨_, rfl, p, rfl, ⟨_, SqL.of hpp⟩, for_list (xs := qs.map V.int) (fun i σ' H1 => ∃ (st : TSt) (rs : List V) (q' : Addr) (ad' : Int → Addr) (u5 u6 u7 : Option V), σ' = [some (.ref a), some (.int most), some (.ref D), some (.ref r), some (.ref p), u5, u6, u7] ∧
      takeAll unit most (qs.drop i) st = takeAll unit most qs ⟨[], qs, reg⟩ ∧ H1 a = some (wsO CW dx e q') ∧ H1 q' = some (.lst (st.que.map V.int)) ∧ (q' = q ∨ H q' = none) ∧ q' ≠ r ∧ q' ≠ p ∧ H1 e = some (.dK (entKV ls ad')) ∧ RegsAt CR H1 ls ad' st.reg ∧ (∀ j, ad' j = ad j ∨ H (ad' j) = none) ∧ (∀ l ∈ ls, ∀ l' ∈ ls, ad' l = ad' l' → l = l') ∧
      H1 r = some (.lst rs) ∧ H1 p = some (.lst (qs.map V.int)) ∧ Paired (RepAt H1) rs st.reps ∧ (∀ b o, b ≠ a → b ≠ e → b ≠ q → H b = some o → H1 b = some o) ∧ (∀ l ∈ ls, (st.reg l).src ∈ ss) ∧ st.que.length ≤ 1000 + i ∧ st.reps.length ≤ i ∧ ∃ o, H1 q = some o) ?_ (fun i σ' H1 _ ⟨_, _, _, _, _, _, _, _, _, _, _, _, _, _, _, _, _, _, _, h, _⟩ => SqL.of h) ?_ ?_⟩
    · refine ⟨⟨[], qs, reg⟩, [], q, ad, _, _, _, rfl, rfl, sm _ _ ha, sm _ _ hq, .inl rfl, ne_of_none hq hr0, ne_of_none hq hp0, sm _ _ he, fun l hl => ?_, fun _ => .inl rfl, hinj, hrr, hpp, .nil, fun b o _ _ _ z => sm b o z, hls, by show qs.length ≤ 1000 + 0; omega, Nat.le_refl _, _, sm _ _ hq⟩
      obtain ⟨dl, el⟩ := hR l hl
      exact ⟨dl, sm _ _ el⟩
    · rintro i x σ' H1 hx ⟨st, rs, q', ad', u5, u6, u7, rfl, ht, h1a, h1q, hq', nqr, nqp, h1e, hR1, had, hij, h1r, h1p, hreps, fr, hsrc, hql1, hrl, oq, hoq⟩
      rw [List.getElem?_map] at hx
      cases el : qs[i]? with
      | none => rw [el] at hx; cases hx
      | some l =>
      rw [el] at hx
      cases hx
      obtain ⟨hi, eli⟩ := List.getElem?_eq_some_iff.mp el
      have hin : i < 1000 := by omega
      have hll : l ∈ ls := hql l (List.mem_of_getElem? el)
      rw [List.drop_eq_getElem_cons hi, eli] at ht
      have hlen := hreps.length
      walk_at "wn"
      by_cases hm : (st.reps.length : Int) = most
      · rw [decide_eq_true (by rw [hlen, hm])]
        walk_at "wn"
        have ht2 : st = takeAll unit most qs ⟨[], qs, reg⟩ := by
          rw [← ht]
          unfold takeAll
          rw [if_pos hm]
        refine ⟨_, rfl, ?_⟩
        exact k H1 r rs q' ad' h1a (ht2 ▸ h1q) hq' h1e (ht2 ▸ hR1) had hij hr0 (Ne.symm nqr) h1r (ht2 ▸ hreps) fr
      · rw [decide_eq_false fun z => hm (by rw [← hlen]; exact V.int.inj z)]
        walk_at "wn"
        have ht2 : takeAll unit most (qs.drop (i + 1)) (takeStep unit st l) = takeAll unit most qs ⟨[], qs, reg⟩ := by
          rw [← ht]
          conv => rhs; unfold takeAll
          rw [if_neg hm]
        have nDa : D ≠ a := ne_of hD ha (by intro z; cases z)
        have nDq : D ≠ q := ne_of hD hq (by intro z; cases z)
        have h1D := fr D _ nDa nDe nDq hD
        have ec : cutV (st.que.map V.int) (some 1) none = (st.que.drop 1).map V.int := by rw [cut_one, List.map_drop]
        refine ⟨_, rfl, a, CW, dx, _, _, rfl, h1a, T.cl, T.no _ (by decide), rfl, ?_⟩
        refine ⟨1, rfl, q', _, rfl, SqL.of h1q, fun p2 hp2 => ?_⟩
        rw [ec]
        have s3 := Same.new' (o := .lst ((st.que.drop 1).map V.int)) hp2
        have np2a : p2 ≠ a := fun z => by rw [z, h1a] at hp2; cases hp2
        have np2p : p2 ≠ p := fun z => by rw [z, h1p] at hp2; cases hp2
        have np2r : p2 ≠ r := fun z => by rw [z, h1r] at hp2; cases hp2
        refine ⟨_, rfl, a, CW, dx, _, rfl, s3 _ _ h1a, T.cl, T.no _ (by decide), by show 2 < 1000; decide, ?_⟩
        have h3a : upd (upd H1 p2 (.lst ((st.que.drop 1).map V.int))) a (.ins CW dx (putF "queue" (V.ref p2) [("entries", V.ref e), ("queue", V.ref q')])) a = some (wsO CW dx e p2) := upd_same
        have h3p : upd (upd H1 p2 (.lst ((st.que.drop 1).map V.int))) a (.ins CW dx (putF "queue" (V.ref p2) [("entries", V.ref e), ("queue", V.ref q')])) p2 = some (.lst ((st.que.drop 1).map V.int)) := by rw [upd_ne np2a, upd_same]
        have h3 : ∀ b o, b ≠ a → H1 b = some o → upd (upd H1 p2 (.lst ((st.que.drop 1).map V.int))) a (.ins CW dx (putF "queue" (V.ref p2) [("entries", V.ref e), ("queue", V.ref q')])) b = some o := fun b o n z => by rw [upd_ne n]; exact s3 _ _ z
        generalize upd (upd H1 p2 (.lst ((st.que.drop 1).map V.int))) a (.ins CW dx (putF "queue" (V.ref p2) [("entries", V.ref e), ("queue", V.ref q')])) = H3 at h3a h3p h3
        have h3e := h3 e _ (ne_of h1e h1a (by intro z; cases z)) h1e
        have h3D := h3 D _ nDa h1D
        have h3r := h3 r _ (ne_of h1r h1a (by intro z; cases z)) h1r
        have h3P := h3 p _ (ne_of h1p h1a (by intro z; cases z)) h1p
        have hR3 : RegsAt CR H3 ls ad' st.reg := fun j hj => by
          obtain ⟨dj, ej⟩ := hR1 j hj
          refine ⟨dj, h3 _ _ (fun z => ?_) ej⟩
          rw [z, h1a] at ej
          cases ej
        have hreps3 : Paired (RepAt H3) rs st.reps := reps_keep hreps fun b xs z => h3 b _ (ne_of z h1a (by intro z; cases z)) z
        have fr3 : ∀ b o, b ≠ a → b ≠ e → b ≠ q → H b = some o → H3 b = some o := fun b o n1 n2 n3 z => h3 b o n1 (fr b o n1 n2 n3 z)
        obtain ⟨dr, er⟩ := hR3 l hll
        have hsl : (st.reg l).src ∈ ss := hsrc l hll
        have hUl := hU _ hsl
        have h3U := fr3 _ _ (ne_of hUl ha (by intro z; cases z)) (ne_of hUl he (by intro z; cases z)) (ne_of hUl hq (by intro z; cases z)) hUl
        have hp2H : H p2 = none := by
          cases z : H p2 with
          | none => rfl
          | some o =>
            by_cases n2 : p2 = e
            · rw [n2, h1e] at hp2
              cases hp2
            · by_cases n3 : p2 = q
              · rw [n3, hoq] at hp2
                cases hp2
              · rw [fr p2 o np2a n2 n3 z] at hp2
                cases hp2
        have naq : q ≠ a := ne_of hq ha (by intro z; cases z)
        have neq : q ≠ e := ne_of hq he (by intro z; cases z)
        have np2q : q ≠ p2 := fun z => by rw [← z, hoq] at hp2; cases hp2
        have np2e : p2 ≠ e := fun z => by rw [z, h1e] at hp2; cases hp2
        have h3q := h3 q _ naq hoq
        have hv1 : valV (entKV ls ad') (Sum.inl l) = some (.ref (ad' l)) := by rw [ent_val, if_pos hll]
        have hv2 : valV (entKV ss adS) (Sum.inl (st.reg l).src) = some (.ref (adS (st.reg l).src)) := by rw [ent_val, if_pos hsl]
        have stl := step_len unit st l
        walk_at "wn"
        refine ⟨_, rfl, _, rfl, a, CW, dx, _, _, rfl, h3a, T.cl, T.no _ (by decide), rfl, ?_⟩
        refine ⟨_, rfl, e, _, rfl, hv1 ▸ DGet.k (k := Sum.inl l) h3e, ?_⟩
        refine ⟨ad' l, CR, dr, _, _, rfl, er, TR.cl, TR.no _ (by decide), rfl, ?_⟩
        refine ⟨D, _, rfl, hv2 ▸ DGet.k (k := Sum.inl (st.reg l).src) h3D, ?_⟩
        refine ⟨adS (st.reg l).src, _, rfl, SqT.of h3U, rfl, _, _, rfl, ?_⟩
        walk_at "wn"
        refine ⟨_, _, rfl, ?_⟩
        walk_at "wn"
        refine ⟨rfl, ?_⟩
        with_reducible refine' g_ifs ?_
        refine or_pure (b1 := decide (0 < (unit (st.reg l).src).1)) (b2 := (unit (st.reg l).src).2) (fun k q => ?_) (fun k q => ?_) ?_
        · exact ⟨_, rfl, _, _, rfl, rfl, _, rfl, q⟩
        · exact ⟨_, rfl, _, rfl, q⟩
        refine ite2 (fun hd => ?_) (fun hd => ?_)
        · have est : takeStep unit st l = ⟨st.reps ++ [(l, (unit (st.reg l).src).1, (unit (st.reg l).src).2)], if (st.reg l).word = "level" then st.que.drop 1 ++ [l] else st.que.drop 1, settled st.reg l⟩ := by
            unfold takeStep
            rw [if_pos hd]
          walk_at "wn"
          refine ⟨by show 3 ≤ sizeLine; decide, fun t nt => ?_⟩
          have s4 := Same.new' (o := .tup [V.int l, V.int (unit (st.reg l).src).1, V.bl (unit (st.reg l).src).2]) nt
          have h4t : upd H3 t (.tup [V.int l, V.int (unit (st.reg l).src).1, V.bl (unit (st.reg l).src).2]) t = some (.tup [V.int l, V.int (unit (st.reg l).src).1, V.bl (unit (st.reg l).src).2]) := upd_same
          generalize upd H3 t (.tup [V.int l, V.int (unit (st.reg l).src).1, V.bl (unit (st.reg l).src).2]) = H4 at s4 h4t
          have h4r := s4 _ _ h3r
          refine ⟨r, rs, _, rfl, rfl, h4r, by rw [sizeLine_eq]; omega, ?_⟩
          have s5 : ∀ b o, b ≠ r → H3 b = some o → upd H4 r (.lst (rs ++ [V.ref t])) b = some o := fun b o n z => by rw [upd_ne n]; exact s4 _ _ z
          have h5r : upd H4 r (.lst (rs ++ [V.ref t])) r = some (.lst (rs ++ [V.ref t])) := upd_same
          have h5t : upd H4 r (.lst (rs ++ [V.ref t])) t = some (.tup [V.int l, V.int (unit (st.reg l).src).1, V.bl (unit (st.reg l).src).2]) := by rw [upd_ne (ne_of h4t h4r (by intro z; cases z))]; exact h4t
          generalize upd H4 r (.lst (rs ++ [V.ref t])) = H5 at s5 h5r h5t
          have nra : a ≠ r := ne_of h3a h3r (by intro z; cases z)
          have nre : e ≠ r := ne_of h3e h3r (by intro z; cases z)
          have h5a := s5 _ _ nra h3a
          have h5e := s5 _ _ nre h3e
          have h5p := s5 _ _ np2r h3p
          have h5P := s5 _ _ nPr h3P
          have hR5 : RegsAt CR H5 ls ad' st.reg := fun j hj => by
            obtain ⟨dj, ej⟩ := hR3 j hj
            exact ⟨dj, s5 _ _ (ne_of ej h3r (by intro z; cases z)) ej⟩
          have hreps5 := reps_snoc (r := (l, (unit (st.reg l).src).1, (unit (st.reg l).src).2)) (reps_keep hreps3 fun b xs z => s5 b _ (ne_of z h3r (by intro z; cases z)) z) ⟨t, rfl, h5t⟩
          walk_at "wn"
          refine ⟨_, rfl, a, dx, _, rfl, h5a, rfl, ?_⟩
          walk_at "wn"
          refine ⟨a, dx, e, p2, l, st.que.drop 1, ls, ad', st.reg, rfl, h5a, h5p, h5e, hR5, hll, nWR, by rw [List.length_drop]; omega, by omega, fun H6 ad6 k1 k2 k3 k4 k5 k6 => ?_⟩
          have nae : a ≠ e := ne_of ha he (by intro z; cases z)
          have inj6 : ∀ j ∈ ls, ∀ j' ∈ ls, ad6 j = ad6 j' → j = j' := fun j hj j' hj' z => by
            have some5 : ∀ j ∈ ls, H5 (ad' j) ≠ none := fun j hj y => by
              obtain ⟨dj, ej⟩ := hR5 j hj
              rw [y] at ej
              cases ej
            by_cases e1 : j = l
            · by_cases e2 : j' = l
              · rw [e1, e2]
              · rw [k3 j' e2, e1] at z
                rcases k4 with y | y
                · exact hij j hj j' hj' (by rw [e1, ← y, z])
                · rw [z] at y
                  exact absurd y (some5 j' hj')
            · by_cases e2 : j' = l
              · rw [k3 j e1, e2] at z
                rcases k4 with y | y
                · exact hij j hj j' hj' (by rw [e2, ← y, z])
                · rw [← z] at y
                  exact absurd y (some5 j hj)
              · rw [k3 j e1, k3 j' e2] at z
                exact hij j hj j' hj' z
          refine ⟨_, rs ++ [V.ref t], p2, ad6, _, _, _, rfl, ht2, k6 _ _ nae (Ne.symm np2a) h5a, ?_, .inr hp2H, np2r, np2p, k1, ?_, fun j => ?_, inj6, k6 _ _ (Ne.symm nre) (Ne.symm np2r) h5r, k6 _ _ ?_ (Ne.symm np2p) h5P, ?_, fun b o n1 n2 n3 z => ?_, fun j hj => by rw [step_src]; exact hsrc j hj, by omega, by omega, oq, k6 _ _ neq np2q (s5 _ _ ?_ h3q)⟩
          · rw [est]
            exact k2
          · rw [est]
            exact k5
          · by_cases ej : j = l
            · rw [ej]
              rcases k4 with z | z
              · rw [z]
                exact had l
              · refine .inr ?_
                cases y : H (ad6 l) with
                | none => rfl
                | some o =>
                  exfalso
                  by_cases m1 : ad6 l = a
                  · rw [m1, h5a] at z
                    cases z
                  · by_cases m2 : ad6 l = e
                    · rw [m2, h5e] at z
                      cases z
                    · by_cases m3 : ad6 l = q
                      · rw [m3, s5 _ _ (ne_of_none hq hr0) h3q] at z
                        cases z
                      · rw [s5 _ _ (fun w => by rw [w, hr0] at y; cases y) (fr3 _ _ m1 m2 m3 y)] at z
                        cases z
            · rw [k3 j ej]
              exact had j
          · exact ne_of h1p h1e (by intro z; cases z)
          · rw [est]
            exact reps_keep hreps5 fun b xs z => k6 b _ (ne_of z h5e (by intro z; cases z)) (ne_of z h5p (by intro z; cases z)) z
          · refine k6 _ _ n2 (fun w => by rw [w, hp2H] at z; cases z) (s5 _ _ (fun w => by rw [w, hr0] at z; cases z) (fr3 _ _ n1 n2 n3 z))
          · exact ne_of_none hq hr0
        · have est : takeStep unit st l = ⟨st.reps, st.que.drop 1, st.reg⟩ := by
            unfold takeStep
            rw [if_neg hd]
          walk_at "wn"
          refine ⟨_, rs, p2, ad', _, _, _, rfl, ht2, h3a, by rw [est]; exact h3p, .inr hp2H, np2r, np2p, h3e, by rw [est]; exact hR3, had, hij, h3r, h3P, by rw [est]; exact hreps3, fr3, fun j hj => by rw [step_src]; exact hsrc j hj, by omega, by omega, oq, h3q⟩
    · rintro σ' H1 ⟨st, rs, q', ad', u5, u6, u7, rfl, ht, h1a, h1q, hq', nqr, nqp, h1e, hR1, had, hij, h1r, h1p, hreps, fr, hsrc, hql1, hrl, oq, hoq⟩
      have e0 : qs.drop (qs.map V.int).length = [] := by rw [List.length_map, List.drop_length]
      rw [e0] at ht
      have ht2 : st = takeAll unit most qs ⟨[], qs, reg⟩ := ht
      walk_at "wn"
      exact k H1 r rs q' ad' h1a (ht2 ▸ h1q) hq' h1e (ht2 ▸ hR1) had hij hr0 (Ne.symm nqr) h1r (ht2 ▸ hreps) fr
end

abbrev sSysInit : Stmt := meth 30 2
abbrev sNewSource : Stmt := meth 30 4
abbrev sNewSet : Stmt := meth 30 5
abbrev sArrive : Stmt := meth 30 10
abbrev sRead : Stmt := meth 30 12
abbrev sAdd : Stmt := meth 30 13
abbrev sWait : Stmt := meth 30 16
abbrev sRowOf : Stmt := meth 30 24
abbrev sContains : Stmt := meth 30 30
abbrev sTableOf : Stmt := meth 30 32
abbrev sIsTabNum : Stmt := meth 30 33
abbrev sThingAt : Stmt := meth 30 34
abbrev sSourceAt : Stmt := meth 30 35
abbrev sSetAt : Stmt := meth 30 36
abbrev sFreeNum : Stmt := meth 30 37
abbrev sNewThing : Stmt := meth 30 39
abbrev sUnfinished : Stmt := meth 30 42
abbrev sIsReady : Stmt := meth 30 43
abbrev sNotify : Stmt := meth 30 45
/-! a system, its cells and what stands in them -/
inductive Cell
  | box | tabD | srcD | setD
  | tab (p : Int) | srcT (t : Int) | ws (s : Int) | ent (s : Int) | que (s : Int)
  | reg (s l : Int)
  deriving DecidableEq
structure Sys where
  P : Int
  N : Int
  next : Int
  procs : List Int
  tab : Int → List (Option Int)
  srcs : List Int
  unit : Int → Int × Bool
  sets : List Int
  ents : Int → List Int
  reg : Int → Int → Reg
  que : Int → List Int
def live (S : Sys) : Cell → Prop
  | .box | .tabD | .srcD | .setD => True
  | .tab p => p ∈ S.procs
  | .srcT t => t ∈ S.srcs
  | .ws s | .ent s | .que s => s ∈ S.sets
  | .reg s l => s ∈ S.sets ∧ l ∈ S.ents s
def optV : Option Int → V
  | none => .non
  | some t => .int t
def sysO (CS dx : Addr) (S : Sys) (t s u : Addr) : HO := .ins CS dx [("process_limit", .int S.P), ("number_limit", .int S.N), ("tables", .ref t), ("sources", .ref s), ("sets", .ref u), ("next_thing", .int S.next)]
structure Cs where
  S : Addr
  W : Addr
  R : Addr
def co (C : Cs) (S : Sys) (ad dx : Cell → Addr) : Cell → HO
  | .box => sysO C.S (dx .box) S (ad .tabD) (ad .srcD) (ad .setD)
  | .tabD => .dK (entKV S.procs fun p => ad (.tab p))
  | .srcD => .dK (entKV S.srcs fun t => ad (.srcT t))
  | .setD => .dK (entKV S.sets fun s => ad (.ws s))
  | .tab p => .lst ((S.tab p).map optV)
  | .srcT t => .tup [.int (S.unit t).1, .bl (S.unit t).2]
  | .ws s => wsO C.W (dx (.ws s)) (ad (.ent s)) (ad (.que s))
  | .ent s => .dK (entKV (S.ents s) fun l => ad (.reg s l))
  | .que s => .lst ((S.que s).map V.int)
  | .reg s l => regO C.R (dx (.reg s l)) (S.reg s l).num (S.reg s l).src (S.reg s l).word (S.reg s l).armed
structure At (C : Cs) (H : Hp) (S : Sys) (ad dx : Cell → Addr) : Prop where
  at_ : ∀ c, live S c → H (ad c) = some (co C S ad dx c)
  inj : ∀ c c', live S c → live S c' → ad c = ad c' → c = c'
def own (S : Sys) (ad : Cell → Addr) (b : Addr) : Prop := ∃ c, live S c ∧ ad c = b
/-- what lies outside stays; what comes in is new -/
structure Step (H : Hp) (S : Sys) (ad : Cell → Addr) (H' : Hp) (S' : Sys) (ad' : Cell → Addr) : Prop where
  keep : ∀ b o, ¬ own S ad b → H b = some o → H' b = some o
  new : ∀ b, own S' ad' b → own S ad b ∨ H b = none
  box : ad' .box = ad .box
section
variable {C : Cs} {H H' H2 : Hp} {S S' S2 : Sys} {ad ad' ad2 dx dx' : Cell → Addr}
theorem Step.refl : Step H S ad H S ad := ⟨fun _ _ _ z => z, fun _ z => .inl z, rfl⟩
theorem Step.trans (a : Step H S ad H' S' ad') (b : Step H' S' ad' H2 S2 ad2) : Step H S ad H2 S2 ad2 := by
  refine ⟨fun x o n e => b.keep x o (fun z => ?_) (a.keep x o n e), fun x z => ?_, b.box.trans a.box⟩
  · rcases a.new x z with y | y
    · exact n y
    · rw [y] at e
      cases e
  · rcases b.new x z with y | y
    · exact a.new x y
    · cases e : H x with
      | none => exact .inr rfl
      | some o =>
        by_cases w : own S ad x
        · exact .inl w
        · rw [a.keep x o w e] at y
          cases y
theorem Step.same (s : Same H H') : Step H S ad H' S ad := ⟨fun b o _ e => s _ _ e, fun _ z => .inl z, rfl⟩
theorem At.same (A : At C H S ad dx) (s : Same H H') : At C H' S ad dx := ⟨fun c hc => s _ _ (A.at_ c hc), A.inj⟩
theorem At.ne (A : At C H S ad dx) {c c' : Cell} (h : live S c) (h' : live S c') (n : c ≠ c') : ad c ≠ ad c' := fun z => n (A.inj c c' h h' z)
theorem At.new (A : At C H S ad dx) {c : Cell} {l : Addr} (h : live S c) (n : H l = none) : ad c ≠ l := ne_of_none (A.at_ c h) n
/-- where the cells' addresses stay -/
theorem At.re (A : At C H S ad dx) (hl : ∀ c, live S' c ↔ live S c) (h : ∀ c, live S c → (H' (ad c) = some (co C S' ad dx c)) ∨ (co C S' ad dx c = co C S ad dx c ∧ H' (ad c) = H (ad c))) : At C H' S' ad dx := by
  refine ⟨fun c hc => ?_, fun c c' h1 h2 => A.inj c c' ((hl c).mp h1) ((hl c').mp h2)⟩
  have hc := (hl c).mp hc
  rcases h c hc with e | ⟨e1, e2⟩
  · exact e
  · rw [e1, e2]
    exact A.at_ c hc
theorem Step.re (hl : ∀ c, live S' c ↔ live S c) (h : ∀ b o, ¬ own S ad b → H b = some o → H' b = some o) : Step H S ad H' S' ad := ⟨h, fun b ⟨c, h1, h2⟩ => .inl ⟨c, (hl c).mp h1, h2⟩, rfl⟩
end
section
variable {P : Program} {w : World} {K : PySem.W.Frag} {mg : Str → Option Value} {base : Heap} {C : Cs}
structure MO (P : Program) (w : World) (K : PySem.W.Frag) (mg : Str → Option Value) (base : Heap) (k : Nat) (C : Addr) (m : Str) (ps : List Str) (sp : Sp) (f : Addr) (fd : FuncData) : Prop where
  g : FnOk P w K mg base CX0 k f fd ps sp
  m : Meth K C m f
  b : Binds K fd ps []
structure DO (P : Program) (w : World) (K : PySem.W.Frag) (mg : Str → Option Value) (base : Heap) (k : Nat) (x : Str) (ps : List Str) (sp : Sp) (f : Addr) (fd : FuncData) : Prop where
  g : FnOk P w K mg base CX0 k f fd ps sp
  k : PySem.W.keepIn K (.ref f) = true
  m : mg x = some (.ref f)
  b : Binds K fd ps []
/-- a call on a system -/
def OnSys (C : Cs) (vs : List V) (H : Hp) (rest : List V) (k : Sys → (Cell → Addr) → (Cell → Addr) → Prop) : Prop := ∃ (S : Sys) (ad dx : Cell → Addr), vs = .ref (ad .box) :: rest ∧ At C H S ad dx ∧ k S ad dx
def spContains (C : Cs) : Sp := fun vs H Q _ => ∃ p : Int, OnSys C vs H [.int p] fun S _ _ => Q (.bl (decide (p ∈ S.procs))) H
theorem scContains : FnScope ["self", "x"] ["self", "x"] (defScope sContains) := ⟨rfl, rfl, rfl, by decide +kernel, rfl, by decide +kernel, by decide +kernel⟩
theorem okContains {f fI : Addr} {fd fdI : FuncData} (F : Fun K "__contains__" "System.__contains__" sContains f fd) (T : ClsF K C.S sysF) (GI : DO P w K mg base 1 "is_integer" ["x"] spIsInteger fI fdI) : FnOk P w K mg base CX0 2 f fd ["self", "x"] (spContains C) := by
  refine F.ok scContains (fun vs H Q E h => ?_) (fun cdv A outer s H vs Q E hr h => ?_)
  · obtain ⟨_, _, _, _, rfl, _⟩ := h
    rfl
  · obtain ⟨p, S, ad, dx, rfl, A0, k⟩ := h
    have hu := hu_of hr
    refine ⟨_, pss_one (ps_ret (pe_and (pe_call GI.g hr (by rfl) GI.m GI.k GI.b .nil pass0 (pa_cons (pv 1) pa_nil)) (pe_one (pe_cmp (pc_din hu (pv 1) (pe_fld (pv 0) rfl)) rfl)))), ?_⟩
    walk_at "wn"
    refine ⟨p, rfl, ?_⟩
    walk_at "wn"
    refine ⟨_, rfl, _, rfl, ad .box, C.S, dx .box, _, _, rfl, A0.at_ .box trivial, T.cl, T.no _ (by decide), rfl, ?_⟩
    refine ⟨ad .tabD, _, rfl, DGet.k (k := Sum.inl p) (A0.at_ .tabD trivial), ?_⟩
    rw [ent_val]
    by_cases hp : p ∈ S.procs
    · rw [if_pos hp]
      rw [decide_eq_true hp] at k
      exact k
    · rw [if_neg hp]
      rw [decide_eq_false hp] at k
      exact k
def spTableOf (C : Cs) : Sp := fun vs H Q _ => ∃ p : Int, OnSys C vs H [.int p] fun S ad _ => p ∈ S.procs ∧ Q (.ref (ad (.tab p))) H
theorem scTableOf : FnScope ["self", "process"] ["self", "process"] (defScope sTableOf) := ⟨rfl, rfl, rfl, by decide +kernel, rfl, by decide +kernel, by decide +kernel⟩
theorem okTableOf {f fC : Addr} {fd fdC : FuncData} (F : Fun K "table_of" "System.table_of" sTableOf f fd) (T : ClsF K C.S sysF) (GC : MO P w K mg base 2 C.S "__contains__" ["self", "x"] (spContains C) fC fdC) : FnOk P w K mg base CX0 3 f fd ["self", "process"] (spTableOf C) := by
  refine F.ok scTableOf (fun vs H Q E h => ?_) (fun cdv A outer s H vs Q E hr h => ?_)
  · obtain ⟨_, _, _, _, rfl, _⟩ := h
    rfl
  · obtain ⟨p, S, ad, dx, rfl, A0, hp, k⟩ := h
    have hu := hu_of hr
    refine ⟨_, pss_cons (ps_if (pt_cmpR (op_ownNotIn GC.g hr GC.m.at_ GC.m.fn GC.b pass0) (pv 1) (pv 0) (by rfl)) (pss_one ps_never) pss_nil)
      (pss_one (ps_ret (pe_dget hu (pe_fld (pv 0) rfl) (pv 1) (fun _ _ => rfl)))), ?_⟩
    walk_at "wn"
    refine ⟨ad .box, dx .box, _, rfl, A0.at_ .box trivial, p, S, ad, dx, rfl, A0, _, rfl, ?_⟩
    rw [decide_eq_true hp]
    walk_at "wn"
    refine ⟨_, rfl, ad .box, C.S, dx .box, _, _, rfl, A0.at_ .box trivial, T.cl, T.no _ (by decide), rfl, ?_⟩
    have hv : valV (entKV S.procs fun p => ad (.tab p)) (Sum.inl p) = some (.ref (ad (.tab p))) := by rw [ent_val, if_pos hp]
    exact ⟨_, rfl, ad .tabD, _, rfl, hv ▸ DGet.k (k := Sum.inl p) (A0.at_ .tabD trivial), k⟩
def spIsTabNum (C : Cs) : Sp := fun vs H Q _ => ∃ n : Int, OnSys C vs H [.int n] fun S _ _ => Q (.bl (decide (0 ≤ n) && decide (n ≤ S.N - 1))) H
theorem scIsTabNum : FnScope ["self", "number"] ["self", "number"] (defScope sIsTabNum) := ⟨rfl, rfl, rfl, by decide +kernel, rfl, by decide +kernel, by decide +kernel⟩
theorem okIsTabNum {f fB : Addr} {fd fdB : FuncData} (F : Fun K "is_table_number" "System.is_table_number" sIsTabNum f fd) (T : ClsF K C.S sysF) (GB : DO P w K mg base 2 "is_between" ["x", "least", "most"] spIsBetween fB fdB) : FnOk P w K mg base CX0 3 f fd ["self", "number"] (spIsTabNum C) := by
  refine F.ok scIsTabNum (fun vs H Q E h => ?_) (fun cdv A outer s H vs Q E hr h => ?_)
  · obtain ⟨_, _, _, _, rfl, _⟩ := h
    rfl
  · obtain ⟨n, S, ad, dx, rfl, A0, k⟩ := h
    refine ⟨_, pss_one (ps_ret (pe_call GB.g hr (by rfl) GB.m GB.k GB.b .nil pass0 (pa_cons (pv 1) (pa_cons pe_int (pa_cons (pe_op op_sub (pe_fld (pv 0) rfl) pe_int) pa_nil))))), ?_⟩
    walk_at "wn"
    refine ⟨_, rfl, ad .box, C.S, dx .box, _, _, rfl, A0.at_ .box trivial, T.cl, T.no _ (by decide), rfl, ?_⟩
    walk_at "wn"
    exact ⟨n, 0, S.N - 1, rfl, k⟩
/-- a number that means a thing -/
structure Means (S : Sys) (p n t : Int) : Prop where
  pr : p ∈ S.procs
  lo : 0 ≤ n
  hi : n ≤ S.N - 1
  at_ : (S.tab p)[n.toNat]? = some (some t)
def spThingAt (C : Cs) : Sp := fun vs H Q _ => ∃ p n t : Int, OnSys C vs H [.int p, .int n] fun S _ _ => Means S p n t ∧ Q (.int t) H
theorem scThingAt : FnScope ["self", "process", "number", "table"] ["self", "process", "number"] (defScope sThingAt) := ⟨rfl, rfl, rfl, by decide +kernel, rfl, by decide +kernel, by decide +kernel⟩
theorem okThingAt {f fT fN : Addr} {fd fdT fdN : FuncData} (F : Fun K "thing_at" "System.thing_at" sThingAt f fd) (T : ClsF K C.S sysF) (GT : MO P w K mg base 3 C.S "table_of" ["self", "process"] (spTableOf C) fT fdT) (GN : MO P w K mg base 3 C.S "is_table_number" ["self", "number"] (spIsTabNum C) fN fdN) :
    FnOk P w K mg base CX0 4 f fd ["self", "process", "number"] (spThingAt C) := by
  refine F.ok scThingAt (fun vs H Q E h => ?_) (fun cdv A outer s H vs Q E hr h => ?_)
  · obtain ⟨_, _, _, _, _, _, rfl, _⟩ := h
    rfl
  · obtain ⟨p, n, t, S, ad, dx, rfl, A0, M, k⟩ := h
    refine ⟨_, pss_cons (ps_set (i := 3) scThingAt.nd rfl (Or.inl rfl) (pe_meth (pv 0) T.cl GT.m GT.g hr GT.b .nil pass0 (pa_cons (pv 1) pa_nil)))
      (pss_cons (ps_if (PW.pt (pw_or (pt_not (pt_val (pe_meth (pv 0) T.cl GN.m GN.g hr GN.b .nil pass0 (pa_cons (pv 2) pa_nil)))) (pw_or1 (pt_cmpR oIsN (pe_ix ix_list (pv 3) (pv 2) (fun _ _ => rfl)) pe_non (nomark _))))) (pss_one ps_never) pss_nil)
      (pss_one (ps_ret (pe_ix ix_list (pv 3) (pv 2) (fun _ _ => rfl))))), ?_⟩
    have hb := A0.at_ .box trivial
    have ht := A0.at_ (.tab p) M.pr
    obtain ⟨m, hm⟩ := Int.eq_ofNat_of_zero_le M.lo
    have hat : atI ((S.tab p).map optV) n = some (V.int t) := by
      have e := M.at_
      rw [hm] at e ⊢
      refine atI_nat ?_
      rw [List.getElem?_map, show (S.tab p)[m]? = some (some t) from e]
      rfl
    walk_at "wn"
    refine ⟨_, rfl, ad .box, dx .box, _, rfl, hb, rfl, ?_⟩
    walk_at "wn"
    refine ⟨p, S, ad, dx, rfl, A0, M.pr, ?_⟩
    walk_at "wn"
    refine ⟨_, rfl, ad .box, dx .box, _, rfl, hb, rfl, ?_⟩
    walk_at "wn"
    refine ⟨n, S, ad, dx, rfl, A0, ?_⟩
    dsimp only
    rw [decide_eq_true M.lo, decide_eq_true M.hi]
    walk_at "wn"
    refine ⟨_, rfl, ?_⟩
    walk_at "wn"
    refine ⟨ad (.tab p), _, n, _, rfl, rfl, SqL.of ht, hat, ?_⟩
    walk_at "wn"
    have e : decide (V.int t = V.non) = false := decide_eq_false fun z => nomatch z
    rw [e]
    walk_at "wn"
    exact ⟨ad (.tab p), _, n, _, rfl, rfl, SqL.of ht, hat, k⟩
def spSourceAt (C : Cs) : Sp := fun vs H Q _ => ∃ p n t : Int, OnSys C vs H [.int p, .int n] fun S _ _ => Means S p n t ∧ t ∈ S.srcs ∧ Q (.int t) H
theorem scSourceAt : FnScope ["self", "process", "number", "thing"] ["self", "process", "number"] (defScope sSourceAt) := ⟨rfl, rfl, rfl, by decide +kernel, rfl, by decide +kernel, by decide +kernel⟩
theorem okSourceAt {f fT : Addr} {fd fdT : FuncData} (F : Fun K "source_at" "System.source_at" sSourceAt f fd) (T : ClsF K C.S sysF) (GT : MO P w K mg base 4 C.S "thing_at" ["self", "process", "number"] (spThingAt C) fT fdT) :
    FnOk P w K mg base CX0 5 f fd ["self", "process", "number"] (spSourceAt C) := by
  refine F.ok scSourceAt (fun vs H Q E h => ?_) (fun cdv A outer s H vs Q E hr h => ?_)
  · obtain ⟨_, _, _, _, _, _, rfl, _⟩ := h
    rfl
  · obtain ⟨p, n, t, S, ad, dx, rfl, A0, M, ht, k⟩ := h
    have hu := hu_of hr
    refine ⟨_, pss_cons (ps_set (i := 3) scSourceAt.nd rfl (Or.inl rfl) (pe_meth (pv 0) T.cl GT.m GT.g hr GT.b .nil pass0 (pa_cons (pv 1) (pa_cons (pv 2) pa_nil))))
      (pss_cons (ps_if (pt_cmp (pc_dnotin hu (pv 3) (pe_fld (pv 0) rfl)) rfl) (pss_one ps_never) pss_nil)
      (pss_one (ps_ret (pv 3)))), ?_⟩
    have hb := A0.at_ .box trivial
    walk_at "wn"
    refine ⟨_, rfl, ad .box, dx .box, _, rfl, hb, rfl, ?_⟩
    walk_at "wn"
    refine ⟨p, n, t, S, ad, dx, rfl, A0, M, ?_⟩
    walk_at "wn"
    refine ⟨_, rfl, _, rfl, ad .box, C.S, dx .box, _, _, rfl, hb, T.cl, T.no _ (by decide), rfl, ?_⟩
    refine ⟨ad .srcD, _, rfl, DGet.k (k := Sum.inl t) (A0.at_ .srcD trivial), ?_⟩
    rw [ent_val, if_pos ht]
    refine ⟨_, rfl, ?_⟩
    show if false = true then _ else _
    walk_at "wn"
    exact k
def spSetAt (C : Cs) : Sp := fun vs H Q _ => ∃ p n t : Int, OnSys C vs H [.int p, .int n] fun S ad _ => Means S p n t ∧ t ∈ S.sets ∧ Q (.ref (ad (.ws t))) H
theorem scSetAt : FnScope ["self", "process", "set_number", "thing"] ["self", "process", "set_number"] (defScope sSetAt) := ⟨rfl, rfl, rfl, by decide +kernel, rfl, by decide +kernel, by decide +kernel⟩
theorem okSetAt {f fT : Addr} {fd fdT : FuncData} (F : Fun K "set_at" "System.set_at" sSetAt f fd) (T : ClsF K C.S sysF) (GT : MO P w K mg base 4 C.S "thing_at" ["self", "process", "number"] (spThingAt C) fT fdT) :
    FnOk P w K mg base CX0 5 f fd ["self", "process", "set_number"] (spSetAt C) := by
  refine F.ok scSetAt (fun vs H Q E h => ?_) (fun cdv A outer s H vs Q E hr h => ?_)
  · obtain ⟨_, _, _, _, _, _, rfl, _⟩ := h
    rfl
  · obtain ⟨p, n, t, S, ad, dx, rfl, A0, M, ht, k⟩ := h
    have hu := hu_of hr
    refine ⟨_, pss_cons (ps_set (i := 3) scSetAt.nd rfl (Or.inl rfl) (pe_meth (pv 0) T.cl GT.m GT.g hr GT.b .nil pass0 (pa_cons (pv 1) (pa_cons (pv 2) pa_nil))))
      (pss_cons (ps_if (pt_cmp (pc_dnotin hu (pv 3) (pe_fld (pv 0) rfl)) rfl) (pss_one ps_never) pss_nil)
      (pss_one (ps_ret (pe_dget hu (pe_fld (pv 0) rfl) (pv 3) (fun _ _ => rfl))))), ?_⟩
    have hb := A0.at_ .box trivial
    walk_at "wn"
    refine ⟨_, rfl, ad .box, dx .box, _, rfl, hb, rfl, ?_⟩
    walk_at "wn"
    refine ⟨p, n, t, S, ad, dx, rfl, A0, M, ?_⟩
    walk_at "wn"
    have hv : valV (entKV S.sets fun s => ad (.ws s)) (Sum.inl t) = some (.ref (ad (.ws t))) := by rw [ent_val, if_pos ht]
    refine ⟨_, rfl, _, rfl, ad .box, C.S, dx .box, _, _, rfl, hb, T.cl, T.no _ (by decide), rfl, ?_⟩
    refine ⟨ad .setD, _, rfl, DGet.k (k := Sum.inl t) (A0.at_ .setD trivial), ?_⟩
    rw [ent_val, if_pos ht]
    refine ⟨_, rfl, ?_⟩
    show if false = true then _ else _
    walk_at "wn"
    refine ⟨_, rfl, ad .box, C.S, dx .box, _, _, rfl, hb, T.cl, T.no _ (by decide), rfl, ?_⟩
    exact ⟨_, rfl, ad .setD, _, rfl, hv ▸ DGet.k (k := Sum.inl t) (A0.at_ .setD trivial), k⟩
/-! free_number -/
def firstFree (t : List (Option Int)) (n : Nat) : Prop := t[n]? = some none ∧ ∀ i, i < n → ∃ x, t[i]? = some (some x)
def spFreeNum (C : Cs) : Sp := fun vs H Q _ => ∃ (p : Int) (n : Nat), OnSys C vs H [.int p] fun S _ _ => p ∈ S.procs ∧ firstFree (S.tab p) n ∧ (S.tab p).length ≤ 1000 ∧ ∀ H', Same H H' → Q (.int (n : Int)) H'
theorem scFreeNum : FnScope ["self", "process", "number", "thing"] ["self", "process"] (defScope sFreeNum) := ⟨rfl, rfl, rfl, by decide +kernel, rfl, by decide +kernel, by decide +kernel⟩
structure SysTxt (mg : Str → Option Value) : Prop where
  enum : mg "enumerate" = none
  list : mg "list" = none
  min : mg "min" = none
theorem okFreeNum {f fT : Addr} {fd fdT : FuncData} (F : Fun K "free_number" "System.free_number" sFreeNum f fd) (X : SysTxt mg) (T : ClsF K C.S sysF) (GT : MO P w K mg base 3 C.S "table_of" ["self", "process"] (spTableOf C) fT fdT) :
    FnOk P w K mg base CX0 4 f fd ["self", "process"] (spFreeNum C) := by
  refine F.ok scFreeNum (fun vs H Q E h => ?_) (fun cdv A outer s H vs Q E hr h => ?_)
  · obtain ⟨_, _, _, _, _, rfl, _⟩ := h
    rfl
  · obtain ⟨p, n, S, ad, dx, rfl, A0, hp, hf, hl, k⟩ := h
    refine ⟨_, pss_cons (ps_for PassesOwn.never rfl (pi_enum (by rfl) X.enum (pa_cons (pe_meth (pv 0) T.cl GT.m GT.g hr GT.b .nil pass0 (pa_cons (pv 1) pa_nil)) pa_nil)) (pg_tup rfl (pgs_cons (pg_name (i := 2) scFreeNum.nd rfl (Or.inl rfl)) (pgs_cons (pg_name (i := 3) scFreeNum.nd rfl (Or.inl rfl)) pgs_nil)))
        (pss_one (ps_if (pt_cmpR oIsN (pv 3) pe_non (nomark _)) (pss_one (ps_ret (pv 2))) pss_nil)))
      (pss_one ps_never), ?_⟩
    have hb := A0.at_ .box trivial
    have ht := A0.at_ (.tab p) hp
    refine ⟨_, rfl, ad .box, dx .box, _, rfl, hb, rfl, ?_⟩
    walk_at "wn"
    refine ⟨p, S, ad, dx, rfl, A0, hp, ?_⟩
    refine ⟨ad (.tab p), _, rfl, SqL.of ht, ?_⟩
    have hn : n < (S.tab p).length := (List.getElem?_eq_some_iff.mp hf.1).1
    refine for_it (walk_enum (xs := (S.tab p).map optV)) (fun i σ' H1 => ∃ u v : Option V, σ' = [some (.ref (ad .box)), some (.int p), u, v] ∧ Same H H1 ∧ i ≤ n) ⟨_, _, rfl, Same.refl _, Nat.zero_le _⟩ (fun i σ' H1 _ ⟨_, _, _, sm, _⟩ => Same.seq sm (SqL.of ht)) ?_ ?_
    · rintro i x σ' H1 H2 hi ⟨u, v, rfl, sm, hin⟩ ⟨T1, x1, y1, rfl, nT, rfl, ex, ey⟩
      have smT := sm.trans (Same.new' (o := .tup [x1, y1]) nT)
      obtain rfl := Option.some.inj ex
      have ey : ((S.tab p).map optV)[i]? = some y1 := ey
      rw [List.getElem?_map] at ey
      refine ⟨T1, _, rfl, SqT.of upd_same, rfl, _, _, rfl, ?_⟩
      walk_at "wn"
      refine ⟨_, _, rfl, ?_⟩
      walk_at "wn"
      refine ⟨rfl, ?_⟩
      walk_at "wn"
      rcases Nat.lt_or_ge i n with z | z
      · obtain ⟨t, et⟩ := hf.2 i z
        rw [et] at ey
        cases ey
        have e : decide (optV (some t) = V.non) = false := decide_eq_false fun z => nomatch z
        rw [e]
        walk_at "wn"
        exact ⟨_, _, rfl, smT, z⟩
      · obtain rfl : i = n := by omega
        rw [hf.1] at ey
        cases ey
        have e : decide (optV none = V.non) = true := decide_eq_true rfl
        rw [e]
        walk_at "wn"
        exact k _ smT
    · rintro σ' H1 ⟨u, v, rfl, sm, hin⟩
      rw [List.length_map] at hin
      exact absurd hin (by omega)
end

section
variable {C : Cs} {H H' H2 : Hp} {S S' S2 : Sys} {ad ad' ad2 dx dx' : Cell → Addr}
/-- some cells are written, made or stand elsewhere; the others stay -/
theorem At.re3 (ch : List Cell) (A : At C H S ad dx) (hl : ∀ c, live S' c → c ∈ ch ∨ live S c) (h1 : ∀ c ∈ ch, live S' c → H' (ad' c) = some (co C S' ad' dx' c)) (h2 : ∀ c, c ∉ ch → live S c → ad' c = ad c ∧ co C S' ad' dx' c = co C S ad dx c)
    (fresh : ∀ c ∈ ch, live S' c → (ad' c = ad c ∧ live S c) ∨ H (ad' c) = none) (dist : ∀ c ∈ ch, ∀ c' ∈ ch, live S' c → live S' c' → H (ad' c) = none → ad' c = ad' c' → c = c')
    (k : ∀ b o, (∀ c ∈ ch, live S c → b ≠ ad c) → H b = some o → H' b = some o) (box : ad' .box = ad .box) : At C H' S' ad' dx' ∧ Step H S ad H' S' ad' := by
  have out : ∀ c, c ∉ ch → live S' c → live S c := fun c hc l => (hl c l).resolve_left hc
  have keep : ∀ c, c ∉ ch → live S c → H' (ad c) = H (ad c) := fun c hc l => by
    rw [A.at_ c l]
    exact k _ _ (fun c' hc' l' z => hc (by rw [A.inj c c' l l' z]; exact hc')) (A.at_ c l)
  refine ⟨⟨fun c l => ?_, fun c c' l l' z => ?_⟩, ⟨fun b o n e => k b o (fun c hc lc z => n ⟨c, lc, z.symm⟩) e, fun b ⟨c, l, e⟩ => ?_, box⟩⟩
  · by_cases hc : c ∈ ch
    · exact h1 c hc l
    · have ls := out c hc l
      obtain ⟨e1, e2⟩ := h2 c hc ls
      rw [e1, e2, keep c hc ls]
      exact A.at_ c ls
  · have some_ : ∀ c, c ∉ ch → live S' c → H (ad' c) ≠ none := fun c hc l z => by
      have ls := out c hc l
      rw [(h2 c hc ls).1, A.at_ c ls] at z
      cases z
    by_cases hc : c ∈ ch
    · by_cases hc' : c' ∈ ch
      · rcases fresh c hc l with f | f
        · rcases fresh c' hc' l' with f' | f'
          · exact A.inj c c' f.2 f'.2 (by rw [← f.1, ← f'.1, z])
          · rw [← z, f.1, A.at_ c f.2] at f'
            cases f'
        · exact dist c hc c' hc' l l' f z
      · rcases fresh c hc l with f | f
        · have ls := out c' hc' l'
          exact A.inj c c' f.2 ls (by rw [← f.1, z, (h2 c' hc' ls).1])
        · rw [z] at f
          exact absurd f (some_ c' hc' l')
    · have ls := out c hc l
      by_cases hc' : c' ∈ ch
      · rcases fresh c' hc' l' with f | f
        · exact A.inj c c' ls f.2 (by rw [← f.1, ← z, (h2 c hc ls).1])
        · rw [← z] at f
          exact absurd f (some_ c hc l)
      · have ls' := out c' hc' l'
        exact A.inj c c' ls ls' (by rw [← (h2 c hc ls).1, z, (h2 c' hc' ls').1])
  · by_cases hc : c ∈ ch
    · rcases fresh c hc l with f | f
      · exact .inl ⟨c, f.2, by rw [← f.1]; exact e⟩
      · rw [e] at f
        exact .inr f
    · have ls := out c hc l
      exact .inl ⟨c, ls, by rw [← (h2 c hc ls).1]; exact e⟩
/-- where the addresses stay -/
theorem At.re2 (ch : List Cell) (A : At C H S ad dx) (hl : ∀ c, live S' c → live S c) (lv : ∀ c ∈ ch, live S c) (h1 : ∀ c ∈ ch, H' (ad c) = some (co C S' ad dx c)) (h2 : ∀ c, c ∉ ch → live S c → co C S' ad dx c = co C S ad dx c)
    (k : ∀ b o, (∀ c ∈ ch, b ≠ ad c) → H b = some o → H' b = some o) : At C H' S' ad dx ∧ Step H S ad H' S' ad :=
  At.re3 ch A (fun c l => .inr (hl c l)) (fun c hc _ => h1 c hc) (fun c hc l => ⟨rfl, h2 c hc l⟩) (fun c hc l => .inl ⟨rfl, hl c l⟩) (fun c hc c' hc' l l' _ z => A.inj c c' (hl c l) (hl c' l') z)
    (fun b o n e => k b o (fun c hc => n c hc (lv c hc)) e) rfl
theorem At.not_own (A : At C H S ad dx) {l : Addr} (n : H l = none) : ¬ own S ad l := fun ⟨c, h, e⟩ => by
  rw [← e, A.at_ c h] at n
  cases n
end
theorem nodup_idx {α : Type} : ∀ {l : List α} {i j : Nat} {a : α}, l.Nodup → l[i]? = some a → l[j]? = some a → i = j
  | [], i, _, _, _, h, _ => by simp at h
  | _ :: _, 0, 0, _, _, _, _ => rfl
  | x :: l, 0, j + 1, a, nd, h, h' => by
    obtain rfl : x = a := by simpa using h
    exact absurd (List.mem_of_getElem? (show l[j]? = some x from h')) (List.nodup_cons.mp nd).1
  | x :: l, i + 1, 0, a, nd, h, h' => by
    obtain rfl : x = a := by simpa using h'
    exact absurd (List.mem_of_getElem? (show l[i]? = some x from h)) (List.nodup_cons.mp nd).1
  | x :: l, i + 1, j + 1, a, nd, h, h' => by rw [nodup_idx (List.nodup_cons.mp nd).2 (show l[i]? = some a from h) (show l[j]? = some a from h')]
def newThing (S : Sys) (p : Int) (n : Nat) : Sys := { S with next := S.next + 1, tab := fun q => if q = p then (S.tab p).set n (some S.next) else S.tab q }
section
variable {P : Program} {w : World} {K : PySem.W.Frag} {mg : Str → Option Value} {base : Heap} {C : Cs}
def spNewThing (C : Cs) : Sp := fun vs H Q _ => ∃ (p : Int) (n : Nat), OnSys C vs H [.int p] fun S ad dx => p ∈ S.procs ∧ firstFree (S.tab p) n ∧ (S.tab p).length ≤ 1000 ∧
  ∀ H' T, H T = none → H' T = some (.tup [.int (n : Int), .int S.next]) → At C H' (newThing S p n) ad dx → Step H S ad H' (newThing S p n) ad → Q (.ref T) H'
theorem scNewThing : FnScope ["self", "process", "number", "thing"] ["self", "process"] (defScope sNewThing) := ⟨rfl, rfl, rfl, by decide +kernel, rfl, by decide +kernel, by decide +kernel⟩
theorem okNewThing {f fF : Addr} {fd fdF : FuncData} (F : Fun K "new_thing" "System.new_thing" sNewThing f fd) (T : ClsF K C.S sysF) (GF : MO P w K mg base 4 C.S "free_number" ["self", "process"] (spFreeNum C) fF fdF) :
    FnOk P w K mg base CX0 5 f fd ["self", "process"] (spNewThing C) := by
  refine F.ok scNewThing (fun vs H Q E h => ?_) (fun cdv A outer s H vs Q E hr h => ?_)
  · obtain ⟨_, _, _, _, _, rfl, _⟩ := h
    rfl
  · obtain ⟨p, n, S, ad, dx, rfl, A0, hp, hf, hl, k⟩ := h
    have hu := hu_of hr
    refine ⟨_, pss_cons (ps_set (i := 2) scNewThing.nd rfl (Or.inl rfl) (pe_meth (pv 0) T.cl GF.m GF.g hr GF.b .nil pass0 (pa_cons (pv 1) pa_nil)))
      (pss_cons (ps_set (i := 3) scNewThing.nd rfl (Or.inl rfl) (pe_fld (pv 0) rfl))
      (pss_cons (ps_fldaug (pv 0) pe_int in_add)
      (pss_cons (ps_asg (pv 3) (pg_sub (pe_dget hu (pe_fld (pv 0) rfl) (pv 1) (fun _ _ => rfl)) (pv 2) set_list))
      (pss_one (ps_ret (pe_tup (pa_cons (pv 2) (pa_cons (pv 3) pa_nil)))))))), ?_⟩
    walk_at "wn"
    refine ⟨_, rfl, ad .box, dx .box, _, rfl, A0.at_ .box trivial, rfl, ?_⟩
    walk_at "wn"
    refine ⟨p, n, S, ad, dx, rfl, A0, hp, hf, hl, fun H1 s1 => ?_⟩
    have A1 := A0.same s1
    have hb := A1.at_ .box trivial
    have ht := A1.at_ (.tab p) hp
    have nbt : ad .box ≠ ad (.tab p) := A1.ne (c := .box) (c' := .tab p) trivial hp (by intro z; cases z)
    have nbd : ad .tabD ≠ ad .box := A1.ne (c := .tabD) (c' := .box) trivial trivial (by intro z; cases z)
    walk_at "wn"
    refine ⟨_, rfl, ad .box, C.S, dx .box, _, _, rfl, hb, T.cl, T.no _ (by decide), rfl, ?_⟩
    walk_at "wn"
    refine ⟨_, rfl, ad .box, C.S, dx .box, _, _, rfl, hb, T.cl, T.no _ (by decide), rfl, ?_⟩
    refine ⟨_, _, rfl, rfl, ?_⟩
    refine ⟨_, _, hb, by show 6 < 1000; decide, ?_⟩
    walk_at "wn"
    have hv : valV (entKV S.procs fun p => ad (.tab p)) (Sum.inl p) = some (.ref (ad (.tab p))) := by rw [ent_val, if_pos hp]
    refine ⟨_, rfl, ad .box, C.S, dx .box, _, _, rfl, upd_same, T.cl, T.no _ (by decide), rfl, ?_⟩
    refine ⟨_, rfl, ad .tabD, _, rfl, hv ▸ DGet.k (k := Sum.inl p) (by rw [upd_ne nbd]; exact A1.at_ .tabD trivial), ?_⟩
    have hn : n < (S.tab p).length := (List.getElem?_eq_some_iff.mp hf.1).1
    refine ⟨_, rfl, ad (.tab p), _, _, n, rfl, rfl, by rw [upd_ne (Ne.symm nbt)]; exact ht, by rw [List.length_map]; exact ixN_nat hn, ?_⟩
    walk_at "wn"
    refine ⟨by show 2 ≤ sizeLine; decide, fun T1 hT => ?_⟩
    have nTt : T1 ≠ ad (.tab p) := fun z => by rw [z, upd_same] at hT; cases hT
    rw [upd_ne nTt] at hT
    have nTb : T1 ≠ ad .box := fun z => by rw [z, upd_same] at hT; cases hT
    rw [upd_ne nTb] at hT
    refine (fun z : At C _ _ _ _ ∧ Step _ _ _ _ _ _ => k _ T1 (s1.free hT) upd_same z.1 ((Step.same s1).trans z.2)) ?_
    refine At.re2 [.box, .tab p] A1 (fun c l => by cases c <;> exact l) (fun c hc => ?_) (fun c hc => ?_) (fun c hc l => ?_) (fun b o n e => ?_)
    · simp only [List.mem_cons, List.not_mem_nil, or_false] at hc
      rcases hc with rfl | rfl
      · exact trivial
      · exact hp
    · simp only [List.mem_cons, List.not_mem_nil, or_false] at hc
      rcases hc with rfl | rfl
      · rw [upd_ne (Ne.symm nTb), upd_ne nbt, upd_same]
        rfl
      · rw [upd_ne (Ne.symm nTt), upd_same]
        show _ = some (HO.lst ((if p = p then (S.tab p).set n (some S.next) else S.tab p).map optV))
        rw [if_pos rfl, List.map_set]
        rfl
    · cases c with
      | box => exact absurd List.mem_cons_self hc
      | tab q =>
        have nq : q ≠ p := fun z => hc (by rw [z]; simp)
        show HO.lst ((if q = p then (S.tab p).set n (some S.next) else S.tab q).map optV) = _
        rw [if_neg nq]
        rfl
      | _ => rfl
    · have n1 := n .box (by simp)
      have n2 := n (.tab p) (by simp)
      rw [upd_ne (ne_of_none e hT), upd_ne n2, upd_ne n1]
      exact e
/-! unread_of_unfinished, is_ready -/
def spUnfinished (C : Cs) : Sp := fun vs H Q _ => ∃ t n : Int, OnSys C vs H [.int t, .int n] fun S _ _ => t ∈ S.srcs ∧ (S.unit t).2 = false ∧ Q (.int (S.unit t).1) H
theorem scUnfinished : FnScope ["self", "source", "number", "unread", "finished"] ["self", "source", "number"] (defScope sUnfinished) := ⟨rfl, rfl, rfl, by decide +kernel, rfl, by decide +kernel, by decide +kernel⟩
theorem okUnfinished {f : Addr} {fd : FuncData} (F : Fun K "unread_of_unfinished" "System.unread_of_unfinished" sUnfinished f fd) (T : ClsF K C.S sysF) : FnOk P w K mg base CX0 1 f fd ["self", "source", "number"] (spUnfinished C) := by
  refine F.ok scUnfinished (fun vs H Q E h => ?_) (fun cdv A outer s H vs Q E hr h => ?_)
  · obtain ⟨_, _, _, _, _, rfl, _⟩ := h
    rfl
  · obtain ⟨t, n, S, ad, dx, rfl, A0, ht, hf, k⟩ := h
    have hu := hu_of hr
    refine ⟨_, pss_cons (ps_asg (pe_dget hu (pe_fld (pv 0) rfl) (pv 1) (fun _ _ => rfl)) (pg_tup rfl (pgs_cons (pg_name (i := 3) scUnfinished.nd rfl (Or.inl rfl)) (pgs_cons (pg_name (i := 4) scUnfinished.nd rfl (Or.inl rfl)) pgs_nil))))
      (pss_cons (ps_if (pt_val (pv 4)) (pss_one ps_never) pss_nil) (pss_one (ps_ret (pv 3)))), ?_⟩
    have hv : valV (entKV S.srcs fun t => ad (.srcT t)) (Sum.inl t) = some (.ref (ad (.srcT t))) := by rw [ent_val, if_pos ht]
    walk_at "wn"
    refine ⟨_, rfl, ad .box, C.S, dx .box, _, _, rfl, A0.at_ .box trivial, T.cl, T.no _ (by decide), rfl, ?_⟩
    refine ⟨_, rfl, ad .srcD, _, rfl, hv ▸ DGet.k (k := Sum.inl t) (A0.at_ .srcD trivial), ?_⟩
    refine ⟨ad (.srcT t), _, rfl, SqT.of (A0.at_ (.srcT t) ht), rfl, _, _, rfl, ?_⟩
    walk_at "wn"
    refine ⟨_, _, rfl, ?_⟩
    walk_at "wn"
    refine ⟨rfl, ?_⟩
    walk_at "wn"
    rw [hf]
    walk_at "wn"
    exact k
def ready (S : Sys) (t : Int) : Bool := decide (0 < (S.unit t).1) || (S.unit t).2
def spIsReady (C : Cs) : Sp := fun vs H Q _ => ∃ t : Int, OnSys C vs H [.int t] fun S _ _ => t ∈ S.srcs ∧ Q (.bl (ready S t)) H
theorem scIsReady : FnScope ["self", "source", "unread", "finished"] ["self", "source"] (defScope sIsReady) := ⟨rfl, rfl, rfl, by decide +kernel, rfl, by decide +kernel, by decide +kernel⟩
theorem okIsReady {f : Addr} {fd : FuncData} (F : Fun K "is_ready" "System.is_ready" sIsReady f fd) (T : ClsF K C.S sysF) : FnOk P w K mg base CX0 1 f fd ["self", "source"] (spIsReady C) := by
  refine F.ok scIsReady (fun vs H Q E h => ?_) (fun cdv A outer s H vs Q E hr h => ?_)
  · obtain ⟨_, _, _, _, rfl, _⟩ := h
    rfl
  · obtain ⟨t, S, ad, dx, rfl, A0, ht, k⟩ := h
    have hu := hu_of hr
    refine ⟨_, pss_cons (ps_asg (pe_dget hu (pe_fld (pv 0) rfl) (pv 1) (fun _ _ => rfl)) (pg_tup rfl (pgs_cons (pg_name (i := 2) scIsReady.nd rfl (Or.inl rfl)) (pgs_cons (pg_name (i := 3) scIsReady.nd rfl (Or.inl rfl)) pgs_nil))))
      (pss_one (ps_ret (pe_or (pe_cmpR op_gt (pv 2) pe_int (nomark _)) (pe_one (pv 3))))), ?_⟩
    have hv : valV (entKV S.srcs fun t => ad (.srcT t)) (Sum.inl t) = some (.ref (ad (.srcT t))) := by rw [ent_val, if_pos ht]
    walk_at "wn"
    refine ⟨_, rfl, ad .box, C.S, dx .box, _, _, rfl, A0.at_ .box trivial, T.cl, T.no _ (by decide), rfl, ?_⟩
    refine ⟨_, rfl, ad .srcD, _, rfl, hv ▸ DGet.k (k := Sum.inl t) (A0.at_ .srcD trivial), ?_⟩
    refine ⟨ad (.srcT t), _, rfl, SqT.of (A0.at_ (.srcT t) ht), rfl, _, _, rfl, ?_⟩
    walk_at "wn"
    refine ⟨_, _, rfl, ?_⟩
    walk_at "wn"
    refine ⟨rfl, ?_⟩
    walk_at "wn"
    unfold ready at k
    refine ite2 (fun hd => ?_) (fun hd => ?_)
    · rw [show decide (0 < (S.unit t).1) = true from hd, Bool.true_or] at k
      exact k
    · rw [show decide (0 < (S.unit t).1) = false from Bool.eq_false_iff.mpr hd, Bool.false_or] at k
      exact ⟨_, rfl, k⟩
/-! notify -/
def notified (S : Sys) (t : Int) : Sys := { S with que := fun s => if s ∈ S.sets then noticeQ (S.reg s) t (S.ents s) (S.que s) else S.que s }
structure Small (S : Sys) : Prop where
  que : ∀ s ∈ S.sets, (S.que s).length ≤ 900
  ents : ∀ s ∈ S.sets, (S.ents s).length ≤ 900
  srcs : S.srcs.length ≤ 900
  sets : S.sets.length ≤ 900
  nd : S.sets.Nodup
def spNotify (C : Cs) : Sp := fun vs H Q _ => ∃ t : Int, OnSys C vs H [.int t] fun S ad dx => Small S ∧ ∀ H', At C H' (notified S t) ad dx → Step H S ad H' (notified S t) ad → Q .non H'
theorem scNotify : FnScope ["self", "source", "waiting"] ["self", "source"] (defScope sNotify) := ⟨rfl, rfl, rfl, by decide +kernel, rfl, by decide +kernel, by decide +kernel⟩
theorem okNotify {f fN : Addr} {fd fdN : FuncData} (F : Fun K "notify" "System.notify" sNotify f fd) (T : ClsF K C.S sysF) (TW : Cls K C.W) (GN : MO P w K mg base 2 C.W "notice" ["self", "source"] (spNotice C.W C.R) fN fdN) : FnOk P w K mg base CX0 3 f fd ["self", "source"] (spNotify C) := by
  refine F.ok scNotify (fun vs H Q E h => ?_) (fun cdv A outer s H vs Q E hr h => ?_)
  · obtain ⟨_, _, _, _, rfl, _⟩ := h
    rfl
  · obtain ⟨t, S, ad, dx, rfl, A0, sm0, k⟩ := h
    refine ⟨_, pss_one (ps_lock (ps_for PassesOwn.never rfl (pi_values (pe_fld (pv 0) rfl)) (pg_name (i := 2) scNotify.nd rfl (Or.inl rfl)) (pss_one (ps_expr (pe_meth (pv 2) TW GN.m GN.g hr GN.b .nil pass0 (pa_cons (pv 1) pa_nil)))))), ?_⟩
    have hb := A0.at_ .box trivial
    have hD := A0.at_ .setD trivial
    have nbD : ad .box ≠ ad .setD := A0.ne (c := .box) (c' := .setD) trivial trivial (by intro z; cases z)
    refine ⟨ad .setD, _, hD, trivial, fun od => ?_⟩
    refine ⟨_, rfl, ad .box, C.S, dx .box, _, _, rfl, by rw [upd_ne nbD]; exact hb, T.cl, T.no _ (by decide), rfl, ?_⟩
    refine ⟨ad .setD, od, _, rfl, upd_same, ?_⟩
    have hqs : ∀ s ∈ S.sets, ad (.que s) ≠ ad .setD := fun s hs => A0.ne (c := .que s) (c' := .setD) hs trivial (by intro z; cases z)
    have eo : co C S ad dx .setD = .dK (entKV S.sets fun s => ad (.ws s)) := rfl
    rw [eo]
    have old : ∀ c, live S c → c ≠ .setD → upd H (ad .setD) (.frz od (.dK (entKV S.sets fun s => ad (.ws s)))) (ad c) = some (co C S ad dx c) := fun c hc n => by rw [upd_ne (A0.ne hc (c' := .setD) trivial n)]; exact A0.at_ c hc
    refine for_it walk_values (fun i σ' H1 => ∃ u : Option V, σ' = [some (.ref (ad .box)), some (.int t), u] ∧ (∀ b o, (∀ s ∈ S.sets, b ≠ ad (.que s)) → upd H (ad .setD) (.frz od (.dK (entKV S.sets fun s => ad (.ws s)))) b = some o → H1 b = some o) ∧ ∀ (j : Nat) (s : Int), S.sets[j]? = some s → H1 (ad (.que s)) = some (.lst ((if j < i then noticeQ (S.reg s) t (S.ents s) (S.que s) else S.que s).map V.int))) ⟨_, rfl, fun _ _ _ z => z, fun j s hj => ?_⟩ (fun i σ' H1 _ ⟨_, _, kp, _⟩ => kp _ _ (fun s hs => Ne.symm (hqs s hs)) upd_same) ?_ ?_
    · rw [if_neg (Nat.not_lt_zero _)]
      exact old (.que s) (List.mem_of_getElem? hj) (by intro z; cases z)
    · rintro i x σ' H1 H2 hi ⟨u, rfl, kp, hq⟩ ⟨rfl, kx, ex⟩
      have hi' : i < S.sets.length := by unfold entKV at hi; rwa [List.length_map] at hi
      have es : S.sets[i]? = some S.sets[i] := List.getElem?_eq_getElem hi'
      have hs : S.sets[i] ∈ S.sets := List.getElem_mem hi'
      unfold entKV at ex
      rw [List.getElem?_map, es] at ex
      cases ex
      generalize S.sets[i] = s at es hs
      have at1 : ∀ c, live S c → c ≠ .setD → (∀ s' , c ≠ .que s') → H2 (ad c) = some (co C S ad dx c) := fun c hc n1 n2 => kp _ _ (fun s' hs' => A0.ne hc (c' := .que s') hs' (n2 s')) (old c hc n1)
      have hw := at1 (.ws s) hs (by intro z; cases z) (fun s' z => by cases z)
      have he := at1 (.ent s) hs (by intro z; cases z) (fun s' z => by cases z)
      have hq1 := hq i s es
      rw [if_neg (Nat.lt_irrefl i)] at hq1
      walk_at "wn"
      refine ⟨_, rfl, ad (.ws s), dx (.ws s), _, rfl, hw, rfl, ?_⟩
      walk_at "wn"
      refine ⟨ad (.ws s), dx (.ws s), ad (.ent s), ad (.que s), t, S.que s, S.ents s, fun l => ad (.reg s l), S.reg s, rfl, hw, hq1, he, fun l hl => ⟨dx (.reg s l), at1 (.reg s l) ⟨hs, hl⟩ (by intro z; cases z) (fun s' z => by cases z)⟩, Nat.le_trans (sm0.que s hs) (by decide), Nat.le_trans (sm0.ents s hs) (by decide), fun H' k1 k2 => ?_⟩
      refine ⟨_, rfl, fun b o n e => k2 b o (n s hs) (kp b o n e), fun j s' hj => ?_⟩
      by_cases e : s' = s
      · subst e
        have hji : j = i := by
          exact nodup_idx sm0.nd hj es
        rw [if_pos (by omega)]
        exact k1
      · have hs' := List.mem_of_getElem? hj
        rw [k2 _ _ (A0.ne (c := .que s') (c' := .que s) hs' hs (fun z => e (by cases z; rfl))) (hq j s' hj)]
        have hji : j ≠ i := fun z => e (by rw [z, es] at hj; cases hj; rfl)
        by_cases hlt : j < i
        · rw [if_pos hlt, if_pos (by omega)]
        · rw [if_neg hlt, if_neg (by omega)]
    · rintro σ' H1 ⟨u, rfl, kp, hq⟩
      refine ⟨kp _ _ (fun s hs => Ne.symm (hqs s hs)) upd_same, ?_⟩
      refine (fun z : At C _ _ _ _ ∧ Step _ _ _ _ _ _ => k _ z.1 z.2) ?_
      refine At.re2 (S.sets.map Cell.que) A0 (fun c l => by cases c <;> exact l) (fun c hc => ?_) (fun c hc => ?_) (fun c hc l => ?_) (fun b o n e => ?_)
      · obtain ⟨s, hs, rfl⟩ := List.mem_map.mp hc
        exact hs
      · obtain ⟨s, hs, rfl⟩ := List.mem_map.mp hc
        obtain ⟨j, hj, ej⟩ := List.getElem_of_mem hs
        have ej2 : S.sets[j]? = some s := by rw [List.getElem?_eq_getElem hj, ej]
        have q := hq j s ej2
        rw [if_pos (by unfold entKV; rw [List.length_map]; exact hj)] at q
        rw [upd_ne (hqs s hs), q]
        show _ = some (HO.lst ((if s ∈ S.sets then noticeQ (S.reg s) t (S.ents s) (S.que s) else S.que s).map V.int))
        rw [if_pos hs]
      · cases c with
        | que s =>
          have ns : s ∉ S.sets := fun z => hc (List.mem_map.mpr ⟨s, z, rfl⟩)
          exact absurd l ns
        | _ => rfl
      · by_cases hb2 : b = ad .setD
        · rw [hb2, upd_same, ← eo, ← hD, ← hb2, e]
        · rw [upd_ne hb2]
          exact kp b o (fun s hs => n (.que s) (List.mem_map.mpr ⟨s, hs, rfl⟩)) (by rw [upd_ne hb2]; exact e)
end

def setA (ad : Cell → Addr) (c0 : Cell) (T : Addr) : Cell → Addr := fun c => if c = c0 then T else ad c
theorem setA_same {ad : Cell → Addr} {c0 : Cell} {T : Addr} : setA ad c0 T c0 = T := if_pos rfl
theorem setA_ne {ad : Cell → Addr} {c0 c : Cell} {T : Addr} (h : c ≠ c0) : setA ad c0 T c = ad c := if_neg h
theorem srcT_fun (ad : Cell → Addr) (t : Int) (T : Addr) : (fun j => if j = t then T else ad (.srcT j)) = fun j => setA ad (.srcT t) T (.srcT j) := by
  funext j
  by_cases h : j = t
  · rw [if_pos h, h, setA_same]
  · rw [if_neg h, setA_ne fun z => h (by cases z; rfl)]
def withUnit (S : Sys) (t u : Int) (f : Bool) : Sys := { S with unit := fun j => if j = t then (u, f) else S.unit j }
section
variable {C : Cs} {H : Hp} {S : Sys} {ad dx : Cell → Addr}
/-- sources[t] = (u, f) -/
theorem At.unit (A : At C H S ad dx) {t u : Int} {f : Bool} {T : Addr} (ht : t ∈ S.srcs) (hT : H T = none) :
    At C (upd (upd H T (.tup [.int u, .bl f])) (ad .srcD) (.dK (putK (entKV S.srcs fun j => ad (.srcT j)) (Sum.inl t) (.ref T)))) (withUnit S t u f) (setA ad (.srcT t) T) dx ∧
    Step H S ad (upd (upd H T (.tup [.int u, .bl f])) (ad .srcD) (.dK (putK (entKV S.srcs fun j => ad (.srcT j)) (Sum.inl t) (.ref T)))) (withUnit S t u f) (setA ad (.srcT t) T) := by
  have hD := A.at_ .srcD trivial
  have nTD : T ≠ ad .srcD := fun z => by rw [z, hD] at hT; cases hT
  refine At.re3 [.srcD, .srcT t] A (fun c l => .inr (by cases c <;> exact l)) (fun c hc l => ?_) (fun c hc l => ?_) (fun c hc l => ?_) (fun c hc c' hc' l l' z e => ?_) (fun b o n e => ?_) (setA_ne (by intro z; cases z))
  · simp only [List.mem_cons, List.not_mem_nil, or_false] at hc
    rcases hc with rfl | rfl
    · rw [setA_ne (by intro z; cases z), upd_same, ent_put, if_pos ht, srcT_fun]
      rfl
    · rw [setA_same, upd_ne nTD, upd_same]
      show _ = some (HO.tup [.int (if t = t then (u, f) else S.unit t).1, .bl (if t = t then (u, f) else S.unit t).2])
      rw [if_pos rfl]
  · have n1 : c ≠ .srcD := fun z => hc (by rw [z]; simp)
    have n2 : c ≠ .srcT t := fun z => hc (by rw [z]; simp)
    refine ⟨setA_ne n2, ?_⟩
    cases c with
    | srcD => exact absurd rfl n1
    | srcT j =>
      have nj : j ≠ t := fun z => n2 (by rw [z])
      show HO.tup [.int (if j = t then (u, f) else S.unit j).1, .bl (if j = t then (u, f) else S.unit j).2] = _
      rw [if_neg nj]
      rfl
    | _ => rfl
  · simp only [List.mem_cons, List.not_mem_nil, or_false] at hc
    rcases hc with rfl | rfl
    · exact .inl ⟨setA_ne (by intro z; cases z), trivial⟩
    · exact .inr (by rw [setA_same]; exact hT)
  · simp only [List.mem_cons, List.not_mem_nil, or_false] at hc hc'
    rcases hc with rfl | rfl
    · rw [setA_ne (by intro z; cases z), hD] at z
      cases z
    · rcases hc' with rfl | rfl
      · rw [setA_same, setA_ne (by intro z; cases z)] at e
        exact absurd e nTD
      · rfl
  · rw [upd_ne (n .srcD (by simp) trivial), upd_ne (ne_of_none e hT)]
    exact e
end
section
variable {P : Program} {w : World} {K : PySem.W.Frag} {mg : Str → Option Value} {base : Heap} {C : Cs}
def arrived (S : Sys) (t m : Int) : Sys := notified (withUnit S t ((S.unit t).1 + m) false) t
def spArrive (C : Cs) : Sp := fun vs H Q _ => ∃ p n t m : Int, OnSys C vs H [.int p, .int n, .int m] fun S ad dx => Means S p n t ∧ t ∈ S.srcs ∧ (S.unit t).2 = false ∧ 1 ≤ m ∧ m ≤ 1000000 ∧ Small S ∧ ∀ H' ad', At C H' (arrived S t m) ad' dx → Step H S ad H' (arrived S t m) ad' → Q .non H'
theorem scArrive : FnScope ["self", "process", "number", "many", "source", "unread"] ["self", "process", "number", "many"] (defScope sArrive) := ⟨rfl, rfl, rfl, by decide +kernel, rfl, by decide +kernel, by decide +kernel⟩
theorem okArrive {dvs : List V} {kws : List (Str × V)} {f fS fU fN fC : Addr} {fd fdS fdU fdN fdC : FuncData} (F : FunD K "arrive" "System.arrive" (defArgs sArrive) (defBody sArrive) (defScope sArrive) dvs kws f fd) (T : ClsF K C.S sysF)
    (GS : MO P w K mg base 5 C.S "source_at" ["self", "process", "number"] (spSourceAt C) fS fdS) (GU : MO P w K mg base 1 C.S "unread_of_unfinished" ["self", "source", "number"] (spUnfinished C) fU fdU) (GN : MO P w K mg base 3 C.S "notify" ["self", "source"] (spNotify C) fN fdN)
    (GC : DO P w K mg base 3 "is_count" ["x"] spIsCount fC fdC) : FnOk P w K mg base CX0 6 f fd ["self", "process", "number", "many"] (spArrive C) := by
  refine F.ok scArrive (fun vs H Q E h => ?_) (fun cdv A outer s H vs Q E hr h => ?_)
  · obtain ⟨_, _, _, _, _, _, _, rfl, _⟩ := h
    rfl
  · obtain ⟨p, n, t, m, S, ad, dx, rfl, A0, M, ht, hf, m0, m1, sm0, k⟩ := h
    have hu := hu_of hr
    have hr1 : Room 1 _ := hr.mono (by decide)
    have hr3 : Room 3 _ := hr.mono (by decide)
    refine ⟨_, pss_cons (ps_set (i := 4) scArrive.nd rfl (Or.inl rfl) (pe_meth (pv 0) T.cl GS.m GS.g hr GS.b .nil pass0 (pa_cons (pv 1) (pa_cons (pv 2) pa_nil))))
      (pss_cons (ps_if (pt_not (pt_val (pe_call GC.g hr3 (by rfl) GC.m GC.k GC.b .nil pass0 (pa_cons (pv 3) pa_nil)))) (pss_one ps_never) pss_nil)
      (pss_cons (ps_set (i := 5) scArrive.nd rfl (Or.inl rfl) (pe_meth (pv 0) T.cl GU.m GU.g hr1 GU.b .nil pass0 (pa_cons (pv 4) (pa_cons (pv 2) pa_nil))))
      (pss_cons (ps_dput hu (pe_fld (pv 0) rfl) (pv 4) (pe_tup (pa_cons (pe_op op_add (pv 5) (pv 3)) (pa_cons pe_bl pa_nil))) rfl)
      (pss_one (ps_expr (pe_meth (pv 0) T.cl GN.m GN.g hr3 GN.b .nil pass0 (pa_cons (pv 4) pa_nil))))))), ?_⟩
    have hb := A0.at_ .box trivial
    walk_at "wn"
    refine ⟨_, rfl, ad .box, dx .box, _, rfl, hb, rfl, ?_⟩
    walk_at "wn"
    refine ⟨p, n, t, S, ad, dx, rfl, A0, M, ht, ?_⟩
    walk_at "wn"
    refine ⟨m, rfl, ?_⟩
    rw [decide_eq_true m0, decide_eq_true m1]
    refine ⟨_, rfl, ?_⟩
    walk_at "wn"
    refine ⟨_, rfl, ad .box, dx .box, _, rfl, hb, rfl, ?_⟩
    walk_at "wn"
    refine ⟨t, n, S, ad, dx, rfl, A0, ht, hf, ?_⟩
    walk_at "wn"
    refine ⟨_, rfl, _, rfl, _, _, rfl, rfl, by show 2 ≤ sizeLine; decide, fun T1 hT => ?_⟩
    have nbT : ad .box ≠ T1 := ne_of_none hb hT
    have nDT : ad .srcD ≠ T1 := ne_of_none (A0.at_ .srcD trivial) hT
    refine ⟨_, rfl, ad .box, C.S, dx .box, _, _, rfl, by rw [upd_ne nbT]; exact hb, T.cl, T.no _ (by decide), rfl, ?_⟩
    refine ⟨_, rfl, ad .srcD, _, rfl, DPut.k (k := Sum.inl t) (by rw [upd_ne nDT]; exact A0.at_ .srcD trivial) (by unfold entKV; rw [List.length_map, sizeLine_eq]; have := sm0.srcs; omega), ?_⟩
    obtain ⟨A1, st1⟩ := A0.unit (u := (S.unit t).1 + m) (f := false) ht hT
    walk_at "wn"
    refine ⟨_, rfl, setA ad (.srcT t) T1 .box, dx .box, _, by rw [setA_ne (by intro z; cases z)], A1.at_ .box trivial, rfl, ?_⟩
    walk_at "wn"
    refine ⟨t, _, _, dx, by rw [setA_ne (by intro z; cases z)]; rfl, A1, ⟨sm0.que, sm0.ents, sm0.srcs, sm0.sets, sm0.nd⟩, fun H' A2 st2 => k H' _ A2 (st1.trans st2)⟩
/-! read -/
def taken (u : Int) : Option Int → Int
  | none => u
  | some m => if u < m then u else m
def readS (S : Sys) (t : Int) (mo : Option Int) : Sys := withUnit S t ((S.unit t).1 - taken (S.unit t).1 mo) (S.unit t).2
def spRead (C : Cs) : Sp := fun vs H Q _ => ∃ (p n t : Int) (mo : Option Int), OnSys C vs H [.int p, .int n, optV mo] fun S ad dx => Means S p n t ∧ t ∈ S.srcs ∧ (∀ m, mo = some m → 1 ≤ m ∧ m ≤ 1000000) ∧ Small S ∧ ∀ H' ad', At C H' (readS S t mo) ad' dx → Step H S ad H' (readS S t mo) ad' → Q (.int (taken (S.unit t).1 mo)) H'
theorem scRead : FnScope ["self", "process", "number", "many", "source", "unread", "finished", "taken"] ["self", "process", "number", "many"] (defScope sRead) := ⟨rfl, rfl, rfl, by decide +kernel, rfl, by decide +kernel, by decide +kernel⟩
theorem okRead {dvs : List V} {kws : List (Str × V)} {f fS fC : Addr} {fd fdS fdC : FuncData} (F : FunD K "read" "System.read" (defArgs sRead) (defBody sRead) (defScope sRead) dvs kws f fd) (X : SysTxt mg) (T : ClsF K C.S sysF)
    (GS : MO P w K mg base 5 C.S "source_at" ["self", "process", "number"] (spSourceAt C) fS fdS) (GC : DO P w K mg base 3 "is_count" ["x"] spIsCount fC fdC) : FnOk P w K mg base CX0 6 f fd ["self", "process", "number", "many"] (spRead C) := by
  refine F.ok scRead (fun vs H Q E h => ?_) (fun cdv A outer s H vs Q E hr h => ?_)
  · obtain ⟨_, _, _, _, _, _, _, rfl, _⟩ := h
    rfl
  · obtain ⟨p, n, t, mo, S, ad, dx, rfl, A0, M, ht, hm, sm0, k⟩ := h
    have hu := hu_of hr
    have hr3 : Room 3 _ := hr.mono (by decide)
    refine ⟨_, pss_cons (ps_set (i := 4) scRead.nd rfl (Or.inl rfl) (pe_meth (pv 0) T.cl GS.m GS.g hr GS.b .nil pass0 (pa_cons (pv 1) (pa_cons (pv 2) pa_nil))))
      (pss_cut (ps_if (PW.pt (pw_and (pt_cmpR oNotN (pv 3) pe_non (nomark _)) (pw_and1 (pt_not (pt_val (pe_call GC.g hr3 (by rfl) GC.m GC.k GC.b .nil pass0 (pa_cons (pv 3) pa_nil))))))) (pss_one ps_never) pss_nil)
      (pss_cons (ps_asg (pe_dget hu (pe_fld (pv 0) rfl) (pv 4) (fun _ _ => rfl)) (pg_tup rfl (pgs_cons (pg_name (i := 5) scRead.nd rfl (Or.inl rfl)) (pgs_cons (pg_name (i := 6) scRead.nd rfl (Or.inl rfl)) pgs_nil))))
      (pss_cut (ps_set (i := 7) scRead.nd rfl (Or.inl rfl) (pe_ifExp (pt_cmpR oIsN (pv 3) pe_non (nomark _)) (pv 5) (pe_callB (cMin2 rfl) (by rfl) X.min (by decide +kernel) (pa_cons (pv 3) (pa_cons (pv 5) pa_nil)))))
      (pss_cons (ps_dput hu (pe_fld (pv 0) rfl) (pv 4) (pe_tup (pa_cons (pe_op op_sub (pv 5) (pv 7)) (pa_cons (pv 6) pa_nil))) rfl)
      (pss_one (ps_ret (pv 7))))))), ?_⟩
    have hb := A0.at_ .box trivial
    have hv : valV (entKV S.srcs fun t => ad (.srcT t)) (Sum.inl t) = some (.ref (ad (.srcT t))) := by rw [ent_val, if_pos ht]
    walk_at "wn"
    refine ⟨_, rfl, ad .box, dx .box, _, rfl, hb, rfl, ?_⟩
    walk_at "wn"
    refine ⟨p, n, t, S, ad, dx, rfl, A0, M, ht, ?_⟩
    walk_at "wn"
    refine ⟨fun σ' H' => σ' = [some (.ref (ad .box)), some (.int p), some (.int n), some (optV mo), some (.int t), none, none, none] ∧ H' = H, ?_, ?_⟩
    · walk_at "wn"
      cases mo with
      | none =>
        have e : decide (optV none = V.non) = true := decide_eq_true rfl
        rw [e]
        walk_at "wn"
        exact ⟨rfl, rfl⟩
      | some m =>
        have e : decide (optV (some m) = V.non) = false := decide_eq_false fun z => nomatch z
        rw [e]
        walk_at "wn"
        refine ⟨m, rfl, ?_⟩
        rw [decide_eq_true (hm m rfl).1, decide_eq_true (hm m rfl).2]
        refine ⟨_, rfl, ?_⟩
        walk_at "wn"
        exact ⟨rfl, rfl⟩
    rintro σ' H' ⟨rfl, rfl⟩
    walk_at "wn"
    refine ⟨_, rfl, ad .box, C.S, dx .box, _, _, rfl, hb, T.cl, T.no _ (by decide), rfl, ?_⟩
    refine ⟨_, rfl, ad .srcD, _, rfl, hv ▸ DGet.k (k := Sum.inl t) (A0.at_ .srcD trivial), ?_⟩
    refine ⟨ad (.srcT t), _, rfl, SqT.of (A0.at_ (.srcT t) ht), rfl, _, _, rfl, ?_⟩
    walk_at "wn"
    refine ⟨_, _, rfl, ?_⟩
    walk_at "wn"
    refine ⟨rfl, ?_⟩
    refine ⟨fun σ' H1 => σ' = [some (.ref (ad .box)), some (.int p), some (.int n), some (optV mo), some (.int t), some (.int (S.unit t).1), some (.bl (S.unit t).2), some (.int (taken (S.unit t).1 mo))] ∧ H1 = H', ?_, ?_⟩
    · walk_at "wn"
      cases mo with
      | none =>
        have e : decide (optV none = V.non) = true := decide_eq_true rfl
        rw [e]
        walk_at "wn"
        exact ⟨rfl, rfl⟩
      | some m =>
        have e : decide (optV (some m) = V.non) = false := decide_eq_false fun z => nomatch z
        rw [e]
        walk_at "wn"
        refine ⟨m, (S.unit t).1, rfl, ?_⟩
        exact ⟨rfl, rfl⟩
    rintro σ' H1 ⟨rfl, rfl⟩
    walk_at "wn"
    refine ⟨_, rfl, _, rfl, _, _, rfl, rfl, ?_⟩
    walk_at "wn"
    refine ⟨by show 2 ≤ sizeLine; decide, fun T1 hT => ?_⟩
    have nbT : ad .box ≠ T1 := ne_of_none hb hT
    have nDT : ad .srcD ≠ T1 := ne_of_none (A0.at_ .srcD trivial) hT
    refine ⟨_, rfl, ad .box, C.S, dx .box, _, _, rfl, by rw [upd_ne nbT]; exact hb, T.cl, T.no _ (by decide), rfl, ?_⟩
    refine ⟨_, rfl, ad .srcD, _, rfl, DPut.k (k := Sum.inl t) (by rw [upd_ne nDT]; exact A0.at_ .srcD trivial) (by unfold entKV; rw [List.length_map, sizeLine_eq]; have := sm0.srcs; omega), ?_⟩
    obtain ⟨A1, st1⟩ := A0.unit (u := (S.unit t).1 - taken (S.unit t).1 mo) (f := (S.unit t).2) ht hT
    walk_at "wn"
    exact k _ _ A1 st1
/-! row_of -/
end

theorem reg_fun (ad : Cell → Addr) (s l : Int) (T : Addr) : (fun j => if j = l then T else ad (.reg s j)) = fun j => setA ad (.reg s l) T (.reg s j) := by
  funext j
  by_cases h : j = l
  · rw [if_pos h, h, setA_same]
  · rw [if_neg h, setA_ne fun z => h (by cases z; rfl)]
def added (S : Sys) (s l : Int) (r : Reg) : Sys := { S with
  ents := fun j => if j = s then S.ents s ++ [l] else S.ents j
  reg := fun j i => if j = s ∧ i = l then r else S.reg j i
  que := fun j => if j = s then (if ready S r.src = true then qAdd l (S.que s) else S.que s) else S.que j }
section
variable {P : Program} {w : World} {K : PySem.W.Frag} {mg : Str → Option Value} {base : Heap} {C : Cs}
def spAdd (C : Cs) : Sp := fun vs H Q _ => ∃ (p sn n l s t : Int) (wd : Str), OnSys C vs H [.int p, .int sn, .int n, .int l, .str wd] fun S ad dx => Means S p sn s ∧ s ∈ S.sets ∧ Means S p n t ∧ t ∈ S.srcs ∧ 0 ≤ l ∧ l ≤ 999999 ∧ wd ∈ wordsL ∧ (S.ents s).find? (keyOf (S.reg s) n t) = none ∧ l ∉ S.ents s ∧ Small S ∧
  ∀ H' ad' dx', At C H' (added S s l ⟨n, t, wd, true⟩) ad' dx' → Step H S ad H' (added S s l ⟨n, t, wd, true⟩) ad' → Q .non H'
theorem scAdd : FnScope ["self", "process", "set_number", "number", "label", "word", "waiting", "source"] ["self", "process", "set_number", "number", "label", "word"] (defScope sAdd) := ⟨rfl, rfl, rfl, by decide +kernel, rfl, by decide +kernel, by decide +kernel⟩
theorem okAdd {dvs : List V} {kws : List (Str × V)} {f fW fS fL fD fO fR fI fP : Addr} {fd fdW fdS fdL fdD fdO fdR fdI fdP : FuncData} (F : FunD K "add" "System.add" (defArgs sAdd) (defBody sAdd) (defScope sAdd) dvs kws f fd) (T : ClsF K C.S sysF) (TW : ClsF K C.W wsF)
    (GW : MO P w K mg base 5 C.S "set_at" ["self", "process", "set_number"] (spSetAt C) fW fdW) (GS : MO P w K mg base 5 C.S "source_at" ["self", "process", "number"] (spSourceAt C) fS fdS)
    (GL : DO P w K mg base 3 "is_label" ["x"] spIsLabel fL fdL) (GD : DO P w K mg base 1 "is_word" ["x"] spIsWord fD fdD) (GO : MO P w K mg base 1 C.W "label_of" ["self", "number", "source"] (spLabelOf C.W C.R) fO fdO)
    (gR : mg "Registration" = some (.ref C.R)) (MR : Mk K C.R fR) (GR : FnOk P w K mg base CX0 1 fR fdR ["self", "number", "source", "word", "armed"] (spRegInit C.R)) (bR : Binds K fdR ["self", "number", "source", "word", "armed"] [])
    (GI : MO P w K mg base 1 C.S "is_ready" ["self", "source"] (spIsReady C) fI fdI) (GP : MO P w K mg base 2 C.W "put" ["self", "label", "kept", "ready"] (spPut C.W) fP fdP) :
    FnOk P w K mg base CX0 6 f fd ["self", "process", "set_number", "number", "label", "word"] (spAdd C) := by
  refine F.ok scAdd (fun vs H Q E h => ?_) (fun cdv A outer s H vs Q E hr h => ?_)
  · obtain ⟨_, _, _, _, _, _, _, _, _, _, rfl, _⟩ := h
    rfl
  · obtain ⟨p, sn, n, l, s, t, wd, S, ad, dx, rfl, A0, Ms, hs, Mt, ht, l0, l1, hwd, hfind, hl, sm0, k⟩ := h
    have hu := hu_of hr
    have hr1 : Room 1 _ := hr.mono (by decide)
    have hr2 : Room 2 _ := hr.mono (by decide)
    have hr3 : Room 3 _ := hr.mono (by decide)
    refine ⟨_, pss_cons (ps_set (i := 6) scAdd.nd rfl (Or.inl rfl) (pe_meth (pv 0) T.cl GW.m GW.g hr GW.b .nil pass0 (pa_cons (pv 1) (pa_cons (pv 2) pa_nil))))
      (pss_cons (ps_set (i := 7) scAdd.nd rfl (Or.inl rfl) (pe_meth (pv 0) T.cl GS.m GS.g hr GS.b .nil pass0 (pa_cons (pv 1) (pa_cons (pv 3) pa_nil))))
      (pss_cons (ps_if (pt_not (pt_val (pe_call GL.g hr3 (by rfl) GL.m GL.k GL.b .nil pass0 (pa_cons (pv 4) pa_nil)))) (pss_one ps_never) pss_nil)
      (pss_cons (ps_if (pt_not (pt_val (pe_call GD.g hr1 (by rfl) GD.m GD.k GD.b .nil pass0 (pa_cons (pv 5) pa_nil)))) (pss_one ps_never) pss_nil)
      (pss_cons (ps_if (pt_cmpR oNotN (pe_meth (pv 6) TW.cl GO.m GO.g hr1 GO.b .nil pass0 (pa_cons (pv 3) (pa_cons (pv 7) pa_nil))) pe_non (nomark _)) (pss_one ps_never) pss_nil)
      (pss_cons (ps_if (pt_cmp (pc_din hu (pv 4) (pe_fld (pv 6) rfl)) rfl) (pss_one ps_never) pss_nil)
      (pss_one (ps_expr (pe_meth (pv 6) TW.cl GP.m GP.g hr2 GP.b .nil pass0 (pa_cons (pv 4) (pa_cons (pe_make MR GR hr2 (by rfl) gR bR .nil pass0 (pa_cons (pv 3) (pa_cons (pv 7) (pa_cons (pv 5) (pa_cons pe_bl pa_nil))))) (pa_cons (pe_meth (pv 0) T.cl GI.m GI.g hr1 GI.b .nil pass0 (pa_cons (pv 7) pa_nil)) pa_nil))))))))))), ?_⟩
    have hb := A0.at_ .box trivial
    walk_at "wn"
    refine ⟨_, rfl, ad .box, dx .box, _, rfl, hb, rfl, ?_⟩
    walk_at "wn"
    refine ⟨p, sn, s, S, ad, dx, rfl, A0, Ms, hs, ?_⟩
    walk_at "wn"
    refine ⟨_, rfl, ad .box, dx .box, _, rfl, hb, rfl, ?_⟩
    walk_at "wn"
    refine ⟨p, n, t, S, ad, dx, rfl, A0, Mt, ht, ?_⟩
    walk_at "wn"
    refine ⟨l, rfl, ?_⟩
    rw [decide_eq_true l0, decide_eq_true l1]
    refine ⟨_, rfl, ?_⟩
    walk_at "wn"
    refine ⟨_, rfl, wd, rfl, hwd, ?_⟩
    refine ⟨_, rfl, ?_⟩
    walk_at "wn"
    have hw := A0.at_ (.ws s) hs
    refine ⟨_, rfl, ad (.ws s), dx (.ws s), _, rfl, hw, rfl, ?_⟩
    walk_at "wn"
    refine ⟨ad (.ws s), dx (.ws s), ad (.ent s), ad (.que s), n, t, S.ents s, fun j => ad (.reg s j), S.reg s, rfl, hw, A0.at_ (.ent s) hs, fun j hj => ⟨dx (.reg s j), A0.at_ (.reg s j) ⟨hs, hj⟩⟩, fun H1 s1 => ?_⟩
    rw [hfind]
    have A1 := A0.same s1
    have hw1 := A1.at_ (.ws s) hs
    have he1 := A1.at_ (.ent s) hs
    have hq1 := A1.at_ (.que s) hs
    walk_at "wn"
    refine ⟨_, rfl, _, rfl, ad (.ws s), C.W, dx (.ws s), _, _, rfl, hw1, TW.cl, TW.no _ (by decide), rfl, ?_⟩
    refine ⟨ad (.ent s), _, rfl, DGet.k (k := Sum.inl l) he1, ?_⟩
    rw [ent_val, if_neg hl]
    refine ⟨_, rfl, ?_⟩
    show if false = true then _ else _
    walk_at "wn"
    refine ⟨_, rfl, ad (.ws s), dx (.ws s), _, rfl, hw1, rfl, ?_⟩
    walk_at "wn"
    refine ⟨_, rfl, _, rfl, _, rfl, fun x dx2 hx hdx ndx => ?_⟩
    refine ⟨x, dx2, n, t, wd, true, rfl, upd_same, fun H2 k1 k2 => ⟨rfl, ?_⟩⟩
    have s2 : Same H1 H2 := fun b o e => by
      rw [k1 b (ne_of_none e hx), upd_ne (ne_of_none e hx), upd_ne (ne_of_none e hdx)]
      exact e
    have A2 := A1.same s2
    refine ⟨_, rfl, ad .box, dx .box, _, rfl, A2.at_ .box trivial, rfl, ?_⟩
    walk_at "wn"
    refine ⟨t, S, ad, dx, rfl, A2, ht, ?_⟩
    have he2 := A2.at_ (.ent s) hs
    have hq2 := A2.at_ (.que s) hs
    have z1 := sm0.que s hs
    have z2 := sm0.ents s hs
    refine ⟨ad (.ws s), dx (.ws s), ad (.ent s), ad (.que s), x, l, ready S t, S.que s, _, rfl, A2.at_ (.ws s) hs, hq2, he2, by omega, by unfold entKV; rw [List.length_map]; omega, fun H3 j1 j2 j3 => ?_⟩
    rw [ent_put, if_neg hl, reg_fun] at j1
    have nxe : x ≠ ad (.ent s) := fun z => by rw [z, he1] at hx; cases hx
    have nxq : x ≠ ad (.que s) := fun z => by rw [z, hq1] at hx; cases hx
    have fresh : H x = none := s1.free hx
    refine (fun z : At C _ _ _ _ ∧ Step H S ad _ _ _ => k H3 (setA ad (.reg s l) x) (setA dx (.reg s l) dx2) z.1 z.2) ?_
    refine At.re3 [.ent s, .que s, .reg s l] A0 (fun c lc => ?_) (fun c hc lc => ?_) (fun c hc lc => ?_) (fun c hc lc => ?_) (fun c hc c' hc' lc lc' z e => ?_) (fun b o nb e => ?_) (setA_ne (by intro z; cases z))
    · cases c with
      | reg s' l' =>
        obtain ⟨h1, h2⟩ := lc
        by_cases e : s' = s
        · subst e
          have h2 : l' ∈ (if s' = s' then S.ents s' ++ [l] else S.ents s') := h2
          rw [if_pos rfl] at h2
          rcases List.mem_append.mp h2 with y | y
          · exact .inr ⟨h1, y⟩
          · rw [List.mem_singleton.mp y]
            exact .inl (by simp)
        · have h2 : l' ∈ (if s' = s then S.ents s ++ [l] else S.ents s') := h2
          rw [if_neg e] at h2
          exact .inr ⟨h1, h2⟩
      | _ => exact .inr lc
    · simp only [List.mem_cons, List.not_mem_nil, or_false] at hc
      rcases hc with rfl | rfl | rfl
      · rw [setA_ne (by intro z; cases z), j1]
        show _ = some (HO.dK (entKV (if s = s then S.ents s ++ [l] else S.ents s) _))
        rw [if_pos rfl]
      · rw [setA_ne (by intro z; cases z), j2]
        show _ = some (HO.lst ((if s = s then _ else S.que s).map V.int))
        rw [if_pos rfl]
      · rw [setA_same, j3 x nxe nxq, k2]
        show _ = some (regO C.R (setA dx (.reg s l) dx2 (.reg s l)) (if s = s ∧ l = l then (⟨n, t, wd, true⟩ : Reg) else S.reg s l).num (if s = s ∧ l = l then (⟨n, t, wd, true⟩ : Reg) else S.reg s l).src (if s = s ∧ l = l then (⟨n, t, wd, true⟩ : Reg) else S.reg s l).word (if s = s ∧ l = l then (⟨n, t, wd, true⟩ : Reg) else S.reg s l).armed)
        rw [if_pos ⟨rfl, rfl⟩, setA_same]
    · have n1 : c ≠ .ent s := fun z => hc (by rw [z]; simp)
      have n2 : c ≠ .que s := fun z => hc (by rw [z]; simp)
      have n3 : c ≠ .reg s l := fun z => hc (by rw [z]; simp)
      refine ⟨setA_ne n3, ?_⟩
      cases c with
      | ent s' =>
        have ns : s' ≠ s := fun z => n1 (by rw [z])
        show HO.dK (entKV (if s' = s then S.ents s ++ [l] else S.ents s') fun j => setA ad (.reg s l) x (.reg s' j)) = _
        rw [if_neg ns]
        have ef : (fun j => setA ad (.reg s l) x (.reg s' j)) = fun j => ad (.reg s' j) := funext fun j => setA_ne fun z => ns (by cases z; rfl)
        rw [ef]
        rfl
      | que s' =>
        have ns : s' ≠ s := fun z => n2 (by rw [z])
        show HO.lst ((if s' = s then _ else S.que s').map V.int) = _
        rw [if_neg ns]
        rfl
      | reg s' l' =>
        have nr : ¬ (s' = s ∧ l' = l) := fun z => n3 (by rw [z.1, z.2])
        show regO C.R (setA dx (.reg s l) dx2 (.reg s' l')) (if s' = s ∧ l' = l then (⟨n, t, wd, true⟩ : Reg) else S.reg s' l').num (if s' = s ∧ l' = l then (⟨n, t, wd, true⟩ : Reg) else S.reg s' l').src (if s' = s ∧ l' = l then (⟨n, t, wd, true⟩ : Reg) else S.reg s' l').word (if s' = s ∧ l' = l then (⟨n, t, wd, true⟩ : Reg) else S.reg s' l').armed = _
        rw [if_neg nr, setA_ne n3]
        rfl
      | _ => rfl
    · simp only [List.mem_cons, List.not_mem_nil, or_false] at hc
      rcases hc with rfl | rfl | rfl
      · exact .inl ⟨setA_ne (by intro z; cases z), hs⟩
      · exact .inl ⟨setA_ne (by intro z; cases z), hs⟩
      · exact .inr (by rw [setA_same]; exact fresh)
    · have of : ∀ c, c ∈ ([.ent s, .que s, .reg s l] : List Cell) → H (setA ad (.reg s l) x c) = none → c = .reg s l := fun c hc z => by
        simp only [List.mem_cons, List.not_mem_nil, or_false] at hc
        rcases hc with rfl | rfl | rfl
        · rw [setA_ne (by intro z; cases z), A0.at_ (.ent s) hs] at z
          cases z
        · rw [setA_ne (by intro z; cases z), A0.at_ (.que s) hs] at z
          cases z
        · rfl
      rw [of c hc z, of c' hc' (by rw [← e]; exact z)]
    · rw [j3 b (nb (.ent s) (by simp) hs) (nb (.que s) (by simp) hs)]
      exact s2 _ _ (s1 _ _ e)
end

def took (S : Sys) (s most : Int) : TSt := takeAll S.unit most (S.que s) ⟨[], S.que s, S.reg s⟩
def waited (S : Sys) (s most : Int) : Sys := { S with
  que := fun j => if j = s then (took S s most).que else S.que j
  reg := fun j => if j = s then (took S s most).reg else S.reg j }
section
variable {P : Program} {w : World} {K : PySem.W.Frag} {mg : Str → Option Value} {base : Heap} {C : Cs}
def spWait (C : Cs) : Sp := fun vs H Q _ => ∃ (p sn s most : Int), OnSys C vs H [.int p, .int sn, .int most] fun S ad dx => Means S p sn s ∧ s ∈ S.sets ∧ 1 ≤ most ∧ most ≤ 1000000 ∧ (∀ l ∈ S.que s, l ∈ S.ents s) ∧ (∀ l ∈ S.ents s, (S.reg s l).src ∈ S.srcs) ∧ C.W ≠ C.R ∧ Small S ∧
  ∀ H' ad' dx' r rs, H r = none → H' r = some (.lst rs) → ¬ own (waited S s most) ad' r → Paired (RepAt H') rs (took S s most).reps → At C H' (waited S s most) ad' dx' → Step H S ad H' (waited S s most) ad' → Q (.ref r) H'
theorem scWait : FnScope ["self", "process", "set_number", "most", "waiting"] ["self", "process", "set_number", "most"] (defScope sWait) := ⟨rfl, rfl, rfl, by decide +kernel, rfl, by decide +kernel, by decide +kernel⟩
def setW (ad : Cell → Addr) (s : Int) (q : Addr) (r : Int → Addr) : Cell → Addr
  | .que j => if j = s then q else ad (.que j)
  | .reg j l => if j = s then r l else ad (.reg j l)
  | c => ad c
theorem okWait {dvs : List V} {kws : List (Str × V)} {f fW fC fR : Addr} {fd fdW fdC fdR : FuncData} (F : FunD K "wait" "System.wait" (defArgs sWait) (defBody sWait) (defScope sWait) dvs kws f fd) (T : ClsF K C.S sysF) (TW : ClsF K C.W wsF)
    (GW : MO P w K mg base 5 C.S "set_at" ["self", "process", "set_number"] (spSetAt C) fW fdW) (GC : DO P w K mg base 3 "is_count" ["x"] spIsCount fC fdC) (GR : MO P w K mg base 4 C.W "take_reports" ["self", "most", "sources"] (spReports C.W C.R) fR fdR) :
    FnOk P w K mg base CX0 6 f fd ["self", "process", "set_number", "most"] (spWait C) := by
  refine F.ok scWait (fun vs H Q E h => ?_) (fun cdv A outer s H vs Q E hr h => ?_)
  · obtain ⟨_, _, _, _, _, _, _, rfl, _⟩ := h
    rfl
  · obtain ⟨p, sn, s, most, S, ad, dx, rfl, A0, Ms, hs, m0, m1, hqe, hes, nWR, sm0, k⟩ := h
    have hr3 : Room 3 _ := hr.mono (by decide)
    have hr4 : Room 4 _ := hr.mono (by decide)
    refine ⟨_, pss_cons (ps_set (i := 4) scWait.nd rfl (Or.inl rfl) (pe_meth (pv 0) T.cl GW.m GW.g hr GW.b .nil pass0 (pa_cons (pv 1) (pa_cons (pv 2) pa_nil))))
      (pss_cons (ps_if (pt_not (pt_val (pe_call GC.g hr3 (by rfl) GC.m GC.k GC.b .nil pass0 (pa_cons (pv 3) pa_nil)))) (pss_one ps_never) pss_nil)
      (pss_one (ps_ret (pe_meth (pv 4) TW.cl GR.m GR.g hr4 GR.b .nil pass0 (pa_cons (pv 3) (pa_cons (pe_fld (pv 0) rfl) pa_nil)))))), ?_⟩
    have hb := A0.at_ .box trivial
    have hw := A0.at_ (.ws s) hs
    have he := A0.at_ (.ent s) hs
    have hq := A0.at_ (.que s) hs
    walk_at "wn"
    refine ⟨_, rfl, ad .box, dx .box, _, rfl, hb, rfl, ?_⟩
    walk_at "wn"
    refine ⟨p, sn, s, S, ad, dx, rfl, A0, Ms, hs, ?_⟩
    walk_at "wn"
    refine ⟨most, rfl, ?_⟩
    rw [decide_eq_true m0, decide_eq_true m1]
    refine ⟨_, rfl, ?_⟩
    walk_at "wn"
    refine ⟨_, rfl, ad (.ws s), dx (.ws s), _, rfl, hw, rfl, ?_⟩
    refine ⟨_, rfl, _, rfl, ad .box, C.S, dx .box, _, _, rfl, hb, T.cl, T.no _ (by decide), rfl, ?_⟩
    have z1 := sm0.que s hs
    have z2 := sm0.ents s hs
    refine ⟨ad (.ws s), dx (.ws s), ad (.ent s), ad (.que s), ad .srcD, most, S.que s, S.ents s, S.srcs, (fun l => ad (.reg s l)), (fun t => ad (.srcT t)), S.reg s, S.unit, rfl, hw, hq, he, fun l hl => ⟨dx (.reg s l), A0.at_ (.reg s l) ⟨hs, hl⟩⟩, A0.at_ .srcD trivial,
      A0.ne (c := .srcD) (c' := .ent s) trivial hs (by intro z; cases z), fun t ht => A0.at_ (.srcT t) ht, hqe, hes, nWR, fun l hl l' hl' z => by cases A0.inj (.reg s l) (.reg s l') ⟨hs, hl⟩ ⟨hs, hl'⟩ z; rfl, by omega, by omega, fun H' r rs q' adE k1 k2 k3 k4 k5 k6 k7 k8 k9 k10 k11 k12 => ?_⟩
    have k5' : ∀ l ∈ S.ents s, ∃ d : Addr, H' (adE l) = some (regO C.R d ((took S s most).reg l).num ((took S s most).reg l).src ((took S s most).reg l).word ((took S s most).reg l).armed) := k5
    obtain ⟨dE, hdE⟩ : ∃ dE : Int → Addr, ∀ l ∈ S.ents s, H' (adE l) = some (regO C.R (dE l) ((took S s most).reg l).num ((took S s most).reg l).src ((took S s most).reg l).word ((took S s most).reg l).armed) := by
      refine ⟨fun l => if h : l ∈ S.ents s then Classical.choose (k5' l h) else 0, fun l hl => ?_⟩
      dsimp only
      rw [dif_pos hl]
      exact Classical.choose_spec (k5' l hl)
    let dx' : Cell → Addr := fun c => match c with
      | .reg j l => if j = s then dE l else dx (.reg j l)
      | c => dx c
    have sE : ∀ l, setW ad s q' adE (.reg s l) = adE l := fun l => if_pos rfl
    have sQ : setW ad s q' adE (.que s) = q' := if_pos rfl
    have dEe : ∀ l, dx' (.reg s l) = dE l := fun l => if_pos rfl
    have key : At C H' (waited S s most) (setW ad s q' adE) dx' ∧ Step H S ad H' (waited S s most) (setW ad s q' adE) := by
      refine At.re3 ([.ws s, .que s, .ent s] ++ (S.ents s).map (Cell.reg s)) A0 (fun c lc => .inr ?_) (fun c hc lc => ?_) (fun c hc lc => ?_) (fun c hc lc => ?_) (fun c hc c' hc' lc lc' z e => ?_) (fun b o nb e => ?_) rfl
      · cases c <;> exact lc
      · rcases List.mem_append.mp hc with hc | hc
        · simp only [List.mem_cons, List.not_mem_nil, or_false] at hc
          rcases hc with rfl | rfl | rfl
          · show H' (ad (.ws s)) = some (wsO C.W (dx (.ws s)) (ad (.ent s)) (setW ad s q' adE (.que s)))
            rw [sQ]
            exact k1
          · rw [sQ, k2]
            show _ = some (HO.lst ((if s = s then (took S s most).que else S.que s).map V.int))
            rw [if_pos rfl]
            rfl
          · show H' (ad (.ent s)) = some (HO.dK (entKV (S.ents s) fun l => setW ad s q' adE (.reg s l)))
            rw [k4]
            have ef : (fun l => setW ad s q' adE (.reg s l)) = adE := funext sE
            rw [ef]
        · obtain ⟨l, hl, rfl⟩ := List.mem_map.mp hc
          rw [sE, hdE l hl]
          show _ = some (regO C.R (dx' (.reg s l)) ((if s = s then (took S s most).reg else S.reg s) l).num ((if s = s then (took S s most).reg else S.reg s) l).src ((if s = s then (took S s most).reg else S.reg s) l).word ((if s = s then (took S s most).reg else S.reg s) l).armed)
          rw [if_pos rfl, dEe]
      · have n1 : c ≠ .ws s := fun z => hc (by rw [z]; simp)
        have n2 : c ≠ .que s := fun z => hc (by rw [z]; simp)
        have n3 : c ≠ .ent s := fun z => hc (by rw [z]; simp)
        cases c with
        | ws j =>
          have nj : j ≠ s := fun z => n1 (by rw [z])
          refine ⟨rfl, ?_⟩
          show wsO C.W (dx (.ws j)) (ad (.ent j)) (if j = s then q' else ad (.que j)) = _
          rw [if_neg nj]
          rfl
        | que j =>
          have nj : j ≠ s := fun z => n2 (by rw [z])
          refine ⟨if_neg nj, ?_⟩
          show HO.lst ((if j = s then (took S s most).que else S.que j).map V.int) = _
          rw [if_neg nj]
          rfl
        | ent j =>
          have nj : j ≠ s := fun z => n3 (by rw [z])
          refine ⟨rfl, ?_⟩
          have ef : (fun l => setW ad s q' adE (.reg j l)) = fun l => ad (.reg j l) := funext fun l => if_neg nj
          show HO.dK (entKV (S.ents j) fun l => setW ad s q' adE (.reg j l)) = _
          rw [ef]
          rfl
        | reg j l =>
          have nj : j ≠ s := fun z => hc (List.mem_append.mpr (.inr (List.mem_map.mpr ⟨l, by rw [← z]; exact lc.2, by rw [z]⟩)))
          refine ⟨if_neg nj, ?_⟩
          show regO C.R (if j = s then dE l else dx (.reg j l)) ((if j = s then (took S s most).reg else S.reg j) l).num ((if j = s then (took S s most).reg else S.reg j) l).src ((if j = s then (took S s most).reg else S.reg j) l).word ((if j = s then (took S s most).reg else S.reg j) l).armed = _
          rw [if_neg nj, if_neg nj]
          rfl
        | _ => exact ⟨rfl, rfl⟩
      · rcases List.mem_append.mp hc with hc | hc
        · simp only [List.mem_cons, List.not_mem_nil, or_false] at hc
          rcases hc with rfl | rfl | rfl
          · exact .inl ⟨rfl, hs⟩
          · rw [sQ]
            rcases k3 with z | z
            · exact .inl ⟨z, hs⟩
            · exact .inr z
          · exact .inl ⟨rfl, hs⟩
        · obtain ⟨l, hl, rfl⟩ := List.mem_map.mp hc
          rw [sE]
          rcases k6 l with z | z
          · exact .inl ⟨z, ⟨hs, hl⟩⟩
          · exact .inr z
      · have kind : ∀ c ∈ ([.ws s, .que s, .ent s] ++ (S.ents s).map (Cell.reg s) : List Cell), H (setW ad s q' adE c) = none → c = .que s ∨ ∃ l ∈ S.ents s, c = .reg s l := fun c hc z => by
          rcases List.mem_append.mp hc with hc | hc
          · simp only [List.mem_cons, List.not_mem_nil, or_false] at hc
            rcases hc with rfl | rfl | rfl
            · rw [show setW ad s q' adE (.ws s) = ad (.ws s) from rfl, hw] at z
              cases z
            · exact .inl rfl
            · rw [show setW ad s q' adE (.ent s) = ad (.ent s) from rfl, he] at z
              cases z
          · obtain ⟨l, hl, rfl⟩ := List.mem_map.mp hc
            exact .inr ⟨l, hl, rfl⟩
        have z' : H (setW ad s q' adE c') = none := by rw [← e]; exact z
        rcases kind c hc z with rfl | ⟨l, hl, rfl⟩
        · rcases kind c' hc' z' with rfl | ⟨l', hl', rfl⟩
          · rfl
          · rw [sQ, sE] at e
            have x := hdE l' hl'
            rw [← e, k2] at x
            cases x
        · rcases kind c' hc' z' with rfl | ⟨l', hl', rfl⟩
          · rw [sQ, sE] at e
            have x := hdE l hl
            rw [e, k2] at x
            cases x
          · rw [sE, sE] at e
            rw [k7 l hl l' hl' e]
      · exact k12 b o (nb (.ws s) (by simp) hs) (nb (.ent s) (by simp) hs) (nb (.que s) (by simp) hs) e
    refine k H' _ dx' r rs k8 k10 (fun ⟨c, lc, ec⟩ => ?_) k11 key.1 key.2
    have x := key.1.at_ c lc
    rw [ec, k10] at x
    cases c with
    | tab j =>
      have y : H (ad (.tab j)) = _ := A0.at_ (.tab j) lc
      rw [show ad (.tab j) = r from ec, k8] at y
      cases y
    | que j =>
      by_cases nj : j = s
      · subst nj
        rw [sQ] at ec
        exact k9 ec.symm
      · have ec2 : (if j = s then q' else ad (.que j)) = r := ec
        rw [if_neg nj] at ec2
        have y : H (ad (.que j)) = _ := A0.at_ (.que j) lc
        rw [ec2, k8] at y
        cases y
    | _ => cases x
end

def newSource (S : Sys) (p : Int) (n : Nat) : Sys := { newThing S p n with
  srcs := S.srcs ++ [S.next]
  unit := fun j => if j = S.next then (0, false) else S.unit j }
def newSet (S : Sys) (p : Int) (n : Nat) : Sys := { newThing S p n with
  sets := S.sets ++ [S.next]
  ents := fun j => if j = S.next then [] else S.ents j
  que := fun j => if j = S.next then [] else S.que j }
section
variable {P : Program} {w : World} {K : PySem.W.Frag} {mg : Str → Option Value} {base : Heap} {C : Cs}
def spNewSource (C : Cs) : Sp := fun vs H Q _ => ∃ (p : Int) (n : Nat), OnSys C vs H [.int p] fun S ad dx => p ∈ S.procs ∧ firstFree (S.tab p) n ∧ (S.tab p).length ≤ 1000 ∧ S.srcs.length ≤ 1000 ∧ S.next ∉ S.srcs ∧
  ∀ H' ad', At C H' (newSource S p n) ad' dx → Step H S ad H' (newSource S p n) ad' → Q (.int (n : Int)) H'
theorem scNewSource : FnScope ["self", "process", "number", "thing"] ["self", "process"] (defScope sNewSource) := ⟨rfl, rfl, rfl, by decide +kernel, rfl, by decide +kernel, by decide +kernel⟩
theorem okNewSource {f fN : Addr} {fd fdN : FuncData} (F : Fun K "new_source" "System.new_source" sNewSource f fd) (T : ClsF K C.S sysF) (GN : MO P w K mg base 5 C.S "new_thing" ["self", "process"] (spNewThing C) fN fdN) :
    FnOk P w K mg base CX0 6 f fd ["self", "process"] (spNewSource C) := by
  refine F.ok scNewSource (fun vs H Q E h => ?_) (fun cdv A outer s H vs Q E hr h => ?_)
  · obtain ⟨_, _, _, _, _, rfl, _⟩ := h
    rfl
  · obtain ⟨p, n, S, ad, dx, rfl, A0, hp, hf, hl, hz, hnx, k⟩ := h
    have hu := hu_of hr
    refine ⟨_, pss_cons (ps_asg (pe_meth (pv 0) T.cl GN.m GN.g hr GN.b .nil pass0 (pa_cons (pv 1) pa_nil)) (pg_tup rfl (pgs_cons (pg_name (i := 2) scNewSource.nd rfl (Or.inl rfl)) (pgs_cons (pg_name (i := 3) scNewSource.nd rfl (Or.inl rfl)) pgs_nil))))
      (pss_cons (ps_dput hu (pe_fld (pv 0) rfl) (pv 3) (pe_tup (pa_cons pe_int (pa_cons pe_bl pa_nil))) rfl) (pss_one (ps_ret (pv 2)))), ?_⟩
    walk_at "wn"
    refine ⟨_, rfl, ad .box, dx .box, _, rfl, A0.at_ .box trivial, rfl, ?_⟩
    walk_at "wn"
    refine ⟨p, n, S, ad, dx, rfl, A0, hp, hf, hl, fun H1 T1 hT1 hT A1 st1 => ?_⟩
    refine ⟨T1, _, rfl, SqT.of hT, rfl, _, _, rfl, ?_⟩
    walk_at "wn"
    refine ⟨_, _, rfl, ?_⟩
    walk_at "wn"
    refine ⟨rfl, ?_⟩
    walk_at "wn"
    refine ⟨by show 2 ≤ sizeLine; decide, fun T2 hT2 => ?_⟩
    have hb := A1.at_ .box trivial
    have hD : H1 (ad .srcD) = some (.dK (entKV S.srcs fun t => ad (.srcT t))) := A1.at_ .srcD trivial
    have nTD : T2 ≠ ad .srcD := fun z => by rw [z, hD] at hT2; cases hT2
    have nTb : ad .box ≠ T2 := ne_of_none hb hT2
    refine ⟨_, rfl, ad .box, C.S, dx .box, _, _, rfl, by rw [upd_ne nTb]; exact hb, T.cl, T.no _ (by decide), rfl, ?_⟩
    refine ⟨_, rfl, ad .srcD, _, rfl, DPut.k (k := Sum.inl S.next) (by rw [upd_ne (Ne.symm nTD)]; exact hD) (by unfold entKV; rw [List.length_map, sizeLine_eq]; omega), ?_⟩
    walk_at "wn"
    refine (fun z : At C _ _ _ _ ∧ Step H1 (newThing S p n) ad _ _ _ => k _ (setA ad (.srcT S.next) T2) z.1 (st1.trans z.2)) ?_
    refine At.re3 [.srcD, .srcT S.next] A1 (fun c lc => ?_) (fun c hc lc => ?_) (fun c hc lc => ?_) (fun c hc lc => ?_) (fun c hc c' hc' lc lc' z e => ?_) (fun b o nb e => ?_) (setA_ne (by intro z; cases z))
    · cases c with
      | srcT t =>
        rcases List.mem_append.mp (show t ∈ S.srcs ++ [S.next] from lc) with y | y
        · exact .inr y
        · rw [List.mem_singleton.mp y]
          exact .inl (by simp)
      | _ => exact .inr lc
    · simp only [List.mem_cons, List.not_mem_nil, or_false] at hc
      rcases hc with rfl | rfl
      · rw [setA_ne (by intro z; cases z), upd_same, ent_put, if_neg hnx, srcT_fun]
        rfl
      · rw [setA_same, upd_ne nTD, upd_same]
        show _ = some (HO.tup [.int (if S.next = S.next then ((0 : Int), false) else S.unit S.next).1, .bl (if S.next = S.next then ((0 : Int), false) else S.unit S.next).2])
        rw [if_pos rfl]
    · have n1 : c ≠ .srcD := fun z => hc (by rw [z]; simp)
      have n2 : c ≠ .srcT S.next := fun z => hc (by rw [z]; simp)
      refine ⟨setA_ne n2, ?_⟩
      cases c with
      | srcD => exact absurd rfl n1
      | srcT j =>
        have nj : j ≠ S.next := fun z => n2 (by rw [z])
        show HO.tup [.int (if j = S.next then ((0 : Int), false) else S.unit j).1, .bl (if j = S.next then ((0 : Int), false) else S.unit j).2] = _
        rw [if_neg nj]
        rfl
      | _ => rfl
    · simp only [List.mem_cons, List.not_mem_nil, or_false] at hc
      rcases hc with rfl | rfl
      · exact .inl ⟨setA_ne (by intro z; cases z), trivial⟩
      · exact .inr (by rw [setA_same]; exact hT2)
    · simp only [List.mem_cons, List.not_mem_nil, or_false] at hc hc'
      rcases hc with rfl | rfl
      · rw [setA_ne (by intro z; cases z), hD] at z
        cases z
      · rcases hc' with rfl | rfl
        · rw [setA_same, setA_ne (by intro z; cases z)] at e
          exact absurd e nTD
        · rfl
    · rw [upd_ne (nb .srcD (by simp) trivial), upd_ne (ne_of_none e hT2)]
      exact e
def spNewSet (C : Cs) : Sp := fun vs H Q _ => ∃ (p : Int) (n : Nat), OnSys C vs H [.int p] fun S ad dx => p ∈ S.procs ∧ firstFree (S.tab p) n ∧ (S.tab p).length ≤ 1000 ∧ S.sets.length ≤ 1000 ∧ S.next ∉ S.sets ∧
  ∀ H' ad' dx', At C H' (newSet S p n) ad' dx' → Step H S ad H' (newSet S p n) ad' → Q (.int (n : Int)) H'
theorem scNewSet : FnScope ["self", "process", "number", "thing"] ["self", "process"] (defScope sNewSet) := ⟨rfl, rfl, rfl, by decide +kernel, rfl, by decide +kernel, by decide +kernel⟩
theorem okNewSet {f fN fI : Addr} {fd fdN fdI : FuncData} (F : Fun K "new_set" "System.new_set" sNewSet f fd) (T : ClsF K C.S sysF) (GN : MO P w K mg base 5 C.S "new_thing" ["self", "process"] (spNewThing C) fN fdN)
    (gW : mg "WaitingSet" = some (.ref C.W)) (MW : Mk K C.W fI) (GI : FnOk P w K mg base CX0 1 fI fdI ["self"] (spWsInit C.W)) (bI : Binds K fdI ["self"] []) :
    FnOk P w K mg base CX0 6 f fd ["self", "process"] (spNewSet C) := by
  refine F.ok scNewSet (fun vs H Q E h => ?_) (fun cdv A outer s H vs Q E hr h => ?_)
  · obtain ⟨_, _, _, _, _, rfl, _⟩ := h
    rfl
  · obtain ⟨p, n, S, ad, dx, rfl, A0, hp, hf, hl, hz, hnx, k⟩ := h
    have hu := hu_of hr
    have hr2 : Room 2 _ := hr.mono (by decide)
    refine ⟨_, pss_cons (ps_asg (pe_meth (pv 0) T.cl GN.m GN.g hr GN.b .nil pass0 (pa_cons (pv 1) pa_nil)) (pg_tup rfl (pgs_cons (pg_name (i := 2) scNewSet.nd rfl (Or.inl rfl)) (pgs_cons (pg_name (i := 3) scNewSet.nd rfl (Or.inl rfl)) pgs_nil))))
      (pss_cons (ps_dput hu (pe_fld (pv 0) rfl) (pv 3) (pe_make0 MW GI hr2 (by rfl) gW bI .nil pass0) rfl) (pss_one (ps_ret (pv 2)))), ?_⟩
    walk_at "wn"
    refine ⟨_, rfl, ad .box, dx .box, _, rfl, A0.at_ .box trivial, rfl, ?_⟩
    walk_at "wn"
    refine ⟨p, n, S, ad, dx, rfl, A0, hp, hf, hl, fun H1 T1 hT1 hT A1 st1 => ?_⟩
    refine ⟨T1, _, rfl, SqT.of hT, rfl, _, _, rfl, ?_⟩
    walk_at "wn"
    refine ⟨_, _, rfl, ?_⟩
    walk_at "wn"
    refine ⟨rfl, ?_⟩
    refine (fun x dx2 hx hdx ndx => ?_ : ∀ x dx2, _ → _ → _ → _)
    refine ⟨x, dx2, rfl, upd_same, fun H2 e q he hq h2e h2q h2x h2 => ⟨rfl, ?_⟩⟩
    have nex : e ≠ x := fun z => by rw [z, upd_same] at he; cases he
    have nqx : q ≠ x := fun z => by rw [z, upd_same] at hq; cases hq
    rw [upd_ne nex] at he
    rw [upd_ne nqx] at hq
    have ned : e ≠ dx2 := fun z => by rw [z, upd_same] at he; cases he
    have nqd : q ≠ dx2 := fun z => by rw [z, upd_same] at hq; cases hq
    rw [upd_ne ned] at he
    rw [upd_ne nqd] at hq
    have neq : e ≠ q := fun z => by rw [z, h2q] at h2e; cases h2e
    have s2 : Same H1 H2 := fun b o y => by
      rw [h2 b (ne_of_none y hx) (ne_of_none y he) (ne_of_none y hq), upd_ne (ne_of_none y hx), upd_ne (ne_of_none y hdx)]
      exact y
    have A2 := A1.same s2
    have hb := A2.at_ .box trivial
    have hD : H2 (ad .setD) = some (.dK (entKV S.sets fun t => ad (.ws t))) := A2.at_ .setD trivial
    have hD1 : H1 (ad .setD) = some (.dK (entKV S.sets fun t => ad (.ws t))) := A1.at_ .setD trivial
    have nxD : x ≠ ad .setD := fun z => by rw [z, hD1] at hx; cases hx
    have neD : e ≠ ad .setD := fun z => by rw [z, hD1] at he; cases he
    have nqD : q ≠ ad .setD := fun z => by rw [z, hD1] at hq; cases hq
    refine ⟨_, rfl, ad .box, C.S, dx .box, _, _, rfl, hb, T.cl, T.no _ (by decide), rfl, ?_⟩
    refine ⟨_, rfl, ad .setD, _, rfl, DPut.k (k := Sum.inl S.next) hD (by unfold entKV; rw [List.length_map, sizeLine_eq]; omega), ?_⟩
    walk_at "wn"
    have wf : (fun j => if j = S.next then x else ad (.ws j)) = fun j => setA (setA (setA ad (.ws S.next) x) (.ent S.next) e) (.que S.next) q (.ws j) := by
      funext j
      rw [setA_ne (by intro z; cases z), setA_ne (by intro z; cases z)]
      by_cases h : j = S.next
      · rw [if_pos h, h, setA_same]
      · rw [if_neg h, setA_ne fun z => h (by cases z; rfl)]
    have aw : setA (setA (setA ad (.ws S.next) x) (.ent S.next) e) (.que S.next) q (.ws S.next) = x := by rw [setA_ne (by intro z; cases z), setA_ne (by intro z; cases z), setA_same]
    have ae : setA (setA (setA ad (.ws S.next) x) (.ent S.next) e) (.que S.next) q (.ent S.next) = e := by rw [setA_ne (by intro z; cases z), setA_same]
    have aq : setA (setA (setA ad (.ws S.next) x) (.ent S.next) e) (.que S.next) q (.que S.next) = q := setA_same
    have ao : ∀ c, c ≠ .ws S.next → c ≠ .ent S.next → c ≠ .que S.next → setA (setA (setA ad (.ws S.next) x) (.ent S.next) e) (.que S.next) q c = ad c := fun c h1 h2 h3 => by rw [setA_ne h3, setA_ne h2, setA_ne h1]
    refine (fun z : At C _ _ _ _ ∧ Step H1 (newThing S p n) ad _ _ _ => k _ (setA (setA (setA ad (.ws S.next) x) (.ent S.next) e) (.que S.next) q) (setA dx (.ws S.next) dx2) z.1 (st1.trans z.2)) ?_
    refine At.re3 [.setD, .ws S.next, .ent S.next, .que S.next] A1 (fun c lc => ?_) (fun c hc lc => ?_) (fun c hc lc => ?_) (fun c hc lc => ?_) (fun c hc c' hc' lc lc' z ee => ?_) (fun b o nb ee => ?_) (ao _ (by intro z; cases z) (by intro z; cases z) (by intro z; cases z))
    · have split : ∀ t, t ∈ S.sets ++ [S.next] → t ∈ S.sets ∨ t = S.next := fun t h => by
        rcases List.mem_append.mp h with y | y
        · exact .inl y
        · exact .inr (List.mem_singleton.mp y)
      cases c with
      | ws t =>
        rcases split t lc with y | rfl
        · exact .inr y
        · exact .inl (by simp)
      | ent t =>
        rcases split t lc with y | rfl
        · exact .inr y
        · exact .inl (by simp)
      | que t =>
        rcases split t lc with y | rfl
        · exact .inr y
        · exact .inl (by simp)
      | reg t l =>
        obtain ⟨h1, h2⟩ := lc
        have h2 : l ∈ (if t = S.next then [] else S.ents t) := h2
        by_cases nt : t = S.next
        · rw [if_pos nt] at h2
          cases h2
        · rw [if_neg nt] at h2
          rcases split t h1 with y | y
          · exact .inr ⟨y, h2⟩
          · exact absurd y nt
      | _ => exact .inr lc
    · simp only [List.mem_cons, List.not_mem_nil, or_false] at hc
      rcases hc with rfl | rfl | rfl | rfl
      · rw [ao _ (by intro z; cases z) (by intro z; cases z) (by intro z; cases z), upd_same, ent_put, if_neg hnx, wf]
        rfl
      · rw [aw, upd_ne nxD, h2x]
        show _ = some (wsO C.W (setA dx (.ws S.next) dx2 (.ws S.next)) _ _)
        rw [setA_same, ae, aq]
      · rw [ae, upd_ne neD, h2e]
        show _ = some (HO.dK (entKV (if S.next = S.next then [] else S.ents S.next) _))
        rw [if_pos rfl]
        rfl
      · rw [aq, upd_ne nqD, h2q]
        show _ = some (HO.lst ((if S.next = S.next then [] else S.que S.next).map V.int))
        rw [if_pos rfl]
        rfl
    · have n1 : c ≠ .setD := fun z => hc (by rw [z]; simp)
      have n2 : c ≠ .ws S.next := fun z => hc (by rw [z]; simp)
      have n3 : c ≠ .ent S.next := fun z => hc (by rw [z]; simp)
      have n4 : c ≠ .que S.next := fun z => hc (by rw [z]; simp)
      refine ⟨ao c n2 n3 n4, ?_⟩
      cases c with
      | setD => exact absurd rfl n1
      | ws t =>
        have nt : t ≠ S.next := fun z => n2 (by rw [z])
        show wsO C.W (setA dx (.ws S.next) dx2 (.ws t)) _ _ = _
        rw [setA_ne n2, ao (.ent t) (by intro z; cases z) (fun z => nt (by cases z; rfl)) (by intro z; cases z), ao (.que t) (by intro z; cases z) (by intro z; cases z) (fun z => nt (by cases z; rfl))]
        rfl
      | ent t =>
        have nt : t ≠ S.next := fun z => n3 (by rw [z])
        show HO.dK (entKV (if t = S.next then [] else S.ents t) _) = _
        rw [if_neg nt]
        rfl
      | que t =>
        have nt : t ≠ S.next := fun z => n4 (by rw [z])
        show HO.lst ((if t = S.next then [] else S.que t).map V.int) = _
        rw [if_neg nt]
        rfl
      | _ => rfl
    · simp only [List.mem_cons, List.not_mem_nil, or_false] at hc
      rcases hc with rfl | rfl | rfl | rfl
      · exact .inl ⟨ao _ (by intro z; cases z) (by intro z; cases z) (by intro z; cases z), trivial⟩
      · exact .inr (by rw [aw]; exact hx)
      · exact .inr (by rw [ae]; exact he)
      · exact .inr (by rw [aq]; exact hq)
    · simp only [List.mem_cons, List.not_mem_nil, or_false] at hc hc'
      have oD : setA (setA (setA ad (.ws S.next) x) (.ent S.next) e) (.que S.next) q .setD = ad .setD := ao _ (by intro z; cases z) (by intro z; cases z) (by intro z; cases z)
      rcases hc with rfl | rfl | rfl | rfl
      · rw [oD, hD1] at z
        cases z
      · rcases hc' with rfl | rfl | rfl | rfl
        · rw [aw, oD] at ee
          exact absurd ee nxD
        · rfl
        · rw [aw, ae] at ee
          exact absurd ee.symm nex
        · rw [aw, aq] at ee
          exact absurd ee.symm nqx
      · rcases hc' with rfl | rfl | rfl | rfl
        · rw [ae, oD] at ee
          exact absurd ee neD
        · rw [aw, ae] at ee
          exact absurd ee nex
        · rfl
        · rw [ae, aq] at ee
          exact absurd ee neq
      · rcases hc' with rfl | rfl | rfl | rfl
        · rw [aq, oD] at ee
          exact absurd ee nqD
        · rw [aw, aq] at ee
          exact absurd ee nqx
        · rw [ae, aq] at ee
          exact absurd ee.symm neq
        · rfl
    · rw [upd_ne (nb .setD (by simp) trivial)]
      exact s2 _ _ ee
end

def newSys (P N : Int) : Sys where
  P := P
  N := N
  next := 0
  procs := [0]
  tab := fun _ => List.replicate N.toNat none
  srcs := []
  unit := fun _ => (0, false)
  sets := []
  ents := fun _ => []
  reg := fun _ _ => ⟨0, 0, "level", true⟩
  que := fun _ => []
section
variable {P : Program} {w : World} {K : PySem.W.Frag} {mg : Str → Option Value} {base : Heap} {C : Cs}
structure LimTxt (K : PySem.W.Frag) (mg : Str → Option Value) (CS : Addr) : Prop where
  lp : ∃ t, mg "LEAST_PROCESSES" = some (.int 2 t)
  ln : ∃ t, mg "LEAST_NUMBERS" = some (.int 3 t)
  mp : ∃ u, Con K CS "MOST_PROCESSES" (.int 6) u
  mn : ∃ u, Con K CS "MOST_NUMBERS" (.int 8) u
def spSysInit (C : Cs) : Sp := fun vs H Q _ => ∃ (x dx0 : Addr) (p n : Int), vs = [.ref x, .int p, .int n] ∧ H x = some (.ins C.S dx0 []) ∧ 2 ≤ p ∧ p ≤ 6 ∧ 3 ≤ n ∧ n ≤ 8 ∧
  ∀ H' ad dx, ad .box = x → At C H' (newSys p n) ad dx → (∀ b o, b ≠ x → H b = some o → H' b = some o) → (∀ b, own (newSys p n) ad b → b = x ∨ H b = none) → Q .non H'
theorem scSysInit : FnScope ["self", "processes", "numbers"] ["self", "processes", "numbers"] (defScope sSysInit) := ⟨rfl, rfl, rfl, by decide +kernel, rfl, by decide +kernel, by decide +kernel⟩
def initA (x td sd ud tl : Addr) : Cell → Addr
  | .box => x
  | .tabD => td
  | .srcD => sd
  | .setD => ud
  | _ => tl
theorem okSysInit {dvs : List V} {kws : List (Str × V)} {f fB : Addr} {fd fdB : FuncData} (F : FunD K "__init__" "System.__init__" (defArgs sSysInit) (defBody sSysInit) (defScope sSysInit) dvs kws f fd) (T : ClsF K C.S sysF) (L : LimTxt K mg C.S)
    (GB : DO P w K mg base 2 "is_between" ["x", "least", "most"] spIsBetween fB fdB) : FnOk P w K mg base CX0 3 f fd ["self", "processes", "numbers"] (spSysInit C) := by
  refine F.ok scSysInit (fun vs H Q E h => ?_) (fun cdv A outer s H vs Q E hr h => ?_)
  · obtain ⟨_, _, _, _, rfl, _⟩ := h
    rfl
  · obtain ⟨x, dx0, p, n, rfl, hx, p0, p1, n0, n1, k⟩ := h
    obtain ⟨tp, lp⟩ := L.lp
    obtain ⟨tn, ln⟩ := L.ln
    obtain ⟨up, mp⟩ := L.mp
    obtain ⟨un, mn⟩ := L.mn
    refine ⟨_, pss_cons (ps_if (pt_not (pt_val (pe_call GB.g hr (by rfl) GB.m GB.k GB.b .nil pass0 (pa_cons (pv 1) (pa_cons (pe_glob (v := .int 2) (by rfl) lp ⟨_, rfl⟩) (pa_cons (pe_con (pv 0) rfl) pa_nil)))))) (pss_one ps_never) pss_nil)
      (pss_cons (ps_if (pt_not (pt_val (pe_call GB.g hr (by rfl) GB.m GB.k GB.b .nil pass0 (pa_cons (pv 2) (pa_cons (pe_glob (v := .int 3) (by rfl) ln ⟨_, rfl⟩) (pa_cons (pe_con (pv 0) rfl) pa_nil)))))) (pss_one ps_never) pss_nil)
      (pss_cons (ps_fld (pv 0) (pv 1) rfl) (pss_cons (ps_fld (pv 0) (pv 2) rfl)
      (pss_cons (ps_fld (pv 0) (pe_disp (pps_cons pe_int (pe_op op_rep (pe_lst (pa_cons pe_non pa_nil)) (pv 2)) pps_nil) (by rfl) (by rfl) (fun z => by cases z) (by decide)) rfl)
      (pss_cons (ps_fld (pv 0) pe_dnewK rfl) (pss_cons (ps_fld (pv 0) pe_dnewK rfl) (pss_one (ps_fld (pv 0) pe_int rfl)))))))), ?_⟩
    walk_at "wn"
    refine ⟨_, rfl, x, C.S, dx0, _, _, _, rfl, hx, T.cl, mp, rfl, ?_⟩
    refine ⟨p, 2, 6, rfl, ?_⟩
    rw [decide_eq_true p0, decide_eq_true p1]
    refine ⟨_, rfl, ?_⟩
    walk_at "wn"
    refine ⟨_, rfl, _, rfl, x, C.S, dx0, _, _, _, rfl, hx, T.cl, mn, rfl, ?_⟩
    refine ⟨n, 3, 8, rfl, ?_⟩
    rw [decide_eq_true n0, decide_eq_true n1]
    refine ⟨_, rfl, ?_⟩
    refine ⟨_, rfl, _, rfl, x, C.S, dx0, _, rfl, hx, T.cl, T.no _ (by decide), by show 0 < 1000; decide, ?_⟩
    refine ⟨_, rfl, _, rfl, x, C.S, dx0, _, rfl, upd_same, T.cl, T.no _ (by decide), by show 1 < 1000; decide, ?_⟩
    have g1 : ∀ b o, b ≠ x → H b = some o → upd (upd H x (.ins C.S dx0 (putF "process_limit" (V.int p) []))) x (.ins C.S dx0 (putF "number_limit" (V.int n) (putF "process_limit" (V.int p) []))) b = some o := fun b o nb e => by rw [upd_ne nb, upd_ne nb]; exact e
    have x1 : upd (upd H x (.ins C.S dx0 (putF "process_limit" (V.int p) []))) x (.ins C.S dx0 (putF "number_limit" (V.int n) (putF "process_limit" (V.int p) []))) x = some (.ins C.S dx0 [("process_limit", .int p), ("number_limit", .int n)]) := upd_same
    generalize upd (upd H x (.ins C.S dx0 (putF "process_limit" (V.int p) []))) x (.ins C.S dx0 (putF "number_limit" (V.int n) (putF "process_limit" (V.int p) []))) = H1 at g1 x1
    have fr : ∀ {H' : Hp} {l : Addr}, (∀ b o, b ≠ x → H b = some o → H' b = some o) → H' l = none → l ≠ x → H l = none := fun {H'} {l} g e nl => by
      cases z : H l with
      | none => rfl
      | some o => rw [g l o nl z] at e; cases e
    intro td htd
    have ntx : td ≠ x := fun z => by rw [z, x1] at htd; cases htd
    have s2 := Same.new' (o := .dK []) htd
    refine ⟨by show 1 ≤ sizeLine; decide, fun l0 hl0 => ?_⟩
    have s3 := Same.new' (o := .lst [V.non]) hl0
    have l0' : upd (upd H1 td (.dK [])) l0 (.lst [V.non]) l0 = some (.lst [V.non]) := upd_same
    refine ⟨_, rfl, l0, n, _, rfl, rfl, l0', by omega, by omega, ?_, fun tl htl => ?_⟩
    · show 1 * n.toNat ≤ sizeLine
      rw [sizeLine_eq]
      omega
    have s4 := Same.new' (o := .lst (List.replicate n.toNat [V.non]).flatten) htl
    have td4 : upd (upd (upd H1 td (.dK [])) l0 (.lst [V.non])) tl (.lst (List.replicate n.toNat [V.non]).flatten) td = some (.dK []) := s4 _ _ (s3 _ _ upd_same)
    have x4 := s4 _ _ (s3 _ _ (s2 _ _ x1))
    have tl4 : upd (upd (upd H1 td (.dK [])) l0 (.lst [V.non])) tl (.lst (List.replicate n.toNat [V.non]).flatten) tl = some (.lst (List.replicate n.toNat [V.non]).flatten) := upd_same
    have g4 : ∀ b o, b ≠ x → H b = some o → upd (upd (upd H1 td (.dK [])) l0 (.lst [V.non])) tl (.lst (List.replicate n.toNat [V.non]).flatten) b = some o := fun b o nb e => s4 _ _ (s3 _ _ (s2 _ _ (g1 b o nb e)))
    have hd0 : H td = none := fr g1 htd ntx
    have ntlx : tl ≠ x := fun z => by rw [z] at htl; rw [s3 _ _ (s2 _ _ x1)] at htl; cases htl
    have htl0 : H tl = none := fr (H' := upd (upd H1 td (.dK [])) l0 (.lst [V.non])) (fun b o nb e => s3 _ _ (s2 _ _ (g1 b o nb e))) htl ntlx
    generalize upd (upd (upd H1 td (.dK [])) l0 (.lst [V.non])) tl (.lst (List.replicate n.toNat [V.non]).flatten) = H4 at td4 x4 tl4 g4
    have ntd : tl ≠ td := ne_of tl4 td4 (by intro z; cases z)
    refine ⟨td4, [(Sum.inl 0, .ref tl)], rfl, by show 1 ≤ 15; decide, ?_⟩
    have g5 : ∀ b o, b ≠ x → H b = some o → upd H4 td (.dK (mergeK [] [((Sum.inl 0 : Key), V.ref tl)])) b = some o := fun b o nb e => by rw [upd_ne (ne_of_none e hd0)]; exact g4 b o nb e
    have x5 : upd H4 td (.dK (mergeK [] [((Sum.inl 0 : Key), V.ref tl)])) x = _ := (upd_ne (Ne.symm ntx)).trans x4
    have tl5 : upd H4 td (.dK (mergeK [] [((Sum.inl 0 : Key), V.ref tl)])) tl = _ := (upd_ne ntd).trans tl4
    have td5 : upd H4 td (.dK (mergeK [] [((Sum.inl 0 : Key), V.ref tl)])) td = some (.dK [((Sum.inl 0 : Key), V.ref tl)]) := upd_same
    generalize upd H4 td (.dK (mergeK [] [((Sum.inl 0 : Key), V.ref tl)])) = H5 at g5 x5 tl5 td5
    refine ⟨_, rfl, x, C.S, dx0, _, rfl, x5, T.cl, T.no _ (by decide), by show 2 < 1000; decide, ?_⟩
    have g6 : ∀ b o, b ≠ x → H5 b = some o → upd H5 x (.ins C.S dx0 (putF "tables" (V.ref td) [("process_limit", .int p), ("number_limit", .int n)])) b = some o := fun b o nb e => by rw [upd_ne nb]; exact e
    have x6 : upd H5 x (.ins C.S dx0 (putF "tables" (V.ref td) [("process_limit", .int p), ("number_limit", .int n)])) x = some (.ins C.S dx0 [("process_limit", .int p), ("number_limit", .int n), ("tables", .ref td)]) := upd_same
    generalize upd H5 x (.ins C.S dx0 (putF "tables" (V.ref td) [("process_limit", .int p), ("number_limit", .int n)])) = H6 at g6 x6
    intro sd hsd
    have nsx : sd ≠ x := fun z => by rw [z, x6] at hsd; cases hsd
    have nst : sd ≠ td := fun z => by rw [z, g6 _ _ ntx td5] at hsd; cases hsd
    have hsd0 : H sd = none := fr (fun b o nb e => g6 b o nb (g5 b o nb e)) hsd nsx
    have s7 := Same.new' (o := .dK []) hsd
    refine ⟨_, rfl, x, C.S, dx0, _, rfl, s7 _ _ x6, T.cl, T.no _ (by decide), by show 3 < 1000; decide, ?_⟩
    have g8 : ∀ b o, b ≠ x → H6 b = some o → upd (upd H6 sd (.dK [])) x (.ins C.S dx0 (putF "sources" (V.ref sd) [("process_limit", .int p), ("number_limit", .int n), ("tables", .ref td)])) b = some o := fun b o nb e => by rw [upd_ne nb]; exact s7 _ _ e
    have sd8 : upd (upd H6 sd (.dK [])) x (.ins C.S dx0 (putF "sources" (V.ref sd) [("process_limit", .int p), ("number_limit", .int n), ("tables", .ref td)])) sd = some (.dK []) := by rw [upd_ne nsx]; exact upd_same
    have x8 : upd (upd H6 sd (.dK [])) x (.ins C.S dx0 (putF "sources" (V.ref sd) [("process_limit", .int p), ("number_limit", .int n), ("tables", .ref td)])) x = some (.ins C.S dx0 [("process_limit", .int p), ("number_limit", .int n), ("tables", .ref td), ("sources", .ref sd)]) := upd_same
    generalize upd (upd H6 sd (.dK [])) x (.ins C.S dx0 (putF "sources" (V.ref sd) [("process_limit", .int p), ("number_limit", .int n), ("tables", .ref td)])) = H8 at g8 sd8 x8
    intro ud hud
    have nux : ud ≠ x := fun z => by rw [z, x8] at hud; cases hud
    have nut : ud ≠ td := fun z => by rw [z, g8 _ _ ntx (g6 _ _ ntx td5)] at hud; cases hud
    have nus : ud ≠ sd := fun z => by rw [z, sd8] at hud; cases hud
    have hud0 : H ud = none := fr (fun b o nb e => g8 b o nb (g6 b o nb (g5 b o nb e))) hud nux
    have s9 := Same.new' (o := .dK []) hud
    refine ⟨_, rfl, x, C.S, dx0, _, rfl, s9 _ _ x8, T.cl, T.no _ (by decide), by show 4 < 1000; decide, ?_⟩
    refine ⟨_, rfl, x, C.S, dx0, _, rfl, upd_same, T.cl, T.no _ (by decide), by show 5 < 1000; decide, ?_⟩
    have fin : ∀ b o, b ≠ x → upd H8 ud (.dK []) b = some o → upd (upd (upd H8 ud (.dK [])) x (.ins C.S dx0 (putF "sets" (V.ref ud) [("process_limit", .int p), ("number_limit", .int n), ("tables", .ref td), ("sources", .ref sd)]))) x (.ins C.S dx0 (putF "next_thing" (V.int 0) (putF "sets" (V.ref ud) [("process_limit", .int p), ("number_limit", .int n), ("tables", .ref td), ("sources", .ref sd)]))) b = some o := fun b o nb e => by rw [upd_ne nb, upd_ne nb]; exact e
    have xf : upd (upd (upd H8 ud (.dK [])) x (.ins C.S dx0 (putF "sets" (V.ref ud) [("process_limit", .int p), ("number_limit", .int n), ("tables", .ref td), ("sources", .ref sd)]))) x (.ins C.S dx0 (putF "next_thing" (V.int 0) (putF "sets" (V.ref ud) [("process_limit", .int p), ("number_limit", .int n), ("tables", .ref td), ("sources", .ref sd)]))) x = some (sysO C.S dx0 (newSys p n) td sd ud) := upd_same
    generalize upd (upd (upd H8 ud (.dK [])) x (.ins C.S dx0 (putF "sets" (V.ref ud) [("process_limit", .int p), ("number_limit", .int n), ("tables", .ref td), ("sources", .ref sd)]))) x (.ins C.S dx0 (putF "next_thing" (V.int 0) (putF "sets" (V.ref ud) [("process_limit", .int p), ("number_limit", .int n), ("tables", .ref td), ("sources", .ref sd)]))) = HF at fin xf
    have tdF : HF td = some (.dK [((Sum.inl 0 : Key), V.ref tl)]) := fin _ _ ntx (s9 _ _ (g8 _ _ ntx (g6 _ _ ntx td5)))
    have sdF : HF sd = some (.dK []) := fin _ _ nsx (s9 _ _ sd8)
    have udF : HF ud = some (.dK []) := fin _ _ nux upd_same
    have tlF : HF tl = some (.lst (List.replicate n.toNat [V.non]).flatten) := fin _ _ ntlx (s9 _ _ (g8 _ _ ntlx (g6 _ _ ntlx tl5)))
    have et : (List.replicate n.toNat [V.non]).flatten = (List.replicate n.toNat (none : Option Int)).map optV := by
      rw [List.map_replicate]
      have : ∀ m : Nat, (List.replicate m [V.non]).flatten = List.replicate m V.non := by
        intro m
        induction m with
        | zero => rfl
        | succ m ih => rw [List.replicate_succ, List.flatten_cons, ih]; rfl
      exact this _
    rw [et] at tlF
    have lt0 : ∀ t, live (newSys p n) (.tab t) → t = 0 := fun t h => List.mem_singleton.mp h
    have no : ∀ t : Int, t ∉ ([] : List Int) := fun t h => nomatch h
    refine k HF (initA x td sd ud tl) (fun _ => dx0) rfl ⟨fun c hc => ?_, fun c c' hc hc' z => ?_⟩ (fun b o nb e => fin b o nb (s9 _ _ (g8 b o nb (g6 b o nb (g5 b o nb e))))) (fun b hb => ?_)
    · cases c with
      | box => exact xf
      | tabD => exact tdF
      | srcD => exact sdF
      | setD => exact udF
      | tab t => exact tlF
      | srcT t => exact absurd hc (no t)
      | ws t => exact absurd hc (no t)
      | ent t => exact absurd hc (no t)
      | que t => exact absurd hc (no t)
      | reg t l => exact absurd hc.1 (no t)
    · have n_xt : x ≠ td := Ne.symm ntx
      have n_ts : tl ≠ sd := ne_of tlF sdF (by intro z; cases z)
      have n_tu : tl ≠ ud := ne_of tlF udF (by intro z; cases z)
      have dead : ∀ {c : Cell}, live (newSys p n) c → c = .box ∨ c = .tabD ∨ c = .srcD ∨ c = .setD ∨ c = .tab 0 := fun {c} hc => by
        cases c with
        | box => exact .inl rfl
        | tabD => exact .inr (.inl rfl)
        | srcD => exact .inr (.inr (.inl rfl))
        | setD => exact .inr (.inr (.inr (.inl rfl)))
        | tab t => exact .inr (.inr (.inr (.inr (by rw [lt0 t hc]))))
        | srcT t => exact absurd hc (no t)
        | ws t => exact absurd hc (no t)
        | ent t => exact absurd hc (no t)
        | que t => exact absurd hc (no t)
        | reg t l => exact absurd hc.1 (no t)
      rcases dead hc with rfl | rfl | rfl | rfl | rfl <;> rcases dead hc' with rfl | rfl | rfl | rfl | rfl <;> first | rfl | (exfalso; revert z; first | exact fun z => n_xt z | exact fun z => n_xt z.symm | exact fun z => nsx z | exact fun z => nsx z.symm | exact fun z => nux z | exact fun z => nux z.symm | exact fun z => ntlx z | exact fun z => ntlx z.symm | exact fun z => nst z | exact fun z => nst z.symm | exact fun z => nut z | exact fun z => nut z.symm | exact fun z => nus z | exact fun z => nus z.symm | exact fun z => ntd z | exact fun z => ntd z.symm | exact fun z => n_ts z | exact fun z => n_ts z.symm | exact fun z => n_tu z | exact fun z => n_tu z.symm)
    · obtain ⟨c, hc, rfl⟩ := hb
      cases c with
      | box => exact .inl rfl
      | tabD => exact .inr hd0
      | srcD => exact .inr hsd0
      | setD => exact .inr hud0
      | tab t => exact .inr htl0
      | srcT t => exact absurd hc (no t)
      | ws t => exact absurd hc (no t)
      | ent t => exact absurd hc (no t)
      | que t => exact absurd hc (no t)
      | reg t l => exact absurd hc.1 (no t)
end

abbrev sDrop : Stmt := meth 26 5
abbrev sChange : Stmt := meth 30 14
abbrev sRemove : Stmt := meth 30 15
/-! o.m(e, .., k = v, ..) -/
def tMethK (C : Addr) (m : Str) (n j : Nat) (sp : Sp) (gV : List V → List V → List V) (E : XK) (ta : TE) (t tk : TA) : TE := fun σ H Q => ta σ H fun x H1 => ∃ a dx fs, x = .ref a ∧ H1 a = some (.ins C dx fs) ∧ fs.lookup m = none ∧ t σ H1 fun vs H2 => tk σ H2 fun zs H3 => vs.length = n ∧ zs.length = j ∧ sp (gV (x :: vs) zs) H3 Q E
section
variable {X : Cx} {CX : CXT} {k n : Nat} {f C : Addr} {fd : FuncData} {ps ks : List Str} {sp : Sp} {E : XK} {m : Str} {apos pos : Pos} {o e : Expr} {es : List Expr} {kws : List Keyword} {ta : TE} {t tk : TA} {g : List Value → List Value → List Value} {gV : List V → List V → List V}
theorem pe_methK {pl : Sem Bool} (he : PE X o ta) (c : Cls X.K C) (hm : Meth X.K C m f) (F : FnOk X.prog X.w X.K X.mg X.base CX k f fd ps sp) (hr : Room k X.A) (hb : KBn X.K fd ps (n + 1) ks g gV) (hx : Passes CX X E) (ha : PA X (e :: es) t) (hkw : PK X kws tk)
    (hall : (backToKw pos (keywordEach kws X.env)).all (·.1.isSome) = true := by rfl) (hks : (backToKw pos (keywordEach kws X.env)).filterMap (·.1) = ks := by rfl)
    (hst : starEach (e :: es) X.env = (false, eval e X.env) :: starEach es X.env := by rfl) (hpl : ((backTo pos (starEach (e :: es) X.env)).any (·.1) || (backToKw pos (keywordEach kws X.env)).any (·.1.isNone)) = false := by rfl)
    (ht : eval (.Call (.Attribute o m apos) (e :: es) kws pos) X.env = (do
      let ov ← eval o X.env
      standAt apos.atName
      let (f, first) ← holding [ov] (getMethod ov m pl)
      callWith pos f first (backTo pos (starEach (e :: es) X.env)) (backToKw pos (keywordEach kws X.env))) := by rfl) :
    PE X (.Call (.Attribute o m apos) (e :: es) kws pos) (tMethK C m n ks.length sp gV E ta t tk) := by
  refine ⟨fun pins s σ H Q I h => ?_⟩
  refine PySem.W.methodCall_KW (pl := pl) (thn (he.run pins s σ H _ I h) fun u s1 ⟨x, H1, I1, rx, a, dx, fs, ex, ea, l, q⟩ => ?_) ht
  subst ex
  obtain rfl : u = Value.ref a := rx
  refine getmeth_ok I1 ea c hm l ?_
  refine PySem.W.callWith_KW (first := [.ref a]) (h₀ := X.base) I.ok.mod.kin hm.kp hall (thn (ha.run pos pins s1 σ H1 _ I1 q) fun us s2 ⟨vs, H2, I2, r, q2⟩ => ?_) hpl hst
  refine thn (hkw.run pos pins s2 σ H2 _ I2 q2) fun ws s3 ⟨zs, H3, I3, rz, l1, l2, q3⟩ => ⟨I3.kIn, ?_⟩
  rw [hks]
  exact run_fnN (us := .ref a :: us) (vs := .ref a :: vs) F hr hb hx I3 (.cons rfl r) rz (by rw [List.length_cons, l1]) l2 q3
end
def changed (S : Sys) (s l : Int) (r : Reg) : Sys := { S with
  reg := fun j i => if j = s ∧ i = l then r else S.reg j i
  que := fun j => if j = s then (if ready S r.src = true then qAdd l (S.que s) else S.que s) else S.que j }
section
variable {P : Program} {w : World} {K : PySem.W.Frag} {mg : Str → Option Value} {base : Heap} {C : Cs}
def spChange (C : Cs) : Sp := fun vs H Q _ => ∃ (p sn n l s t : Int) (wd : Str), OnSys C vs H [.int p, .int sn, .int n, .str wd] fun S ad dx => Means S p sn s ∧ s ∈ S.sets ∧ Means S p n t ∧ t ∈ S.srcs ∧ wd ∈ wordsL ∧ (S.ents s).find? (keyOf (S.reg s) n t) = some l ∧ Small S ∧
  ∀ H' ad' dx', At C H' (changed S s l ⟨n, t, wd, true⟩) ad' dx' → Step H S ad H' (changed S s l ⟨n, t, wd, true⟩) ad' → Q .non H'
theorem scChange : FnScope ["self", "process", "set_number", "number", "word", "waiting", "source", "label"] ["self", "process", "set_number", "number", "word"] (defScope sChange) := ⟨rfl, rfl, rfl, by decide +kernel, rfl, by decide +kernel, by decide +kernel⟩
theorem okChange {f fW fS fD fO fR fI fP : Addr} {fd fdW fdS fdD fdO fdR fdI fdP : FuncData} (F : Fun K "change" "System.change" sChange f fd) (T : ClsF K C.S sysF) (TW : ClsF K C.W wsF)
    (GW : MO P w K mg base 5 C.S "set_at" ["self", "process", "set_number"] (spSetAt C) fW fdW) (GS : MO P w K mg base 5 C.S "source_at" ["self", "process", "number"] (spSourceAt C) fS fdS)
    (GD : DO P w K mg base 1 "is_word" ["x"] spIsWord fD fdD) (GO : MO P w K mg base 1 C.W "label_of" ["self", "number", "source"] (spLabelOf C.W C.R) fO fdO)
    (gR : mg "Registration" = some (.ref C.R)) (MR : Mk K C.R fR) (GR : FnOk P w K mg base CX0 1 fR fdR ["self", "number", "source", "word", "armed"] (spRegInit C.R)) (bR : Binds K fdR ["self", "number", "source", "word", "armed"] [])
    (GI : MO P w K mg base 1 C.S "is_ready" ["self", "source"] (spIsReady C) fI fdI) (GP : MO P w K mg base 2 C.W "put" ["self", "label", "kept", "ready"] (spPut C.W) fP fdP) :
    FnOk P w K mg base CX0 6 f fd ["self", "process", "set_number", "number", "word"] (spChange C) := by
  refine F.ok scChange (fun vs H Q E h => ?_) (fun cdv A outer s H vs Q E hr h => ?_)
  · obtain ⟨_, _, _, _, _, _, _, _, _, _, rfl, _⟩ := h
    rfl
  · obtain ⟨p, sn, n, l, s, t, wd, S, ad, dx, rfl, A0, Ms, hs, Mt, ht, hwd, hfind, sm0, k⟩ := h
    have hu := hu_of hr
    have hr1 : Room 1 _ := hr.mono (by decide)
    have hr2 : Room 2 _ := hr.mono (by decide)
    have hl : l ∈ S.ents s := List.mem_of_find?_eq_some hfind
    refine ⟨_, pss_cons (ps_set (i := 5) scChange.nd rfl (Or.inl rfl) (pe_meth (pv 0) T.cl GW.m GW.g hr GW.b .nil pass0 (pa_cons (pv 1) (pa_cons (pv 2) pa_nil))))
      (pss_cons (ps_set (i := 6) scChange.nd rfl (Or.inl rfl) (pe_meth (pv 0) T.cl GS.m GS.g hr GS.b .nil pass0 (pa_cons (pv 1) (pa_cons (pv 3) pa_nil))))
      (pss_cons (ps_if (pt_not (pt_val (pe_call GD.g hr1 (by rfl) GD.m GD.k GD.b .nil pass0 (pa_cons (pv 4) pa_nil)))) (pss_one ps_never) pss_nil)
      (pss_cons (ps_set (i := 7) scChange.nd rfl (Or.inl rfl) (pe_meth (pv 5) TW.cl GO.m GO.g hr1 GO.b .nil pass0 (pa_cons (pv 3) (pa_cons (pv 6) pa_nil))))
      (pss_cons (ps_if (pt_cmpR oIsN (pv 7) pe_non (nomark _)) (pss_one ps_never) pss_nil)
      (pss_one (ps_expr (pe_meth (pv 5) TW.cl GP.m GP.g hr2 GP.b .nil pass0 (pa_cons (pv 7) (pa_cons (pe_make MR GR hr2 (by rfl) gR bR .nil pass0 (pa_cons (pv 3) (pa_cons (pv 6) (pa_cons (pv 4) (pa_cons pe_bl pa_nil))))) (pa_cons (pe_meth (pv 0) T.cl GI.m GI.g hr1 GI.b .nil pass0 (pa_cons (pv 6) pa_nil)) pa_nil)))))))))), ?_⟩
    have hb := A0.at_ .box trivial
    walk_at "wn"
    refine ⟨_, rfl, ad .box, dx .box, _, rfl, hb, rfl, ?_⟩
    walk_at "wn"
    refine ⟨p, sn, s, S, ad, dx, rfl, A0, Ms, hs, ?_⟩
    walk_at "wn"
    refine ⟨_, rfl, ad .box, dx .box, _, rfl, hb, rfl, ?_⟩
    walk_at "wn"
    refine ⟨p, n, t, S, ad, dx, rfl, A0, Mt, ht, ?_⟩
    walk_at "wn"
    refine ⟨wd, rfl, hwd, ?_⟩
    refine ⟨_, rfl, ?_⟩
    walk_at "wn"
    have hw := A0.at_ (.ws s) hs
    refine ⟨_, rfl, ad (.ws s), dx (.ws s), _, rfl, hw, rfl, ?_⟩
    walk_at "wn"
    refine ⟨ad (.ws s), dx (.ws s), ad (.ent s), ad (.que s), n, t, S.ents s, fun j => ad (.reg s j), S.reg s, rfl, hw, A0.at_ (.ent s) hs, fun j hj => ⟨dx (.reg s j), A0.at_ (.reg s j) ⟨hs, hj⟩⟩, fun H1 s1 => ?_⟩
    rw [hfind]
    have A1 := A0.same s1
    have hw1 := A1.at_ (.ws s) hs
    have he1 := A1.at_ (.ent s) hs
    have hq1 := A1.at_ (.que s) hs
    walk_at "wn"
    rw [decide_eq_false (by intro z; cases z)]
    walk_at "wn"
    refine ⟨_, rfl, ad (.ws s), dx (.ws s), _, rfl, hw1, rfl, ?_⟩
    walk_at "wn"
    refine ⟨_, rfl, _, rfl, _, rfl, fun x dx2 hx hdx ndx => ?_⟩
    refine ⟨x, dx2, n, t, wd, true, rfl, upd_same, fun H2 k1 k2 => ⟨rfl, ?_⟩⟩
    have s2 : Same H1 H2 := fun b o e => by
      rw [k1 b (ne_of_none e hx), upd_ne (ne_of_none e hx), upd_ne (ne_of_none e hdx)]
      exact e
    have A2 := A1.same s2
    refine ⟨_, rfl, ad .box, dx .box, _, rfl, A2.at_ .box trivial, rfl, ?_⟩
    walk_at "wn"
    refine ⟨t, S, ad, dx, rfl, A2, ht, ?_⟩
    have he2 := A2.at_ (.ent s) hs
    have hq2 := A2.at_ (.que s) hs
    have z1 := sm0.que s hs
    have z2 := sm0.ents s hs
    refine ⟨ad (.ws s), dx (.ws s), ad (.ent s), ad (.que s), x, l, ready S t, S.que s, _, rfl, A2.at_ (.ws s) hs, hq2, he2, by omega, by unfold entKV; rw [List.length_map]; omega, fun H3 j1 j2 j3 => ?_⟩
    rw [ent_put, if_pos hl, reg_fun] at j1
    have nxe : x ≠ ad (.ent s) := fun z => by rw [z, he1] at hx; cases hx
    have nxq : x ≠ ad (.que s) := fun z => by rw [z, hq1] at hx; cases hx
    have fresh : H x = none := s1.free hx
    refine (fun z : At C _ _ _ _ ∧ Step H S ad _ _ _ => k H3 (setA ad (.reg s l) x) (setA dx (.reg s l) dx2) z.1 z.2) ?_
    refine At.re3 [.ent s, .que s, .reg s l] A0 (fun c lc => .inr ?_) (fun c hc lc => ?_) (fun c hc lc => ?_) (fun c hc lc => ?_) (fun c hc c' hc' lc lc' z e => ?_) (fun b o nb e => ?_) (setA_ne (by intro z; cases z))
    · cases c <;> exact lc
    · simp only [List.mem_cons, List.not_mem_nil, or_false] at hc
      rcases hc with rfl | rfl | rfl
      · rw [setA_ne (by intro z; cases z), j1]
        rfl
      · rw [setA_ne (by intro z; cases z), j2]
        show _ = some (HO.lst ((if s = s then _ else S.que s).map V.int))
        rw [if_pos rfl]
      · rw [setA_same, j3 x nxe nxq, k2]
        show _ = some (regO C.R (setA dx (.reg s l) dx2 (.reg s l)) (if s = s ∧ l = l then (⟨n, t, wd, true⟩ : Reg) else S.reg s l).num (if s = s ∧ l = l then (⟨n, t, wd, true⟩ : Reg) else S.reg s l).src (if s = s ∧ l = l then (⟨n, t, wd, true⟩ : Reg) else S.reg s l).word (if s = s ∧ l = l then (⟨n, t, wd, true⟩ : Reg) else S.reg s l).armed)
        rw [if_pos ⟨rfl, rfl⟩, setA_same]
    · have n1 : c ≠ .ent s := fun z => hc (by rw [z]; simp)
      have n2 : c ≠ .que s := fun z => hc (by rw [z]; simp)
      have n3 : c ≠ .reg s l := fun z => hc (by rw [z]; simp)
      refine ⟨setA_ne n3, ?_⟩
      cases c with
      | ent s' =>
        have ns : s' ≠ s := fun z => n1 (by rw [z])
        have ef : (fun j => setA ad (.reg s l) x (.reg s' j)) = fun j => ad (.reg s' j) := funext fun j => setA_ne fun z => ns (by cases z; rfl)
        show HO.dK (entKV (S.ents s') fun j => setA ad (.reg s l) x (.reg s' j)) = _
        rw [ef]
        rfl
      | que s' =>
        have ns : s' ≠ s := fun z => n2 (by rw [z])
        show HO.lst ((if s' = s then _ else S.que s').map V.int) = _
        rw [if_neg ns]
        rfl
      | reg s' l' =>
        have nr : ¬ (s' = s ∧ l' = l) := fun z => n3 (by rw [z.1, z.2])
        show regO C.R (setA dx (.reg s l) dx2 (.reg s' l')) (if s' = s ∧ l' = l then (⟨n, t, wd, true⟩ : Reg) else S.reg s' l').num (if s' = s ∧ l' = l then (⟨n, t, wd, true⟩ : Reg) else S.reg s' l').src (if s' = s ∧ l' = l then (⟨n, t, wd, true⟩ : Reg) else S.reg s' l').word (if s' = s ∧ l' = l then (⟨n, t, wd, true⟩ : Reg) else S.reg s' l').armed = _
        rw [if_neg nr, setA_ne n3]
        rfl
      | _ => rfl
    · simp only [List.mem_cons, List.not_mem_nil, or_false] at hc
      rcases hc with rfl | rfl | rfl
      · exact .inl ⟨setA_ne (by intro z; cases z), hs⟩
      · exact .inl ⟨setA_ne (by intro z; cases z), hs⟩
      · exact .inr (by rw [setA_same]; exact fresh)
    · have of : ∀ c, c ∈ ([.ent s, .que s, .reg s l] : List Cell) → H (setA ad (.reg s l) x c) = none → c = .reg s l := fun c hc z => by
        simp only [List.mem_cons, List.not_mem_nil, or_false] at hc
        rcases hc with rfl | rfl | rfl
        · rw [setA_ne (by intro z; cases z), A0.at_ (.ent s) hs] at z
          cases z
        · rw [setA_ne (by intro z; cases z), A0.at_ (.que s) hs] at z
          cases z
        · rfl
      rw [of c hc z, of c' hc' (by rw [← e]; exact z)]
    · rw [j3 b (nb (.ent s) (by simp) hs) (nb (.que s) (by simp) hs)]
      exact s2 _ _ (s1 _ _ e)
end

/-! a dict comprehension with two clauses: {k: v for t0 in i0 if .. for t1 in i1 if ..} -/
/-- one turn of any clause: the next item, the store, the tests, what the clause does, and round again -/
def oneTurn (t i : Expr) (ifs : List Expr) (it : Value) (env : Env) (deed : Sem Fin → Sem Fin) (round : Sem Fin) : Sem Fin := do
  standAt i.pos
  match ← pyNext it with
  | none => pure (.done .next)
  | some v =>
    letOwnedTupleGo t it v
    assign t env v
    let mut ok := true
    for c in ifs do
      if ok then ok ← isTrue c env (eval c env)
    if ok then deed round else round
abbrev testsOf (ifs : List Expr) (env : Env) : Sem Bool := forIn ifs true fun c r => if r = true then do let ok ← isTrue c env (eval c env); pure (ForInStep.yield ok) else pure (ForInStep.yield r)
theorem oneTurn_wp {M : Model} {A : Around} {t i : Expr} {ifs : List Expr} {it : Value} {env : Env} {deed : Sem Fin → Sem Fin} {round : Sem Fin} {Q : Fin → Shared → Prop} {E : Value → Shared → Prop} {s : Shared}
    (h : wpAny M A (pyNext it) (fun r s1 => match r with
      | none => Q (.done .next) s1
      | some v => wpAny M A (letOwnedTupleGo t it v) (fun _ s2 => wpAny M A (assign t env v) (fun _ s3 => wpAny M A (testsOf ifs env) (fun ok s4 => if ok = true then wpAny M A (deed round) Q E s4 else wpAny M A round Q E s4) E s3) E s2) E s1) E s) :
    wpAny M A (oneTurn t i ifs it env deed round) Q E s := by
  unfold oneTurn
  refine wpAny_bind (wpAny_standAt (wpAny_bind (wpAny_mono h (fun r s1 h1 => ?_) fun _ _ z => z)))
  cases r with
  | none => exact wpAny_pure h1
  | some v =>
    refine wpAny_bind (wpAny_mono h1 (fun _ s2 h2 => wpAny_bind (wpAny_mono h2 (fun _ s3 h3 => wpAny_bind (wpAny_mono h3 (fun ok s4 h4 => ?_) fun _ _ z => z)) fun _ _ z => z)) fun _ _ z => z)
    cases ok with
    | false => exact h4
    | true => exact h4
section
variable (kx vx t0 i0 t1 i1 : Expr) (ifs0 ifs1 : List Expr) (scope : Scope) (pos : Pos)
abbrev dcx : Expr := .DictComp kx vx [⟨t0, i0, ifs0, 0⟩, ⟨t1, i1, ifs1, 0⟩] scope pos
/-- what the first clause does: the second one's whole walk -/
def deed0 (acc : Value) (env : Env) (round : Sem Fin) : Sem Fin := do
  let x ← eval i1 env
  standAt i1.pos
  let y ← foldedSetIterable i1 env x
  let _ ← runOwn (.compStart (dcx kx vx t0 i0 t1 i1 ifs0 ifs1 scope pos) 1 (← holding [y] (pyIter y)) acc env) env
  round
def deed1 (D : Addr) (env : Env) (round : Sem Fin) : Sem Fin := do
  (do
    let kv ← eval kx env
    let vv ← holding [kv] (eval vx env)
    standAt { kx.pos with endLine := vx.pos.endLine, endCol := vx.pos.endCol }
    holding [kv, vv] (dictSet D kv vv))
  round
theorem turn0 (it acc : Value) (env : Env) : compTurn (dcx kx vx t0 i0 t1 i1 ifs0 ifs1 scope pos) 0 it acc env = oneTurn t0 i0 ifs0 it env (deed0 kx vx t0 i0 t1 i1 ifs0 ifs1 scope pos acc env) (again (.compLoop (dcx kx vx t0 i0 t1 i1 ifs0 ifs1 scope pos) 0 it acc env)) := by rfl
theorem turn1 (it : Value) (D : Addr) (env : Env) : compTurn (dcx kx vx t0 i0 t1 i1 ifs0 ifs1 scope pos) 1 it (.ref D) env = oneTurn t1 i1 ifs1 it env (deed1 kx vx D env) (again (.compLoop (dcx kx vx t0 i0 t1 i1 ifs0 ifs1 scope pos) 1 it (.ref D) env)) := by rfl
end
/-- the walk of one clause: what holds before each turn, and what each turn does with the item that has come -/
def Rounds (J : It) (g : TG) (tt : TT) (σ : L2.St) (vs : List Nat) (dd : L2.St → Hp → (Hp → Prop) → Prop) (H0 : Hp) (fin : Hp → Prop) : Prop :=
  ∃ W : Nat → Nat → Hp → Prop, (∃ m, W 0 m H0) ∧ ∀ i m H, W i m H → (J.stop i H ∧ fin H) ∨ (J.go i H ∧ ∃ Nx : Hp → Prop, (∀ H', Nx H' → ∃ m', m' < m ∧ W (i + 1) m' H') ∧
    ∀ x H', J.yld i H x H' → g x (wipe σ vs) H' fun σ2 H2 => wipe σ2 vs = wipe σ vs ∧ tt σ2 H2 fun b H3 => if b = true then dd σ2 H3 Nx else Nx H3)
theorem rounds_loop {Y : Cx} {e t i : Expr} {d : Nat} {ifs : List Expr} {deed : Sem Fin → Sem Fin} {acc : Value} {R : Result → Shared → Prop} {s : Shared} {J : It} {g : TG} {tt : TT} {σ : L2.St} {vs : List Nat} {dd : L2.St → Hp → (Hp → Prop) → Prop} {H0 : Hp} {fin : Hp → Prop}
    {fp : List Addr} {tn : Nat → Heap → Prop} {it : Addr} {pins : List (Addr × Obj)} (hc : Y.calm = true) (hx : Y.xe = fun _ _ => False)
    (hq : (Code.compLoop e d (.ref it) acc Y.env).quiet = true)
    (hn : ∀ (post : Fin → Shared → Prop) (E : Value → Shared → Prop) (s1 : Shared), wpAny (model Y.prog Y.w) Y.A ((compTurn e d (.ref it) acc Y.env).onRaise (fun x => do noteFrame x Y.env; theTreesLotGoes x)) post E s1 → wpAny (model Y.prog Y.w) (Y.A.under (.compLoop e d (.ref it) acc Y.env)) ((model Y.prog Y.w).den (.compLoop e d (.ref it) acc Y.env)) post E s1)
    (he : compTurn e d (.ref it) acc Y.env = oneTurn t i ifs (.ref it) Y.env deed (again (.compLoop e d (.ref it) acc Y.env)))
    (pg : PG Y t g) (pt : PTs Y ifs tt) (T : Turn Y.prog Y.w Y.K t J fp it tn)
    (ff : ∀ σ H s, Inv Y pins σ H s → (∀ b ∈ fp, H b = none) → ∀ b ∈ fp, FpOk Y pins H b)
    (I : Inv Y pins (wipe σ vs) H0 s) (st : tn 0 s.heap) (n0 : ∀ b ∈ fp, H0 b = none) (h : Rounds J g tt σ vs dd H0 fin)
    (hd : ∀ pl σ2 H3 s4 Nx (post : Fin → Shared → Prop) (E : Value → Shared → Prop), Inv Y (pins ++ pl) σ2 H3 s4 → dd σ2 H3 Nx →
      (∀ σ9 H' s', Inv Y (pins ++ pl) σ9 H' s' → σ9.length = σ2.length → (∀ (j : Nat) v, (wipe σ2 vs)[j]? = some (some v) → σ9[j]? = some (some v)) → Nx H' → wpAny (model Y.prog Y.w) Y.A (again (.compLoop e d (.ref it) acc Y.env)) post E s') →
      wpAny (model Y.prog Y.w) Y.A (deed (again (.compLoop e d (.ref it) acc Y.env))) post E s4)
    (hf : ∀ s' H', Inv Y pins (wipe σ vs) H' s' → fin H' → R (.ok .next) s') :
    codeAny (model Y.prog Y.w) Y.A (.compLoop e d (.ref it) acc Y.env) R s := by
  obtain ⟨W, ⟨m0, w0⟩, turn⟩ := h
  refine codeAny_loop hq (fun n s' => ∃ i H', Inv Y pins (wipe σ vs) H' s' ∧ tn i s'.heap ∧ (∀ b ∈ fp, H' b = none) ∧ W i n H') (fun n s1 ⟨k, H1, I1, st1, n1, w1⟩ => ?_) m0 ⟨0, H0, I, st, n0, w0⟩
  refine hn _ _ s1 (wpAny_noted ?_)
  rw [he]
  refine oneTurn_wp ?_
  rcases turn k n H1 w1 with ⟨stop, q⟩ | ⟨go, Nx, hN, step⟩
  · refine thnF (T.done Y rfl rfl rfl hc k pins s1 _ H1 (fun _ _ => False) I1 (ff _ _ _ I1 n1) st1 stop) fun r s2 ⟨hr, I2⟩ => ?_
    subst hr
    exact hf s2 H1 I2 q
  · refine thnF (T.item Y rfl rfl rfl hc k pins s1 _ H1 (fun _ _ => False) I1 (ff _ _ _ I1 n1) st1 go) fun r s2 ⟨u, hr, h2⟩ => ?_
    subst hr
    refine thnF h2 fun _ s3 ⟨x, H3, I3, rx, y3, st3, n3⟩ => ?_
    have ho := T.obj _ _ st3
    have a1 := pg.run _ s3 _ H3 x u _ (I3.pinned (ff _ _ _ I3 n3) ho) rx (step x H3 y3)
    rw [hx] at a1
    refine thnF a1 fun _ s4 ⟨σ4, H4, I4, e4, q4⟩ => ?_
    have a2 := pt.run _ s4 σ4 H4 _ I4 q4
    rw [hx] at a2
    refine thnF a2 fun b s5 ⟨H5, I5, q5⟩ => ?_
    -- round again
    have round : ∀ σ9 H' s', Inv Y (pins ++ pinsAt fp s3.heap) σ9 H' s' → σ9.length = σ4.length → (∀ (j : Nat) v, (wipe σ4 vs)[j]? = some (some v) → σ9[j]? = some (some v)) → Nx H' →
        ∃ m, m < n ∧ ∃ i H', Inv Y pins (wipe σ vs) H' s' ∧ tn i s'.heap ∧ (∀ b ∈ fp, H' b = none) ∧ W i m H' := fun σ9 H' s' I' hl hk nx => by
      obtain ⟨m, hm, w'⟩ := hN H' nx
      have stay : ∀ b ∈ fp, ∀ o, s3.heap.get? b = some o → s'.heap.get? b = some o ∧ H' b = none := fun b hb o eo =>
        let z := I'.pin (b, o) (List.mem_append_right _ (List.mem_append_right _ (mem_pinsAt hb eo)))
        ⟨z.1, z.2.1⟩
      refine ⟨m, hm, k + 1, H', I'.unpinned.weak (by rw [hl, ← wipe_length σ4 vs, e4]) (fun j v e => hk j v (by rw [e4]; exact e)), T.keep _ _ _ st3 fun b hb o eo => (stay b hb o eo).1, fun b hb => ?_, w'⟩
      obtain ⟨o, eo, _⟩ := ho b hb
      exact (stay b hb o eo).2
    cases b with
    | false => exact wpAny_pure ⟨rfl, round σ4 H5 s5 I5 rfl (fun j v e => (wipe_some e).1) q5⟩
    | true => exact hd _ σ4 H5 s5 Nx _ _ I5 q5 fun σ9 H' s' I' hl hk nx => wpAny_pure ⟨rfl, round σ9 H' s' I' hl hk nx⟩
section
variable {prog : Program} {w : World} {A : Around} {R : Result → Shared → Prop} {s : Shared} {kx vx t0 i0 t1 i1 : Expr} {ifs0 ifs1 : List Expr} {scope : Scope} {pos : Pos} {it acc : Value} {env : Env}
/-- the second clause's start: iter() of what is an iterator already, asked once or twice -/
theorem start1 (h0 : codeAny (model prog w) A (.compLoop (dcx kx vx t0 i0 t1 i1 ifs0 ifs1 scope pos) 1 it acc env) R s)
    (h : wpAny (model prog w) A (pyIter it) (fun it' s' => codeAny (model prog w) A (.compLoop (dcx kx vx t0 i0 t1 i1 ifs0 ifs1 scope pos) 1 it' acc env) R s') (notedBy (model prog w) A env fun x s' => R (.error x) s') s) :
    codeAny (model prog w) A (.compStart (dcx kx vx t0 i0 t1 i1 ifs0 ifs1 scope pos) 1 it acc env) R s := by
  refine codeAny_of_tree ?_
  show wpAny _ A ((compStart (dcx kx vx t0 i0 t1 i1 ifs0 ifs1 scope pos) 1 it acc env).onRaise (fun x => do noteFrame x env; standAt theWindowsPlace)) _ _ s
  refine wpAny_notedAt ?_
  unfold compStart
  show wpAny _ A (ask >>= _) _ _ s
  refine wpAny_bind (wpAny_askSetting (wpAny_ite ?_))
  have twice : wpAny (model prog w) A (standAt i1.pos) (fun _ s1 => wpAny (model prog w) A (pyIter it) (fun it' s' => codeAny (model prog w) A (.compLoop (dcx kx vx t0 i0 t1 i1 ifs0 ifs1 scope pos) 1 it' acc env) R s') (notedBy (model prog w) A env fun x s' => R (.error x) s') s1) (notedBy (model prog w) A env fun x s' => R (.error x) s') s := wpAny_standAt h
  split
  · first
      | exact wpAny_pure ⟨rfl, h0⟩
      | exact wpAny_bind (wpAny_pure (wpAny_pure ⟨rfl, h0⟩))
  · refine wpAny_bind (wpAny_rule ?_)
    exact wpAny_bind (wpAny_mono twice (fun _ s1 h1 => wpAny_bind (wpAny_mono h1 (fun it' s' h' => wpAny_pure ⟨rfl, h'⟩) fun _ _ z => z)) fun _ _ z => z)
/-- what the first clause does, by its pieces -/
theorem deed0_wp {round : Sem Fin} {Q : Fin → Shared → Prop} {E : Value → Shared → Prop} (hs : ∀ x, foldedSetIterable i1 env x = pure x)
    (h : wpAny (model prog w) A (eval i1 env) (fun x s1 => wpAny (model prog w) A (pyIter x) (fun it1 s2 => codeAny (model prog w) A (.compStart (dcx kx vx t0 i0 t1 i1 ifs0 ifs1 scope pos) 1 it1 acc env) (fun r s' => match r with
        | .ok _ => wpAny (model prog w) A round Q E s'
        | .error _ => False) s2) E s1) E s) : wpAny (model prog w) A (deed0 kx vx t0 i0 t1 i1 ifs0 ifs1 scope pos acc env round) Q E s := by
  unfold deed0
  refine wpAny_bind (wpAny_mono h (fun x s1 h1 => wpAny_bind (wpAny_standAt (wpAny_bind (wpAny_of_eq (hs x) (wpAny_bind (wpAny_holding (wpAny_mono h1 (fun it1 s2 h2 => ?_) fun _ _ z => z))))))) fun _ _ z => z)
  refine wpAny_bind (wpAny_runOwn ?_)
  rw [Around.mark_none]
  refine codeAny_mono h2 fun r s' hr => ?_
  cases r with
  | ok f => exact hr
  | error e => exact hr.elim
theorem deed1_wp {round : Sem Fin} {Q : Fin → Shared → Prop} {E : Value → Shared → Prop} {D : Addr}
    (h : wpAny (model prog w) A (eval kx env) (fun kv s1 => wpAny (model prog w) A (eval vx env) (fun vv s2 => wpAny (model prog w) A (dictSet D kv vv) (fun _ s3 => wpAny (model prog w) A round Q E s3) E s2) E s1) E s) :
    wpAny (model prog w) A (deed1 kx vx D env round) Q E s := by
  unfold deed1
  exact wpAny_bind (wpAny_bind (wpAny_mono h (fun kv s1 h1 => wpAny_bind (wpAny_holding (wpAny_mono h1 (fun vv s2 h2 => wpAny_bind (wpAny_standAt (wpAny_holding h2))) fun _ _ z => z))) fun _ _ z => z))
end
section
variable {X : Cx}
/-- true of the block's context, wherever the block stands -/
abbrev Blk (X : Cx) (scope : Scope) (F : Cx → Prop) : Prop := ∀ (s : Shared) (H : Hp) (C : Addr) (cl : List (Str × Addr)) (fp : List Addr), F (X.blk s H scope (compEnvC scope cl C X.env) fp)
def tDc2 (wi : TI) (g : TG) (tt : TT) (wi1 : TI) (g1 : TG) (tt1 : TT) (tk tv : TE) (vs vs1 : List Nat) : TE := fun σ H Q => wi σ H fun J H1 => ∀ D, H1 D = none →
  Rounds J g tt σ vs (fun σ2 H3 Nx => wi1 σ2 H3 fun J1 H4 => Rounds J1 g1 tt1 σ2 vs1 (fun σ3 H6 Nx1 => tk σ3 H6 fun y H7 => tv σ3 H7 fun z H8 => ∃ kvs k, y = kV k ∧ H8 D = some (.dK kvs) ∧ kvs.length < sizeLine ∧ Nx1 (upd H8 D (.dK (putK kvs k z)))) H4 Nx) (upd H1 D (.dK [])) (Q (.ref D))
theorem pe_dc2 {kx vx t0 i0 t1 i1 : Expr} {ifs0 ifs1 : List Expr} {scope : Scope} {own : List (Str × Nat)} {vs1 : List Nat} {pos : Pos} {wi wi1 : TI} {g g1 : TG} {tt tt1 : TT} {tk tv : TE} (hc : X.calm = true) (hN : X.N.Nodup) (hi : PI X t0 i0 wi) (ok : BlkOk X.N X.env.scope scope own) (hv : ∀ i ∈ vs1, i ∈ own.map (·.2))
    (hg : Blk X scope fun Y => PG Y t0 g) (ht : Blk X scope fun Y => PTs Y ifs0 tt) (hi1 : Blk X scope fun Y => PI Y t1 i1 wi1) (hg1 : Blk X scope fun Y => PG Y t1 g1) (ht1 : Blk X scope fun Y => PTs Y ifs1 tt1)
    (hk : Blk X scope fun Y => PE Y kx tk) (he : Blk X scope fun Y => PE Y vx tv) (hs : ∀ x, foldedSetIterable i0 X.env x = pure x := by intro _; rfl) (hs1 : ∀ env x, foldedSetIterable i1 env x = pure x := by intro _ _; rfl) :
    PE X (dcx kx vx t0 i0 t1 i1 ifs0 ifs1 scope pos) (tDc2 wi g tt wi1 g1 tt1 tk tv (own.map (·.2)) vs1) := by
  refine ⟨fun pins s σ H Q I h => ?_⟩
  rw [arm_eval_DictComp]
  have hfree : ∀ y ∈ scope.names, y.2 = .free → ∃ c, X.env.cells.lookup y.1 = some c := fun y hy e => I.ok.has _ (ok.free y hy e)
  refine wpAny_comprehension_free (use := none) rfl hs (closure_ok hfree) ok.kind (fun y hy e => by rw [ok.uniq y hy, e]) (thn (hi.run pins s σ H _ I h) fun xv s1 hx => thn hx fun itv s2 ⟨it, fp, tn, J, H2, e, I2, T, st2, f2, q⟩ => ?_)
  subst e
  refine wpAny_newObj_type (newEnv_comp ?_)
  generalize hD : s2.heap.objs.size = D
  have q := q D (I2.hok.fresh (Nat.le_of_eq hD))
  generalize hs3 : ({ s2 with heap := s2.heap.push { cls := .type "dict", data := .dict #[] } } : Shared) = s3
  have h3 : s3.heap = s2.heap.push { cls := .type "dict", data := .dict #[] } := by rw [← hs3]
  have I3 : Inv X pins σ (upd H2 D (.dK [])) s3 := by
    rw [← hs3]
    refine I2.laid (t' := s2.toks) (fun b o e => Heap.get?_push_of_some _ e) (Nat.le_of_eq hD) ?_
    rw [← hD]
    exact dk_empty s2.heap I2.big
  have f3 : ∀ b ∈ fp, FpOk X pins (upd H2 D (.dK [])) b ∧ b < s3.heap.objs.size := fun b hb => by
    obtain ⟨o, eo, _⟩ := T.obj _ _ st2 b hb
    have lt : b < s2.heap.objs.size := Heap.lt_size eo
    refine ⟨⟨?_, (f2 b hb).2⟩, by rw [h3, Heap.size_push]; exact Nat.lt_succ_of_lt lt⟩
    rw [upd_ne (by rw [← hD]; exact Nat.ne_of_lt lt)]
    exact (f2 b hb).1
  have st3 : tn 0 s3.heap := T.keep _ _ _ st2 fun b _ o eo => by rw [h3]; exact Heap.get?_push_of_some _ eo
  have I4 := block_start I3 ok hN f3
  have pg := hg s3 (upd H2 D (.dK [])) s3.heap.objs.size (cellsFrom (s3.heap.objs.size + 1) scope.names (cloFrom X.env.cells scope.names [])) fp
  have pt := ht s3 (upd H2 D (.dK [])) s3.heap.objs.size (cellsFrom (s3.heap.objs.size + 1) scope.names (cloFrom X.env.cells scope.names [])) fp
  have pi := hi1 s3 (upd H2 D (.dK [])) s3.heap.objs.size (cellsFrom (s3.heap.objs.size + 1) scope.names (cloFrom X.env.cells scope.names [])) fp
  have pg1 := hg1 s3 (upd H2 D (.dK [])) s3.heap.objs.size (cellsFrom (s3.heap.objs.size + 1) scope.names (cloFrom X.env.cells scope.names [])) fp
  have pt1 := ht1 s3 (upd H2 D (.dK [])) s3.heap.objs.size (cellsFrom (s3.heap.objs.size + 1) scope.names (cloFrom X.env.cells scope.names [])) fp
  have pk := hk s3 (upd H2 D (.dK [])) s3.heap.objs.size (cellsFrom (s3.heap.objs.size + 1) scope.names (cloFrom X.env.cells scope.names [])) fp
  have pe := he s3 (upd H2 D (.dK [])) s3.heap.objs.size (cellsFrom (s3.heap.objs.size + 1) scope.names (cloFrom X.env.cells scope.names [])) fp
  show codeAny _ _ (.compStart (dcx kx vx t0 i0 t1 i1 ifs0 ifs1 scope pos) 0 (.ref it) (.ref D) (compEnvC scope (cellsFrom (s3.heap.objs.size + 1) scope.names (cloFrom X.env.cells scope.names [])) s3.heap.objs.size X.env)) (compPost (model X.prog X.w) X.A X.xe none (EP X pins σ Q) (.ref D) s3.heap.objs.size) { s3 with heap := pushCells (s3.heap.push { cls := .type "dict", data := .dict #[] }) scope.names }
  generalize hce : compEnvC scope (cellsFrom (s3.heap.objs.size + 1) scope.names (cloFrom X.env.cells scope.names [])) s3.heap.objs.size X.env = ce at I4 pg pt pi pg1 pt1 pk pe ⊢
  have cL : ce.locals = s3.heap.objs.size := by rw [← hce]; rfl
  generalize hs4 : ({ s3 with heap := pushCells (s3.heap.push { cls := .type "dict", data := .dict #[] }) scope.names } : Shared) = s4 at I4 ⊢
  have st4 : tn 0 s4.heap := T.keep _ _ _ st3 fun b _ o eo => by rw [← hs4]; exact pushCells_keeps _ _ _ _ (Heap.get?_push_of_some _ eo)
  have loop : codeAny (model X.prog X.w) X.A (.compLoop (dcx kx vx t0 i0 t1 i1 ifs0 ifs1 scope pos) 0 (.ref it) (.ref D) ce) (compPost (model X.prog X.w) X.A X.xe none (EP X pins σ Q) (.ref D) s3.heap.objs.size) s4 := by
    refine rounds_loop (Y := X.blk s3 (upd H2 D (.dK [])) scope ce fp) (deed := deed0 kx vx t0 i0 t1 i1 ifs0 ifs1 scope pos (.ref D) ce) hc rfl rfl (fun _ _ _ h => h) (turn0 kx vx t0 i0 t1 i1 ifs0 ifs1 scope pos (.ref it) (.ref D) ce) pg pt T (fun σ' H' s' I' hn b hb => ⟨hn b hb, (I'.ok.exf b hb).1, I'.ok.exfs b hb, .inl hb, fun x c eo => (I'.ok.exf b hb).2 x c eo, fun p hp => absurd (show p ∈ ([] : List (Addr × Obj)) ++ [] from hp) (by simp)⟩)
      I4 st4 (fun b hb => (f3 b hb).1.1) q (fun pl σ2 H3 s5 Nx post E I5 dd round => ?_) (fun s' H' I' q' => ?_)
    · refine deed0_wp (hs1 ce) ?_
      have a := pi.run _ s5 σ2 H3 _ I5 dd
      refine thnF a fun x s6 hx6 => thnF hx6 fun itv s7 ⟨it1, fp1, tn1, J1, H4, e1, I7, T1, st7, f7, q1⟩ => ?_
      subst e1
      have loop1 : codeAny (model X.prog X.w) X.A (.compLoop (dcx kx vx t0 i0 t1 i1 ifs0 ifs1 scope pos) 1 (.ref it1) (.ref D) ce) (fun r s' => match r with
          | .ok _ => wpAny (model X.prog X.w) X.A (again (.compLoop (dcx kx vx t0 i0 t1 i1 ifs0 ifs1 scope pos) 0 (.ref it) (.ref D) ce)) post E s'
          | .error _ => False) s7 := by
        refine rounds_loop (Y := X.blk s3 (upd H2 D (.dK [])) scope ce fp) (deed := deed1 kx vx D ce) hc rfl rfl (fun _ _ _ h => h) (turn1 kx vx t0 i0 t1 i1 ifs0 ifs1 scope pos (.ref it1) D ce) pg1 pt1 T1 (fun σ' H' s' I' hn b hb => ⟨hn b hb, (f7 b hb).2⟩)
          (I7.weak (wipe_length σ2 vs1) fun j v eo => (wipe_some eo).1) st7 (fun b hb => (f7 b hb).1) q1 (fun pl1 σ3 H6 s8 Nx1 post1 E1 I8 dd1 round1 => ?_) (fun s' H' I' nx => ?_)
        · refine deed1_wp ?_
          refine thnF (pk.run _ s8 σ3 H6 _ I8 dd1) fun kv s9 ⟨yk, H9, I9, rk, q9⟩ => ?_
          refine thnF (pe.run _ s9 σ3 H9 _ I9 q9) fun vv s10 ⟨yv, H10, I10, rv, kvs, k, ek, hD10, hz, nx⟩ => ?_
          subst ek
          exact d_dictSet (X := X.blk s3 (upd H2 D (.dK [])) scope ce fp) I10 hD10 hz rk rv fun s11 I11 => round1 σ3 _ s11 I11 rfl (fun j v eo => (wipe_some eo).1) nx
        · refine round _ H' s' I' (wipe_length σ2 vs1) (fun j v eo => ?_) nx
          obtain ⟨e3, e4⟩ := wipe_some eo
          rw [wipe_out fun z => e4 (hv j z)]
          exact e3
      exact start1 loop1 (T1.self X.A 0 _ _ _ st7 loop1)
    · have I7 : Inv X pins σ H' s' := I3.call' (ch := fp) I'.os I'.base I'.hok I'.bare fun b hb => ⟨(f3 b hb).1.2.2.2.1, (f3 b hb).1.2.1, (f3 b hb).1.2.2.2.2.1, (f3 b hb).1.2.2.2.2.2⟩
      have nC : H' s3.heap.objs.size = none := by
        have z : H' ce.locals = none := I'.free
        rw [cL] at z
        exact z
      obtain ⟨m, hn, _⟩ := I'.loc
      have hn : s'.heap.Ns ce.locals m := hn
      rw [cL] at hn
      obtain ⟨a0, a1, a2, a3, a4, a5⟩ := I3.fpOk (H' := H') (Nat.le_refl _) nC
      exact ⟨m, hn, fun h'' sb => ⟨.ref D, H', I7.turned (t' := s'.toks) (fun b o hb eo => (sb.2 b hb).trans eo) a0 a1 a3 a4 a5, rfl, q'⟩⟩
  exact codeAny_compStart_dict loop (T.self X.A 0 _ _ _ st4 loop)
end
/-- any walk, by what holds before its turn i -/
theorem rounds_it {J : It} {n : Nat} {G : Hp → Prop} {Y : Nat → Hp → V → Hp → Prop} {g : TG} {tt : TT} {σ : L2.St} {vs : List Nat} {dd : L2.St → Hp → (Hp → Prop) → Prop} {H0 : Hp} {fin : Hp → Prop} (w : Walk J n G Y) (Pv : Nat → Hp → Prop) (h0 : Pv 0 H0) (hG : ∀ i H, i ≤ n → Pv i H → G H)
    (hs : ∀ i x H H', i < n → Pv i H → Y i H x H' → g x (wipe σ vs) H' fun σ2 H2 => wipe σ2 vs = wipe σ vs ∧ tt σ2 H2 fun b H3 => if b = true then dd σ2 H3 (Pv (i + 1)) else Pv (i + 1) H3) (hd : ∀ H, Pv n H → fin H) : Rounds J g tt σ vs dd H0 fin := by
  refine ⟨fun i m H => m + i = n ∧ Pv i H, ⟨n, rfl, h0⟩, fun i m H ⟨e, p⟩ => ?_⟩
  have hi : i ≤ n := by omega
  by_cases hlt : i < n
  · exact .inr ⟨w.goes i H hlt (hG i H hi p), Pv (i + 1), fun H' p' => ⟨m - 1, by omega, by omega, p'⟩, fun x H' y => hs i x H H' hlt p (w.yields i H x H' hlt (hG i H hi p) y)⟩
  · obtain rfl : i = n := by omega
    exact .inl ⟨w.stops H (hG i H hi p), hd H p⟩
/-- the same for the one-clause comprehensions and the list of two clauses -/
theorem tDc_of {wi : TI} {g : TG} {tt : TT} {tk tv : TE} {vs : List Nat} {σ : L2.St} {H : Hp} {Q : VK} (h : wi σ H fun J H1 => ∀ D, H1 D = none → Rounds J g tt σ vs (fun σ2 H3 Nx => tk σ2 H3 fun y H4 => tv σ2 H4 fun z H5 => ∃ kvs k, y = kV k ∧ H5 D = some (.dK kvs) ∧ kvs.length < sizeLine ∧ Nx (upd H5 D (.dK (putK kvs k z)))) (upd H1 D (.dK [])) (Q (.ref D))) : tDc wi g tt tk tv vs σ H Q := h
theorem tLc2_of {wi wi1 : TI} {g g1 : TG} {tt tt1 : TT} {te : TE} {vs vs1 : List Nat} {σ : L2.St} {H : Hp} {Q : VK} (h : wi σ H fun J H1 => ∀ D, H1 D = none → Rounds J g tt σ vs (fun σ2 H3 Nx => wi1 σ2 H3 fun J1 H4 => Rounds J1 g1 tt1 σ2 vs1 (fun σ3 H6 Nx1 => te σ3 H6 fun y H7 => ∃ acc, H7 D = some (.lst acc) ∧ acc.length < sizeLine ∧ Nx1 (upd H7 D (.lst (acc ++ [y])))) H4 Nx) (upd H1 D (.lst [])) (Q (.ref D))) : tLc2 wi g tt wi1 g1 tt1 te vs vs1 σ H Q := h

abbrev sThings : Stmt := meth 30 46
abbrev sNumbersOf : Stmt := meth 30 47
abbrev sNameOf : Stmt := meth 30 48
abbrev sRegistrations : Stmt := meth 30 23
/-- the things of the tables, in the order in which they are met -/
def rowThings (acc : List Int) : List (Option Int) → List Int
  | [] => acc
  | none :: l => rowThings acc l
  | some t :: l => rowThings (qAdd t acc) l
def thingsOf (S : Sys) : List Int → List Int → List Int
  | acc, [] => acc
  | acc, p :: ps => thingsOf S (rowThings acc (S.tab p)) ps
theorem rowThings_app (acc : List Int) (l : List (Option Int)) (x : Option Int) : rowThings acc (l ++ [x]) = match x with
    | none => rowThings acc l
    | some t => qAdd t (rowThings acc l) := by
  induction l generalizing acc with
  | nil => cases x <;> rfl
  | cons y l ih => cases y <;> exact ih _
theorem thingsOf_app (S : Sys) (acc ps : List Int) (p : Int) : thingsOf S acc (ps ++ [p]) = rowThings (thingsOf S acc ps) (S.tab p) := by
  induction ps generalizing acc with
  | nil => rfl
  | cons y l ih => exact ih _
theorem qAdd_len (t : Int) (l : List Int) : (qAdd t l).length ≤ l.length + 1 := by
  unfold qAdd
  split
  · omega
  · rw [List.length_append]
    exact Nat.le_refl _
theorem rowThings_len (acc : List Int) (l : List (Option Int)) : (rowThings acc l).length ≤ acc.length + l.length := by
  induction l generalizing acc with
  | nil => exact Nat.le_refl _
  | cons y l ih =>
    rw [List.length_cons]
    cases y with
    | none =>
      have h : (rowThings acc (none :: l)).length ≤ acc.length + l.length := ih acc
      omega
    | some t =>
      have h : (rowThings acc (some t :: l)).length ≤ (qAdd t acc).length + l.length := ih _
      have := qAdd_len t acc
      omega
def trueKV (ls : List Int) : List (Key × V) := ls.map fun t => (Sum.inl t, .bl true)
theorem true_put (ls : List Int) (t : Int) : putK (trueKV ls) (Sum.inl t) (.bl true) = trueKV (qAdd t ls) := by
  have any : ∀ l : List Int, (valV (trueKV l) (Sum.inl t)).isSome = decide (t ∈ l) := fun l => by
    induction l with
    | nil => rfl
    | cons x l ih =>
      unfold trueKV at ih ⊢
      rw [List.map_cons]
      by_cases h : x = t
      · subst h
        rw [valV_pos rfl, decide_eq_true List.mem_cons_self]
        rfl
      · rw [valV_neg (fun z => h (Sum.inl.inj z)), ih]
        exact decide_eq_decide.mpr ⟨fun z => List.mem_cons_of_mem _ z, fun z => (List.mem_cons.mp z).elim (fun e => absurd e.symm h) id⟩
  unfold putK qAdd
  rw [valV_any, any]
  by_cases h : t ∈ ls
  · rw [decide_eq_true h, if_pos h]
    show List.map _ (trueKV ls) = _
    unfold trueKV
    rw [List.map_map]
    refine List.map_congr_left fun x _ => ?_
    show (if (Sum.inl x : Key) = Sum.inl t then _ else _) = _
    split <;> rename_i e
    · rw [show x = t from Sum.inl.inj e]
    · rfl
  · rw [decide_eq_false h, if_neg h]
    show trueKV ls ++ _ = _
    unfold trueKV
    rw [List.map_append]
    rfl
section
variable {P : Program} {w : World} {K : PySem.W.Frag} {mg : Str → Option Value} {base : Heap} {C : Cs}
structure RegTxt (mg : Str → Option Value) : Prop where
  sorted : mg "sorted" = none
  list : mg "list" = none
  enum : mg "enumerate" = none
/-- what a system's tables ask of the heap -/
structure TabAt (C : Cs) (H : Hp) (S : Sys) (ad dx : Cell → Addr) : Prop where
  box : H (ad .box) = some (co C S ad dx .box)
  tabD : H (ad .tabD) = some (co C S ad dx .tabD)
  tab : ∀ p ∈ S.procs, H (ad (.tab p)) = some (co C S ad dx (.tab p))
theorem At.tabAt {H : Hp} {S : Sys} {ad dx : Cell → Addr} (A : At C H S ad dx) : TabAt C H S ad dx := ⟨A.at_ _ trivial, A.at_ _ trivial, fun p hp => A.at_ (.tab p) hp⟩
theorem TabAt.same {H H' : Hp} {S : Sys} {ad dx : Cell → Addr} (A : TabAt C H S ad dx) (s : Same H H') : TabAt C H' S ad dx := ⟨s _ _ A.box, s _ _ A.tabD, fun p hp => s _ _ (A.tab p hp)⟩
def OnTab (C : Cs) (vs : List V) (H : Hp) (rest : List V) (k : Sys → (Cell → Addr) → (Cell → Addr) → Prop) : Prop := ∃ (S : Sys) (ad dx : Cell → Addr), vs = .ref (ad .box) :: rest ∧ TabAt C H S ad dx ∧ k S ad dx
def spThings (C : Cs) : Sp := fun vs H Q _ => OnTab C vs H [] fun S ad _ => S.procs.length ≤ 6 ∧ (∀ p ∈ S.procs, (S.tab p).length ≤ 8) ∧
  ∀ (ys : List Int) (H' : Hp) (r : Addr), ys.Perm S.procs → ys.Pairwise (· ≤ ·) → Same H H' → H r = none → H' r = some (.lst ((thingsOf S [] ys).map V.int)) → Q (.ref r) H'
abbrev nThings : List Str := ["self", "tables", "process", "table", "thing"]
theorem scThings : FnScope nThings ["self"] (defScope sThings) := ⟨rfl, rfl, rfl, by decide +kernel, rfl, by decide +kernel, by decide +kernel⟩
theorem okThings {f : Addr} {fd : FuncData} (F : Fun K "things" "System.things" sThings f fd) (X : RegTxt mg) (T : ClsF K C.S sysF) : FnOk P w K mg base CX0 1 f fd ["self"] (spThings C) := by
  refine F.ok scThings (fun vs H Q E h => ?_) (fun cdv A outer s H vs Q E hr h => ?_)
  · obtain ⟨_, _, _, rfl, _⟩ := h
    rfl
  · obtain ⟨S, ad, dx, rfl, A0, hp, ht, k⟩ := h
    have hu := hu_of hr
    refine ⟨_, pss_cut (ps_setLc (i := 1) (own := [("process", 2)]) (g := gName 2) (tt := tYes) (te := tDGet (tFld K (tVar 0) "tables") (tVar 2)) rfl scThings.nd rfl rfl rfl (pi_list (pe_callB (call_sortedDI rfl) (by rfl) X.sorted (by decide +kernel) (pa_cons (pe_fld (pv 0) rfl) pa_nil))) (blkOk_by (N := nThings) (sc := defScope sThings) (by decide +kernel))
        (fun _ _ _ _ _ => pg_name (i := 2) scThings.nd rfl (Or.inl rfl)) (fun _ _ _ _ _ => pts_nil) (fun _ _ _ _ _ => pe_dget hu (pe_fld (pv 0) rfl) (pv 2) (fun _ _ => rfl)))
      (pss_one (ps_ret (pe_callTy (call_listD rfl) (by rfl) X.list (by decide +kernel) (pa_cons (pe_dc2 (own := [("table", 3), ("thing", 4)]) (vs1 := [4]) (g := gName 3) (tt := tYes) (wi1 := iList K (tVar 3)) (g1 := gName 4) (tt1 := tTest (tOp rNotN (tVar 4) (tC .non))) (tk := tVar 4) (tv := tC (.bl true)) rfl scThings.nd (pi_list (pv 1)) (blkOk_by (N := nThings) (sc := defScope sThings) (by decide +kernel)) (by decide)
        (fun _ _ _ _ _ => pg_name (i := 3) scThings.nd rfl (Or.inl rfl)) (fun _ _ _ _ _ => pts_nil) (fun _ _ _ _ _ => pi_list (pv 3)) (fun _ _ _ _ _ => pg_name (i := 4) scThings.nd rfl (Or.inl rfl)) (fun _ _ _ _ _ => pts_one (pt_cmpR oNotN (pv 4) pe_non (nomark _))) (fun _ _ _ _ _ => pv 4) (fun _ _ _ _ _ => pe_bl)) pa_nil)))), ?_⟩
    have hb := A0.box
    refine ⟨fun σ' H1 => ∃ (ys : List Int) (a : Addr), ys.Perm S.procs ∧ ys.Pairwise (· ≤ ·) ∧ σ' = [some (.ref (ad .box)), some (.ref a), none, none, none] ∧ Same H H1 ∧ H1 a = some (.lst (ys.map fun p => .ref (ad (.tab p)))), ?_, ?_⟩
    · walk_at "wn"
      unfold tLc iList
      walk_at "wn"
      refine ⟨_, rfl, ad .box, C.S, dx .box, _, _, rfl, hb, T.cl, T.no _ (by decide), rfl, ?_⟩
      walk_at "wn"
      refine ⟨ad .tabD, _, S.procs, rfl, .inl (A0.tabD), by unfold entKV; rw [List.map_map]; rfl, by omega, fun ys q pm pw hq => ?_⟩
      have s1 := Same.new' (o := .lst (ys.map V.int)) hq
      refine ⟨q, rfl, ⟨_, SqL.of upd_same⟩, fun D hD => ?_⟩
      refine lc_list (K := K) (a := q) (xs := ys.map V.int) (fun i H' => Same (upd H q (.lst (ys.map V.int))) H' ∧ H' D = some (.lst ((ys.take i).map fun p => .ref (ad (.tab p))))) ⟨Same.new' hD, upd_same⟩ (fun i H' _ h => SqL.of (h.1 _ _ upd_same)) ?_ ?_
      · rintro i v H' hv ⟨sm, hd⟩
        rw [List.getElem?_map] at hv
        cases ey : ys[i]? with
        | none => rw [ey] at hv; cases hv
        | some p =>
        rw [ey] at hv
        cases hv
        have hin : p ∈ S.procs := pm.mem_iff.mp (List.mem_of_getElem? ey)
        have hv : valV (entKV S.procs fun p => ad (.tab p)) (Sum.inl p) = some (.ref (ad (.tab p))) := by rw [ent_val, if_pos hin]
        have s2 := s1.trans sm
        walk_at "wn"
        refine ⟨rfl, ?_⟩
        have lp := pm.length_eq
        refine ⟨_, rfl, ad .box, C.S, dx .box, _, _, rfl, s2 _ _ hb, T.cl, T.no _ (by decide), rfl, _, rfl, ad .tabD, _, rfl, hv ▸ DGet.k (k := Sum.inl p) (s2 _ _ (A0.tabD)), _, hd, ?_, fun b o e => ?_, ?_⟩
        · rw [List.length_map, List.length_take, sizeLine_eq]
          omega
        · rw [upd_ne (ne_of_none e hD)]
          exact sm _ _ e
        · rw [upd_same, List.take_add_one, ey, Option.toList_some, List.map_append]
          rfl
      · rintro H' ⟨sm, hd⟩
        rw [List.length_map, List.take_length] at hd
        walk_at "wn"
        exact ⟨ys, D, pm, pw, rfl, s1.trans sm, hd⟩
    · rintro σ' H1 ⟨ys, a, pm, pw, rfl, sm, ha⟩
      walk_at "wn"
      show iList _ (tVar 1) _ _ _
      refine ⟨_, rfl, a, rfl, ⟨_, SqL.of ha⟩, fun D hD => ?_⟩
      have lp := pm.length_eq
      have tl : ∀ i, (thingsOf S [] (ys.take i)).length ≤ 8 * (ys.take i).length := fun i => by
        induction i with
        | zero => simp [thingsOf]
        | succ i ih =>
          rw [List.take_add_one]
          cases ey : ys[i]? with
          | none => rw [Option.toList_none, List.append_nil]; exact ih
          | some p =>
            rw [Option.toList_some, thingsOf_app, List.length_append]
            have a1 := rowThings_len (thingsOf S [] (ys.take i)) (S.tab p)
            have a2 := ht p (pm.mem_iff.mp (List.mem_of_getElem? ey))
            show _ ≤ 8 * (_ + 1)
            omega
      refine rounds_it (walk_list (K := K) (xs := ys.map fun p => .ref (ad (.tab p)))) (fun i H' => Same H1 H' ∧ H' D = some (.dK (trueKV (thingsOf S [] (ys.take i))))) ⟨Same.new' hD, upd_same⟩ (fun i H' _ h => SqL.of (h.1 _ _ ha)) ?_ ?_
      · rintro i x H2 H3 hi ⟨sm2, hd⟩ ⟨rfl, ex⟩
        rw [List.getElem?_map] at ex
        cases ey : ys[i]? with
        | none => rw [ey] at ex; cases ex
        | some p =>
        rw [ey] at ex
        cases ex
        have hin : p ∈ S.procs := pm.mem_iff.mp (List.mem_of_getElem? ey)
        have row := A0.tab p hin
        have li := tl i
        have le : (ys.take i).length ≤ 6 := by rw [List.length_take]; omega
        have l8 := ht p hin
        walk_at "wn"
        refine ⟨rfl, ?_⟩
        walk_at "wn"
        refine ⟨_, rfl, ad (.tab p), rfl, ⟨_, SqL.of (sm2 _ _ (sm _ _ row))⟩, ?_⟩
        refine rounds_it (walk_list (K := K) (xs := (S.tab p).map optV)) (fun j H' => Same H1 H' ∧ H' D = some (.dK (trueKV (rowThings (thingsOf S [] (ys.take i)) ((S.tab p).take j))))) ⟨sm2, hd⟩ (fun j H' _ h => SqL.of (h.1 _ _ (sm _ _ row))) ?_ ?_
        · rintro j x H4 H5 hj ⟨sm4, hd4⟩ ⟨rfl, ex⟩
          rw [List.getElem?_map] at ex
          cases et : (S.tab p)[j]? with
          | none => rw [et] at ex; cases ex
          | some o =>
          rw [et] at ex
          cases ex
          rw [List.take_add_one, et, Option.toList_some, rowThings_app]
          walk_at "wn"
          refine ⟨rfl, ?_⟩
          cases o with
          | none =>
            walk_at "wn"
            exact ⟨sm4, hd4⟩
          | some t =>
            walk_at "wn"
            refine ⟨_, rfl, _, Sum.inl t, rfl, hd4, ?_, fun b q e => ?_, ?_⟩
            · have := rowThings_len (thingsOf S [] (ys.take i)) ((S.tab p).take j)
              rw [List.length_take] at this
              unfold trueKV
              rw [List.length_map, sizeLine_eq]
              omega
            · rw [upd_ne (ne_of_none e hD)]
              exact sm4 _ _ e
            · rw [upd_same, true_put]
        · rintro H' ⟨sm4, hd4⟩
          rw [List.length_map, List.take_length] at hd4
          refine ⟨sm4, ?_⟩
          rw [List.take_add_one, ey, Option.toList_some, thingsOf_app]
          exact hd4
      · rintro H' ⟨sm2, hd⟩
        rw [List.length_map, List.take_length] at hd
        walk_at "wn"
        refine ⟨D, _, rfl, .inl hd, fun r hr => ?_⟩
        have e : (trueKV (thingsOf S [] ys)).map (fun kv => kV kv.1) = (thingsOf S [] ys).map V.int := by
          unfold trueKV
          rw [List.map_map]
          rfl
        rw [e]
        exact k ys _ r pm pw ((sm.trans sm2).trans (Same.new' hr)) ((sm.trans sm2).free hr) upd_same
end

/-- the places of a thing: in one row from the index k on, and in the tables -/
def rowAt (t p : Int) : Nat → List (Option Int) → List (Int × Nat)
  | _, [] => []
  | k, x :: l => if x = some t then (p, k) :: rowAt t p (k + 1) l else rowAt t p (k + 1) l
def placesIn (S : Sys) (t : Int) : List Int → List (Int × Nat)
  | [] => []
  | p :: ps => rowAt t p 0 (S.tab p) ++ placesIn S t ps
theorem rowAt_app (t p : Int) (x : Option Int) : ∀ (l : List (Option Int)) (k : Nat), rowAt t p k (l ++ [x]) = rowAt t p k l ++ (if x = some t then [(p, k + l.length)] else [])
  | [], k => by
    show (if x = some t then (p, k) :: [] else []) = [] ++ _
    split <;> rfl
  | y :: l, k => by
    have ih := rowAt_app t p x l (k + 1)
    rw [Nat.add_right_comm k 1 l.length, Nat.add_assoc] at ih
    show (if y = some t then (p, k) :: rowAt t p (k + 1) (l ++ [x]) else rowAt t p (k + 1) (l ++ [x])) = (if y = some t then (p, k) :: rowAt t p (k + 1) l else rowAt t p (k + 1) l) ++ _
    rw [ih]
    split <;> rfl
theorem placesIn_app (S : Sys) (t p : Int) : ∀ ps : List Int, placesIn S t (ps ++ [p]) = placesIn S t ps ++ rowAt t p 0 (S.tab p)
  | [] => by
    show rowAt t p 0 (S.tab p) ++ [] = [] ++ _
    rw [List.append_nil]
    rfl
  | q :: ps => by
    show rowAt t q 0 (S.tab q) ++ placesIn S t (ps ++ [p]) = (rowAt t q 0 (S.tab q) ++ placesIn S t ps) ++ _
    rw [placesIn_app S t p ps, List.append_assoc]
theorem rowAt_len (t p : Int) : ∀ (l : List (Option Int)) (k : Nat), (rowAt t p k l).length ≤ l.length
  | [], _ => Nat.le_refl _
  | x :: l, k => by
    have ih := rowAt_len t p l (k + 1)
    show (if x = some t then (p, k) :: rowAt t p (k + 1) l else rowAt t p (k + 1) l).length ≤ l.length + 1
    split
    · rw [List.length_cons]
      omega
    · omega
theorem placesIn_len {S : Sys} (t : Int) {ps : List Int} (h : ∀ p ∈ ps, (S.tab p).length ≤ 8) : (placesIn S t ps).length ≤ 8 * ps.length := by
  induction ps with
  | nil => exact Nat.le_refl _
  | cons p ps ih =>
    have a := ih fun q hq => h q (List.mem_cons_of_mem _ hq)
    have b := h p List.mem_cons_self
    have c := rowAt_len t p (S.tab p) 0
    show (rowAt t p 0 (S.tab p) ++ placesIn S t ps).length ≤ 8 * (ps.length + 1)
    rw [List.length_append]
    omega
def PlAt (H : Hp) (v : V) (r : Int × Nat) : Prop := ∃ T, v = .ref T ∧ H T = some (.tup [.int r.1, .int (r.2 : Int)])
theorem plAts_keep {H H' : Hp} {vs : List V} {rs : List (Int × Nat)} (p : Paired (PlAt H) vs rs) (s : ∀ b x y, H b = some (.tup [x, y]) → H' b = some (.tup [x, y])) : Paired (PlAt H') vs rs := by
  induction p with
  | nil => exact .nil
  | cons r _ ih =>
    obtain ⟨T, h1, h2⟩ := r
    exact .cons ⟨T, h1, s _ _ _ h2⟩ ih
theorem plAts_same {H H' : Hp} {vs : List V} {rs : List (Int × Nat)} (p : Paired (PlAt H) vs rs) (s : Same H H') : Paired (PlAt H') vs rs := plAts_keep p fun b x y h => s _ _ h
theorem plAts_snoc {H : Hp} {vs : List V} {rs : List (Int × Nat)} {v : V} {r : Int × Nat} (p : Paired (PlAt H) vs rs) (h : PlAt H v r) : Paired (PlAt H) (vs ++ [v]) (rs ++ [r]) := by
  induction p with
  | nil => exact .cons h .nil
  | cons q _ ih => exact .cons q ih
section
variable {P : Program} {w : World} {K : PySem.W.Frag} {mg : Str → Option Value} {base : Heap} {C : Cs}
def spNumbersOf (C : Cs) : Sp := fun vs H Q _ => ∃ t : Int, OnTab C vs H [.int t] fun S ad _ => S.procs.length ≤ 6 ∧ (∀ p ∈ S.procs, (S.tab p).length ≤ 8) ∧
  ∀ (ys : List Int) (H' : Hp) (r : Addr) (rs : List V), ys.Perm S.procs → ys.Pairwise (· ≤ ·) → Same H H' → H r = none → H' r = some (.lst rs) → Paired (PlAt H') rs (placesIn S t ys) → Q (.ref r) H'
abbrev nNumsOf : List Str := ["self", "thing", "process", "number", "meant"]
theorem scNumsOf : FnScope nNumsOf ["self", "thing"] (defScope sNumbersOf) := ⟨rfl, rfl, rfl, by decide +kernel, rfl, by decide +kernel, by decide +kernel⟩
theorem okNumbersOf {f : Addr} {fd : FuncData} (F : Fun K "numbers_of" "System.numbers_of" sNumbersOf f fd) (X : RegTxt mg) (T : ClsF K C.S sysF) : FnOk P w K mg base CX0 1 f fd ["self", "thing"] (spNumbersOf C) := by
  refine F.ok scNumsOf (fun vs H Q E h => ?_) (fun cdv A outer s H vs Q E hr h => ?_)
  · obtain ⟨_, _, _, _, rfl, _⟩ := h
    rfl
  · obtain ⟨t, S, ad, dx, rfl, A0, hp, ht, k⟩ := h
    have hu := hu_of hr
    refine ⟨_, pss_one (ps_ret (pe_lc2 (own := [("process", 2), ("number", 3), ("meant", 4)]) (vs1 := [3, 4]) (g := gName 2) (tt := tYes) (wi1 := iEnum K (tCons (tDGet (tFld K (tVar 0) "tables") (tVar 2)) tNil)) (g1 := gTup K 2 (gCons (gName 3) (gCons (gName 4) gNil))) (tt1 := tTest (tOp rEq (tVar 4) (tVar 1))) (te := tTup (tCons (tVar 2) (tCons (tVar 3) tNil)))
        rfl scNumsOf.nd (pi_list (pe_callB (call_sortedDI rfl) (by rfl) X.sorted (by decide +kernel) (pa_cons (pe_fld (pv 0) rfl) pa_nil))) (blkOk_by (N := nNumsOf) (sc := defScope sNumbersOf) (by decide +kernel)) (by decide)
        (fun _ _ _ _ _ => pg_name (i := 2) scNumsOf.nd rfl (Or.inl rfl)) (fun _ _ _ _ _ => pts_nil) (fun _ _ _ _ _ => pi_enum (by rfl) X.enum (pa_cons (pe_dget hu (pe_fld (pv 0) rfl) (pv 2) (fun _ _ => rfl)) pa_nil))
        (fun _ _ _ _ _ => pg_tup rfl (pgs_cons (pg_name (i := 3) scNumsOf.nd rfl (Or.inl rfl)) (pgs_cons (pg_name (i := 4) scNumsOf.nd rfl (Or.inl rfl)) pgs_nil))) (fun _ _ _ _ _ => pts_one (pt_cmpR op_eq (pv 4) (pv 1) (nomark _))) (fun _ _ _ _ _ => pe_tup (pa_cons (pv 2) (pa_cons (pv 3) pa_nil))))), ?_⟩
    have hb := A0.box
    walk_at "wn"
    refine tLc2_of ?_
    unfold iList
    walk_at "wn"
    refine ⟨_, rfl, ad .box, C.S, dx .box, _, _, rfl, hb, T.cl, T.no _ (by decide), rfl, ?_⟩
    walk_at "wn"
    refine ⟨ad .tabD, _, S.procs, rfl, .inl (A0.tabD), by unfold entKV; rw [List.map_map]; rfl, by omega, fun ys q pm pw hq => ?_⟩
    have s1 := Same.new' (o := .lst (ys.map V.int)) hq
    have lp := pm.length_eq
    have hty : ∀ i, ∀ p ∈ ys.take i, (S.tab p).length ≤ 8 := fun i p hp => ht p (pm.mem_iff.mp (List.mem_of_mem_take hp))
    refine ⟨q, rfl, ⟨_, SqL.of upd_same⟩, fun D hD => ?_⟩
    generalize hH1 : upd H q (.lst (ys.map V.int)) = H1 at s1 hD ⊢
    have hq1 : H1 q = some (.lst (ys.map V.int)) := by rw [← hH1]; exact upd_same
    refine rounds_it (walk_list (K := K) (xs := ys.map V.int)) (fun i H' => ∃ rs, Same H1 H' ∧ H' D = some (.lst rs) ∧ Paired (PlAt H') rs (placesIn S t (ys.take i))) ⟨[], Same.new' hD, upd_same, .nil⟩ (fun i H' _ ⟨_, sm, _⟩ => SqL.of (sm _ _ hq1)) ?_ ?_
    · rintro i x H2 H3 hi ⟨rs, sm, hd, pr⟩ ⟨rfl, ex⟩
      rw [List.getElem?_map] at ex
      cases ey : ys[i]? with
      | none => rw [ey] at ex; cases ex
      | some p =>
      rw [ey] at ex
      cases ex
      have hin : p ∈ S.procs := pm.mem_iff.mp (List.mem_of_getElem? ey)
      have hv : valV (entKV S.procs fun p => ad (.tab p)) (Sum.inl p) = some (.ref (ad (.tab p))) := by rw [ent_val, if_pos hin]
      have row := s1 _ _ (A0.tab p hin)
      have hb1 := s1 _ _ hb
      have hT1 := s1 _ _ (A0.tabD)
      have l8 := ht p hin
      have li := placesIn_len t (hty i)
      have le : (ys.take i).length ≤ 6 := by rw [List.length_take]; omega
      walk_at "wn"
      refine ⟨rfl, ?_⟩
      walk_at "wn"
      refine ⟨_, rfl, ad .box, C.S, dx .box, _, _, rfl, sm _ _ hb1, T.cl, T.no _ (by decide), rfl, _, rfl, ad .tabD, _, rfl, hv ▸ DGet.k (k := Sum.inl p) (sm _ _ hT1), ?_⟩
      refine ⟨ad (.tab p), _, rfl, SqL.of (sm _ _ row), ?_⟩
      refine rounds_it (walk_enum (xs := (S.tab p).map optV)) (fun j H' => ∃ rs, Same H1 H' ∧ H' D = some (.lst rs) ∧ Paired (PlAt H') rs (placesIn S t (ys.take i) ++ rowAt t p 0 ((S.tab p).take j))) ⟨rs, sm, hd, by rw [List.take_zero]; show Paired _ _ (_ ++ []); rw [List.append_nil]; exact pr⟩ (fun j H' _ ⟨_, sm, _⟩ => SqL.of (sm _ _ row)) ?_ ?_
      · rintro j x H4 H5 hj ⟨rs, sm, hd, pr⟩ ⟨T1, x1, y1, rfl, nT, rfl, ex, ey1⟩
        have s2 := Same.new' (o := .tup [x1, y1]) nT
        obtain rfl := Option.some.inj ex
        have ey1 : ((S.tab p).map optV)[j]? = some y1 := ey1
        rw [List.getElem?_map] at ey1
        cases et : (S.tab p)[j]? with
        | none => rw [et] at ey1; cases ey1
        | some o =>
        rw [et] at ey1
        cases ey1
        have jl : ((S.tab p).take j).length = j := by
          have := (List.getElem?_eq_some_iff.mp et).1
          rw [List.length_take]
          omega
        rw [List.take_add_one, et, Option.toList_some, rowAt_app, jl, Nat.zero_add, ← List.append_assoc]
        have hd1 := s2 _ _ hd
        have pr1 := plAts_same pr s2
        have sm1 := sm.trans s2
        refine ⟨T1, _, rfl, SqT.of upd_same, rfl, _, _, rfl, ?_⟩
        walk_at "wn"
        refine ⟨_, _, rfl, ?_⟩
        walk_at "wn"
        refine ⟨rfl, rfl, ?_⟩
        generalize upd H4 T1 (.tup [V.int (j : Int), optV o]) = H6 at sm1 hd1 pr1
        have sc : scal (optV o) (.int t) = true := by cases o <;> rfl
        have dc : decide (optV o = .int t) = decide (o = some t) := by
          cases o with
          | none => rfl
          | some u => exact decide_eq_decide.mpr ⟨fun z => by rw [V.int.inj z], fun z => by rw [Option.some.inj z]; rfl⟩
        walk_at "wn"
        refine ⟨sc, _, rfl, ?_⟩
        rw [dc]
        by_cases ho : o = some t
        · subst ho
          rw [if_pos rfl, decide_eq_true rfl]
          refine iteT ?_
          walk_at "wn"
          refine ⟨by show 2 ≤ sizeLine; decide, fun T2 hT2 => ?_⟩
          have nT2 : T2 ≠ D := fun z => by rw [z, hd1] at hT2; cases hT2
          have s3 := Same.new' (o := .tup [.int p, .int (j : Int)]) hT2
          have kp : ∀ b x y, upd H6 T2 (.tup [.int p, .int (j : Int)]) b = some (.tup [x, y]) → upd (upd H6 T2 (.tup [.int p, .int (j : Int)])) D (.lst (rs ++ [.ref T2])) b = some (.tup [x, y]) := fun b x y h => by
            rw [upd_ne (fun z => by rw [z, upd_ne (Ne.symm nT2), hd1] at h; cases h)]
            exact h
          refine ⟨rs, s3 _ _ hd1, ?_, _, fun b o z => ?_, upd_same, plAts_snoc (plAts_keep (plAts_same pr1 s3) kp) ⟨T2, rfl, kp _ _ _ upd_same⟩⟩
          · have h1 := pr1.length
            rw [List.length_append] at h1
            have h2 := rowAt_len t p ((S.tab p).take j) 0
            rw [List.length_take] at h2
            rw [sizeLine_eq]
            omega
          · rw [upd_ne (fun y => by rw [y] at z; rw [hD] at z; cases z)]
            exact (sm1.trans s3) b o z
        · rw [if_neg ho, decide_eq_false ho, List.append_nil]
          refine iteF ?_
          exact ⟨rs, sm1, hd1, pr1⟩
      · rintro H' ⟨rs, sm, hd, pr⟩
        rw [List.length_map, List.take_length] at pr
        refine ⟨rs, sm, hd, ?_⟩
        rw [List.take_add_one, ey, Option.toList_some, placesIn_app]
        exact pr
    · rintro H' ⟨rs, sm, hd, pr⟩
      rw [List.length_map, List.take_length] at pr
      exact k ys _ D rs pm pw (s1.trans sm) (s1.free hD) hd pr
def spNameOf (C : Cs) : Sp := fun vs H Q _ => ∃ t : Int, OnTab C vs H [.int t] fun S ad _ => S.procs.length ≤ 6 ∧ (∀ p ∈ S.procs, (S.tab p).length ≤ 8) ∧ (∃ p ∈ S.procs, ∃ n : Nat, (S.tab p)[n]? = some (some t)) ∧
  ∀ (ys : List Int) (H' : Hp) (v : V) (r : Int × Nat), ys.Perm S.procs → ys.Pairwise (· ≤ ·) → Same H H' → (placesIn S t ys)[0]? = some r → PlAt H' v r → Q v H'
theorem scNameOf : FnScope ["self", "thing"] ["self", "thing"] (defScope sNameOf) := ⟨rfl, rfl, rfl, by decide +kernel, rfl, by decide +kernel, by decide +kernel⟩
theorem rowAt_some {t p : Int} : ∀ {l : List (Option Int)} {n k : Nat}, l[n]? = some (some t) → rowAt t p k l ≠ []
  | x :: l, 0, k, h => by
    rw [List.getElem?_cons_zero] at h
    cases h
    show (if some t = some t then _ else _) ≠ []
    rw [if_pos rfl]
    exact fun z => by cases z
  | x :: l, n + 1, k, h => by
    rw [List.getElem?_cons_succ] at h
    have ih := rowAt_some (p := p) (k := k + 1) h
    show (if x = some t then _ else _) ≠ []
    split
    · exact fun z => by cases z
    · exact ih
theorem placesIn_some {S : Sys} {t p : Int} {n : Nat} (h : (S.tab p)[n]? = some (some t)) : ∀ {ps : List Int}, p ∈ ps → placesIn S t ps ≠ []
  | q :: ps, hp => by
    show rowAt t q 0 (S.tab q) ++ placesIn S t ps ≠ []
    rcases List.mem_cons.mp hp with e | e
    · subst e
      exact fun z => rowAt_some h (List.append_eq_nil_iff.mp z).1
    · exact fun z => placesIn_some h e (List.append_eq_nil_iff.mp z).2
theorem okNameOf {f fN : Addr} {fd fdN : FuncData} (F : Fun K "name_of" "System.name_of" sNameOf f fd) (T : ClsF K C.S sysF) (GN : MO P w K mg base 1 C.S "numbers_of" ["self", "thing"] (spNumbersOf C) fN fdN) : FnOk P w K mg base CX0 2 f fd ["self", "thing"] (spNameOf C) := by
  refine F.ok scNameOf (fun vs H Q E h => ?_) (fun cdv A outer s H vs Q E hr h => ?_)
  · obtain ⟨_, _, _, _, rfl, _⟩ := h
    rfl
  · obtain ⟨t, S, ad, dx, rfl, A0, hp, ht, ⟨p, hpS, n, hn⟩, k⟩ := h
    refine ⟨_, pss_one (ps_ret (pe_ix ix_list (pe_meth (pv 0) T.cl GN.m GN.g hr GN.b .nil pass0 (pa_cons (pv 1) pa_nil)) pe_int (fun _ _ => rfl))), ?_⟩
    have hb := A0.box
    walk_at "wn"
    refine ⟨_, rfl, ad .box, dx .box, _, rfl, hb, rfl, ?_⟩
    walk_at "wn"
    refine ⟨t, S, ad, dx, rfl, A0, hp, ht, fun ys H' r rs pm pw sm nr hrs pr => ?_⟩
    walk_at "wn"
    have ne := placesIn_some hn (pm.mem_iff.mpr hpS)
    have kk := k ys H'
    generalize placesIn S t ys = pl at pr ne kk
    cases pr with
    | nil => exact absurd rfl ne
    | @cons v1 r1 vs1 rs1 a b =>
      refine ⟨r, _, _, _, rfl, rfl, SqL.of hrs, atI_nat (xs := v1 :: vs1) (v := v1) (j := 0) rfl, kk v1 r1 pm pw sm rfl a⟩
end

theorem sort_uniq : ∀ {a b : List Int}, a.Perm b → a.Pairwise (· ≤ ·) → b.Pairwise (· ≤ ·) → a = b
  | [], b, p, _, _ => (List.nil_perm.mp p).symm
  | x :: a, [], p, _, _ => absurd p.length_eq (by simp)
  | x :: a, y :: b, p, ha, hb => by
    obtain ⟨h1, h2⟩ := List.pairwise_cons.mp ha
    obtain ⟨h3, h4⟩ := List.pairwise_cons.mp hb
    have e : x = y := by
      have m1 : x ∈ y :: b := p.mem_iff.mp List.mem_cons_self
      have m2 : y ∈ x :: a := p.mem_iff.mpr List.mem_cons_self
      rcases List.mem_cons.mp m1 with e | e
      · exact e
      · rcases List.mem_cons.mp m2 with e2 | e2
        · exact e2.symm
        · have := h3 x e
          have := h1 y e2
          omega
    subst e
    rw [sort_uniq ((List.perm_cons x).mp p) h2 h4]
theorem mem_qAdd {t u : Int} {l : List Int} : t ∈ qAdd u l ↔ t = u ∨ t ∈ l := by
  unfold qAdd
  split <;> rename_i h
  · exact ⟨.inr, fun z => z.elim (fun e => e ▸ h) id⟩
  · rw [List.mem_append, List.mem_singleton]
    exact ⟨fun z => z.symm, fun z => z.symm⟩
theorem qAdd_nodup {u : Int} {l : List Int} (h : l.Nodup) : (qAdd u l).Nodup := by
  unfold qAdd
  split <;> rename_i h2
  · exact h
  · exact List.nodup_append.mpr ⟨h, by simp, fun a ha b hb e => h2 (by rw [List.mem_singleton] at hb; rw [← hb, ← e]; exact ha)⟩
theorem mem_row {t : Int} : ∀ {l : List (Option Int)} {acc : List Int}, t ∈ rowThings acc l ↔ t ∈ acc ∨ ∃ n : Nat, l[n]? = some (some t)
  | [], acc => ⟨.inl, fun z => z.elim id fun ⟨n, h⟩ => by simp at h⟩
  | x :: l, acc => by
    have sh : (∃ n : Nat, (x :: l)[n]? = some (some t)) ↔ x = some t ∨ ∃ n : Nat, l[n]? = some (some t) := ⟨fun ⟨n, h⟩ => by
      cases n with
      | zero => exact .inl (by simpa using h)
      | succ n => exact .inr ⟨n, by simpa using h⟩, fun z => z.elim (fun e => ⟨0, by simp [e]⟩) fun ⟨n, h⟩ => ⟨n + 1, by simpa using h⟩⟩
    rw [sh]
    cases x with
    | none =>
      have ih := mem_row (t := t) (l := l) (acc := acc)
      show t ∈ rowThings acc l ↔ _
      rw [ih]
      simp
    | some u =>
      have ih := mem_row (t := t) (l := l) (acc := qAdd u acc)
      show t ∈ rowThings (qAdd u acc) l ↔ _
      rw [ih, mem_qAdd]
      constructor
      · rintro ((e | e) | e)
        · exact .inr (.inl (by rw [e]))
        · exact .inl e
        · exact .inr (.inr e)
      · rintro (e | e | e)
        · exact .inl (.inr e)
        · exact .inl (.inl (Option.some.inj e).symm)
        · exact .inr e
theorem mem_things {S : Sys} {t : Int} : ∀ {ps acc : List Int}, t ∈ thingsOf S acc ps ↔ t ∈ acc ∨ ∃ p ∈ ps, ∃ n : Nat, (S.tab p)[n]? = some (some t)
  | [], acc => ⟨.inl, fun z => z.elim id fun ⟨p, hp, _⟩ => absurd hp List.not_mem_nil⟩
  | q :: ps, acc => by
    have ih := mem_things (S := S) (t := t) (ps := ps) (acc := rowThings acc (S.tab q))
    show t ∈ thingsOf S (rowThings acc (S.tab q)) ps ↔ _
    rw [ih, mem_row]
    constructor
    · rintro ((e | e) | ⟨p, hp, e⟩)
      · exact .inl e
      · exact .inr ⟨q, List.mem_cons_self, e⟩
      · exact .inr ⟨p, List.mem_cons_of_mem _ hp, e⟩
    · rintro (e | ⟨p, hp, e⟩)
      · exact .inl (.inl e)
      · rcases List.mem_cons.mp hp with z | z
        · subst z
          exact .inl (.inr e)
        · exact .inr ⟨p, z, e⟩
theorem row_nodup : ∀ {l : List (Option Int)} {acc : List Int}, acc.Nodup → (rowThings acc l).Nodup
  | [], _, h => h
  | none :: l, _, h => row_nodup (l := l) h
  | some _ :: l, _, h => row_nodup (l := l) (qAdd_nodup h)
theorem things_nodup {S : Sys} : ∀ {ps acc : List Int}, acc.Nodup → (thingsOf S acc ps).Nodup
  | [], _, h => h
  | _ :: ps, _, h => things_nodup (ps := ps) (row_nodup h)
theorem things_len {S : Sys} : ∀ {ps acc : List Int}, (∀ p ∈ ps, (S.tab p).length ≤ 8) → (thingsOf S acc ps).length ≤ acc.length + 8 * ps.length
  | [], _, _ => Nat.le_refl _
  | p :: ps, acc, h => by
    have a := things_len (S := S) (ps := ps) (acc := rowThings acc (S.tab p)) fun q hq => h q (List.mem_cons_of_mem _ hq)
    have b := h p List.mem_cons_self
    have c := rowThings_len acc (S.tab p)
    show (thingsOf S (rowThings acc (S.tab p)) ps).length ≤ acc.length + 8 * (ps.length + 1)
    omega
/-- what a row of registrations() shows of the label l in the set s -/
def RgAt (S : Sys) (ys : List Int) (s : Int) (H : Hp) (v : V) (l : Int) : Prop := ∃ (T : Addr) (v1 v2 : V) (r1 r2 : Int × Nat), v = .ref T ∧ H T = some (.tup [v1, .int l, .int (S.reg s l).num, v2, .str (S.reg s l).word, .bl (S.reg s l).armed]) ∧
  (placesIn S s ys)[0]? = some r1 ∧ PlAt H v1 r1 ∧ (placesIn S (S.reg s l).src ys)[0]? = some r2 ∧ PlAt H v2 r2
theorem PlAt.keep {H H' : Hp} {v : V} {r : Int × Nat} (h : PlAt H v r) (s : ∀ b o, H b = some o → (∀ xs, o ≠ .tup xs) ∨ H' b = some o) : PlAt H' v r := by
  obtain ⟨T, h1, h2⟩ := h
  exact ⟨T, h1, (s _ _ h2).elim (fun z => absurd rfl (z _)) id⟩
theorem PlAt.upd {H : Hp} {v : V} {r : Int × Nat} {D : Addr} {o o' : HO} (h : PlAt H v r) (hD : H D = some o) (n : ∀ xs, o ≠ .tup xs) : PlAt (upd H D o') v r := h.keep fun b o2 e => by
  by_cases z : b = D
  · rw [z, hD] at e
    cases e
    exact .inl n
  · exact .inr (by rw [upd_ne z]; exact e)
theorem rgs_keep {S : Sys} {ys : List Int} {s : Int} {H H' : Hp} {vs : List V} {ls : List Int} (p : Paired (RgAt S ys s H) vs ls) (k : ∀ b o, H b = some o → (∀ xs, o ≠ .tup xs) ∨ H' b = some o) : Paired (RgAt S ys s H') vs ls := by
  induction p with
  | nil => exact .nil
  | cons r _ ih =>
    obtain ⟨T, v1, v2, r1, r2, h1, h2, h3, h4, h5, h6⟩ := r
    exact .cons ⟨T, v1, v2, r1, r2, h1, (k _ _ h2).elim (fun z => absurd rfl (z _)) id, h3, h4.keep k, h5, h6.keep k⟩ ih
theorem paired_snoc {α β : Type} {R : α → β → Prop} {xs : List α} {ys : List β} {x : α} {y : β} (p : Paired R xs ys) (h : R x y) : Paired R (xs ++ [x]) (ys ++ [y]) := by
  induction p with
  | nil => exact .cons h .nil
  | cons q _ ih => exact .cons q ih
section
variable {P : Program} {w : World} {K : PySem.W.Frag} {mg : Str → Option Value} {base : Heap} {C : Cs}
def spRegistrations (C : Cs) : Sp := fun vs H Q _ => OnSys C vs H [] fun S ad dx => ∃ s, S.sets = [s] ∧ S.procs.length ≤ 6 ∧ (∀ p ∈ S.procs, (S.tab p).length ≤ 8) ∧ (∃ p ∈ S.procs, ∃ n : Nat, (S.tab p)[n]? = some (some s)) ∧
  (S.ents s).length ≤ 1000 ∧ (∀ l ∈ S.ents s, ∃ p ∈ S.procs, ∃ n : Nat, (S.tab p)[n]? = some (some (S.reg s l).src)) ∧
  ∀ (ys : List Int) (H' : Hp) (r : Addr) (rs : List V), ys.Perm S.procs → ys.Pairwise (· ≤ ·) → Same H H' → H r = none → H' r = some (.lst rs) → Paired (RgAt S ys s H') rs (S.ents s) → Q (.ref r) H'
abbrev nRegs : List Str := ["self", "names", "thing", "label", "kept"]
theorem scRegs : FnScope nRegs ["self"] (defScope sRegistrations) := ⟨rfl, rfl, rfl, by decide +kernel, rfl, by decide +kernel, by decide +kernel⟩
theorem okRegistrations {f fT fN : Addr} {fd fdT fdN : FuncData} (F : Fun K "registrations" "System.registrations" sRegistrations f fd) (T : ClsF K C.S sysF) (TW : ClsF K C.W wsF) (TR : ClsF K C.R regF)
    (GT : MO P w K mg base 1 C.S "things" ["self"] (spThings C) fT fdT) (GN : MO P w K mg base 2 C.S "name_of" ["self", "thing"] (spNameOf C) fN fdN) : FnOk P w K mg base CX0 3 f fd ["self"] (spRegistrations C) := by
  refine F.ok scRegs (fun vs H Q E h => ?_) (fun cdv A outer s H vs Q E hr h => ?_)
  · obtain ⟨_, _, _, rfl, _⟩ := h
    rfl
  · obtain ⟨S, ad, dx, rfl, A0, s0, hsets, hp, ht, hs0, hel, hsrc, k⟩ := h
    have hu := hu_of hr
    have r1 : Room 1 _ := hr.mono (by decide)
    refine ⟨_, pss_cut (ps_set (i := 1) scRegs.nd rfl (Or.inr rfl) (pe_dc (own := [("thing", 2)]) (g := gName 2) (tt := tYes) (tk := tVar 2) (tv := tMeth C.S "name_of" (spNameOf C) [] (fun _ _ _ => False) (tVar 0) (tCons (tVar 2) tNil)) rfl scRegs.nd (pi_list (pe_meth0 (pv 0) T.cl GT.m GT.g r1 GT.b .nil pass0)) (blkOk_by (N := nRegs) (sc := defScope sRegistrations) (by decide +kernel))
        (fun _ _ _ _ _ => pg_name (i := 2) scRegs.nd rfl (Or.inl rfl)) (fun _ _ _ _ _ => pts_nil) (fun _ _ _ _ _ => pv 2) (fun _ _ _ _ _ => pe_meth (pv 0) T.cl GN.m GN.g hr GN.b .nil pass0 (pa_cons (pv 2) pa_nil))))
      (pss_one (ps_lock (ps_ret (pe_lc2 (own := [("thing", 2), ("label", 3), ("kept", 4)]) (vs1 := [3, 4]) (g := gName 2) (tt := tTest (tDIn (tVar 2) (tFld K (tVar 0) "sets"))) (wi1 := iItems (tFld K (tDGet (tFld K (tVar 0) "sets") (tVar 2)) "entries")) (g1 := gTup K 2 (gCons (gName 3) (gCons (gName 4) gNil))) (tt1 := tYes)
        (te := tTup (tCons (tDGet (tVar 1) (tVar 2)) (tCons (tVar 3) (tCons (tFld K (tVar 4) "number") (tCons (tDGet (tVar 1) (tFld K (tVar 4) "source")) (tCons (tFld K (tVar 4) "word") (tCons (tFld K (tVar 4) "armed") tNil)))))))
        rfl scRegs.nd (pi_list (pe_meth0 (pv 0) T.cl GT.m GT.g r1 GT.b .nil pass0)) (blkOk_by (N := nRegs) (sc := defScope sRegistrations) (by decide +kernel)) (by decide)
        (fun _ _ _ _ _ => pg_name (i := 2) scRegs.nd rfl (Or.inl rfl)) (fun _ _ _ _ _ => pts_one (pt_cmp (pc_din hu (pv 2) (pe_fld (pv 0) rfl)) rfl)) (fun _ _ _ _ _ => pi_items (pe_fld (pe_dget hu (pe_fld (pv 0) rfl) (pv 2) (fun _ _ => rfl)) rfl))
        (fun _ _ _ _ _ => pg_tup rfl (pgs_cons (pg_name (i := 3) scRegs.nd rfl (Or.inl rfl)) (pgs_cons (pg_name (i := 4) scRegs.nd rfl (Or.inl rfl)) pgs_nil))) (fun _ _ _ _ _ => pts_nil)
        (fun _ _ _ _ _ => pe_tup (pa_cons (pe_dget hu (pv 1) (pv 2) (fun _ _ => rfl)) (pa_cons (pv 3) (pa_cons (pe_fld (pv 4) rfl) (pa_cons (pe_dget hu (pv 1) (pe_fld (pv 4) rfl) (fun _ _ => rfl)) (pa_cons (pe_fld (pv 4) rfl) (pa_cons (pe_fld (pv 4) rfl) pa_nil))))))))))), ?_⟩
    have hb := A0.at_ .box trivial
    have Tb := A0.tabAt
    refine ⟨fun σ' H1 => ∃ (ys : List Int) (D : Addr) (kvs : List (Key × V)), ys.Perm S.procs ∧ ys.Pairwise (· ≤ ·) ∧ σ' = [some (.ref (ad .box)), some (.ref D), none, none, none] ∧ Same H H1 ∧ H1 D = some (.dK kvs) ∧ H D = none ∧
      ∀ t ∈ thingsOf S [] ys, ∃ v r, valV kvs (Sum.inl t) = some v ∧ (placesIn S t ys)[0]? = some r ∧ PlAt H1 v r, ?_, ?_⟩
    · walk_at "wn"
      refine tDc_of ?_
      unfold iList
      walk_at "wn"
      refine ⟨_, rfl, ad .box, dx .box, _, rfl, hb, rfl, ?_⟩
      walk_at "wn"
      refine ⟨S, ad, dx, rfl, Tb, hp, ht, fun ys H1 r pm pw s1 nr hr1 => ?_⟩
      refine ⟨r, rfl, ⟨_, SqL.of hr1⟩, fun D hD => ?_⟩
      have tlen := things_len (S := S) (ps := ys) (acc := []) fun p hp => ht p (pm.mem_iff.mp hp)
      have lp := pm.length_eq
      refine rounds_it (walk_list (K := K) (xs := (thingsOf S [] ys).map V.int)) (fun i H' => ∃ kvs : List (Key × V), Same H1 H' ∧ H' D = some (.dK kvs) ∧ kvs.length ≤ i ∧ ∀ t ∈ (thingsOf S [] ys).take i, ∃ v r, valV kvs (Sum.inl t) = some v ∧ (placesIn S t ys)[0]? = some r ∧ PlAt H' v r) ⟨[], Same.new' hD, upd_same, Nat.zero_le _, fun t h => absurd h (by simp)⟩ (fun i H' _ ⟨_, sm, _⟩ => SqL.of (sm _ _ hr1)) ?_ ?_
      · rintro i x H2 H3 hi ⟨kvs, sm, hd, kl, hk⟩ ⟨rfl, ex⟩
        rw [List.getElem?_map] at ex
        rw [List.length_map] at hi
        cases et : (thingsOf S [] ys)[i]? with
        | none => rw [et] at ex; cases ex
        | some t =>
        rw [et] at ex
        cases ex
        obtain ⟨p, hpy, n, hn⟩ := (mem_things.mp (List.mem_of_getElem? et)).resolve_left List.not_mem_nil
        have s3 := s1.trans sm
        walk_at "wn"
        refine ⟨rfl, ?_⟩
        walk_at "wn"
        refine ⟨_, rfl, ad .box, dx .box, _, rfl, s3 _ _ hb, rfl, ?_⟩
        walk_at "wn"
        refine ⟨t, S, ad, dx, rfl, Tb.same s3, hp, ht, ⟨p, pm.mem_iff.mp hpy, n, hn⟩, fun ys2 H4 v r pm2 pw2 s4 e4 pl => ?_⟩
        obtain rfl := sort_uniq (pm2.trans pm.symm) pw2 pw
        have hd4 := s4 _ _ hd
        simp only [List.length_nil, Nat.zero_add] at tlen
        refine ⟨kvs, Sum.inl t, rfl, hd4, by rw [sizeLine_eq]; omega, _, fun b o e => ?_, upd_same, ?_, fun t' ht' => ?_⟩
        · rw [upd_ne (ne_of_none e hD)]
          exact s4 _ _ (sm _ _ e)
        · have := length_putK kvs (Sum.inl t) v
          omega
        · rw [valV_put]
          by_cases z : t' = t
          · subst z
            exact ⟨v, r, if_pos rfl, e4, pl.upd hd4 fun xs z => by cases z⟩
          · rw [List.take_add_one, et, Option.toList_some, List.mem_append, List.mem_singleton] at ht'
            obtain ⟨v', r', a1, a2, a3⟩ := hk t' (ht'.resolve_right z)
            exact ⟨v', r', by rw [if_neg (fun y => z (Sum.inl.inj y))]; exact a1, a2, (a3.keep fun b o e => .inr (s4 _ _ e)).upd hd4 fun xs z => by cases z⟩
      · rintro H' ⟨kvs, sm, hd, kl, hk⟩
        rw [List.length_map, List.take_length] at hk
        walk_at "wn"
        exact ⟨ys, D, kvs, pm, pw, rfl, s1.trans sm, hd, s1.free hD, hk⟩
    · rintro σ' H1 ⟨ys, D, kvs, pm, pw, rfl, sm, hD, nD, hk⟩
      have hs : s0 ∈ S.sets := by rw [hsets]; exact List.mem_singleton.mpr rfl
      have he := A0.at_ (.ent s0) hs
      refine ⟨ad (.ent s0), _, sm _ _ he, trivial, fun od => ?_⟩
      have hL : ∀ b, b ≠ ad (.ent s0) → upd H1 (ad (.ent s0)) (.frz od (co C S ad dx (.ent s0))) b = H1 b := fun b n => upd_ne n
      have hLe : upd H1 (ad (.ent s0)) (.frz od (co C S ad dx (.ent s0))) (ad (.ent s0)) = some (.frz od (co C S ad dx (.ent s0))) := upd_same
      generalize upd H1 (ad (.ent s0)) (.frz od (co C S ad dx (.ent s0))) = HL at hL hLe ⊢
      have cellL : ∀ c, live S c → c ≠ .ent s0 → HL (ad c) = some (co C S ad dx c) := fun c lc n => by
        rw [hL _ (A0.ne lc hs n)]
        exact sm _ _ (A0.at_ c lc)
      have TbL : TabAt C HL S ad dx := ⟨cellL .box trivial (by intro z; cases z), cellL .tabD trivial (by intro z; cases z), fun p hp => cellL (.tab p) hp (by intro z; cases z)⟩
      have nDe : D ≠ ad (.ent s0) := fun z => by rw [z, he] at nD; cases nD
      have hDL : HL D = some (.dK kvs) := (hL D nDe).trans hD
      walk_at "wn"
      refine tLc2_of ?_
      unfold iList
      walk_at "wn"
      refine ⟨_, rfl, ad .box, dx .box, _, rfl, TbL.box, rfl, ?_⟩
      walk_at "wn"
      refine ⟨S, ad, dx, rfl, TbL, hp, ht, fun ys2 H2 r pm2 pw2 s2 nr hr2 => ?_⟩
      obtain rfl := sort_uniq (pm2.trans pm.symm) pw2 pw
      refine ⟨r, rfl, ⟨_, SqL.of hr2⟩, fun D2 hD2 => ?_⟩
      have nd : (thingsOf S [] ys2).Nodup := things_nodup List.nodup_nil
      have ms : s0 ∈ thingsOf S [] ys2 := mem_things.mpr (.inr (by
        obtain ⟨p, hpS, n, hn⟩ := hs0
        exact ⟨p, pm.mem_iff.mpr hpS, n, hn⟩))
      have cell2 : ∀ c, live S c → c ≠ .ent s0 → H2 (ad c) = some (co C S ad dx c) := fun c lc n => s2 _ _ (cellL c lc n)
      have e2 := s2 _ _ hLe
      have hD2n := s2 _ _ hDL
      have box2 := cell2 .box trivial (by intro z; cases z)
      have set2 := cell2 .setD trivial (by intro z; cases z)
      have ws2 := cell2 (.ws s0) hs (by intro z; cases z)
      have pl2 : ∀ {v r}, PlAt H1 v r → PlAt H2 v r := fun {v r} ⟨T, a1, a2⟩ => ⟨T, a1, s2 _ _ ((hL T fun z => by rw [z, sm _ _ he] at a2; cases a2).trans a2)⟩
      refine rounds_it (walk_list (K := K) (xs := (thingsOf S [] ys2).map V.int)) (fun i H' => ∃ rs, Same H2 H' ∧ H' D2 = some (.lst rs) ∧ Paired (RgAt S ys2 s0 H') rs (if s0 ∈ (thingsOf S [] ys2).take i then S.ents s0 else [])) ⟨[], Same.new' hD2, upd_same, by rw [List.take_zero, if_neg List.not_mem_nil]; exact .nil⟩ (fun i H' _ ⟨_, sm, _⟩ => SqL.of (sm _ _ hr2)) ?_ ?_
      · rintro i x H3 H4 hi ⟨rs, s3, hd, pr⟩ ⟨rfl, ex⟩
        rw [List.getElem?_map] at ex
        cases et : (thingsOf S [] ys2)[i]? with
        | none => rw [et] at ex; cases ex
        | some t =>
        rw [et] at ex
        cases ex
        walk_at "wn"
        refine ⟨rfl, ?_⟩
        walk_at "wn"
        refine ⟨_, rfl, _, rfl, ad .box, C.S, dx .box, _, _, rfl, s3 _ _ box2, T.cl, T.no _ (by decide), rfl, ?_⟩
        refine ⟨ad .setD, _, rfl, DGet.k (k := Sum.inl t) (s3 _ _ set2), ?_⟩
        rw [ent_val, hsets]
        by_cases z : t = s0
        · subst z
          have nin : t ∉ (thingsOf S [] ys2).take i := fun h => by
            obtain ⟨j, hj, e⟩ := List.mem_take_iff_getElem.mp h
            have h1 := List.getElem?_eq_some_iff.mp et
            obtain ⟨hi2, e3⟩ := h1
            have := (List.getElem_inj nd).mp (e.trans e3.symm)
            omega
          rw [if_neg nin] at pr
          rw [if_pos (List.mem_singleton.mpr rfl)]
          refine ⟨_, rfl, ?_⟩
          refine iteT ?_
          cases pr
          have hv : valV (entKV S.sets fun s => ad (.ws s)) (Sum.inl t) = some (.ref (ad (.ws t))) := by rw [ent_val, if_pos hs]
          refine ⟨_, rfl, ad .box, C.S, dx .box, _, _, rfl, s3 _ _ box2, T.cl, T.no _ (by decide), rfl, _, rfl, ad .setD, _, rfl, hv ▸ DGet.k (k := Sum.inl t) (s3 _ _ set2), ad (.ws t), C.W, dx (.ws t), _, _, rfl, s3 _ _ ws2, TW.cl, TW.no _ (by decide), rfl, ad (.ent t), od, _, rfl, s3 _ _ e2, ?_⟩
          refine rounds_it (walk_items (kvs := entKV (S.ents t) fun l => ad (.reg t l)) (o := od) (d := ad (.ent t))) (fun j H' => ∃ rs, Same H2 H' ∧ H' D2 = some (.lst rs) ∧ Paired (RgAt S ys2 t H') rs ((S.ents t).take j)) ⟨[], s3, hd, .nil⟩ (fun j H' _ ⟨_, sm, _⟩ => sm _ _ e2) ?_ ?_
          · rintro j x H5 H6 hj ⟨rs, s5, hd5, pr5⟩ ⟨T1, x1, y1, rfl, nT, rfl, ex, ey⟩
            cases el : (S.ents t)[j]? with
            | none =>
              have h1 := List.getElem?_eq_none_iff.mp el
              have h2 : j < ((S.ents t).map fun l => ((Sum.inl l : Key), V.ref (ad (.reg t l)))).length := hj
              rw [List.length_map] at h2
              omega
            | some l =>
            have ek : (entKV (S.ents t) fun l => ad (.reg t l))[j]? = some (Sum.inl l, .ref (ad (.reg t l))) := by
              unfold entKV
              rw [List.getElem?_map, el]
              rfl
            have ex : ((entKV (S.ents t) fun l => ad (.reg t l))[j]?.map fun kv => kV kv.1) = some x1 := ex
            have ey : ((entKV (S.ents t) fun l => ad (.reg t l))[j]?.map Prod.snd) = some y1 := ey
            rw [ek] at ex ey
            obtain rfl := Option.some.inj ex
            obtain rfl := Option.some.inj ey
            have hl : l ∈ S.ents t := List.mem_of_getElem? el
            have jlt : j < (S.ents t).length := (List.getElem?_eq_some_iff.mp el).1
            obtain ⟨v1, q1, a1, a2, a3⟩ := hk t ms
            obtain ⟨v2, q2, b1, b2, b3⟩ := hk (S.reg t l).src (mem_things.mpr (.inr (by
              obtain ⟨p, hpS, n, hn⟩ := hsrc l hl
              exact ⟨p, pm.mem_iff.mpr hpS, n, hn⟩)))
            have s6 := Same.new' (o := .tup [kV (Sum.inl l), .ref (ad (.reg t l))]) nT
            have s7 := s5.trans s6
            have hd6 := s6 _ _ hd5
            have pr6 := rgs_keep pr5 fun b o h => .inr (s6 _ _ h)
            have reg6 := s7 _ _ (cell2 (.reg t l) ⟨hs, hl⟩ (by intro z; cases z))
            have D6 := s7 _ _ hD2n
            refine ⟨T1, _, rfl, SqT.of upd_same, rfl, _, _, rfl, ?_⟩
            walk_at "wn"
            refine ⟨_, _, rfl, ?_⟩
            walk_at "wn"
            refine ⟨rfl, rfl, ?_⟩
            generalize upd H5 T1 (.tup [kV (Sum.inl l), .ref (ad (.reg t l))]) = H6 at s7 hd6 pr6 reg6 D6 ⊢
            walk_at "wn"
            refine ⟨_, rfl, _, rfl, D, _, rfl, a1 ▸ DGet.k (k := Sum.inl t) D6, ?_⟩
            walk_at "wn"
            refine ⟨_, rfl, ad (.reg t l), C.R, dx (.reg t l), _, _, rfl, reg6, TR.cl, TR.no _ (by decide), rfl, ?_⟩
            walk_at "wn"
            refine ⟨_, rfl, _, rfl, ad (.reg t l), C.R, dx (.reg t l), _, _, rfl, reg6, TR.cl, TR.no _ (by decide), rfl, D, _, rfl, b1 ▸ DGet.k (k := Sum.inl (S.reg t l).src) D6, ?_⟩
            walk_at "wn"
            refine ⟨_, rfl, ad (.reg t l), C.R, dx (.reg t l), _, _, rfl, reg6, TR.cl, TR.no _ (by decide), rfl, ?_⟩
            walk_at "wn"
            refine ⟨_, rfl, ad (.reg t l), C.R, dx (.reg t l), _, _, rfl, reg6, TR.cl, TR.no _ (by decide), rfl, ?_⟩
            walk_at "wn"
            refine ⟨by show 6 ≤ sizeLine; decide, fun T2 hT2 => ?_⟩
            have nT2 : T2 ≠ D2 := fun z => by rw [z, hd6] at hT2; cases hT2
            have s8 := Same.new' (o := .tup [v1, .int l, .int (S.reg t l).num, v2, .str (S.reg t l).word, .bl (S.reg t l).armed]) hT2
            have kp : ∀ b o, H6 b = some o → (∀ xs, o ≠ .tup xs) ∨ upd (upd H6 T2 (.tup [v1, .int l, .int (S.reg t l).num, v2, .str (S.reg t l).word, .bl (S.reg t l).armed])) D2 (.lst (rs ++ [.ref T2])) b = some o := fun b o h => by
              by_cases z : b = D2
              · rw [z, hd6] at h
                cases h
                exact .inl fun xs y => by cases y
              · exact .inr (by rw [upd_ne z]; exact s8 _ _ h)
            have l1 := pr6.length
            rw [List.length_take] at l1
            refine ⟨rs, s8 _ _ hd6, by rw [sizeLine_eq]; omega, _, fun b o h => ?_, upd_same, ?_⟩
            · rw [upd_ne (ne_of_none h hD2)]
              exact (s7.trans s8) _ _ h
            · rw [List.take_add_one, el, Option.toList_some]
              exact paired_snoc (rgs_keep pr6 kp) ⟨T2, v1, v2, q1, q2, rfl, (upd_ne nT2).trans upd_same, a2, ((pl2 a3).keep fun b o h => .inr (s7 _ _ h)).keep kp, b2, ((pl2 b3).keep fun b o h => .inr (s7 _ _ h)).keep kp⟩
          · rintro H' ⟨rs, s5, hd5, pr5⟩
            have e : (S.ents t).take (entKV (S.ents t) fun l => ad (.reg t l)).length = S.ents t := by
              unfold entKV
              rw [List.length_map, List.take_length]
            rw [e] at pr5
            refine ⟨rs, s5, hd5, ?_⟩
            rw [List.take_add_one, et, Option.toList_some, if_pos (List.mem_append_right _ (List.mem_singleton.mpr rfl))]
            exact pr5
        · rw [if_neg (fun h => z (List.mem_singleton.mp h))]
          refine ⟨_, rfl, ?_⟩
          refine iteF ?_
          have e : (if s0 ∈ (thingsOf S [] ys2).take (i + 1) then S.ents s0 else []) = if s0 ∈ (thingsOf S [] ys2).take i then S.ents s0 else [] := by
            rw [List.take_add_one, et, Option.toList_some]
            by_cases h : s0 ∈ (thingsOf S [] ys2).take i
            · rw [if_pos h, if_pos (List.mem_append_left _ h)]
            · rw [if_neg h, if_neg (fun y => (List.mem_append.mp y).elim h fun w => z (List.mem_singleton.mp w).symm)]
          exact ⟨rs, s3, hd, by rw [e]; exact pr⟩
      · rintro H' ⟨rs, s3, hd, pr⟩
        rw [List.length_map, List.take_length, if_pos ms] at pr
        have e3 := s3 _ _ e2
        have nE : D2 ≠ ad (.ent s0) := fun z => by rw [z, e2] at hD2; cases hD2
        refine ⟨e3, k ys2 _ D2 rs pm pw (fun b o h => ?_) ?_ ((upd_ne nE).trans hd) (rgs_keep pr fun b o h => ?_)⟩
        · by_cases z : b = ad (.ent s0)
          · rw [z, he] at h
            cases h
            rw [z]
            exact upd_same
          · rw [upd_ne z]
            exact s3 _ _ (s2 _ _ ((hL b z).trans (sm _ _ h)))
        · cases h : H D2 with
          | none => rfl
          | some o => exact absurd (s2 _ _ ((hL D2 nE).trans (sm _ _ h))) (by rw [hD2]; exact fun z => by cases z)
        · by_cases z : b = ad (.ent s0)
          · rw [z, e3] at h
            cases h
            exact .inl fun xs y => by cases y
          · exact .inr (by rw [upd_ne z]; exact h)
end

/-! sorted() of reports: tuples of an int, an int and a bool, no two with the same first -/
/-- the value is such a tuple, its first the int k -/
def IsRep (h : Heap) (v : Value) (k : Int) : Prop := ∃ a o t u t2 b n, v = .ref a ∧ h.get? a = some o ∧ o.cls = .type "tuple" ∧ o.data = .seq #[.int k t, .int u t2, .bool b] n
theorem IsRep.keeps {h h' : Heap} {v : Value} {k : Int} (p : IsRep h v k) (kp : ∀ b o, h.get? b = some o → o.cls = .type "tuple" → h'.get? b = some o) : IsRep h' v k := by
  obtain ⟨a, o, t, u, t2, b, n, e, ho, hc, hd⟩ := p
  exact ⟨a, o, t, u, t2, b, n, e, kp a o ho hc, hc, hd⟩
theorem rep_firsts {h : Heap} {f : Value → Int} : ∀ {vs : List Value}, (∀ v ∈ vs, IsRep h v (f v)) → ∃ fs : List Value, PySem.W.KatTups h vs fs ∧ fs.length = vs.length ∧ ∀ u ∈ fs, ∃ x t, u = Value.int x t
  | [], _ => ⟨[], .nil, rfl, fun _ z => absurd z List.not_mem_nil⟩
  | v :: vs, hp => by
    obtain ⟨fs, h1, h2, h3⟩ := rep_firsts (vs := vs) fun u hu => hp u (List.mem_cons_of_mem _ hu)
    obtain ⟨a, o, t, u, t2, b, n, e, ho, hc, hd⟩ := hp v List.mem_cons_self
    generalize f v = x at hd
    subst e
    refine ⟨.int x t :: fs, PySem.W.KatTups.cons ho hc hd rfl h1, congrArg (· + 1) h2, fun u hu => ?_⟩
    rcases List.mem_cons.mp hu with z | z
    · exact ⟨_, _, z⟩
    · exact h3 u z
abbrev ltF {α : Type} (f : α → Int) (x y : α) : Bool := decide (f x < f y)
theorem swoF {α : Type} (f : α → Int) : SrtO.Swo (ltF f) := by
  refine ⟨fun x y h => ?_, fun x y z h1 h2 => ?_⟩
  · have := of_decide_eq_true h
    exact decide_eq_false (by omega)
  · have := of_decide_eq_false h1
    have := of_decide_eq_false h2
    exact decide_eq_false (by omega)
section
variable {prog : Program} {w : World} {A : Around} {E : Value → Shared → Prop} {s : Shared}
theorem reps_sortable {a : Addr} {vs : List Value} {f : Value → Int} (h0 : 0 < vs.length) (hp : ∀ v ∈ vs, IsRep s.heap v (f v)) (inj : ∀ v ∈ vs, ∀ u ∈ vs, f v = f u → v = u) (ha : ∀ o, s.heap.get? a = some o → o.cls ≠ .type "tuple") : SrtO.SortableO prog w A s a vs (ltF f) := by
  intro h' keep
  have hp' : ∀ v ∈ vs, IsRep h' v (f v) := fun v hm => (hp v hm).keeps fun b o e c => keep b o (fun z => by subst z; exact ha o e c) e
  obtain ⟨fs, h1, h2, h3⟩ := rep_firsts hp'
  refine ⟨tuples' true, fun Q E hq => ?_, fun p q hm hm' => ?_⟩
  · refine PySem.W.kat_kind (T := .type "int") h1 (by omega) (fun g hm => ?_) (by rfl) ?_
    · obtain ⟨x, t, rfl⟩ := h3 g hm
      exact PySem.W.Looks.now
    · have e : (Value.type "int" != Value.type "tuple") = true := by first | decide +kernel | rfl | decide
      rw [e]
      exact hq
  show wpAny (model prog w) A (keyLt' (tuples' true) p.1 q.1) (fun r s' => s' = { s with heap := h' } ∧ r = ltF f p.1 q.1) (fun _ _ => False) { s with heap := h' }
  by_cases same : p.1 = q.1
  · rw [← same]
    have no : ltF f p.1 p.1 = false := decide_eq_false (Int.lt_irrefl _)
    rw [no]
    obtain ⟨a1, o, t, u, t2, b, n, e, ho, hc, hd⟩ := hp' _ hm
    rw [e]
    refine PySem.W.kat_lt (s := { s with heap := h' }) ho hd ho hd ?_
    refine PySem.W.kat_cons (SeqAt.EqAt.int_int _ t _ t prog w _ _ ?_)
    rw [beq_self_eq_true]
    refine PySem.W.kat_yes (PySem.W.kat_cons (SeqAt.EqAt.int_int u t2 u t2 prog w _ _ ?_))
    rw [beq_self_eq_true]
    refine PySem.W.kat_yes (PySem.W.kat_cons (SeqAt.EqAt.bool_bool b b prog w _ _ ?_))
    rw [beq_self_eq_true]
    exact PySem.W.kat_yes (PySem.W.kat_nil ⟨rfl, rfl⟩)
  · have ne : f p.1 ≠ f q.1 := fun z => same (inj _ hm _ hm' z)
    unfold ltF
    have h4 := hp' _ hm
    have h5 := hp' _ hm'
    generalize f p.1 = x at ne h4 ⊢
    generalize f q.1 = y at ne h5 ⊢
    obtain ⟨a1, o, t, u, t2, b, n, e, ho, hc, hd⟩ := h4
    obtain ⟨a2, o', t', u', t2', b', n', e', ho', hc', hd'⟩ := h5
    rw [e, e']
    refine PySem.W.kat_lt (s := { s with heap := h' }) ho hd ho' hd' ?_
    refine PySem.W.kat_cons (SeqAt.EqAt.int_int x t y t' prog w _ _ ?_)
    rw [show (x == y) = false from beq_eq_false_iff_ne.mpr ne]
    exact PySem.W.kat_no (oneLt_int ⟨rfl, rfl⟩)
end
/-- sorted(xs), xs a list of such tuples whose firsts f tells: a new list of them, by their firsts -/
def rSortedR (K : PySem.W.Frag) : List V → Hp → VK → Prop := fun vs H Q => ∃ (a : Addr) (xs : List V) (f : V → Int), vs = [V.ref a] ∧ SqL K H a xs ∧ (∀ x ∈ xs, ∃ t u b, x = V.ref t ∧ H t = some (.tup [.int (f x), .int u, .bl b])) ∧ (∀ x ∈ xs, ∀ y ∈ xs, f x = f y → x = y) ∧
  ∀ ys p, ys.Perm xs → ys.Pairwise (fun x y => f x ≤ f y) → H p = none → Q (.ref p) (upd H p (.lst ys))
section
variable {X : Cx}
theorem cr_sortedR : CallR X (.builtin "sorted") (rSortedR X.K) := by
  intro pins s σ H vs us Q I r h
  obtain ⟨a, xs, f, rfl, hs, hx, inj, q⟩ := h
  obtain ⟨its, rv, hl, hz⟩ := I.list hs
  obtain ⟨u, rfl, ru⟩ := vals1 r
  obtain rfl : u = Value.ref a := ru
  obtain ⟨e1, e2⟩ := refs_back rv fun x m => by
    obtain ⟨t, _, _, e, _⟩ := hx x m
    exact ⟨t, e⟩
  have mem : ∀ v ∈ its, backV v ∈ xs := fun v hv => by rw [e1]; exact List.mem_map.mpr ⟨v, hv, rfl⟩
  have reps : ∀ v ∈ its, IsRep s.heap v (f (backV v)) := fun v hv => by
    obtain ⟨t, rfl⟩ := e2 v hv
    obtain ⟨t', u, b, e, ht⟩ := hx _ (mem _ hv)
    cases e
    obtain ⟨_, its2, r2, o, ho, hc, n, hd⟩ := I.hok _ _ ht
    obtain ⟨u1, u2, u3, rfl, ri, rj, rk⟩ : ∃ u1 u2 u3, its2 = [u1, u2, u3] ∧ RelV (.int (f (backV (.ref t)))) u1 ∧ RelV (.int u) u2 ∧ RelV (.bl b) u3 := by
      cases r2 with
      | cons r1 r2 =>
        cases r2 with
        | cons r3 r4 =>
          cases r4 with
          | cons r5 r6 =>
            cases r6
            exact ⟨_, _, _, rfl, r1, r3, r5⟩
    obtain ⟨t1, rfl⟩ := ri
    obtain ⟨t2, rfl⟩ := rj
    cases rk
    exact ⟨t, o, t1, u, t2, b, n, rfl, ho, hc, hd⟩
  have injI : ∀ v ∈ its, ∀ u ∈ its, f (backV v) = f (backV u) → v = u := fun v hv u hu e => by
    have z := inj _ (mem v hv) _ (mem u hu) e
    obtain ⟨t, rfl⟩ := e2 v hv
    obtain ⟨t', rfl⟩ := e2 u hu
    have z2 : V.ref t = V.ref t' := z
    cases z2
    rfl
  refine SrtO.sorted_ord (swoF fun v => f (backV v)) hl.isList (by rw [← rv.length]; exact hz) (fun h2 h₁ a1 ha kk => ?_) fun out hs2 hb => ?_
  · refine reps_sortable (s := { s with heap := h₁ }) (by omega) (fun v hm => (reps v hm).keeps fun b o e _ => (kk b o e).2) injI fun o e => ?_
    have e' : some o = some (seqObj "list" its.toArray 0) := e.symm.trans ha
    cases e'
    intro c
    exact absurd (Value.type.inj c) (by decide)
  · have pm : out.Perm its := hb.perm
    have h3 : ∀ u ∈ out, ∃ a, u = Value.ref a := fun u hu => e2 u (pm.mem_iff.mp hu)
    obtain ⟨n, hn⟩ := sortedAll_at s.heap its out.toArray
    have pm2 : (out.map backV).Perm xs := by rw [e1]; exact pm.map backV
    refine ⟨.ref (s.heap.objs.size + 1), upd H (s.heap.objs.size + 1) (.lst (out.map backV)), I.laid (t' := s.toks) (fun b o e => sortedAll_old e) (Nat.le_succ _) ⟨?_, out, n, vals_back h3, hn⟩, rfl, q _ _ pm2 ?_ (I.hok.fresh (Nat.le_succ _))⟩
    · rw [pm2.length_eq]
      exact hz
    · rw [List.pairwise_map]
      refine hs2.imp fun {x y} h => ?_
      have z : ¬ f (backV y) < f (backV x) := of_decide_eq_false h
      omega
end

/-! the law's picture: a cell for each label -/
structure Lc where
  word : Str
  armed : Bool
  pend : Bool
  unread : Int
def upTo (n : Nat) : List Int := (List.range n).map fun k : Nat => (k : Int)
structure Fit (S : Sys) (cs : List Lc) : Prop where
  few : cs.length ≤ 6
  procs : S.procs = [0]
  N : S.N = 8
  tlen : (S.tab 0).length = 8
  tab : ∀ i : Nat, i < 8 → (S.tab 0)[i]? = some (if i ≤ cs.length then some (i : Int) else none)
  next : S.next = cs.length + 1
  sets : S.sets = [0]
  srcs : S.srcs = (upTo cs.length).map (· + 1)
  ents : S.ents 0 = upTo cs.length
  reg : ∀ (k : Nat) c, cs[k]? = some c → S.reg 0 k = ⟨k + 1, k + 1, c.word, c.armed⟩
  unit : ∀ (k : Nat) c, cs[k]? = some c → S.unit ((k : Int) + 1) = (c.unread, false)
  ok : ∀ (k : Nat) c, cs[k]? = some c → c.word ∈ wordsL ∧ 0 ≤ c.unread ∧ (c.word ≠ "once" → c.armed = true)
  nd : (S.que 0).Nodup
  que : ∀ l, l ∈ S.que 0 ↔ ∃ (k : Nat) (c : Lc), l = (k : Int) ∧ cs[k]? = some c ∧ c.pend = true
theorem mem_upTo {n : Nat} {x : Int} : x ∈ upTo n ↔ ∃ k : Nat, k < n ∧ x = (k : Int) := by
  unfold upTo
  rw [List.mem_map]
  exact ⟨fun ⟨k, h, e⟩ => ⟨k, List.mem_range.mp h, e.symm⟩, fun ⟨k, h, e⟩ => ⟨k, List.mem_range.mpr h, e.symm⟩⟩
theorem upTo_succ (n : Nat) : upTo (n + 1) = upTo n ++ [(n : Int)] := by
  unfold upTo
  rw [List.range_succ, List.map_append]
  rfl
theorem upTo_nodup (n : Nat) : (upTo n).Nodup := List.pairwise_map.mpr (List.nodup_range.imp fun h z => h (by omega))
theorem upTo_len (n : Nat) : (upTo n).length = n := by
  unfold upTo
  rw [List.length_map, List.length_range]
section
variable {S : Sys} {cs : List Lc}
theorem Fit.at_ (F : Fit S cs) {k : Nat} {c : Lc} (h : cs[k]? = some c) : k < cs.length := (List.getElem?_eq_some_iff.mp h).1
theorem Fit.means0 (F : Fit S cs) : Means S 0 0 0 := ⟨by rw [F.procs]; decide, by decide, by rw [F.N]; decide, by
  have := F.tab 0 (by decide)
  rw [if_pos (Nat.zero_le _)] at this
  exact this⟩
theorem Fit.means (F : Fit S cs) {k : Nat} {c : Lc} (h : cs[k]? = some c) : Means S 0 ((k : Int) + 1) ((k : Int) + 1) := by
  have := F.at_ h
  have := F.few
  refine ⟨by rw [F.procs]; decide, by omega, by rw [F.N]; omega, ?_⟩
  have e : ((k : Int) + 1).toNat = k + 1 := by omega
  rw [e, F.tab (k + 1) (by omega), if_pos (by omega)]
  rfl
theorem Fit.src (F : Fit S cs) {k : Nat} {c : Lc} (h : cs[k]? = some c) : (k : Int) + 1 ∈ S.srcs := by
  rw [F.srcs]
  exact List.mem_map.mpr ⟨_, mem_upTo.mpr ⟨k, F.at_ h, rfl⟩, rfl⟩
theorem nodup_le : ∀ (n : Nat) {l : List Int}, l.Nodup → (∀ x ∈ l, 0 ≤ x ∧ x.toNat < n) → l.length ≤ n
  | 0, l, _, h => by
    cases l with
    | nil => exact Nat.le_refl _
    | cons x l => exact absurd (h x List.mem_cons_self).2 (Nat.not_lt_zero _)
  | n + 1, l, nd, h => by
    by_cases hn : (n : Int) ∈ l
    · have e1 := List.length_erase_of_mem hn
      have ih := nodup_le n (nd.erase (n : Int)) fun x hx => by
        have hm := (List.Nodup.mem_erase_iff nd).mp hx
        have h1 := h x hm.2
        refine ⟨h1.1, ?_⟩
        have : x ≠ (n : Int) := hm.1
        omega
      omega
    · have ih := nodup_le n nd fun x hx => by
        have h1 := h x hx
        refine ⟨h1.1, ?_⟩
        have : x ≠ (n : Int) := fun z => hn (z ▸ hx)
        omega
      omega
theorem nodup_few {n : Nat} {l : List Int} (h : l.Nodup) (hl : ∀ x ∈ l, x ∈ upTo n) : l.length ≤ n := nodup_le n h fun x hx => by
  obtain ⟨k, hk, rfl⟩ := mem_upTo.mp (hl x hx)
  exact ⟨by omega, by omega⟩
theorem Fit.quel (F : Fit S cs) : (S.que 0).length ≤ 6 := Nat.le_trans (nodup_few (n := cs.length) F.nd fun x hx => by
  obtain ⟨k, c, rfl, h, _⟩ := (F.que x).mp hx
  exact mem_upTo.mpr ⟨k, F.at_ h, rfl⟩) F.few
theorem Fit.small (F : Fit S cs) : Small S := by
  have := F.quel
  have := F.few
  refine ⟨fun s hs => ?_, fun s hs => ?_, ?_, by rw [F.sets]; decide, by rw [F.sets]; decide⟩
  · rw [F.sets] at hs
    rw [List.mem_singleton.mp hs]
    omega
  · rw [F.sets] at hs
    rw [List.mem_singleton.mp hs, F.ents, upTo_len]
    omega
  · rw [F.srcs, List.length_map, upTo_len]
    omega
theorem Fit.key (F : Fit S cs) {k j : Nat} (hj : j < cs.length) : keyOf (S.reg 0) ((k : Int) + 1) ((k : Int) + 1) (j : Int) = decide (j = k) := by
  have e := F.reg j cs[j] (List.getElem?_eq_getElem hj)
  unfold keyOf
  rw [e]
  show (decide ((j : Int) + 1 = k + 1) && decide ((j : Int) + 1 = k + 1)) = _
  by_cases h : j = k
  · rw [decide_eq_true h, decide_eq_true (by omega)]
    rfl
  · rw [decide_eq_false h, decide_eq_false (by omega)]
    rfl
theorem Fit.find (F : Fit S cs) {k : Nat} {c : Lc} (h : cs[k]? = some c) : (S.ents 0).find? (keyOf (S.reg 0) ((k : Int) + 1) ((k : Int) + 1)) = some (k : Int) := by
  cases e : (S.ents 0).find? (keyOf (S.reg 0) ((k : Int) + 1) ((k : Int) + 1)) with
  | none =>
    have := List.find?_eq_none.mp e (k : Int) (by rw [F.ents]; exact mem_upTo.mpr ⟨k, F.at_ h, rfl⟩)
    rw [F.key (F.at_ h)] at this
    exact absurd (decide_eq_true rfl) this
  | some l =>
    have m := List.mem_of_find?_eq_some e
    rw [F.ents] at m
    obtain ⟨j, hj, rfl⟩ := mem_upTo.mp m
    have := List.find?_some e
    rw [F.key hj] at this
    rw [of_decide_eq_true this]
theorem fit_start : Fit (newSet (newSys 4 8) 0 0) [] := by
  refine ⟨by decide, rfl, rfl, rfl, fun i hi => ?_, rfl, rfl, rfl, rfl, fun k c h => ?_, fun k c h => ?_, fun k c h => ?_, List.nodup_nil, fun l => ?_⟩
  · have e : ((newSet (newSys 4 8) 0 0).tab 0) = [some 0, none, none, none, none, none, none, none] := rfl
    rw [e]
    match i, hi with
    | 0, _ => rfl
    | 1, _ => rfl
    | 2, _ => rfl
    | 3, _ => rfl
    | 4, _ => rfl
    | 5, _ => rfl
    | 6, _ => rfl
    | 7, _ => rfl
  · simp at h
  · simp at h
  · simp at h
  · show l ∈ ([] : List Int) ↔ _
    simp
/-- a cell written, the rest as it was -/
theorem Fit.cell (F : Fit S cs) {S' : Sys} {k : Nat} {c c' : Lc} (h : cs[k]? = some c) (hp : S'.procs = S.procs) (hN : S'.N = S.N) (ht : S'.tab = S.tab) (hn : S'.next = S.next) (hs : S'.sets = S.sets) (hr : S'.srcs = S.srcs) (he : S'.ents = S.ents)
    (hg : S'.reg 0 k = ⟨k + 1, k + 1, c'.word, c'.armed⟩) (hg2 : ∀ j : Int, j ≠ k → S'.reg 0 j = S.reg 0 j) (hu : S'.unit ((k : Int) + 1) = (c'.unread, false)) (hu2 : ∀ t : Int, t ≠ (k : Int) + 1 → S'.unit t = S.unit t) (ho : c'.word ∈ wordsL ∧ 0 ≤ c'.unread ∧ (c'.word ≠ "once" → c'.armed = true))
    (nd : (S'.que 0).Nodup) (q1 : (k : Int) ∈ S'.que 0 ↔ c'.pend = true) (q2 : ∀ j : Int, j ≠ k → (j ∈ S'.que 0 ↔ j ∈ S.que 0)) : Fit S' (cs.set k c') := by
  have hk := F.at_ h
  have gs : ∀ {j : Nat} {d : Lc}, (cs.set k c')[j]? = some d → (j = k ∧ d = c') ∨ (j ≠ k ∧ cs[j]? = some d) := fun {j d} e => by
    by_cases z : j = k
    · subst z
      rw [List.getElem?_set_self hk] at e
      exact .inl ⟨rfl, (Option.some.inj e).symm⟩
    · rw [List.getElem?_set_ne (Ne.symm z)] at e
      exact .inr ⟨z, e⟩
  have sl : (cs.set k c').length = cs.length := List.length_set
  refine ⟨by rw [sl]; exact F.few, hp.trans F.procs, hN.trans F.N, by rw [ht]; exact F.tlen, by rw [ht, sl]; exact F.tab, by rw [hn, sl]; exact F.next, hs.trans F.sets, by rw [hr, sl]; exact F.srcs, by rw [he, sl]; exact F.ents, fun j d e => ?_, fun j d e => ?_, fun j d e => ?_, nd, fun l => ?_⟩
  · rcases gs e with ⟨rfl, rfl⟩ | ⟨z, e⟩
    · exact hg
    · rw [hg2 j (by omega)]
      exact F.reg j d e
  · rcases gs e with ⟨rfl, rfl⟩ | ⟨z, e⟩
    · exact hu
    · rw [hu2 _ (by omega)]
      exact F.unit j d e
  · rcases gs e with ⟨rfl, rfl⟩ | ⟨z, e⟩
    · exact ho
    · exact F.ok j d e
  · by_cases z : l = (k : Int)
    · subst z
      rw [q1]
      constructor
      · exact fun p => ⟨k, c', rfl, List.getElem?_set_self hk, p⟩
      · rintro ⟨j, d, e, e2, p⟩
        obtain rfl : j = k := by omega
        rw [List.getElem?_set_self hk] at e2
        cases e2
        exact p
    · rw [q2 l z, F.que]
      constructor
      · rintro ⟨j, d, rfl, e2, p⟩
        exact ⟨j, d, rfl, by rw [List.getElem?_set_ne (by omega)]; exact e2, p⟩
      · rintro ⟨j, d, rfl, e2, p⟩
        rw [List.getElem?_set_ne (by omega)] at e2
        exact ⟨j, d, rfl, e2, p⟩
theorem Fit.getat (F : Fit S cs) {j : Nat} {d : Lc} {x : Lc} (e : (cs ++ [x])[j]? = some d) : (j < cs.length ∧ cs[j]? = some d) ∨ (j = cs.length ∧ d = x) := by
  by_cases z : j < cs.length
  · rw [List.getElem?_append_left z] at e
    exact .inl ⟨z, e⟩
  · rw [List.getElem?_append_right (by omega)] at e
    have : j - cs.length = 0 := by
      cases q : j - cs.length with
      | zero => rfl
      | succ m => rw [q] at e; simp at e
    rw [this] at e
    exact .inr ⟨by omega, (Option.some.inj e).symm⟩
/-- one more source, registered -/
theorem Fit.free (F : Fit S cs) (h : cs.length < 6) : firstFree (S.tab 0) (cs.length + 1) := by
  refine ⟨?_, fun i hi => ?_⟩
  · rw [F.tab _ (by omega), if_neg (by omega)]
  · rw [F.tab _ (by omega), if_pos (by omega)]
    exact ⟨_, rfl⟩
theorem Fit.grow (F : Fit S cs) (h : cs.length < 6) {wd : Str} (hw : wd ∈ wordsL) : Fit (added (newSource S 0 (cs.length + 1)) 0 (cs.length : Int) ⟨(cs.length : Int) + 1, (cs.length : Int) + 1, wd, true⟩) (cs ++ [⟨wd, true, false, 0⟩]) := by
  have ln : (cs ++ [(⟨wd, true, false, 0⟩ : Lc)]).length = cs.length + 1 := by rw [List.length_append]; rfl
  have u0 : (newSource S 0 (cs.length + 1)).unit ((cs.length : Int) + 1) = (0, false) := if_pos F.next.symm
  have un : ∀ t, t ≠ (cs.length : Int) + 1 → (newSource S 0 (cs.length + 1)).unit t = S.unit t := fun t z => if_neg (by rw [F.next]; exact z)
  have tb : (newSource S 0 (cs.length + 1)).tab 0 = (S.tab 0).set (cs.length + 1) (some S.next) := by
    show (if (0 : Int) = 0 then (S.tab 0).set (cs.length + 1) (some S.next) else S.tab 0) = _
    rw [if_pos rfl]
  have rd : ready (newSource S 0 (cs.length + 1)) ((cs.length : Int) + 1) = false := by
    unfold ready
    rw [u0]
    rfl
  refine ⟨by rw [ln]; omega, F.procs, F.N, by show ((newSource S 0 (cs.length + 1)).tab 0).length = 8; rw [tb, List.length_set]; exact F.tlen, fun i hi => ?_, by rw [ln]; show S.next + 1 = _; rw [F.next]; omega, F.sets, ?_, ?_, fun k c e => ?_, fun k c e => ?_, fun k c e => ?_, ?_, fun l => ?_⟩
  · show ((newSource S 0 (cs.length + 1)).tab 0)[i]? = _
    rw [tb, ln]
    by_cases z : i = cs.length + 1
    · subst z
      rw [List.getElem?_set_self (by rw [F.tlen]; omega), if_pos (Nat.le_refl _), F.next]
      rfl
    · rw [List.getElem?_set_ne (Ne.symm z), F.tab i hi]
      by_cases y : i ≤ cs.length
      · rw [if_pos y, if_pos (by omega)]
      · rw [if_neg y, if_neg (by omega)]
  · show S.srcs ++ [S.next] = _
    rw [ln, upTo_succ, List.map_append, F.srcs, F.next]
    rfl
  · show (if (0 : Int) = 0 then S.ents 0 ++ [(cs.length : Int)] else S.ents 0) = _
    rw [if_pos rfl, ln, upTo_succ, F.ents]
  · show (if (0 : Int) = 0 ∧ (k : Int) = cs.length then _ else S.reg 0 k) = _
    rcases F.getat e with ⟨z, e⟩ | ⟨rfl, rfl⟩
    · rw [if_neg (by omega)]
      exact F.reg k c e
    · rw [if_pos ⟨rfl, rfl⟩]
  · show (newSource S 0 (cs.length + 1)).unit _ = _
    rcases F.getat e with ⟨z, e⟩ | ⟨rfl, rfl⟩
    · rw [un _ (by omega)]
      exact F.unit k c e
    · exact u0
  · rcases F.getat e with ⟨z, e⟩ | ⟨rfl, rfl⟩
    · exact F.ok k c e
    · exact ⟨hw, Int.le_refl _, fun _ => rfl⟩
  · show (if (0 : Int) = 0 then (if ready (newSource S 0 (cs.length + 1)) ((cs.length : Int) + 1) = true then qAdd (cs.length : Int) (S.que 0) else S.que 0) else S.que 0).Nodup
    rw [if_pos rfl, if_neg (by rw [rd]; decide)]
    exact F.nd
  · show l ∈ (if (0 : Int) = 0 then (if ready (newSource S 0 (cs.length + 1)) ((cs.length : Int) + 1) = true then qAdd (cs.length : Int) (S.que 0) else S.que 0) else S.que 0) ↔ _
    rw [if_pos rfl, if_neg (by rw [rd]; decide), F.que]
    constructor
    · rintro ⟨k, c, rfl, e, p⟩
      exact ⟨k, c, rfl, by rw [List.getElem?_append_left (F.at_ e)]; exact e, p⟩
    · rintro ⟨k, c, rfl, e, p⟩
      rcases F.getat e with ⟨z, e⟩ | ⟨rfl, rfl⟩
      · exact ⟨k, c, rfl, e, p⟩
      · cases p
theorem Fit.change (F : Fit S cs) {k : Nat} {c : Lc} (h : cs[k]? = some c) {wd : Str} (hw : wd ∈ wordsL) : Fit (changed S 0 (k : Int) ⟨(k : Int) + 1, (k : Int) + 1, wd, true⟩) (cs.set k ⟨wd, true, c.pend || decide (c.unread > 0), c.unread⟩) := by
  have rd : ready S ((k : Int) + 1) = decide (c.unread > 0) := by
    unfold ready
    rw [F.unit k c h, Bool.or_false]
  have eq : (changed S 0 (k : Int) ⟨(k : Int) + 1, (k : Int) + 1, wd, true⟩).que 0 = if c.unread > 0 then qAdd (k : Int) (S.que 0) else S.que 0 := by
    show (if (0 : Int) = 0 then (if ready S ((k : Int) + 1) = true then qAdd (k : Int) (S.que 0) else S.que 0) else S.que 0) = _
    rw [if_pos rfl, rd]
    by_cases z : c.unread > 0
    · rw [decide_eq_true z, if_pos rfl, if_pos z]
    · rw [decide_eq_false z, if_neg (by decide), if_neg z]
  refine F.cell h rfl rfl rfl rfl rfl rfl rfl (if_pos ⟨rfl, rfl⟩) (fun j z => if_neg fun y => z y.2) (F.unit k c h) (fun _ _ => rfl) ⟨hw, (F.ok k c h).2.1, fun _ => rfl⟩ ?_ ?_ fun j z => ?_
  · rw [eq]
    split
    · exact qAdd_nodup F.nd
    · exact F.nd
  · rw [eq]
    have q : (k : Int) ∈ S.que 0 ↔ c.pend = true := by
      rw [F.que]
      constructor
      · rintro ⟨j, d, e, e2, p⟩
        obtain rfl : j = k := by omega
        rw [h] at e2
        cases e2
        exact p
      · exact fun p => ⟨k, c, rfl, h, p⟩
    show _ ↔ (c.pend || decide (c.unread > 0)) = true
    rw [Bool.or_eq_true, decide_eq_true_eq, ← q]
    split <;> rename_i z
    · rw [mem_qAdd]
      exact ⟨fun _ => .inr z, fun _ => .inl rfl⟩
    · exact ⟨.inl, fun y => y.resolve_right z⟩
  · rw [eq]
    split
    · rw [mem_qAdd]
      exact ⟨fun y => y.resolve_left z, .inr⟩
    · exact Iff.rfl
theorem Fit.read (F : Fit S cs) {k : Nat} {c : Lc} (h : cs[k]? = some c) : taken (S.unit ((k : Int) + 1)).1 none = c.unread ∧ Fit (readS S ((k : Int) + 1) none) (cs.set k ⟨c.word, c.armed, c.pend, 0⟩) := by
  have u := F.unit k c h
  have q : (k : Int) ∈ S.que 0 ↔ c.pend = true := by
    rw [F.que]
    constructor
    · rintro ⟨j, d, e, e2, p⟩
      obtain rfl : j = k := by omega
      rw [h] at e2
      cases e2
      exact p
    · exact fun p => ⟨k, c, rfl, h, p⟩
  refine ⟨by rw [u]; rfl, F.cell h rfl rfl rfl rfl rfl rfl rfl (F.reg k c h) (fun _ _ => rfl) ?_ (fun t z => if_neg z) ⟨(F.ok k c h).1, Int.le_refl _, (F.ok k c h).2.2⟩ F.nd q fun _ _ => Iff.rfl⟩
  show (if (k : Int) + 1 = (k : Int) + 1 then ((S.unit ((k : Int) + 1)).1 - taken (S.unit ((k : Int) + 1)).1 none, (S.unit ((k : Int) + 1)).2) else _) = _
  rw [if_pos rfl, u]
  show ((c.unread - c.unread : Int), false) = _
  rw [Int.sub_self]
theorem Fit.inq (F : Fit S cs) {k : Nat} {c : Lc} (h : cs[k]? = some c) : (k : Int) ∈ S.que 0 ↔ c.pend = true := by
  rw [F.que]
  constructor
  · rintro ⟨j, d, e, e2, p⟩
    obtain rfl : j = k := by omega
    rw [h] at e2
    cases e2
    exact p
  · exact fun p => ⟨k, c, rfl, h, p⟩
theorem mem_notice {reg : Int → Reg} {s x : Int} : ∀ {ls qs : List Int}, x ∈ noticeQ reg s ls qs ↔ x ∈ qs ∨ (x ∈ ls ∧ (reg x).src = s ∧ (reg x).armed = true)
  | [], qs => ⟨.inl, fun z => z.elim id fun y => absurd y.1 List.not_mem_nil⟩
  | l :: ls, qs => by
    show x ∈ noticeQ reg s ls (if (reg l).src = s ∧ (reg l).armed = true then qAdd l qs else qs) ↔ _
    rw [mem_notice, List.mem_cons]
    by_cases z : (reg l).src = s ∧ (reg l).armed = true
    · rw [if_pos z, mem_qAdd]
      constructor
      · rintro ((e | e) | e)
        · subst e
          exact .inr ⟨.inl rfl, z⟩
        · exact .inl e
        · exact .inr ⟨.inr e.1, e.2⟩
      · rintro (e | ⟨e | e, y⟩)
        · exact .inl (.inr e)
        · exact .inl (.inl e)
        · exact .inr ⟨e, y⟩
    · rw [if_neg z]
      constructor
      · rintro (e | e)
        · exact .inl e
        · exact .inr ⟨.inr e.1, e.2⟩
      · rintro (e | ⟨e | e, y⟩)
        · exact .inl e
        · exact absurd (e ▸ y) z
        · exact .inr ⟨e, y⟩
theorem notice_nodup {reg : Int → Reg} {s : Int} : ∀ {ls qs : List Int}, qs.Nodup → (noticeQ reg s ls qs).Nodup
  | [], _, h => h
  | l :: ls, qs, h => by
    show (noticeQ reg s ls (if (reg l).src = s ∧ (reg l).armed = true then qAdd l qs else qs)).Nodup
    split
    · exact notice_nodup (qAdd_nodup h)
    · exact notice_nodup h
theorem Fit.arrive (F : Fit S cs) {k : Nat} {c : Lc} (h : cs[k]? = some c) : Fit (arrived S ((k : Int) + 1) 1) (cs.set k ⟨c.word, c.armed, c.pend || c.armed, c.unread + 1⟩) := by
  have eq : (arrived S ((k : Int) + 1) 1).que 0 = noticeQ (S.reg 0) ((k : Int) + 1) (S.ents 0) (S.que 0) := by
    show (if (0 : Int) ∈ S.sets then noticeQ (S.reg 0) ((k : Int) + 1) (S.ents 0) (S.que 0) else S.que 0) = _
    rw [if_pos (by rw [F.sets]; decide)]
  have rg := F.reg k c h
  refine F.cell h rfl rfl rfl rfl rfl rfl rfl rg (fun _ _ => rfl) ?_ (fun t z => if_neg z) ⟨(F.ok k c h).1, by have := (F.ok k c h).2.1; show 0 ≤ c.unread + 1; omega, (F.ok k c h).2.2⟩ ?_ ?_ fun j z => ?_
  · show (if (k : Int) + 1 = (k : Int) + 1 then ((S.unit ((k : Int) + 1)).1 + 1, false) else _) = _
    rw [if_pos rfl, F.unit k c h]
  · rw [eq]
    exact notice_nodup F.nd
  · rw [eq, mem_notice, F.inq h, rg]
    show _ ↔ (c.pend || c.armed) = true
    rw [Bool.or_eq_true]
    exact ⟨fun y => y.imp id fun y => y.2.2, fun y => y.imp id fun y => ⟨by rw [F.ents]; exact mem_upTo.mpr ⟨k, F.at_ h, rfl⟩, rfl, y⟩⟩
  · rw [eq, mem_notice]
    refine ⟨fun y => y.elim id fun y => ?_, .inl⟩
    obtain ⟨y1, y2, _⟩ := y
    rw [F.ents] at y1
    obtain ⟨i, hi, rfl⟩ := mem_upTo.mp y1
    rw [F.reg i cs[i] (List.getElem?_eq_getElem hi)] at y2
    exact absurd (show (i : Int) = k by have : (i : Int) + 1 = k + 1 := y2; omega) z
/-! wait of all -/
def rdyL (unit : Int → Int × Bool) (reg : Int → Reg) (l : Int) : Bool := decide (0 < (unit (reg l).src).1) || (unit (reg l).src).2
theorem take_all (unit : Int → Int × Bool) (reg : Int → Reg) : ∀ (ls acc : List Int) (s : TSt), s.que = ls ++ acc → ls.Nodup → s.reps.length + ls.length < 1000 → (∀ j, (s.reg j).src = (reg j).src ∧ (s.reg j).word = (reg j).word) →
    (takeAll unit 1000 ls s).reps = s.reps ++ (ls.filter (rdyL unit reg)).map (fun l => (l, unit (reg l).src)) ∧ (takeAll unit 1000 ls s).que = acc ++ ls.filter (fun l => rdyL unit reg l && decide ((reg l).word = "level")) ∧
    ∀ j, (takeAll unit 1000 ls s).reg j = if j ∈ ls ∧ rdyL unit reg j = true ∧ (reg j).word = "once" then { s.reg j with armed := false } else s.reg j
  | [], acc, s, hq, _, _, _ => by
    refine ⟨(List.append_nil _).symm, ?_, fun j => ?_⟩
    · show s.que = acc ++ []
      rw [hq, List.append_nil]
      rfl
    · rw [if_neg fun z => List.not_mem_nil z.1]
      rfl
  | l :: ls, acc, s, hq, nd, hl, hr => by
    obtain ⟨nl, nd⟩ := List.nodup_cons.mp nd
    rw [List.length_cons] at hl
    have e0 : takeAll unit 1000 (l :: ls) s = takeAll unit 1000 ls (takeStep unit s l) := by
      show (if (s.reps.length : Int) = 1000 then s else _) = _
      rw [if_neg (by omega)]
    rw [e0]
    have hd : s.que.drop 1 = ls ++ acc := by rw [hq]; rfl
    have e1 : (decide (0 < (unit (s.reg l).src).1) || (unit (s.reg l).src).2) = rdyL unit reg l := by
      unfold rdyL
      rw [(hr l).1]
    unfold takeStep
    rw [e1, (hr l).2, (hr l).1, hd]
    by_cases z : rdyL unit reg l = true
    · rw [if_pos z]
      have st : ∀ j, (settled s.reg l j).src = (reg j).src ∧ (settled s.reg l j).word = (reg j).word := fun j => by
        unfold settled
        split <;> rename_i y
        · rw [y.1]
          exact hr l
        · exact hr j
      obtain ⟨h1, h2, h3⟩ := take_all unit reg ls (acc ++ if (reg l).word = "level" then [l] else []) ⟨s.reps ++ [(l, (unit (reg l).src).1, (unit (reg l).src).2)], if (reg l).word = "level" then (ls ++ acc) ++ [l] else ls ++ acc, settled s.reg l⟩ (by
        show (if (reg l).word = "level" then (ls ++ acc) ++ [l] else ls ++ acc) = _
        split
        · rw [List.append_assoc]
        · rw [List.append_nil]) nd (by
        show (s.reps ++ [_]).length + ls.length < 1000
        rw [List.length_append]
        show s.reps.length + 1 + ls.length < 1000
        omega) st
      refine ⟨?_, ?_, fun j => ?_⟩
      · rw [h1, List.filter_cons_of_pos z, List.map_cons]
        show (s.reps ++ [_]) ++ _ = _
        rw [List.append_assoc]
        rfl
      · rw [h2, List.filter_cons, z, Bool.true_and]
        by_cases y : (reg l).word = "level"
        · rw [if_pos y, decide_eq_true y, if_pos rfl, List.append_assoc]
          rfl
        · rw [if_neg y, decide_eq_false y, if_neg (by decide), List.append_nil]
      · rw [h3]
        show (if j ∈ ls ∧ rdyL unit reg j = true ∧ (reg j).word = "once" then { settled s.reg l j with armed := false } else settled s.reg l j) = _
        have sj : settled s.reg l j = if j = l ∧ (reg l).word = "once" then { s.reg l with armed := false } else s.reg j := by
          unfold settled
          rw [(hr l).2]
        by_cases y : j = l
        · subst y
          rw [if_neg (fun w => nl w.1), sj]
          by_cases o : (reg j).word = "once"
          · rw [if_pos ⟨rfl, o⟩, if_pos ⟨List.mem_cons_self, z, o⟩]
          · rw [if_neg (fun w => o w.2), if_neg (fun w => o w.2.2)]
        · have sj2 : settled s.reg l j = s.reg j := sj.trans (if_neg fun w => y w.1)
          rw [sj2]
          by_cases m : j ∈ ls ∧ rdyL unit reg j = true ∧ (reg j).word = "once"
          · rw [if_pos m, if_pos ⟨List.mem_cons_of_mem _ m.1, m.2⟩]
          · rw [if_neg m, if_neg (fun w => m ⟨(List.mem_cons.mp w.1).resolve_left y, w.2⟩)]
    · have z' : rdyL unit reg l = false := Bool.eq_false_iff.mpr z
      rw [if_neg z]
      obtain ⟨h1, h2, h3⟩ := take_all unit reg ls acc ⟨s.reps, ls ++ acc, s.reg⟩ rfl nd (by show s.reps.length + ls.length < 1000; omega) hr
      refine ⟨?_, ?_, fun j => ?_⟩
      · rw [h1, List.filter_cons_of_neg z]
      · rw [h2, List.filter_cons, z', Bool.false_and, if_neg (by decide)]
      · rw [h3]
        by_cases m : j ∈ ls ∧ rdyL unit reg j = true ∧ (reg j).word = "once"
        · rw [if_pos m, if_pos ⟨List.mem_cons_of_mem _ m.1, m.2⟩]
        · rw [if_neg m, if_neg (fun w : j ∈ l :: ls ∧ rdyL unit reg j = true ∧ (reg j).word = "once" => m ⟨(List.mem_cons.mp w.1).resolve_left (fun e => z (by rw [← e]; exact w.2.1)), w.2⟩)]
/-- a cell behind a wait for all -/
def heard (c : Lc) : Bool := c.pend && decide (c.unread > 0)
def afterW (c : Lc) : Lc := if heard c = true then ⟨c.word, !decide (c.word = "once"), decide (c.word = "level"), c.unread⟩ else ⟨c.word, c.armed, false, c.unread⟩
theorem Fit.rdy (F : Fit S cs) {k : Nat} {c : Lc} (h : cs[k]? = some c) : rdyL S.unit (S.reg 0) (k : Int) = decide (c.unread > 0) := by
  unfold rdyL
  rw [F.reg k c h, F.unit k c h, Bool.or_false]
theorem Fit.takes (F : Fit S cs) : (took S 0 1000).reps = ((S.que 0).filter (rdyL S.unit (S.reg 0))).map (fun l => (l, S.unit (S.reg 0 l).src)) ∧ (took S 0 1000).que = (S.que 0).filter (fun l => rdyL S.unit (S.reg 0) l && decide ((S.reg 0 l).word = "level")) ∧
    ∀ j, (took S 0 1000).reg j = if j ∈ S.que 0 ∧ rdyL S.unit (S.reg 0) j = true ∧ (S.reg 0 j).word = "once" then { S.reg 0 j with armed := false } else S.reg 0 j := by
  have ql := F.quel
  obtain ⟨h1, h2, h3⟩ := take_all S.unit (S.reg 0) (S.que 0) [] ⟨[], S.que 0, S.reg 0⟩ (List.append_nil _).symm F.nd (by show 0 + (S.que 0).length < 1000; omega) fun _ => ⟨rfl, rfl⟩
  exact ⟨h1, h2, h3⟩
theorem Fit.wait (F : Fit S cs) : Fit (waited S 0 1000) (cs.map afterW) := by
  obtain ⟨_, h2, h3⟩ := F.takes
  have q0 : (waited S 0 1000).que 0 = (S.que 0).filter (fun l => rdyL S.unit (S.reg 0) l && decide ((S.reg 0 l).word = "level")) := by
    show (if (0 : Int) = 0 then (took S 0 1000).que else S.que 0) = _
    rw [if_pos rfl, h2]
  have r0 : ∀ j, (waited S 0 1000).reg 0 j = if j ∈ S.que 0 ∧ rdyL S.unit (S.reg 0) j = true ∧ (S.reg 0 j).word = "once" then { S.reg 0 j with armed := false } else S.reg 0 j := fun j => by
    show (if (0 : Int) = 0 then (took S 0 1000).reg else S.reg 0) j = _
    rw [if_pos rfl, h3]
  have gm : ∀ {k : Nat} {d : Lc}, (cs.map afterW)[k]? = some d → ∃ c, cs[k]? = some c ∧ d = afterW c := fun {k d} e => by
    rw [List.getElem?_map] at e
    cases h : cs[k]? with
    | none => rw [h] at e; cases e
    | some c => rw [h] at e; exact ⟨c, rfl, (Option.some.inj e).symm⟩
  have wd : ∀ c, (afterW c).word = c.word ∧ (afterW c).unread = c.unread := fun c => by
    unfold afterW
    split <;> exact ⟨rfl, rfl⟩
  have hear : ∀ {k : Nat} {c : Lc}, cs[k]? = some c → ((k : Int) ∈ S.que 0 ∧ rdyL S.unit (S.reg 0) k = true ↔ heard c = true) := fun {k c} h => by
    rw [F.inq h, F.rdy h]
    unfold heard
    rw [Bool.and_eq_true]
  refine ⟨by rw [List.length_map]; exact F.few, F.procs, F.N, F.tlen, by rw [List.length_map]; exact F.tab, by rw [List.length_map]; exact F.next, F.sets, by rw [List.length_map]; exact F.srcs, by rw [List.length_map]; exact F.ents, fun k d e => ?_, fun k d e => ?_, fun k d e => ?_, by rw [q0]; exact F.nd.filter _, fun l => ?_⟩
  · obtain ⟨c, h, rfl⟩ := gm e
    have rg := F.reg k c h
    have hh := hear h
    rw [r0, rg]
    show (if (k : Int) ∈ S.que 0 ∧ rdyL S.unit (S.reg 0) k = true ∧ c.word = "once" then (⟨(k : Int) + 1, (k : Int) + 1, c.word, false⟩ : Reg) else ⟨(k : Int) + 1, (k : Int) + 1, c.word, c.armed⟩) = ⟨(k : Int) + 1, (k : Int) + 1, (afterW c).word, (afterW c).armed⟩
    rw [(wd c).1]
    unfold afterW
    by_cases z : heard c = true
    · rw [if_pos z]
      obtain ⟨y1, y2⟩ := hh.mpr z
      by_cases o : c.word = "once"
      · rw [if_pos ⟨y1, y2, o⟩]
        show (⟨_, _, _, false⟩ : Reg) = ⟨_, _, _, !decide (c.word = "once")⟩
        rw [decide_eq_true o]
        rfl
      · rw [if_neg (fun w => o w.2.2)]
        show (⟨_, _, _, c.armed⟩ : Reg) = ⟨_, _, _, !decide (c.word = "once")⟩
        rw [decide_eq_false o, (F.ok k c h).2.2 o]
        rfl
    · rw [if_neg z, if_neg (fun w => z (hh.mp ⟨w.1, w.2.1⟩))]
  · obtain ⟨c, h, rfl⟩ := gm e
    rw [(wd c).2]
    exact F.unit k c h
  · obtain ⟨c, h, rfl⟩ := gm e
    obtain ⟨o1, o2, o3⟩ := F.ok k c h
    rw [(wd c).1, (wd c).2]
    refine ⟨o1, o2, fun z => ?_⟩
    unfold afterW
    split
    · show (!decide (c.word = "once")) = true
      rw [decide_eq_false z]
      rfl
    · exact o3 z
  · rw [q0, List.mem_filter]
    constructor
    · rintro ⟨m, y⟩
      obtain ⟨k, c, rfl, h, p⟩ := (F.que l).mp m
      rw [F.reg k c h, Bool.and_eq_true] at y
      have z := (hear h).mp ⟨m, y.1⟩
      refine ⟨k, afterW c, rfl, by rw [List.getElem?_map, h]; rfl, ?_⟩
      unfold afterW
      rw [if_pos z]
      exact y.2
    · rintro ⟨k, d, rfl, e, p⟩
      obtain ⟨c, h, rfl⟩ := gm e
      by_cases z : heard c = true
      · obtain ⟨y1, y2⟩ := (hear h).mpr z
        unfold afterW at p
        rw [if_pos z] at p
        refine ⟨y1, ?_⟩
        rw [y2, F.reg k c h]
        exact p
      · unfold afterW at p
        rw [if_neg z] at p
        cases p
/-- what add asks of the system with the new source -/
theorem Fit.toadd (F : Fit S cs) (h : cs.length < 6) : Means (newSource S 0 (cs.length + 1)) 0 0 0 ∧ (0 : Int) ∈ (newSource S 0 (cs.length + 1)).sets ∧ Means (newSource S 0 (cs.length + 1)) 0 ((cs.length : Int) + 1) ((cs.length : Int) + 1) ∧ (cs.length : Int) + 1 ∈ (newSource S 0 (cs.length + 1)).srcs ∧
    ((newSource S 0 (cs.length + 1)).ents 0).find? (keyOf ((newSource S 0 (cs.length + 1)).reg 0) ((cs.length : Int) + 1) ((cs.length : Int) + 1)) = none ∧ (cs.length : Int) ∉ (newSource S 0 (cs.length + 1)).ents 0 ∧ Small (newSource S 0 (cs.length + 1)) := by
  have G := F.grow h (wd := "level") (by unfold wordsL; decide)
  have e : (cs ++ [(⟨"level", true, false, 0⟩ : Lc)])[cs.length]? = some ⟨"level", true, false, 0⟩ := by rw [List.getElem?_append_right (Nat.le_refl _), Nat.sub_self]; rfl
  have m0 := G.means0
  have m1 := G.means e
  have sm := F.small
  refine ⟨⟨m0.pr, m0.lo, m0.hi, m0.at_⟩, by show (0 : Int) ∈ S.sets; rw [F.sets]; decide, ⟨m1.pr, m1.lo, m1.hi, m1.at_⟩, G.src e, ?_, ?_, ⟨sm.que, sm.ents, ?_, sm.sets, sm.nd⟩⟩
  · rw [List.find?_eq_none]
    intro l hl z
    have hl : l ∈ S.ents 0 := hl
    rw [F.ents] at hl
    obtain ⟨j, hj, rfl⟩ := mem_upTo.mp hl
    have z : keyOf (S.reg 0) ((cs.length : Int) + 1) ((cs.length : Int) + 1) (j : Int) = true := z
    rw [F.key hj] at z
    have := of_decide_eq_true z
    omega
  · intro hl
    have hl : (cs.length : Int) ∈ S.ents 0 := hl
    rw [F.ents] at hl
    obtain ⟨j, hj, e⟩ := mem_upTo.mp hl
    omega
  · show (S.srcs ++ [S.next]).length ≤ 900
    have := F.few
    rw [List.length_append, F.srcs, List.length_map, upTo_len]
    show cs.length + 1 ≤ 900
    omega
end

abbrev sArrivedL : Stmt := top 35
abbrev sChangedL : Stmt := top 36
abbrev sReportsL : Stmt := top 37
abbrev sLaw : Stmt := top 38
def lcT (c : Lc) : List V := [.str c.word, .bl c.armed, .bl c.pend, .int c.unread]
def LcAt (H : Hp) (v : V) (c : Lc) : Prop := ∃ T, v = .ref T ∧ H T = some (.tup (lcT c))
def CellsAt (H : Hp) (L : Addr) (cs : List Lc) : Prop := ∃ vs, H L = some (.lst vs) ∧ Paired (LcAt H) vs cs
theorem lcs_keep {H H' : Hp} {vs : List V} {cs : List Lc} (p : Paired (LcAt H) vs cs) (k : ∀ b xs, H b = some (.tup xs) → H' b = some (.tup xs)) : Paired (LcAt H') vs cs := by
  induction p with
  | nil => exact .nil
  | cons r _ ih =>
    obtain ⟨T, h1, h2⟩ := r
    exact .cons ⟨T, h1, k _ _ h2⟩ ih
theorem paired_set {α β : Type} {R : α → β → Prop} {x : α} {y : β} (h : R x y) : ∀ {xs : List α} {ys : List β} {k : Nat}, Paired R xs ys → Paired R (xs.set k x) (ys.set k y)
  | [], [], _, .nil => .nil
  | _ :: _, _ :: _, 0, .cons _ p => .cons h p
  | _ :: _, _ :: _, k + 1, .cons r p => .cons r (paired_set h p)
theorem paired_get {α β : Type} {R : α → β → Prop} : ∀ {xs : List α} {ys : List β} {k : Nat} {y : β}, Paired R xs ys → ys[k]? = some y → ∃ x, xs[k]? = some x ∧ R x y
  | [], [], _, _, .nil, e => by simp at e
  | x :: _, _ :: _, 0, _, .cons r _, e => by
    rw [List.getElem?_cons_zero] at e
    cases e
    exact ⟨x, rfl, r⟩
  | _ :: _, _ :: _, k + 1, _, .cons _ p, e => by
    rw [List.getElem?_cons_succ] at e
    obtain ⟨x, h1, h2⟩ := paired_get p e
    exact ⟨x, by rw [List.getElem?_cons_succ]; exact h1, h2⟩
theorem CellsAt.keep {H H' : Hp} {L : Addr} {cs : List Lc} (h : CellsAt H L cs) (k : ∀ b o, H b = some o → H' b = some o) : CellsAt H' L cs := by
  obtain ⟨vs, h1, h2⟩ := h
  exact ⟨vs, k _ _ h1, lcs_keep h2 fun b xs e => k _ _ e⟩
/-- a cell written: a new tuple T in the list at L -/
theorem CellsAt.set {H : Hp} {L T : Addr} {cs : List Lc} {vs : List V} {k : Nat} {c' : Lc} (hL : H L = some (.lst vs)) (p : Paired (LcAt H) vs cs) (nT : H T = none) : CellsAt (upd (upd H T (.tup (lcT c'))) L (.lst (vs.set k (.ref T)))) L (cs.set k c') := by
  have nLT : T ≠ L := fun z => by rw [z, hL] at nT; cases nT
  refine ⟨_, upd_same, paired_set ⟨T, rfl, (upd_ne nLT).trans upd_same⟩ (lcs_keep p fun b xs e => ?_)⟩
  rw [upd_ne (fun z => by rw [z, hL] at e; cases e), upd_ne (ne_of_none e nT)]
  exact e
section
variable {P : Program} {w : World} {K : PySem.W.Frag} {mg : Str → Option Value} {base : Heap} {C : Cs}
def spCell (g : Lc → Lc) : Sp := fun vs H Q _ => ∃ (L : Addr) (k : Nat) (cs : List Lc) (c : Lc), vs = [.ref L, .int (k : Int)] ∧ CellsAt H L cs ∧ cs[k]? = some c ∧ ∀ H', CellsAt H' L (cs.set k (g c)) → (∀ q o, q ≠ L → H q = some o → H' q = some o) → Q .non H'
def arrC (c : Lc) : Lc := ⟨c.word, c.armed, c.pend || c.armed, c.unread + 1⟩
theorem scArrivedL : FnScope ["_law_cells", "_law_k", "_law_term", "_law_armed", "_law_pending", "_law_unread"] ["_law_cells", "_law_k"] (defScope sArrivedL) := ⟨rfl, rfl, rfl, by decide +kernel, rfl, by decide +kernel, by decide +kernel⟩
theorem okArrivedL {f : Addr} {fd : FuncData} (F : Fun K "_law_arrived" "_law_arrived" sArrivedL f fd) : FnOk P w K mg base CX0 1 f fd ["_law_cells", "_law_k"] (spCell arrC) := by
  refine F.ok scArrivedL (fun vs H Q E h => ?_) (fun cdv A outer s H vs Q E hr h => ?_)
  · obtain ⟨_, _, _, _, rfl, _⟩ := h
    rfl
  · obtain ⟨L, k, cs, c, rfl, hC, hc, kk⟩ := h
    refine ⟨_, pss_cons (ps_asg (pe_ix ix_list (pv 0) (pv 1) (fun _ _ => rfl)) (pg_tup rfl (pgs_cons (pg_name (i := 2) scArrivedL.nd rfl (Or.inl rfl)) (pgs_cons (pg_name (i := 3) scArrivedL.nd rfl (Or.inl rfl)) (pgs_cons (pg_name (i := 4) scArrivedL.nd rfl (Or.inl rfl)) (pgs_cons (pg_name (i := 5) scArrivedL.nd rfl (Or.inl rfl)) pgs_nil))))))
      (pss_one (ps_asg (pe_tup (pa_cons (pv 2) (pa_cons (pv 3) (pa_cons (pe_or (pv 4) (pe_one (pv 3))) (pa_cons (pe_op op_add (pv 5) pe_int) pa_nil))))) (pg_sub (pv 0) (pv 1) set_list))), ?_⟩
    obtain ⟨vs, hL, p⟩ := hC
    obtain ⟨v, hv, T0, rfl, hT⟩ := paired_get p hc
    have kl : k < vs.length := (List.getElem?_eq_some_iff.mp hv).1
    walk_at "wn"
    refine ⟨L, _, (k : Int), _, rfl, rfl, SqL.of hL, atI_nat hv, ?_⟩
    walk_at "wn"
    refine ⟨T0, _, rfl, SqT.of hT, rfl, _, _, rfl, ?_⟩
    walk_at "wn"
    refine ⟨_, _, rfl, ?_⟩
    walk_at "wn"
    refine ⟨_, _, rfl, ?_⟩
    walk_at "wn"
    refine ⟨_, _, rfl, ?_⟩
    walk_at "wn"
    refine ⟨rfl, ?_⟩
    walk_at "wn"
    have fin : ∀ (xs : List V) (T1 : Addr), xs = lcT (arrC c) → H T1 = none → rSetL (.ref L) (.int (k : Int)) (.ref T1) (upd H T1 (.tup xs)) (fun H' => Q .non H') := fun xs T1 e hT1 => by
      subst e
      have nLT : L ≠ T1 := ne_of_none hL hT1
      exact ⟨L, vs, (k : Int), k, rfl, rfl, (upd_ne nLT).trans hL, ixN_nat kl, kk _ (CellsAt.set hL p hT1) fun q o nq h => by rw [upd_ne nq, upd_ne (ne_of_none h hT1)]; exact h⟩
    refine ite2 (fun hp => ?_) (fun hp => ?_)
    · walk_at "wn"
      refine ⟨by show 4 ≤ sizeLine; decide, fun T1 hT1 => ?_⟩
      walk_at "wn"
      refine fin _ T1 ?_ hT1
      unfold lcT arrC
      rw [hp]
      rfl
    · walk_at "wn"
      refine ⟨by show 4 ≤ sizeLine; decide, fun T1 hT1 => ?_⟩
      walk_at "wn"
      refine fin _ T1 ?_ hT1
      unfold lcT arrC
      rw [Bool.eq_false_iff.mpr hp]
      rfl
def chgC (wd : Str) (c : Lc) : Lc := ⟨wd, true, c.pend || decide (c.unread > 0), c.unread⟩
def spChangedL : Sp := fun vs H Q _ => ∃ (L : Addr) (k : Nat) (cs : List Lc) (c : Lc) (wd : Str), vs = [.ref L, .int (k : Int), .str wd] ∧ CellsAt H L cs ∧ cs[k]? = some c ∧ ∀ H', CellsAt H' L (cs.set k (chgC wd c)) → (∀ q o, q ≠ L → H q = some o → H' q = some o) → Q .non H'
theorem scChangedL : FnScope ["_law_cells", "_law_k", "_law_term", "_law_unread"] ["_law_cells", "_law_k", "_law_term"] (defScope sChangedL) := ⟨rfl, rfl, rfl, by decide +kernel, rfl, by decide +kernel, by decide +kernel⟩
theorem okChangedL {f : Addr} {fd : FuncData} (F : Fun K "_law_changed" "_law_changed" sChangedL f fd) : FnOk P w K mg base CX0 1 f fd ["_law_cells", "_law_k", "_law_term"] spChangedL := by
  refine F.ok scChangedL (fun vs H Q E h => ?_) (fun cdv A outer s H vs Q E hr h => ?_)
  · obtain ⟨_, _, _, _, _, rfl, _⟩ := h
    rfl
  · obtain ⟨L, k, cs, c, wd, rfl, hC, hc, kk⟩ := h
    refine ⟨_, pss_cons (ps_set (i := 3) scChangedL.nd rfl (Or.inl rfl) (pe_ix ix_tup (pe_ix ix_list (pv 0) (pv 1) (fun _ _ => rfl)) pe_int (fun _ _ => rfl)))
      (pss_one (ps_asg (pe_tup (pa_cons (pv 2) (pa_cons pe_bl (pa_cons (pe_or (pe_ix ix_tup (pe_ix ix_list (pv 0) (pv 1) (fun _ _ => rfl)) pe_int (fun _ _ => rfl)) (pe_one (pe_cmpR op_gt (pv 3) pe_int (nomark _)))) (pa_cons (pv 3) pa_nil))))) (pg_sub (pv 0) (pv 1) set_list))), ?_⟩
    obtain ⟨vs, hL, p⟩ := hC
    obtain ⟨v, hv, T0, rfl, hT⟩ := paired_get p hc
    have kl : k < vs.length := (List.getElem?_eq_some_iff.mp hv).1
    have fin : ∀ (xs : List V) (T1 : Addr), xs = lcT (chgC wd c) → H T1 = none → rSetL (.ref L) (.int (k : Int)) (.ref T1) (upd H T1 (.tup xs)) (fun H' => Q .non H') := fun xs T1 e hT1 => by
      subst e
      have nLT : L ≠ T1 := ne_of_none hL hT1
      exact ⟨L, vs, (k : Int), k, rfl, rfl, (upd_ne nLT).trans hL, ixN_nat kl, kk _ (CellsAt.set hL p hT1) fun q o nq h => by rw [upd_ne nq, upd_ne (ne_of_none h hT1)]; exact h⟩
    walk_at "wn"
    refine ⟨L, _, (k : Int), _, rfl, rfl, SqL.of hL, atI_nat hv, ?_⟩
    refine ⟨T0, _, 3, _, rfl, rfl, SqT.of hT, rfl, ?_⟩
    walk_at "wn"
    refine ⟨L, _, (k : Int), _, rfl, rfl, SqL.of hL, atI_nat hv, ?_⟩
    refine ⟨T0, _, 2, _, rfl, rfl, SqT.of hT, rfl, ?_⟩
    refine ⟨_, rfl, ?_⟩
    refine ite2 (fun hp => ?_) (fun hp => ?_)
    · walk_at "wn"
      refine ⟨by show 4 ≤ sizeLine; decide, fun T1 hT1 => ?_⟩
      walk_at "wn"
      refine fin _ T1 ?_ hT1
      unfold lcT chgC
      rw [hp]
      rfl
    · walk_at "wn"
      refine ⟨by show 4 ≤ sizeLine; decide, fun T1 hT1 => ?_⟩
      walk_at "wn"
      refine fin _ T1 ?_ hT1
      unfold lcT chgC
      rw [Bool.eq_false_iff.mpr hp]
      rfl
def toldFrom : Nat → List Lc → List (Int × Int × Bool)
  | _, [] => []
  | k, c :: cs => if heard c = true then ((k : Int), c.unread, false) :: toldFrom (k + 1) cs else toldFrom (k + 1) cs
theorem toldFrom_app (c : Lc) : ∀ (l : List Lc) (k : Nat), toldFrom k (l ++ [c]) = toldFrom k l ++ (if heard c = true then [(((k + l.length : Nat) : Int), c.unread, false)] else [])
  | [], k => by
    show (if heard c = true then ((k : Int), c.unread, false) :: [] else []) = [] ++ _
    split <;> rfl
  | d :: l, k => by
    have ih := toldFrom_app c l (k + 1)
    rw [Nat.add_right_comm k 1 l.length, Nat.add_assoc] at ih
    show (if heard d = true then ((k : Int), d.unread, false) :: toldFrom (k + 1) (l ++ [c]) else toldFrom (k + 1) (l ++ [c])) = (if heard d = true then ((k : Int), d.unread, false) :: toldFrom (k + 1) l else toldFrom (k + 1) l) ++ _
    rw [ih]
    split <;> rfl
theorem toldFrom_len : ∀ (l : List Lc) (k : Nat), (toldFrom k l).length ≤ l.length
  | [], _ => Nat.le_refl _
  | d :: l, k => by
    have ih := toldFrom_len l (k + 1)
    show (if heard d = true then ((k : Int), d.unread, false) :: toldFrom (k + 1) l else toldFrom (k + 1) l).length ≤ l.length + 1
    split
    · rw [List.length_cons]
      omega
    · omega
theorem set_step {g : Lc → Lc} {cs : List Lc} {j : Nat} {c : Lc} (h : cs[j]? = some c) : ((cs.take j).map g ++ cs.drop j).set j (g c) = (cs.take (j + 1)).map g ++ cs.drop (j + 1) := by
  obtain ⟨hj, e⟩ := List.getElem?_eq_some_iff.mp h
  have l1 : ((cs.take j).map g).length = j := by rw [List.length_map, List.length_take]; omega
  rw [List.set_append_right _ _ (by omega), l1, Nat.sub_self, List.drop_eq_getElem_cons hj, e, List.take_add_one, h, Option.toList_some, List.map_append, List.append_assoc]
  rfl
def spReportsL : Sp := fun vs H Q _ => ∃ (L : Addr) (cs : List Lc), vs = [.ref L] ∧ CellsAt H L cs ∧ cs.length ≤ 6 ∧
  ∀ H' r rs, H r = none → H' r = some (.lst rs) → Paired (RepAt H') rs (toldFrom 0 cs) → CellsAt H' L (cs.map afterW) → (∀ q o, q ≠ L → H q = some o → H' q = some o) → Q (.ref r) H'
abbrev nReps : List Str := ["_law_cells", "_law_told", "_law_k", "_law_cell", "_law_term", "_law_armed", "_law_pending", "_law_unread"]
theorem scReps : FnScope nReps ["_law_cells"] (defScope sReportsL) := ⟨rfl, rfl, rfl, by decide +kernel, rfl, by decide +kernel, by decide +kernel⟩
theorem okReportsL {f : Addr} {fd : FuncData} (F : Fun K "_law_reports" "_law_reports" sReportsL f fd) (X : RegTxt mg) : FnOk P w K mg base CX0 1 f fd ["_law_cells"] spReportsL := by
  refine F.ok scReps (fun vs H Q E h => ?_) (fun cdv A outer s H vs Q E hr h => ?_)
  · obtain ⟨_, _, rfl, _⟩ := h
    rfl
  · obtain ⟨L, cs, rfl, hC, cl, kk⟩ := h
    refine ⟨_, pss_cons (ps_set (i := 1) scReps.nd rfl (Or.inl rfl) (pe_lst pa_nil))
      (pss_cut (ps_for PassesOwn.never rfl (pi_enum (by rfl) X.enum (pa_cons (pe_callTy call_list_of (by rfl) X.list (by decide +kernel) (pa_cons (pv 0) pa_nil)) pa_nil)) (pg_tup rfl (pgs_cons (pg_name (i := 2) scReps.nd rfl (Or.inl rfl)) (pgs_cons (pg_name (i := 3) scReps.nd rfl (Or.inl rfl)) pgs_nil)))
        (pss_cons (ps_asg (pv 3) (pg_tup rfl (pgs_cons (pg_name (i := 4) scReps.nd rfl (Or.inl rfl)) (pgs_cons (pg_name (i := 5) scReps.nd rfl (Or.inl rfl)) (pgs_cons (pg_name (i := 6) scReps.nd rfl (Or.inl rfl)) (pgs_cons (pg_name (i := 7) scReps.nd rfl (Or.inl rfl)) pgs_nil))))))
        (pss_one (ps_if (PW.pt (pw_and (pt_val (pv 6)) (pw_and1 (pt_cmpR op_gt (pv 7) pe_int (nomark _)))))
          (pss_cons (ps_expr (pe_bm PySem.F.plainAttrs_list PySem.F.slot_list_append PySem.F.type_list_append mt_append (pv 1) (pa_cons (pe_tup (pa_cons (pv 2) (pa_cons (pv 7) (pa_cons pe_bl pa_nil)))) pa_nil)))
          (pss_one (ps_asg (pe_tup (pa_cons (pv 4) (pa_cons (pe_cmpR op_ne (pv 4) pe_str (nomark _)) (pa_cons (pe_cmpR op_eq (pv 4) pe_str (nomark _)) (pa_cons (pv 7) pa_nil))))) (pg_sub (pv 0) (pv 2) set_list))))
          (pss_one (ps_asg (pe_tup (pa_cons (pv 4) (pa_cons (pv 5) (pa_cons pe_bl (pa_cons (pv 7) pa_nil))))) (pg_sub (pv 0) (pv 2) set_list)))))))
      (pss_one (ps_ret (pv 1)))), ?_⟩
    obtain ⟨vs, hL, p⟩ := hC
    have pl := p.length
    walk_at "wn"
    refine ⟨by show 0 ≤ sizeLine; decide, fun r hr0 => ?_⟩
    have s1 := Same.new' (o := .lst []) hr0
    walk_at "wn"
    have nLr : L ≠ r := ne_of_none hL hr0
    refine ⟨fun σ' H' => ∃ (rs : List V) (v2 v3 v4 v5 v6 v7 : Option V), σ' = [some (.ref L), some (.ref r), v2, v3, v4, v5, v6, v7] ∧ H' r = some (.lst rs) ∧ Paired (RepAt H') rs (toldFrom 0 cs) ∧ CellsAt H' L (cs.map afterW) ∧ (∀ q o, q ≠ L → H q = some o → H' q = some o), ?_, ?_⟩
    · show iEnum _ _ _ _ _
      show tCons _ _ _ _ _
      walk_at "wn"
      refine ⟨L, vs, rfl, .inl (SqL.of ((upd_ne nLr).trans hL)), fun Cp hCp => ?_⟩
      walk_at "wn"
      have s2 := Same.new' (o := .lst vs) hCp
      have nrC : r ≠ Cp := fun z => by rw [← z, upd_same] at hCp; cases hCp
      refine ⟨Cp, vs, rfl, SqL.of upd_same, ?_⟩
      refine for_it (walk_enum (xs := vs)) (fun j σ' H' => ∃ (rs : List V) (v2 v3 v4 v5 v6 v7 : Option V), σ' = [some (.ref L), some (.ref r), v2, v3, v4, v5, v6, v7] ∧ H' r = some (.lst rs) ∧ Paired (RepAt H') rs (toldFrom 0 (cs.take j)) ∧ CellsAt H' L ((cs.take j).map afterW ++ cs.drop j) ∧ H' Cp = some (.lst vs) ∧ (∀ q o, q ≠ L → H q = some o → H' q = some o))
        ⟨[], _, _, _, _, _, _, rfl, s2 _ _ upd_same, .nil, ⟨vs, s2 _ _ (s1 _ _ hL), lcs_keep p fun b xs e => s2 _ _ (s1 _ _ e)⟩, upd_same, fun q o _ e => s2 _ _ (s1 _ _ e)⟩ (fun j σ' H' _ ⟨_, _, _, _, _, _, _, _, _, _, _, h, _⟩ => SqL.of h) ?_ ?_
      · rintro j x σ' H2 H3 hj ⟨rs, v2, v3, v4, v5, v6, v7, rfl, h1, h2, h3, h4, h5⟩ ⟨T1, x1, y1, rfl, nT, rfl, ex, ey⟩
        obtain rfl := Option.some.inj ex
        have ey : vs[j]? = some y1 := ey
        obtain ⟨c, hc⟩ : ∃ c, cs[j]? = some c := ⟨_, List.getElem?_eq_getElem (by omega)⟩
        obtain ⟨v, hv, T0, rfl, hT⟩ := paired_get p hc
        rw [ey] at hv
        cases hv
        have nT0 : T0 ≠ L := fun z => by rw [z, hL] at hT; cases hT
        have s3 := Same.new' (o := .tup [.int (j : Int), .ref T0]) nT
        have hT0 := s3 _ _ (h5 _ _ nT0 hT)
        have g1 := s3 _ _ h1
        have g2 := reps_keep h2 fun b xs e => s3 _ _ e
        have g3 := h3.keep s3
        have g4 := s3 _ _ h4
        have g5 : ∀ q o, q ≠ L → H q = some o → _ := fun q o nq e => s3 _ _ (h5 q o nq e)
        refine ⟨T1, _, rfl, SqT.of upd_same, rfl, _, _, rfl, ?_⟩
        walk_at "wn"
        refine ⟨_, _, rfl, ?_⟩
        walk_at "wn"
        refine ⟨rfl, ?_⟩
        generalize upd H2 T1 (.tup [.int (j : Int), .ref T0]) = H6 at hT0 g1 g2 g3 g4 g5 ⊢
        walk_at "wn"
        refine ⟨T0, _, rfl, SqT.of hT0, rfl, _, _, rfl, ?_⟩
        walk_at "wn"
        refine ⟨_, _, rfl, ?_⟩
        walk_at "wn"
        refine ⟨_, _, rfl, ?_⟩
        walk_at "wn"
        refine ⟨_, _, rfl, ?_⟩
        walk_at "wn"
        refine ⟨rfl, ?_⟩
        walk_at "wn"
        have jl : (cs.take j).length = j := by rw [List.length_take]; omega
        have tk : toldFrom 0 (cs.take (j + 1)) = toldFrom 0 (cs.take j) ++ (if heard c = true then [((j : Int), c.unread, false)] else []) := by rw [List.take_add_one, hc, Option.toList_some, toldFrom_app, jl, Nat.zero_add]
        have nCL : L ≠ Cp := ne_of_none (s1 _ _ hL) hCp
        have fin : ∀ (H7 : Hp) (rs7 : List V) (xs : List V) (T2 : Addr) (σ7 : L2.St), xs = lcT (afterW c) → H7 T2 = none → (∃ v2 v3 v4 v5 v6 v7 : Option V, σ7 = [some (.ref L), some (.ref r), v2, v3, v4, v5, v6, v7]) → H7 r = some (.lst rs7) → Paired (RepAt H7) rs7 (toldFrom 0 (cs.take (j + 1))) → CellsAt H7 L ((cs.take j).map afterW ++ cs.drop j) → H7 Cp = some (.lst vs) → (∀ q o, q ≠ L → H q = some o → H7 q = some o) →
            rSetL (.ref L) (.int (j : Int)) (.ref T2) (upd H7 T2 (.tup xs)) (fun H' => ∃ (rs : List V) (v2 v3 v4 v5 v6 v7 : Option V), σ7 = [some (.ref L), some (.ref r), v2, v3, v4, v5, v6, v7] ∧ H' r = some (.lst rs) ∧ Paired (RepAt H') rs (toldFrom 0 (cs.take (j + 1))) ∧ CellsAt H' L ((cs.take (j + 1)).map afterW ++ cs.drop (j + 1)) ∧ H' Cp = some (.lst vs) ∧ (∀ q o, q ≠ L → H q = some o → H' q = some o)) := fun H7 rs7 xs T2 σ7 e hT2 ⟨w2, w3, w4, w5, w6, w7, eσ⟩ a1 a2 a3 a4 a5 => by
          subst e
          obtain ⟨vs2, hL2, p2⟩ := a3
          have l2 := p2.length
          rw [List.length_append, List.length_map, List.length_drop, jl] at l2
          have nLT : L ≠ T2 := ne_of_none hL2 hT2
          have sT := Same.new' (o := .tup (lcT (afterW c))) hT2
          have off : ∀ q o, q ≠ L → H7 q = some o → upd (upd H7 T2 (.tup (lcT (afterW c)))) L (.lst (vs2.set j (.ref T2))) q = some o := fun q o nq h => by
            rw [upd_ne nq]
            exact sT _ _ h
          refine ⟨L, vs2, (j : Int), j, rfl, rfl, (upd_ne nLT).trans hL2, ixN_nat (by omega), rs7, w2, w3, w4, w5, w6, w7, eσ, off _ _ (Ne.symm nLr) a1, reps_keep a2 fun b xs h => off _ _ (fun z => by rw [z, hL2] at h; cases h) h, ?_, off _ _ (Ne.symm nCL) a4, fun q o nq h => off _ _ nq (a5 q o nq h)⟩
          rw [← set_step hc]
          exact CellsAt.set hL2 p2 hT2
        have skip : heard c = false → ∀ (σ7 : L2.St), (∃ v2 v3 v4 v5 v6 v7 : Option V, σ7 = [some (.ref L), some (.ref r), v2, v3, v4, v5, v6, v7]) → ∀ T2, H6 T2 = none → rSetL (.ref L) (.int (j : Int)) (.ref T2) (upd H6 T2 (.tup [.str c.word, .bl c.armed, .bl false, .int c.unread])) (fun H' => ∃ (rs : List V) (v2 v3 v4 v5 v6 v7 : Option V), σ7 = [some (.ref L), some (.ref r), v2, v3, v4, v5, v6, v7] ∧ H' r = some (.lst rs) ∧ Paired (RepAt H') rs (toldFrom 0 (cs.take (j + 1))) ∧ CellsAt H' L ((cs.take (j + 1)).map afterW ++ cs.drop (j + 1)) ∧ H' Cp = some (.lst vs) ∧ (∀ q o, q ≠ L → H q = some o → H' q = some o)) := fun z σ7 eσ T2 hT2 => by
          refine fin H6 rs _ T2 σ7 ?_ hT2 eσ g1 ?_ g3 g4 g5
          · unfold lcT afterW
            rw [if_neg (by rw [z]; decide)]
          · rw [tk, if_neg (by rw [z]; decide), List.append_nil]
            exact g2
        refine ite2 (fun hp => ?_) (fun hp => ?_)
        · walk_at "wn"
          refine ite2 (fun hu => ?_) (fun hu => ?_)
          · have hh : heard c = true := by
              unfold heard
              rw [hp]
              exact hu
            walk_at "wn"
            refine ⟨by show 3 ≤ sizeLine; decide, fun T3 hT3 => ?_⟩
            walk_at "wn"
            have s7 := Same.new' (o := .tup [.int (j : Int), .int c.unread, .bl false]) hT3
            have g1' := s7 _ _ g1
            have l3 := g2.length
            have l4 := toldFrom_len (cs.take j) 0
            have s8 : ∀ q o, q ≠ r → H6 q = some o → upd (upd H6 T3 (.tup [.int (j : Int), .int c.unread, .bl false])) r (.lst (rs ++ [.ref T3])) q = some o := fun q o nq h => by
              rw [upd_ne nq]
              exact s7 _ _ h
            have t8 : ∀ b xs, H6 b = some (.tup xs) → upd (upd H6 T3 (.tup [.int (j : Int), .int c.unread, .bl false])) r (.lst (rs ++ [.ref T3])) b = some (.tup xs) := fun b xs h => s8 _ _ (fun z => by rw [z, g1] at h; cases h) h
            have nT3 : T3 ≠ r := fun z => by rw [z, g1] at hT3; cases hT3
            obtain ⟨vs2, hL2, p2⟩ := g3
            refine ⟨r, rs, _, rfl, rfl, g1', by rw [sizeLine_eq]; omega, ?_⟩
            walk_at "wn"
            have ds : ∀ y : Str, decide (V.str c.word = V.str y) = decide (c.word = y) := fun y => decide_eq_decide.mpr ⟨fun z => V.str.inj z, fun z => by rw [z]⟩
            refine ⟨by show 4 ≤ sizeLine; decide, fun T2 hT2 => ?_⟩
            walk_at "wn"
            refine fin _ (rs ++ [.ref T3]) _ T2 _ ?_ hT2 ⟨_, _, _, _, _, _, rfl⟩ upd_same ?_ ⟨vs2, s8 _ _ nLr hL2, lcs_keep p2 t8⟩ (s8 _ _ (Ne.symm nrC) g4) (fun q o nq h => s8 _ _ (fun z => by rw [z, hr0] at h; cases h) (g5 q o nq h))
            · unfold lcT afterW
              rw [if_pos hh, ds, ds]
            · rw [tk, if_pos hh]
              exact reps_snoc (reps_keep g2 t8) ⟨T3, rfl, (upd_ne nT3).trans upd_same⟩
          · walk_at "wn"
            refine ⟨by show 4 ≤ sizeLine; decide, fun T2 hT2 => ?_⟩
            walk_at "wn"
            refine skip ?_ _ ⟨_, _, _, _, _, _, rfl⟩ T2 hT2
            unfold heard
            rw [hp]
            exact Bool.eq_false_iff.mpr hu
        · walk_at "wn"
          refine ⟨by show 4 ≤ sizeLine; decide, fun T2 hT2 => ?_⟩
          walk_at "wn"
          refine skip ?_ _ ⟨_, _, _, _, _, _, rfl⟩ T2 hT2
          unfold heard
          rw [Bool.eq_false_iff.mpr hp]
          rfl
      · rintro σ' H' ⟨rs, v2, v3, v4, v5, v6, v7, rfl, h1, h2, h3, h4, h5⟩
        rw [pl, List.take_length] at h2 h3
        rw [List.drop_length, List.append_nil] at h3
        exact ⟨rs, _, _, _, _, _, _, rfl, h1, h2, h3, h5⟩
    · rintro σ' H' ⟨rs, v2, v3, v4, v5, v6, v7, rfl, h1, h2, h3, h4⟩
      walk_at "wn"
      exact kk H' r rs hr0 h1 h2 h3 h4
end

/-- the law at work: the system at x, the bag at p, the cells' list at L; what stood before stands -/
structure LW (C : Cs) (Hb H : Hp) (p x L : Addr) (S : Sys) (ad dx : Cell → Addr) (cs : List Lc) : Prop where
  at_ : At C H S ad dx
  box : ad .box = x
  bag : BagAt H p
  cells : CellsAt H L cs
  nL : ¬ own S ad L
  np : ¬ own S ad p
  pL : p ≠ L
  old : ∀ b o, Hb b = some o → H b = some o
  nb : ∀ b, own S ad b → Hb b = none
  pb : Hb p = none
  Lb : Hb L = none
section
variable {C : Cs} {Hb H H' : Hp} {p x L : Addr} {S S' : Sys} {ad ad' dx dx' : Cell → Addr} {cs cs' : List Lc}
theorem LW.same (W : LW C Hb H p x L S ad dx cs) (s : Same H H') : LW C Hb H' p x L S ad dx cs := by
  obtain ⟨a, b, hp, r⟩ := W.bag
  exact ⟨W.at_.same s, W.box, ⟨a, b, s _ _ hp, r⟩, W.cells.keep s, W.nL, W.np, W.pL, fun b o e => s _ _ (W.old b o e), W.nb, W.pb, W.Lb⟩
theorem LW.draw (W : LW C Hb H p x L S ad dx cs) (e : ∀ b, b ≠ p → H' b = H b) (bg : BagAt H' p) : LW C Hb H' p x L S ad dx cs := by
  obtain ⟨a, b, hp, _⟩ := W.bag
  obtain ⟨vs, hL, q⟩ := W.cells
  refine ⟨⟨fun c hc => (e _ fun z => W.np ⟨c, hc, z⟩).trans (W.at_.at_ c hc), W.at_.inj⟩, W.box, bg, ⟨vs, (e _ (Ne.symm W.pL)).trans hL, lcs_keep q fun b xs h => (e b fun z => by rw [z, hp] at h; cases h).trans h⟩, W.nL, W.np, W.pL, fun b o h => (e b fun z => by rw [z, W.pb] at h; cases h).trans (W.old b o h), W.nb, W.pb, W.Lb⟩
/-- a tuple of four is no part of the system -/
theorem At.not4 (A : At C H S ad dx) {T : Addr} {c : Lc} (h : H T = some (.tup (lcT c))) : ¬ own S ad T := by
  rintro ⟨d, hd, rfl⟩
  have e := A.at_ d hd
  rw [h] at e
  have e := Option.some.inj e
  cases d <;> cases e
theorem LW.step (W : LW C Hb H p x L S ad dx cs) (A : At C H' S' ad' dx') (st : Step H S ad H' S' ad') : LW C Hb H' p x L S' ad' dx' cs := by
  obtain ⟨a, b, hp, r⟩ := W.bag
  obtain ⟨vs, hL, q⟩ := W.cells
  have kp : ∀ (l : List V) (cs : List Lc), Paired (LcAt H) l cs → Paired (LcAt H') l cs := fun l cs q => by
    induction q with
    | nil => exact .nil
    | cons r _ ih =>
      obtain ⟨T, h1, h2⟩ := r
      exact .cons ⟨T, h1, st.keep _ _ (W.at_.not4 h2) h2⟩ ih
  have nn : ∀ y o, H y = some o → ¬ own S ad y → ¬ own S' ad' y := fun y o e n z => by
    rcases st.new y z with w | w
    · exact n w
    · rw [w] at e
      cases e
  refine ⟨A, st.box.trans W.box, ⟨a, b, st.keep _ _ W.np hp, r⟩, ⟨vs, st.keep _ _ W.nL hL, kp _ _ q⟩, nn _ _ hL W.nL, nn _ _ hp W.np, W.pL, fun y o e => st.keep y o (fun z => by rw [W.nb y z] at e; cases e) (W.old y o e), fun y z => ?_, W.pb, W.Lb⟩
  rcases st.new y z with w | w
  · exact W.nb y w
  · cases e : Hb y with
    | none => rfl
    | some o => rw [W.old y o e] at w; cases w
theorem LW.put (W : LW C Hb H p x L S ad dx cs) (h : CellsAt H' L cs') (k : ∀ q o, q ≠ L → H q = some o → H' q = some o) : LW C Hb H' p x L S ad dx cs' := by
  obtain ⟨a, b, hp, r⟩ := W.bag
  exact ⟨⟨fun c hc => k _ _ (fun z => W.nL ⟨c, hc, z⟩) (W.at_.at_ c hc), W.at_.inj⟩, W.box, ⟨a, b, k _ _ W.pL hp, r⟩, h, W.nL, W.np, W.pL, fun b o e => k b o (fun z => by rw [z, W.Lb] at e; cases e) (W.old b o e), W.nb, W.pb, W.Lb⟩
theorem LW.start {H2 H3 : Hp} {P0 N0 : Int} {dx0 : Addr} (s : Same Hb H2) (b : BagAt H2 p) (n0 : Hb p = none) (hx : upd H2 dx0 (.own x) x = none) (hd : H2 dx0 = none) (A : At C H3 (newSys P0 N0) ad dx) (hb : ad .box = x) (k3 : ∀ b o, b ≠ x → upd (upd H2 dx0 (.own x)) x (.ins C.S dx0 []) b = some o → H3 b = some o) (o3 : ∀ b, own (newSys P0 N0) ad b → b = x ∨ upd (upd H2 dx0 (.own x)) x (.ins C.S dx0 []) b = none) (hL : H3 L = none) :
    LW C Hb (upd H3 L (.lst [])) p x L (newSys P0 N0) ad dx [] := by
  obtain ⟨u, v, hp, r⟩ := b
  have ndx : dx0 ≠ x := fun z => by rw [z, upd_same] at hx; cases hx
  have keep : ∀ y o, H2 y = some o → H3 y = some o ∧ y ≠ x := fun y o e => by
    have nx : y ≠ x := fun z => by
      rw [← z] at hx
      by_cases w : y = dx0
      · rw [w, hd] at e; cases e
      · rw [upd_ne w, e] at hx; cases hx
    refine ⟨k3 y o nx ?_, nx⟩
    rw [upd_ne nx, upd_ne (fun z => by rw [z, hd] at e; cases e)]
    exact e
  have s3 := Same.new' (o := .lst []) hL
  have nown : ∀ y o, H2 y = some o → ¬ own (newSys P0 N0) ad y := fun y o e z => by
    rcases o3 y z with w | w
    · exact (keep y o e).2 w
    · rw [upd_ne (keep y o e).2, upd_ne (fun z => by rw [z, hd] at e; cases e), e] at w
      cases w
  refine ⟨A.same s3, hb, ⟨u, v, s3 _ _ (keep _ _ hp).1, r⟩, ⟨[], upd_same, .nil⟩, fun ⟨c, hc, e⟩ => ?_, nown _ _ hp, fun z => ?_, fun y o e => s3 _ _ (keep _ _ (s _ _ e)).1, fun y z => ?_, n0, ?_⟩
  · have := A.at_ c hc
    rw [e, hL] at this
    cases this
  · rw [z] at hp
    rw [(keep _ _ hp).1] at hL
    cases hL
  · cases e : Hb y with
    | none => rfl
    | some o => exact absurd z (nown y o (s _ _ e))
  · cases e : Hb L with
    | none => rfl
    | some o => rw [(keep _ _ (s _ _ e)).1] at hL; cases hL
theorem LW.sq {K : PySem.W.Frag} {a : Addr} {xs : List V} (W : LW C Hb H p x L S ad dx cs) (h : SqL K Hb a xs) : SqL K H a xs := Same.seq (fun b o e => W.old b o e) h
theorem LW.hb (W : LW C Hb H p x L S ad dx cs) : H x = some (sysO C.S (dx .box) S (ad .tabD) (ad .srcD) (ad .setD)) := by rw [← W.box]; exact W.at_.at_ .box trivial
end
/-- between two of the law's steps -/
inductive Doing (C : Cs) (Hb : Hp) (p x L : Addr) (n : Nat) : Hp → Prop
  | mk {H : Hp} {S : Sys} {ad dx : Cell → Addr} {cs : List Lc} : LW C Hb H p x L S ad dx cs → Fit S cs → cs.length = n → Doing C Hb p x L n H
/-- one cell is due, the system has it already -/
inductive Mid (C : Cs) (Hb : Hp) (p x L : Addr) (n k : Nat) (g : Lc → Lc) : Hp → Prop
  | mk {H : Hp} {S : Sys} {ad dx : Cell → Addr} {cs : List Lc} {c : Lc} : LW C Hb H p x L S ad dx cs → cs[k]? = some c → Fit S (cs.set k (g c)) → cs.length = n → Mid C Hb p x L n k g H
section
variable {C : Cs} {Hb H H' : Hp} {p x L : Addr} {n k : Nat} {g : Lc → Lc}
theorem Doing.bag (d : Doing C Hb p x L n H) : BagAt H p := by
  cases d with
  | mk W _ _ => exact W.bag
theorem Doing.draw (d : Doing C Hb p x L n H) (e : ∀ b, b ≠ p → H' b = H b) (bg : BagAt H' p) : Doing C Hb p x L n H' := by
  cases d with
  | mk W F eN => exact .mk (W.draw e bg) F eN
theorem Doing.same (d : Doing C Hb p x L n H) (s : Same H H') : Doing C Hb p x L n H' := by
  cases d with
  | mk W F eN => exact .mk (W.same s) F eN
theorem Doing.sq {K : PySem.W.Frag} {a : Addr} {xs : List V} (d : Doing C Hb p x L n H) (h : SqL K Hb a xs) : SqL K H a xs := by
  cases d with
  | mk W _ _ => exact W.sq h
end
/-! what is told of the registrations -/
def TriAt (H : Hp) (v : V) (r : Int × Str × Bool) : Prop := ∃ T, v = .ref T ∧ H T = some (.tup [.int r.1, .str r.2.1, .bl r.2.2])
def triFrom : Nat → List Lc → List (Int × Str × Bool)
  | _, [] => []
  | k, c :: cs => ((k : Int), c.word, c.armed) :: triFrom (k + 1) cs
theorem triFrom_app (c : Lc) : ∀ (l : List Lc) (k : Nat), triFrom k (l ++ [c]) = triFrom k l ++ [(((k + l.length : Nat) : Int), c.word, c.armed)]
  | [], k => rfl
  | d :: l, k => by
    have ih := triFrom_app c l (k + 1)
    rw [Nat.add_right_comm k 1 l.length, Nat.add_assoc] at ih
    show ((k : Int), d.word, d.armed) :: triFrom (k + 1) (l ++ [c]) = ((k : Int), d.word, d.armed) :: triFrom (k + 1) l ++ _
    rw [ih]
    rfl
theorem triFrom_len : ∀ (l : List Lc) (k : Nat), (triFrom k l).length = l.length
  | [], _ => rfl
  | d :: l, k => congrArg (· + 1) (triFrom_len l (k + 1))
theorem tris_keep {H H' : Hp} {vs : List V} {rs : List (Int × Str × Bool)} (p : Paired (TriAt H) vs rs) (k : ∀ b xs, H b = some (.tup xs) → H' b = some (.tup xs)) : Paired (TriAt H') vs rs := by
  induction p with
  | nil => exact .nil
  | cons r _ ih =>
    obtain ⟨T, h1, h2⟩ := r
    exact .cons ⟨T, h1, k _ _ h2⟩ ih
def triD (r : Int × Str × Bool) : PyData := .tuple [.int r.1, .str r.2.1, .bool r.2.2]
theorem dp_tris {K : PySem.W.Frag} {H : Hp} {vs : List V} {rs : List (Int × Str × Bool)} (p : Paired (TriAt H) vs rs) : DpAll K H vs (rs.map triD) := by
  induction p with
  | nil => exact .nil
  | cons r _ ih =>
    obtain ⟨T, rfl, h2⟩ := r
    exact .cons (.tup (SqT.of h2) (.cons (.int _) (.cons (.str _) (.cons (.bl _) .nil)))) ih
theorem tri_lay : ∀ rs : List (Int × Str × Bool), (∀ r ∈ rs, PyData.strOk r.2.1 = true) → PyData.canLayAll0 (rs.map triD) = true ∧ PyData.depthAll (rs.map triD) ≤ 1
  | [], _ => ⟨rfl, Nat.zero_le _⟩
  | r :: rs, h => by
    obtain ⟨a, b⟩ := tri_lay rs fun q hq => h q (List.mem_cons_of_mem _ hq)
    have h0 := h r List.mem_cons_self
    refine ⟨?_, ?_⟩
    · simp [triD, PyData.canLayAll0, PyData.canLay0, a, h0]
    · simp only [List.map_cons, triD, PyData.depthAll, PyData.depth]
      omega
theorem tri_shaped {rs : List (Int × Str × Bool)} (h : ∀ r ∈ rs, PyData.strOk r.2.1 = true) : SeqAt.shaped (.list (rs.map triD)) = true := by
  obtain ⟨a, b⟩ := tri_lay rs h
  unfold SeqAt.shaped
  rw [Bool.and_eq_true]
  refine ⟨by simp only [PyData.canLay0]; exact a, decide_eq_true ?_⟩
  simp only [PyData.depth]
  have e : ∀ n : Nat, n ≤ 1 → n + 1 ≤ 2 := fun n h => by omega
  refine Nat.le_trans (e _ b) ?_
  decide
theorem tri_ok : ∀ {cs : List Lc} {k : Nat}, (∀ c ∈ cs, c.word ∈ wordsL) → ∀ r ∈ triFrom k cs, PyData.strOk r.2.1 = true
  | [], _, _, r, hr => absurd hr List.not_mem_nil
  | c :: cs, k, h, r, hr => by
    rcases List.mem_cons.mp hr with z | z
    · subst z
      have hw := h c List.mem_cons_self
      unfold wordsL at hw
      simp only [List.mem_cons, List.not_mem_nil, or_false] at hw
      show PyData.strOk c.word = true
      rcases hw with z | z | z <;> rw [z] <;> decide +kernel
    · exact tri_ok (fun d hd => h d (List.mem_cons_of_mem _ hd)) r z
theorem paired_at {α β : Type} {R : α → β → Prop} : ∀ {xs : List α} {ys : List β}, Paired R xs ys → ∀ {i : Nat} {x : α}, xs[i]? = some x → ∃ y, ys[i]? = some y ∧ R x y
  | _, _, .nil, i, x, h => by simp at h
  | _, _, .cons r _, 0, x, h => by
    cases h
    exact ⟨_, rfl, r⟩
  | _, _, .cons _ p, i + 1, x, h => paired_at p (by simpa using h)
/-! what a wait tells, sorted -/
def repD (r : Int × Int × Bool) : PyData := .tuple [.int r.1, .int r.2.1, .bool r.2.2]
theorem dp_reps {K : PySem.W.Frag} {H : Hp} {vs : List V} {rs : List (Int × Int × Bool)} (p : Paired (RepAt H) vs rs) : DpAll K H vs (rs.map repD) := by
  induction p with
  | nil => exact .nil
  | cons r _ ih =>
    obtain ⟨T, rfl, h2⟩ := r
    exact .cons (.tup (SqT.of h2) (.cons (.int _) (.cons (.int _) (.cons (.bl _) .nil)))) ih
theorem rep_lay : ∀ rs : List (Int × Int × Bool), PyData.canLayAll0 (rs.map repD) = true ∧ PyData.depthAll (rs.map repD) ≤ 1
  | [] => ⟨rfl, Nat.zero_le _⟩
  | r :: rs => by
    obtain ⟨a, b⟩ := rep_lay rs
    refine ⟨?_, ?_⟩
    · simp [repD, PyData.canLayAll0, PyData.canLay0, a]
    · simp only [List.map_cons, repD, PyData.depthAll, PyData.depth]
      omega
theorem rep_shaped (rs : List (Int × Int × Bool)) : SeqAt.shaped (.list (rs.map repD)) = true := by
  obtain ⟨a, b⟩ := rep_lay rs
  unfold SeqAt.shaped
  rw [Bool.and_eq_true]
  refine ⟨by simp only [PyData.canLay0]; exact a, decide_eq_true ?_⟩
  simp only [PyData.depth]
  have e : ∀ n : Nat, n ≤ 1 → n + 1 ≤ 2 := fun n h => by omega
  refine Nat.le_trans (e _ b) ?_
  decide
theorem mem_told {r : Int × Int × Bool} : ∀ {cs : List Lc} {k : Nat}, r ∈ toldFrom k cs ↔ ∃ (j : Nat) (c : Lc), cs[j]? = some c ∧ heard c = true ∧ r = (((k + j : Nat) : Int), c.unread, false)
  | [], k => ⟨fun h => absurd h List.not_mem_nil, fun ⟨j, c, h, _⟩ => by simp at h⟩
  | d :: cs, k => by
    have ih := mem_told (r := r) (cs := cs) (k := k + 1)
    have sh : (∃ (j : Nat) (c : Lc), (d :: cs)[j]? = some c ∧ heard c = true ∧ r = (((k + j : Nat) : Int), c.unread, false)) ↔ (heard d = true ∧ r = ((k : Int), d.unread, false)) ∨ r ∈ toldFrom (k + 1) cs := by
      rw [ih]
      constructor
      · rintro ⟨j, c, h, hh, e⟩
        cases j with
        | zero =>
          rw [List.getElem?_cons_zero] at h
          cases h
          exact .inl ⟨hh, e⟩
        | succ j =>
          rw [List.getElem?_cons_succ] at h
          exact .inr ⟨j, c, h, hh, by rw [e, Nat.add_right_comm, Nat.add_assoc]⟩
      · rintro (⟨hh, e⟩ | ⟨j, c, h, hh, e⟩)
        · exact ⟨0, d, rfl, hh, e⟩
        · exact ⟨j + 1, c, by rw [List.getElem?_cons_succ]; exact h, hh, by rw [e, Nat.add_right_comm, Nat.add_assoc]⟩
    rw [sh]
    show r ∈ (if heard d = true then ((k : Int), d.unread, false) :: toldFrom (k + 1) cs else toldFrom (k + 1) cs) ↔ _
    by_cases z : heard d = true
    · rw [if_pos z, List.mem_cons]
      exact ⟨fun y => y.imp (fun e => ⟨z, e⟩) id, fun y => y.imp (fun e => e.2) id⟩
    · rw [if_neg z]
      exact ⟨.inr, fun y => y.elim (fun e => absurd e.1 z) id⟩
theorem told_sorted : ∀ {cs : List Lc} {k : Nat}, ((toldFrom k cs).map (·.1)).Pairwise (· < ·)
  | [], _ => .nil
  | d :: cs, k => by
    have ih := told_sorted (cs := cs) (k := k + 1)
    show ((if heard d = true then ((k : Int), d.unread, false) :: toldFrom (k + 1) cs else toldFrom (k + 1) cs).map (·.1)).Pairwise (· < ·)
    split
    · rw [List.map_cons, List.pairwise_cons]
      refine ⟨fun y hy => ?_, ih⟩
      obtain ⟨r, hr, rfl⟩ := List.mem_map.mp hy
      obtain ⟨j, c, _, _, e⟩ := mem_told.mp hr
      rw [e]
      show (k : Int) < ((k + 1 + j : Nat) : Int)
      omega
    · exact ih

def tMethK0 (C : Addr) (m : Str) (j : Nat) (sp : Sp) (gV : List V → List V → List V) (E : XK) (ta : TE) (tk : TA) : TE := fun σ H Q => ta σ H fun x H1 => ∃ a dx fs, x = .ref a ∧ H1 a = some (.ins C dx fs) ∧ fs.lookup m = none ∧ tk σ H1 fun zs H3 => zs.length = j ∧ sp (gV [x] zs) H3 Q E
section
variable {X : Cx} {CX : CXT} {k n : Nat} {f C : Addr} {fd : FuncData} {ps ks : List Str} {sp : Sp} {E : XK} {m : Str} {apos pos : Pos} {o e : Expr} {es : List Expr} {kws : List Keyword} {ta : TE} {t tk : TA} {g : List Value → List Value → List Value} {gV : List V → List V → List V}
theorem pe_methK0 {pl : Sem Bool} (he : PE X o ta) (c : Cls X.K C) (hm : Meth X.K C m f) (F : FnOk X.prog X.w X.K X.mg X.base CX k f fd ps sp) (hr : Room k X.A) (hb : KBn X.K fd ps 1 ks g gV) (hx : Passes CX X E) (hkw : PK X kws tk)
    (hall : (backToKw pos (keywordEach kws X.env)).all (·.1.isSome) = true := by rfl) (hks : (backToKw pos (keywordEach kws X.env)).filterMap (·.1) = ks := by rfl)
    (hpl : ((backTo pos (starEach [] X.env)).any (·.1) || (backToKw pos (keywordEach kws X.env)).any (·.1.isNone)) = false := by rfl)
    (ht : eval (.Call (.Attribute o m apos) [] kws pos) X.env = (do
      let ov ← eval o X.env
      standAt apos.atName
      let (f, first) ← holding [ov] (getMethod ov m pl)
      callWith pos f first (backTo pos (starEach [] X.env)) (backToKw pos (keywordEach kws X.env))) := by rfl) :
    PE X (.Call (.Attribute o m apos) [] kws pos) (tMethK0 C m ks.length sp gV E ta tk) := by
  refine ⟨fun pins s σ H Q I h => ?_⟩
  refine PySem.W.methodCall_KW (pl := pl) (thn (he.run pins s σ H _ I h) fun u s1 ⟨x, H1, I1, rx, a, dx, fs, ex, ea, l, q⟩ => ?_) ht
  subst ex
  obtain rfl : u = Value.ref a := rx
  refine getmeth_ok I1 ea c hm l ?_
  refine PySem.W.callWith_KW0 (first := [.ref a]) (h₀ := X.base) I.ok.mod.kin hm.kp hall (thn (hkw.run pos pins s1 σ H1 _ I1 q) fun ws s3 ⟨zs, H3, I3, rz, l2, q3⟩ => ⟨I3.kIn, ?_⟩) hpl
  rw [hks]
  exact run_fnN (us := [.ref a]) (vs := [.ref a]) F hr hb hx I3 (.cons rfl .nil) rz rfl l2 q3
end
/-- all parameters by position or by name, of a def with positional defaults -/
theorem kb1 {K : PySem.W.Frag} {x qual : Str} {params : Arguments} {body : List Stmt} {scope : PySem.Scope} {dvs : List V} {kws : List (Str × V)} {f : Addr} {fd : FuncData} {ps : List Str} (F : FunD K x qual params body scope dvs kws f fd) (n : Nat) (ks : List Str) (hd : dvs ≠ [])
    (h : ∀ (T : Addr) (kV doc pm : Value) (an : Option Addr) (cdv ct : Value) (us its ws : List Value), us.length = n → its.length = dvs.length → ws.length = ks.length →
      ∃ k, bindArgs (PySem.W.fnOf x qual params body scope (.ref T) kV doc pm an cdv ct) ⟨us, ks.zip ws⟩ = seqItems? (.ref T) >>= k ∧ k (some its.toArray) = pure (ps.zip (us ++ ws))) : KBn K fd ps n ks (fun us ws => us ++ ws) (fun vs zs => vs ++ zs) := by
  obtain ⟨oc, od, dV, kV, doc, pm, an, cdv, ct, osl, rfl, lk, hcd, hD, hK⟩ := F.ex
  rcases hD with ⟨e, _⟩ | ⟨_, T, o, its, m, rfl, lT, oT, rT⟩
  · exact absurd e hd
  refine ⟨fun s us ws X l1 l2 => BindsTo.of_looks fun M => ?_, fun r1 r2 => r1.append r2⟩
  obtain ⟨k, e1, e2⟩ := h T kV doc pm an cdv ct us its ws l1 rT.length.symm l2
  rw [e1]
  exact looks_items X lT oT (.of_pure e2)
/-- a method: its promise, its places, what it binds where all is given -/
structure MX (P : Program) (w : World) (K : PySem.W.Frag) (mg : Str → Option Value) (base : Heap) (CX : CXT) (k : Nat) (C : Addr) (m : Str) (ps : List Str) (sp : Sp) (f : Addr) (fd : FuncData) : Prop where
  g : FnOk P w K mg base CX k f fd ps sp
  m : Meth K C m f
  b : Binds K fd ps []
structure LawTx (mg : Str → Option Value) : Prop where
  range : mg "range" = none
  max : mg "max" = none
  min : mg "min" = none
  len : mg "len" = none
  sorted : mg "sorted" = none
  enum : mg "enumerate" = none
abbrev nLaw : List Str := ["_law_script", "_law_at", "_law_bag_here", "_law_many", "_law_box", "_law_cells", "_law_k", "_law_term", "_law_turn", "_law_more", "_law_told", "_law_one", "_law_cell"]
theorem scLaw : FnScope nLaw ["_law_script"] (defScope sLaw) := ⟨rfl, rfl, rfl, by decide +kernel, rfl, by decide +kernel, by decide +kernel⟩
section
variable {P : Program} {w : World} {K : PySem.W.Frag} {mg : Str → Option Value} {base : Heap} {C : Cs}
def spLaw (K : PySem.W.Frag) : Sp := fun vs H Q _ => ∃ (a : Addr) (ns : List Int), vs = [.ref a] ∧ SqL K H a (ns.map V.int) ∧ ns.length ≤ 63 ∧ ∀ H', Q (.bl true) H'
theorem okLaw {f fB fT fO fI fE fN fAd fAr fCh fRd fW fR fA fC fP : Addr} {fd fdB fdT fdO fdI fdE fdN fdAd fdAr fdCh fdRd fdW fdR fdA fdC fdP : FuncData} {dvI dvA dvR : List Value} {ga gc gw : List Value → List Value → List Value} (F : Fun K "law" "law" sLaw f fd) (X : LawTx mg) (T : ClsF K C.S sysF) (nWR : C.W ≠ C.R)
    (GB : DO P w K mg base 1 "_law_bag" ["_law_script", "_law_at"] (spBag K) fB fdB) (GT : DO P w K mg base 1 "_law_take" ["_law_bag_here", "_law_many"] spTake fT fdT) (GO : DO P w K mg base 2 "_law_of" ["_law_bag_here", "_law_some"] (spOf K) fO fdO)
    (GA : DO P w K mg base 1 "_law_arrived" ["_law_cells", "_law_k"] (spCell arrC) fA fdA) (GC : DO P w K mg base 1 "_law_changed" ["_law_cells", "_law_k", "_law_term"] spChangedL fC fdC) (GRp : DO P w K mg base 1 "_law_reports" ["_law_cells"] spReportsL fP fdP)
    (gS : mg "System" = some (.ref C.S)) (MS : Mk K C.S fI) (GI : FnOk P w K mg base CX0 3 fI fdI ["self", "processes", "numbers"] (spSysInit C)) (bI : Binds K fdI ["self", "processes", "numbers"] dvI) (dI : Vals [V.int 4, V.int 8] dvI)
    (GE : MO P w K mg base 6 C.S "new_set" ["self", "process"] (spNewSet C) fE fdE) (GN : MO P w K mg base 6 C.S "new_source" ["self", "process"] (spNewSource C) fN fdN)
    (gAd : FnOk P w K mg base CX0 6 fAd fdAd ["self", "process", "set_number", "number", "label", "word"] (spAdd C)) (mAd : Meth K C.S "add" fAd) (kAd : KBn K fdAd ["self", "process", "set_number", "number", "label", "word"] 5 ["word"] ga (fun vs zs => vs ++ zs))
    (gAr : FnOk P w K mg base CX0 6 fAr fdAr ["self", "process", "number", "many"] (spArrive C)) (mAr : Meth K C.S "arrive" fAr) (bAr : Binds K fdAr ["self", "process", "number", "many"] dvA) (dAr : Vals [V.int 1] dvA)
    (gCh : FnOk P w K mg base CX0 6 fCh fdCh ["self", "process", "set_number", "number", "word"] (spChange C)) (mCh : Meth K C.S "change" fCh) (kCh : KBn K fdCh ["self", "process", "set_number", "number", "word"] 1 ["process", "set_number", "number", "word"] gc (fun vs zs => vs ++ zs))
    (gRd : FnOk P w K mg base CX0 6 fRd fdRd ["self", "process", "number", "many"] (spRead C)) (mRd : Meth K C.S "read" fRd) (bRd : Binds K fdRd ["self", "process", "number", "many"] dvR) (dRd : Vals [V.non] dvR)
    (gW : FnOk P w K mg base CX0 6 fW fdW ["self", "process", "set_number", "most"] (spWait C)) (mW : Meth K C.S "wait" fW) (kW : KBn K fdW ["self", "process", "set_number", "most"] 3 ["most"] gw (fun vs zs => vs ++ zs))
    (GR : MO P w K mg base 3 C.S "registrations" ["self"] (spRegistrations C) fR fdR) :
    FnOk P w K mg base CX0 8 f fd ["_law_script"] (spLaw K) := by
  refine F.ok scLaw (fun vs H Q E h => ?_) (fun cdv A outer s H vs Q E hr h => ?_)
  · obtain ⟨x, _, rfl, _⟩ := h
    rfl
  · obtain ⟨a, ns, rfl, hS, hl, k⟩ := h
    have hu := hr.units
    have r1 : Room 1 _ := hr.mono (by decide)
    have r2 : Room 2 _ := hr.mono (by decide)
    have r3 : Room 3 _ := hr.mono (by decide)
    have r4 : Room 4 _ := hr.mono (by decide)
    have r6 : Room 6 _ := hr.mono (by decide)
    refine ⟨_, (pss_cut (ps_for PassesOwn.never rfl (pi_range1 (by rfl) X.range (pa_cons (pe_callB (cMax2 rfl) (by rfl) X.max (by decide +kernel) (pa_cons pe_int (pa_cons (pe_callB (cMin2 rfl) (by rfl) X.min (by decide +kernel) (pa_cons pe_int (pa_cons (pe_callB cLenQ (by rfl) X.len PySem.boot_len (pa_cons (pv 0) pa_nil)) pa_nil))) pa_nil))) pa_nil)) (pg_name (i := 1) scLaw.nd rfl (Or.inl rfl)) (pss_cut (ps_set (i := 2) scLaw.nd rfl (Or.inl rfl) (pe_call GB.g r1 (by rfl) GB.m GB.k GB.b .nil pass0 (pa_cons (pv 0) (pa_cons (pv 1) pa_nil))))
 (pss_cut (ps_set (i := 3) scLaw.nd rfl (Or.inl rfl) (pe_op op_add pe_int (pe_call GT.g r1 (by rfl) GT.m GT.k GT.b .nil pass0 (pa_cons (pv 2) (pa_cons pe_int pa_nil)))))
 (pss_cut (ps_par (i := 4) (j := 5) (by rfl) scLaw.nd rfl rfl (by decide) rfl rfl (pa_cons (pe_make0 MS GI r4 (by rfl) gS bI dI pass0) (pa_cons (pe_lst pa_nil) pa_nil)) (by rfl))
 (pss_cut (ps_expr (pe_meth (pv 4) T.cl GE.m GE.g r6 GE.b .nil pass0 (pa_cons pe_int pa_nil)))
 (pss_cut (ps_for PassesOwn.never rfl (pi_range1 (by rfl) X.range (pa_cons (pv 3) pa_nil)) (pg_name (i := 6) scLaw.nd rfl (Or.inl rfl)) (pss_cut (ps_set (i := 7) scLaw.nd rfl (Or.inl rfl) (pe_call GO.g r2 (by rfl) GO.m GO.k GO.b .nil pass0 (pa_cons (pv 2) (pa_cons (pe_lst (pa_cons pe_str (pa_cons pe_str (pa_cons pe_str (pa_cons pe_str (pa_cons pe_str pa_nil)))))) pa_nil))))
 (pss_cut (ps_expr (pe_methK (pv 4) T.cl mAd gAd r6 kAd pass0 (pa_cons pe_int (pa_cons pe_int (pa_cons (pe_meth (pv 4) T.cl GN.m GN.g r6 GN.b .nil pass0 (pa_cons pe_int pa_nil)) (pa_cons (pv 6) pa_nil)))) (pk_cons (pv 7) pk_nil)))
 (pss_one (ps_expr (pe_bm PySem.F.plainAttrs_list PySem.F.slot_list_append PySem.F.type_list_append mt_append (pv 5) (pa_cons (pe_tup (pa_cons (pv 7) (pa_cons pe_bl (pa_cons pe_bl (pa_cons pe_int pa_nil))))) pa_nil)))))))
 (pss_one (ps_for PassesOwn.never rfl (pi_range1 (by rfl) X.range (pa_cons (pe_op op_add pe_int (pe_call GT.g r1 (by rfl) GT.m GT.k GT.b .nil pass0 (pa_cons (pv 2) (pa_cons pe_int pa_nil)))) pa_nil)) (pg_name (i := 8) scLaw.nd rfl (Or.inl rfl)) (pss_cut (ps_for PassesOwn.never rfl (pi_range1 (by rfl) X.range (pa_cons (pe_call GT.g r1 (by rfl) GT.m GT.k GT.b .nil pass0 (pa_cons (pv 2) (pa_cons pe_int pa_nil))) pa_nil)) (pg_name (i := 9) scLaw.nd rfl (Or.inl rfl)) (pss_cut (ps_set (i := 6) scLaw.nd rfl (Or.inl rfl) (pe_call GT.g r1 (by rfl) GT.m GT.k GT.b .nil pass0 (pa_cons (pv 2) (pa_cons (pv 3) pa_nil))))
 (pss_cut (ps_expr (pe_meth (pv 4) T.cl mAr gAr r6 bAr dAr pass0 (pa_cons pe_int (pa_cons (pe_op op_add (pv 6) pe_int) pa_nil))))
 (pss_one (ps_expr (pe_call GA.g r1 (by rfl) GA.m GA.k GA.b .nil pass0 (pa_cons (pv 5) (pa_cons (pv 6) pa_nil))))))))
 (pss_cut (ps_if (pt_cmpR op_eq (pe_call GT.g r1 (by rfl) GT.m GT.k GT.b .nil pass0 (pa_cons (pv 2) (pa_cons pe_int pa_nil))) pe_int (nomark _)) (pss_cut (ps_par (i := 6) (j := 7) (by rfl) scLaw.nd rfl rfl (by decide) rfl rfl (pa_cons (pe_call GT.g r1 (by rfl) GT.m GT.k GT.b .nil pass0 (pa_cons (pv 2) (pa_cons (pv 3) pa_nil))) (pa_cons (pe_call GO.g r2 (by rfl) GO.m GO.k GO.b .nil pass0 (pa_cons (pv 2) (pa_cons (pe_lst (pa_cons pe_str (pa_cons pe_str (pa_cons pe_str pa_nil)))) pa_nil))) pa_nil)) (by rfl))
 (pss_cut (ps_expr (pe_methK0 (pv 4) T.cl mCh gCh r6 kCh pass0 (pk_cons pe_int (pk_cons pe_int (pk_cons (pe_op op_add (pv 6) pe_int) (pk_cons (pv 7) pk_nil))))))
 (pss_one (ps_expr (pe_call GC.g r1 (by rfl) GC.m GC.k GC.b .nil pass0 (pa_cons (pv 5) (pa_cons (pv 6) (pa_cons (pv 7) pa_nil)))))))) pss_nil)
 (pss_cut (ps_if (pt_cmpR op_eq (pe_call GT.g r1 (by rfl) GT.m GT.k GT.b .nil pass0 (pa_cons (pv 2) (pa_cons pe_int pa_nil))) pe_int (nomark _)) (pss_cut (ps_set (i := 6) scLaw.nd rfl (Or.inl rfl) (pe_call GT.g r1 (by rfl) GT.m GT.k GT.b .nil pass0 (pa_cons (pv 2) (pa_cons (pv 3) pa_nil))))
 (pss_cut (ps_if (pt_cmpR op_ne (pe_meth (pv 4) T.cl mRd gRd r6 bRd dRd pass0 (pa_cons pe_int (pa_cons (pe_op op_add (pv 6) pe_int) pa_nil))) (pe_ix ix_tup (pe_ix ix_list (pv 5) (pv 6) (fun _ _ => rfl)) pe_int (fun _ _ => rfl)) (nomark _)) (pss_one (ps_ret pe_bl)) pss_nil)
 (pss_one (ps_asg (pe_op op_catT (pe_slice sl_tup (pe_ix ix_list (pv 5) (pv 6) (fun _ _ => rfl)) po_none (po_some pe_int)) (pe_tup (pa_cons pe_int pa_nil))) (pg_sub (pv 5) (pv 6) set_list))))) pss_nil)
 (pss_cut (ps_if (PW.pt (pw_and (pt_cmpR op_gt (pe_call GT.g r1 (by rfl) GT.m GT.k GT.b .nil pass0 (pa_cons (pv 2) (pa_cons pe_int pa_nil))) pe_int (nomark _)) (pw_and1 (pt_cmpR (op_neD hu) (pe_callB cr_sortedR (by rfl) X.sorted (by decide +kernel) (pa_cons (pe_methK (pv 4) T.cl mW gW r6 kW pass0 (pa_cons pe_int (pa_cons pe_int pa_nil)) (pk_cons pe_int pk_nil)) pa_nil)) (pe_call GRp.g r1 (by rfl) GRp.m GRp.k GRp.b .nil pass0 (pa_cons (pv 5) pa_nil)) (nomark _))))) (pss_one (ps_ret pe_bl)) pss_nil)
 (pss_cut (ps_setLc (i := 10) (own := [("_law_one", 11)]) (g := gName 11) (tt := tYes) (te := tTup (tCons (tOp (rIxT K) (tVar 11) (tC (.int 1))) (tCons (tOp (rIxT K) (tVar 11) (tC (.int 4))) (tCons (tOp (rIxT K) (tVar 11) (tC (.int 5))) tNil)))) rfl scLaw.nd rfl rfl rfl (pi_list (pe_meth0 (pv 4) T.cl GR.m GR.g r3 GR.b .nil pass0)) (blkOk_by (N := nLaw) (sc := defScope sLaw) (by decide +kernel)) (fun _ _ _ _ _ => (pg_name (i := 11) scLaw.nd rfl (Or.inl rfl))) (fun _ _ _ _ _ => pts_nil) (fun _ _ _ _ _ => (pe_tup (pa_cons (pe_ix ix_tup (pv 11) pe_int (fun _ _ => rfl)) (pa_cons (pe_ix ix_tup (pv 11) pe_int (fun _ _ => rfl)) (pa_cons (pe_ix ix_tup (pv 11) pe_int (fun _ _ => rfl)) pa_nil))))))
 (pss_one (ps_if (pt_cmpR (op_neD hu) (pv 10) (pe_lc (own := [("_law_k", 6), ("_law_cell", 12)]) (g := gTup K 2 (gCons (gName 6) (gCons (gName 12) gNil))) (tt := tYes) (te := tTup (tCons (tVar 6) (tCons (tOp (rIxT K) (tVar 12) (tC (.int 0))) (tCons (tOp (rIxT K) (tVar 12) (tC (.int 1))) tNil)))) rfl scLaw.nd (pi_enum (by rfl) X.enum (pa_cons (pv 5) pa_nil)) (blkOk_by (N := nLaw) (sc := defScope sLaw) (by decide +kernel)) (fun _ _ _ _ _ => (pg_tup rfl (pgs_cons (pg_name (i := 6) scLaw.nd rfl (Or.inl rfl)) (pgs_cons (pg_name (i := 12) scLaw.nd rfl (Or.inl rfl)) pgs_nil)))) (fun _ _ _ _ _ => pts_nil) (fun _ _ _ _ _ => (pe_tup (pa_cons (pv 6) (pa_cons (pe_ix ix_tup (pv 12) pe_int (fun _ _ => rfl)) (pa_cons (pe_ix ix_tup (pv 12) pe_int (fun _ _ => rfl)) pa_nil)))))) (nomark _)) (pss_one (ps_ret pe_bl)) pss_nil)))))))))))))))
 (pss_one (ps_ret pe_bl))), ?_⟩
    have ddI := dI
    refine ⟨fun _ _ => True, ?_, fun σ' H' _ => ?_⟩
    · show iRng1 _ _ _ _
      show tCons _ _ _ _ _
      walk_at "wn"
      refine ⟨a, _, rfl, .inl hS, ?_⟩
      walk_at "wn"
      refine ⟨_, rfl, ?_, ?_, ?_⟩
      · split <;> split <;> omega
      · split <;> split <;> omega
      refine for_range (lo := 0) (fun i σ' H' => ∃ u1 u2 u3 u4 u5 u6 u7 u8 u9 u10 u11 u12 : Option V, σ' = [some (.ref a), u1, u2, u3, u4, u5, u6, u7, u8, u9, u10, u11, u12] ∧ SqL K H' a (ns.map V.int)) ⟨_, _, _, _, _, _, _, _, _, _, _, _, rfl, hS⟩ ?_ (fun _ _ _ => trivial)
      rintro i σ' Hb hi ⟨u1, u2, u3, u4, u5, u6, u7, u8, u9, u10, u11, u12, rfl, hSb⟩
      have hi100 : i ≤ 100 := by revert hi; split <;> split <;> omega
      refine ⟨fun σ' H1 => ∃ p : Addr, σ' = [some (.ref a), some (.int (0 + (i : Int))), some (.ref p), u3, u4, u5, u6, u7, u8, u9, u10, u11, u12] ∧ Hb p = none ∧ Same Hb H1 ∧ BagAt H1 p, ?_, ?_⟩
      · walk_at "wn"
        refine ⟨a, ns, i, by simp, hSb, hl, hi100, fun H1 p n0 s1 b1 => ?_⟩
        walk_at "wn"
        exact ⟨p, rfl, n0, s1, b1⟩
      rintro σ' H1 ⟨p, rfl, n0, s1, b1⟩
      refine ⟨fun σ' H2 => ∃ many : Nat, 0 < many ∧ many ≤ 6 ∧ σ' = [some (.ref a), some (.int (0 + (i : Int))), some (.ref p), some (.int (many : Int)), u4, u5, u6, u7, u8, u9, u10, u11, u12] ∧ Same Hb H2 ∧ BagAt H2 p, ?_, ?_⟩
      · walk_at "wn"
        refine ⟨p, 6, rfl, b1, by decide, by decide, fun kk H2 k0 k1 e2 b2 => ?_⟩
        walk_at "wn"
        have e : (((1 + kk).toNat : Nat) : Int) = 1 + kk := by omega
        exact ⟨(1 + kk).toNat, by omega, by omega, by rw [e]; rfl, fun b o h => (e2 b fun z => by rw [z, n0] at h; cases h).trans (s1 b o h), b2⟩
      rintro σ' H2 ⟨many, m0, m6, rfl, s2, b2⟩
      -- the system, made
      refine ⟨fun σ' H3 => ∃ (x L : Addr) (ad dx : Cell → Addr), σ' = [some (.ref a), some (.int (0 + (i : Int))), some (.ref p), some (.int (many : Int)), some (.ref x), some (.ref L), u6, u7, u8, u9, u10, u11, u12] ∧ LW C Hb H3 p x L (newSys 4 8) ad dx [], ?_, ?_⟩
      · intro x dx0 hx hdx nxd
        refine ⟨x, dx0, 4, 8, rfl, upd_same, by decide, by decide, by decide, by decide, fun H3 ad dx hb A3 k3 o3 => ⟨rfl, ?_⟩⟩
        refine ⟨by show 0 ≤ sizeLine; decide, fun L hL => ?_⟩
        have W := LW.start s2 b2 n0 (by rw [upd_ne (by first | exact nxd | exact Ne.symm nxd)]; exact hx) hdx A3 hb k3 o3 hL
        exact ⟨_, _, rfl, x, L, ad, dx, rfl, W⟩
      rintro σ' H3 ⟨x, L, ad, dx, rfl, W0⟩
      refine ⟨fun σ' H' => σ' = [some (.ref a), some (.int (0 + (i : Int))), some (.ref p), some (.int (many : Int)), some (.ref x), some (.ref L), u6, u7, u8, u9, u10, u11, u12] ∧ Doing C Hb p x L 0 H', ?_, ?_⟩
      · walk_at "wn"
        refine ⟨_, rfl, x, dx .box, _, rfl, W0.hb, rfl, ?_⟩
        walk_at "wn"
        refine ⟨0, 0, newSys 4 8, ad, dx, by rw [W0.box]; rfl, W0.at_, by decide, ⟨rfl, fun i h => absurd h (Nat.not_lt_zero _)⟩, by decide, by decide, by decide, fun H' ad' dx' A st => ?_⟩
        walk_at "wn"
        exact ⟨rfl, .mk (W0.step A st) fit_start rfl⟩
      rintro σ' H4 ⟨rfl, d4⟩
      clear W0 b1 s1 H1 b2 s2 H2
      refine ⟨fun σ' H' => ∃ u6 u7, σ' = [some (.ref a), some (.int (0 + (i : Int))), some (.ref p), some (.int (many : Int)), some (.ref x), some (.ref L), u6, u7, u8, u9, u10, u11, u12] ∧ Doing C Hb p x L many H', ?_, ?_⟩
      · show iRng1 _ _ _ _
        show tCons _ _ _ _ _
        walk_at "wn"
        refine ⟨_, rfl, by omega, by omega, ?_⟩
        rw [Int.toNat_natCast]
        refine for_range (lo := 0) (fun j σ' H' => ∃ u6 u7, σ' = [some (.ref a), some (.int (0 + (i : Int))), some (.ref p), some (.int (many : Int)), some (.ref x), some (.ref L), u6, u7, u8, u9, u10, u11, u12] ∧ Doing C Hb p x L j H') ⟨_, _, rfl, d4⟩ ?_ (fun _ _ h => h)
        rintro j σ' H5 hj ⟨v6, v7, rfl, d5⟩
        refine ⟨fun σ' H' => ∃ wd : Str, wd ∈ wordsL ∧ σ' = [some (.ref a), some (.int (0 + (i : Int))), some (.ref p), some (.int (many : Int)), some (.ref x), some (.ref L), some (.int (0 + (j : Int))), some (.str wd), u8, u9, u10, u11, u12] ∧ Doing C Hb p x L j H', ?_, ?_⟩
        · cases d5 with
          | @mk S ad dx cs W F eN =>
          walk_at "wn"
          refine ⟨by show 5 ≤ sizeLine; decide, fun Ls hLs => ?_⟩
          have W1 := W.same (Same.new' (o := .lst [.str "edge", .str "once", .str "level", .str "edge", .str "once"]) hLs)
          walk_at "wn"
          refine ⟨p, Ls, _, rfl, W1.bag, SqL.of upd_same, fun z => ?_, by decide, by decide, fun m v H' hv e b => ?_⟩
          · obtain ⟨_, _, hp, _⟩ := W.bag
            rw [← z, hLs] at hp
            cases hp
          have hm := List.mem_of_getElem? hv
          have hw : ∃ wd : Str, wd ∈ wordsL ∧ v = .str wd := by
            simp only [List.mem_cons, List.not_mem_nil, or_false] at hm
            rcases hm with z | z | z | z | z <;> exact ⟨_, by unfold wordsL; decide, z⟩
          obtain ⟨wd, hwd, rfl⟩ := hw
          walk_at "wn"
          exact ⟨wd, hwd, rfl, .mk (W1.draw e b) F eN⟩
        rintro σ' H6 ⟨wd, hwd, rfl, d6⟩
        refine ⟨fun σ' H' => σ' = [some (.ref a), some (.int (0 + (i : Int))), some (.ref p), some (.int (many : Int)), some (.ref x), some (.ref L), some (.int (0 + (j : Int))), some (.str wd), u8, u9, u10, u11, u12] ∧ ∃ (S : Sys) (ad dx : Cell → Addr) (cs : List Lc), LW C Hb H' p x L S ad dx cs ∧ Fit S (cs ++ [⟨wd, true, false, 0⟩]) ∧ cs.length = j, ?_, ?_⟩
        · cases d6 with
          | @mk S ad dx cs W F eN =>
          have c6 : cs.length < 6 := by omega
          obtain ⟨t1, t2, t3, t4, t5, t6, t7⟩ := F.toadd c6
          walk_at "wn"
          refine ⟨_, rfl, x, dx .box, _, rfl, W.hb, rfl, ?_⟩
          walk_at "wn"
          refine ⟨_, rfl, x, dx .box, _, rfl, W.hb, rfl, ?_⟩
          walk_at "wn"
          refine ⟨0, cs.length + 1, S, ad, dx, by rw [W.box]; rfl, W.at_, by rw [F.procs]; decide, F.free c6, by rw [F.tlen]; decide, by rw [F.srcs, List.length_map, upTo_len]; omega, fun z => ?_, fun H7 ad7 A7 st7 => ?_⟩
          · rw [F.srcs, F.next] at z
            obtain ⟨y, hy, e⟩ := List.mem_map.mp z
            obtain ⟨q, hq, rfl⟩ := mem_upTo.mp hy
            omega
          have W7 := W.step A7 st7
          walk_at "wn"
          have ej : (cs.length : Int) = 0 + (j : Int) := by omega
          refine ⟨rfl, rfl, 0, 0, ((cs.length + 1 : Nat) : Int), 0 + (j : Int), 0, (cs.length : Int) + 1, wd, newSource S 0 (cs.length + 1), ad7, dx, by rw [W7.box]; rfl, W7.at_, t1, t2, t3, t4, by omega, by omega, hwd, t5, by rw [← ej]; exact t6, t7, fun H8 ad8 dx8 A8 st8 => ?_⟩
          rw [← ej] at A8 st8
          walk_at "wn"
          exact ⟨rfl, _, _, _, cs, W7.step A8 st8, F.grow c6 hwd, eN⟩
        rintro σ' H7 ⟨rfl, S, ad, dx, cs, W, F, eN⟩
        obtain ⟨vs, hL, pc⟩ := W.cells
        walk_at "wn"
        refine ⟨by show 4 ≤ sizeLine; decide, fun T1 hT1 => ?_⟩
        walk_at "wn"
        have lc := pc.length
        have nLT : L ≠ T1 := ne_of_none hL hT1
        refine ⟨L, vs, _, rfl, rfl, (upd_ne nLT).trans hL, by rw [sizeLine_eq]; omega, ?_⟩
        have s8 := Same.new' (o := .tup (lcT ⟨wd, true, false, 0⟩)) hT1
        have W8 := W.same s8
        refine ⟨_, _, rfl, .mk (W8.put (cs' := cs ++ [⟨wd, true, false, 0⟩]) ⟨_, upd_same, paired_snoc (lcs_keep pc fun b xs e => ?_) ⟨T1, rfl, (upd_ne (Ne.symm nLT)).trans upd_same⟩⟩ fun q o nq h => by rw [upd_ne nq]; exact h) F (by rw [List.length_append, eN]; rfl)⟩
        rw [upd_ne (fun z => by rw [z, hL] at e; cases e)]
        exact s8 _ _ e
      rintro σ' H5 ⟨v6, v7, rfl, d5⟩
      clear d4
      show iRng1 _ _ _ _
      show tCons _ _ _ _ _
      walk_at "wn"
      refine ⟨p, 26, rfl, d5.bag, by decide, by decide, fun kk H6 k0 k1 e6 b6 => ?_⟩
      have d6 := d5.draw e6 b6
      clear d5
      walk_at "wn"
      refine ⟨_, rfl, by omega, by omega, ?_⟩
      refine for_range (lo := 0) (fun tt σ' H' => ∃ u6 u7 u8 u9 u10, σ' = [some (.ref a), some (.int (0 + (i : Int))), some (.ref p), some (.int (many : Int)), some (.ref x), some (.ref L), u6, u7, u8, u9, u10, u11, u12] ∧ Doing C Hb p x L many H') ⟨_, _, _, _, _, rfl, d6⟩ ?_ (fun σ' H' ⟨_, _, _, _, _, e, d⟩ => ⟨_, _, _, _, _, _, _, _, _, _, _, _, e, d.sq hSb⟩)
      clear d6 k0 k1 u6 u7 u8 u9 u10 v6 v7
      rintro tt σ' H7 ht ⟨u6, u7, u8, u9, u10, rfl, d7⟩
      -- units come
      refine ⟨fun σ' H' => ∃ u6 u9, σ' = [some (.ref a), some (.int (0 + (i : Int))), some (.ref p), some (.int (many : Int)), some (.ref x), some (.ref L), u6, u7, some (.int (0 + (tt : Int))), u9, u10, u11, u12] ∧ Doing C Hb p x L many H', ?_, ?_⟩
      · show iRng1 _ _ _ _
        show tCons _ _ _ _ _
        walk_at "wn"
        refine ⟨p, 4, rfl, d7.bag, by decide, by decide, fun kk H8 k0 k1 e8 b8 => ?_⟩
        have d8 := d7.draw e8 b8
        clear d7
        walk_at "wn"
        refine ⟨_, rfl, by omega, by omega, ?_⟩
        refine for_range (lo := 0) (fun m σ' H' => ∃ u6 u9, σ' = [some (.ref a), some (.int (0 + (i : Int))), some (.ref p), some (.int (many : Int)), some (.ref x), some (.ref L), u6, u7, some (.int (0 + (tt : Int))), u9, u10, u11, u12] ∧ Doing C Hb p x L many H') ⟨_, _, rfl, d8⟩ ?_ (fun _ _ h => h)
        rintro m σ' H9 hm ⟨v6, v9, rfl, d9⟩
        refine ⟨fun σ' H' => ∃ k : Nat, k < many ∧ σ' = [some (.ref a), some (.int (0 + (i : Int))), some (.ref p), some (.int (many : Int)), some (.ref x), some (.ref L), some (.int (k : Int)), u7, some (.int (0 + (tt : Int))), some (.int (0 + (m : Int))), u10, u11, u12] ∧ Doing C Hb p x L many H', ?_, ?_⟩
        · walk_at "wn"
          refine ⟨p, (many : Int), rfl, d9.bag, by omega, by omega, fun kk Ha k0 k1 ea ba => ?_⟩
          walk_at "wn"
          have e : ((kk.toNat : Nat) : Int) = kk := by omega
          exact ⟨kk.toNat, by omega, by rw [e]; rfl, d9.draw ea ba⟩
        clear d9
        rintro σ' Ha ⟨k, hk, rfl, da⟩
        refine ⟨fun σ' H' => σ' = [some (.ref a), some (.int (0 + (i : Int))), some (.ref p), some (.int (many : Int)), some (.ref x), some (.ref L), some (.int (k : Int)), u7, some (.int (0 + (tt : Int))), some (.int (0 + (m : Int))), u10, u11, u12] ∧ Mid C Hb p x L many k arrC H', ?_, ?_⟩
        · cases da with
          | @mk S ad dx cs W F eN =>
          obtain ⟨c, hc⟩ : ∃ c, cs[k]? = some c := ⟨_, List.getElem?_eq_getElem (by omega)⟩
          walk_at "wn"
          refine ⟨_, rfl, x, dx .box, _, rfl, W.hb, rfl, ?_⟩
          walk_at "wn"
          refine ⟨0, (k : Int) + 1, (k : Int) + 1, 1, S, ad, dx, by rw [W.box]; rfl, W.at_, F.means hc, F.src hc, by rw [F.unit k c hc], by decide, by decide, F.small, fun Hb2 ad2 A st => ?_⟩
          walk_at "wn"
          exact ⟨rfl, .mk (W.step A st) hc (F.arrive hc) eN⟩
        clear da
        rintro σ' Hb2 ⟨rfl, md⟩
        cases md with
        | @mk S ad dx cs c W hc F eN =>
        walk_at "wn"
        refine ⟨L, k, cs, c, rfl, W.cells, hc, fun Hc hC kp => ?_⟩
        walk_at "wn"
        exact ⟨_, _, rfl, .mk (W.put hC kp) F (by rw [List.length_set]; exact eN)⟩
      clear d7
      rintro σ' H8 ⟨v6, v9, rfl, d8⟩
      -- a word is changed
      refine ⟨fun σ' H' => ∃ u6 u7, σ' = [some (.ref a), some (.int (0 + (i : Int))), some (.ref p), some (.int (many : Int)), some (.ref x), some (.ref L), u6, u7, some (.int (0 + (tt : Int))), v9, u10, u11, u12] ∧ Doing C Hb p x L many H', ?_, ?_⟩
      · walk_at "wn"
        refine ⟨p, 3, rfl, d8.bag, by decide, by decide, fun kk H9 k0 k1 e9 b9 => ?_⟩
        have d9 := d8.draw e9 b9
        walk_at "wn"
        refine ite2 (fun c0 => ?_) (fun c0 => ?_)
        · refine ⟨fun σ' H' => ∃ (k : Nat) (wd : Str), k < many ∧ wd ∈ wordsL ∧ σ' = [some (.ref a), some (.int (0 + (i : Int))), some (.ref p), some (.int (many : Int)), some (.ref x), some (.ref L), some (.int (k : Int)), some (.str wd), some (.int (0 + (tt : Int))), v9, u10, u11, u12] ∧ Doing C Hb p x L many H', ?_, ?_⟩
          · show tCons _ _ _ _ _
            walk_at "wn"
            refine ⟨p, (many : Int), rfl, d9.bag, by omega, by omega, fun kk Ha k0 k1 ea ba => ?_⟩
            have da := d9.draw ea ba
            walk_at "wn"
            refine ⟨by show 3 ≤ sizeLine; decide, fun Ls hLs => ?_⟩
            have db := da.same (Same.new' (o := .lst [.str "edge", .str "once", .str "level"]) hLs)
            walk_at "wn"
            refine ⟨p, Ls, _, rfl, db.bag, SqL.of upd_same, fun z => ?_, by decide, by decide, fun m v H' hv e b => ?_⟩
            · obtain ⟨_, _, hp, _⟩ := da.bag
              rw [← z, hLs] at hp
              cases hp
            have hm := List.mem_of_getElem? hv
            have hw : ∃ wd : Str, wd ∈ wordsL ∧ v = .str wd := by
              simp only [List.mem_cons, List.not_mem_nil, or_false] at hm
              rcases hm with z | z | z <;> exact ⟨_, by unfold wordsL; decide, z⟩
            obtain ⟨wd, hwd, rfl⟩ := hw
            walk_at "wn"
            have e2 : ((kk.toNat : Nat) : Int) = kk := by omega
            refine ⟨_, _, rfl, ?_⟩
            exact ⟨kk.toNat, wd, by omega, hwd, by rw [e2]; rfl, db.draw e b⟩
          clear d9
          rintro σ' Ha ⟨k, wd, hk, hwd, rfl, da⟩
          refine ⟨fun σ' H' => σ' = [some (.ref a), some (.int (0 + (i : Int))), some (.ref p), some (.int (many : Int)), some (.ref x), some (.ref L), some (.int (k : Int)), some (.str wd), some (.int (0 + (tt : Int))), v9, u10, u11, u12] ∧ Mid C Hb p x L many k (chgC wd) H', ?_, ?_⟩
          · cases da with
            | @mk S ad dx cs W F eN =>
            obtain ⟨c, hc⟩ : ∃ c, cs[k]? = some c := ⟨_, List.getElem?_eq_getElem (by omega)⟩
            walk_at "wn"
            refine ⟨_, rfl, x, dx .box, _, rfl, W.hb, rfl, ?_⟩
            walk_at "wn"
            refine ⟨rfl, 0, 0, (k : Int) + 1, (k : Int), 0, (k : Int) + 1, wd, S, ad, dx, by rw [W.box]; rfl, W.at_, F.means0, by rw [F.sets]; decide, F.means hc, F.src hc, hwd, F.find hc, F.small, fun Hb2 ad2 dx2 A st => ?_⟩
            walk_at "wn"
            exact ⟨rfl, .mk (W.step A st) hc (F.change hc hwd) eN⟩
          clear da
          rintro σ' Hb2 ⟨rfl, md⟩
          cases md with
          | @mk S ad dx cs c W hc F eN =>
          walk_at "wn"
          refine ⟨L, k, cs, c, wd, rfl, W.cells, hc, fun Hc hC kp => ?_⟩
          walk_at "wn"
          exact ⟨_, _, rfl, .mk (W.put hC kp) F (by rw [List.length_set]; exact eN)⟩
        · exact ⟨_, _, rfl, d9⟩
      clear d8
      rintro σ' H9 ⟨w6, w7, rfl, d9⟩
      -- a source is read
      refine ⟨fun σ' H' => ∃ u6, σ' = [some (.ref a), some (.int (0 + (i : Int))), some (.ref p), some (.int (many : Int)), some (.ref x), some (.ref L), u6, w7, some (.int (0 + (tt : Int))), v9, u10, u11, u12] ∧ Doing C Hb p x L many H', ?_, ?_⟩
      · walk_at "wn"
        refine ⟨p, 3, rfl, d9.bag, by decide, by decide, fun kk Ha k0 k1 ea ba => ?_⟩
        have da := d9.draw ea ba
        walk_at "wn"
        refine ite2 (fun c0 => ?_) (fun c0 => ?_)
        · refine ⟨fun σ' H' => ∃ k : Nat, k < many ∧ σ' = [some (.ref a), some (.int (0 + (i : Int))), some (.ref p), some (.int (many : Int)), some (.ref x), some (.ref L), some (.int (k : Int)), w7, some (.int (0 + (tt : Int))), v9, u10, u11, u12] ∧ Doing C Hb p x L many H', ?_, ?_⟩
          · walk_at "wn"
            refine ⟨p, (many : Int), rfl, da.bag, by omega, by omega, fun kk Hc k0 k1 ec bc => ?_⟩
            walk_at "wn"
            have e : ((kk.toNat : Nat) : Int) = kk := by omega
            exact ⟨kk.toNat, by omega, by rw [e]; rfl, da.draw ec bc⟩
          clear da
          rintro σ' Hc ⟨k, hk, rfl, dc⟩
          refine ⟨fun σ' H' => σ' = [some (.ref a), some (.int (0 + (i : Int))), some (.ref p), some (.int (many : Int)), some (.ref x), some (.ref L), some (.int (k : Int)), w7, some (.int (0 + (tt : Int))), v9, u10, u11, u12] ∧ Mid C Hb p x L many k (fun c => ⟨c.word, c.armed, c.pend, 0⟩) H', ?_, ?_⟩
          · cases dc with
            | @mk S ad dx cs W F eN =>
            obtain ⟨c, hc⟩ : ∃ c, cs[k]? = some c := ⟨_, List.getElem?_eq_getElem (by omega)⟩
            obtain ⟨ev, F2⟩ := F.read hc
            walk_at "wn"
            refine ⟨_, rfl, x, dx .box, _, rfl, W.hb, rfl, ?_⟩
            walk_at "wn"
            refine ⟨0, (k : Int) + 1, (k : Int) + 1, none, S, ad, dx, by rw [W.box]; rfl, W.at_, F.means hc, F.src hc, fun m e => (by cases e), F.small, fun Hd ad2 A st => ?_⟩
            have Wd := W.step A st
            obtain ⟨vs, hL, pc⟩ := Wd.cells
            obtain ⟨v, hv, T0, rfl, hT⟩ := paired_get pc hc
            rw [ev]
            walk_at "wn"
            refine ⟨L, _, (k : Int), _, rfl, rfl, SqL.of hL, atI_nat hv, ?_⟩
            walk_at "wn"
            refine ⟨T0, _, 3, _, rfl, rfl, SqT.of hT, rfl, ?_⟩
            refine ⟨rfl, _, rfl, ?_⟩
            rw [decide_eq_true rfl]
            refine iteF ?_
            exact ⟨rfl, .mk Wd hc F2 eN⟩
          clear dc
          rintro σ' Hd ⟨rfl, md⟩
          cases md with
          | @mk S ad dx cs c W hc F eN =>
          obtain ⟨vs, hL, pc⟩ := W.cells
          obtain ⟨v, hv, T0, rfl, hT⟩ := paired_get pc hc
          have kl : k < vs.length := (List.getElem?_eq_some_iff.mp hv).1
          walk_at "wn"
          refine ⟨L, _, (k : Int), _, rfl, rfl, SqL.of hL, atI_nat hv, ?_⟩
          walk_at "wn"
          refine ⟨T0, _, rfl, SqT.of hT, by show ¬ (HT.sIx 4 0 none = 0 ∧ HT.sIx 4 4 (some 3) = 4); decide, fun T1 hT1 => ?_⟩
          have s1 := Same.new' (o := .tup (cutV (lcT c) none (some 3))) hT1
          walk_at "wn"
          refine ⟨by show 1 ≤ sizeLine; decide, fun T2 hT2 => ?_⟩
          have s2 := Same.new' (o := .tup [.int 0]) hT2
          have s3 := s1.trans s2
          refine ⟨T1, T2, _, _, rfl, rfl, SqT.of (s2 _ _ upd_same), SqT.of upd_same, (by show ([V.str c.word, V.bl c.armed, V.bl c.pend] : List V) ≠ []; exact fun z => by cases z), by show 4 ≤ sizeLine; decide, (fun z => by cases z), fun _ T3 hT3 => ?_⟩
          walk_at "wn"
          have nLT : L ≠ T3 := ne_of_none (s3 _ _ hL) hT3
          refine ⟨L, vs, (k : Int), k, rfl, rfl, (upd_ne nLT).trans (s3 _ _ hL), ixN_nat kl, ?_⟩
          exact ⟨_, rfl, .mk ((W.same s3).put (CellsAt.set (c' := ⟨c.word, c.armed, c.pend, 0⟩) (s3 _ _ hL) (lcs_keep pc fun b xs e => s3 _ _ e) hT3) fun q o nq h => by rw [upd_ne nq, upd_ne (ne_of_none h hT3)]; exact h) F (by rw [List.length_set]; exact eN)⟩
        · exact ⟨_, rfl, da⟩
      clear d9
      rintro σ' Ha ⟨x6, rfl, da⟩
      -- all are told
      refine ⟨fun σ' H' => σ' = [some (.ref a), some (.int (0 + (i : Int))), some (.ref p), some (.int (many : Int)), some (.ref x), some (.ref L), x6, w7, some (.int (0 + (tt : Int))), v9, u10, u11, u12] ∧ Doing C Hb p x L many H', ?_, ?_⟩
      · walk_at "wn"
        refine ⟨p, 4, rfl, da.bag, by decide, by decide, fun kk Hc k0 k1 ec bc => ?_⟩
        have db := da.draw ec bc
        walk_at "wn"
        refine ite2 (fun c0 => ?_) (fun c0 => ?_)
        · cases db with
          | @mk S ad dx cs W F eN =>
          obtain ⟨h1, _, _⟩ := F.takes
          walk_at "wn"
          refine ⟨_, rfl, x, dx .box, _, rfl, W.hb, rfl, ?_⟩
          walk_at "wn"
          refine ⟨rfl, rfl, 0, 0, 0, 1000, S, ad, dx, by rw [W.box]; rfl, W.at_, F.means0, by rw [F.sets]; decide, by decide, by decide, fun l hl2 => ?_, fun l hl2 => ?_, nWR, F.small, fun Hd ad2 dx2 r rs nr hr2 nown pr A st => ?_⟩
          · obtain ⟨k, c, rfl, hc, _⟩ := (F.que l).mp hl2
            rw [F.ents]
            exact mem_upTo.mpr ⟨k, F.at_ hc, rfl⟩
          · rw [F.ents] at hl2
            obtain ⟨k, hk, rfl⟩ := mem_upTo.mp hl2
            have hc := List.getElem?_eq_getElem hk
            rw [F.reg k _ hc]
            exact F.src hc
          have W2 := W.step A st
          have F2 := F.wait
          rw [h1] at pr
          -- the key of a report
          have key : ∃ f : V → Int, ∀ v y, RepAt Hd v y → f v = y.1 := ⟨fun v => match v with
            | .ref t => match Hd t with
              | some (.tup (.int q :: _)) => q
              | _ => 0
            | _ => 0, fun v y ⟨t, e1, e2⟩ => by
            subst e1
            show (match Hd t with
              | some (.tup (.int q :: _)) => q
              | _ => 0) = _
            rw [e2]⟩
          obtain ⟨f, hf⟩ := key
          have lab : ∀ {m : Nat} {v : V}, rs[m]? = some v → ∃ l, ((S.que 0).filter (rdyL S.unit (S.reg 0)))[m]? = some l ∧ RepAt Hd v (l, S.unit (S.reg 0 l).src) ∧ f v = l := fun {m v} hv => by
            obtain ⟨y, hy, ry⟩ := paired_at pr hv
            rw [List.getElem?_map] at hy
            cases el : ((S.que 0).filter (rdyL S.unit (S.reg 0)))[m]? with
            | none => rw [el] at hy; cases hy
            | some l =>
              rw [el] at hy
              cases hy
              exact ⟨l, rfl, ry, hf _ _ ry⟩
          have ndl : ((S.que 0).filter (rdyL S.unit (S.reg 0))).Nodup := F.nd.filter _
          walk_at "wn"
          refine ⟨r, rs, f, rfl, SqL.of hr2, fun v hv => ?_, fun v hv y hy e => ?_, fun ys q pm pw hq => ?_⟩
          · obtain ⟨m, hm⟩ := List.mem_iff_getElem?.mp hv
            obtain ⟨l, _, ⟨t, e1, e2⟩, e3⟩ := lab hm
            rw [e3]
            exact ⟨t, _, _, e1, e2⟩
          · obtain ⟨m, hm⟩ := List.mem_iff_getElem?.mp hv
            obtain ⟨m2, hm2⟩ := List.mem_iff_getElem?.mp hy
            obtain ⟨l, el, _, e3⟩ := lab hm
            obtain ⟨l2, el2, _, e4⟩ := lab hm2
            rw [e3, e4] at e
            subst e
            obtain ⟨b1, e5⟩ := List.getElem?_eq_some_iff.mp el
            obtain ⟨b2, e6⟩ := List.getElem?_eq_some_iff.mp el2
            have := (List.getElem_inj ndl).mp (e5.trans e6.symm)
            subst this
            rw [hm] at hm2
            exact Option.some.inj hm2
          have W3 := W2.same (Same.new' (o := .lst ys) hq)
          have sq := Same.new' (o := .lst ys) hq
          walk_at "wn"
          refine ⟨L, cs, rfl, W3.cells, F.few, fun He r2 rs2 n2 hr3 pr2 hC kp => ?_⟩
          obtain ⟨vs0, hL0, _⟩ := W3.cells
          have tk : ∀ b xs, Hd b = some (.tup xs) → He b = some (.tup xs) := fun b xs e => kp _ _ (fun z => by rw [← z, sq _ _ e] at hL0; cases hL0) (sq _ _ e)
          have nqL : q ≠ L := fun z => by
            obtain ⟨vs1, hL1, _⟩ := W2.cells
            rw [z, hL1] at hq
            cases hq
          have hys := kp q _ nqL upd_same
          -- the sorted reports are the told ones
          have eq1 : ys.map f = (toldFrom 0 cs).map (·.1) := by
            have rsf : rs.map f = (S.que 0).filter (rdyL S.unit (S.reg 0)) := by
              refine List.ext_getElem? fun m => ?_
              rw [List.getElem?_map]
              cases hv : rs[m]? with
              | none =>
                have := pr.length
                have h3 := List.getElem?_eq_none_iff.mp hv
                rw [List.length_map] at this
                exact (List.getElem?_eq_none_iff.mpr (by omega)).symm
              | some v =>
                obtain ⟨l, el, _, e3⟩ := lab hv
                rw [el]
                exact congrArg some e3
            have pm2 : (ys.map f).Perm ((S.que 0).filter (rdyL S.unit (S.reg 0))) := by rw [← rsf]; exact pm.map f
            have st2 := told_sorted (cs := cs) (k := 0)
            refine sort_uniq (pm2.trans ((List.perm_ext_iff_of_nodup ndl (st2.imp fun h => by omega)).mpr fun l => ?_)) (List.pairwise_map.mpr pw) (st2.imp fun h => Int.le_of_lt h)
            rw [List.mem_filter, List.mem_map]
            constructor
            · rintro ⟨m1, m2⟩
              obtain ⟨k, c, rfl, hc, hp⟩ := (F.que l).mp m1
              rw [F.rdy hc] at m2
              exact ⟨_, mem_told.mpr ⟨k, c, hc, by unfold heard; rw [hp, m2]; rfl, rfl⟩, by show ((0 + k : Nat) : Int) = k; rw [Nat.zero_add]⟩
            · rintro ⟨y, hy, rfl⟩
              obtain ⟨k, c, hc, hh, rfl⟩ := mem_told.mp hy
              unfold heard at hh
              rw [Bool.and_eq_true] at hh
              show ((0 + k : Nat) : Int) ∈ _ ∧ rdyL S.unit (S.reg 0) ((0 + k : Nat) : Int) = true
              rw [Nat.zero_add, F.rdy hc]
              exact ⟨(F.inq hc).mpr hh.1, hh.2⟩
          have eq2 : (toldFrom 0 cs) = (ys.map f).map (fun l => (l, S.unit (S.reg 0 l).src)) := by
            rw [eq1, List.map_map]
            refine (List.map_id _).symm.trans (List.map_congr_left fun y hy => ?_)
            obtain ⟨k, c, hc, hh, rfl⟩ := mem_told.mp hy
            show _ = (((0 + k : Nat) : Int), S.unit (S.reg 0 ((0 + k : Nat) : Int)).src)
            rw [Nat.zero_add, F.reg k c hc, F.unit k c hc]
            rfl
          have pys : Paired (RepAt He) ys (toldFrom 0 cs) := by
            rw [eq2]
            have all : ∀ v ∈ ys, RepAt He v (f v, S.unit (S.reg 0 (f v)).src) := fun v hv => by
              obtain ⟨m, hm⟩ := List.mem_iff_getElem?.mp (pm.mem_iff.mp hv)
              obtain ⟨l, _, ⟨t, e1, e2⟩, e3⟩ := lab hm
              rw [e3]
              exact ⟨t, e1, tk _ _ e2⟩
            have gen : ∀ zs : List V, (∀ v ∈ zs, RepAt He v (f v, S.unit (S.reg 0 (f v)).src)) → Paired (RepAt He) zs ((zs.map f).map fun l => (l, S.unit (S.reg 0 l).src)) := fun zs => by
              induction zs with
              | nil => exact fun _ => .nil
              | cons v zs ih => exact fun h => .cons (h v List.mem_cons_self) (ih fun u hu => h u (List.mem_cons_of_mem _ hu))
            exact gen ys all
          refine ⟨_, _, .lst (SqL.of hys) (dp_reps pys), .lst (SqL.of hr3) (dp_reps pr2), rep_shaped _, rep_shaped _, ?_⟩
          rw [PySem.SeqAt.eqv_refl _ (SeqAt.canLay_of_shaped (rep_shaped _))]
          walk_at "wn"
          exact ⟨rfl, .mk (W3.put hC kp) F2 (by rw [List.length_map]; exact eN)⟩
        · walk_at "wn"
          exact ⟨rfl, db⟩
      clear da
      rintro σ' Hc ⟨rfl, dc⟩
      refine ⟨fun σ' H' => ∃ (r10 : Addr) (ws : List V) (S : Sys) (ad dx : Cell → Addr) (cs : List Lc), σ' = [some (.ref a), some (.int (0 + (i : Int))), some (.ref p), some (.int (many : Int)), some (.ref x), some (.ref L), x6, w7, some (.int (0 + (tt : Int))), v9, some (.ref r10), u11, u12] ∧ H' r10 = some (.lst ws) ∧ Paired (TriAt H') ws (triFrom 0 cs) ∧ LW C Hb H' p x L S ad dx cs ∧ Fit S cs ∧ cs.length = many, ?_, ?_⟩
      · cases dc with
        | @mk S ad dx cs W F eN =>
        have few := F.few
        walk_at "wn"
        unfold tLc iList
        walk_at "wn"
        refine ⟨_, rfl, x, dx .box, _, rfl, W.hb, rfl, ?_⟩
        walk_at "wn"
        refine ⟨S, ad, dx, by rw [W.box]; rfl, W.at_, 0, F.sets, by rw [F.procs]; decide, fun p2 hp2 => ?_, ⟨0, by rw [F.procs]; decide, 0, F.means0.at_⟩, by rw [F.ents, upTo_len]; omega, fun l hl2 => ?_, fun ys Hd r rs pm pw sm nr hr2 pr => ?_⟩
        · rw [F.procs] at hp2
          rw [List.mem_singleton.mp hp2, F.tlen]
          decide
        · rw [F.ents] at hl2
          obtain ⟨j, hj, rfl⟩ := mem_upTo.mp hl2
          have hc := List.getElem?_eq_getElem hj
          rw [F.reg j _ hc]
          exact ⟨0, by rw [F.procs]; decide, _, (F.means hc).at_⟩
        have Wd := W.same sm
        refine ⟨r, rfl, ⟨_, SqL.of hr2⟩, fun D hD => ?_⟩
        have pl := pr.length
        rw [F.ents, upTo_len] at pl
        refine lc_list (K := K) (a := r) (xs := rs) (fun j H' => ∃ ws, Same Hd H' ∧ H' D = some (.lst ws) ∧ Paired (TriAt H') ws (triFrom 0 (cs.take j))) ⟨[], Same.new' hD, upd_same, .nil⟩ (fun j H' _ ⟨_, s, _⟩ => SqL.of (s _ _ hr2)) ?_ ?_
        · rintro j v H' hv ⟨ws, s, hd, pt⟩
          obtain ⟨l, el, T, v1, v2, q1, q2, rfl, hT, _⟩ := paired_at pr hv
          have jl : j < cs.length := by have := (List.getElem?_eq_some_iff.mp hv).1; omega
          have hc := List.getElem?_eq_getElem jl
          have ejl : l = (j : Int) := by
            rw [F.ents] at el
            unfold upTo at el
            rw [List.getElem?_map, List.getElem?_range (by omega)] at el
            exact (Option.some.inj el).symm
          subst ejl
          rw [F.reg j _ hc] at hT
          have hT2 := s _ _ hT
          walk_at "wn"
          refine ⟨rfl, ?_⟩
          walk_at "wn"
          refine ⟨T, _, 1, _, rfl, rfl, SqT.of hT2, rfl, ?_⟩
          walk_at "wn"
          refine ⟨T, _, 4, _, rfl, rfl, SqT.of hT2, rfl, ?_⟩
          walk_at "wn"
          refine ⟨T, _, 5, _, rfl, rfl, SqT.of hT2, rfl, ?_⟩
          walk_at "wn"
          refine ⟨by show 3 ≤ sizeLine; decide, fun T2 hT3 => ?_⟩
          have nT : T2 ≠ D := fun z => by rw [z, hd] at hT3; cases hT3
          have s2 := Same.new' (o := .tup [.int (j : Int), .str cs[j].word, .bl cs[j].armed]) hT3
          have lw := pt.length
          rw [triFrom_len, List.length_take] at lw
          have kp : ∀ b xs, H' b = some (.tup xs) → upd (upd H' T2 (.tup [.int (j : Int), .str cs[j].word, .bl cs[j].armed])) D (.lst (ws ++ [.ref T2])) b = some (.tup xs) := fun b xs h => by
            rw [upd_ne (fun z => by rw [z, hd] at h; cases h)]
            exact s2 _ _ h
          refine ⟨ws, s2 _ _ hd, by rw [sizeLine_eq]; omega, _, fun b o h => ?_, upd_same, ?_⟩
          · rw [upd_ne (ne_of_none h hD)]
            exact s2 _ _ (s _ _ h)
          · have e : cs.take (j + 1) = cs.take j ++ [cs[j]] := by rw [List.take_add_one, hc]; rfl
            have jt : (cs.take j).length = j := by rw [List.length_take]; omega
            rw [e, triFrom_app, jt, Nat.zero_add]
            exact paired_snoc (tris_keep pt kp) ⟨T2, rfl, (upd_ne nT).trans upd_same⟩
        · rintro H' ⟨ws, s, hd, pt⟩
          rw [pl, List.take_length] at pt
          walk_at "wn"
          exact ⟨D, ws, S, ad, dx, cs, rfl, hd, pt, Wd.same s, F, eN⟩
      clear dc
      rintro σ' Hd ⟨r10, ws, S, ad, dx, cs, rfl, hws, pt, W, F, eN⟩
      have few := F.few
      have okT : ∀ r ∈ triFrom 0 cs, PyData.strOk r.2.1 = true := tri_ok fun c hc => by
        obtain ⟨k, hk⟩ := List.mem_iff_getElem?.mp hc
        exact (F.ok k c hk).1
      obtain ⟨vs, hL, pc⟩ := W.cells
      have pcl := pc.length
      walk_at "wn"
      unfold tLc iEnum
      walk_at "wn"
      refine ⟨L, vs, rfl, SqL.of hL, fun D hD => ?_⟩
      refine lc_it (walk_enum (xs := vs)) (fun j H' => ∃ us, Same Hd H' ∧ H' D = some (.lst us) ∧ Paired (TriAt H') us (triFrom 0 (cs.take j))) ⟨[], Same.new' hD, upd_same, .nil⟩ (fun j H' _ ⟨_, s, _⟩ => SqL.of (s _ _ hL)) ?_ ?_
      · rintro j v0 H1 H2 hj ⟨us, s, hd, pu⟩ ⟨T1, x1, y1, rfl, nT, rfl, ex, ey⟩
        obtain rfl := Option.some.inj ex
        have ey : vs[j]? = some y1 := ey
        obtain ⟨c, hc, T0, rfl, hT⟩ := paired_at pc ey
        have s1 := Same.new' (o := .tup [.int (j : Int), .ref T0]) nT
        have hT0 := s1 _ _ (s _ _ hT)
        have hd1 := s1 _ _ hd
        have sm := s.trans s1
        have pu1 := tris_keep pu fun b xs e => s1 _ _ e
        refine ⟨T1, _, rfl, SqT.of upd_same, rfl, _, _, rfl, ?_⟩
        walk_at "wn"
        refine ⟨_, _, rfl, ?_⟩
        walk_at "wn"
        refine ⟨rfl, rfl, ?_⟩
        generalize upd H1 T1 (.tup [.int (j : Int), .ref T0]) = H6 at hT0 hd1 sm pu1 ⊢
        walk_at "wn"
        refine ⟨T0, _, 0, _, rfl, rfl, SqT.of hT0, rfl, ?_⟩
        walk_at "wn"
        refine ⟨T0, _, 1, _, rfl, rfl, SqT.of hT0, rfl, ?_⟩
        walk_at "wn"
        refine ⟨by show 3 ≤ sizeLine; decide, fun T2 hT3 => ?_⟩
        have nT2 : T2 ≠ D := fun z => by rw [z, hd1] at hT3; cases hT3
        have s2 := Same.new' (o := .tup [.int (j : Int), .str c.word, .bl c.armed]) hT3
        have lw := pu1.length
        rw [triFrom_len, List.length_take] at lw
        have kp : ∀ b xs, H6 b = some (.tup xs) → upd (upd H6 T2 (.tup [.int (j : Int), .str c.word, .bl c.armed])) D (.lst (us ++ [.ref T2])) b = some (.tup xs) := fun b xs h => by
          rw [upd_ne (fun z => by rw [z, hd1] at h; cases h)]
          exact s2 _ _ h
        refine ⟨us, s2 _ _ hd1, by rw [sizeLine_eq]; omega, _, fun b o h => ?_, upd_same, ?_⟩
        · rw [upd_ne (ne_of_none h hD)]
          exact s2 _ _ (sm _ _ h)
        · have jt : (cs.take j).length = j := by have := (List.getElem?_eq_some_iff.mp hc).1; rw [List.length_take]; omega
          rw [List.take_add_one, hc, Option.toList_some, triFrom_app, jt, Nat.zero_add]
          exact paired_snoc (tris_keep pu1 kp) ⟨T2, rfl, (upd_ne nT2).trans upd_same⟩
      · rintro H' ⟨us, s, hd, pu⟩
        rw [pcl, List.take_length] at pu
        refine ⟨_, _, .lst (SqL.of (s _ _ hws)) (dp_tris (tris_keep pt fun b xs e => s _ _ e)), .lst (SqL.of hd) (dp_tris pu), tri_shaped okT, tri_shaped okT, ?_⟩
        rw [PySem.SeqAt.eqv_refl _ (SeqAt.canLay_of_shaped (tri_shaped okT))]
        walk_at "wn"
        exact ⟨_, _, _, _, _, rfl, .mk (W.same s) F eN⟩
    · walk_at "wn"
      exact k _
end

theorem Ln0 {α : Type} : ∀ {us : List α}, us.length = 0 → us = []
  | [], _ => rfl
theorem Ln1 {α : Type} : ∀ {us : List α}, us.length = 1 → ∃ a0, us = [a0]
  | [a0], _ => ⟨_, rfl⟩
theorem Ln2 {α : Type} : ∀ {us : List α}, us.length = 2 → ∃ a0 a1, us = [a0, a1]
  | [a0, a1], _ => ⟨_, _, rfl⟩
theorem Ln3 {α : Type} : ∀ {us : List α}, us.length = 3 → ∃ a0 a1 a2, us = [a0, a1, a2]
  | [a0, a1, a2], _ => ⟨_, _, _, rfl⟩
theorem Ln4 {α : Type} : ∀ {us : List α}, us.length = 4 → ∃ a0 a1 a2 a3, us = [a0, a1, a2, a3]
  | [a0, a1, a2, a3], _ => ⟨_, _, _, _, rfl⟩
theorem Ln5 {α : Type} : ∀ {us : List α}, us.length = 5 → ∃ a0 a1 a2 a3 a4, us = [a0, a1, a2, a3, a4]
  | [a0, a1, a2, a3, a4], _ => ⟨_, _, _, _, _, rfl⟩
theorem Ln6 {α : Type} : ∀ {us : List α}, us.length = 6 → ∃ a0 a1 a2 a3 a4 a5, us = [a0, a1, a2, a3, a4, a5]
  | [a0, a1, a2, a3, a4, a5], _ => ⟨_, _, _, _, _, _, rfl⟩
theorem Ln7 {α : Type} : ∀ {us : List α}, us.length = 7 → ∃ a0 a1 a2 a3 a4 a5 a6, us = [a0, a1, a2, a3, a4, a5, a6]
  | [a0, a1, a2, a3, a4, a5, a6], _ => ⟨_, _, _, _, _, _, _, rfl⟩
theorem isct {K : PySem.W.Frag} {h : Heap} {c P : Addr} (X : K.In h) (e : PySem.W.codeHdIn K c P = true) : isCodeTable h P := by
  obtain ⟨o, vs, _, _, _, _, _, _, _, e1, e2, e3, e4, _⟩ := PySem.W.codeHd_of_K X e
  exact ⟨c, o, vs, e1, e2, e3, e4⟩
theorem all_mk {P : Program} {w : World} {K : PySem.W.Frag} {h : Heap} {mg : Str → Option Value} {fa : Addr} (X : K.In h) (G : h.Ns mainGlobals mg) (hfa : mg "law" = some (.ref fa))
    {CS CW CR : Addr}
    {f_int : Addr} {oc_int dc_int pm_int ct_int cd_int : Value} {od_int an_int : Option Addr} {sl_int : Array (Option Value)}
    {kV_int : Value}
    {f_bet : Addr} {oc_bet dc_bet pm_bet ct_bet cd_bet : Value} {od_bet an_bet : Option Addr} {sl_bet : Array (Option Value)}
    {kV_bet : Value}
    {f_cnt : Addr} {oc_cnt dc_cnt pm_cnt ct_cnt cd_cnt : Value} {od_cnt an_cnt : Option Addr} {sl_cnt : Array (Option Value)}
    {kV_cnt : Value}
    {f_lab : Addr} {oc_lab dc_lab pm_lab ct_lab cd_lab : Value} {od_lab an_lab : Option Addr} {sl_lab : Array (Option Value)}
    {kV_lab : Value}
    {f_wrd : Addr} {oc_wrd dc_wrd pm_wrd ct_wrd cd_wrd : Value} {od_wrd an_wrd : Option Addr} {sl_wrd : Array (Option Value)}
    {kV_wrd : Value}
    {f_bag : Addr} {oc_bag dc_bag pm_bag ct_bag cd_bag : Value} {od_bag an_bag : Option Addr} {sl_bag : Array (Option Value)}
    {kV_bag : Value}
    {f_take : Addr} {oc_take dc_take pm_take ct_take cd_take : Value} {od_take an_take : Option Addr} {sl_take : Array (Option Value)}
    {kV_take : Value}
    {f_of : Addr} {oc_of dc_of pm_of ct_of cd_of : Value} {od_of an_of : Option Addr} {sl_of : Array (Option Value)}
    {kV_of : Value}
    {f_lar : Addr} {oc_lar dc_lar pm_lar ct_lar cd_lar : Value} {od_lar an_lar : Option Addr} {sl_lar : Array (Option Value)}
    {kV_lar : Value}
    {f_lch : Addr} {oc_lch dc_lch pm_lch ct_lch cd_lch : Value} {od_lch an_lch : Option Addr} {sl_lch : Array (Option Value)}
    {kV_lch : Value}
    {f_lrp : Addr} {oc_lrp dc_lrp pm_lrp ct_lrp cd_lrp : Value} {od_lrp an_lrp : Option Addr} {sl_lrp : Array (Option Value)}
    {kV_lrp : Value}
    {f_law : Addr} {oc_law dc_law pm_law ct_law cd_law : Value} {od_law an_law : Option Addr} {sl_law : Array (Option Value)}
    {kV_law : Value}
    {f_ri : Addr} {oc_ri dc_ri pm_ri ct_ri cd_ri : Value} {od_ri an_ri : Option Addr} {sl_ri : Array (Option Value)}
    {kV_ri : Value}
    {f_wi : Addr} {oc_wi dc_wi pm_wi ct_wi cd_wi : Value} {od_wi an_wi : Option Addr} {sl_wi : Array (Option Value)}
    {kV_wi : Value}
    {f_lof : Addr} {oc_lof dc_lof pm_lof ct_lof cd_lof : Value} {od_lof an_lof : Option Addr} {sl_lof : Array (Option Value)}
    {kV_lof : Value}
    {f_put : Addr} {oc_put dc_put pm_put ct_put cd_put : Value} {od_put an_put : Option Addr} {sl_put : Array (Option Value)}
    {kV_put : Value}
    {f_app : Addr} {oc_app dc_app pm_app ct_app cd_app : Value} {od_app an_app : Option Addr} {sl_app : Array (Option Value)}
    {kV_app : Value}
    {f_ntc : Addr} {oc_ntc dc_ntc pm_ntc ct_ntc cd_ntc : Value} {od_ntc an_ntc : Option Addr} {sl_ntc : Array (Option Value)}
    {kV_ntc : Value}
    {f_rep : Addr} {oc_rep dc_rep pm_rep ct_rep cd_rep : Value} {od_rep an_rep : Option Addr} {sl_rep : Array (Option Value)}
    {kV_rep : Value}
    {f_stl : Addr} {oc_stl dc_stl pm_stl ct_stl cd_stl : Value} {od_stl an_stl : Option Addr} {sl_stl : Array (Option Value)}
    {kV_stl : Value}
    {f_si : Addr} {oc_si dc_si pm_si ct_si cd_si : Value} {od_si an_si : Option Addr} {sl_si : Array (Option Value)}
    {D_si : Addr}
    {tw_si0 : Tok}
    {tw_si1 : Tok}
    {f_con : Addr} {oc_con dc_con pm_con ct_con cd_con : Value} {od_con an_con : Option Addr} {sl_con : Array (Option Value)}
    {kV_con : Value}
    {f_tof : Addr} {oc_tof dc_tof pm_tof ct_tof cd_tof : Value} {od_tof an_tof : Option Addr} {sl_tof : Array (Option Value)}
    {kV_tof : Value}
    {f_itn : Addr} {oc_itn dc_itn pm_itn ct_itn cd_itn : Value} {od_itn an_itn : Option Addr} {sl_itn : Array (Option Value)}
    {kV_itn : Value}
    {f_tha : Addr} {oc_tha dc_tha pm_tha ct_tha cd_tha : Value} {od_tha an_tha : Option Addr} {sl_tha : Array (Option Value)}
    {kV_tha : Value}
    {f_sra : Addr} {oc_sra dc_sra pm_sra ct_sra cd_sra : Value} {od_sra an_sra : Option Addr} {sl_sra : Array (Option Value)}
    {kV_sra : Value}
    {f_sta : Addr} {oc_sta dc_sta pm_sta ct_sta cd_sta : Value} {od_sta an_sta : Option Addr} {sl_sta : Array (Option Value)}
    {kV_sta : Value}
    {f_frn : Addr} {oc_frn dc_frn pm_frn ct_frn cd_frn : Value} {od_frn an_frn : Option Addr} {sl_frn : Array (Option Value)}
    {kV_frn : Value}
    {f_nth : Addr} {oc_nth dc_nth pm_nth ct_nth cd_nth : Value} {od_nth an_nth : Option Addr} {sl_nth : Array (Option Value)}
    {kV_nth : Value}
    {f_nso : Addr} {oc_nso dc_nso pm_nso ct_nso cd_nso : Value} {od_nso an_nso : Option Addr} {sl_nso : Array (Option Value)}
    {kV_nso : Value}
    {f_nse : Addr} {oc_nse dc_nse pm_nse ct_nse cd_nse : Value} {od_nse an_nse : Option Addr} {sl_nse : Array (Option Value)}
    {kV_nse : Value}
    {f_unf : Addr} {oc_unf dc_unf pm_unf ct_unf cd_unf : Value} {od_unf an_unf : Option Addr} {sl_unf : Array (Option Value)}
    {kV_unf : Value}
    {f_rdy : Addr} {oc_rdy dc_rdy pm_rdy ct_rdy cd_rdy : Value} {od_rdy an_rdy : Option Addr} {sl_rdy : Array (Option Value)}
    {kV_rdy : Value}
    {f_nfy : Addr} {oc_nfy dc_nfy pm_nfy ct_nfy cd_nfy : Value} {od_nfy an_nfy : Option Addr} {sl_nfy : Array (Option Value)}
    {kV_nfy : Value}
    {f_arr : Addr} {oc_arr dc_arr pm_arr ct_arr cd_arr : Value} {od_arr an_arr : Option Addr} {sl_arr : Array (Option Value)}
    {T_arr : Addr} {dd_arr : Option Addr} {nd_arr : Nat} {sd_arr : Array (Option Value)}
    {tv_arr0 : Tok}
    {kV_arr : Value}
    {f_rd : Addr} {oc_rd dc_rd pm_rd ct_rd cd_rd : Value} {od_rd an_rd : Option Addr} {sl_rd : Array (Option Value)}
    {T_rd : Addr} {dd_rd : Option Addr} {nd_rd : Nat} {sd_rd : Array (Option Value)}
    {kV_rd : Value}
    {f_add : Addr} {oc_add dc_add pm_add ct_add cd_add : Value} {od_add an_add : Option Addr} {sl_add : Array (Option Value)}
    {D_add : Addr}
    {tw_add0 : Tok}
    {f_chg : Addr} {oc_chg dc_chg pm_chg ct_chg cd_chg : Value} {od_chg an_chg : Option Addr} {sl_chg : Array (Option Value)}
    {kV_chg : Value}
    {f_wai : Addr} {oc_wai dc_wai pm_wai ct_wai cd_wai : Value} {od_wai an_wai : Option Addr} {sl_wai : Array (Option Value)}
    {T_wai : Addr} {dd_wai : Option Addr} {nd_wai : Nat} {sd_wai : Array (Option Value)}
    {tv_wai0 : Tok}
    {kV_wai : Value}
    {f_tng : Addr} {oc_tng dc_tng pm_tng ct_tng cd_tng : Value} {od_tng an_tng : Option Addr} {sl_tng : Array (Option Value)}
    {kV_tng : Value}
    {f_nof : Addr} {oc_nof dc_nof pm_nof ct_nof cd_nof : Value} {od_nof an_nof : Option Addr} {sl_nof : Array (Option Value)}
    {kV_nof : Value}
    {f_nam : Addr} {oc_nam dc_nam pm_nam ct_nam cd_nam : Value} {od_nam an_nam : Option Addr} {sl_nam : Array (Option Value)}
    {kV_nam : Value}
    {f_reg : Addr} {oc_reg dc_reg pm_reg ct_reg cd_reg : Value} {od_reg an_reg : Option Addr} {sl_reg : Array (Option Value)}
    {kV_reg : Value}
    {wW : Addr} {dW : Option Addr} {nW : Nat} {sW : Array (Option Value)} {tW0 tW1 tW2 : Tok}
    {tMC : Tok}
    {tML : Tok}
    {tLP : Tok}
    {tLN : Tok}
    {tMP : Tok}
    {tMN : Tok}
    (gCS : PySem.W.nsIn K mainGlobals "System" = some (some (.ref CS)))
    (pgS : PySem.W.plainGet K CS Str.empty = true)
    (hdS : PySem.W.hasDictIn K CS = true)
    (poS : PySem.W.plainOver K CS = true)
    (saS : PySem.W.findIn K (.ref CS) "__setattr__" = some (some (.builtin "object.__setattr__")))
    (mkS : PySem.W.makesIn K CS = true)
    (kcS : PySem.W.keepIn K (.ref CS) = true)
    (noS0 : PySem.W.findIn K (.ref CS) "process_limit" = some none)
    (noS1 : PySem.W.findIn K (.ref CS) "number_limit" = some none)
    (noS2 : PySem.W.findIn K (.ref CS) "tables" = some none)
    (noS3 : PySem.W.findIn K (.ref CS) "sources" = some none)
    (noS4 : PySem.W.findIn K (.ref CS) "sets" = some none)
    (noS5 : PySem.W.findIn K (.ref CS) "next_thing" = some none)
    (gCW : PySem.W.nsIn K mainGlobals "WaitingSet" = some (some (.ref CW)))
    (pgW : PySem.W.plainGet K CW Str.empty = true)
    (hdW : PySem.W.hasDictIn K CW = true)
    (poW : PySem.W.plainOver K CW = true)
    (saW : PySem.W.findIn K (.ref CW) "__setattr__" = some (some (.builtin "object.__setattr__")))
    (mkW : PySem.W.makesIn K CW = true)
    (kcW : PySem.W.keepIn K (.ref CW) = true)
    (noW0 : PySem.W.findIn K (.ref CW) "entries" = some none)
    (noW1 : PySem.W.findIn K (.ref CW) "queue" = some none)
    (gCR : PySem.W.nsIn K mainGlobals "Registration" = some (some (.ref CR)))
    (pgR : PySem.W.plainGet K CR Str.empty = true)
    (hdR : PySem.W.hasDictIn K CR = true)
    (poR : PySem.W.plainOver K CR = true)
    (saR : PySem.W.findIn K (.ref CR) "__setattr__" = some (some (.builtin "object.__setattr__")))
    (mkR : PySem.W.makesIn K CR = true)
    (kcR : PySem.W.keepIn K (.ref CR) = true)
    (noR0 : PySem.W.findIn K (.ref CR) "number" = some none)
    (noR1 : PySem.W.findIn K (.ref CR) "source" = some none)
    (noR2 : PySem.W.findIn K (.ref CR) "word" = some none)
    (noR3 : PySem.W.findIn K (.ref CR) "armed" = some none)
    (nWR : CW ≠ CR)
    (aint : PySem.W.nsIn K mainGlobals "is_integer" = some (some (.ref f_int)))
    (lint : K.lookup f_int = some ⟨oc_int, od_int, .func (PySem.W.fnOf "is_integer" "is_integer" (defArgs sIsInteger) (defBody sIsInteger) (defScope sIsInteger) .none kV_int dc_int pm_int an_int cd_int ct_int), sl_int⟩)
    (cint : PySem.W.codeIn K cd_int "is_integer" = true)
    (kint : PySem.W.keepIn K (.ref f_int) = true)
    (abet : PySem.W.nsIn K mainGlobals "is_between" = some (some (.ref f_bet)))
    (lbet : K.lookup f_bet = some ⟨oc_bet, od_bet, .func (PySem.W.fnOf "is_between" "is_between" (defArgs sIsBetween) (defBody sIsBetween) (defScope sIsBetween) .none kV_bet dc_bet pm_bet an_bet cd_bet ct_bet), sl_bet⟩)
    (cbet : PySem.W.codeIn K cd_bet "is_between" = true)
    (kbet : PySem.W.keepIn K (.ref f_bet) = true)
    (acnt : PySem.W.nsIn K mainGlobals "is_count" = some (some (.ref f_cnt)))
    (lcnt : K.lookup f_cnt = some ⟨oc_cnt, od_cnt, .func (PySem.W.fnOf "is_count" "is_count" (defArgs sIsCount) (defBody sIsCount) (defScope sIsCount) .none kV_cnt dc_cnt pm_cnt an_cnt cd_cnt ct_cnt), sl_cnt⟩)
    (ccnt : PySem.W.codeIn K cd_cnt "is_count" = true)
    (kcnt : PySem.W.keepIn K (.ref f_cnt) = true)
    (alab : PySem.W.nsIn K mainGlobals "is_label" = some (some (.ref f_lab)))
    (llab : K.lookup f_lab = some ⟨oc_lab, od_lab, .func (PySem.W.fnOf "is_label" "is_label" (defArgs sIsLabel) (defBody sIsLabel) (defScope sIsLabel) .none kV_lab dc_lab pm_lab an_lab cd_lab ct_lab), sl_lab⟩)
    (clab : PySem.W.codeIn K cd_lab "is_label" = true)
    (klab : PySem.W.keepIn K (.ref f_lab) = true)
    (awrd : PySem.W.nsIn K mainGlobals "is_word" = some (some (.ref f_wrd)))
    (lwrd : K.lookup f_wrd = some ⟨oc_wrd, od_wrd, .func (PySem.W.fnOf "is_word" "is_word" (defArgs sIsWord) (defBody sIsWord) (defScope sIsWord) .none kV_wrd dc_wrd pm_wrd an_wrd cd_wrd ct_wrd), sl_wrd⟩)
    (cwrd : PySem.W.codeIn K cd_wrd "is_word" = true)
    (kwrd : PySem.W.keepIn K (.ref f_wrd) = true)
    (abag : PySem.W.nsIn K mainGlobals "_law_bag" = some (some (.ref f_bag)))
    (lbag : K.lookup f_bag = some ⟨oc_bag, od_bag, .func (PySem.W.fnOf "_law_bag" "_law_bag" (defArgs sBag) (defBody sBag) (defScope sBag) .none kV_bag dc_bag pm_bag an_bag cd_bag ct_bag), sl_bag⟩)
    (cbag : PySem.W.codeIn K cd_bag "_law_bag" = true)
    (kbag : PySem.W.keepIn K (.ref f_bag) = true)
    (atake : PySem.W.nsIn K mainGlobals "_law_take" = some (some (.ref f_take)))
    (ltake : K.lookup f_take = some ⟨oc_take, od_take, .func (PySem.W.fnOf "_law_take" "_law_take" (defArgs sTake) (defBody sTake) (defScope sTake) .none kV_take dc_take pm_take an_take cd_take ct_take), sl_take⟩)
    (ctake : PySem.W.codeIn K cd_take "_law_take" = true)
    (ktake : PySem.W.keepIn K (.ref f_take) = true)
    (aof : PySem.W.nsIn K mainGlobals "_law_of" = some (some (.ref f_of)))
    (lof : K.lookup f_of = some ⟨oc_of, od_of, .func (PySem.W.fnOf "_law_of" "_law_of" (defArgs sOf) (defBody sOf) (defScope sOf) .none kV_of dc_of pm_of an_of cd_of ct_of), sl_of⟩)
    (cof : PySem.W.codeIn K cd_of "_law_of" = true)
    (kof : PySem.W.keepIn K (.ref f_of) = true)
    (alar : PySem.W.nsIn K mainGlobals "_law_arrived" = some (some (.ref f_lar)))
    (llar : K.lookup f_lar = some ⟨oc_lar, od_lar, .func (PySem.W.fnOf "_law_arrived" "_law_arrived" (defArgs sArrivedL) (defBody sArrivedL) (defScope sArrivedL) .none kV_lar dc_lar pm_lar an_lar cd_lar ct_lar), sl_lar⟩)
    (clar : PySem.W.codeIn K cd_lar "_law_arrived" = true)
    (klar : PySem.W.keepIn K (.ref f_lar) = true)
    (alch : PySem.W.nsIn K mainGlobals "_law_changed" = some (some (.ref f_lch)))
    (llch : K.lookup f_lch = some ⟨oc_lch, od_lch, .func (PySem.W.fnOf "_law_changed" "_law_changed" (defArgs sChangedL) (defBody sChangedL) (defScope sChangedL) .none kV_lch dc_lch pm_lch an_lch cd_lch ct_lch), sl_lch⟩)
    (clch : PySem.W.codeIn K cd_lch "_law_changed" = true)
    (klch : PySem.W.keepIn K (.ref f_lch) = true)
    (alrp : PySem.W.nsIn K mainGlobals "_law_reports" = some (some (.ref f_lrp)))
    (llrp : K.lookup f_lrp = some ⟨oc_lrp, od_lrp, .func (PySem.W.fnOf "_law_reports" "_law_reports" (defArgs sReportsL) (defBody sReportsL) (defScope sReportsL) .none kV_lrp dc_lrp pm_lrp an_lrp cd_lrp ct_lrp), sl_lrp⟩)
    (clrp : PySem.W.codeIn K cd_lrp "_law_reports" = true)
    (klrp : PySem.W.keepIn K (.ref f_lrp) = true)
    (alaw : PySem.W.nsIn K mainGlobals "law" = some (some (.ref f_law)))
    (llaw : K.lookup f_law = some ⟨oc_law, od_law, .func (PySem.W.fnOf "law" "law" (defArgs sLaw) (defBody sLaw) (defScope sLaw) .none kV_law dc_law pm_law an_law cd_law ct_law), sl_law⟩)
    (claw : PySem.W.codeIn K cd_law "law" = true)
    (klaw : PySem.W.keepIn K (.ref f_law) = true)
    (ari : PySem.W.findIn K (.ref CR) "__init__" = some (some (.ref f_ri)))
    (iri : PySem.W.isFn K (.ref f_ri) = true)
    (lri : K.lookup f_ri = some ⟨oc_ri, od_ri, .func (PySem.W.fnOf "__init__" "Registration.__init__" (defArgs sRegInit) (defBody sRegInit) (defScope sRegInit) .none kV_ri dc_ri pm_ri an_ri cd_ri ct_ri), sl_ri⟩)
    (cri : PySem.W.codeIn K cd_ri "Registration.__init__" = true)
    (kri : PySem.W.keepIn K (.ref f_ri) = true)
    (awi : PySem.W.findIn K (.ref CW) "__init__" = some (some (.ref f_wi)))
    (iwi : PySem.W.isFn K (.ref f_wi) = true)
    (lwi : K.lookup f_wi = some ⟨oc_wi, od_wi, .func (PySem.W.fnOf "__init__" "WaitingSet.__init__" (defArgs sWsInit) (defBody sWsInit) (defScope sWsInit) .none kV_wi dc_wi pm_wi an_wi cd_wi ct_wi), sl_wi⟩)
    (cwi : PySem.W.codeIn K cd_wi "WaitingSet.__init__" = true)
    (kwi : PySem.W.keepIn K (.ref f_wi) = true)
    (alof : PySem.W.findIn K (.ref CW) "label_of" = some (some (.ref f_lof)))
    (ilof : PySem.W.isFn K (.ref f_lof) = true)
    (llof : K.lookup f_lof = some ⟨oc_lof, od_lof, .func (PySem.W.fnOf "label_of" "WaitingSet.label_of" (defArgs sLabelOf) (defBody sLabelOf) (defScope sLabelOf) .none kV_lof dc_lof pm_lof an_lof cd_lof ct_lof), sl_lof⟩)
    (clof : PySem.W.codeIn K cd_lof "WaitingSet.label_of" = true)
    (klof : PySem.W.keepIn K (.ref f_lof) = true)
    (aput : PySem.W.findIn K (.ref CW) "put" = some (some (.ref f_put)))
    (iput : PySem.W.isFn K (.ref f_put) = true)
    (lput : K.lookup f_put = some ⟨oc_put, od_put, .func (PySem.W.fnOf "put" "WaitingSet.put" (defArgs sPut) (defBody sPut) (defScope sPut) .none kV_put dc_put pm_put an_put cd_put ct_put), sl_put⟩)
    (cput : PySem.W.codeIn K cd_put "WaitingSet.put" = true)
    (kput : PySem.W.keepIn K (.ref f_put) = true)
    (aapp : PySem.W.findIn K (.ref CW) "append_pending" = some (some (.ref f_app)))
    (iapp : PySem.W.isFn K (.ref f_app) = true)
    (lapp : K.lookup f_app = some ⟨oc_app, od_app, .func (PySem.W.fnOf "append_pending" "WaitingSet.append_pending" (defArgs sAppend) (defBody sAppend) (defScope sAppend) .none kV_app dc_app pm_app an_app cd_app ct_app), sl_app⟩)
    (capp : PySem.W.codeIn K cd_app "WaitingSet.append_pending" = true)
    (kapp : PySem.W.keepIn K (.ref f_app) = true)
    (antc : PySem.W.findIn K (.ref CW) "notice" = some (some (.ref f_ntc)))
    (intc : PySem.W.isFn K (.ref f_ntc) = true)
    (lntc : K.lookup f_ntc = some ⟨oc_ntc, od_ntc, .func (PySem.W.fnOf "notice" "WaitingSet.notice" (defArgs sNotice) (defBody sNotice) (defScope sNotice) .none kV_ntc dc_ntc pm_ntc an_ntc cd_ntc ct_ntc), sl_ntc⟩)
    (cntc : PySem.W.codeIn K cd_ntc "WaitingSet.notice" = true)
    (kntc : PySem.W.keepIn K (.ref f_ntc) = true)
    (arep : PySem.W.findIn K (.ref CW) "take_reports" = some (some (.ref f_rep)))
    (irep : PySem.W.isFn K (.ref f_rep) = true)
    (lrep : K.lookup f_rep = some ⟨oc_rep, od_rep, .func (PySem.W.fnOf "take_reports" "WaitingSet.take_reports" (defArgs sReports) (defBody sReports) (defScope sReports) .none kV_rep dc_rep pm_rep an_rep cd_rep ct_rep), sl_rep⟩)
    (crep : PySem.W.codeIn K cd_rep "WaitingSet.take_reports" = true)
    (krep : PySem.W.keepIn K (.ref f_rep) = true)
    (astl : PySem.W.findIn K (.ref CW) "settle" = some (some (.ref f_stl)))
    (istl : PySem.W.isFn K (.ref f_stl) = true)
    (lstl : K.lookup f_stl = some ⟨oc_stl, od_stl, .func (PySem.W.fnOf "settle" "WaitingSet.settle" (defArgs sSettle) (defBody sSettle) (defScope sSettle) .none kV_stl dc_stl pm_stl an_stl cd_stl ct_stl), sl_stl⟩)
    (cstl : PySem.W.codeIn K cd_stl "WaitingSet.settle" = true)
    (kstl : PySem.W.keepIn K (.ref f_stl) = true)
    (asi : PySem.W.findIn K (.ref CS) "__init__" = some (some (.ref f_si)))
    (isi : PySem.W.isFn K (.ref f_si) = true)
    (lsi : K.lookup f_si = some ⟨oc_si, od_si, .func (PySem.W.fnOf "__init__" "System.__init__" (defArgs sSysInit) (defBody sSysInit) (defScope sSysInit) .none (.ref D_si) dc_si pm_si an_si cd_si ct_si), sl_si⟩)
    (csi : PySem.W.codeIn K cd_si "System.__init__" = true)
    (ksi : PySem.W.keepIn K (.ref f_si) = true)
    (wsi0 : PySem.W.nsIn K D_si "processes" = some (some (.int 4 tw_si0)))
    (wsi1 : PySem.W.nsIn K D_si "numbers" = some (some (.int 8 tw_si1)))
    (acon : PySem.W.findIn K (.ref CS) "__contains__" = some (some (.ref f_con)))
    (icon : PySem.W.isFn K (.ref f_con) = true)
    (lcon : K.lookup f_con = some ⟨oc_con, od_con, .func (PySem.W.fnOf "__contains__" "System.__contains__" (defArgs sContains) (defBody sContains) (defScope sContains) .none kV_con dc_con pm_con an_con cd_con ct_con), sl_con⟩)
    (ccon : PySem.W.codeIn K cd_con "System.__contains__" = true)
    (kcon : PySem.W.keepIn K (.ref f_con) = true)
    (atof : PySem.W.findIn K (.ref CS) "table_of" = some (some (.ref f_tof)))
    (itof : PySem.W.isFn K (.ref f_tof) = true)
    (ltof : K.lookup f_tof = some ⟨oc_tof, od_tof, .func (PySem.W.fnOf "table_of" "System.table_of" (defArgs sTableOf) (defBody sTableOf) (defScope sTableOf) .none kV_tof dc_tof pm_tof an_tof cd_tof ct_tof), sl_tof⟩)
    (ctof : PySem.W.codeIn K cd_tof "System.table_of" = true)
    (ktof : PySem.W.keepIn K (.ref f_tof) = true)
    (aitn : PySem.W.findIn K (.ref CS) "is_table_number" = some (some (.ref f_itn)))
    (iitn : PySem.W.isFn K (.ref f_itn) = true)
    (litn : K.lookup f_itn = some ⟨oc_itn, od_itn, .func (PySem.W.fnOf "is_table_number" "System.is_table_number" (defArgs sIsTabNum) (defBody sIsTabNum) (defScope sIsTabNum) .none kV_itn dc_itn pm_itn an_itn cd_itn ct_itn), sl_itn⟩)
    (citn : PySem.W.codeIn K cd_itn "System.is_table_number" = true)
    (kitn : PySem.W.keepIn K (.ref f_itn) = true)
    (atha : PySem.W.findIn K (.ref CS) "thing_at" = some (some (.ref f_tha)))
    (itha : PySem.W.isFn K (.ref f_tha) = true)
    (ltha : K.lookup f_tha = some ⟨oc_tha, od_tha, .func (PySem.W.fnOf "thing_at" "System.thing_at" (defArgs sThingAt) (defBody sThingAt) (defScope sThingAt) .none kV_tha dc_tha pm_tha an_tha cd_tha ct_tha), sl_tha⟩)
    (ctha : PySem.W.codeIn K cd_tha "System.thing_at" = true)
    (ktha : PySem.W.keepIn K (.ref f_tha) = true)
    (asra : PySem.W.findIn K (.ref CS) "source_at" = some (some (.ref f_sra)))
    (isra : PySem.W.isFn K (.ref f_sra) = true)
    (lsra : K.lookup f_sra = some ⟨oc_sra, od_sra, .func (PySem.W.fnOf "source_at" "System.source_at" (defArgs sSourceAt) (defBody sSourceAt) (defScope sSourceAt) .none kV_sra dc_sra pm_sra an_sra cd_sra ct_sra), sl_sra⟩)
    (csra : PySem.W.codeIn K cd_sra "System.source_at" = true)
    (ksra : PySem.W.keepIn K (.ref f_sra) = true)
    (asta : PySem.W.findIn K (.ref CS) "set_at" = some (some (.ref f_sta)))
    (ista : PySem.W.isFn K (.ref f_sta) = true)
    (lsta : K.lookup f_sta = some ⟨oc_sta, od_sta, .func (PySem.W.fnOf "set_at" "System.set_at" (defArgs sSetAt) (defBody sSetAt) (defScope sSetAt) .none kV_sta dc_sta pm_sta an_sta cd_sta ct_sta), sl_sta⟩)
    (csta : PySem.W.codeIn K cd_sta "System.set_at" = true)
    (ksta : PySem.W.keepIn K (.ref f_sta) = true)
    (afrn : PySem.W.findIn K (.ref CS) "free_number" = some (some (.ref f_frn)))
    (ifrn : PySem.W.isFn K (.ref f_frn) = true)
    (lfrn : K.lookup f_frn = some ⟨oc_frn, od_frn, .func (PySem.W.fnOf "free_number" "System.free_number" (defArgs sFreeNum) (defBody sFreeNum) (defScope sFreeNum) .none kV_frn dc_frn pm_frn an_frn cd_frn ct_frn), sl_frn⟩)
    (cfrn : PySem.W.codeIn K cd_frn "System.free_number" = true)
    (kfrn : PySem.W.keepIn K (.ref f_frn) = true)
    (anth : PySem.W.findIn K (.ref CS) "new_thing" = some (some (.ref f_nth)))
    (inth : PySem.W.isFn K (.ref f_nth) = true)
    (lnth : K.lookup f_nth = some ⟨oc_nth, od_nth, .func (PySem.W.fnOf "new_thing" "System.new_thing" (defArgs sNewThing) (defBody sNewThing) (defScope sNewThing) .none kV_nth dc_nth pm_nth an_nth cd_nth ct_nth), sl_nth⟩)
    (cnth : PySem.W.codeIn K cd_nth "System.new_thing" = true)
    (knth : PySem.W.keepIn K (.ref f_nth) = true)
    (anso : PySem.W.findIn K (.ref CS) "new_source" = some (some (.ref f_nso)))
    (inso : PySem.W.isFn K (.ref f_nso) = true)
    (lnso : K.lookup f_nso = some ⟨oc_nso, od_nso, .func (PySem.W.fnOf "new_source" "System.new_source" (defArgs sNewSource) (defBody sNewSource) (defScope sNewSource) .none kV_nso dc_nso pm_nso an_nso cd_nso ct_nso), sl_nso⟩)
    (cnso : PySem.W.codeIn K cd_nso "System.new_source" = true)
    (knso : PySem.W.keepIn K (.ref f_nso) = true)
    (anse : PySem.W.findIn K (.ref CS) "new_set" = some (some (.ref f_nse)))
    (inse : PySem.W.isFn K (.ref f_nse) = true)
    (lnse : K.lookup f_nse = some ⟨oc_nse, od_nse, .func (PySem.W.fnOf "new_set" "System.new_set" (defArgs sNewSet) (defBody sNewSet) (defScope sNewSet) .none kV_nse dc_nse pm_nse an_nse cd_nse ct_nse), sl_nse⟩)
    (cnse : PySem.W.codeIn K cd_nse "System.new_set" = true)
    (knse : PySem.W.keepIn K (.ref f_nse) = true)
    (aunf : PySem.W.findIn K (.ref CS) "unread_of_unfinished" = some (some (.ref f_unf)))
    (iunf : PySem.W.isFn K (.ref f_unf) = true)
    (lunf : K.lookup f_unf = some ⟨oc_unf, od_unf, .func (PySem.W.fnOf "unread_of_unfinished" "System.unread_of_unfinished" (defArgs sUnfinished) (defBody sUnfinished) (defScope sUnfinished) .none kV_unf dc_unf pm_unf an_unf cd_unf ct_unf), sl_unf⟩)
    (cunf : PySem.W.codeIn K cd_unf "System.unread_of_unfinished" = true)
    (kunf : PySem.W.keepIn K (.ref f_unf) = true)
    (ardy : PySem.W.findIn K (.ref CS) "is_ready" = some (some (.ref f_rdy)))
    (irdy : PySem.W.isFn K (.ref f_rdy) = true)
    (lrdy : K.lookup f_rdy = some ⟨oc_rdy, od_rdy, .func (PySem.W.fnOf "is_ready" "System.is_ready" (defArgs sIsReady) (defBody sIsReady) (defScope sIsReady) .none kV_rdy dc_rdy pm_rdy an_rdy cd_rdy ct_rdy), sl_rdy⟩)
    (crdy : PySem.W.codeIn K cd_rdy "System.is_ready" = true)
    (krdy : PySem.W.keepIn K (.ref f_rdy) = true)
    (anfy : PySem.W.findIn K (.ref CS) "notify" = some (some (.ref f_nfy)))
    (infy : PySem.W.isFn K (.ref f_nfy) = true)
    (lnfy : K.lookup f_nfy = some ⟨oc_nfy, od_nfy, .func (PySem.W.fnOf "notify" "System.notify" (defArgs sNotify) (defBody sNotify) (defScope sNotify) .none kV_nfy dc_nfy pm_nfy an_nfy cd_nfy ct_nfy), sl_nfy⟩)
    (cnfy : PySem.W.codeIn K cd_nfy "System.notify" = true)
    (knfy : PySem.W.keepIn K (.ref f_nfy) = true)
    (aarr : PySem.W.findIn K (.ref CS) "arrive" = some (some (.ref f_arr)))
    (iarr : PySem.W.isFn K (.ref f_arr) = true)
    (larr : K.lookup f_arr = some ⟨oc_arr, od_arr, .func (PySem.W.fnOf "arrive" "System.arrive" (defArgs sArrive) (defBody sArrive) (defScope sArrive) (.ref T_arr) kV_arr dc_arr pm_arr an_arr cd_arr ct_arr), sl_arr⟩)
    (carr : PySem.W.codeIn K cd_arr "System.arrive" = true)
    (karr : PySem.W.keepIn K (.ref f_arr) = true)
    (Larr : K.lookup T_arr = some ⟨.type "tuple", dd_arr, .seq #[.int 1 tv_arr0] nd_arr, sd_arr⟩)
    (ard : PySem.W.findIn K (.ref CS) "read" = some (some (.ref f_rd)))
    (ird : PySem.W.isFn K (.ref f_rd) = true)
    (lrd : K.lookup f_rd = some ⟨oc_rd, od_rd, .func (PySem.W.fnOf "read" "System.read" (defArgs sRead) (defBody sRead) (defScope sRead) (.ref T_rd) kV_rd dc_rd pm_rd an_rd cd_rd ct_rd), sl_rd⟩)
    (crd : PySem.W.codeIn K cd_rd "System.read" = true)
    (krd : PySem.W.keepIn K (.ref f_rd) = true)
    (Lrd : K.lookup T_rd = some ⟨.type "tuple", dd_rd, .seq #[.none] nd_rd, sd_rd⟩)
    (aadd : PySem.W.findIn K (.ref CS) "add" = some (some (.ref f_add)))
    (iadd : PySem.W.isFn K (.ref f_add) = true)
    (ladd : K.lookup f_add = some ⟨oc_add, od_add, .func (PySem.W.fnOf "add" "System.add" (defArgs sAdd) (defBody sAdd) (defScope sAdd) .none (.ref D_add) dc_add pm_add an_add cd_add ct_add), sl_add⟩)
    (cadd : PySem.W.codeIn K cd_add "System.add" = true)
    (kadd : PySem.W.keepIn K (.ref f_add) = true)
    (wadd0 : PySem.W.nsIn K D_add "word" = some (some (.str "level" tw_add0)))
    (achg : PySem.W.findIn K (.ref CS) "change" = some (some (.ref f_chg)))
    (ichg : PySem.W.isFn K (.ref f_chg) = true)
    (lchg : K.lookup f_chg = some ⟨oc_chg, od_chg, .func (PySem.W.fnOf "change" "System.change" (defArgs sChange) (defBody sChange) (defScope sChange) .none kV_chg dc_chg pm_chg an_chg cd_chg ct_chg), sl_chg⟩)
    (cchg : PySem.W.codeIn K cd_chg "System.change" = true)
    (kchg : PySem.W.keepIn K (.ref f_chg) = true)
    (awai : PySem.W.findIn K (.ref CS) "wait" = some (some (.ref f_wai)))
    (iwai : PySem.W.isFn K (.ref f_wai) = true)
    (lwai : K.lookup f_wai = some ⟨oc_wai, od_wai, .func (PySem.W.fnOf "wait" "System.wait" (defArgs sWait) (defBody sWait) (defScope sWait) (.ref T_wai) kV_wai dc_wai pm_wai an_wai cd_wai ct_wai), sl_wai⟩)
    (cwai : PySem.W.codeIn K cd_wai "System.wait" = true)
    (kwai : PySem.W.keepIn K (.ref f_wai) = true)
    (Lwai : K.lookup T_wai = some ⟨.type "tuple", dd_wai, .seq #[.int 1 tv_wai0] nd_wai, sd_wai⟩)
    (atng : PySem.W.findIn K (.ref CS) "things" = some (some (.ref f_tng)))
    (itng : PySem.W.isFn K (.ref f_tng) = true)
    (ltng : K.lookup f_tng = some ⟨oc_tng, od_tng, .func (PySem.W.fnOf "things" "System.things" (defArgs sThings) (defBody sThings) (defScope sThings) .none kV_tng dc_tng pm_tng an_tng cd_tng ct_tng), sl_tng⟩)
    (ctng : PySem.W.codeIn K cd_tng "System.things" = true)
    (ktng : PySem.W.keepIn K (.ref f_tng) = true)
    (anof : PySem.W.findIn K (.ref CS) "numbers_of" = some (some (.ref f_nof)))
    (inof : PySem.W.isFn K (.ref f_nof) = true)
    (lnof : K.lookup f_nof = some ⟨oc_nof, od_nof, .func (PySem.W.fnOf "numbers_of" "System.numbers_of" (defArgs sNumbersOf) (defBody sNumbersOf) (defScope sNumbersOf) .none kV_nof dc_nof pm_nof an_nof cd_nof ct_nof), sl_nof⟩)
    (cnof : PySem.W.codeIn K cd_nof "System.numbers_of" = true)
    (knof : PySem.W.keepIn K (.ref f_nof) = true)
    (anam : PySem.W.findIn K (.ref CS) "name_of" = some (some (.ref f_nam)))
    (inam : PySem.W.isFn K (.ref f_nam) = true)
    (lnam : K.lookup f_nam = some ⟨oc_nam, od_nam, .func (PySem.W.fnOf "name_of" "System.name_of" (defArgs sNameOf) (defBody sNameOf) (defScope sNameOf) .none kV_nam dc_nam pm_nam an_nam cd_nam ct_nam), sl_nam⟩)
    (cnam : PySem.W.codeIn K cd_nam "System.name_of" = true)
    (knam : PySem.W.keepIn K (.ref f_nam) = true)
    (areg : PySem.W.findIn K (.ref CS) "registrations" = some (some (.ref f_reg)))
    (ireg : PySem.W.isFn K (.ref f_reg) = true)
    (lreg : K.lookup f_reg = some ⟨oc_reg, od_reg, .func (PySem.W.fnOf "registrations" "System.registrations" (defArgs sRegistrations) (defBody sRegistrations) (defScope sRegistrations) .none kV_reg dc_reg pm_reg an_reg cd_reg ct_reg), sl_reg⟩)
    (creg : PySem.W.codeIn K cd_reg "System.registrations" = true)
    (kreg : PySem.W.keepIn K (.ref f_reg) = true)
    (z_len : PySem.W.nsIn K mainGlobals "len" = some none)
    (z_enumerate : PySem.W.nsIn K mainGlobals "enumerate" = some none)
    (z_int : PySem.W.nsIn K mainGlobals "int" = some none)
    (z_abs : PySem.W.nsIn K mainGlobals "abs" = some none)
    (z_isinstance : PySem.W.nsIn K mainGlobals "isinstance" = some none)
    (z_bool : PySem.W.nsIn K mainGlobals "bool" = some none)
    (z_list : PySem.W.nsIn K mainGlobals "list" = some none)
    (z_min : PySem.W.nsIn K mainGlobals "min" = some none)
    (z_max : PySem.W.nsIn K mainGlobals "max" = some none)
    (z_range : PySem.W.nsIn K mainGlobals "range" = some none)
    (z_sorted : PySem.W.nsIn K mainGlobals "sorted" = some none)
    (wA : PySem.W.nsIn K mainGlobals "WORDS" = some (some (.ref wW)))
    (LW0 : K.lookup wW = some ⟨.type "tuple", dW, .seq #[.str "level" tW0, .str "edge" tW1, .str "once" tW2] nW, sW⟩)
    (gMC : PySem.W.nsIn K mainGlobals "MOST_COUNT" = some (some (.int 1000000 tMC)))
    (gML : PySem.W.nsIn K mainGlobals "MOST_LABEL" = some (some (.int 999999 tML)))
    (gLP : PySem.W.nsIn K mainGlobals "LEAST_PROCESSES" = some (some (.int 2 tLP)))
    (gLN : PySem.W.nsIn K mainGlobals "LEAST_NUMBERS" = some (some (.int 3 tLN)))
    (gMP : PySem.W.findIn K (.ref CS) "MOST_PROCESSES" = some (some (.int 6 tMP)))
    (sMP : PySem.W.specialIn K (.int 6 tMP) "__get__" = some none)
    (gMN : PySem.W.findIn K (.ref CS) "MOST_NUMBERS" = some (some (.int 8 tMN)))
    (sMN : PySem.W.specialIn K (.int 8 tMN) "__get__" = some none) :
    ∃ fd : FuncData, (∀ (s : Shared) (u : Value), BindsTo s fd ⟨[u], []⟩ [("_law_script", u)]) ∧ ∀ base : Heap, K.In base → base.Ns mainGlobals mg → FnOk P w K mg base CX0 8 fa fd ["_law_script"] (spLaw K) := by
  have e := hfa.symm.trans (PySem.W.mg_of X G alaw)
  cases e
  have Fint := fun_mk (st := sIsInteger) lint cint kint
  have bint := Fint.binds (ps := ["x"]) fun _ _ _ _ _ _ us hl => by
    obtain ⟨_, rfl⟩ := Ln1 hl
    rfl
  have mint := PySem.W.mg_of X G aint
  have Fbet := fun_mk (st := sIsBetween) lbet cbet kbet
  have bbet := Fbet.binds (ps := ["x", "least", "most"]) fun _ _ _ _ _ _ us hl => by
    obtain ⟨_, _, _, rfl⟩ := Ln3 hl
    rfl
  have mbet := PySem.W.mg_of X G abet
  have Fcnt := fun_mk (st := sIsCount) lcnt ccnt kcnt
  have bcnt := Fcnt.binds (ps := ["x"]) fun _ _ _ _ _ _ us hl => by
    obtain ⟨_, rfl⟩ := Ln1 hl
    rfl
  have mcnt := PySem.W.mg_of X G acnt
  have Flab := fun_mk (st := sIsLabel) llab clab klab
  have blab := Flab.binds (ps := ["x"]) fun _ _ _ _ _ _ us hl => by
    obtain ⟨_, rfl⟩ := Ln1 hl
    rfl
  have mlab := PySem.W.mg_of X G alab
  have Fwrd := fun_mk (st := sIsWord) lwrd cwrd kwrd
  have bwrd := Fwrd.binds (ps := ["x"]) fun _ _ _ _ _ _ us hl => by
    obtain ⟨_, rfl⟩ := Ln1 hl
    rfl
  have mwrd := PySem.W.mg_of X G awrd
  have Fbag := fun_mk (st := sBag) lbag cbag kbag
  have bbag := Fbag.binds (ps := ["_law_script", "_law_at"]) fun _ _ _ _ _ _ us hl => by
    obtain ⟨_, _, rfl⟩ := Ln2 hl
    rfl
  have mbag := PySem.W.mg_of X G abag
  have Ftake := fun_mk (st := sTake) ltake ctake ktake
  have btake := Ftake.binds (ps := ["_law_bag_here", "_law_many"]) fun _ _ _ _ _ _ us hl => by
    obtain ⟨_, _, rfl⟩ := Ln2 hl
    rfl
  have mtake := PySem.W.mg_of X G atake
  have Fof := fun_mk (st := sOf) lof cof kof
  have bof := Fof.binds (ps := ["_law_bag_here", "_law_some"]) fun _ _ _ _ _ _ us hl => by
    obtain ⟨_, _, rfl⟩ := Ln2 hl
    rfl
  have mof := PySem.W.mg_of X G aof
  have Flar := fun_mk (st := sArrivedL) llar clar klar
  have blar := Flar.binds (ps := ["_law_cells", "_law_k"]) fun _ _ _ _ _ _ us hl => by
    obtain ⟨_, _, rfl⟩ := Ln2 hl
    rfl
  have mlar := PySem.W.mg_of X G alar
  have Flch := fun_mk (st := sChangedL) llch clch klch
  have blch := Flch.binds (ps := ["_law_cells", "_law_k", "_law_term"]) fun _ _ _ _ _ _ us hl => by
    obtain ⟨_, _, _, rfl⟩ := Ln3 hl
    rfl
  have mlch := PySem.W.mg_of X G alch
  have Flrp := fun_mk (st := sReportsL) llrp clrp klrp
  have blrp := Flrp.binds (ps := ["_law_cells"]) fun _ _ _ _ _ _ us hl => by
    obtain ⟨_, rfl⟩ := Ln1 hl
    rfl
  have mlrp := PySem.W.mg_of X G alrp
  have Flaw := fun_mk (st := sLaw) llaw claw klaw
  have blaw := Flaw.binds (ps := ["_law_script"]) fun _ _ _ _ _ _ us hl => by
    obtain ⟨_, rfl⟩ := Ln1 hl
    rfl
  have mlaw := PySem.W.mg_of X G alaw
  have Fri := fun_mk (st := sRegInit) lri cri kri
  have bri := Fri.binds (ps := ["self", "number", "source", "word", "armed"]) fun _ _ _ _ _ _ us hl => by
    obtain ⟨_, _, _, _, _, rfl⟩ := Ln5 hl
    rfl
  have Fwi := fun_mk (st := sWsInit) lwi cwi kwi
  have bwi := Fwi.binds (ps := ["self"]) fun _ _ _ _ _ _ us hl => by
    obtain ⟨_, rfl⟩ := Ln1 hl
    rfl
  have Flof := fun_mk (st := sLabelOf) llof clof klof
  have blof := Flof.binds (ps := ["self", "number", "source"]) fun _ _ _ _ _ _ us hl => by
    obtain ⟨_, _, _, rfl⟩ := Ln3 hl
    rfl
  have Fput := fun_mk (st := sPut) lput cput kput
  have bput := Fput.binds (ps := ["self", "label", "kept", "ready"]) fun _ _ _ _ _ _ us hl => by
    obtain ⟨_, _, _, _, rfl⟩ := Ln4 hl
    rfl
  have Fapp := fun_mk (st := sAppend) lapp capp kapp
  have bapp := Fapp.binds (ps := ["self", "label"]) fun _ _ _ _ _ _ us hl => by
    obtain ⟨_, _, rfl⟩ := Ln2 hl
    rfl
  have Fntc := fun_mk (st := sNotice) lntc cntc kntc
  have bntc := Fntc.binds (ps := ["self", "source"]) fun _ _ _ _ _ _ us hl => by
    obtain ⟨_, _, rfl⟩ := Ln2 hl
    rfl
  have Frep := fun_mk (st := sReports) lrep crep krep
  have brep := Frep.binds (ps := ["self", "most", "sources"]) fun _ _ _ _ _ _ us hl => by
    obtain ⟨_, _, _, rfl⟩ := Ln3 hl
    rfl
  have Fstl := fun_mk (st := sSettle) lstl cstl kstl
  have bstl := Fstl.binds (ps := ["self", "label"]) fun _ _ _ _ _ _ us hl => by
    obtain ⟨_, _, rfl⟩ := Ln2 hl
    rfl
  have Fsi : FunD K "__init__" "System.__init__" (defArgs sSysInit) (defBody sSysInit) (defScope sSysInit) ([] : List V) ([("processes", V.int 4), ("numbers", V.int 8)] : List (Str × V)) f_si (PySem.W.fnOf "__init__" "System.__init__" (defArgs sSysInit) (defBody sSysInit) (defScope sSysInit) .none (.ref D_si) dc_si pm_si an_si cd_si ct_si) := ⟨⟨_, _, .none, (.ref D_si), _, _, _, _, _, _, rfl, lsi, csi, .inl ⟨rfl, rfl⟩, .inr ⟨D_si, rfl, fun q hq => by
    simp only [List.mem_cons, List.not_mem_nil, or_false] at hq
    rcases hq with rfl | rfl
    · exact ⟨_, wsi0, _, rfl⟩
    · exact ⟨_, wsi1, _, rfl⟩⟩⟩, ksi⟩
  have Fcon := fun_mk (st := sContains) lcon ccon kcon
  have bcon := Fcon.binds (ps := ["self", "x"]) fun _ _ _ _ _ _ us hl => by
    obtain ⟨_, _, rfl⟩ := Ln2 hl
    rfl
  have Ftof := fun_mk (st := sTableOf) ltof ctof ktof
  have btof := Ftof.binds (ps := ["self", "process"]) fun _ _ _ _ _ _ us hl => by
    obtain ⟨_, _, rfl⟩ := Ln2 hl
    rfl
  have Fitn := fun_mk (st := sIsTabNum) litn citn kitn
  have bitn := Fitn.binds (ps := ["self", "number"]) fun _ _ _ _ _ _ us hl => by
    obtain ⟨_, _, rfl⟩ := Ln2 hl
    rfl
  have Ftha := fun_mk (st := sThingAt) ltha ctha ktha
  have btha := Ftha.binds (ps := ["self", "process", "number"]) fun _ _ _ _ _ _ us hl => by
    obtain ⟨_, _, _, rfl⟩ := Ln3 hl
    rfl
  have Fsra := fun_mk (st := sSourceAt) lsra csra ksra
  have bsra := Fsra.binds (ps := ["self", "process", "number"]) fun _ _ _ _ _ _ us hl => by
    obtain ⟨_, _, _, rfl⟩ := Ln3 hl
    rfl
  have Fsta := fun_mk (st := sSetAt) lsta csta ksta
  have bsta := Fsta.binds (ps := ["self", "process", "set_number"]) fun _ _ _ _ _ _ us hl => by
    obtain ⟨_, _, _, rfl⟩ := Ln3 hl
    rfl
  have Ffrn := fun_mk (st := sFreeNum) lfrn cfrn kfrn
  have bfrn := Ffrn.binds (ps := ["self", "process"]) fun _ _ _ _ _ _ us hl => by
    obtain ⟨_, _, rfl⟩ := Ln2 hl
    rfl
  have Fnth := fun_mk (st := sNewThing) lnth cnth knth
  have bnth := Fnth.binds (ps := ["self", "process"]) fun _ _ _ _ _ _ us hl => by
    obtain ⟨_, _, rfl⟩ := Ln2 hl
    rfl
  have Fnso := fun_mk (st := sNewSource) lnso cnso knso
  have bnso := Fnso.binds (ps := ["self", "process"]) fun _ _ _ _ _ _ us hl => by
    obtain ⟨_, _, rfl⟩ := Ln2 hl
    rfl
  have Fnse := fun_mk (st := sNewSet) lnse cnse knse
  have bnse := Fnse.binds (ps := ["self", "process"]) fun _ _ _ _ _ _ us hl => by
    obtain ⟨_, _, rfl⟩ := Ln2 hl
    rfl
  have Funf := fun_mk (st := sUnfinished) lunf cunf kunf
  have bunf := Funf.binds (ps := ["self", "source", "number"]) fun _ _ _ _ _ _ us hl => by
    obtain ⟨_, _, _, rfl⟩ := Ln3 hl
    rfl
  have Frdy := fun_mk (st := sIsReady) lrdy crdy krdy
  have brdy := Frdy.binds (ps := ["self", "source"]) fun _ _ _ _ _ _ us hl => by
    obtain ⟨_, _, rfl⟩ := Ln2 hl
    rfl
  have Fnfy := fun_mk (st := sNotify) lnfy cnfy knfy
  have bnfy := Fnfy.binds (ps := ["self", "source"]) fun _ _ _ _ _ _ us hl => by
    obtain ⟨_, _, rfl⟩ := Ln2 hl
    rfl
  have Farr : FunD K "arrive" "System.arrive" (defArgs sArrive) (defBody sArrive) (defScope sArrive) ([V.int 1] : List V) ([] : List (Str × V)) f_arr (PySem.W.fnOf "arrive" "System.arrive" (defArgs sArrive) (defBody sArrive) (defScope sArrive) (.ref T_arr) kV_arr dc_arr pm_arr an_arr cd_arr ct_arr) := ⟨⟨_, _, (.ref T_arr), kV_arr, _, _, _, _, _, _, rfl, larr, carr, .inr ⟨(by intro z; cases z), T_arr, _, [.int 1 tv_arr0], nd_arr, rfl, Larr, rfl, (.cons ⟨_, rfl⟩ .nil)⟩, .inl rfl⟩, karr⟩
  obtain ⟨dsarr, varr, barr⟩ := Farr.binds1 (ps := ["self", "process", "number", "many"]) 3 0 (by intro z; cases z) rfl fun _ _ _ _ _ _ _ us its hu hi => by
    obtain ⟨_, _, _, rfl⟩ := Ln3 hu
    obtain ⟨_, rfl⟩ := Ln1 hi
    exact ⟨_, rfl, rfl⟩
  have Barr : Binds K (PySem.W.fnOf "arrive" "System.arrive" (defArgs sArrive) (defBody sArrive) (defScope sArrive) (.ref T_arr) kV_arr dc_arr pm_arr an_arr cd_arr ct_arr) (["self", "process", "number", "many"] : List Str) [] := by
    obtain ⟨ds, v, b⟩ := Farr.binds1 (ps := ["self", "process", "number", "many"]) 4 1 (by intro z; cases z) rfl fun _ _ _ _ _ _ _ us its hu hi => by
      obtain ⟨_, _, _, _, rfl⟩ := Ln4 hu
      obtain ⟨_, rfl⟩ := Ln1 hi
      exact ⟨_, rfl, rfl⟩
    cases v
    exact b
  have Frd : FunD K "read" "System.read" (defArgs sRead) (defBody sRead) (defScope sRead) ([V.non] : List V) ([] : List (Str × V)) f_rd (PySem.W.fnOf "read" "System.read" (defArgs sRead) (defBody sRead) (defScope sRead) (.ref T_rd) kV_rd dc_rd pm_rd an_rd cd_rd ct_rd) := ⟨⟨_, _, (.ref T_rd), kV_rd, _, _, _, _, _, _, rfl, lrd, crd, .inr ⟨(by intro z; cases z), T_rd, _, [.none], nd_rd, rfl, Lrd, rfl, (.cons rfl .nil)⟩, .inl rfl⟩, krd⟩
  obtain ⟨dsrd, vrd, brd⟩ := Frd.binds1 (ps := ["self", "process", "number", "many"]) 3 0 (by intro z; cases z) rfl fun _ _ _ _ _ _ _ us its hu hi => by
    obtain ⟨_, _, _, rfl⟩ := Ln3 hu
    obtain ⟨_, rfl⟩ := Ln1 hi
    exact ⟨_, rfl, rfl⟩
  have Brd : Binds K (PySem.W.fnOf "read" "System.read" (defArgs sRead) (defBody sRead) (defScope sRead) (.ref T_rd) kV_rd dc_rd pm_rd an_rd cd_rd ct_rd) (["self", "process", "number", "many"] : List Str) [] := by
    obtain ⟨ds, v, b⟩ := Frd.binds1 (ps := ["self", "process", "number", "many"]) 4 1 (by intro z; cases z) rfl fun _ _ _ _ _ _ _ us its hu hi => by
      obtain ⟨_, _, _, _, rfl⟩ := Ln4 hu
      obtain ⟨_, rfl⟩ := Ln1 hi
      exact ⟨_, rfl, rfl⟩
    cases v
    exact b
  have Fadd : FunD K "add" "System.add" (defArgs sAdd) (defBody sAdd) (defScope sAdd) ([] : List V) ([("word", V.str "level")] : List (Str × V)) f_add (PySem.W.fnOf "add" "System.add" (defArgs sAdd) (defBody sAdd) (defScope sAdd) .none (.ref D_add) dc_add pm_add an_add cd_add ct_add) := ⟨⟨_, _, .none, (.ref D_add), _, _, _, _, _, _, rfl, ladd, cadd, .inl ⟨rfl, rfl⟩, .inr ⟨D_add, rfl, fun q hq => by
    simp only [List.mem_cons, List.not_mem_nil, or_false] at hq
    rcases hq with rfl
    · exact ⟨_, wadd0, _, rfl⟩⟩⟩, kadd⟩
  have Fchg := fun_mk (st := sChange) lchg cchg kchg
  have Fwai : FunD K "wait" "System.wait" (defArgs sWait) (defBody sWait) (defScope sWait) ([V.int 1] : List V) ([] : List (Str × V)) f_wai (PySem.W.fnOf "wait" "System.wait" (defArgs sWait) (defBody sWait) (defScope sWait) (.ref T_wai) kV_wai dc_wai pm_wai an_wai cd_wai ct_wai) := ⟨⟨_, _, (.ref T_wai), kV_wai, _, _, _, _, _, _, rfl, lwai, cwai, .inr ⟨(by intro z; cases z), T_wai, _, [.int 1 tv_wai0], nd_wai, rfl, Lwai, rfl, (.cons ⟨_, rfl⟩ .nil)⟩, .inl rfl⟩, kwai⟩
  obtain ⟨dswai, vwai, bwai⟩ := Fwai.binds1 (ps := ["self", "process", "set_number", "most"]) 3 0 (by intro z; cases z) rfl fun _ _ _ _ _ _ _ us its hu hi => by
    obtain ⟨_, _, _, rfl⟩ := Ln3 hu
    obtain ⟨_, rfl⟩ := Ln1 hi
    exact ⟨_, rfl, rfl⟩
  have Bwai : Binds K (PySem.W.fnOf "wait" "System.wait" (defArgs sWait) (defBody sWait) (defScope sWait) (.ref T_wai) kV_wai dc_wai pm_wai an_wai cd_wai ct_wai) (["self", "process", "set_number", "most"] : List Str) [] := by
    obtain ⟨ds, v, b⟩ := Fwai.binds1 (ps := ["self", "process", "set_number", "most"]) 4 1 (by intro z; cases z) rfl fun _ _ _ _ _ _ _ us its hu hi => by
      obtain ⟨_, _, _, _, rfl⟩ := Ln4 hu
      obtain ⟨_, rfl⟩ := Ln1 hi
      exact ⟨_, rfl, rfl⟩
    cases v
    exact b
  have Ftng := fun_mk (st := sThings) ltng ctng ktng
  have btng := Ftng.binds (ps := ["self"]) fun _ _ _ _ _ _ us hl => by
    obtain ⟨_, rfl⟩ := Ln1 hl
    rfl
  have Fnof := fun_mk (st := sNumbersOf) lnof cnof knof
  have bnof := Fnof.binds (ps := ["self", "thing"]) fun _ _ _ _ _ _ us hl => by
    obtain ⟨_, _, rfl⟩ := Ln2 hl
    rfl
  have Fnam := fun_mk (st := sNameOf) lnam cnam knam
  have bnam := Fnam.binds (ps := ["self", "thing"]) fun _ _ _ _ _ _ us hl => by
    obtain ⟨_, _, rfl⟩ := Ln2 hl
    rfl
  have Freg := fun_mk (st := sRegistrations) lreg creg kreg
  have breg := Freg.binds (ps := ["self"]) fun _ _ _ _ _ _ us hl => by
    obtain ⟨_, rfl⟩ := Ln1 hl
    rfl
  obtain ⟨dssi, vsi, bsi⟩ := Fsi.binds0 (ps := ["self", "processes", "numbers"]) 1 (by intro z; cases z) rfl fun _ _ _ _ _ _ us ks hu hk => by
    obtain ⟨_, rfl⟩ := Ln1 hu
    obtain ⟨_, _, rfl⟩ := Ln2 hk
    exact ⟨_, _, _, _, _, _, rfl, rfl, ⟨_, _, _, _, _, _, rfl, rfl, rfl⟩⟩
  obtain ⟨mvkbadd, kbadd⟩ := Fadd.kbinds0 (ps := ["self", "process", "set_number", "number", "label", "word"]) 5 ["word"] [] (fun us mv ws => us ++ ws) (by intro z; cases z) (fun q hq => absurd hq List.not_mem_nil) (fun a b c => a.append c) fun _ _ _ _ _ _ us mv ws hu hm hw => by
    obtain ⟨_, _, _, _, _, rfl⟩ := Ln5 hu
    obtain ⟨rfl⟩ := Ln0 hm
    obtain ⟨_, rfl⟩ := Ln1 hw
    exact rfl
  have kbchg : KBn K (PySem.W.fnOf "change" "System.change" (defArgs sChange) (defBody sChange) (defScope sChange) .none kV_chg dc_chg pm_chg an_chg cd_chg ct_chg) ["self", "process", "set_number", "number", "word"] 1 ["process", "set_number", "number", "word"] (fun us ws => us ++ ws) (fun vs zs => vs ++ zs) := ⟨fun s us ws _ hu hw => by
    obtain ⟨_, rfl⟩ := Ln1 hu
    obtain ⟨_, _, _, _, rfl⟩ := Ln4 hw
    exact .of_eq rfl, fun a b => a.append b⟩
  have kbwai := kb1 Fwai (ps := ["self", "process", "set_number", "most"]) 3 ["most"] (by intro z; cases z) fun _ _ _ _ _ _ _ us its ws hu hi hw => by
    obtain ⟨_, _, _, rfl⟩ := Ln3 hu
    obtain ⟨_, rfl⟩ := Ln1 hi
    obtain ⟨_, rfl⟩ := Ln1 hw
    exact ⟨_, rfl, rfl⟩
  have DT : DrawTxt mg := ⟨(PySem.W.mg_none_of X G z_len), (PySem.W.mg_none_of X G z_enumerate), (PySem.W.mg_none_of X G z_int), (PySem.W.mg_none_of X G z_abs)⟩
  have tup : ∀ {q : Addr} {dd : Option Addr} {its : Array Value} {n : Nat} {sl : Array (Option Value)} {xs : List Str}, K.lookup q = some ⟨.type "tuple", dd, .seq its n, sl⟩ → its.size ≤ sizeLine → Vals (xs.map V.str) its.toList → ∀ H, SqT K H q (xs.map V.str) := fun e hz hv H => .inr ⟨_, _, _, e, rfl, rfl, hz, hv⟩
  have CT : ChkTxt K mg := ⟨(PySem.W.mg_none_of X G z_isinstance), (PySem.W.mg_none_of X G z_int), (PySem.W.mg_none_of X G z_bool), ⟨tMC, PySem.W.mg_of X G gMC⟩, ⟨tML, PySem.W.mg_of X G gML⟩, ⟨wW, PySem.W.mg_of X G wA, tup (xs := wordsL) LW0 (by show 3 ≤ sizeLine; decide) (.cons ⟨_, rfl⟩ (.cons ⟨_, rfl⟩ (.cons ⟨_, rfl⟩ .nil)))⟩⟩
  have WT : WsTxt mg := ⟨(PySem.W.mg_none_of X G z_list), (PySem.W.mg_none_of X G z_len)⟩
  have YT : SysTxt mg := ⟨(PySem.W.mg_none_of X G z_enumerate), (PySem.W.mg_none_of X G z_list), (PySem.W.mg_none_of X G z_min)⟩
  have RT : RegTxt mg := ⟨(PySem.W.mg_none_of X G z_sorted), (PySem.W.mg_none_of X G z_list), (PySem.W.mg_none_of X G z_enumerate)⟩
  have LX : LawTx mg := ⟨(PySem.W.mg_none_of X G z_range), (PySem.W.mg_none_of X G z_max), (PySem.W.mg_none_of X G z_min), (PySem.W.mg_none_of X G z_len), (PySem.W.mg_none_of X G z_sorted), (PySem.W.mg_none_of X G z_enumerate)⟩
  have TS : ClsF K CS sysF := ⟨⟨pgS, hdS, poS, saS⟩, fun f hf => by
    simp only [sysF, List.mem_cons, List.not_mem_nil, or_false] at hf
    rcases hf with rfl | rfl | rfl | rfl | rfl | rfl
    · exact noS0
    · exact noS1
    · exact noS2
    · exact noS3
    · exact noS4
    · exact noS5⟩
  have TW : ClsF K CW wsF := ⟨⟨pgW, hdW, poW, saW⟩, fun f hf => by
    simp only [wsF, List.mem_cons, List.not_mem_nil, or_false] at hf
    rcases hf with rfl | rfl
    · exact noW0
    · exact noW1⟩
  have TR : ClsF K CR regF := ⟨⟨pgR, hdR, poR, saR⟩, fun f hf => by
    simp only [regF, List.mem_cons, List.not_mem_nil, or_false] at hf
    rcases hf with rfl | rfl | rfl | rfl
    · exact noR0
    · exact noR1
    · exact noR2
    · exact noR3⟩
  have LT : LimTxt K mg CS := ⟨⟨tLP, PySem.W.mg_of X G gLP⟩, ⟨tLN, PySem.W.mg_of X G gLN⟩, ⟨_, gMP, ⟨_, rfl⟩, sMP, by decide⟩, ⟨_, gMN, ⟨_, rfl⟩, sMN, by decide⟩⟩
  have KS : Mk K CS f_si := ⟨mkS, asi, isi, kcS⟩
  have gmS := PySem.W.mg_of X G gCS
  have KW : Mk K CW f_wi := ⟨mkW, awi, iwi, kcW⟩
  have gmW := PySem.W.mg_of X G gCW
  have KR : Mk K CR f_ri := ⟨mkR, ari, iri, kcR⟩
  have gmR := PySem.W.mg_of X G gCR
  refine ⟨PySem.W.fnOf "law" "law" (defArgs sLaw) (defBody sLaw) (defScope sLaw) .none kV_law dc_law pm_law an_law cd_law ct_law, fun s u => .of_eq rfl, fun base KB _ => ?_⟩
  have Gint := okIsInteger (P := P) (w := w) (K := K) (mg := mg) (base := base) Fint CT
  have Gbet := okIsBetween (P := P) (w := w) (K := K) (mg := mg) (base := base) Fbet Gint kint mint bint
  have Gcnt := okIsCount (P := P) (w := w) (K := K) (mg := mg) (base := base) Fcnt CT Gbet kbet mbet bbet
  have Glab := okIsLabel (P := P) (w := w) (K := K) (mg := mg) (base := base) Flab CT Gbet kbet mbet bbet
  have Gwrd := okIsWord (P := P) (w := w) (K := K) (mg := mg) (base := base) Fwrd CT
  have Gbag := okBag (P := P) (w := w) (K := K) (mg := mg) (base := base) Fbag DT
  have Gtake := okTake (P := P) (w := w) (K := K) (mg := mg) (base := base) Ftake DT
  have Gof := okOf (P := P) (w := w) (K := K) (mg := mg) (base := base) Fof DT Ftake mtake btake
  have Glar := okArrivedL (P := P) (w := w) (K := K) (mg := mg) (base := base) Flar 
  have Glch := okChangedL (P := P) (w := w) (K := K) (mg := mg) (base := base) Flch 
  have Glrp := okReportsL (P := P) (w := w) (K := K) (mg := mg) (base := base) Flrp RT
  have Gri := okRegInit (P := P) (w := w) (K := K) (mg := mg) (base := base) Fri TR
  have Gwi := okWsInit (P := P) (w := w) (K := K) (mg := mg) (base := base) Fwi TW
  have Gapp := okAppend (P := P) (w := w) (K := K) (mg := mg) (base := base) Fapp TW
  have Gput := okPut (P := P) (w := w) (K := K) (mg := mg) (base := base) Fput TW Gapp ⟨aapp, iapp, kapp⟩ bapp
  have Gstl := okSettle (P := P) (w := w) (K := K) (mg := mg) (base := base) Fstl TW TR gmR KR Gri bri
  have Glof := okLabelOf (P := P) (w := w) (K := K) (mg := mg) (base := base) Flof TW TR
  have Gntc := okNotice (P := P) (w := w) (K := K) (mg := mg) (base := base) Fntc TW TR Gapp ⟨aapp, iapp, kapp⟩ bapp
  have Grep := okReports (P := P) (w := w) (K := K) (mg := mg) (base := base) Frep WT TW TR Gstl ⟨astl, istl, kstl⟩ bstl
  have Gsi := okSysInit (P := P) (w := w) (K := K) (mg := mg) (base := base) (C := ⟨CS, CW, CR⟩) Fsi TS LT ⟨Gbet, kbet, mbet, bbet⟩
  have Gcon := okContains (P := P) (w := w) (K := K) (mg := mg) (base := base) (C := ⟨CS, CW, CR⟩) Fcon TS ⟨Gint, kint, mint, bint⟩
  have Gtof := okTableOf (P := P) (w := w) (K := K) (mg := mg) (base := base) (C := ⟨CS, CW, CR⟩) Ftof TS ⟨Gcon, ⟨acon, icon, kcon⟩, bcon⟩
  have Gitn := okIsTabNum (P := P) (w := w) (K := K) (mg := mg) (base := base) (C := ⟨CS, CW, CR⟩) Fitn TS ⟨Gbet, kbet, mbet, bbet⟩
  have Gtha := okThingAt (P := P) (w := w) (K := K) (mg := mg) (base := base) (C := ⟨CS, CW, CR⟩) Ftha TS ⟨Gtof, ⟨atof, itof, ktof⟩, btof⟩ ⟨Gitn, ⟨aitn, iitn, kitn⟩, bitn⟩
  have Gsra := okSourceAt (P := P) (w := w) (K := K) (mg := mg) (base := base) (C := ⟨CS, CW, CR⟩) Fsra TS ⟨Gtha, ⟨atha, itha, ktha⟩, btha⟩
  have Gsta := okSetAt (P := P) (w := w) (K := K) (mg := mg) (base := base) (C := ⟨CS, CW, CR⟩) Fsta TS ⟨Gtha, ⟨atha, itha, ktha⟩, btha⟩
  have Gfrn := okFreeNum (P := P) (w := w) (K := K) (mg := mg) (base := base) (C := ⟨CS, CW, CR⟩) Ffrn YT TS ⟨Gtof, ⟨atof, itof, ktof⟩, btof⟩
  have Gnth := okNewThing (P := P) (w := w) (K := K) (mg := mg) (base := base) (C := ⟨CS, CW, CR⟩) Fnth TS ⟨Gfrn, ⟨afrn, ifrn, kfrn⟩, bfrn⟩
  have Gunf := okUnfinished (P := P) (w := w) (K := K) (mg := mg) (base := base) (C := ⟨CS, CW, CR⟩) Funf TS
  have Grdy := okIsReady (P := P) (w := w) (K := K) (mg := mg) (base := base) (C := ⟨CS, CW, CR⟩) Frdy TS
  have Gnfy := okNotify (P := P) (w := w) (K := K) (mg := mg) (base := base) (C := ⟨CS, CW, CR⟩) Fnfy TS TW.cl ⟨Gntc, ⟨antc, intc, kntc⟩, bntc⟩
  have Garr := okArrive (P := P) (w := w) (K := K) (mg := mg) (base := base) (C := ⟨CS, CW, CR⟩) Farr TS ⟨Gsra, ⟨asra, isra, ksra⟩, bsra⟩ ⟨Gunf, ⟨aunf, iunf, kunf⟩, bunf⟩ ⟨Gnfy, ⟨anfy, infy, knfy⟩, bnfy⟩ ⟨Gcnt, kcnt, mcnt, bcnt⟩
  have Grd := okRead (P := P) (w := w) (K := K) (mg := mg) (base := base) (C := ⟨CS, CW, CR⟩) Frd YT TS ⟨Gsra, ⟨asra, isra, ksra⟩, bsra⟩ ⟨Gcnt, kcnt, mcnt, bcnt⟩
  have Gadd := okAdd (P := P) (w := w) (K := K) (mg := mg) (base := base) (C := ⟨CS, CW, CR⟩) Fadd TS TW ⟨Gsta, ⟨asta, ista, ksta⟩, bsta⟩ ⟨Gsra, ⟨asra, isra, ksra⟩, bsra⟩ ⟨Glab, klab, mlab, blab⟩ ⟨Gwrd, kwrd, mwrd, bwrd⟩ ⟨Glof, ⟨alof, ilof, klof⟩, blof⟩ gmR KR Gri bri ⟨Grdy, ⟨ardy, irdy, krdy⟩, brdy⟩ ⟨Gput, ⟨aput, iput, kput⟩, bput⟩
  have Gwai := okWait (P := P) (w := w) (K := K) (mg := mg) (base := base) (C := ⟨CS, CW, CR⟩) Fwai TS TW ⟨Gsta, ⟨asta, ista, ksta⟩, bsta⟩ ⟨Gcnt, kcnt, mcnt, bcnt⟩ ⟨Grep, ⟨arep, irep, krep⟩, brep⟩
  have Gnso := okNewSource (P := P) (w := w) (K := K) (mg := mg) (base := base) (C := ⟨CS, CW, CR⟩) Fnso TS ⟨Gnth, ⟨anth, inth, knth⟩, bnth⟩
  have Gnse := okNewSet (P := P) (w := w) (K := K) (mg := mg) (base := base) (C := ⟨CS, CW, CR⟩) Fnse TS ⟨Gnth, ⟨anth, inth, knth⟩, bnth⟩ gmW KW Gwi bwi
  have Gchg := okChange (P := P) (w := w) (K := K) (mg := mg) (base := base) (C := ⟨CS, CW, CR⟩) Fchg TS TW ⟨Gsta, ⟨asta, ista, ksta⟩, bsta⟩ ⟨Gsra, ⟨asra, isra, ksra⟩, bsra⟩ ⟨Gwrd, kwrd, mwrd, bwrd⟩ ⟨Glof, ⟨alof, ilof, klof⟩, blof⟩ gmR KR Gri bri ⟨Grdy, ⟨ardy, irdy, krdy⟩, brdy⟩ ⟨Gput, ⟨aput, iput, kput⟩, bput⟩
  have Gtng := okThings (P := P) (w := w) (K := K) (mg := mg) (base := base) (C := ⟨CS, CW, CR⟩) Ftng RT TS
  have Gnof := okNumbersOf (P := P) (w := w) (K := K) (mg := mg) (base := base) (C := ⟨CS, CW, CR⟩) Fnof RT TS
  have Gnam := okNameOf (P := P) (w := w) (K := K) (mg := mg) (base := base) (C := ⟨CS, CW, CR⟩) Fnam TS ⟨Gnof, ⟨anof, inof, knof⟩, bnof⟩
  have Greg := okRegistrations (P := P) (w := w) (K := K) (mg := mg) (base := base) (C := ⟨CS, CW, CR⟩) Freg TS TW TR ⟨Gtng, ⟨atng, itng, ktng⟩, btng⟩ ⟨Gnam, ⟨anam, inam, knam⟩, bnam⟩
  exact okLaw (C := ⟨CS, CW, CR⟩) Flaw LX TS nWR ⟨Gbag, kbag, mbag, bbag⟩ ⟨Gtake, ktake, mtake, btake⟩ ⟨Gof, kof, mof, bof⟩ ⟨Glar, klar, mlar, blar⟩ ⟨Glch, klch, mlch, blch⟩ ⟨Glrp, klrp, mlrp, blrp⟩ gmS KS Gsi bsi vsi ⟨Gnse, ⟨anse, inse, knse⟩, bnse⟩ ⟨Gnso, ⟨anso, inso, knso⟩, bnso⟩ Gadd ⟨aadd, iadd, kadd⟩ kbadd Garr ⟨aarr, iarr, karr⟩ barr varr Gchg ⟨achg, ichg, kchg⟩ kbchg Grd ⟨ard, ird, krd⟩ brd vrd Gwai ⟨awai, iwai, kwai⟩ kbwai ⟨Greg, ⟨areg, ireg, kreg⟩, breg⟩
theorem walkN {l : PySem.W.OpenLaw} {q : Program} {loose : List Str} {XP : (Str → Option Value) → Heap → Prop} {YP : World → Heap → Prop} {d : DefRec} {K : Params → PySem.W.Frag} (hn : l.most = some 63) (hdf : d.params.defaults = [])
    (hY : ∀ (w : World) (h : Heap), YP w h → (K w.params).In h)
    (F : ∀ (w : World) (mg : Str → Option Value) (fa : Addr) (h : Heap), (K w.params).In h → h.Ns mainGlobals mg → mg d.name = some (.ref fa) →
      ∃ fd : FuncData, (∀ (s : Shared) (u : Value), BindsTo s fd ⟨[u], []⟩ [("_law_script", u)]) ∧ ∀ base : Heap, (K w.params).In base → base.Ns mainGlobals mg → FnOk l.prog w (K w.params) mg base CX0 8 fa fd ["_law_script"] (spLaw (K w.params))) :
    PySem.W.WalkO q loose XP YP l.row.toRowW d [] (fun f vs => PySem.call f vs) :=
  L2.walk_of (n := 63) (k := 8) (x := "_law_script") (CX := fun _ => CX0) (sp := fun w => spLaw (K w.params)) hn (by decide) hdf ⟨rfl, by decide, by decide⟩ hY F (fun _ _ a ns hl _ hS => ⟨a, ns, rfl, hS, hl, fun _ => rfl⟩) fun _ _ _ _ _ z => z

end Wn
open PySem PySem.W PyProof.Rows in
set_option maxRecDepth 100000 in
set_option maxHeartbeats 0 in
theorem PySem.Challenge.cw_waitnumbers_k11_edge_and_once_holds : PySem.Challenge.rw_waitnumbers_k11_edge_and_once.Holds := by
  w_on; o_law; k_head; (case hw => w_witness2)
  k_fill
  refine Wn.walkN (l := PySem.Challenge.rw_waitnumbers_k11_edge_and_once) rfl rfl (fun w h Y => PySem.W.kIn_of Y) ?F
  case F =>
    intro w mg fa h KX G hmg
    refine' Wn.all_mk (w := w) KX G hmg ?gCS ?pgS ?hdS ?poS ?saS ?mkS ?kcS ?noS0 ?noS1 ?noS2 ?noS3 ?noS4 ?noS5 ?gCW ?pgW ?hdW ?poW ?saW ?mkW ?kcW ?noW0 ?noW1 ?gCR ?pgR ?hdR ?poR ?saR ?mkR ?kcR ?noR0 ?noR1 ?noR2 ?noR3 ?nWR ?aint ?lint ?cint ?kint ?abet ?lbet ?cbet ?kbet ?acnt ?lcnt ?ccnt ?kcnt ?alab ?llab ?clab ?klab ?awrd ?lwrd ?cwrd ?kwrd ?abag ?lbag ?cbag ?kbag ?atake ?ltake ?ctake ?ktake ?aof ?lof ?cof ?kof ?alar ?llar ?clar ?klar ?alch ?llch ?clch ?klch ?alrp ?llrp ?clrp ?klrp ?alaw ?llaw ?claw ?klaw ?ari ?iri ?lri ?cri ?kri ?awi ?iwi ?lwi ?cwi ?kwi ?alof ?ilof ?llof ?clof ?klof ?aput ?iput ?lput ?cput ?kput ?aapp ?iapp ?lapp ?capp ?kapp ?antc ?intc ?lntc ?cntc ?kntc ?arep ?irep ?lrep ?crep ?krep ?astl ?istl ?lstl ?cstl ?kstl ?asi ?isi ?lsi ?csi ?ksi ?wsi0 ?wsi1 ?acon ?icon ?lcon ?ccon ?kcon ?atof ?itof ?ltof ?ctof ?ktof ?aitn ?iitn ?litn ?citn ?kitn ?atha ?itha ?ltha ?ctha ?ktha ?asra ?isra ?lsra ?csra ?ksra ?asta ?ista ?lsta ?csta ?ksta ?afrn ?ifrn ?lfrn ?cfrn ?kfrn ?anth ?inth ?lnth ?cnth ?knth ?anso ?inso ?lnso ?cnso ?knso ?anse ?inse ?lnse ?cnse ?knse ?aunf ?iunf ?lunf ?cunf ?kunf ?ardy ?irdy ?lrdy ?crdy ?krdy ?anfy ?infy ?lnfy ?cnfy ?knfy ?aarr ?iarr ?larr ?carr ?karr ?Larr ?ard ?ird ?lrd ?crd ?krd ?Lrd ?aadd ?iadd ?ladd ?cadd ?kadd ?wadd0 ?achg ?ichg ?lchg ?cchg ?kchg ?awai ?iwai ?lwai ?cwai ?kwai ?Lwai ?atng ?itng ?ltng ?ctng ?ktng ?anof ?inof ?lnof ?cnof ?knof ?anam ?inam ?lnam ?cnam ?knam ?areg ?ireg ?lreg ?creg ?kreg ?z_len ?z_enumerate ?z_int ?z_abs ?z_isinstance ?z_bool ?z_list ?z_min ?z_max ?z_range ?z_sorted ?wA ?LW0 ?gMC ?gML ?gLP ?gLN ?gMP ?sMP ?gMN ?sMN
    (case gCS => first | k_is | rfl)
    (case pgS => first | k_is | rfl)
    (case hdS => first | k_is | rfl)
    (case poS => first | k_is | rfl)
    (case saS => first | k_is | rfl)
    (case mkS => first | k_is | rfl)
    (case kcS => first | k_is | rfl)
    (case noS0 => first | k_is | rfl)
    (case noS1 => first | k_is | rfl)
    (case noS2 => first | k_is | rfl)
    (case noS3 => first | k_is | rfl)
    (case noS4 => first | k_is | rfl)
    (case noS5 => first | k_is | rfl)
    (case gCW => first | k_is | rfl)
    (case pgW => first | k_is | rfl)
    (case hdW => first | k_is | rfl)
    (case poW => first | k_is | rfl)
    (case saW => first | k_is | rfl)
    (case mkW => first | k_is | rfl)
    (case kcW => first | k_is | rfl)
    (case noW0 => first | k_is | rfl)
    (case noW1 => first | k_is | rfl)
    (case gCR => first | k_is | rfl)
    (case pgR => first | k_is | rfl)
    (case hdR => first | k_is | rfl)
    (case poR => first | k_is | rfl)
    (case saR => first | k_is | rfl)
    (case mkR => first | k_is | rfl)
    (case kcR => first | k_is | rfl)
    (case noR0 => first | k_is | rfl)
    (case noR1 => first | k_is | rfl)
    (case noR2 => first | k_is | rfl)
    (case noR3 => first | k_is | rfl)
    (case nWR => decide)
    (case aint => first | k_is | rfl)
    (case lint => first | k_is | rfl)
    (case cint => first | k_is | rfl)
    (case kint => first | k_is | rfl)
    (case abet => first | k_is | rfl)
    (case lbet => first | k_is | rfl)
    (case cbet => first | k_is | rfl)
    (case kbet => first | k_is | rfl)
    (case acnt => first | k_is | rfl)
    (case lcnt => first | k_is | rfl)
    (case ccnt => first | k_is | rfl)
    (case kcnt => first | k_is | rfl)
    (case alab => first | k_is | rfl)
    (case llab => first | k_is | rfl)
    (case clab => first | k_is | rfl)
    (case klab => first | k_is | rfl)
    (case awrd => first | k_is | rfl)
    (case lwrd => first | k_is | rfl)
    (case cwrd => first | k_is | rfl)
    (case kwrd => first | k_is | rfl)
    (case abag => first | k_is | rfl)
    (case lbag => first | k_is | rfl)
    (case cbag => first | k_is | rfl)
    (case kbag => first | k_is | rfl)
    (case atake => first | k_is | rfl)
    (case ltake => first | k_is | rfl)
    (case ctake => first | k_is | rfl)
    (case ktake => first | k_is | rfl)
    (case aof => first | k_is | rfl)
    (case lof => first | k_is | rfl)
    (case cof => first | k_is | rfl)
    (case kof => first | k_is | rfl)
    (case alar => first | k_is | rfl)
    (case llar => first | k_is | rfl)
    (case clar => first | k_is | rfl)
    (case klar => first | k_is | rfl)
    (case alch => first | k_is | rfl)
    (case llch => first | k_is | rfl)
    (case clch => first | k_is | rfl)
    (case klch => first | k_is | rfl)
    (case alrp => first | k_is | rfl)
    (case llrp => first | k_is | rfl)
    (case clrp => first | k_is | rfl)
    (case klrp => first | k_is | rfl)
    (case alaw => first | k_is | rfl)
    (case llaw => first | k_is | rfl)
    (case claw => first | k_is | rfl)
    (case klaw => first | k_is | rfl)
    (case ari => first | k_is | rfl)
    (case iri => first | k_is | rfl)
    (case lri => first | k_is | rfl)
    (case cri => first | k_is | rfl)
    (case kri => first | k_is | rfl)
    (case awi => first | k_is | rfl)
    (case iwi => first | k_is | rfl)
    (case lwi => first | k_is | rfl)
    (case cwi => first | k_is | rfl)
    (case kwi => first | k_is | rfl)
    (case alof => first | k_is | rfl)
    (case ilof => first | k_is | rfl)
    (case llof => first | k_is | rfl)
    (case clof => first | k_is | rfl)
    (case klof => first | k_is | rfl)
    (case aput => first | k_is | rfl)
    (case iput => first | k_is | rfl)
    (case lput => first | k_is | rfl)
    (case cput => first | k_is | rfl)
    (case kput => first | k_is | rfl)
    (case aapp => first | k_is | rfl)
    (case iapp => first | k_is | rfl)
    (case lapp => first | k_is | rfl)
    (case capp => first | k_is | rfl)
    (case kapp => first | k_is | rfl)
    (case antc => first | k_is | rfl)
    (case intc => first | k_is | rfl)
    (case lntc => first | k_is | rfl)
    (case cntc => first | k_is | rfl)
    (case kntc => first | k_is | rfl)
    (case arep => first | k_is | rfl)
    (case irep => first | k_is | rfl)
    (case lrep => first | k_is | rfl)
    (case crep => first | k_is | rfl)
    (case krep => first | k_is | rfl)
    (case astl => first | k_is | rfl)
    (case istl => first | k_is | rfl)
    (case lstl => first | k_is | rfl)
    (case cstl => first | k_is | rfl)
    (case kstl => first | k_is | rfl)
    (case asi => first | k_is | rfl)
    (case isi => first | k_is | rfl)
    (case lsi => first | k_is | rfl)
    (case csi => first | k_is | rfl)
    (case ksi => first | k_is | rfl)
    (case wsi0 => first | k_is | rfl)
    (case wsi1 => first | k_is | rfl)
    (case acon => first | k_is | rfl)
    (case icon => first | k_is | rfl)
    (case lcon => first | k_is | rfl)
    (case ccon => first | k_is | rfl)
    (case kcon => first | k_is | rfl)
    (case atof => first | k_is | rfl)
    (case itof => first | k_is | rfl)
    (case ltof => first | k_is | rfl)
    (case ctof => first | k_is | rfl)
    (case ktof => first | k_is | rfl)
    (case aitn => first | k_is | rfl)
    (case iitn => first | k_is | rfl)
    (case litn => first | k_is | rfl)
    (case citn => first | k_is | rfl)
    (case kitn => first | k_is | rfl)
    (case atha => first | k_is | rfl)
    (case itha => first | k_is | rfl)
    (case ltha => first | k_is | rfl)
    (case ctha => first | k_is | rfl)
    (case ktha => first | k_is | rfl)
    (case asra => first | k_is | rfl)
    (case isra => first | k_is | rfl)
    (case lsra => first | k_is | rfl)
    (case csra => first | k_is | rfl)
    (case ksra => first | k_is | rfl)
    (case asta => first | k_is | rfl)
    (case ista => first | k_is | rfl)
    (case lsta => first | k_is | rfl)
    (case csta => first | k_is | rfl)
    (case ksta => first | k_is | rfl)
    (case afrn => first | k_is | rfl)
    (case ifrn => first | k_is | rfl)
    (case lfrn => first | k_is | rfl)
    (case cfrn => first | k_is | rfl)
    (case kfrn => first | k_is | rfl)
    (case anth => first | k_is | rfl)
    (case inth => first | k_is | rfl)
    (case lnth => first | k_is | rfl)
    (case cnth => first | k_is | rfl)
    (case knth => first | k_is | rfl)
    (case anso => first | k_is | rfl)
    (case inso => first | k_is | rfl)
    (case lnso => first | k_is | rfl)
    (case cnso => first | k_is | rfl)
    (case knso => first | k_is | rfl)
    (case anse => first | k_is | rfl)
    (case inse => first | k_is | rfl)
    (case lnse => first | k_is | rfl)
    (case cnse => first | k_is | rfl)
    (case knse => first | k_is | rfl)
    (case aunf => first | k_is | rfl)
    (case iunf => first | k_is | rfl)
    (case lunf => first | k_is | rfl)
    (case cunf => first | k_is | rfl)
    (case kunf => first | k_is | rfl)
    (case ardy => first | k_is | rfl)
    (case irdy => first | k_is | rfl)
    (case lrdy => first | k_is | rfl)
    (case crdy => first | k_is | rfl)
    (case krdy => first | k_is | rfl)
    (case anfy => first | k_is | rfl)
    (case infy => first | k_is | rfl)
    (case lnfy => first | k_is | rfl)
    (case cnfy => first | k_is | rfl)
    (case knfy => first | k_is | rfl)
    (case aarr => first | k_is | rfl)
    (case iarr => first | k_is | rfl)
    (case larr => first | k_is | rfl)
    (case carr => first | k_is | rfl)
    (case karr => first | k_is | rfl)
    (case Larr => first | k_is | rfl)
    (case ard => first | k_is | rfl)
    (case ird => first | k_is | rfl)
    (case lrd => first | k_is | rfl)
    (case crd => first | k_is | rfl)
    (case krd => first | k_is | rfl)
    (case Lrd => first | k_is | rfl)
    (case aadd => first | k_is | rfl)
    (case iadd => first | k_is | rfl)
    (case ladd => first | k_is | rfl)
    (case cadd => first | k_is | rfl)
    (case kadd => first | k_is | rfl)
    (case wadd0 => first | k_is | rfl)
    (case achg => first | k_is | rfl)
    (case ichg => first | k_is | rfl)
    (case lchg => first | k_is | rfl)
    (case cchg => first | k_is | rfl)
    (case kchg => first | k_is | rfl)
    (case awai => first | k_is | rfl)
    (case iwai => first | k_is | rfl)
    (case lwai => first | k_is | rfl)
    (case cwai => first | k_is | rfl)
    (case kwai => first | k_is | rfl)
    (case Lwai => first | k_is | rfl)
    (case atng => first | k_is | rfl)
    (case itng => first | k_is | rfl)
    (case ltng => first | k_is | rfl)
    (case ctng => first | k_is | rfl)
    (case ktng => first | k_is | rfl)
    (case anof => first | k_is | rfl)
    (case inof => first | k_is | rfl)
    (case lnof => first | k_is | rfl)
    (case cnof => first | k_is | rfl)
    (case knof => first | k_is | rfl)
    (case anam => first | k_is | rfl)
    (case inam => first | k_is | rfl)
    (case lnam => first | k_is | rfl)
    (case cnam => first | k_is | rfl)
    (case knam => first | k_is | rfl)
    (case areg => first | k_is | rfl)
    (case ireg => first | k_is | rfl)
    (case lreg => first | k_is | rfl)
    (case creg => first | k_is | rfl)
    (case kreg => first | k_is | rfl)
    (case z_len => first | k_is | rfl)
    (case z_enumerate => first | k_is | rfl)
    (case z_int => first | k_is | rfl)
    (case z_abs => first | k_is | rfl)
    (case z_isinstance => first | k_is | rfl)
    (case z_bool => first | k_is | rfl)
    (case z_list => first | k_is | rfl)
    (case z_min => first | k_is | rfl)
    (case z_max => first | k_is | rfl)
    (case z_range => first | k_is | rfl)
    (case z_sorted => first | k_is | rfl)
    (case wA => first | k_is | rfl)
    (case LW0 => first | k_is | rfl)
    (case gMC => first | k_is | rfl)
    (case gML => first | k_is | rfl)
    (case gLP => first | k_is | rfl)
    (case gLN => first | k_is | rfl)
    (case gMP => first | k_is | rfl)
    (case sMP => first | k_is | rfl)
    (case gMN => first | k_is | rfl)
    (case sMN => first | k_is | rfl)

import PyProof.Rows.All
import Wide.All
import OpenK.AllK
import Wide.FinOn
import HandS.ForMost
import HandS.Wide
import HandS.Evl
import HandS.Walk
import HandS.NoneIn
import HandS.IsInst
import HandS.More
import HandS.Defaults
import HandS.MakeKwOnly
import HandS.Conv
import HandS.Style
import HandS.OwnEq
import HandS.DictComp
import HandS.ExcInit
import HandS.ExcField
import HandS.ExcOwn
import KE.KExcInit
import KE.KExcIs
import HandS.FStr
import HandS.WordsExc
import HandS.ExcIs
import HandS.FStrTup
import HandS.RaiseMore
import HandS.Lambda
import HandS.EndTab
import HandS.TryMany
import HandS.Flow
import HandS.Sort
import PyProof.ReprLen
import PyProof.FitsInt
import PyProof.ReprHeads
import HandS.MethStar
import HandS.SortInts
import HandS.DeepEq
import KE.DataEq
import HandS.CallLocal
import HandS.Star
import HandS.TupLen
import KE.KStateDown
import HandS.Words
import HandS.HeadHook2
import HandS.HeadEnd
import HandS.HeadWalk
import HandS.Head0
import HandS.Head1
import HandS.Head2
import KE.KNestM
import PySem.Challenge.RW_waitnumbers_k08_numbers_used_again
set_option Elab.async false
set_option linter.all false
set_option maxRecDepth 100000
set_option maxHeartbeats 4000000
namespace Wn
open PySem PySem.Spec PyProof.Rows L2 Evl
def top (i : Nat) : Stmt := PySem.Challenge.pw_waitnumbers_k08_numbers_used_again.main.body.getD i (.Pass ⟨0, 0, 0, 0⟩)
def clsBody : Stmt → List Stmt
  | .ClassDef _ _ _ b _ _ _ _ _ _ _ => b
  | _ => []
def meth (i j : Nat) : Stmt := (clsBody (top i)).getD j (.Pass ⟨0, 0, 0, 0⟩)
abbrev sIsInteger : Stmt := top 21
abbrev sIsBetween : Stmt := top 22
abbrev sIsCount : Stmt := top 23
abbrev sIsLabel : Stmt := top 24
abbrev sIsWord : Stmt := top 25
abbrev sRegInit : Stmt := meth 27 0
abbrev sWsInit : Stmt := meth 28 0
abbrev sLabelOf : Stmt := meth 28 2
abbrev sPut : Stmt := meth 28 3
abbrev sAppend : Stmt := meth 28 4
abbrev sNotice : Stmt := meth 28 7
abbrev sReports : Stmt := meth 28 8
abbrev sSettle : Stmt := meth 28 9
abbrev sSysInit : Stmt := meth 32 2
abbrev sNewSource : Stmt := meth 32 4
abbrev sNewSet : Stmt := meth 32 5
abbrev sArrive : Stmt := meth 32 10
abbrev sRead : Stmt := meth 32 12
abbrev sAdd : Stmt := meth 32 13
abbrev sWait : Stmt := meth 32 16
abbrev sRowOf : Stmt := meth 32 24
abbrev sContains : Stmt := meth 32 30
abbrev sTableOf : Stmt := meth 32 32
abbrev sIsTabNum : Stmt := meth 32 33
abbrev sThingAt : Stmt := meth 32 34
abbrev sSourceAt : Stmt := meth 32 35
abbrev sSetAt : Stmt := meth 32 36
abbrev sFreeNum : Stmt := meth 32 37
abbrev sNewThing : Stmt := meth 32 39
abbrev sUnfinished : Stmt := meth 32 42
abbrev sIsReady : Stmt := meth 32 43
abbrev sNotify : Stmt := meth 32 45
abbrev sDrop : Stmt := meth 28 5
abbrev sChange : Stmt := meth 32 14
abbrev sRemove : Stmt := meth 32 15
abbrev sThings : Stmt := meth 32 46
abbrev sNumbersOf : Stmt := meth 32 47
abbrev sNameOf : Stmt := meth 32 48
abbrev sRegistrations : Stmt := meth 32 23
abbrev sDropSource : Stmt := meth 28 6
abbrev sEndThing : Stmt := meth 32 41
abbrev sNoProcessInit : Stmt := meth 2 0
abbrev sNotOpenInit : Stmt := meth 3 0
abbrev sNoNumberInit : Stmt := meth 4 0
abbrev sNotRegisteredInit : Stmt := meth 5 0
abbrev sNotASourceInit : Stmt := meth 6 0
abbrev sNotASetInit : Stmt := meth 7 0
abbrev sBadCountInit : Stmt := meth 8 0
abbrev sBadLabelInit : Stmt := meth 9 0
abbrev sBadWordInit : Stmt := meth 10 0
abbrev sFullInit : Stmt := meth 12 0
abbrev sFinishedInit : Stmt := meth 14 0
abbrev sRegisteredInit : Stmt := meth 15 0
abbrev sTakenInit : Stmt := meth 16 0
abbrev sNoRoomInit : Stmt := meth 13 0
abbrev sFork : Stmt := meth 32 8
abbrev sFreeProc : Stmt := meth 32 38
abbrev sFree : Stmt := meth 32 40
abbrev sClose : Stmt := meth 32 7
abbrev sCopy : Stmt := meth 32 6
abbrev sEnd : Stmt := meth 32 9
abbrev sFinish : Stmt := meth 32 11
abbrev sNumbers : Stmt := meth 32 17
abbrev sSame : Stmt := meth 32 18
abbrev sUnits : Stmt := meth 32 19
abbrev sBag : Stmt := top 34
abbrev sTake : Stmt := top 35
abbrev sOf : Stmt := top 36
abbrev sLen : Stmt := meth 32 28
abbrev sUnreached : Stmt := top 37
abbrev sRound : Stmt := top 38
abbrev sLawReports : Stmt := top 39
abbrev sDropped : Stmt := top 40
abbrev sLaw : Stmt := top 41
/-! facts of the top, looked up by one kernel run: each fact a test of a part of the heap behind the top -/
abbrev Ck : Type := PySem.W.Frag → Bool
/-- an own error's class -/
def slotB (newId : String) : List (Option Value) → Bool
  | [_, _, _, _, some (.builtin n), _] => decide (n = newId)
  | _ => false
theorem slotB_ok {newId : String} {l : List (Option Value)} (h : slotB newId l = true) : ∃ k0 k1 k2 k3 k5, l = [k0, k1, k2, k3, some (.builtin newId), k5] := by
  unfold slotB at h
  split at h
  · rename_i k0 k1 k2 k3 n k5
    obtain rfl := of_decide_eq_true h
    exact ⟨k0, k1, k2, k3, k5, rfl⟩
  · cases h
def excB (K : PySem.W.Frag) (C : Addr) (bm : List Value) (newId : String) : Bool := match K.lookup C with
  | some ⟨.type t, _, .cls cd, sl⟩ => decide (t = "type") && (decide (cd.mro = .ref C :: bm) && (cd.hasDict && (!cd.hasDel && slotB newId sl.toList)))
  | _ => false
theorem excB_ok {K : PySem.W.Frag} {C : Addr} {bm : List Value} {newId : String} (h : excB K C bm newId = true) :
    ∃ nm q N bs sn sub ab col dd k0 k1 k2 k3 k5, K.lookup C = some (excClassObj nm q C N bs bm true sn sub ab col dd k0 k1 k2 k3 k5 newId) := by
  unfold excB at h
  cases e : K.lookup C with
  | none => rw [e] at h; cases h
  | some o =>
    obtain ⟨oc, od, dt, sl⟩ := o
    rw [e] at h
    cases oc with
    | type t =>
      cases dt with
      | cls cd =>
        obtain ⟨nm, bs, mro, ns, qn, hd, sn, sb, ab, col, del⟩ := cd
        obtain ⟨l⟩ := sl
        have h : (decide (t = "type") && (decide (mro = .ref C :: bm) && (hd && (!del && slotB newId l)))) = true := h
        simp only [Bool.and_eq_true, decide_eq_true_eq, Bool.not_eq_true'] at h
        obtain ⟨rfl, rfl, rfl, rfl, h5⟩ := h
        obtain ⟨k0, k1, k2, k3, k5, rfl⟩ := slotB_ok h5
        exact ⟨_, _, _, _, _, _, _, _, _, k0, k1, k2, k3, k5, rfl⟩
      | _ => cases h
    | _ => cases dt <;> cases h
/-- an int among the module's names, among a class's -/
def intB (o : Option (Option Value)) (i : Int) : Bool := match o with
  | some (some (.int j _)) => decide (j = i)
  | _ => false
theorem intB_ok {o : Option (Option Value)} {i : Int} (h : intB o i = true) : ∃ t, o = some (some (.int i t)) := by
  unfold intB at h
  split at h
  · rename_i j t
    obtain rfl := of_decide_eq_true h
    exact ⟨t, rfl⟩
  · cases h
def atB (K : PySem.W.Frag) (o : Option (Option Value)) (i : Int) : Bool := match o with
  | some (some (.int j t)) => decide (j = i) && decide (PySem.W.specialIn K (.int j t) "__get__" = some none)
  | _ => false
theorem atB_ok {K : PySem.W.Frag} {o : Option (Option Value)} {i : Int} (h : atB K o i = true) : ∃ t, o = some (some (.int i t)) ∧ PySem.W.specialIn K (.int i t) "__get__" = some none := by
  unfold atB at h
  split at h
  · rename_i j t
    simp only [Bool.and_eq_true, decide_eq_true_eq] at h
    obtain ⟨rfl, h2⟩ := h
    exact ⟨t, rfl, h2⟩
  · cases h
/-- a def's code, a code's table -/
def cdV (K : PySem.W.Frag) (f : Addr) : Option Value := match K.lookup f with
  | some ⟨_, _, .func fd, _⟩ => some fd.code
  | _ => none
def cdA (K : PySem.W.Frag) (f : Addr) : Addr := match cdV K f with
  | some (.ref c) => c
  | _ => 0
def ptA (K : PySem.W.Frag) (f : Addr) : Addr := match K.lookup (cdA K f) with
  | some ⟨_, _, .fields vs, _⟩ => (match vs.toList with
    | [_, _, _, _, _, _, _, _, _, _, _, .ref P] => P
    | _ :: _ :: _ :: _ :: _ :: _ :: _ :: _ :: _ :: _ :: _ :: .ref P :: _ => P
    | _ => 0)
  | _ => 0
/-- the texts of a tuple -/
def litB (x y z : Str) : List Value → Bool
  | [.str b _, .str c _, .str d _] => decide (b = x) && (decide (c = y) && decide (d = z))
  | _ => false
theorem litB_ok {x y z : Str} {l : List Value} (h : litB x y z l = true) : ∃ t0 t1 t2, l = [.str x t0, .str y t1, .str z t2] := by
  unfold litB at h
  split at h
  · rename_i b t0 c t1 d t2
    simp only [Bool.and_eq_true, decide_eq_true_eq] at h
    obtain ⟨rfl, rfl, rfl⟩ := h
    exact ⟨t0, t1, t2, rfl⟩
  · cases h
def txtB (K : PySem.W.Frag) (a : Addr) (x y z : Str) : Bool := match K.lookup a with
  | some ⟨.type t, _, .seq its _, _⟩ => decide (t = "tuple") && litB x y z its.toList
  | _ => false
theorem txtB_ok {K : PySem.W.Frag} {a : Addr} {x y z : Str} (h : txtB K a x y z = true) : ∃ dW t0 t1 t2 nW sW, K.lookup a = some ⟨.type "tuple", dW, .seq #[.str x t0, .str y t1, .str z t2] nW, sW⟩ := by
  unfold txtB at h
  cases e : K.lookup a with
  | none => rw [e] at h; cases h
  | some o =>
    obtain ⟨oc, od, dt, sl⟩ := o
    rw [e] at h
    cases oc with
    | type t =>
      cases dt with
      | seq its n =>
        obtain ⟨l⟩ := its
        have h : (decide (t = "tuple") && litB x y z l) = true := h
        simp only [Bool.and_eq_true, decide_eq_true_eq] at h
        obtain ⟨rfl, h2⟩ := h
        obtain ⟨t0, t1, t2, rfl⟩ := litB_ok h2
        exact ⟨_, t0, t1, t2, _, _, rfl⟩
      | _ => cases h
    | _ => cases dt <;> cases h
def clsB (o : Option PySem.W.CFound) (m : String) : Bool := match o with
  | some (.val (.builtin n)) => decide (n = m)
  | _ => false
theorem clsB_ok {o : Option PySem.W.CFound} {m : String} (h : clsB o m = true) : o = some (.val (.builtin m)) := by
  unfold clsB at h
  split at h
  · rename_i n
    obtain rfl := of_decide_eq_true h
    rfl
  · cases h
/-! a def that stands anywhere: a property's getter -/
def gtA (K : PySem.W.Frag) (p : Addr) : Addr := match PySem.W.recIn K p "property" with
  | some (.ref g :: _) => g
  | _ => 0
def gtB (K : PySem.W.Frag) (p : Addr) : Bool := match PySem.W.recIn K p "property" with
  | some (.ref _ :: _) => true
  | _ => false
/-- an int that is read off a class -/
def cvB (o : Option PySem.W.CFound) (i : Int) : Bool := match o with
  | some (.val (.int j _)) => decide (j = i)
  | _ => false
structure DefX where
  ad : PySem.W.Frag → Addr
  d : He.DefD
def fnX (K : PySem.W.Frag) (x : DefX) : He.FnW := match K.lookup (x.ad K) with
  | some ⟨_, _, .func fd, _⟩ => some (fd.name, fd.qualname, fd.params, fd.body, fd.scope, fd.globals, fd.closure, fd.builtins)
  | _ => none
def DefX.ok (K : PySem.W.Frag) (x : DefX) : Bool := PySem.W.keepIn K (.ref (x.ad K)) && (match K.lookup (x.ad K) with
  | some ⟨_, _, .func fd, _⟩ => PySem.W.codeIn K fd.code x.d.qual && (He.dflB K fd.defaults (x.d.dvs K) && He.kwdB K fd.kwdefaults (x.d.kws K))
  | _ => false)
/-! the Hook -/
abbrev Tb : Type := PySem.W.Frag → Addr
def frB (g : Addr → Option Obj) (n : Nat) (ex : PySem.W.Frag → List Addr) (tb : Option Tb) : PySem.W.Frag :=
  let as0 := He.asD g n ++ [cStatics]
  let K0 := He.frG g as0
  let as1 := as0 ++ (ex K0).flatMap fun a => a :: (match g a with
    | some o => He.refsD o
    | none => [])
  match tb with
  | none => He.frG g as1
  | some f => He.frG g (as1.filter fun a => a != f K0)
theorem frB_in {h : Heap} {n : Nat} {ex : PySem.W.Frag → List Addr} {tb : Option Tb} : (frB h.get? n ex tb).In h := by
  cases tb with
  | none => exact He.frG_in
  | some f => exact He.frG_in
def valX (fn : List He.DefD) (fx : List DefX) : He.AlD := (true, fn.map He.DefD.val ++ fx.map fun x => x.d.val)
def obsK (cs : List Ck) (fn : List He.DefD) (fx : List DefX) (K : PySem.W.Frag) : He.AlD := ((cs.all fun c => c K) && ((fn.all fun d => d.ok K) && fx.all fun x => x.ok K), (fn.map fun d => He.fnW K d.at_) ++ fx.map fun x => fnX K x)
def obsB (n : Nat) (ex : PySem.W.Frag → List Addr) (cs : List Ck) (fn : List He.DefD) (fx : List DefX) (tb : Option Tb) (g : Addr → Option Obj) : He.AlD × Option Obj := (obsK cs fn fx (frB g n ex tb), match tb with
  | none => none
  | some f => g (f (frB g n ex tb)))
def valB (fn : List He.DefD) (fx : List DefX) : Option Tb → He.AlD × Option Obj
  | none => (valX fn fx, none)
  | some _ => (valX fn fx, some (PySem.W.tabObj #[]))
def SaysB (cs : List Ck) (fn : List He.DefD) (fx : List DefX) (K : PySem.W.Frag) : Prop := obsK cs fn fx K = valX fn fx
def hookB (n : Nat) (ex : PySem.W.Frag → List Addr) (cs : List Ck) (fn : List He.DefD) (fx : List DefX) (tb : Option Tb) : PySem.W.Hook where
  α := He.AlD × Option Obj
  obs := fun s => obsB n ex cs fn fx tb s.heap.get?
  val := fun _ => valB fn fx tb
  says := fun _ h => ∃ K : PySem.W.Frag, K.In h ∧ SaysB cs fn fx K ∧ ∀ f, tb = some f → h.get? (f K) = some (PySem.W.tabObj #[])
  of := fun _ s e => by
    refine ⟨frB s.heap.get? n ex tb, frB_in, ?_, fun f hf => ?_⟩
    · cases tb with
      | none => exact congrArg Prod.fst e
      | some f => exact congrArg Prod.fst e
    · subst hf
      exact congrArg Prod.snd e
  keeps := fun _ _ _ ⟨K, hK, c, ht⟩ k => ⟨K, PySem.W.Frag.In.keeps hK k, c, fun f hf => k _ _ (ht f hf)⟩
theorem obsB_eq {n : Nat} {ex : PySem.W.Frag → List Addr} {cs : List Ck} {fn : List He.DefD} {fx : List DefX} {tb : Option Tb} {g : Addr → Option Obj} {s : Shared} (h : ∀ a, g a = s.heap.get? a) : obsB n ex cs fn fx tb g = (hookB n ex cs fn fx tb).obs s := by
  have e : g = s.heap.get? := funext h
  rw [e] <;> rfl
section
variable {cs : List Ck} {fn : List He.DefD} {fx : List DefX} {K : PySem.W.Frag}
theorem SaysB.ck (c : SaysB cs fn fx K) (i : Nat) {f : Ck} (h : cs[i]? = some f) : f K = true := by
  have c1 := (He.ba (show ((cs.all fun f => f K) && ((fn.all fun d => d.ok K) && fx.all fun x => x.ok K)) = true from congrArg (fun z : He.AlD => z.1) c)).1
  exact List.all_eq_true.mp c1 f (List.mem_of_getElem? h)
theorem SaysB.split (c : SaysB cs fn fx K) : (fn.map fun d => He.fnW K d.at_) = fn.map He.DefD.val ∧ (fx.map fun x => fnX K x) = fx.map fun x => x.d.val := by
  have e : (fn.map fun d => He.fnW K d.at_) ++ (fx.map fun x => fnX K x) = fn.map He.DefD.val ++ fx.map fun x => x.d.val := congrArg (fun z : He.AlD => z.2) c
  exact List.append_inj e (by rw [List.length_map, List.length_map])
theorem SaysB.def_ (c : SaysB cs fn fx K) (i : Nat) {d : He.DefD} (h : fn[i]? = some d) : ∃ fd, FunD K d.name d.qual d.params d.body d.scope (d.dvs K) (d.kws K) (He.fAd K d.at_) fd := by
  have c2 := (He.ba (He.ba (show ((cs.all fun f => f K) && ((fn.all fun d => d.ok K) && fx.all fun x => x.ok K)) = true from congrArg (fun z : He.AlD => z.1) c)).2).1
  have e2 : (fn.map fun d => He.fnW K d.at_)[i]? = (fn.map He.DefD.val)[i]? := by rw [c.split.1]
  rw [List.getElem?_map, List.getElem?_map, h] at e2
  exact He.DefD.funD (Option.some.inj e2) (List.all_eq_true.mp c2 d (List.mem_of_getElem? h))
end
theorem fun_of {K : PySem.W.Frag} {x qual : Str} {st : Stmt} {f : Addr} {fd : FuncData} (F : FunD K x qual (defArgs st) (defBody st) (defScope st) [] [] f fd) : Fun K x qual st f fd := by
  obtain ⟨oc, od, dV, kV, doc, pm, an, cdv, ct, osl, e, lk, hc, hD, _⟩ := F.ex
  obtain rfl : dV = .none := by
    rcases hD with ⟨_, h⟩ | ⟨h, _⟩
    · exact h
    · exact absurd rfl h
  exact ⟨⟨oc, od, kV, doc, pm, an, cdv, ct, osl, e, lk, hc⟩, F.kp⟩

def ck0 : List Ck := [fun K => decide (PySem.W.nsIn K mainGlobals "System" = some (some (.ref (He.ga K "System")))),
  fun K => PySem.W.plainGet K (He.ga K "System") Str.empty,
  fun K => PySem.W.hasDictIn K (He.ga K "System"),
  fun K => PySem.W.plainOver K (He.ga K "System"),
  fun K => decide (PySem.W.findIn K (.ref (He.ga K "System")) "__setattr__" = some (some (.builtin "object.__setattr__"))),
  fun K => PySem.W.makesIn K (He.ga K "System"),
  fun K => PySem.W.keepIn K (.ref (He.ga K "System")),
  fun K => decide (PySem.W.findIn K (.ref (He.ga K "System")) "process_limit" = some none),
  fun K => decide (PySem.W.findIn K (.ref (He.ga K "System")) "number_limit" = some none),
  fun K => decide (PySem.W.findIn K (.ref (He.ga K "System")) "tables" = some none),
  fun K => decide (PySem.W.findIn K (.ref (He.ga K "System")) "sources" = some none),
  fun K => decide (PySem.W.findIn K (.ref (He.ga K "System")) "sets" = some none),
  fun K => decide (PySem.W.findIn K (.ref (He.ga K "System")) "next_thing" = some none),
  fun K => decide (PySem.W.nsIn K mainGlobals "WaitingSet" = some (some (.ref (He.ga K "WaitingSet")))),
  fun K => PySem.W.plainGet K (He.ga K "WaitingSet") Str.empty,
  fun K => PySem.W.hasDictIn K (He.ga K "WaitingSet"),
  fun K => PySem.W.plainOver K (He.ga K "WaitingSet"),
  fun K => decide (PySem.W.findIn K (.ref (He.ga K "WaitingSet")) "__setattr__" = some (some (.builtin "object.__setattr__"))),
  fun K => PySem.W.makesIn K (He.ga K "WaitingSet"),
  fun K => PySem.W.keepIn K (.ref (He.ga K "WaitingSet")),
  fun K => decide (PySem.W.findIn K (.ref (He.ga K "WaitingSet")) "entries" = some none),
  fun K => decide (PySem.W.findIn K (.ref (He.ga K "WaitingSet")) "queue" = some none),
  fun K => decide (PySem.W.nsIn K mainGlobals "Registration" = some (some (.ref (He.ga K "Registration")))),
  fun K => PySem.W.plainGet K (He.ga K "Registration") Str.empty,
  fun K => PySem.W.hasDictIn K (He.ga K "Registration"),
  fun K => PySem.W.plainOver K (He.ga K "Registration"),
  fun K => decide (PySem.W.findIn K (.ref (He.ga K "Registration")) "__setattr__" = some (some (.builtin "object.__setattr__"))),
  fun K => PySem.W.makesIn K (He.ga K "Registration"),
  fun K => PySem.W.keepIn K (.ref (He.ga K "Registration")),
  fun K => decide (PySem.W.findIn K (.ref (He.ga K "Registration")) "number" = some none)]
def ck1 : List Ck := [fun K => decide (PySem.W.findIn K (.ref (He.ga K "Registration")) "source" = some none),
  fun K => decide (PySem.W.findIn K (.ref (He.ga K "Registration")) "word" = some none),
  fun K => decide (PySem.W.findIn K (.ref (He.ga K "Registration")) "armed" = some none),
  fun K => decide ((He.ga K "WaitingSet") ≠ (He.ga K "Registration")),
  fun K => decide (PySem.W.nsIn K mainGlobals "NoProcess" = some (some (.ref (He.ga K "NoProcess")))),
  fun K => excB K (He.ga K "NoProcess") [.type "LookupError", .type "Exception", .type "BaseException", .type "object"] "LookupError.__new__",
  fun K => decide (PySem.W.findIn K (.ref (He.ga K "NoProcess")) "__setattr__" = some (some (.builtin "object.__setattr__"))),
  fun K => decide (PySem.W.findIn K (.ref (He.ga K "NoProcess")) "__getattribute__" = some (some (.builtin "BaseException.__getattribute__"))),
  fun K => decide (PySem.W.findIn K (.ref (He.ga K "NoProcess")) "__getattr__" = some none),
  fun K => decide (PySem.W.findIn K (.ref (He.ga K "NoProcess")) "process" = some none),
  fun K => clsB (PySem.W.findCls K (.type "LookupError") (.type "type") "__init__") "LookupError.__init__",
  fun K => PySem.W.keepIn K (.ref (He.ga K "NoProcess")),
  fun K => decide (PySem.W.subIn K (.ref (He.ga K "NoProcess")) (.type "BaseException") = some true),
  fun K => decide (PySem.W.typeIn K (.ref (He.ga K "NoProcess")) = some (.type "type")),
  fun K => PySem.W.hasDictIn K (He.ga K "NoProcess"),
  fun K => decide (PySem.W.exmOne K (.ref (He.ga K "NoProcess")) (.ref (He.ga K "NoProcess")) = some true),
  fun K => decide (PySem.W.findIn K (.ref (He.ga K "NoProcess")) "__class__" = some (some (.builtin "object.__class__"))),
  fun K => decide (PySem.W.mroIn K (He.ga K "NoProcess") (.type "object") = some true),
  fun K => (PySem.W.clsIn K (He.ga K "NoProcess")).isSome,
  fun K => decide (PySem.W.kitOne K (.ref (He.ga K "NoProcess")) (.type "LookupError") = some true),
  fun K => decide (PySem.W.specialIn K (.builtin "object.__class__") "__get__" = some (some (.builtin "getset_descriptor.__get__"))),
  fun K => decide (PySem.W.takesIn K (.builtin "object.__class__") = some true),
  fun K => decide (PySem.W.nsIn K mainGlobals "NotOpen" = some (some (.ref (He.ga K "NotOpen")))),
  fun K => excB K (He.ga K "NotOpen") [.type "LookupError", .type "Exception", .type "BaseException", .type "object"] "LookupError.__new__",
  fun K => decide (PySem.W.findIn K (.ref (He.ga K "NotOpen")) "__setattr__" = some (some (.builtin "object.__setattr__"))),
  fun K => decide (PySem.W.findIn K (.ref (He.ga K "NotOpen")) "__getattribute__" = some (some (.builtin "BaseException.__getattribute__"))),
  fun K => decide (PySem.W.findIn K (.ref (He.ga K "NotOpen")) "__getattr__" = some none),
  fun K => decide (PySem.W.findIn K (.ref (He.ga K "NotOpen")) "number" = some none),
  fun K => clsB (PySem.W.findCls K (.type "LookupError") (.type "type") "__init__") "LookupError.__init__",
  fun K => PySem.W.keepIn K (.ref (He.ga K "NotOpen"))]
def ck2 : List Ck := [fun K => decide (PySem.W.subIn K (.ref (He.ga K "NotOpen")) (.type "BaseException") = some true),
  fun K => decide (PySem.W.typeIn K (.ref (He.ga K "NotOpen")) = some (.type "type")),
  fun K => PySem.W.hasDictIn K (He.ga K "NotOpen"),
  fun K => decide (PySem.W.exmOne K (.ref (He.ga K "NotOpen")) (.ref (He.ga K "NotOpen")) = some true),
  fun K => decide (PySem.W.findIn K (.ref (He.ga K "NotOpen")) "__class__" = some (some (.builtin "object.__class__"))),
  fun K => decide (PySem.W.mroIn K (He.ga K "NotOpen") (.type "object") = some true),
  fun K => (PySem.W.clsIn K (He.ga K "NotOpen")).isSome,
  fun K => decide (PySem.W.kitOne K (.ref (He.ga K "NotOpen")) (.type "LookupError") = some true),
  fun K => decide (PySem.W.nsIn K mainGlobals "NoNumber" = some (some (.ref (He.ga K "NoNumber")))),
  fun K => excB K (He.ga K "NoNumber") [.type "LookupError", .type "Exception", .type "BaseException", .type "object"] "LookupError.__new__",
  fun K => decide (PySem.W.findIn K (.ref (He.ga K "NoNumber")) "__setattr__" = some (some (.builtin "object.__setattr__"))),
  fun K => decide (PySem.W.findIn K (.ref (He.ga K "NoNumber")) "__getattribute__" = some (some (.builtin "BaseException.__getattribute__"))),
  fun K => decide (PySem.W.findIn K (.ref (He.ga K "NoNumber")) "__getattr__" = some none),
  fun K => decide (PySem.W.findIn K (.ref (He.ga K "NoNumber")) "number" = some none),
  fun K => clsB (PySem.W.findCls K (.type "LookupError") (.type "type") "__init__") "LookupError.__init__",
  fun K => PySem.W.keepIn K (.ref (He.ga K "NoNumber")),
  fun K => decide (PySem.W.subIn K (.ref (He.ga K "NoNumber")) (.type "BaseException") = some true),
  fun K => decide (PySem.W.typeIn K (.ref (He.ga K "NoNumber")) = some (.type "type")),
  fun K => PySem.W.hasDictIn K (He.ga K "NoNumber"),
  fun K => decide (PySem.W.exmOne K (.ref (He.ga K "NoNumber")) (.ref (He.ga K "NoNumber")) = some true),
  fun K => decide (PySem.W.findIn K (.ref (He.ga K "NoNumber")) "__class__" = some (some (.builtin "object.__class__"))),
  fun K => decide (PySem.W.mroIn K (He.ga K "NoNumber") (.type "object") = some true),
  fun K => (PySem.W.clsIn K (He.ga K "NoNumber")).isSome,
  fun K => decide (PySem.W.kitOne K (.ref (He.ga K "NoNumber")) (.type "LookupError") = some true),
  fun K => decide (PySem.W.nsIn K mainGlobals "NotASource" = some (some (.ref (He.ga K "NotASource")))),
  fun K => excB K (He.ga K "NotASource") [.type "TypeError", .type "Exception", .type "BaseException", .type "object"] "TypeError.__new__",
  fun K => decide (PySem.W.findIn K (.ref (He.ga K "NotASource")) "__setattr__" = some (some (.builtin "object.__setattr__"))),
  fun K => decide (PySem.W.findIn K (.ref (He.ga K "NotASource")) "__getattribute__" = some (some (.builtin "BaseException.__getattribute__"))),
  fun K => decide (PySem.W.findIn K (.ref (He.ga K "NotASource")) "__getattr__" = some none),
  fun K => decide (PySem.W.findIn K (.ref (He.ga K "NotASource")) "number" = some none)]
def ck3 : List Ck := [fun K => clsB (PySem.W.findCls K (.type "TypeError") (.type "type") "__init__") "TypeError.__init__",
  fun K => PySem.W.keepIn K (.ref (He.ga K "NotASource")),
  fun K => decide (PySem.W.subIn K (.ref (He.ga K "NotASource")) (.type "BaseException") = some true),
  fun K => decide (PySem.W.typeIn K (.ref (He.ga K "NotASource")) = some (.type "type")),
  fun K => PySem.W.hasDictIn K (He.ga K "NotASource"),
  fun K => decide (PySem.W.exmOne K (.ref (He.ga K "NotASource")) (.ref (He.ga K "NotASource")) = some true),
  fun K => decide (PySem.W.findIn K (.ref (He.ga K "NotASource")) "__class__" = some (some (.builtin "object.__class__"))),
  fun K => decide (PySem.W.mroIn K (He.ga K "NotASource") (.type "object") = some true),
  fun K => (PySem.W.clsIn K (He.ga K "NotASource")).isSome,
  fun K => decide (PySem.W.kitOne K (.ref (He.ga K "NotASource")) (.type "TypeError") = some true),
  fun K => decide (PySem.W.nsIn K mainGlobals "NotASet" = some (some (.ref (He.ga K "NotASet")))),
  fun K => excB K (He.ga K "NotASet") [.type "TypeError", .type "Exception", .type "BaseException", .type "object"] "TypeError.__new__",
  fun K => decide (PySem.W.findIn K (.ref (He.ga K "NotASet")) "__setattr__" = some (some (.builtin "object.__setattr__"))),
  fun K => decide (PySem.W.findIn K (.ref (He.ga K "NotASet")) "__getattribute__" = some (some (.builtin "BaseException.__getattribute__"))),
  fun K => decide (PySem.W.findIn K (.ref (He.ga K "NotASet")) "__getattr__" = some none),
  fun K => decide (PySem.W.findIn K (.ref (He.ga K "NotASet")) "number" = some none),
  fun K => clsB (PySem.W.findCls K (.type "TypeError") (.type "type") "__init__") "TypeError.__init__",
  fun K => PySem.W.keepIn K (.ref (He.ga K "NotASet")),
  fun K => decide (PySem.W.subIn K (.ref (He.ga K "NotASet")) (.type "BaseException") = some true),
  fun K => decide (PySem.W.typeIn K (.ref (He.ga K "NotASet")) = some (.type "type")),
  fun K => PySem.W.hasDictIn K (He.ga K "NotASet"),
  fun K => decide (PySem.W.exmOne K (.ref (He.ga K "NotASet")) (.ref (He.ga K "NotASet")) = some true),
  fun K => decide (PySem.W.findIn K (.ref (He.ga K "NotASet")) "__class__" = some (some (.builtin "object.__class__"))),
  fun K => decide (PySem.W.mroIn K (He.ga K "NotASet") (.type "object") = some true),
  fun K => (PySem.W.clsIn K (He.ga K "NotASet")).isSome,
  fun K => decide (PySem.W.kitOne K (.ref (He.ga K "NotASet")) (.type "TypeError") = some true),
  fun K => decide (PySem.W.nsIn K mainGlobals "Full" = some (some (.ref (He.ga K "Full")))),
  fun K => excB K (He.ga K "Full") [.type "OverflowError", .type "ArithmeticError", .type "Exception", .type "BaseException", .type "object"] "OverflowError.__new__",
  fun K => decide (PySem.W.findIn K (.ref (He.ga K "Full")) "__setattr__" = some (some (.builtin "object.__setattr__"))),
  fun K => decide (PySem.W.findIn K (.ref (He.ga K "Full")) "__getattribute__" = some (some (.builtin "BaseException.__getattribute__")))]
def ck4 : List Ck := [fun K => decide (PySem.W.findIn K (.ref (He.ga K "Full")) "__getattr__" = some none),
  fun K => decide (PySem.W.findIn K (.ref (He.ga K "Full")) "process" = some none),
  fun K => clsB (PySem.W.findCls K (.type "OverflowError") (.type "type") "__init__") "OverflowError.__init__",
  fun K => PySem.W.keepIn K (.ref (He.ga K "Full")),
  fun K => decide (PySem.W.subIn K (.ref (He.ga K "Full")) (.type "BaseException") = some true),
  fun K => decide (PySem.W.typeIn K (.ref (He.ga K "Full")) = some (.type "type")),
  fun K => PySem.W.hasDictIn K (He.ga K "Full"),
  fun K => decide (PySem.W.exmOne K (.ref (He.ga K "Full")) (.ref (He.ga K "Full")) = some true),
  fun K => decide (PySem.W.findIn K (.ref (He.ga K "Full")) "__class__" = some (some (.builtin "object.__class__"))),
  fun K => decide (PySem.W.mroIn K (He.ga K "Full") (.type "object") = some true),
  fun K => (PySem.W.clsIn K (He.ga K "Full")).isSome,
  fun K => decide (PySem.W.kitOne K (.ref (He.ga K "Full")) (.type "OverflowError") = some true),
  fun K => decide (PySem.W.nsIn K mainGlobals "NoRoom" = some (some (.ref (He.ga K "NoRoom")))),
  fun K => excB K (He.ga K "NoRoom") [.type "OverflowError", .type "ArithmeticError", .type "Exception", .type "BaseException", .type "object"] "OverflowError.__new__",
  fun K => decide (PySem.W.findIn K (.ref (He.ga K "NoRoom")) "__setattr__" = some (some (.builtin "object.__setattr__"))),
  fun K => decide (PySem.W.findIn K (.ref (He.ga K "NoRoom")) "__getattribute__" = some (some (.builtin "BaseException.__getattribute__"))),
  fun K => decide (PySem.W.findIn K (.ref (He.ga K "NoRoom")) "__getattr__" = some none),
  fun K => clsB (PySem.W.findCls K (.type "OverflowError") (.type "type") "__init__") "OverflowError.__init__",
  fun K => PySem.W.keepIn K (.ref (He.ga K "NoRoom")),
  fun K => decide (PySem.W.subIn K (.ref (He.ga K "NoRoom")) (.type "BaseException") = some true),
  fun K => decide (PySem.W.typeIn K (.ref (He.ga K "NoRoom")) = some (.type "type")),
  fun K => PySem.W.hasDictIn K (He.ga K "NoRoom"),
  fun K => decide (PySem.W.exmOne K (.ref (He.ga K "NoRoom")) (.ref (He.ga K "NoRoom")) = some true),
  fun K => decide (PySem.W.findIn K (.ref (He.ga K "NoRoom")) "__class__" = some (some (.builtin "object.__class__"))),
  fun K => decide (PySem.W.mroIn K (He.ga K "NoRoom") (.type "object") = some true),
  fun K => (PySem.W.clsIn K (He.ga K "NoRoom")).isSome,
  fun K => decide (PySem.W.kitOne K (.ref (He.ga K "NoRoom")) (.type "OverflowError") = some true),
  fun K => decide (PySem.W.nsIn K mainGlobals "BadCount" = some (some (.ref (He.ga K "BadCount")))),
  fun K => excB K (He.ga K "BadCount") [.type "ValueError", .type "Exception", .type "BaseException", .type "object"] "ValueError.__new__",
  fun K => decide (PySem.W.findIn K (.ref (He.ga K "BadCount")) "__setattr__" = some (some (.builtin "object.__setattr__")))]
def ck5 : List Ck := [fun K => decide (PySem.W.findIn K (.ref (He.ga K "BadCount")) "__getattribute__" = some (some (.builtin "BaseException.__getattribute__"))),
  fun K => decide (PySem.W.findIn K (.ref (He.ga K "BadCount")) "__getattr__" = some none),
  fun K => decide (PySem.W.findIn K (.ref (He.ga K "BadCount")) "count" = some none),
  fun K => clsB (PySem.W.findCls K (.type "ValueError") (.type "type") "__init__") "ValueError.__init__",
  fun K => PySem.W.keepIn K (.ref (He.ga K "BadCount")),
  fun K => decide (PySem.W.subIn K (.ref (He.ga K "BadCount")) (.type "BaseException") = some true),
  fun K => decide (PySem.W.typeIn K (.ref (He.ga K "BadCount")) = some (.type "type")),
  fun K => PySem.W.hasDictIn K (He.ga K "BadCount"),
  fun K => decide (PySem.W.exmOne K (.ref (He.ga K "BadCount")) (.ref (He.ga K "BadCount")) = some true),
  fun K => decide (PySem.W.findIn K (.ref (He.ga K "BadCount")) "__class__" = some (some (.builtin "object.__class__"))),
  fun K => decide (PySem.W.mroIn K (He.ga K "BadCount") (.type "object") = some true),
  fun K => (PySem.W.clsIn K (He.ga K "BadCount")).isSome,
  fun K => decide (PySem.W.kitOne K (.ref (He.ga K "BadCount")) (.type "ValueError") = some true),
  fun K => decide (PySem.W.nsIn K mainGlobals "BadLabel" = some (some (.ref (He.ga K "BadLabel")))),
  fun K => excB K (He.ga K "BadLabel") [.type "ValueError", .type "Exception", .type "BaseException", .type "object"] "ValueError.__new__",
  fun K => decide (PySem.W.findIn K (.ref (He.ga K "BadLabel")) "__setattr__" = some (some (.builtin "object.__setattr__"))),
  fun K => decide (PySem.W.findIn K (.ref (He.ga K "BadLabel")) "__getattribute__" = some (some (.builtin "BaseException.__getattribute__"))),
  fun K => decide (PySem.W.findIn K (.ref (He.ga K "BadLabel")) "__getattr__" = some none),
  fun K => decide (PySem.W.findIn K (.ref (He.ga K "BadLabel")) "label" = some none),
  fun K => clsB (PySem.W.findCls K (.type "ValueError") (.type "type") "__init__") "ValueError.__init__",
  fun K => PySem.W.keepIn K (.ref (He.ga K "BadLabel")),
  fun K => decide (PySem.W.subIn K (.ref (He.ga K "BadLabel")) (.type "BaseException") = some true),
  fun K => decide (PySem.W.typeIn K (.ref (He.ga K "BadLabel")) = some (.type "type")),
  fun K => PySem.W.hasDictIn K (He.ga K "BadLabel"),
  fun K => decide (PySem.W.exmOne K (.ref (He.ga K "BadLabel")) (.ref (He.ga K "BadLabel")) = some true),
  fun K => decide (PySem.W.findIn K (.ref (He.ga K "BadLabel")) "__class__" = some (some (.builtin "object.__class__"))),
  fun K => decide (PySem.W.mroIn K (He.ga K "BadLabel") (.type "object") = some true),
  fun K => (PySem.W.clsIn K (He.ga K "BadLabel")).isSome,
  fun K => decide (PySem.W.kitOne K (.ref (He.ga K "BadLabel")) (.type "ValueError") = some true),
  fun K => decide (PySem.W.nsIn K mainGlobals "BadWord" = some (some (.ref (He.ga K "BadWord"))))]
def ck6 : List Ck := [fun K => excB K (He.ga K "BadWord") [.type "ValueError", .type "Exception", .type "BaseException", .type "object"] "ValueError.__new__",
  fun K => decide (PySem.W.findIn K (.ref (He.ga K "BadWord")) "__setattr__" = some (some (.builtin "object.__setattr__"))),
  fun K => decide (PySem.W.findIn K (.ref (He.ga K "BadWord")) "__getattribute__" = some (some (.builtin "BaseException.__getattribute__"))),
  fun K => decide (PySem.W.findIn K (.ref (He.ga K "BadWord")) "__getattr__" = some none),
  fun K => decide (PySem.W.findIn K (.ref (He.ga K "BadWord")) "word" = some none),
  fun K => clsB (PySem.W.findCls K (.type "ValueError") (.type "type") "__init__") "ValueError.__init__",
  fun K => PySem.W.keepIn K (.ref (He.ga K "BadWord")),
  fun K => decide (PySem.W.subIn K (.ref (He.ga K "BadWord")) (.type "BaseException") = some true),
  fun K => decide (PySem.W.typeIn K (.ref (He.ga K "BadWord")) = some (.type "type")),
  fun K => PySem.W.hasDictIn K (He.ga K "BadWord"),
  fun K => decide (PySem.W.exmOne K (.ref (He.ga K "BadWord")) (.ref (He.ga K "BadWord")) = some true),
  fun K => decide (PySem.W.findIn K (.ref (He.ga K "BadWord")) "__class__" = some (some (.builtin "object.__class__"))),
  fun K => decide (PySem.W.mroIn K (He.ga K "BadWord") (.type "object") = some true),
  fun K => (PySem.W.clsIn K (He.ga K "BadWord")).isSome,
  fun K => decide (PySem.W.kitOne K (.ref (He.ga K "BadWord")) (.type "ValueError") = some true),
  fun K => decide (PySem.W.nsIn K mainGlobals "Finished" = some (some (.ref (He.ga K "Finished")))),
  fun K => excB K (He.ga K "Finished") [.type "RuntimeError", .type "Exception", .type "BaseException", .type "object"] "RuntimeError.__new__",
  fun K => decide (PySem.W.findIn K (.ref (He.ga K "Finished")) "__setattr__" = some (some (.builtin "object.__setattr__"))),
  fun K => decide (PySem.W.findIn K (.ref (He.ga K "Finished")) "__getattribute__" = some (some (.builtin "BaseException.__getattribute__"))),
  fun K => decide (PySem.W.findIn K (.ref (He.ga K "Finished")) "__getattr__" = some none),
  fun K => decide (PySem.W.findIn K (.ref (He.ga K "Finished")) "number" = some none),
  fun K => clsB (PySem.W.findCls K (.type "RuntimeError") (.type "type") "__init__") "RuntimeError.__init__",
  fun K => PySem.W.keepIn K (.ref (He.ga K "Finished")),
  fun K => decide (PySem.W.subIn K (.ref (He.ga K "Finished")) (.type "BaseException") = some true),
  fun K => decide (PySem.W.typeIn K (.ref (He.ga K "Finished")) = some (.type "type")),
  fun K => PySem.W.hasDictIn K (He.ga K "Finished"),
  fun K => decide (PySem.W.exmOne K (.ref (He.ga K "Finished")) (.ref (He.ga K "Finished")) = some true),
  fun K => decide (PySem.W.findIn K (.ref (He.ga K "Finished")) "__class__" = some (some (.builtin "object.__class__"))),
  fun K => decide (PySem.W.mroIn K (He.ga K "Finished") (.type "object") = some true),
  fun K => (PySem.W.clsIn K (He.ga K "Finished")).isSome]
def ck7 : List Ck := [fun K => decide (PySem.W.kitOne K (.ref (He.ga K "Finished")) (.type "RuntimeError") = some true),
  fun K => decide (PySem.W.nsIn K mainGlobals "Registered" = some (some (.ref (He.ga K "Registered")))),
  fun K => excB K (He.ga K "Registered") [.type "RuntimeError", .type "Exception", .type "BaseException", .type "object"] "RuntimeError.__new__",
  fun K => decide (PySem.W.findIn K (.ref (He.ga K "Registered")) "__setattr__" = some (some (.builtin "object.__setattr__"))),
  fun K => decide (PySem.W.findIn K (.ref (He.ga K "Registered")) "__getattribute__" = some (some (.builtin "BaseException.__getattribute__"))),
  fun K => decide (PySem.W.findIn K (.ref (He.ga K "Registered")) "__getattr__" = some none),
  fun K => decide (PySem.W.findIn K (.ref (He.ga K "Registered")) "number" = some none),
  fun K => clsB (PySem.W.findCls K (.type "RuntimeError") (.type "type") "__init__") "RuntimeError.__init__",
  fun K => PySem.W.keepIn K (.ref (He.ga K "Registered")),
  fun K => decide (PySem.W.subIn K (.ref (He.ga K "Registered")) (.type "BaseException") = some true),
  fun K => decide (PySem.W.typeIn K (.ref (He.ga K "Registered")) = some (.type "type")),
  fun K => PySem.W.hasDictIn K (He.ga K "Registered"),
  fun K => decide (PySem.W.exmOne K (.ref (He.ga K "Registered")) (.ref (He.ga K "Registered")) = some true),
  fun K => decide (PySem.W.findIn K (.ref (He.ga K "Registered")) "__class__" = some (some (.builtin "object.__class__"))),
  fun K => decide (PySem.W.mroIn K (He.ga K "Registered") (.type "object") = some true),
  fun K => (PySem.W.clsIn K (He.ga K "Registered")).isSome,
  fun K => decide (PySem.W.kitOne K (.ref (He.ga K "Registered")) (.type "RuntimeError") = some true),
  fun K => decide (PySem.W.nsIn K mainGlobals "Taken" = some (some (.ref (He.ga K "Taken")))),
  fun K => excB K (He.ga K "Taken") [.type "RuntimeError", .type "Exception", .type "BaseException", .type "object"] "RuntimeError.__new__",
  fun K => decide (PySem.W.findIn K (.ref (He.ga K "Taken")) "__setattr__" = some (some (.builtin "object.__setattr__"))),
  fun K => decide (PySem.W.findIn K (.ref (He.ga K "Taken")) "__getattribute__" = some (some (.builtin "BaseException.__getattribute__"))),
  fun K => decide (PySem.W.findIn K (.ref (He.ga K "Taken")) "__getattr__" = some none),
  fun K => decide (PySem.W.findIn K (.ref (He.ga K "Taken")) "label" = some none),
  fun K => clsB (PySem.W.findCls K (.type "RuntimeError") (.type "type") "__init__") "RuntimeError.__init__",
  fun K => PySem.W.keepIn K (.ref (He.ga K "Taken")),
  fun K => decide (PySem.W.subIn K (.ref (He.ga K "Taken")) (.type "BaseException") = some true),
  fun K => decide (PySem.W.typeIn K (.ref (He.ga K "Taken")) = some (.type "type")),
  fun K => PySem.W.hasDictIn K (He.ga K "Taken"),
  fun K => decide (PySem.W.exmOne K (.ref (He.ga K "Taken")) (.ref (He.ga K "Taken")) = some true),
  fun K => decide (PySem.W.findIn K (.ref (He.ga K "Taken")) "__class__" = some (some (.builtin "object.__class__")))]
def ck8 : List Ck := [fun K => decide (PySem.W.mroIn K (He.ga K "Taken") (.type "object") = some true),
  fun K => (PySem.W.clsIn K (He.ga K "Taken")).isSome,
  fun K => decide (PySem.W.kitOne K (.ref (He.ga K "Taken")) (.type "RuntimeError") = some true),
  fun K => decide (PySem.W.nsIn K mainGlobals "NotRegistered" = some (some (.ref (He.ga K "NotRegistered")))),
  fun K => excB K (He.ga K "NotRegistered") [.type "LookupError", .type "Exception", .type "BaseException", .type "object"] "LookupError.__new__",
  fun K => decide (PySem.W.findIn K (.ref (He.ga K "NotRegistered")) "__setattr__" = some (some (.builtin "object.__setattr__"))),
  fun K => decide (PySem.W.findIn K (.ref (He.ga K "NotRegistered")) "__getattribute__" = some (some (.builtin "BaseException.__getattribute__"))),
  fun K => decide (PySem.W.findIn K (.ref (He.ga K "NotRegistered")) "__getattr__" = some none),
  fun K => decide (PySem.W.findIn K (.ref (He.ga K "NotRegistered")) "number" = some none),
  fun K => clsB (PySem.W.findCls K (.type "LookupError") (.type "type") "__init__") "LookupError.__init__",
  fun K => PySem.W.keepIn K (.ref (He.ga K "NotRegistered")),
  fun K => decide (PySem.W.subIn K (.ref (He.ga K "NotRegistered")) (.type "BaseException") = some true),
  fun K => decide (PySem.W.typeIn K (.ref (He.ga K "NotRegistered")) = some (.type "type")),
  fun K => PySem.W.hasDictIn K (He.ga K "NotRegistered"),
  fun K => decide (PySem.W.exmOne K (.ref (He.ga K "NotRegistered")) (.ref (He.ga K "NotRegistered")) = some true),
  fun K => decide (PySem.W.findIn K (.ref (He.ga K "NotRegistered")) "__class__" = some (some (.builtin "object.__class__"))),
  fun K => decide (PySem.W.mroIn K (He.ga K "NotRegistered") (.type "object") = some true),
  fun K => (PySem.W.clsIn K (He.ga K "NotRegistered")).isSome,
  fun K => decide (PySem.W.kitOne K (.ref (He.ga K "NotRegistered")) (.type "LookupError") = some true),
  fun K => decide (PySem.W.nsIn K mainGlobals "is_integer" = some (some (.ref (He.ga K "is_integer")))),
  fun K => PySem.W.keepIn K (.ref (He.ga K "is_integer")),
  fun K => decide (PySem.W.nsIn K mainGlobals "is_between" = some (some (.ref (He.ga K "is_between")))),
  fun K => PySem.W.keepIn K (.ref (He.ga K "is_between")),
  fun K => decide (PySem.W.nsIn K mainGlobals "is_count" = some (some (.ref (He.ga K "is_count")))),
  fun K => PySem.W.keepIn K (.ref (He.ga K "is_count")),
  fun K => decide (PySem.W.nsIn K mainGlobals "is_label" = some (some (.ref (He.ga K "is_label")))),
  fun K => PySem.W.keepIn K (.ref (He.ga K "is_label")),
  fun K => decide (PySem.W.nsIn K mainGlobals "is_word" = some (some (.ref (He.ga K "is_word")))),
  fun K => PySem.W.keepIn K (.ref (He.ga K "is_word")),
  fun K => decide (PySem.W.nsIn K mainGlobals "_law_bag" = some (some (.ref (He.ga K "_law_bag"))))]
def ck9 : List Ck := [fun K => PySem.W.keepIn K (.ref (He.ga K "_law_bag")),
  fun K => decide (PySem.W.nsIn K mainGlobals "_law_take" = some (some (.ref (He.ga K "_law_take")))),
  fun K => PySem.W.keepIn K (.ref (He.ga K "_law_take")),
  fun K => decide (PySem.W.nsIn K mainGlobals "_law_of" = some (some (.ref (He.ga K "_law_of")))),
  fun K => PySem.W.keepIn K (.ref (He.ga K "_law_of")),
  fun K => decide (PySem.W.nsIn K mainGlobals "_law_unreached" = some (some (.ref (He.ga K "_law_unreached")))),
  fun K => PySem.W.keepIn K (.ref (He.ga K "_law_unreached")),
  fun K => decide (PySem.W.nsIn K mainGlobals "_law_round" = some (some (.ref (He.ga K "_law_round")))),
  fun K => PySem.W.keepIn K (.ref (He.ga K "_law_round")),
  fun K => decide (PySem.W.nsIn K mainGlobals "_law_reports" = some (some (.ref (He.ga K "_law_reports")))),
  fun K => PySem.W.keepIn K (.ref (He.ga K "_law_reports")),
  fun K => decide (PySem.W.nsIn K mainGlobals "_law_dropped" = some (some (.ref (He.ga K "_law_dropped")))),
  fun K => PySem.W.keepIn K (.ref (He.ga K "_law_dropped")),
  fun K => decide (PySem.W.nsIn K mainGlobals "law" = some (some (.ref (He.ga K "law")))),
  fun K => PySem.W.keepIn K (.ref (He.ga K "law")),
  fun K => decide (PySem.W.findIn K (.ref (He.ga K "NoProcess")) "__init__" = some (some (.ref (He.ma K (He.ga K "NoProcess") "__init__")))),
  fun K => PySem.W.isFn K (.ref (He.ma K (He.ga K "NoProcess") "__init__")),
  fun K => PySem.W.keepIn K (.ref (He.ma K (He.ga K "NoProcess") "__init__")),
  fun K => decide (PySem.W.findIn K (.ref (He.ga K "NotOpen")) "__init__" = some (some (.ref (He.ma K (He.ga K "NotOpen") "__init__")))),
  fun K => PySem.W.isFn K (.ref (He.ma K (He.ga K "NotOpen") "__init__")),
  fun K => PySem.W.keepIn K (.ref (He.ma K (He.ga K "NotOpen") "__init__")),
  fun K => decide (PySem.W.findIn K (.ref (He.ga K "NoNumber")) "__init__" = some (some (.ref (He.ma K (He.ga K "NoNumber") "__init__")))),
  fun K => PySem.W.isFn K (.ref (He.ma K (He.ga K "NoNumber") "__init__")),
  fun K => PySem.W.keepIn K (.ref (He.ma K (He.ga K "NoNumber") "__init__")),
  fun K => decide (PySem.W.findIn K (.ref (He.ga K "NotASource")) "__init__" = some (some (.ref (He.ma K (He.ga K "NotASource") "__init__")))),
  fun K => PySem.W.isFn K (.ref (He.ma K (He.ga K "NotASource") "__init__")),
  fun K => PySem.W.keepIn K (.ref (He.ma K (He.ga K "NotASource") "__init__")),
  fun K => decide (PySem.W.findIn K (.ref (He.ga K "NotASet")) "__init__" = some (some (.ref (He.ma K (He.ga K "NotASet") "__init__")))),
  fun K => PySem.W.isFn K (.ref (He.ma K (He.ga K "NotASet") "__init__")),
  fun K => PySem.W.keepIn K (.ref (He.ma K (He.ga K "NotASet") "__init__"))]
def ck10 : List Ck := [fun K => decide (PySem.W.findIn K (.ref (He.ga K "Full")) "__init__" = some (some (.ref (He.ma K (He.ga K "Full") "__init__")))),
  fun K => PySem.W.isFn K (.ref (He.ma K (He.ga K "Full") "__init__")),
  fun K => PySem.W.keepIn K (.ref (He.ma K (He.ga K "Full") "__init__")),
  fun K => decide (PySem.W.findIn K (.ref (He.ga K "NoRoom")) "__init__" = some (some (.ref (He.ma K (He.ga K "NoRoom") "__init__")))),
  fun K => PySem.W.isFn K (.ref (He.ma K (He.ga K "NoRoom") "__init__")),
  fun K => PySem.W.keepIn K (.ref (He.ma K (He.ga K "NoRoom") "__init__")),
  fun K => decide (PySem.W.findIn K (.ref (He.ga K "BadCount")) "__init__" = some (some (.ref (He.ma K (He.ga K "BadCount") "__init__")))),
  fun K => PySem.W.isFn K (.ref (He.ma K (He.ga K "BadCount") "__init__")),
  fun K => PySem.W.keepIn K (.ref (He.ma K (He.ga K "BadCount") "__init__")),
  fun K => decide (PySem.W.findIn K (.ref (He.ga K "BadLabel")) "__init__" = some (some (.ref (He.ma K (He.ga K "BadLabel") "__init__")))),
  fun K => PySem.W.isFn K (.ref (He.ma K (He.ga K "BadLabel") "__init__")),
  fun K => PySem.W.keepIn K (.ref (He.ma K (He.ga K "BadLabel") "__init__")),
  fun K => decide (PySem.W.findIn K (.ref (He.ga K "BadWord")) "__init__" = some (some (.ref (He.ma K (He.ga K "BadWord") "__init__")))),
  fun K => PySem.W.isFn K (.ref (He.ma K (He.ga K "BadWord") "__init__")),
  fun K => PySem.W.keepIn K (.ref (He.ma K (He.ga K "BadWord") "__init__")),
  fun K => decide (PySem.W.findIn K (.ref (He.ga K "Finished")) "__init__" = some (some (.ref (He.ma K (He.ga K "Finished") "__init__")))),
  fun K => PySem.W.isFn K (.ref (He.ma K (He.ga K "Finished") "__init__")),
  fun K => PySem.W.keepIn K (.ref (He.ma K (He.ga K "Finished") "__init__")),
  fun K => decide (PySem.W.findIn K (.ref (He.ga K "Registered")) "__init__" = some (some (.ref (He.ma K (He.ga K "Registered") "__init__")))),
  fun K => PySem.W.isFn K (.ref (He.ma K (He.ga K "Registered") "__init__")),
  fun K => PySem.W.keepIn K (.ref (He.ma K (He.ga K "Registered") "__init__")),
  fun K => decide (PySem.W.findIn K (.ref (He.ga K "Taken")) "__init__" = some (some (.ref (He.ma K (He.ga K "Taken") "__init__")))),
  fun K => PySem.W.isFn K (.ref (He.ma K (He.ga K "Taken") "__init__")),
  fun K => PySem.W.keepIn K (.ref (He.ma K (He.ga K "Taken") "__init__")),
  fun K => decide (PySem.W.findIn K (.ref (He.ga K "NotRegistered")) "__init__" = some (some (.ref (He.ma K (He.ga K "NotRegistered") "__init__")))),
  fun K => PySem.W.isFn K (.ref (He.ma K (He.ga K "NotRegistered") "__init__")),
  fun K => PySem.W.keepIn K (.ref (He.ma K (He.ga K "NotRegistered") "__init__")),
  fun K => decide (PySem.W.findIn K (.ref (He.ga K "Registration")) "__init__" = some (some (.ref (He.ma K (He.ga K "Registration") "__init__")))),
  fun K => PySem.W.isFn K (.ref (He.ma K (He.ga K "Registration") "__init__")),
  fun K => PySem.W.keepIn K (.ref (He.ma K (He.ga K "Registration") "__init__"))]
def ck11 : List Ck := [fun K => decide (PySem.W.findIn K (.ref (He.ga K "WaitingSet")) "__init__" = some (some (.ref (He.ma K (He.ga K "WaitingSet") "__init__")))),
  fun K => PySem.W.isFn K (.ref (He.ma K (He.ga K "WaitingSet") "__init__")),
  fun K => PySem.W.keepIn K (.ref (He.ma K (He.ga K "WaitingSet") "__init__")),
  fun K => decide (PySem.W.findIn K (.ref (He.ga K "WaitingSet")) "label_of" = some (some (.ref (He.ma K (He.ga K "WaitingSet") "label_of")))),
  fun K => PySem.W.isFn K (.ref (He.ma K (He.ga K "WaitingSet") "label_of")),
  fun K => PySem.W.keepIn K (.ref (He.ma K (He.ga K "WaitingSet") "label_of")),
  fun K => decide (PySem.W.findIn K (.ref (He.ga K "WaitingSet")) "put" = some (some (.ref (He.ma K (He.ga K "WaitingSet") "put")))),
  fun K => PySem.W.isFn K (.ref (He.ma K (He.ga K "WaitingSet") "put")),
  fun K => PySem.W.keepIn K (.ref (He.ma K (He.ga K "WaitingSet") "put")),
  fun K => decide (PySem.W.findIn K (.ref (He.ga K "WaitingSet")) "append_pending" = some (some (.ref (He.ma K (He.ga K "WaitingSet") "append_pending")))),
  fun K => PySem.W.isFn K (.ref (He.ma K (He.ga K "WaitingSet") "append_pending")),
  fun K => PySem.W.keepIn K (.ref (He.ma K (He.ga K "WaitingSet") "append_pending")),
  fun K => decide (PySem.W.findIn K (.ref (He.ga K "WaitingSet")) "drop" = some (some (.ref (He.ma K (He.ga K "WaitingSet") "drop")))),
  fun K => PySem.W.isFn K (.ref (He.ma K (He.ga K "WaitingSet") "drop")),
  fun K => PySem.W.keepIn K (.ref (He.ma K (He.ga K "WaitingSet") "drop")),
  fun K => decide (PySem.W.findIn K (.ref (He.ga K "WaitingSet")) "drop_source" = some (some (.ref (He.ma K (He.ga K "WaitingSet") "drop_source")))),
  fun K => PySem.W.isFn K (.ref (He.ma K (He.ga K "WaitingSet") "drop_source")),
  fun K => PySem.W.keepIn K (.ref (He.ma K (He.ga K "WaitingSet") "drop_source")),
  fun K => decide (PySem.W.findIn K (.ref (He.ga K "WaitingSet")) "notice" = some (some (.ref (He.ma K (He.ga K "WaitingSet") "notice")))),
  fun K => PySem.W.isFn K (.ref (He.ma K (He.ga K "WaitingSet") "notice")),
  fun K => PySem.W.keepIn K (.ref (He.ma K (He.ga K "WaitingSet") "notice")),
  fun K => decide (PySem.W.findIn K (.ref (He.ga K "WaitingSet")) "take_reports" = some (some (.ref (He.ma K (He.ga K "WaitingSet") "take_reports")))),
  fun K => PySem.W.isFn K (.ref (He.ma K (He.ga K "WaitingSet") "take_reports")),
  fun K => PySem.W.keepIn K (.ref (He.ma K (He.ga K "WaitingSet") "take_reports")),
  fun K => decide (PySem.W.findIn K (.ref (He.ga K "WaitingSet")) "settle" = some (some (.ref (He.ma K (He.ga K "WaitingSet") "settle")))),
  fun K => PySem.W.isFn K (.ref (He.ma K (He.ga K "WaitingSet") "settle")),
  fun K => PySem.W.keepIn K (.ref (He.ma K (He.ga K "WaitingSet") "settle")),
  fun K => decide (PySem.W.findIn K (.ref (He.ga K "System")) "__init__" = some (some (.ref (He.ma K (He.ga K "System") "__init__")))),
  fun K => PySem.W.isFn K (.ref (He.ma K (He.ga K "System") "__init__")),
  fun K => PySem.W.keepIn K (.ref (He.ma K (He.ga K "System") "__init__"))]
def ck12 : List Ck := [fun K => decide (PySem.W.findIn K (.ref (He.ga K "System")) "__contains__" = some (some (.ref (He.ma K (He.ga K "System") "__contains__")))),
  fun K => PySem.W.isFn K (.ref (He.ma K (He.ga K "System") "__contains__")),
  fun K => PySem.W.keepIn K (.ref (He.ma K (He.ga K "System") "__contains__")),
  fun K => decide (PySem.W.findIn K (.ref (He.ga K "System")) "__len__" = some (some (.ref (He.ma K (He.ga K "System") "__len__")))),
  fun K => PySem.W.isFn K (.ref (He.ma K (He.ga K "System") "__len__")),
  fun K => PySem.W.keepIn K (.ref (He.ma K (He.ga K "System") "__len__")),
  fun K => decide (PySem.W.findIn K (.ref (He.ga K "System")) "table_of" = some (some (.ref (He.ma K (He.ga K "System") "table_of")))),
  fun K => PySem.W.isFn K (.ref (He.ma K (He.ga K "System") "table_of")),
  fun K => PySem.W.keepIn K (.ref (He.ma K (He.ga K "System") "table_of")),
  fun K => decide (PySem.W.findIn K (.ref (He.ga K "System")) "is_table_number" = some (some (.ref (He.ma K (He.ga K "System") "is_table_number")))),
  fun K => PySem.W.isFn K (.ref (He.ma K (He.ga K "System") "is_table_number")),
  fun K => PySem.W.keepIn K (.ref (He.ma K (He.ga K "System") "is_table_number")),
  fun K => decide (PySem.W.findIn K (.ref (He.ga K "System")) "thing_at" = some (some (.ref (He.ma K (He.ga K "System") "thing_at")))),
  fun K => PySem.W.isFn K (.ref (He.ma K (He.ga K "System") "thing_at")),
  fun K => PySem.W.keepIn K (.ref (He.ma K (He.ga K "System") "thing_at")),
  fun K => decide (PySem.W.findIn K (.ref (He.ga K "System")) "source_at" = some (some (.ref (He.ma K (He.ga K "System") "source_at")))),
  fun K => PySem.W.isFn K (.ref (He.ma K (He.ga K "System") "source_at")),
  fun K => PySem.W.keepIn K (.ref (He.ma K (He.ga K "System") "source_at")),
  fun K => decide (PySem.W.findIn K (.ref (He.ga K "System")) "set_at" = some (some (.ref (He.ma K (He.ga K "System") "set_at")))),
  fun K => PySem.W.isFn K (.ref (He.ma K (He.ga K "System") "set_at")),
  fun K => PySem.W.keepIn K (.ref (He.ma K (He.ga K "System") "set_at")),
  fun K => decide (PySem.W.findIn K (.ref (He.ga K "System")) "free_number" = some (some (.ref (He.ma K (He.ga K "System") "free_number")))),
  fun K => PySem.W.isFn K (.ref (He.ma K (He.ga K "System") "free_number")),
  fun K => PySem.W.keepIn K (.ref (He.ma K (He.ga K "System") "free_number")),
  fun K => decide (PySem.W.findIn K (.ref (He.ga K "System")) "new_thing" = some (some (.ref (He.ma K (He.ga K "System") "new_thing")))),
  fun K => PySem.W.isFn K (.ref (He.ma K (He.ga K "System") "new_thing")),
  fun K => PySem.W.keepIn K (.ref (He.ma K (He.ga K "System") "new_thing")),
  fun K => decide (PySem.W.findIn K (.ref (He.ga K "System")) "new_source" = some (some (.ref (He.ma K (He.ga K "System") "new_source")))),
  fun K => PySem.W.isFn K (.ref (He.ma K (He.ga K "System") "new_source")),
  fun K => PySem.W.keepIn K (.ref (He.ma K (He.ga K "System") "new_source"))]
def ck13 : List Ck := [fun K => decide (PySem.W.findIn K (.ref (He.ga K "System")) "new_set" = some (some (.ref (He.ma K (He.ga K "System") "new_set")))),
  fun K => PySem.W.isFn K (.ref (He.ma K (He.ga K "System") "new_set")),
  fun K => PySem.W.keepIn K (.ref (He.ma K (He.ga K "System") "new_set")),
  fun K => decide (PySem.W.findIn K (.ref (He.ga K "System")) "is_ready" = some (some (.ref (He.ma K (He.ga K "System") "is_ready")))),
  fun K => PySem.W.isFn K (.ref (He.ma K (He.ga K "System") "is_ready")),
  fun K => PySem.W.keepIn K (.ref (He.ma K (He.ga K "System") "is_ready")),
  fun K => decide (PySem.W.findIn K (.ref (He.ga K "System")) "unread_of_unfinished" = some (some (.ref (He.ma K (He.ga K "System") "unread_of_unfinished")))),
  fun K => PySem.W.isFn K (.ref (He.ma K (He.ga K "System") "unread_of_unfinished")),
  fun K => PySem.W.keepIn K (.ref (He.ma K (He.ga K "System") "unread_of_unfinished")),
  fun K => decide (PySem.W.findIn K (.ref (He.ga K "System")) "notify" = some (some (.ref (He.ma K (He.ga K "System") "notify")))),
  fun K => PySem.W.isFn K (.ref (He.ma K (He.ga K "System") "notify")),
  fun K => PySem.W.keepIn K (.ref (He.ma K (He.ga K "System") "notify")),
  fun K => decide (PySem.W.findIn K (.ref (He.ga K "System")) "end_thing" = some (some (.ref (He.ma K (He.ga K "System") "end_thing")))),
  fun K => PySem.W.isFn K (.ref (He.ma K (He.ga K "System") "end_thing")),
  fun K => PySem.W.keepIn K (.ref (He.ma K (He.ga K "System") "end_thing")),
  fun K => decide (PySem.W.findIn K (.ref (He.ga K "System")) "arrive" = some (some (.ref (He.ma K (He.ga K "System") "arrive")))),
  fun K => PySem.W.isFn K (.ref (He.ma K (He.ga K "System") "arrive")),
  fun K => PySem.W.keepIn K (.ref (He.ma K (He.ga K "System") "arrive")),
  fun K => decide (PySem.W.findIn K (.ref (He.ga K "System")) "read" = some (some (.ref (He.ma K (He.ga K "System") "read")))),
  fun K => PySem.W.isFn K (.ref (He.ma K (He.ga K "System") "read")),
  fun K => PySem.W.keepIn K (.ref (He.ma K (He.ga K "System") "read")),
  fun K => decide (PySem.W.findIn K (.ref (He.ga K "System")) "wait" = some (some (.ref (He.ma K (He.ga K "System") "wait")))),
  fun K => PySem.W.isFn K (.ref (He.ma K (He.ga K "System") "wait")),
  fun K => PySem.W.keepIn K (.ref (He.ma K (He.ga K "System") "wait")),
  fun K => decide (PySem.W.findIn K (.ref (He.ga K "System")) "add" = some (some (.ref (He.ma K (He.ga K "System") "add")))),
  fun K => PySem.W.isFn K (.ref (He.ma K (He.ga K "System") "add")),
  fun K => PySem.W.keepIn K (.ref (He.ma K (He.ga K "System") "add")),
  fun K => decide (PySem.W.findIn K (.ref (He.ga K "System")) "change" = some (some (.ref (He.ma K (He.ga K "System") "change")))),
  fun K => PySem.W.isFn K (.ref (He.ma K (He.ga K "System") "change")),
  fun K => PySem.W.keepIn K (.ref (He.ma K (He.ga K "System") "change"))]
def ck14 : List Ck := [fun K => decide (PySem.W.findIn K (.ref (He.ga K "System")) "remove" = some (some (.ref (He.ma K (He.ga K "System") "remove")))),
  fun K => PySem.W.isFn K (.ref (He.ma K (He.ga K "System") "remove")),
  fun K => PySem.W.keepIn K (.ref (He.ma K (He.ga K "System") "remove")),
  fun K => decide (PySem.W.findIn K (.ref (He.ga K "System")) "free" = some (some (.ref (He.ma K (He.ga K "System") "free")))),
  fun K => PySem.W.isFn K (.ref (He.ma K (He.ga K "System") "free")),
  fun K => PySem.W.keepIn K (.ref (He.ma K (He.ga K "System") "free")),
  fun K => decide (PySem.W.findIn K (.ref (He.ga K "System")) "close" = some (some (.ref (He.ma K (He.ga K "System") "close")))),
  fun K => PySem.W.isFn K (.ref (He.ma K (He.ga K "System") "close")),
  fun K => PySem.W.keepIn K (.ref (He.ma K (He.ga K "System") "close")),
  fun K => decide (PySem.W.findIn K (.ref (He.ga K "System")) "copy" = some (some (.ref (He.ma K (He.ga K "System") "copy")))),
  fun K => PySem.W.isFn K (.ref (He.ma K (He.ga K "System") "copy")),
  fun K => PySem.W.keepIn K (.ref (He.ma K (He.ga K "System") "copy")),
  fun K => decide (PySem.W.findIn K (.ref (He.ga K "System")) "free_process" = some (some (.ref (He.ma K (He.ga K "System") "free_process")))),
  fun K => PySem.W.isFn K (.ref (He.ma K (He.ga K "System") "free_process")),
  fun K => PySem.W.keepIn K (.ref (He.ma K (He.ga K "System") "free_process")),
  fun K => decide (PySem.W.findIn K (.ref (He.ga K "System")) "fork" = some (some (.ref (He.ma K (He.ga K "System") "fork")))),
  fun K => PySem.W.isFn K (.ref (He.ma K (He.ga K "System") "fork")),
  fun K => PySem.W.keepIn K (.ref (He.ma K (He.ga K "System") "fork")),
  fun K => decide (PySem.W.findIn K (.ref (He.ga K "System")) "numbers" = some (some (.ref (He.ma K (He.ga K "System") "numbers")))),
  fun K => PySem.W.isFn K (.ref (He.ma K (He.ga K "System") "numbers")),
  fun K => PySem.W.keepIn K (.ref (He.ma K (He.ga K "System") "numbers")),
  fun K => decide (PySem.W.findIn K (.ref (He.ga K "System")) "things" = some (some (.ref (He.ma K (He.ga K "System") "things")))),
  fun K => PySem.W.isFn K (.ref (He.ma K (He.ga K "System") "things")),
  fun K => PySem.W.keepIn K (.ref (He.ma K (He.ga K "System") "things")),
  fun K => decide (PySem.W.findIn K (.ref (He.ga K "System")) "numbers_of" = some (some (.ref (He.ma K (He.ga K "System") "numbers_of")))),
  fun K => PySem.W.isFn K (.ref (He.ma K (He.ga K "System") "numbers_of")),
  fun K => PySem.W.keepIn K (.ref (He.ma K (He.ga K "System") "numbers_of")),
  fun K => decide (PySem.W.findIn K (.ref (He.ga K "System")) "name_of" = some (some (.ref (He.ma K (He.ga K "System") "name_of")))),
  fun K => PySem.W.isFn K (.ref (He.ma K (He.ga K "System") "name_of")),
  fun K => PySem.W.keepIn K (.ref (He.ma K (He.ga K "System") "name_of"))]
def ck15 : List Ck := [fun K => decide (PySem.W.findIn K (.ref (He.ga K "System")) "registrations" = some (some (.ref (He.ma K (He.ga K "System") "registrations")))),
  fun K => PySem.W.isFn K (.ref (He.ma K (He.ga K "System") "registrations")),
  fun K => PySem.W.keepIn K (.ref (He.ma K (He.ga K "System") "registrations")),
  fun K => decide (PySem.W.typeIn K (.ref (He.ma K (He.ga K "NoProcess") "__init__")) = some (.type "function")),
  fun K => decide (PySem.W.typeIn K (.ref (He.ma K (He.ga K "NotOpen") "__init__")) = some (.type "function")),
  fun K => decide (PySem.W.typeIn K (.ref (He.ma K (He.ga K "NoNumber") "__init__")) = some (.type "function")),
  fun K => decide (PySem.W.typeIn K (.ref (He.ma K (He.ga K "NotASource") "__init__")) = some (.type "function")),
  fun K => decide (PySem.W.typeIn K (.ref (He.ma K (He.ga K "NotASet") "__init__")) = some (.type "function")),
  fun K => decide (PySem.W.typeIn K (.ref (He.ma K (He.ga K "Full") "__init__")) = some (.type "function")),
  fun K => decide (PySem.W.typeIn K (.ref (He.ma K (He.ga K "NoRoom") "__init__")) = some (.type "function")),
  fun K => decide (PySem.W.typeIn K (.ref (He.ma K (He.ga K "BadCount") "__init__")) = some (.type "function")),
  fun K => decide (PySem.W.typeIn K (.ref (He.ma K (He.ga K "BadLabel") "__init__")) = some (.type "function")),
  fun K => decide (PySem.W.typeIn K (.ref (He.ma K (He.ga K "BadWord") "__init__")) = some (.type "function")),
  fun K => decide (PySem.W.typeIn K (.ref (He.ma K (He.ga K "Finished") "__init__")) = some (.type "function")),
  fun K => decide (PySem.W.typeIn K (.ref (He.ma K (He.ga K "Registered") "__init__")) = some (.type "function")),
  fun K => decide (PySem.W.typeIn K (.ref (He.ma K (He.ga K "Taken") "__init__")) = some (.type "function")),
  fun K => decide (PySem.W.typeIn K (.ref (He.ma K (He.ga K "NotRegistered") "__init__")) = some (.type "function")),
  fun K => decide (PySem.W.exmOne K (.ref (He.ga K "NotOpen")) (.ref (He.ga K "NotRegistered")) = some false),
  fun K => decide (PySem.W.nsIn K mainGlobals "len" = some none),
  fun K => decide (PySem.W.nsIn K mainGlobals "enumerate" = some none),
  fun K => decide (PySem.W.nsIn K mainGlobals "int" = some none),
  fun K => decide (PySem.W.nsIn K mainGlobals "abs" = some none),
  fun K => decide (PySem.W.nsIn K mainGlobals "isinstance" = some none),
  fun K => decide (PySem.W.nsIn K mainGlobals "bool" = some none),
  fun K => decide (PySem.W.nsIn K mainGlobals "list" = some none),
  fun K => decide (PySem.W.nsIn K mainGlobals "min" = some none),
  fun K => decide (PySem.W.nsIn K mainGlobals "max" = some none),
  fun K => decide (PySem.W.nsIn K mainGlobals "range" = some none),
  fun K => decide (PySem.W.nsIn K mainGlobals "sorted" = some none),
  fun K => decide (PySem.W.nsIn K mainGlobals "any" = some none)]
def ck16 : List Ck := [fun K => decide (PySem.W.nsIn K mainGlobals "LookupError" = some none),
  fun K => decide (PySem.W.nsIn K mainGlobals "RuntimeError" = some none),
  fun K => decide (PySem.W.nsIn K mainGlobals "TypeError" = some none),
  fun K => decide (PySem.W.nsIn K mainGlobals "ValueError" = some none),
  fun K => decide (PySem.W.nsIn K mainGlobals "OverflowError" = some none),
  fun K => decide (PySem.W.nsIn K mainGlobals "WORDS" = some (some (.ref (He.ga K "WORDS")))),
  fun K => txtB K (He.ga K "WORDS") "level" "edge" "once",
  fun K => intB (PySem.W.nsIn K mainGlobals "MOST_COUNT") 1000000,
  fun K => intB (PySem.W.nsIn K mainGlobals "MOST_LABEL") 999999,
  fun K => intB (PySem.W.nsIn K mainGlobals "LEAST_PROCESSES") 2,
  fun K => intB (PySem.W.nsIn K mainGlobals "LEAST_NUMBERS") 3,
  fun K => atB K (PySem.W.findIn K (.ref (He.ga K "System")) "MOST_PROCESSES") 6,
  fun K => atB K (PySem.W.findIn K (.ref (He.ga K "System")) "MOST_NUMBERS") 8]
def ckL : List Ck := ck0 ++ (ck1 ++ (ck2 ++ (ck3 ++ (ck4 ++ (ck5 ++ (ck6 ++ (ck7 ++ (ck8 ++ (ck9 ++ (ck10 ++ (ck11 ++ (ck12 ++ (ck13 ++ (ck14 ++ (ck15 ++ (ck16))))))))))))))))
def fn0 : List He.DefD := [⟨("is_integer", none), "is_integer", "is_integer", defArgs sIsInteger, defBody sIsInteger, defScope sIsInteger, [], []⟩,
  ⟨("is_between", none), "is_between", "is_between", defArgs sIsBetween, defBody sIsBetween, defScope sIsBetween, [], []⟩,
  ⟨("is_count", none), "is_count", "is_count", defArgs sIsCount, defBody sIsCount, defScope sIsCount, [], []⟩,
  ⟨("is_label", none), "is_label", "is_label", defArgs sIsLabel, defBody sIsLabel, defScope sIsLabel, [], []⟩,
  ⟨("is_word", none), "is_word", "is_word", defArgs sIsWord, defBody sIsWord, defScope sIsWord, [], []⟩,
  ⟨("_law_bag", none), "_law_bag", "_law_bag", defArgs sBag, defBody sBag, defScope sBag, [], []⟩,
  ⟨("_law_take", none), "_law_take", "_law_take", defArgs sTake, defBody sTake, defScope sTake, [], []⟩,
  ⟨("_law_of", none), "_law_of", "_law_of", defArgs sOf, defBody sOf, defScope sOf, [], []⟩,
  ⟨("_law_unreached", none), "_law_unreached", "_law_unreached", defArgs sUnreached, defBody sUnreached, defScope sUnreached, [], []⟩,
  ⟨("_law_round", none), "_law_round", "_law_round", defArgs sRound, defBody sRound, defScope sRound, [], []⟩,
  ⟨("_law_reports", none), "_law_reports", "_law_reports", defArgs sLawReports, defBody sLawReports, defScope sLawReports, [], []⟩,
  ⟨("_law_dropped", none), "_law_dropped", "_law_dropped", defArgs sDropped, defBody sDropped, defScope sDropped, [], []⟩,
  ⟨("law", none), "law", "law", defArgs sLaw, defBody sLaw, defScope sLaw, [], []⟩,
  ⟨("NoProcess", some "__init__"), "__init__", "NoProcess.__init__", defArgs sNoProcessInit, defBody sNoProcessInit, defScope sNoProcessInit, [], []⟩,
  ⟨("NotOpen", some "__init__"), "__init__", "NotOpen.__init__", defArgs sNotOpenInit, defBody sNotOpenInit, defScope sNotOpenInit, [], []⟩,
  ⟨("NoNumber", some "__init__"), "__init__", "NoNumber.__init__", defArgs sNoNumberInit, defBody sNoNumberInit, defScope sNoNumberInit, [], []⟩,
  ⟨("NotASource", some "__init__"), "__init__", "NotASource.__init__", defArgs sNotASourceInit, defBody sNotASourceInit, defScope sNotASourceInit, [], []⟩,
  ⟨("NotASet", some "__init__"), "__init__", "NotASet.__init__", defArgs sNotASetInit, defBody sNotASetInit, defScope sNotASetInit, [], []⟩,
  ⟨("Full", some "__init__"), "__init__", "Full.__init__", defArgs sFullInit, defBody sFullInit, defScope sFullInit, [], []⟩,
  ⟨("NoRoom", some "__init__"), "__init__", "NoRoom.__init__", defArgs sNoRoomInit, defBody sNoRoomInit, defScope sNoRoomInit, [], []⟩,
  ⟨("BadCount", some "__init__"), "__init__", "BadCount.__init__", defArgs sBadCountInit, defBody sBadCountInit, defScope sBadCountInit, [], []⟩,
  ⟨("BadLabel", some "__init__"), "__init__", "BadLabel.__init__", defArgs sBadLabelInit, defBody sBadLabelInit, defScope sBadLabelInit, [], []⟩,
  ⟨("BadWord", some "__init__"), "__init__", "BadWord.__init__", defArgs sBadWordInit, defBody sBadWordInit, defScope sBadWordInit, [], []⟩,
  ⟨("Finished", some "__init__"), "__init__", "Finished.__init__", defArgs sFinishedInit, defBody sFinishedInit, defScope sFinishedInit, [], []⟩,
  ⟨("Registered", some "__init__"), "__init__", "Registered.__init__", defArgs sRegisteredInit, defBody sRegisteredInit, defScope sRegisteredInit, [], []⟩,
  ⟨("Taken", some "__init__"), "__init__", "Taken.__init__", defArgs sTakenInit, defBody sTakenInit, defScope sTakenInit, [], []⟩,
  ⟨("NotRegistered", some "__init__"), "__init__", "NotRegistered.__init__", defArgs sNotRegisteredInit, defBody sNotRegisteredInit, defScope sNotRegisteredInit, [], []⟩,
  ⟨("Registration", some "__init__"), "__init__", "Registration.__init__", defArgs sRegInit, defBody sRegInit, defScope sRegInit, [], []⟩,
  ⟨("WaitingSet", some "__init__"), "__init__", "WaitingSet.__init__", defArgs sWsInit, defBody sWsInit, defScope sWsInit, [], []⟩,
  ⟨("WaitingSet", some "label_of"), "label_of", "WaitingSet.label_of", defArgs sLabelOf, defBody sLabelOf, defScope sLabelOf, [], []⟩]
def fn1 : List He.DefD := [⟨("WaitingSet", some "put"), "put", "WaitingSet.put", defArgs sPut, defBody sPut, defScope sPut, [], []⟩,
  ⟨("WaitingSet", some "append_pending"), "append_pending", "WaitingSet.append_pending", defArgs sAppend, defBody sAppend, defScope sAppend, [], []⟩,
  ⟨("WaitingSet", some "drop"), "drop", "WaitingSet.drop", defArgs sDrop, defBody sDrop, defScope sDrop, [], []⟩,
  ⟨("WaitingSet", some "drop_source"), "drop_source", "WaitingSet.drop_source", defArgs sDropSource, defBody sDropSource, defScope sDropSource, [], []⟩,
  ⟨("WaitingSet", some "notice"), "notice", "WaitingSet.notice", defArgs sNotice, defBody sNotice, defScope sNotice, [], []⟩,
  ⟨("WaitingSet", some "take_reports"), "take_reports", "WaitingSet.take_reports", defArgs sReports, defBody sReports, defScope sReports, [], []⟩,
  ⟨("WaitingSet", some "settle"), "settle", "WaitingSet.settle", defArgs sSettle, defBody sSettle, defScope sSettle, [], []⟩,
  ⟨("System", some "__init__"), "__init__", "System.__init__", defArgs sSysInit, defBody sSysInit, defScope sSysInit, [], [("processes", .int 4), ("numbers", .int 8)]⟩,
  ⟨("System", some "__contains__"), "__contains__", "System.__contains__", defArgs sContains, defBody sContains, defScope sContains, [], []⟩,
  ⟨("System", some "__len__"), "__len__", "System.__len__", defArgs sLen, defBody sLen, defScope sLen, [], []⟩,
  ⟨("System", some "table_of"), "table_of", "System.table_of", defArgs sTableOf, defBody sTableOf, defScope sTableOf, [], []⟩,
  ⟨("System", some "is_table_number"), "is_table_number", "System.is_table_number", defArgs sIsTabNum, defBody sIsTabNum, defScope sIsTabNum, [], []⟩,
  ⟨("System", some "thing_at"), "thing_at", "System.thing_at", defArgs sThingAt, defBody sThingAt, defScope sThingAt, [], []⟩,
  ⟨("System", some "source_at"), "source_at", "System.source_at", defArgs sSourceAt, defBody sSourceAt, defScope sSourceAt, [], []⟩,
  ⟨("System", some "set_at"), "set_at", "System.set_at", defArgs sSetAt, defBody sSetAt, defScope sSetAt, [], []⟩,
  ⟨("System", some "free_number"), "free_number", "System.free_number", defArgs sFreeNum, defBody sFreeNum, defScope sFreeNum, [], []⟩,
  ⟨("System", some "new_thing"), "new_thing", "System.new_thing", defArgs sNewThing, defBody sNewThing, defScope sNewThing, [], []⟩,
  ⟨("System", some "new_source"), "new_source", "System.new_source", defArgs sNewSource, defBody sNewSource, defScope sNewSource, [], []⟩,
  ⟨("System", some "new_set"), "new_set", "System.new_set", defArgs sNewSet, defBody sNewSet, defScope sNewSet, [], []⟩,
  ⟨("System", some "is_ready"), "is_ready", "System.is_ready", defArgs sIsReady, defBody sIsReady, defScope sIsReady, [], []⟩,
  ⟨("System", some "unread_of_unfinished"), "unread_of_unfinished", "System.unread_of_unfinished", defArgs sUnfinished, defBody sUnfinished, defScope sUnfinished, [], []⟩,
  ⟨("System", some "notify"), "notify", "System.notify", defArgs sNotify, defBody sNotify, defScope sNotify, [], []⟩,
  ⟨("System", some "end_thing"), "end_thing", "System.end_thing", defArgs sEndThing, defBody sEndThing, defScope sEndThing, [], []⟩,
  ⟨("System", some "arrive"), "arrive", "System.arrive", defArgs sArrive, defBody sArrive, defScope sArrive, [.int 1], []⟩,
  ⟨("System", some "read"), "read", "System.read", defArgs sRead, defBody sRead, defScope sRead, [.non], []⟩,
  ⟨("System", some "wait"), "wait", "System.wait", defArgs sWait, defBody sWait, defScope sWait, [.int 1], []⟩,
  ⟨("System", some "add"), "add", "System.add", defArgs sAdd, defBody sAdd, defScope sAdd, [], [("word", .str "level")]⟩,
  ⟨("System", some "change"), "change", "System.change", defArgs sChange, defBody sChange, defScope sChange, [], []⟩,
  ⟨("System", some "remove"), "remove", "System.remove", defArgs sRemove, defBody sRemove, defScope sRemove, [], []⟩,
  ⟨("System", some "free"), "free", "System.free", defArgs sFree, defBody sFree, defScope sFree, [], []⟩]
def fn2 : List He.DefD := [⟨("System", some "close"), "close", "System.close", defArgs sClose, defBody sClose, defScope sClose, [], []⟩,
  ⟨("System", some "copy"), "copy", "System.copy", defArgs sCopy, defBody sCopy, defScope sCopy, [.non], []⟩,
  ⟨("System", some "free_process"), "free_process", "System.free_process", defArgs sFreeProc, defBody sFreeProc, defScope sFreeProc, [], []⟩,
  ⟨("System", some "fork"), "fork", "System.fork", defArgs sFork, defBody sFork, defScope sFork, [], []⟩,
  ⟨("System", some "numbers"), "numbers", "System.numbers", defArgs sNumbers, defBody sNumbers, defScope sNumbers, [], []⟩,
  ⟨("System", some "things"), "things", "System.things", defArgs sThings, defBody sThings, defScope sThings, [], []⟩,
  ⟨("System", some "numbers_of"), "numbers_of", "System.numbers_of", defArgs sNumbersOf, defBody sNumbersOf, defScope sNumbersOf, [], []⟩,
  ⟨("System", some "name_of"), "name_of", "System.name_of", defArgs sNameOf, defBody sNameOf, defScope sNameOf, [], []⟩,
  ⟨("System", some "registrations"), "registrations", "System.registrations", defArgs sRegistrations, defBody sRegistrations, defScope sRegistrations, [], []⟩]
def fnL : List He.DefD := fn0 ++ (fn1 ++ (fn2))
def fxL : List DefX := []
abbrev Rw : PySem.W.OpenRow := PySem.W.OpenLaw.row PySem.Challenge.rw_waitnumbers_k08_numbers_used_again
abbrev tbL : Option Tb := none
abbrev exL : PySem.W.Frag → List Addr := fun K => []
abbrev hk : PySem.W.Hook := hookB 4 exL ckL fnL fxL tbL
def ob (s : PySem.W.SharedT) : He.AlD × Option Obj := obsB 4 exL ckL fnL fxL tbL (HandSHeadRun.getT s)
theorem ob_eq (s : PySem.W.SharedT) : ob s = hk.obs s.abs := obsB_eq (HandSHeadRun.getT_eq s)
def nm0 : List Str := ["_wall",
  "NoProcess",
  "NotOpen",
  "NoNumber",
  "NotRegistered",
  "NotASource",
  "NotASet",
  "BadCount",
  "BadLabel",
  "BadWord",
  "BadLimit",
  "Full",
  "NoRoom",
  "Finished",
  "Registered",
  "Taken",
  "MOST_COUNT",
  "MOST_LABEL",
  "WORDS",
  "is_integer",
  "is_between",
  "is_count",
  "is_label",
  "is_word",
  "Registration",
  "WaitingSet",
  "LEAST_PROCESSES",
  "LEAST_NUMBERS",
  "System",
  "_law_bag"]
def nm1 : List Str := ["_law_take",
  "_law_of",
  "_law_unreached",
  "_law_round",
  "_law_reports",
  "_law_dropped"]
def nmL : List Str := nm0 ++ (nm1)
set_option maxRecDepth 100000 in
set_option maxHeartbeats 0 in
theorem run (w : World) : HandSHeadRun.RunEq Rw (PySem.W.view Rw.prog [41]) hk ob 9000 nmL w := by
  intro os
  kernel_rfl
/-! readings with names -/
def rInt1 : List V → Hp → VK → Prop := fun xs H Q => (∃ i, xs = [.int i] ∧ Q (.int i) H) ∨ ∃ k, xs = [.bl k] ∧ Q (.int (if k = true then 1 else 0)) H
def rAbs : List V → Hp → VK → Prop := fun xs H Q => ∃ i, xs = [.int i] ∧ Q (.int (if i < 0 then -i else i)) H
theorem cInt1 {X : Cx} : CallR X (.type "int") rInt1 := call_int1
theorem cAbs {X : Cx} : CallR X (.builtin "abs") rAbs := call_abs
def rIsN : R2 := fun x y H Q => y = .non ∧ Q (.bl (decide (x = .non))) H
def rNotN : R2 := fun x y H Q => y = .non ∧ Q (.bl (!decide (x = .non))) H
def rAddS : R2 := fun x y H Q => ∃ i j, x = .str i ∧ y = .str j ∧ i.length + j.length ≤ sizeLine ∧ Q (.str (i ++ j)) H
def rLenQ (K : PySem.W.Frag) : List V → Hp → VK → Prop := fun xs H Q => ∃ p ys, xs = [.ref p] ∧ (SqL K H p ys ∨ SqT K H p ys) ∧ Q (.int ys.length) H
def rLenS : List V → Hp → VK → Prop := fun xs H Q => ∃ z, xs = [.str z] ∧ z.length ≤ sizeLine ∧ Q (.int z.length) H
def rMax2 : List V → Hp → VK → Prop := fun xs H Q => ∃ i j, xs = [.int i, .int j] ∧ Q (.int (if j > i then j else i)) H
def rMin2 : List V → Hp → VK → Prop := fun xs H Q => ∃ i j, xs = [.int i, .int j] ∧ Q (.int (if j < i then j else i)) H
theorem oIsN {X : Cx} : OpR X (compareOp .Is) rIsN := op_isN
theorem oNotN {X : Cx} : OpR X (compareOp .IsNot) rNotN := op_notN
theorem cLenQ {X : Cx} : CallR X (.builtin "len") (rLenQ X.K) := call_len_seq
theorem cMax2 {X : Cx} (hc : X.calm = true) : CallR X (.builtin "max") rMax2 := call_max2 hc
theorem cMin2 {X : Cx} (hc : X.calm = true) : CallR X (.builtin "min") rMin2 := call_min2 hc
/-! one step of a reading -/
section
variable {σ : L2.St} {H : Hp} {Q : VK} {ta tb te : TE} {tl : TA} {t u : TS} {D : Ends} {c : TT} {r : R2} {v : V} {i : Nat}
theorem g_var (h : σ[i]? = some (some v)) (q : Q v H) : tVar i σ H Q := ⟨v, h, q⟩
theorem g_c (q : Q v H) : tC v σ H Q := q
theorem g_op (q : ta σ H fun x H1 => tb σ H1 fun y H2 => r x y H2 Q) : tOp r ta tb σ H Q := q
theorem g_rI0 {g : Int → Int → V} {a b : Int} (q : Q (g a b) H) : rI0 g (.int a) (.int b) H Q := ⟨a, b, rfl, rfl, q⟩
theorem g_rI {C : Int → Int → Prop} {g : Int → Int → V} {a b : Int} (hc : C a b) (q : Q (g a b) H) : rI C g (.int a) (.int b) H Q := ⟨a, b, rfl, rfl, hc, q⟩
theorem g_mul {a b : Int} (h : (-(2 ^ 64) < a ∧ a < 2 ^ 64) ∨ (-(2 ^ 64) < b ∧ b < 2 ^ 64)) (q : Q (.int (a * b)) H) : rI CMul (fun i j => .int (i * j)) (.int a) (.int b) H Q := ⟨a, b, rfl, rfl, h, q⟩
theorem g_mod {a b : Int} (h : 0 < b) (q : Q (.int (a % b)) H) : rI (fun _ j => 0 < j) (fun i j => .int (i % j)) (.int a) (.int b) H Q := ⟨a, b, rfl, rfl, h, q⟩
theorem g_rEq {x y : V} (h : scal x y = true) (q : Q (.bl (decide (x = y))) H) : rEq x y H Q := ⟨h, q⟩
theorem g_rNe {x y : V} (h : scal x y = true) (q : Q (.bl (!decide (x = y))) H) : rNe x y H Q := ⟨h, q⟩
theorem g_asg {g : TG} (q : te σ H fun x H1 => g x σ H1 D.nx) : tAsg te g D σ H := q
theorem g_name {k : L2.St → Hp → Prop} (q : k (σ.set i (some v)) H) : gName i v σ H k := q
theorem g_seq (q : t { D with nx := u D } σ H) : tSeq t u D σ H := q
theorem g_ret (q : te σ H D.rt) : tRet te D σ H := q
theorem g_retN (q : D.rt .non H) : tRetN D σ H := q
theorem g_next (q : D.nx σ H) : tNext D σ H := q
theorem g_drop (q : te σ H fun _ H1 => D.nx σ H1) : tDrop te D σ H := q
theorem g_nil {k : List V → Hp → Prop} (q : k [] H) : tNil σ H k := q
theorem g_cons {k : List V → Hp → Prop} (q : ta σ H fun x H1 => tl σ H1 fun xs H2 => k (x :: xs) H2) : tCons ta tl σ H k := q
theorem g_cb {r : List V → Hp → VK → Prop} (q : tl σ H fun vs H1 => r vs H1 Q) : tCB r tl σ H Q := q
theorem g_test {k : Bool → Hp → Prop} (q : te σ H fun x H1 => ∃ b, x = .bl b ∧ k b H1) : tTest te σ H k := q
theorem g_tB {k : Bool → Hp → Prop} (q : te σ H fun x H1 => ∃ b, x = .bl b ∧ k b H1) : tB te σ H k := q
theorem g_bl {b : Bool} {k : Bool → Prop} (q : k b) : ∃ z, V.bl b = .bl z ∧ k z := ⟨b, rfl, q⟩
theorem g_if (q : c σ H fun b H1 => if b = true then ta σ H1 Q else tb σ H1 Q) : tIf c ta tb σ H Q := q
theorem g_ifs (q : c σ H fun b H1 => if b = true then t D σ H1 else u D σ H1) : tIfS c t u D σ H := q
theorem g_not {k : Bool → Hp → Prop} (q : c σ H fun b H1 => k (!b) H1) : tNot c σ H k := q
theorem g_part {k : Option Int → Hp → Prop} (q : te σ H fun x H1 => ∃ z, x = .int z ∧ k (some z) H1) : tPart te σ H k := q
theorem g_pint {z : Int} {k : Int → Prop} (q : k z) : ∃ y, V.int z = .int y ∧ k y := ⟨z, rfl, q⟩
theorem g_lst (q : tl σ H fun xs H1 => xs.length ≤ sizeLine ∧ ∀ p, H1 p = none → Q (.ref p) (upd H1 p (.lst xs))) : tLst tl σ H Q := q
theorem g_tup (q : tl σ H fun xs H1 => xs.length ≤ sizeLine ∧ ∀ p, H1 p = none → Q (.ref p) (upd H1 p (.tup xs))) : tTup tl σ H Q := q
theorem g_ixL {K : PySem.W.Frag} {p : Addr} {xs : List V} {z : Int} (h : H p = some (.lst xs)) (a : atI xs z = some v) (q : Q v H) : rIxL K (.ref p) (.int z) H Q := ⟨p, xs, z, v, rfl, rfl, SqL.of h, a, q⟩
theorem cdivw_of {a b : Int} (h0 : 0 < b) (h1 : b < 4611686018427387904) : CDivW a b := wide_div (b := 62) h0 (by omega) (by decide) (by decide)
theorem g_div {a b : Int} (h0 : 0 < b) (h1 : b < 4611686018427387904) (q : Q (.int (a / b)) H) : rI CDivW (fun i j => .int (i / j)) (.int a) (.int b) H Q := ⟨a, b, rfl, rfl, cdivw_of h0 h1, q⟩
theorem g_sub {to ti : TE} {ts : TSet} {k : L2.St → Hp → Prop} (q : to σ H fun o H1 => ti σ H1 fun i H2 => ts o i v H2 fun H3 => k σ H3) : gSub to ti ts v σ H k := q
theorem g_setL {p : Addr} {xs : List V} {z : Int} {j : Nat} {k : Hp → Prop} (h : H p = some (.lst xs)) (a : ixN xs.length z = some j) (q : k (upd H p (.lst (xs.set j v)))) : rSetL (.ref p) (.int z) v H k := ⟨p, xs, z, j, rfl, rfl, h, a, q⟩
theorem g_nopart {k : Option Int → Hp → Prop} (q : k none H) : tNoPart σ H k := q
theorem g_call {sp : Sp} {dvs : List V} {E : XK} (q : tl σ H fun vs H1 => sp (vs ++ dvs) H1 Q E) : tCall sp dvs E tl σ H Q := q
theorem g_rint (z : Int) (q : Q (.int z) H) : rInt1 [.int z] H Q := .inl ⟨z, rfl, q⟩
theorem g_rabs {z : Int} (q : Q (.int (if z < 0 then -z else z)) H) : rAbs [.int z] H Q := ⟨z, rfl, q⟩
theorem g_sl {r : V → Option Int → Option Int → Hp → VK → Prop} {a b : TO} (q : te σ H fun x H1 => a σ H1 fun l H2 => b σ H2 fun h H3 => r x l h H3 Q) : tSl r te a b σ H Q := q
theorem g_rIsN {x : V} (q : Q (.bl (decide (x = .non))) H) : rIsN x .non H Q := ⟨rfl, q⟩
theorem g_rNotN {x : V} (q : Q (.bl (!decide (x = .non))) H) : rNotN x .non H Q := ⟨rfl, q⟩
theorem g_lenL {K : PySem.W.Frag} {p : Addr} {xs : List V} (h : H p = some (.lst xs)) (q : Q (.int xs.length) H) : rLenQ K [.ref p] H Q := ⟨p, xs, rfl, .inl (SqL.of h), q⟩
theorem g_max2 {a b : Int} (q : Q (.int (if b > a then b else a)) H) : rMax2 [.int a, .int b] H Q := ⟨a, b, rfl, q⟩
theorem g_min2 {a b : Int} (q : Q (.int (if b < a then b else a)) H) : rMin2 [.int a, .int b] H Q := ⟨a, b, rfl, q⟩
theorem g_and {t u : TT} {k : Bool → Hp → Prop} (q : t σ H fun b H1 => if b = true then u σ H1 k else k false H1) : tAnd t u σ H k := q
theorem g_or {t u : TT} {k : Bool → Hp → Prop} (q : t σ H fun b H1 => if b = true then k true H1 else u σ H1 k) : tOr t u σ H k := q
theorem g_orV (q : ta σ H fun x H1 => ∃ b, x = .bl b ∧ if b = true then Q (.bl true) H1 else tb σ H1 Q) : tOrV ta tb σ H Q := q
theorem g_andV (q : ta σ H fun x H1 => ∃ b, x = .bl b ∧ if b = true then tb σ H1 Q else Q (.bl false) H1) : tAndV ta tb σ H Q := q
theorem g_bT {A B : Prop} (q : A) : if true = true then A else B := iteT q
theorem g_bF {A B : Prop} (q : B) : if false = true then A else B := iteF q
theorem g_bNT {A B : Prop} (q : B) : if (!true) = true then A else B := iteF q
theorem g_bNF {A B : Prop} (q : A) : if (!false) = true then A else B := iteT q
theorem g_bm {K : PySem.W.Frag} {T : String} {r : V → List V → Hp → VK → Prop} (q : ta σ H fun x H1 => tyV K T x H1 ∧ tl σ H1 fun xs H2 => r x xs H2 Q) : tBM K T r ta tl σ H Q := q
theorem g_tyL {K : PySem.W.Frag} {p : Addr} {xs : List V} {c : Prop} (h : H p = some (.lst xs)) (q : c) : tyV K "list" (.ref p) H ∧ c := ⟨.inl ⟨rfl, _, SqL.of h⟩, q⟩
theorem g_yes {k : Bool → Hp → Prop} (q : k true H) : tYes σ H k := q
theorem g_nes {x : V} {A B : Prop} (q : B) : if (!decide (x = x)) = true then A else B := by
  rw [decide_eq_true rfl]
  exact iteF q
theorem g_es {x : V} {A B : Prop} (q : A) : if decide (x = x) = true then A else B := by
  rw [decide_eq_true rfl]
  exact iteT q
end
local macro_rules | `(tactic| walk_at "wn1") => `(tactic| first | ((with_reducible show (if (!decide _) = true then _ else _)); refine' g_nes ?_) | ((with_reducible show (if (decide _) = true then _ else _)); refine' g_es ?_) | with_reducible first
  | (refine' g_var ?h ?q; (case h => with_unfolding_all rfl))
  | refine' g_c ?_ | refine' g_op ?_ | refine' g_rI0 ?_ | refine' g_asg ?_ | refine' g_name ?_ | refine' g_seq ?_ | refine' g_ret ?_ | refine' g_retN ?_ | refine' g_next ?_ | refine' g_drop ?_
  | refine' g_nil ?_ | refine' g_cons ?_ | refine' g_cb ?_ | refine' g_test ?_ | refine' g_bl ?_ | refine' g_if ?_ | refine' g_ifs ?_ | refine' g_not ?_ | refine' g_part ?_ | refine' g_pint ?_ | refine' g_nopart ?_ | refine' g_call ?_
  | (refine' g_mul ?h ?q; (case h => with_unfolding_all first | exact Or.inl ⟨by decide, by decide⟩ | exact Or.inr ⟨by decide, by decide⟩ | exact Or.inl ⟨by omega, by omega⟩ | exact Or.inr ⟨by omega, by omega⟩))
  | (refine' g_mod ?h ?q; (case h => with_unfolding_all first | decide | omega))
  | refine' g_rIsN ?_ | refine' g_rNotN ?_ | refine' g_max2 ?_ | refine' g_min2 ?_ | refine' g_and ?_ | refine' g_or ?_ | refine' g_orV ?_ | refine' g_andV ?_ | refine' g_notV ?_ | refine' g_m1 ?_ | refine' g_yes ?_ | refine' g_bm ?_ | refine' g_bm0 ?_
  | (refine' g_tyL ?h ?q; (case h => first | assumption | exact upd_same))
  | refine' g_m0 ?_ | refine' g_tB ?_ | refine' g_isS ?_ | refine' g_bT ?_ | refine' g_bF ?_ | refine' g_bNT ?_ | refine' g_callK ?_ | refine' g_bNF ?_
  | (refine' g_lenL ?h ?q; (case h => first | assumption | exact upd_same))
  | refine' g_un ?_ | refine' g_rint _ ?_ | refine' g_rabs ?_ | refine' g_sl ?_ 
  | (refine' g_ixL ?h ?a ?q; (case h => first | assumption | exact upd_same); (case a => with_unfolding_all rfl))
  | (refine' g_div ?h0 ?h1 ?q; (case h0 => with_unfolding_all first | decide | omega); (case h1 => with_unfolding_all first | decide | omega))
  | refine' g_sub ?_
  | (refine' g_setL ?h ?a ?q; (case h => first | assumption | exact upd_same); (case a => with_unfolding_all rfl))
  | refine' g_lst ?_ | refine' g_tup ?_
  | (refine' g_rEq ?h ?q; (case h => with_unfolding_all rfl)) | (refine' g_rNe ?h ?q; (case h => with_unfolding_all rfl)))
local macro_rules | `(tactic| walk_at "wn") => `(tactic| repeat walk_at "wn1")

theorem seq_at {K : PySem.W.Frag} {H H' : Hp} {l : Addr} {xs : List V} (e : H' l = H l) (h : SqL K H l xs) : SqL K H' l xs := by
  rcases h with (h | ⟨o, h⟩) | h
  · exact .inl (.inl (e.trans h))
  · exact .inl (.inr ⟨o, e.trans h⟩)
  · exact .inr h
/-! own __contains__ -/
def rOwnNotIn (C : Addr) (sp : Sp) : R2 := fun x y H Q => ∃ a dx fs, y = .ref a ∧ H a = some (.ins C dx fs) ∧ sp [.ref a, x] H (fun v H' => ∃ b, v = .bl b ∧ Q (.bl (!b)) H') fun _ _ _ => False
theorem op_ownNotIn {X : Cx} {CX : CXT} {k : Nat} {C f : Addr} {fd : FuncData} {ps : List Str} {sp : Sp} (F : FnOk X.prog X.w X.K X.mg X.base CX k f fd ps sp) (hr : Room k X.A)
    (hs : PySem.W.findIn X.K (.ref C) "__contains__" = some (some (.ref f))) (hf : PySem.W.isFn X.K (.ref f) = true) (hb : Binds X.K fd ps []) (hx : Passes CX X fun _ _ _ => False) : OpR X (compareOp .NotIn) (rOwnNotIn C sp) := by
  intro pins s σ H x y v u Q I rx ry d
  obtain ⟨a, dx, fs, rfl, ha, hsp⟩ := d
  cases ry
  obtain ⟨mA, J, _⟩ := ins_get I.hok ha
  obtain ⟨od, J, _⟩ := J.look
  obtain ⟨m, hF⟩ := I.fr
  refine PySem.W.notIn_K hF I.ok.mod.kin J hs hf ?_
  have hl := F.len _ _ _ _ hsp
  have r2 : Vals [V.ref a, x] [Value.ref a, v] := .cons rfl (.cons rx .nil)
  refine wpAny_call (codeAny_mono (F.run X.A X.stack s H ⟨[.ref a, v], []⟩ [.ref a, v] [.ref a, x] _ _ hr I.env0 (by
    have := hb s [.ref a, v] I.kIn (by simpa using hl)
    simpa using this) r2 hsp) fun r s' hq => ?_)
  cases r with
  | error e => exact hx pins σ H s e s' I hq
  | ok fl =>
    cases fl with
    | ret w =>
      obtain ⟨z, H', I', rz, b, ez, q⟩ := I.after hq
      subst ez
      cases rz
      exact wpAny_truthy_bool ⟨.bl (!b), H', I', rfl, q⟩
    | next => exact False.elim hq
    | brk => exact False.elim hq
    | cont => exact False.elim hq
section
variable {P : Program} {w : World} {K : PySem.W.Frag} {mg : Str → Option Value} {base : Heap}
structure ChkTxt (K : PySem.W.Frag) (mg : Str → Option Value) : Prop where
  isin : mg "isinstance" = none
  int : mg "int" = none
  bool : mg "bool" = none
  count : ∃ t, mg "MOST_COUNT" = some (.int 1000000 t)
  label : ∃ t, mg "MOST_LABEL" = some (.int 999999 t)
  words : ∃ a, mg "WORDS" = some (.ref a) ∧ ∀ H, SqT K H a [.str "level", .str "edge", .str "once"]
def spIsInteger : Sp := fun vs H Q _ => ∃ i : Int, vs = [.int i] ∧ Q (.bl true) H
theorem scIsInteger : FnScope ["x"] ["x"] (defScope sIsInteger) := ⟨rfl, rfl, rfl, by decide +kernel, rfl, by decide +kernel, by decide +kernel⟩
theorem okIsInteger {f : Addr} {fd : FuncData} (F : Fun K "is_integer" "is_integer" sIsInteger f fd) (T : ChkTxt K mg) : FnOk P w K mg base CX0 1 f fd ["x"] spIsInteger := by
  refine F.ok scIsInteger (fun vs H Q E h => ?_) (fun cdv A outer s H vs Q E hr h => ?_)
  · obtain ⟨x, rfl, _⟩ := h
    rfl
  · obtain ⟨i, rfl, k⟩ := h
    refine ⟨_, pss_one (ps_ret (pe_and (pe_callB call_isi (by rfl) T.isin PyProof.Rows.boot_isinstance (pa_cons (pv 0) (pa_cons (pe_bltn (v := .ty "int") (by rfl) T.int PyProof.Rows.boot_int rfl) pa_nil))) (pe_one (pe_not (pe_callB call_isi (by rfl) T.isin PyProof.Rows.boot_isinstance (pa_cons (pv 0) (pa_cons (pe_bltn (v := .ty "bool") (by rfl) T.bool (by decide +kernel) rfl) pa_nil))))))), ?_⟩
    refine ⟨_, rfl, _, _, _, _, true, rfl, .ty "int", .base (.int i), kit_ty (by decide +kernel), ?_⟩
    refine ⟨_, rfl, _, rfl, _, _, _, _, false, rfl, .ty "bool", .base (.int i), kit_ty (by decide +kernel), ?_⟩
    exact ⟨_, rfl, k⟩
def spIsBetween : Sp := fun vs H Q _ => ∃ i a b : Int, vs = [.int i, .int a, .int b] ∧ Q (.bl (decide (a ≤ i) && decide (i ≤ b))) H
theorem scIsBetween : FnScope ["x", "least", "most"] ["x", "least", "most"] (defScope sIsBetween) := ⟨rfl, rfl, rfl, by decide +kernel, rfl, by decide +kernel, by decide +kernel⟩
theorem okIsBetween {f fI : Addr} {fd fdI : FuncData} (F : Fun K "is_between" "is_between" sIsBetween f fd) (GI : FnOk P w K mg base CX0 1 fI fdI ["x"] spIsInteger) (kI : PySem.W.keepIn K (.ref fI) = true) (gI : mg "is_integer" = some (.ref fI)) (bI : Binds K fdI ["x"] []) :
    FnOk P w K mg base CX0 2 f fd ["x", "least", "most"] spIsBetween := by
  refine F.ok scIsBetween (fun vs H Q E h => ?_) (fun cdv A outer s H vs Q E hr h => ?_)
  · obtain ⟨x, y, z, rfl, _⟩ := h
    rfl
  · obtain ⟨i, a, b, rfl, k⟩ := h
    refine ⟨_, pss_one (ps_ret (pe_and (pe_call GI hr (by rfl) gI kI bI .nil pass0 (pa_cons (pv 0) pa_nil)) (pe_one (pe_chain op_le op_le (pv 1) (pv 0) (pv 2))))), ?_⟩
    walk_at "wn"
    refine ⟨i, rfl, ?_⟩
    walk_at "wn"
    refine ⟨_, rfl, _, rfl, a, i, rfl, rfl, _, rfl, ?_⟩
    refine ite2 (fun hc => ?_) (fun hc => ?_)
    · rw [hc, Bool.true_and] at k
      exact ⟨_, rfl, i, b, rfl, rfl, k⟩
    · rw [Bool.eq_false_iff.mpr hc, Bool.false_and] at k
      exact k
def spIsCount : Sp := fun vs H Q _ => ∃ i : Int, vs = [.int i] ∧ Q (.bl (decide (1 ≤ i) && decide (i ≤ 1000000))) H
theorem scIsCount : FnScope ["x"] ["x"] (defScope sIsCount) := ⟨rfl, rfl, rfl, by decide +kernel, rfl, by decide +kernel, by decide +kernel⟩
theorem okIsCount {f fB : Addr} {fd fdB : FuncData} (F : Fun K "is_count" "is_count" sIsCount f fd) (T : ChkTxt K mg) (GB : FnOk P w K mg base CX0 2 fB fdB ["x", "least", "most"] spIsBetween) (kB : PySem.W.keepIn K (.ref fB) = true) (gB : mg "is_between" = some (.ref fB)) (bB : Binds K fdB ["x", "least", "most"] []) :
    FnOk P w K mg base CX0 3 f fd ["x"] spIsCount := by
  refine F.ok scIsCount (fun vs H Q E h => ?_) (fun cdv A outer s H vs Q E hr h => ?_)
  · obtain ⟨x, rfl, _⟩ := h
    rfl
  · obtain ⟨i, rfl, k⟩ := h
    obtain ⟨t, ht⟩ := T.count
    refine ⟨_, pss_one (ps_ret (pe_call GB hr (by rfl) gB kB bB .nil pass0 (pa_cons (pv 0) (pa_cons pe_int (pa_cons (pe_glob (v := .int 1000000) (by rfl) ht ⟨_, rfl⟩) pa_nil))))), ?_⟩
    walk_at "wn"
    exact ⟨i, 1, 1000000, rfl, k⟩
def spIsLabel : Sp := fun vs H Q _ => ∃ i : Int, vs = [.int i] ∧ Q (.bl (decide (0 ≤ i) && decide (i ≤ 999999))) H
theorem scIsLabel : FnScope ["x"] ["x"] (defScope sIsLabel) := ⟨rfl, rfl, rfl, by decide +kernel, rfl, by decide +kernel, by decide +kernel⟩
theorem okIsLabel {f fB : Addr} {fd fdB : FuncData} (F : Fun K "is_label" "is_label" sIsLabel f fd) (T : ChkTxt K mg) (GB : FnOk P w K mg base CX0 2 fB fdB ["x", "least", "most"] spIsBetween) (kB : PySem.W.keepIn K (.ref fB) = true) (gB : mg "is_between" = some (.ref fB)) (bB : Binds K fdB ["x", "least", "most"] []) :
    FnOk P w K mg base CX0 3 f fd ["x"] spIsLabel := by
  refine F.ok scIsLabel (fun vs H Q E h => ?_) (fun cdv A outer s H vs Q E hr h => ?_)
  · obtain ⟨x, rfl, _⟩ := h
    rfl
  · obtain ⟨i, rfl, k⟩ := h
    obtain ⟨t, ht⟩ := T.label
    refine ⟨_, pss_one (ps_ret (pe_call GB hr (by rfl) gB kB bB .nil pass0 (pa_cons (pv 0) (pa_cons pe_int (pa_cons (pe_glob (v := .int 999999) (by rfl) ht ⟨_, rfl⟩) pa_nil))))), ?_⟩
    walk_at "wn"
    exact ⟨i, 0, 999999, rfl, k⟩
def wordsL : List Str := ["level", "edge", "once"]
def spIsWord : Sp := fun vs H Q _ => ∃ x : Str, vs = [.str x] ∧ x ∈ wordsL ∧ Q (.bl true) H
theorem word_in : ∀ x ∈ wordsL, inV (.str x) [.str "level", .str "edge", .str "once"] = true := by decide +kernel
theorem scIsWord : FnScope ["x"] ["x"] (defScope sIsWord) := ⟨rfl, rfl, rfl, by decide +kernel, rfl, by decide +kernel, by decide +kernel⟩
theorem okIsWord {f : Addr} {fd : FuncData} (F : Fun K "is_word" "is_word" sIsWord f fd) (T : ChkTxt K mg) : FnOk P w K mg base CX0 1 f fd ["x"] spIsWord := by
  refine F.ok scIsWord (fun vs H Q E h => ?_) (fun cdv A outer s H vs Q E hr h => ?_)
  · obtain ⟨x, rfl, _⟩ := h
    rfl
  · obtain ⟨x, rfl, hx, k⟩ := h
    obtain ⟨aW, gW, sW⟩ := T.words
    refine ⟨_, pss_one (ps_ret (pe_cmpR op_in_seq (pv 0) (pe_glob (v := .ref aW) (by rfl) gW rfl) (by rfl))), ?_⟩
    walk_at "wn"
    refine ⟨aW, _, rfl, .inr (sW _), rfl, by decide, ?_⟩
    show Q (.bl (inV _ _)) H
    rw [word_in x hx]
    exact k
end

/-! the classes of the program -/
structure ClsF (K : PySem.W.Frag) (C : Addr) (fs : List Str) : Prop where
  cl : Cls K C
  no : ∀ f ∈ fs, NoAttr K C f
abbrev regF : List Str := ["number", "source", "word", "armed"]
abbrev wsF : List Str := ["entries", "queue"]
abbrev sysF : List Str := ["process_limit", "number_limit", "tables", "sources", "sets", "next_thing"]
def regO (C dx : Addr) (n s : Int) (wd : Str) (ar : Bool) : HO := .ins C dx [("number", .int n), ("source", .int s), ("word", .str wd), ("armed", .bl ar)]
def wsO (C dx e q : Addr) : HO := .ins C dx [("entries", .ref e), ("queue", .ref q)]
theorem Same.new' {H : Hp} {l : Addr} {o : HO} (hl : H l = none) : Same H (upd H l o) := fun b u e => by rw [upd_ne (ne_of_none e hl)]; exact e
theorem inV_int (l : Int) : ∀ qs : List Int, inV (.int l) (qs.map V.int) = decide (l ∈ qs)
  | [] => rfl
  | x :: qs => by
    have ih := inV_int l qs
    unfold inV at ih ⊢
    rw [List.map_cons, List.any_cons, ih]
    have e : eqV (V.int x) (V.int l) = decide (x = l) := rfl
    rw [e]
    by_cases h : x = l
    · rw [decide_eq_true h, Bool.true_or]
      exact (decide_eq_true (by rw [h]; exact List.mem_cons_self)).symm
    · rw [decide_eq_false h, Bool.false_or]
      by_cases h2 : l ∈ qs
      · rw [decide_eq_true h2]
        exact (decide_eq_true (List.mem_cons_of_mem _ h2)).symm
      · rw [decide_eq_false h2]
        exact (decide_eq_false fun z => (List.mem_cons.mp z).elim (fun e => h e.symm) h2).symm
theorem flat_ints (qs : List Int) : (qs.map V.int).all flatV = true := by
  rw [List.all_map, List.all_eq_true]
  intro x _
  rfl
section
variable {P : Program} {w : World} {K : PySem.W.Frag} {mg : Str → Option Value} {base : Heap} {CR CW : Addr}
/-! Registration -/
def spRegInit (CR : Addr) : Sp := fun vs H Q _ => ∃ (a dx : Addr) (n s : Int) (wd : Str) (ar : Bool), vs = [.ref a, .int n, .int s, .str wd, .bl ar] ∧ H a = some (.ins CR dx []) ∧
  ∀ H', (∀ b, b ≠ a → H' b = H b) → H' a = some (regO CR dx n s wd ar) → Q .non H'
theorem scRegInit : FnScope ["self", "number", "source", "word", "armed"] ["self", "number", "source", "word", "armed"] (defScope sRegInit) := ⟨rfl, rfl, rfl, by decide +kernel, rfl, by decide +kernel, by decide +kernel⟩
theorem okRegInit {f : Addr} {fd : FuncData} (F : Fun K "__init__" "Registration.__init__" sRegInit f fd) (T : ClsF K CR regF) : FnOk P w K mg base CX0 1 f fd ["self", "number", "source", "word", "armed"] (spRegInit CR) := by
  refine F.ok scRegInit (fun vs H Q E h => ?_) (fun cdv A outer s H vs Q E hr h => ?_)
  · obtain ⟨_, _, _, _, _, _, rfl, _⟩ := h
    rfl
  · obtain ⟨a, dx, n, s, wd, ar, rfl, ha, k⟩ := h
    refine ⟨_, pss_cons (ps_fld (pv 0) (pv 1) rfl) (pss_cons (ps_fld (pv 0) (pv 2) rfl) (pss_cons (ps_fld (pv 0) (pv 3) rfl) (pss_one (ps_fld (pv 0) (pv 4) rfl)))), ?_⟩
    refine ⟨_, rfl, _, rfl, a, CR, dx, _, rfl, ha, T.cl, T.no _ (by decide), by decide, ?_⟩
    refine ⟨_, rfl, _, rfl, a, CR, dx, _, rfl, upd_same, T.cl, T.no _ (by decide), by show 1 < 1000; decide, ?_⟩
    refine ⟨_, rfl, _, rfl, a, CR, dx, _, rfl, upd_same, T.cl, T.no _ (by decide), by show 2 < 1000; decide, ?_⟩
    refine ⟨_, rfl, _, rfl, a, CR, dx, _, rfl, upd_same, T.cl, T.no _ (by decide), by show 3 < 1000; decide, ?_⟩
    exact k _ (fun b hb => by rw [upd_ne hb, upd_ne hb, upd_ne hb, upd_ne hb]) upd_same
/-! WaitingSet -/
def spWsInit (CW : Addr) : Sp := fun vs H Q _ => ∃ (a dx : Addr), vs = [.ref a] ∧ H a = some (.ins CW dx []) ∧
  ∀ H' e q, H e = none → H q = none → H' e = some (.dK []) → H' q = some (.lst []) → H' a = some (wsO CW dx e q) → (∀ b, b ≠ a → b ≠ e → b ≠ q → H' b = H b) → Q .non H'
theorem scWsInit : FnScope ["self"] ["self"] (defScope sWsInit) := ⟨rfl, rfl, rfl, by decide +kernel, rfl, by decide +kernel, by decide +kernel⟩
theorem okWsInit {f : Addr} {fd : FuncData} (F : Fun K "__init__" "WaitingSet.__init__" sWsInit f fd) (T : ClsF K CW wsF) : FnOk P w K mg base CX0 1 f fd ["self"] (spWsInit CW) := by
  refine F.ok scWsInit (fun vs H Q E h => ?_) (fun cdv A outer s H vs Q E hr h => ?_)
  · obtain ⟨_, _, rfl, _⟩ := h
    rfl
  · obtain ⟨a, dx, rfl, ha, k⟩ := h
    refine ⟨_, pss_cons (ps_fld (pv 0) pe_dnewK rfl) (pss_one (ps_fld (pv 0) (pe_lst pa_nil) rfl)), ?_⟩
    intro e he
    have nae : a ≠ e := ne_of_none ha he
    refine ⟨_, rfl, a, CW, dx, _, rfl, by rw [upd_ne nae]; exact ha, T.cl, T.no _ (by decide), by decide, ?_⟩
    refine ⟨Nat.zero_le _, fun q hq => ?_⟩
    have nqa : q ≠ a := fun z => by rw [z, upd_same] at hq; cases hq
    rw [upd_ne nqa] at hq
    have nqe : q ≠ e := fun z => by rw [z, upd_same] at hq; cases hq
    rw [upd_ne nqe] at hq
    refine ⟨_, rfl, a, CW, dx, _, rfl, by rw [upd_ne (Ne.symm nqa)]; exact upd_same, T.cl, T.no _ (by decide), by show 1 < 1000; decide, ?_⟩
    refine k _ e q he hq ?_ ?_ upd_same (fun b h1 h2 h3 => ?_)
    · rw [upd_ne (Ne.symm nae), upd_ne (Ne.symm nqe), upd_ne (Ne.symm nae), upd_same]
    · rw [upd_ne nqa, upd_same]
    · rw [upd_ne h1, upd_ne h3, upd_ne h1, upd_ne h2]
/-! append_pending -/
def qAdd (l : Int) (qs : List Int) : List Int := if l ∈ qs then qs else qs ++ [l]
def spAppend (CW : Addr) : Sp := fun vs H Q _ => ∃ (a dx e q : Addr) (l : Int) (qs : List Int), vs = [.ref a, .int l] ∧ H a = some (wsO CW dx e q) ∧ H q = some (.lst (qs.map V.int)) ∧ qs.length ≤ 10000 ∧
  ∀ H', H' q = some (.lst ((qAdd l qs).map V.int)) → (∀ b, b ≠ q → H' b = H b) → Q .non H'
theorem scAppend : FnScope ["self", "label"] ["self", "label"] (defScope sAppend) := ⟨rfl, rfl, rfl, by decide +kernel, rfl, by decide +kernel, by decide +kernel⟩
theorem okAppend {f : Addr} {fd : FuncData} (F : Fun K "append_pending" "WaitingSet.append_pending" sAppend f fd) (T : ClsF K CW wsF) : FnOk P w K mg base CX0 1 f fd ["self", "label"] (spAppend CW) := by
  refine F.ok scAppend (fun vs H Q E h => ?_) (fun cdv A outer s H vs Q E hr h => ?_)
  · obtain ⟨_, _, _, _, _, _, rfl, _⟩ := h
    rfl
  · obtain ⟨a, dx, e, q, l, qs, rfl, ha, hq, hl, k⟩ := h
    refine ⟨_, pss_one (ps_if (pt_cmpR op_notIn_seq (pv 1) (pe_fld (pv 0) rfl) (by rfl)) (pss_one (ps_expr (pe_bm PySem.F.plainAttrs_list PySem.F.slot_list_append PySem.F.type_list_append mt_append (pe_fld (pv 0) rfl) (pa_cons (pv 1) pa_nil)))) pss_nil), ?_⟩
    walk_at "wn"
    refine ⟨_, rfl, a, CW, dx, _, _, rfl, ha, T.cl, T.no _ (by decide), rfl, ?_⟩
    refine ⟨q, qs.map V.int, rfl, .inl (SqL.of hq), rfl, flat_ints qs, ?_⟩
    refine ⟨_, rfl, ?_⟩
    rw [inV_int]
    by_cases h : l ∈ qs
    · rw [decide_eq_true h]
      walk_at "wn"
      refine k H ?_ fun _ _ => rfl
      unfold qAdd
      rw [if_pos h]
      exact hq
    · rw [decide_eq_false h]
      walk_at "wn"
      refine ⟨_, rfl, a, CW, dx, _, _, rfl, ha, T.cl, T.no _ (by decide), rfl, ?_⟩
      refine ⟨.inl ⟨rfl, _, SqL.of hq⟩, ?_⟩
      refine ⟨_, rfl, q, _, _, rfl, rfl, hq, by rw [List.length_map, sizeLine_eq]; omega, ?_⟩
      refine k _ ?_ fun b hb => upd_ne hb
      unfold qAdd
      rw [if_neg h, upd_same, List.map_append]
      rfl
end

/-- a registration as data -/
structure Reg where
  num : Int
  src : Int
  word : Str
  armed : Bool
/-- the entries: labels, with what stands at the address of each -/
def entKV (ls : List Int) (ad : Int → Addr) : List (Key × V) := ls.map fun l => (Sum.inl l, .ref (ad l))
theorem ent_val (ls : List Int) (ad : Int → Addr) (l : Int) : valV (entKV ls ad) (Sum.inl l) = if l ∈ ls then some (.ref (ad l)) else none := by
  induction ls with
  | nil => rfl
  | cons x ls ih =>
    unfold entKV at ih ⊢
    rw [List.map_cons]
    by_cases h : x = l
    · subst h
      rw [valV_pos rfl, if_pos List.mem_cons_self]
    · rw [valV_neg (fun z => h (Sum.inl.inj z)), ih]
      by_cases h2 : l ∈ ls
      · rw [if_pos h2, if_pos (List.mem_cons_of_mem _ h2)]
      · rw [if_neg h2, if_neg fun z => (List.mem_cons.mp z).elim (fun e => h e.symm) h2]
theorem ent_put (ls : List Int) (ad : Int → Addr) (l : Int) (b : Addr) : putK (entKV ls ad) (Sum.inl l) (.ref b) = entKV (if l ∈ ls then ls else ls ++ [l]) (fun j => if j = l then b else ad j) := by
  unfold putK
  rw [valV_any, ent_val]
  by_cases h : l ∈ ls
  · rw [if_pos h, if_pos h]
    show List.map _ (entKV ls ad) = _
    unfold entKV
    rw [List.map_map]
    refine List.map_congr_left fun x _ => ?_
    by_cases e : x = l
    · show (if (Sum.inl x : Key) = Sum.inl l then _ else _) = _
      rw [if_pos (by rw [e])]
      show (_, V.ref b) = (_, V.ref (if x = l then b else ad x))
      rw [if_pos e]
    · show (if (Sum.inl x : Key) = Sum.inl l then _ else _) = _
      rw [if_neg (fun z => e (Sum.inl.inj z))]
      show _ = (_, V.ref (if x = l then b else ad x))
      rw [if_neg e]
  · rw [if_neg h, if_neg h]
    show entKV ls ad ++ _ = _
    unfold entKV
    rw [List.map_append]
    have e1 : ls.map (fun j => ((Sum.inl j : Key), V.ref (if j = l then b else ad j))) = ls.map fun j => (Sum.inl j, V.ref (ad j)) := List.map_congr_left fun x hx => by rw [if_neg fun z : x = l => h (by rw [← z]; exact hx)]
    rw [e1]
    congr 1
    show [(_, V.ref b)] = [(_, V.ref (if l = l then b else ad l))]
    rw [if_pos rfl]
/-- at the labels' addresses stand the registrations -/
def RegsAt (CR : Addr) (H : Hp) (ls : List Int) (ad : Int → Addr) (reg : Int → Reg) : Prop := ∀ l ∈ ls, ∃ dx, H (ad l) = some (regO CR dx (reg l).num (reg l).src (reg l).word (reg l).armed)
section
variable {P : Program} {w : World} {K : PySem.W.Frag} {mg : Str → Option Value} {base : Heap} {CR CW : Addr}
theorem str_inj' {x y : Str} : V.str x = V.str y ↔ x = y := ⟨fun h => by cases h; rfl, fun h => by rw [h]⟩
def settled (reg : Int → Reg) (l : Int) : Int → Reg := fun j => if j = l ∧ (reg l).word = "once" then { reg l with armed := false } else reg j
theorem settled_at {reg : Int → Reg} {l : Int} (h : (reg l).word = "once") : settled reg l l = { reg l with armed := false } := if_pos ⟨rfl, h⟩
theorem settled_ne {reg : Int → Reg} {l j : Int} (h : j ≠ l) : settled reg l j = reg j := if_neg fun z => h z.1
theorem settled_no {reg : Int → Reg} {l j : Int} (h : (reg l).word ≠ "once") : settled reg l j = reg j := if_neg fun z => h z.2
/-! put -/
def spPut (CW : Addr) : Sp := fun vs H Q _ => ∃ (a dx e q b : Addr) (l : Int) (r : Bool) (qs : List Int) (kvs : List (Key × V)), vs = [.ref a, .int l, .ref b, .bl r] ∧ H a = some (wsO CW dx e q) ∧ H q = some (.lst (qs.map V.int)) ∧ H e = some (.dK kvs) ∧ qs.length ≤ 10000 ∧ kvs.length ≤ 10000 ∧
  ∀ H', H' e = some (.dK (putK kvs (Sum.inl l) (.ref b))) → H' q = some (.lst ((if r = true then qAdd l qs else qs).map V.int)) → (∀ x, x ≠ e → x ≠ q → H' x = H x) → Q .non H'
theorem scPut : FnScope ["self", "label", "kept", "ready"] ["self", "label", "kept", "ready"] (defScope sPut) := ⟨rfl, rfl, rfl, by decide +kernel, rfl, by decide +kernel, by decide +kernel⟩
theorem okPut {f fA : Addr} {fd fdA : FuncData} (F : Fun K "put" "WaitingSet.put" sPut f fd) (T : ClsF K CW wsF) (GA : FnOk P w K mg base CX0 1 fA fdA ["self", "label"] (spAppend CW)) (mA : Meth K CW "append_pending" fA) (bA : Binds K fdA ["self", "label"] []) :
    FnOk P w K mg base CX0 2 f fd ["self", "label", "kept", "ready"] (spPut CW) := by
  refine F.ok scPut (fun vs H Q E h => ?_) (fun cdv A outer s H vs Q E hr h => ?_)
  · obtain ⟨_, _, _, _, _, _, _, _, _, rfl, _⟩ := h
    rfl
  · obtain ⟨a, dx, e, q, b, l, r, qs, kvs, rfl, ha, hq, he, hl, hl2, k⟩ := h
    have hu := hu_of hr
    refine ⟨_, pss_cons (ps_dput hu (pe_fld (pv 0) rfl) (pv 1) (pv 2) rfl) (pss_one (ps_if (pt_val (pv 3)) (pss_one (ps_expr (pe_meth (pv 0) T.cl mA GA hr bA .nil pass0 (pa_cons (pv 1) pa_nil)))) pss_nil)), ?_⟩
    have nae : a ≠ e := ne_of ha he (by intro z; cases z)
    have nqe : q ≠ e := ne_of hq he (by intro z; cases z)
    refine ⟨_, rfl, _, rfl, a, CW, dx, _, _, rfl, ha, T.cl, T.no _ (by decide), rfl, ?_⟩
    refine ⟨_, rfl, e, _, rfl, DPut.k (k := Sum.inl l) he (by rw [sizeLine_eq]; omega), ?_⟩
    refine ⟨_, rfl, r, rfl, ?_⟩
    have hq1 : upd H e (.dK (putK kvs (Sum.inl l) (.ref b))) q = some (.lst (qs.map V.int)) := by rw [upd_ne nqe]; exact hq
    cases r with
    | true =>
      walk_at "wn"
      refine ⟨_, rfl, a, dx, _, rfl, by rw [upd_ne nae]; exact ha, rfl, ?_⟩
      walk_at "wn"
      refine ⟨a, dx, e, q, l, qs, rfl, by rw [upd_ne nae]; exact ha, hq1, hl, fun H' h1 h2 => ?_⟩
      refine k H' ?_ h1 fun x n1 n2 => ?_
      · rw [h2 e (Ne.symm nqe), upd_same]
      · rw [h2 x n2, upd_ne n1]
    | false =>
      walk_at "wn"
      exact k _ upd_same hq1 fun x n1 n2 => upd_ne n1
/-! settle -/
def spSettle (CW CR : Addr) : Sp := fun vs H Q _ => ∃ (a dx e q : Addr) (l : Int) (qs ls : List Int) (ad : Int → Addr) (reg : Int → Reg), vs = [.ref a, .int l] ∧ H a = some (wsO CW dx e q) ∧ H q = some (.lst (qs.map V.int)) ∧ H e = some (.dK (entKV ls ad)) ∧ RegsAt CR H ls ad reg ∧ l ∈ ls ∧
  CW ≠ CR ∧ qs.length ≤ 10000 ∧ ls.length ≤ 10000 ∧
  ∀ H' ad', H' e = some (.dK (entKV ls ad')) → H' q = some (.lst ((if (reg l).word = "level" then qs ++ [l] else qs).map V.int)) → (∀ j, j ≠ l → ad' j = ad j) → (ad' l = ad l ∨ H (ad' l) = none) →
    RegsAt CR H' ls ad' (settled reg l) → (∀ x o, x ≠ e → x ≠ q → H x = some o → H' x = some o) → Q .non H'
theorem scSettle : FnScope ["self", "label", "kept"] ["self", "label"] (defScope sSettle) := ⟨rfl, rfl, rfl, by decide +kernel, rfl, by decide +kernel, by decide +kernel⟩
theorem okSettle {f fI : Addr} {fd fdI : FuncData} (F : Fun K "settle" "WaitingSet.settle" sSettle f fd) (T : ClsF K CW wsF) (TR : ClsF K CR regF) (gR : mg "Registration" = some (.ref CR)) (M : Mk K CR fI) (GI : FnOk P w K mg base CX0 1 fI fdI ["self", "number", "source", "word", "armed"] (spRegInit CR)) (bI : Binds K fdI ["self", "number", "source", "word", "armed"] []) :
    FnOk P w K mg base CX0 3 f fd ["self", "label"] (spSettle CW CR) := by
  refine F.ok scSettle (fun vs H Q E h => ?_) (fun cdv A outer s H vs Q E hr h => ?_)
  · obtain ⟨_, _, _, _, _, _, _, _, _, rfl, _⟩ := h
    rfl
  · obtain ⟨a, dx, e, q, l, qs, ls, ad, reg, rfl, ha, hq, he, hR, hl, nWR, hz, hz2, k⟩ := h
    have hu := hu_of hr
    refine ⟨_, pss_cons (ps_set (i := 2) scSettle.nd rfl (Or.inl rfl) (pe_dget hu (pe_fld (pv 0) rfl) (pv 1) (fun _ _ => rfl)))
      (pss_cut (ps_if (pt_cmpR op_eq (pe_fld (pv 2) rfl) pe_str (nomark _)) (pss_one (ps_expr (pe_bm PySem.F.plainAttrs_list PySem.F.slot_list_append PySem.F.type_list_append mt_append (pe_fld (pv 0) rfl) (pa_cons (pv 1) pa_nil)))) pss_nil)
      (pss_one (ps_if (pt_cmpR op_eq (pe_fld (pv 2) rfl) pe_str (nomark _)) (pss_one (ps_dput hu (pe_fld (pv 0) rfl) (pv 1) (pe_make M GI hr (by rfl) gR bI .nil pass0 (pa_cons (pe_fld (pv 2) rfl) (pa_cons (pe_fld (pv 2) rfl) (pa_cons (pe_fld (pv 2) rfl) (pa_cons pe_bl pa_nil))))) rfl)) pss_nil))), ?_⟩
    obtain ⟨dr, hr1⟩ := hR l hl
    have nqe : q ≠ e := ne_of hq he (by intro z; cases z)
    have nae : a ≠ e := ne_of ha he (by intro z; cases z)
    have naq : a ≠ q := ne_of ha hq (by intro z; cases z)
    have nre : ad l ≠ e := ne_of hr1 he (by intro z; cases z)
    have nrq : ad l ≠ q := ne_of hr1 hq (by intro z; cases z)
    refine ⟨_, rfl, a, CW, dx, _, _, rfl, ha, T.cl, T.no _ (by decide), rfl, ?_⟩
    have hv : valV (entKV ls ad) (Sum.inl l) = some (.ref (ad l)) := by rw [ent_val, if_pos hl]
    refine ⟨_, rfl, e, _, rfl, hv ▸ DGet.k (k := Sum.inl l) he, ?_⟩
    refine ⟨fun σ' H1 => σ' = [some (.ref a), some (.int l), some (.ref (ad l))] ∧ H1 q = some (.lst ((if (reg l).word = "level" then qs ++ [l] else qs).map V.int)) ∧ ∀ x, x ≠ q → H1 x = H x, ?_, ?_⟩
    · refine ⟨_, rfl, ad l, CR, dr, _, _, rfl, hr1, TR.cl, TR.no _ (by decide), rfl, rfl, _, rfl, ?_⟩
      by_cases h : (reg l).word = "level"
      · rw [decide_eq_true (str_inj'.mpr h)]
        walk_at "wn"
        refine ⟨_, rfl, a, CW, dx, _, _, rfl, ha, T.cl, T.no _ (by decide), rfl, ?_⟩
        refine ⟨.inl ⟨rfl, _, SqL.of hq⟩, ?_⟩
        refine ⟨_, rfl, q, _, _, rfl, rfl, hq, by rw [List.length_map, sizeLine_eq]; omega, ?_⟩
        refine ⟨rfl, ?_, fun x n => upd_ne n⟩
        rw [if_pos h, upd_same, List.map_append]
        rfl
      · rw [decide_eq_false (fun z => h (str_inj'.mp z))]
        walk_at "wn"
        exact ⟨rfl, by rw [if_neg h]; exact hq, fun _ _ => rfl⟩
    rintro σ' H1 ⟨rfl, hq1, h1⟩
    have hr2 : H1 (ad l) = _ := (h1 _ nrq).trans hr1
    have he1 : H1 e = _ := (h1 _ (Ne.symm nqe)).trans he
    have ha1 : H1 a = _ := (h1 _ naq).trans ha
    have hR1 : ∀ j ∈ ls, ∃ dx, H1 (ad j) = some (regO CR dx (reg j).num (reg j).src (reg j).word (reg j).armed) := fun j hj => by
      obtain ⟨dj, ej⟩ := hR j hj
      exact ⟨dj, (h1 _ (ne_of ej hq (by intro z; cases z))).trans ej⟩
    refine ⟨_, rfl, ad l, CR, dr, _, _, rfl, hr2, TR.cl, TR.no _ (by decide), rfl, rfl, _, rfl, ?_⟩
    by_cases h : (reg l).word = "once"
    · rw [decide_eq_true (str_inj'.mpr h)]
      walk_at "wn"
      refine ⟨_, rfl, ad l, CR, dr, _, _, rfl, hr2, TR.cl, TR.no _ (by decide), rfl, ?_⟩
      refine ⟨_, rfl, ad l, CR, dr, _, _, rfl, hr2, TR.cl, TR.no _ (by decide), rfl, ?_⟩
      refine ⟨_, rfl, ad l, CR, dr, _, _, rfl, hr2, TR.cl, TR.no _ (by decide), rfl, ?_⟩
      walk_at "wn"
      intro x dx2 hx hdx ndx
      refine ⟨x, dx2, _, _, _, _, rfl, upd_same, fun H2 k1 k2 => ⟨rfl, ?_⟩⟩
      have k3 : ∀ b o, H1 b = some o → H2 b = some o := fun b o e => by
        rw [k1 b (ne_of_none e hx), upd_ne (ne_of_none e hx), upd_ne (ne_of_none e hdx)]
        exact e
      refine ⟨_, rfl, a, CW, dx, _, _, rfl, k3 _ _ ha1, T.cl, T.no _ (by decide), rfl, ?_⟩
      refine ⟨_, rfl, e, _, rfl, DPut.k (k := Sum.inl l) (k3 _ _ he1) (by rw [sizeLine_eq]; unfold entKV; rw [List.length_map]; omega), ?_⟩
      rw [ent_put, if_pos hl]
      have nxe : x ≠ e := fun z => by rw [z, he1] at hx; cases hx
      refine k _ _ upd_same ?_ (fun j hj => if_neg hj) (.inr ?_) (fun j hj => ?_) fun b o n1 n2 e2 => ?_
      · rw [upd_ne nqe]
        exact k3 _ _ hq1
      · show H (if l = l then x else ad l) = none
        rw [if_pos rfl, ← h1 x (fun z => by rw [z, hq1] at hx; cases hx)]
        exact hx
      · show ∃ dx, upd H2 e _ (if j = l then x else ad j) = _
        by_cases ej : j = l
        · rw [ej, if_pos rfl, settled_at h, upd_ne nxe, k2]
          exact ⟨dx2, rfl⟩
        · rw [if_neg ej, settled_ne ej]
          obtain ⟨dj, e3⟩ := hR1 j hj
          rw [upd_ne (ne_of e3 he1 (by intro z; cases z))]
          exact ⟨dj, k3 _ _ e3⟩
      · rw [upd_ne n1]
        exact k3 _ _ ((h1 _ n2).trans e2)
    · rw [decide_eq_false (fun z => h (str_inj'.mp z))]
      walk_at "wn"
      refine k H1 ad he1 hq1 (fun _ _ => rfl) (.inl rfl) (fun j hj => ?_) fun b o n1 n2 e2 => (h1 _ n2).trans e2
      rw [settled_no h]
      exact hR1 j hj
/-! label_of -/
def keyOf (reg : Int → Reg) (n s : Int) (l : Int) : Bool := decide ((reg l).num = n) && decide ((reg l).src = s)
def spLabelOf (CW CR : Addr) : Sp := fun vs H Q _ => ∃ (a dx e q : Addr) (n s : Int) (ls : List Int) (ad : Int → Addr) (reg : Int → Reg), vs = [.ref a, .int n, .int s] ∧ H a = some (wsO CW dx e q) ∧ H e = some (.dK (entKV ls ad)) ∧ RegsAt CR H ls ad reg ∧
  ∀ H', Same H H' → Q (match ls.find? (keyOf reg n s) with | some l => .int l | none => .non) H'
theorem scLabelOf : FnScope ["self", "number", "source", "label", "kept"] ["self", "number", "source"] (defScope sLabelOf) := ⟨rfl, rfl, rfl, by decide +kernel, rfl, by decide +kernel, by decide +kernel⟩
theorem okLabelOf {f : Addr} {fd : FuncData} (F : Fun K "label_of" "WaitingSet.label_of" sLabelOf f fd) (T : ClsF K CW wsF) (TR : ClsF K CR regF) : FnOk P w K mg base CX0 1 f fd ["self", "number", "source"] (spLabelOf CW CR) := by
  refine F.ok scLabelOf (fun vs H Q E h => ?_) (fun cdv A outer s H vs Q E hr h => ?_)
  · obtain ⟨_, _, _, _, _, _, _, _, _, rfl, _⟩ := h
    rfl
  · obtain ⟨a, dx, e, q, n, s, ls, ad, reg, rfl, ha, he, hR, k⟩ := h
    refine ⟨_, pss_cons (ps_lock (ps_for PassesOwn.never rfl (pi_items (pe_fld (pv 0) rfl)) (pg_tup rfl (pgs_cons (pg_name (i := 3) scLabelOf.nd rfl (Or.inl rfl)) (pgs_cons (pg_name (i := 4) scLabelOf.nd rfl (Or.inl rfl)) pgs_nil)))
        (pss_one (ps_if (PW.pt (pw_and (pt_cmpR op_eq (pe_fld (pv 4) rfl) (pv 1) (nomark _)) (pw_and1 (pt_cmpR op_eq (pe_fld (pv 4) rfl) (pv 2) (nomark _))))) (pss_one (ps_ret (pv 3))) pss_nil))))
      (pss_one (ps_ret pe_non)), ?_⟩
    have nae : a ≠ e := ne_of ha he (by intro z; cases z)
    refine ⟨e, _, he, trivial, fun od => ?_⟩
    have ha1 : upd H e (.frz od (.dK (entKV ls ad))) a = some (wsO CW dx e q) := by rw [upd_ne nae]; exact ha
    refine ⟨_, rfl, a, CW, dx, _, _, rfl, ha1, T.cl, T.no _ (by decide), rfl, ?_⟩
    refine ⟨e, od, entKV ls ad, rfl, upd_same, ?_⟩
    -- behind the lock
    have un : ∀ {H1 : Hp}, Same (upd H e (.frz od (.dK (entKV ls ad)))) H1 → Same H (upd H1 e (.dK (entKV ls ad))) := fun {H1} sm b o e1 => by
      by_cases hb : b = e
      · rw [hb, upd_same, ← he, ← hb, e1]
      · rw [upd_ne hb]
        exact sm _ _ (by rw [upd_ne hb]; exact e1)
    have hR1 : ∀ j ∈ ls, ∃ dx, upd H e (.frz od (.dK (entKV ls ad))) (ad j) = some (regO CR dx (reg j).num (reg j).src (reg j).word (reg j).armed) := fun j hj => by
      obtain ⟨dj, ej⟩ := hR j hj
      exact ⟨dj, by rw [upd_ne (ne_of ej he (by intro z; cases z))]; exact ej⟩
    refine for_it walk_items (fun i σ' H1 => ∃ u v : Option V, σ' = [some (.ref a), some (.int n), some (.int s), u, v] ∧ Same (upd H e (.frz od (.dK (entKV ls ad)))) H1 ∧ ∀ j l, ls[j]? = some l → j < i → keyOf reg n s l = false) ⟨_, _, rfl, Same.refl _, fun _ _ _ z => absurd z (Nat.not_lt_zero _)⟩ (fun i σ' H1 _ ⟨_, _, _, sm, _⟩ => sm _ _ upd_same) ?_ ?_
    · rintro i x σ' H1 H2 hi ⟨u, v, rfl, sm, hn⟩ ⟨T1, x1, y1, rfl, nT, rfl, ex, ey⟩
      have hi' : i < ls.length := by unfold entKV at hi; rwa [List.length_map] at hi
      have e1 : (entKV ls ad)[i]? = some (Sum.inl ls[i], .ref (ad ls[i])) := by
        unfold entKV
        rw [List.getElem?_map, List.getElem?_eq_getElem hi']
        rfl
      have ex : (entKV ls ad)[i]?.map (fun kv => kV kv.1) = some x1 := ex
      have ey : (entKV ls ad)[i]?.map Prod.snd = some y1 := ey
      rw [e1] at ex ey
      cases ex
      cases ey
      have smT := sm.trans (Same.new' (o := .tup [V.int ls[i], V.ref (ad ls[i])]) nT)
      obtain ⟨dr, er⟩ := hR1 ls[i] (List.getElem_mem hi')
      have er2 := smT _ _ er
      refine ⟨T1, _, rfl, SqT.of upd_same, rfl, _, _, rfl, ?_⟩
      walk_at "wn"
      refine ⟨_, _, rfl, ?_⟩
      walk_at "wn"
      refine ⟨rfl, ?_⟩
      refine ⟨_, rfl, ad ls[i], CR, dr, _, _, rfl, er2, TR.cl, TR.no _ (by decide), rfl, _, rfl, rfl, _, rfl, ?_⟩
      have no : keyOf reg n s ls[i] = false → ∃ u v : Option V, ([some (.ref a), some (.int n), some (.int s), some (.int ls[i]), some (.ref (ad ls[i]))] : L2.St) = [some (.ref a), some (.int n), some (.int s), u, v] ∧ Same (upd H e (.frz od (.dK (entKV ls ad)))) (upd H1 T1 (.tup [V.int ls[i], V.ref (ad ls[i])])) ∧ ∀ j l, ls[j]? = some l → j < i + 1 → keyOf reg n s l = false := fun hk => ⟨_, _, rfl, smT, fun j l ej hj => by
        rcases Nat.lt_or_ge j i with z | z
        · exact hn j l ej z
        · obtain rfl : j = i := by omega
          rw [List.getElem?_eq_getElem hi'] at ej
          cases ej
          exact hk⟩
      by_cases h1 : (reg ls[i]).num = n
      · rw [decide_eq_true (by rw [h1])]
        walk_at "wn"
        refine ⟨_, rfl, ad ls[i], CR, dr, _, _, rfl, er2, TR.cl, TR.no _ (by decide), rfl, _, rfl, rfl, _, rfl, ?_⟩
        by_cases h2 : (reg ls[i]).src = s
        · rw [decide_eq_true (by rw [h2])]
          walk_at "wn"
          refine ⟨smT _ _ upd_same, ?_⟩
          have hf : ls.find? (keyOf reg n s) = some ls[i] := by
            rw [List.find?_eq_some_iff_getElem]
            refine ⟨by unfold keyOf; rw [decide_eq_true h1, decide_eq_true h2]; rfl, i, hi', rfl, fun j hj => ?_⟩
            rw [hn j _ (List.getElem?_eq_getElem (by omega)) hj]
            rfl
          have z := k _ (un smT)
          rw [hf] at z
          exact z
        · rw [decide_eq_false fun z => h2 (V.int.inj z)]
          walk_at "wn"
          exact no (by unfold keyOf; rw [decide_eq_false h2, Bool.and_false])
      · rw [decide_eq_false fun z => h1 (V.int.inj z)]
        walk_at "wn"
        exact no (by unfold keyOf; rw [decide_eq_false h1, Bool.false_and])
    · rintro σ' H1 ⟨u, v, rfl, sm, hn⟩
      refine ⟨sm _ _ upd_same, ?_⟩
      walk_at "wn"
      have hf : ls.find? (keyOf reg n s) = none := by
        rw [List.find?_eq_none]
        intro l hl
        obtain ⟨j, hj, rfl⟩ := List.getElem_of_mem hl
        rw [hn j _ (List.getElem?_eq_getElem hj) (by unfold entKV; rw [List.length_map]; exact hj)]
        exact Bool.false_ne_true
      have z := k _ (un sm)
      rw [hf] at z
      exact z
/-! notice -/
def noticeQ (reg : Int → Reg) (s : Int) (ls qs : List Int) : List Int := ls.foldl (fun acc l => if (reg l).src = s ∧ (reg l).armed = true then qAdd l acc else acc) qs
theorem notice_len (reg : Int → Reg) (s : Int) : ∀ ls qs : List Int, (noticeQ reg s ls qs).length ≤ qs.length + ls.length
  | [], _ => Nat.le_refl _
  | l :: ls, qs => by
    have := notice_len reg s ls (if (reg l).src = s ∧ (reg l).armed = true then qAdd l qs else qs)
    have h2 : (if (reg l).src = s ∧ (reg l).armed = true then qAdd l qs else qs).length ≤ qs.length + 1 := by
      unfold qAdd
      split
      · split
        · omega
        · rw [List.length_append]
          exact Nat.le_refl _
      · omega
    refine Nat.le_trans this ?_
    rw [List.length_cons]
    omega
theorem notice_step (reg : Int → Reg) (s : Int) (ls qs : List Int) {i : Nat} (hi : i < ls.length) : noticeQ reg s (ls.take (i + 1)) qs = if (reg ls[i]).src = s ∧ (reg ls[i]).armed = true then qAdd ls[i] (noticeQ reg s (ls.take i) qs) else noticeQ reg s (ls.take i) qs := by
  unfold noticeQ
  rw [List.take_add_one, List.getElem?_eq_getElem hi, List.foldl_append]
  rfl
def spNotice (CW CR : Addr) : Sp := fun vs H Q _ => ∃ (a dx e q : Addr) (s : Int) (qs ls : List Int) (ad : Int → Addr) (reg : Int → Reg), vs = [.ref a, .int s] ∧ H a = some (wsO CW dx e q) ∧ H q = some (.lst (qs.map V.int)) ∧ H e = some (.dK (entKV ls ad)) ∧ RegsAt CR H ls ad reg ∧ qs.length ≤ 4000 ∧ ls.length ≤ 4000 ∧
  ∀ H', H' q = some (.lst ((noticeQ reg s ls qs).map V.int)) → (∀ b o, b ≠ q → H b = some o → H' b = some o) → Q .non H'
theorem scNotice : FnScope ["self", "source", "label", "kept"] ["self", "source"] (defScope sNotice) := ⟨rfl, rfl, rfl, by decide +kernel, rfl, by decide +kernel, by decide +kernel⟩
theorem okNotice {f fA : Addr} {fd fdA : FuncData} (F : Fun K "notice" "WaitingSet.notice" sNotice f fd) (T : ClsF K CW wsF) (TR : ClsF K CR regF) (GA : FnOk P w K mg base CX0 1 fA fdA ["self", "label"] (spAppend CW)) (mA : Meth K CW "append_pending" fA) (bA : Binds K fdA ["self", "label"] []) :
    FnOk P w K mg base CX0 2 f fd ["self", "source"] (spNotice CW CR) := by
  refine F.ok scNotice (fun vs H Q E h => ?_) (fun cdv A outer s H vs Q E hr h => ?_)
  · obtain ⟨_, _, _, _, _, _, _, _, _, rfl, _⟩ := h
    rfl
  · obtain ⟨a, dx, e, q, s, qs, ls, ad, reg, rfl, ha, hq, he, hR, hz, hz2, k⟩ := h
    refine ⟨_, pss_one (ps_lock (ps_for PassesOwn.never rfl (pi_items (pe_fld (pv 0) rfl)) (pg_tup rfl (pgs_cons (pg_name (i := 2) scNotice.nd rfl (Or.inl rfl)) (pgs_cons (pg_name (i := 3) scNotice.nd rfl (Or.inl rfl)) pgs_nil)))
        (pss_one (ps_if (PW.pt (pw_and (pt_cmpR op_eq (pe_fld (pv 3) rfl) (pv 1) (nomark _)) (pw_and1 (pt_val (pe_fld (pv 3) rfl))))) (pss_one (ps_expr (pe_meth (pv 0) T.cl mA GA hr bA .nil pass0 (pa_cons (pv 2) pa_nil)))) pss_nil)))), ?_⟩
    have nae : a ≠ e := ne_of ha he (by intro z; cases z)
    have naq : a ≠ q := ne_of ha hq (by intro z; cases z)
    have nqe : q ≠ e := ne_of hq he (by intro z; cases z)
    refine ⟨e, _, he, trivial, fun od => ?_⟩
    have ha1 : upd H e (.frz od (.dK (entKV ls ad))) a = some (wsO CW dx e q) := by rw [upd_ne nae]; exact ha
    have hq1 : upd H e (.frz od (.dK (entKV ls ad))) q = some (.lst (qs.map V.int)) := by rw [upd_ne nqe]; exact hq
    refine ⟨_, rfl, a, CW, dx, _, _, rfl, ha1, T.cl, T.no _ (by decide), rfl, ?_⟩
    refine ⟨e, od, entKV ls ad, rfl, upd_same, ?_⟩
    have hR1 : ∀ j ∈ ls, ∃ dx, upd H e (.frz od (.dK (entKV ls ad))) (ad j) = some (regO CR dx (reg j).num (reg j).src (reg j).word (reg j).armed) ∧ ad j ≠ q := fun j hj => by
      obtain ⟨dj, ej⟩ := hR j hj
      exact ⟨dj, by rw [upd_ne (ne_of ej he (by intro z; cases z))]; exact ej, ne_of ej hq (by intro z; cases z)⟩
    have un : ∀ {H1 : Hp}, (∀ b o, b ≠ q → upd H e (.frz od (.dK (entKV ls ad))) b = some o → H1 b = some o) → ∀ b o, b ≠ q → H b = some o → upd H1 e (.dK (entKV ls ad)) b = some o := fun {H1} sm b o n e1 => by
      by_cases hb : b = e
      · rw [hb, upd_same, ← he, ← hb, e1]
      · rw [upd_ne hb]
        exact sm _ _ n (by rw [upd_ne hb]; exact e1)
    refine for_it walk_items (fun i σ' H1 => ∃ u v : Option V, σ' = [some (.ref a), some (.int s), u, v] ∧ (∀ b o, b ≠ q → upd H e (.frz od (.dK (entKV ls ad))) b = some o → H1 b = some o) ∧ H1 q = some (.lst ((noticeQ reg s (ls.take i) qs).map V.int))) ⟨_, _, rfl, fun _ _ _ z => z, hq1⟩ (fun i σ' H1 _ ⟨_, _, _, sm, _⟩ => sm _ _ (Ne.symm nqe) upd_same) ?_ ?_
    · rintro i x σ' H1 H2 hi ⟨u, v, rfl, sm, hqi⟩ ⟨T1, x1, y1, rfl, nT, rfl, ex, ey⟩
      have hi' : i < ls.length := by unfold entKV at hi; rwa [List.length_map] at hi
      have e1 : (entKV ls ad)[i]? = some (Sum.inl ls[i], .ref (ad ls[i])) := by
        unfold entKV
        rw [List.getElem?_map, List.getElem?_eq_getElem hi']
        rfl
      have ex : (entKV ls ad)[i]?.map (fun kv => kV kv.1) = some x1 := ex
      have ey : (entKV ls ad)[i]?.map Prod.snd = some y1 := ey
      rw [e1] at ex ey
      cases ex
      cases ey
      have nT2 := Same.new' (o := .tup [V.int ls[i], V.ref (ad ls[i])]) nT
      have smT : ∀ b o, b ≠ q → upd H e (.frz od (.dK (entKV ls ad))) b = some o → upd H1 T1 (.tup [V.int ls[i], V.ref (ad ls[i])]) b = some o := fun b o n z => nT2 _ _ (sm b o n z)
      have hqT := nT2 _ _ hqi
      obtain ⟨dr, er, nrq⟩ := hR1 ls[i] (List.getElem_mem hi')
      have er2 := smT _ _ nrq er
      have st := notice_step reg s ls qs hi'
      refine ⟨T1, _, rfl, SqT.of upd_same, rfl, _, _, rfl, ?_⟩
      walk_at "wn"
      refine ⟨_, _, rfl, ?_⟩
      walk_at "wn"
      refine ⟨rfl, ?_⟩
      refine ⟨_, rfl, ad ls[i], CR, dr, _, _, rfl, er2, TR.cl, TR.no _ (by decide), rfl, _, rfl, rfl, _, rfl, ?_⟩
      by_cases h1 : (reg ls[i]).src = s
      · rw [decide_eq_true (by rw [h1])]
        walk_at "wn"
        refine ⟨_, rfl, ad ls[i], CR, dr, _, _, rfl, er2, TR.cl, TR.no _ (by decide), rfl, _, rfl, ?_⟩
        cases h2 : (reg ls[i]).armed with
        | true =>
          walk_at "wn"
          refine ⟨_, rfl, a, dx, _, rfl, smT _ _ naq ha1, rfl, ?_⟩
          walk_at "wn"
          have hl3 := notice_len reg s (ls.take i) qs
          rw [List.length_take] at hl3
          refine ⟨a, dx, e, q, ls[i], _, rfl, smT _ _ naq ha1, hqT, by omega, fun H' k1 k2 => ?_⟩
          refine ⟨_, _, rfl, fun b o n z => by rw [k2 b n]; exact smT b o n z, ?_⟩
          rw [st, if_pos ⟨h1, h2⟩]
          exact k1
        | false =>
          walk_at "wn"
          refine ⟨_, _, rfl, smT, ?_⟩
          rw [st, if_neg fun z => by rw [h2] at z; exact Bool.noConfusion z.2]
          exact hqT
      · rw [decide_eq_false fun z => h1 (V.int.inj z)]
        walk_at "wn"
        refine ⟨_, _, rfl, smT, ?_⟩
        rw [st, if_neg fun z => h1 z.1]
        exact hqT
    · rintro σ' H1 ⟨u, v, rfl, sm, hqi⟩
      refine ⟨sm _ _ (Ne.symm nqe) upd_same, ?_⟩
      have e3 : ls.take (entKV ls ad).length = ls := by unfold entKV; rw [List.length_map, List.take_length]
      rw [e3] at hqi
      exact k _ (by rw [upd_ne nqe]; exact hqi) (un sm)
end

/-! what a wait takes -/
structure TSt where
  reps : List (Int × Int × Bool)
  que : List Int
  reg : Int → Reg
def takeStep (unit : Int → Int × Bool) (s : TSt) (l : Int) : TSt :=
  if decide (0 < (unit (s.reg l).src).1) || (unit (s.reg l).src).2 then ⟨s.reps ++ [(l, (unit (s.reg l).src).1, (unit (s.reg l).src).2)], if (s.reg l).word = "level" then s.que.drop 1 ++ [l] else s.que.drop 1, settled s.reg l⟩ else ⟨s.reps, s.que.drop 1, s.reg⟩
def takeAll (unit : Int → Int × Bool) (most : Int) : List Int → TSt → TSt
  | [], s => s
  | l :: ls, s => if (s.reps.length : Int) = most then s else takeAll unit most ls (takeStep unit s l)
theorem settled_src (reg : Int → Reg) (l j : Int) : (settled reg l j).src = (reg j).src := by
  unfold settled
  split
  · rename_i h
    rw [h.1]
  · rfl
theorem step_src (unit : Int → Int × Bool) (s : TSt) (l j : Int) : ((takeStep unit s l).reg j).src = (s.reg j).src := by
  unfold takeStep
  split
  · exact settled_src _ _ _
  · rfl
theorem step_len (unit : Int → Int × Bool) (s : TSt) (l : Int) : (takeStep unit s l).que.length ≤ s.que.length + 1 ∧ (takeStep unit s l).reps.length ≤ s.reps.length + 1 := by
  unfold takeStep
  split
  · refine ⟨?_, by simp⟩
    dsimp only
    split
    · rw [List.length_append, List.length_drop]
      show s.que.length - 1 + 1 ≤ _
      omega
    · rw [List.length_drop]
      omega
  · refine ⟨?_, Nat.le_succ _⟩
    dsimp only
    rw [List.length_drop]
    omega
theorem cut_one (l : List V) : cutV l (some 1) none = l.drop 1 := by
  cases l with
  | nil => rfl
  | cons v l =>
    unfold cutV HT.sIx
    simp
/-- the units of the sources, each a tuple -/
def UnitsAt (H : Hp) (ss : List Int) (ad : Int → Addr) (unit : Int → Int × Bool) : Prop := ∀ s ∈ ss, H (ad s) = some (.tup [.int (unit s).1, .bl (unit s).2])
abbrev RepAt (H : Hp) : V → Int × Int × Bool → Prop := fun v r => ∃ t, v = .ref t ∧ H t = some (.tup [.int r.1, .int r.2.1, .bl r.2.2])
theorem reps_keep {H H' : Hp} {vs : List V} {rs : List (Int × Int × Bool)} (p : Paired (RepAt H) vs rs) (k : ∀ b xs, H b = some (.tup xs) → H' b = some (.tup xs)) : Paired (RepAt H') vs rs := by
  induction p with
  | nil => exact .nil
  | cons r _ ih =>
    obtain ⟨t, e1, e2⟩ := r
    exact .cons ⟨t, e1, k _ _ e2⟩ ih
theorem reps_snoc {H : Hp} {vs : List V} {rs : List (Int × Int × Bool)} {v : V} {r : Int × Int × Bool} (p : Paired (RepAt H) vs rs) (q : RepAt H v r) : Paired (RepAt H) (vs ++ [v]) (rs ++ [r]) := by
  induction p with
  | nil => exact .cons q .nil
  | cons r _ ih => exact .cons r ih
theorem or_pure {σ : L2.St} {H : Hp} {t u : TT} {b1 b2 : Bool} {k : Bool → Hp → Prop} (h1 : ∀ k : Bool → Hp → Prop, k b1 H → t σ H k) (h2 : ∀ k : Bool → Hp → Prop, k b2 H → u σ H k) (q : k (b1 || b2) H) : tOr t u σ H k := by
  show t σ H fun b H1 => if b = true then k true H1 else u σ H1 k
  refine h1 _ ?_
  cases b1 with
  | true => exact q
  | false => exact h2 k q
section
variable {P : Program} {w : World} {K : PySem.W.Frag} {mg : Str → Option Value} {base : Heap} {CR CW : Addr}
def spReports (CW CR : Addr) : Sp := fun vs H Q _ => ∃ (a dx e q D : Addr) (most : Int) (qs ls ss : List Int) (ad adS : Int → Addr) (reg : Int → Reg) (unit : Int → Int × Bool), vs = [.ref a, .int most, .ref D] ∧ H a = some (wsO CW dx e q) ∧ H q = some (.lst (qs.map V.int)) ∧ H e = some (.dK (entKV ls ad)) ∧ RegsAt CR H ls ad reg ∧
  H D = some (.dK (entKV ss adS)) ∧ D ≠ e ∧ UnitsAt H ss adS unit ∧ (∀ l ∈ qs, l ∈ ls) ∧ (∀ l ∈ ls, (reg l).src ∈ ss) ∧ CW ≠ CR ∧ (∀ l ∈ ls, ∀ l' ∈ ls, ad l = ad l' → l = l') ∧ qs.length ≤ 1000 ∧ ls.length ≤ 1000 ∧
  ∀ H' r rs q' ad', H' a = some (wsO CW dx e q') → H' q' = some (.lst ((takeAll unit most qs ⟨[], qs, reg⟩).que.map V.int)) → (q' = q ∨ H q' = none) → H' e = some (.dK (entKV ls ad')) → RegsAt CR H' ls ad' (takeAll unit most qs ⟨[], qs, reg⟩).reg →
    (∀ j, ad' j = ad j ∨ H (ad' j) = none) → (∀ l ∈ ls, ∀ l' ∈ ls, ad' l = ad' l' → l = l') → H r = none → r ≠ q' → H' r = some (.lst rs) → Paired (RepAt H') rs (takeAll unit most qs ⟨[], qs, reg⟩).reps → (∀ b o, b ≠ a → b ≠ e → b ≠ q → H b = some o → H' b = some o) → Q (.ref r) H'
theorem scReports : FnScope ["self", "most", "sources", "reports", "pending", "label", "unread", "finished"] ["self", "most", "sources"] (defScope sReports) := ⟨rfl, rfl, rfl, by decide +kernel, rfl, by decide +kernel, by decide +kernel⟩
structure WsTxt (mg : Str → Option Value) : Prop where
  list : mg "list" = none
  len : mg "len" = none
theorem okReports {f fS : Addr} {fd fdS : FuncData} (F : Fun K "take_reports" "WaitingSet.take_reports" sReports f fd) (X : WsTxt mg) (T : ClsF K CW wsF) (TR : ClsF K CR regF) (GS : FnOk P w K mg base CX0 3 fS fdS ["self", "label"] (spSettle CW CR)) (mS : Meth K CW "settle" fS) (bS : Binds K fdS ["self", "label"] []) :
    FnOk P w K mg base CX0 4 f fd ["self", "most", "sources"] (spReports CW CR) := by
  refine F.ok scReports (fun vs H Q E h => ?_) (fun cdv A outer s H vs Q E hr h => ?_)
  · obtain ⟨_, _, _, _, _, _, _, _, _, _, _, _, _, rfl, _⟩ := h
    rfl
  · obtain ⟨a, dx, e, q, D, most, qs, ls, ss, ad, adS, reg, unit, rfl, ha, hq, he, hR, hD, nDe, hU, hql, hls, nWR, hinj, hz, hz2, k⟩ := h
    have hu := hu_of hr
    refine ⟨_, pss_cons (ps_set (i := 3) scReports.nd rfl (Or.inl rfl) (pe_lst pa_nil))
      (pss_cons (ps_set (i := 4) scReports.nd rfl (Or.inl rfl) (pe_callTy call_list_of (by rfl) X.list PyProof.Rows.boot_list (pa_cons (pe_fld (pv 0) rfl) pa_nil)))
      (pss_cons (ps_for PassesOwn.never rfl (pi_list (pv 4)) (pg_name (i := 5) scReports.nd rfl (Or.inl rfl))
        (pss_cons (ps_if (pt_cmpR op_eq (pe_callB cLenQ (by rfl) X.len PySem.boot_len (pa_cons (pv 3) pa_nil)) (pv 1) (nomark _)) (pss_one ps_break) pss_nil)
        (pss_cons (ps_fld (pv 0) (pe_slice sl_list (pe_fld (pv 0) rfl) (po_some pe_int) po_none) rfl)
        (pss_cons (ps_asg (pe_dget hu (pv 2) (pe_fld (pe_dget hu (pe_fld (pv 0) rfl) (pv 5) (fun _ _ => rfl)) rfl) (fun _ _ => rfl)) (pg_tup rfl (pgs_cons (pg_name (i := 6) scReports.nd rfl (Or.inl rfl)) (pgs_cons (pg_name (i := 7) scReports.nd rfl (Or.inl rfl)) pgs_nil))))
        (pss_one (ps_if (PW.pt (pw_or (pt_cmpR op_gt (pv 6) pe_int (nomark _)) (pw_or1 (pt_val (pv 7)))))
          (pss_cons (ps_expr (pe_bm PySem.F.plainAttrs_list PySem.F.slot_list_append PySem.F.type_list_append mt_append (pv 3) (pa_cons (pe_tup (pa_cons (pv 5) (pa_cons (pv 6) (pa_cons (pv 7) pa_nil)))) pa_nil)))
          (pss_one (ps_expr (pe_meth (pv 0) T.cl mS GS hr bS .nil pass0 (pa_cons (pv 5) pa_nil))))) pss_nil))))))
      (pss_one (ps_ret (pv 3))))), ?_⟩
    walk_at "wn"
    refine ⟨Nat.zero_le _, fun r hr0 => ?_⟩
    walk_at "wn"
    have s1 := Same.new' (o := .lst []) hr0
    refine ⟨_, rfl, a, CW, dx, _, _, rfl, s1 _ _ ha, T.cl, T.no _ (by decide), rfl, ?_⟩
    refine ⟨q, qs.map V.int, rfl, .inl (SqL.of (s1 _ _ hq)), fun p hp => ?_⟩
    walk_at "wn"
    have s2 := Same.new' (o := .lst (qs.map V.int)) hp
    have hrr : upd (upd H r (.lst [])) p (.lst (qs.map V.int)) r = some (.lst []) := s2 _ _ upd_same
    have nPr : p ≠ r := fun z => by rw [z, upd_same] at hp; cases hp
    have npr : p ≠ r := fun z => by rw [z, upd_same] at hp; cases hp
    have hp0 : H p = none := by rw [upd_ne npr] at hp; exact hp
    have sm := s1.trans s2
    have hpp : upd (upd H r (.lst [])) p (.lst (qs.map V.int)) p = some (.lst (qs.map V.int)) := upd_same
    generalize upd (upd H r (.lst [])) p (.lst (qs.map V.int)) = H0 at sm hrr hpp
    refine ⟨_, rfl, p, rfl, ⟨_, SqL.of hpp⟩, for_list (xs := qs.map V.int) (fun i σ' H1 => ∃ (st : TSt) (rs : List V) (q' : Addr) (ad' : Int → Addr) (u5 u6 u7 : Option V), σ' = [some (.ref a), some (.int most), some (.ref D), some (.ref r), some (.ref p), u5, u6, u7] ∧
      takeAll unit most (qs.drop i) st = takeAll unit most qs ⟨[], qs, reg⟩ ∧ H1 a = some (wsO CW dx e q') ∧ H1 q' = some (.lst (st.que.map V.int)) ∧ (q' = q ∨ H q' = none) ∧ q' ≠ r ∧ q' ≠ p ∧ H1 e = some (.dK (entKV ls ad')) ∧ RegsAt CR H1 ls ad' st.reg ∧ (∀ j, ad' j = ad j ∨ H (ad' j) = none) ∧ (∀ l ∈ ls, ∀ l' ∈ ls, ad' l = ad' l' → l = l') ∧
      H1 r = some (.lst rs) ∧ H1 p = some (.lst (qs.map V.int)) ∧ Paired (RepAt H1) rs st.reps ∧ (∀ b o, b ≠ a → b ≠ e → b ≠ q → H b = some o → H1 b = some o) ∧ (∀ l ∈ ls, (st.reg l).src ∈ ss) ∧ st.que.length ≤ 1000 + i ∧ st.reps.length ≤ i ∧ ∃ o, H1 q = some o) ?_ (fun i σ' H1 _ ⟨_, _, _, _, _, _, _, _, _, _, _, _, _, _, _, _, _, _, _, h, _⟩ => SqL.of h) ?_ ?_⟩
    · refine ⟨⟨[], qs, reg⟩, [], q, ad, _, _, _, rfl, rfl, sm _ _ ha, sm _ _ hq, .inl rfl, ne_of_none hq hr0, ne_of_none hq hp0, sm _ _ he, fun l hl => ?_, fun _ => .inl rfl, hinj, hrr, hpp, .nil, fun b o _ _ _ z => sm b o z, hls, by show qs.length ≤ 1000 + 0; omega, Nat.le_refl _, _, sm _ _ hq⟩
      obtain ⟨dl, el⟩ := hR l hl
      exact ⟨dl, sm _ _ el⟩
    · rintro i x σ' H1 hx ⟨st, rs, q', ad', u5, u6, u7, rfl, ht, h1a, h1q, hq', nqr, nqp, h1e, hR1, had, hij, h1r, h1p, hreps, fr, hsrc, hql1, hrl, oq, hoq⟩
      rw [List.getElem?_map] at hx
      cases el : qs[i]? with
      | none => rw [el] at hx; cases hx
      | some l =>
      rw [el] at hx
      cases hx
      obtain ⟨hi, eli⟩ := List.getElem?_eq_some_iff.mp el
      have hin : i < 1000 := by omega
      have hll : l ∈ ls := hql l (List.mem_of_getElem? el)
      rw [List.drop_eq_getElem_cons hi, eli] at ht
      have hlen := hreps.length
      walk_at "wn"
      by_cases hm : (st.reps.length : Int) = most
      · rw [decide_eq_true (by rw [hlen, hm])]
        walk_at "wn"
        have ht2 : st = takeAll unit most qs ⟨[], qs, reg⟩ := by
          rw [← ht]
          unfold takeAll
          rw [if_pos hm]
        refine ⟨_, rfl, ?_⟩
        exact k H1 r rs q' ad' h1a (ht2 ▸ h1q) hq' h1e (ht2 ▸ hR1) had hij hr0 (Ne.symm nqr) h1r (ht2 ▸ hreps) fr
      · rw [decide_eq_false fun z => hm (by rw [← hlen]; exact V.int.inj z)]
        walk_at "wn"
        have ht2 : takeAll unit most (qs.drop (i + 1)) (takeStep unit st l) = takeAll unit most qs ⟨[], qs, reg⟩ := by
          rw [← ht]
          conv => rhs; unfold takeAll
          rw [if_neg hm]
        have nDa : D ≠ a := ne_of hD ha (by intro z; cases z)
        have nDq : D ≠ q := ne_of hD hq (by intro z; cases z)
        have h1D := fr D _ nDa nDe nDq hD
        have ec : cutV (st.que.map V.int) (some 1) none = (st.que.drop 1).map V.int := by rw [cut_one, List.map_drop]
        refine ⟨_, rfl, a, CW, dx, _, _, rfl, h1a, T.cl, T.no _ (by decide), rfl, ?_⟩
        refine ⟨1, rfl, q', _, rfl, SqL.of h1q, fun p2 hp2 => ?_⟩
        rw [ec]
        have s3 := Same.new' (o := .lst ((st.que.drop 1).map V.int)) hp2
        have np2a : p2 ≠ a := fun z => by rw [z, h1a] at hp2; cases hp2
        have np2p : p2 ≠ p := fun z => by rw [z, h1p] at hp2; cases hp2
        have np2r : p2 ≠ r := fun z => by rw [z, h1r] at hp2; cases hp2
        refine ⟨_, rfl, a, CW, dx, _, rfl, s3 _ _ h1a, T.cl, T.no _ (by decide), by show 2 < 1000; decide, ?_⟩
        have h3a : upd (upd H1 p2 (.lst ((st.que.drop 1).map V.int))) a (.ins CW dx (putF "queue" (V.ref p2) [("entries", V.ref e), ("queue", V.ref q')])) a = some (wsO CW dx e p2) := upd_same
        have h3p : upd (upd H1 p2 (.lst ((st.que.drop 1).map V.int))) a (.ins CW dx (putF "queue" (V.ref p2) [("entries", V.ref e), ("queue", V.ref q')])) p2 = some (.lst ((st.que.drop 1).map V.int)) := by rw [upd_ne np2a, upd_same]
        have h3 : ∀ b o, b ≠ a → H1 b = some o → upd (upd H1 p2 (.lst ((st.que.drop 1).map V.int))) a (.ins CW dx (putF "queue" (V.ref p2) [("entries", V.ref e), ("queue", V.ref q')])) b = some o := fun b o n z => by rw [upd_ne n]; exact s3 _ _ z
        generalize upd (upd H1 p2 (.lst ((st.que.drop 1).map V.int))) a (.ins CW dx (putF "queue" (V.ref p2) [("entries", V.ref e), ("queue", V.ref q')])) = H3 at h3a h3p h3
        have h3e := h3 e _ (ne_of h1e h1a (by intro z; cases z)) h1e
        have h3D := h3 D _ nDa h1D
        have h3r := h3 r _ (ne_of h1r h1a (by intro z; cases z)) h1r
        have h3P := h3 p _ (ne_of h1p h1a (by intro z; cases z)) h1p
        have hR3 : RegsAt CR H3 ls ad' st.reg := fun j hj => by
          obtain ⟨dj, ej⟩ := hR1 j hj
          refine ⟨dj, h3 _ _ (fun z => ?_) ej⟩
          rw [z, h1a] at ej
          cases ej
        have hreps3 : Paired (RepAt H3) rs st.reps := reps_keep hreps fun b xs z => h3 b _ (ne_of z h1a (by intro z; cases z)) z
        have fr3 : ∀ b o, b ≠ a → b ≠ e → b ≠ q → H b = some o → H3 b = some o := fun b o n1 n2 n3 z => h3 b o n1 (fr b o n1 n2 n3 z)
        obtain ⟨dr, er⟩ := hR3 l hll
        have hsl : (st.reg l).src ∈ ss := hsrc l hll
        have hUl := hU _ hsl
        have h3U := fr3 _ _ (ne_of hUl ha (by intro z; cases z)) (ne_of hUl he (by intro z; cases z)) (ne_of hUl hq (by intro z; cases z)) hUl
        have hp2H : H p2 = none := by
          cases z : H p2 with
          | none => rfl
          | some o =>
            by_cases n2 : p2 = e
            · rw [n2, h1e] at hp2
              cases hp2
            · by_cases n3 : p2 = q
              · rw [n3, hoq] at hp2
                cases hp2
              · rw [fr p2 o np2a n2 n3 z] at hp2
                cases hp2
        have naq : q ≠ a := ne_of hq ha (by intro z; cases z)
        have neq : q ≠ e := ne_of hq he (by intro z; cases z)
        have np2q : q ≠ p2 := fun z => by rw [← z, hoq] at hp2; cases hp2
        have np2e : p2 ≠ e := fun z => by rw [z, h1e] at hp2; cases hp2
        have h3q := h3 q _ naq hoq
        have hv1 : valV (entKV ls ad') (Sum.inl l) = some (.ref (ad' l)) := by rw [ent_val, if_pos hll]
        have hv2 : valV (entKV ss adS) (Sum.inl (st.reg l).src) = some (.ref (adS (st.reg l).src)) := by rw [ent_val, if_pos hsl]
        have stl := step_len unit st l
        walk_at "wn"
        refine ⟨_, rfl, _, rfl, a, CW, dx, _, _, rfl, h3a, T.cl, T.no _ (by decide), rfl, ?_⟩
        refine ⟨_, rfl, e, _, rfl, hv1 ▸ DGet.k (k := Sum.inl l) h3e, ?_⟩
        refine ⟨ad' l, CR, dr, _, _, rfl, er, TR.cl, TR.no _ (by decide), rfl, ?_⟩
        refine ⟨D, _, rfl, hv2 ▸ DGet.k (k := Sum.inl (st.reg l).src) h3D, ?_⟩
        refine ⟨adS (st.reg l).src, _, rfl, SqT.of h3U, rfl, _, _, rfl, ?_⟩
        walk_at "wn"
        refine ⟨_, _, rfl, ?_⟩
        walk_at "wn"
        refine ⟨rfl, ?_⟩
        with_reducible refine' g_ifs ?_
        refine or_pure (b1 := decide (0 < (unit (st.reg l).src).1)) (b2 := (unit (st.reg l).src).2) (fun k q => ?_) (fun k q => ?_) ?_
        · exact ⟨_, rfl, _, _, rfl, rfl, _, rfl, q⟩
        · exact ⟨_, rfl, _, rfl, q⟩
        refine ite2 (fun hd => ?_) (fun hd => ?_)
        · have est : takeStep unit st l = ⟨st.reps ++ [(l, (unit (st.reg l).src).1, (unit (st.reg l).src).2)], if (st.reg l).word = "level" then st.que.drop 1 ++ [l] else st.que.drop 1, settled st.reg l⟩ := by
            unfold takeStep
            rw [if_pos hd]
          walk_at "wn"
          refine ⟨by show 3 ≤ sizeLine; decide, fun t nt => ?_⟩
          have s4 := Same.new' (o := .tup [V.int l, V.int (unit (st.reg l).src).1, V.bl (unit (st.reg l).src).2]) nt
          have h4t : upd H3 t (.tup [V.int l, V.int (unit (st.reg l).src).1, V.bl (unit (st.reg l).src).2]) t = some (.tup [V.int l, V.int (unit (st.reg l).src).1, V.bl (unit (st.reg l).src).2]) := upd_same
          generalize upd H3 t (.tup [V.int l, V.int (unit (st.reg l).src).1, V.bl (unit (st.reg l).src).2]) = H4 at s4 h4t
          have h4r := s4 _ _ h3r
          refine ⟨r, rs, _, rfl, rfl, h4r, by rw [sizeLine_eq]; omega, ?_⟩
          have s5 : ∀ b o, b ≠ r → H3 b = some o → upd H4 r (.lst (rs ++ [V.ref t])) b = some o := fun b o n z => by rw [upd_ne n]; exact s4 _ _ z
          have h5r : upd H4 r (.lst (rs ++ [V.ref t])) r = some (.lst (rs ++ [V.ref t])) := upd_same
          have h5t : upd H4 r (.lst (rs ++ [V.ref t])) t = some (.tup [V.int l, V.int (unit (st.reg l).src).1, V.bl (unit (st.reg l).src).2]) := by rw [upd_ne (ne_of h4t h4r (by intro z; cases z))]; exact h4t
          generalize upd H4 r (.lst (rs ++ [V.ref t])) = H5 at s5 h5r h5t
          have nra : a ≠ r := ne_of h3a h3r (by intro z; cases z)
          have nre : e ≠ r := ne_of h3e h3r (by intro z; cases z)
          have h5a := s5 _ _ nra h3a
          have h5e := s5 _ _ nre h3e
          have h5p := s5 _ _ np2r h3p
          have h5P := s5 _ _ nPr h3P
          have hR5 : RegsAt CR H5 ls ad' st.reg := fun j hj => by
            obtain ⟨dj, ej⟩ := hR3 j hj
            exact ⟨dj, s5 _ _ (ne_of ej h3r (by intro z; cases z)) ej⟩
          have hreps5 := reps_snoc (r := (l, (unit (st.reg l).src).1, (unit (st.reg l).src).2)) (reps_keep hreps3 fun b xs z => s5 b _ (ne_of z h3r (by intro z; cases z)) z) ⟨t, rfl, h5t⟩
          walk_at "wn"
          refine ⟨_, rfl, a, dx, _, rfl, h5a, rfl, ?_⟩
          walk_at "wn"
          refine ⟨a, dx, e, p2, l, st.que.drop 1, ls, ad', st.reg, rfl, h5a, h5p, h5e, hR5, hll, nWR, by rw [List.length_drop]; omega, by omega, fun H6 ad6 k1 k2 k3 k4 k5 k6 => ?_⟩
          have nae : a ≠ e := ne_of ha he (by intro z; cases z)
          have inj6 : ∀ j ∈ ls, ∀ j' ∈ ls, ad6 j = ad6 j' → j = j' := fun j hj j' hj' z => by
            have some5 : ∀ j ∈ ls, H5 (ad' j) ≠ none := fun j hj y => by
              obtain ⟨dj, ej⟩ := hR5 j hj
              rw [y] at ej
              cases ej
            by_cases e1 : j = l
            · by_cases e2 : j' = l
              · rw [e1, e2]
              · rw [k3 j' e2, e1] at z
                rcases k4 with y | y
                · exact hij j hj j' hj' (by rw [e1, ← y, z])
                · rw [z] at y
                  exact absurd y (some5 j' hj')
            · by_cases e2 : j' = l
              · rw [k3 j e1, e2] at z
                rcases k4 with y | y
                · exact hij j hj j' hj' (by rw [e2, ← y, z])
                · rw [← z] at y
                  exact absurd y (some5 j hj)
              · rw [k3 j e1, k3 j' e2] at z
                exact hij j hj j' hj' z
          refine ⟨_, rs ++ [V.ref t], p2, ad6, _, _, _, rfl, ht2, k6 _ _ nae (Ne.symm np2a) h5a, ?_, .inr hp2H, np2r, np2p, k1, ?_, fun j => ?_, inj6, k6 _ _ (Ne.symm nre) (Ne.symm np2r) h5r, k6 _ _ ?_ (Ne.symm np2p) h5P, ?_, fun b o n1 n2 n3 z => ?_, fun j hj => by rw [step_src]; exact hsrc j hj, by omega, by omega, oq, k6 _ _ neq np2q (s5 _ _ ?_ h3q)⟩
          · rw [est]
            exact k2
          · rw [est]
            exact k5
          · by_cases ej : j = l
            · rw [ej]
              rcases k4 with z | z
              · rw [z]
                exact had l
              · refine .inr ?_
                cases y : H (ad6 l) with
                | none => rfl
                | some o =>
                  exfalso
                  by_cases m1 : ad6 l = a
                  · rw [m1, h5a] at z
                    cases z
                  · by_cases m2 : ad6 l = e
                    · rw [m2, h5e] at z
                      cases z
                    · by_cases m3 : ad6 l = q
                      · rw [m3, s5 _ _ (ne_of_none hq hr0) h3q] at z
                        cases z
                      · rw [s5 _ _ (fun w => by rw [w, hr0] at y; cases y) (fr3 _ _ m1 m2 m3 y)] at z
                        cases z
            · rw [k3 j ej]
              exact had j
          · exact ne_of h1p h1e (by intro z; cases z)
          · rw [est]
            exact reps_keep hreps5 fun b xs z => k6 b _ (ne_of z h5e (by intro z; cases z)) (ne_of z h5p (by intro z; cases z)) z
          · refine k6 _ _ n2 (fun w => by rw [w, hp2H] at z; cases z) (s5 _ _ (fun w => by rw [w, hr0] at z; cases z) (fr3 _ _ n1 n2 n3 z))
          · exact ne_of_none hq hr0
        · have est : takeStep unit st l = ⟨st.reps, st.que.drop 1, st.reg⟩ := by
            unfold takeStep
            rw [if_neg hd]
          walk_at "wn"
          refine ⟨_, rs, p2, ad', _, _, _, rfl, ht2, h3a, by rw [est]; exact h3p, .inr hp2H, np2r, np2p, h3e, by rw [est]; exact hR3, had, hij, h3r, h3P, by rw [est]; exact hreps3, fr3, fun j hj => by rw [step_src]; exact hsrc j hj, by omega, by omega, oq, h3q⟩
    · rintro σ' H1 ⟨st, rs, q', ad', u5, u6, u7, rfl, ht, h1a, h1q, hq', nqr, nqp, h1e, hR1, had, hij, h1r, h1p, hreps, fr, hsrc, hql1, hrl, oq, hoq⟩
      have e0 : qs.drop (qs.map V.int).length = [] := by rw [List.length_map, List.drop_length]
      rw [e0] at ht
      have ht2 : st = takeAll unit most qs ⟨[], qs, reg⟩ := ht
      walk_at "wn"
      exact k H1 r rs q' ad' h1a (ht2 ▸ h1q) hq' h1e (ht2 ▸ hR1) had hij hr0 (Ne.symm nqr) h1r (ht2 ▸ hreps) fr
end

/-! a system, its cells and what stands in them -/
inductive Cell
  | box | tabD | srcD | setD
  | tab (p : Int) | srcT (t : Int) | ws (s : Int) | ent (s : Int) | que (s : Int)
  | reg (s l : Int)
  deriving DecidableEq
structure Sys where
  P : Int
  N : Int
  next : Int
  procs : List Int
  tab : Int → List (Option Int)
  srcs : List Int
  unit : Int → Int × Bool
  sets : List Int
  ents : Int → List Int
  reg : Int → Int → Reg
  que : Int → List Int
def live (S : Sys) : Cell → Prop
  | .box | .tabD | .srcD | .setD => True
  | .tab p => p ∈ S.procs
  | .srcT t => t ∈ S.srcs
  | .ws s | .ent s | .que s => s ∈ S.sets
  | .reg s l => s ∈ S.sets ∧ l ∈ S.ents s
def optV : Option Int → V
  | none => .non
  | some t => .int t
def sysO (CS dx : Addr) (S : Sys) (t s u : Addr) : HO := .ins CS dx [("process_limit", .int S.P), ("number_limit", .int S.N), ("tables", .ref t), ("sources", .ref s), ("sets", .ref u), ("next_thing", .int S.next)]
structure Cs where
  S : Addr
  W : Addr
  R : Addr
def co (C : Cs) (S : Sys) (ad dx : Cell → Addr) : Cell → HO
  | .box => sysO C.S (dx .box) S (ad .tabD) (ad .srcD) (ad .setD)
  | .tabD => .dK (entKV S.procs fun p => ad (.tab p))
  | .srcD => .dK (entKV S.srcs fun t => ad (.srcT t))
  | .setD => .dK (entKV S.sets fun s => ad (.ws s))
  | .tab p => .lst ((S.tab p).map optV)
  | .srcT t => .tup [.int (S.unit t).1, .bl (S.unit t).2]
  | .ws s => wsO C.W (dx (.ws s)) (ad (.ent s)) (ad (.que s))
  | .ent s => .dK (entKV (S.ents s) fun l => ad (.reg s l))
  | .que s => .lst ((S.que s).map V.int)
  | .reg s l => regO C.R (dx (.reg s l)) (S.reg s l).num (S.reg s l).src (S.reg s l).word (S.reg s l).armed
structure At (C : Cs) (H : Hp) (S : Sys) (ad dx : Cell → Addr) : Prop where
  at_ : ∀ c, live S c → H (ad c) = some (co C S ad dx c)
  inj : ∀ c c', live S c → live S c' → ad c = ad c' → c = c'
def own (S : Sys) (ad : Cell → Addr) (b : Addr) : Prop := ∃ c, live S c ∧ ad c = b
/-- what lies outside stays; what comes in is new -/
structure Step (H : Hp) (S : Sys) (ad : Cell → Addr) (H' : Hp) (S' : Sys) (ad' : Cell → Addr) : Prop where
  keep : ∀ b o, ¬ own S ad b → H b = some o → H' b = some o
  new : ∀ b, own S' ad' b → own S ad b ∨ H b = none
  box : ad' .box = ad .box
section
variable {C : Cs} {H H' H2 : Hp} {S S' S2 : Sys} {ad ad' ad2 dx dx' : Cell → Addr}
theorem Step.refl : Step H S ad H S ad := ⟨fun _ _ _ z => z, fun _ z => .inl z, rfl⟩
theorem Step.trans (a : Step H S ad H' S' ad') (b : Step H' S' ad' H2 S2 ad2) : Step H S ad H2 S2 ad2 := by
  refine ⟨fun x o n e => b.keep x o (fun z => ?_) (a.keep x o n e), fun x z => ?_, b.box.trans a.box⟩
  · rcases a.new x z with y | y
    · exact n y
    · rw [y] at e
      cases e
  · rcases b.new x z with y | y
    · exact a.new x y
    · cases e : H x with
      | none => exact .inr rfl
      | some o =>
        by_cases w : own S ad x
        · exact .inl w
        · rw [a.keep x o w e] at y
          cases y
theorem Step.same (s : Same H H') : Step H S ad H' S ad := ⟨fun b o _ e => s _ _ e, fun _ z => .inl z, rfl⟩
theorem At.same (A : At C H S ad dx) (s : Same H H') : At C H' S ad dx := ⟨fun c hc => s _ _ (A.at_ c hc), A.inj⟩
theorem At.ne (A : At C H S ad dx) {c c' : Cell} (h : live S c) (h' : live S c') (n : c ≠ c') : ad c ≠ ad c' := fun z => n (A.inj c c' h h' z)
end
section
variable {P : Program} {w : World} {K : PySem.W.Frag} {mg : Str → Option Value} {base : Heap} {C : Cs}
structure MO (P : Program) (w : World) (K : PySem.W.Frag) (mg : Str → Option Value) (base : Heap) (k : Nat) (C : Addr) (m : Str) (ps : List Str) (sp : Sp) (f : Addr) (fd : FuncData) : Prop where
  g : FnOk P w K mg base CX0 k f fd ps sp
  m : Meth K C m f
  b : Binds K fd ps []
structure DO (P : Program) (w : World) (K : PySem.W.Frag) (mg : Str → Option Value) (base : Heap) (k : Nat) (x : Str) (ps : List Str) (sp : Sp) (f : Addr) (fd : FuncData) : Prop where
  g : FnOk P w K mg base CX0 k f fd ps sp
  k : PySem.W.keepIn K (.ref f) = true
  m : mg x = some (.ref f)
  b : Binds K fd ps []
/-- a call on a system -/
def OnSys (C : Cs) (vs : List V) (H : Hp) (rest : List V) (k : Sys → (Cell → Addr) → (Cell → Addr) → Prop) : Prop := ∃ (S : Sys) (ad dx : Cell → Addr), vs = .ref (ad .box) :: rest ∧ At C H S ad dx ∧ k S ad dx
def spContains (C : Cs) : Sp := fun vs H Q _ => ∃ p : Int, OnSys C vs H [.int p] fun S _ _ => Q (.bl (decide (p ∈ S.procs))) H
theorem scContains : FnScope ["self", "x"] ["self", "x"] (defScope sContains) := ⟨rfl, rfl, rfl, by decide +kernel, rfl, by decide +kernel, by decide +kernel⟩
theorem okContains {f fI : Addr} {fd fdI : FuncData} (F : Fun K "__contains__" "System.__contains__" sContains f fd) (T : ClsF K C.S sysF) (GI : DO P w K mg base 1 "is_integer" ["x"] spIsInteger fI fdI) : FnOk P w K mg base CX0 2 f fd ["self", "x"] (spContains C) := by
  refine F.ok scContains (fun vs H Q E h => ?_) (fun cdv A outer s H vs Q E hr h => ?_)
  · obtain ⟨_, _, _, _, rfl, _⟩ := h
    rfl
  · obtain ⟨p, S, ad, dx, rfl, A0, k⟩ := h
    have hu := hu_of hr
    refine ⟨_, pss_one (ps_ret (pe_and (pe_call GI.g hr (by rfl) GI.m GI.k GI.b .nil pass0 (pa_cons (pv 1) pa_nil)) (pe_one (pe_cmp (pc_din hu (pv 1) (pe_fld (pv 0) rfl)) rfl)))), ?_⟩
    walk_at "wn"
    refine ⟨p, rfl, ?_⟩
    walk_at "wn"
    refine ⟨_, rfl, _, rfl, ad .box, C.S, dx .box, _, _, rfl, A0.at_ .box trivial, T.cl, T.no _ (by decide), rfl, ?_⟩
    refine ⟨ad .tabD, _, rfl, DGet.k (k := Sum.inl p) (A0.at_ .tabD trivial), ?_⟩
    rw [ent_val]
    by_cases hp : p ∈ S.procs
    · rw [if_pos hp]
      rw [decide_eq_true hp] at k
      exact k
    · rw [if_neg hp]
      rw [decide_eq_false hp] at k
      exact k
def spTableOf (C : Cs) : Sp := fun vs H Q _ => ∃ p : Int, OnSys C vs H [.int p] fun S ad _ => p ∈ S.procs ∧ Q (.ref (ad (.tab p))) H
theorem scTableOf : FnScope ["self", "process"] ["self", "process"] (defScope sTableOf) := ⟨rfl, rfl, rfl, by decide +kernel, rfl, by decide +kernel, by decide +kernel⟩
theorem okTableOf {f fC : Addr} {fd fdC : FuncData} (F : Fun K "table_of" "System.table_of" sTableOf f fd) (T : ClsF K C.S sysF) (GC : MO P w K mg base 2 C.S "__contains__" ["self", "x"] (spContains C) fC fdC) : FnOk P w K mg base CX0 3 f fd ["self", "process"] (spTableOf C) := by
  refine F.ok scTableOf (fun vs H Q E h => ?_) (fun cdv A outer s H vs Q E hr h => ?_)
  · obtain ⟨_, _, _, _, rfl, _⟩ := h
    rfl
  · obtain ⟨p, S, ad, dx, rfl, A0, hp, k⟩ := h
    have hu := hu_of hr
    refine ⟨_, pss_cons (ps_if (pt_cmpR (op_ownNotIn GC.g hr GC.m.at_ GC.m.fn GC.b pass0) (pv 1) (pv 0) (by rfl)) (pss_one ps_never) pss_nil)
      (pss_one (ps_ret (pe_dget hu (pe_fld (pv 0) rfl) (pv 1) (fun _ _ => rfl)))), ?_⟩
    walk_at "wn"
    refine ⟨ad .box, dx .box, _, rfl, A0.at_ .box trivial, p, S, ad, dx, rfl, A0, _, rfl, ?_⟩
    rw [decide_eq_true hp]
    walk_at "wn"
    refine ⟨_, rfl, ad .box, C.S, dx .box, _, _, rfl, A0.at_ .box trivial, T.cl, T.no _ (by decide), rfl, ?_⟩
    have hv : valV (entKV S.procs fun p => ad (.tab p)) (Sum.inl p) = some (.ref (ad (.tab p))) := by rw [ent_val, if_pos hp]
    exact ⟨_, rfl, ad .tabD, _, rfl, hv ▸ DGet.k (k := Sum.inl p) (A0.at_ .tabD trivial), k⟩
def spIsTabNum (C : Cs) : Sp := fun vs H Q _ => ∃ n : Int, OnSys C vs H [.int n] fun S _ _ => Q (.bl (decide (0 ≤ n) && decide (n ≤ S.N - 1))) H
theorem scIsTabNum : FnScope ["self", "number"] ["self", "number"] (defScope sIsTabNum) := ⟨rfl, rfl, rfl, by decide +kernel, rfl, by decide +kernel, by decide +kernel⟩
theorem okIsTabNum {f fB : Addr} {fd fdB : FuncData} (F : Fun K "is_table_number" "System.is_table_number" sIsTabNum f fd) (T : ClsF K C.S sysF) (GB : DO P w K mg base 2 "is_between" ["x", "least", "most"] spIsBetween fB fdB) : FnOk P w K mg base CX0 3 f fd ["self", "number"] (spIsTabNum C) := by
  refine F.ok scIsTabNum (fun vs H Q E h => ?_) (fun cdv A outer s H vs Q E hr h => ?_)
  · obtain ⟨_, _, _, _, rfl, _⟩ := h
    rfl
  · obtain ⟨n, S, ad, dx, rfl, A0, k⟩ := h
    refine ⟨_, pss_one (ps_ret (pe_call GB.g hr (by rfl) GB.m GB.k GB.b .nil pass0 (pa_cons (pv 1) (pa_cons pe_int (pa_cons (pe_op op_sub (pe_fld (pv 0) rfl) pe_int) pa_nil))))), ?_⟩
    walk_at "wn"
    refine ⟨_, rfl, ad .box, C.S, dx .box, _, _, rfl, A0.at_ .box trivial, T.cl, T.no _ (by decide), rfl, ?_⟩
    walk_at "wn"
    exact ⟨n, 0, S.N - 1, rfl, k⟩
/-- a number that means a thing -/
structure Means (S : Sys) (p n t : Int) : Prop where
  pr : p ∈ S.procs
  lo : 0 ≤ n
  hi : n ≤ S.N - 1
  at_ : (S.tab p)[n.toNat]? = some (some t)
def spThingAt (C : Cs) : Sp := fun vs H Q _ => ∃ p n t : Int, OnSys C vs H [.int p, .int n] fun S _ _ => Means S p n t ∧ Q (.int t) H
theorem scThingAt : FnScope ["self", "process", "number", "table"] ["self", "process", "number"] (defScope sThingAt) := ⟨rfl, rfl, rfl, by decide +kernel, rfl, by decide +kernel, by decide +kernel⟩
theorem okThingAt {f fT fN : Addr} {fd fdT fdN : FuncData} (F : Fun K "thing_at" "System.thing_at" sThingAt f fd) (T : ClsF K C.S sysF) (GT : MO P w K mg base 3 C.S "table_of" ["self", "process"] (spTableOf C) fT fdT) (GN : MO P w K mg base 3 C.S "is_table_number" ["self", "number"] (spIsTabNum C) fN fdN) :
    FnOk P w K mg base CX0 4 f fd ["self", "process", "number"] (spThingAt C) := by
  refine F.ok scThingAt (fun vs H Q E h => ?_) (fun cdv A outer s H vs Q E hr h => ?_)
  · obtain ⟨_, _, _, _, _, _, rfl, _⟩ := h
    rfl
  · obtain ⟨p, n, t, S, ad, dx, rfl, A0, M, k⟩ := h
    refine ⟨_, pss_cons (ps_set (i := 3) scThingAt.nd rfl (Or.inl rfl) (pe_meth (pv 0) T.cl GT.m GT.g hr GT.b .nil pass0 (pa_cons (pv 1) pa_nil)))
      (pss_cons (ps_if (PW.pt (pw_or (pt_not (pt_val (pe_meth (pv 0) T.cl GN.m GN.g hr GN.b .nil pass0 (pa_cons (pv 2) pa_nil)))) (pw_or1 (pt_cmpR oIsN (pe_ix ix_list (pv 3) (pv 2) (fun _ _ => rfl)) pe_non (nomark _))))) (pss_one ps_never) pss_nil)
      (pss_one (ps_ret (pe_ix ix_list (pv 3) (pv 2) (fun _ _ => rfl))))), ?_⟩
    have hb := A0.at_ .box trivial
    have ht := A0.at_ (.tab p) M.pr
    obtain ⟨m, hm⟩ := Int.eq_ofNat_of_zero_le M.lo
    have hat : atI ((S.tab p).map optV) n = some (V.int t) := by
      have e := M.at_
      rw [hm] at e ⊢
      refine atI_nat ?_
      rw [List.getElem?_map, show (S.tab p)[m]? = some (some t) from e]
      rfl
    walk_at "wn"
    refine ⟨_, rfl, ad .box, dx .box, _, rfl, hb, rfl, ?_⟩
    walk_at "wn"
    refine ⟨p, S, ad, dx, rfl, A0, M.pr, ?_⟩
    walk_at "wn"
    refine ⟨_, rfl, ad .box, dx .box, _, rfl, hb, rfl, ?_⟩
    walk_at "wn"
    refine ⟨n, S, ad, dx, rfl, A0, ?_⟩
    dsimp only
    rw [decide_eq_true M.lo, decide_eq_true M.hi]
    walk_at "wn"
    refine ⟨_, rfl, ?_⟩
    walk_at "wn"
    refine ⟨ad (.tab p), _, n, _, rfl, rfl, SqL.of ht, hat, ?_⟩
    walk_at "wn"
    have e : decide (V.int t = V.non) = false := decide_eq_false fun z => nomatch z
    rw [e]
    walk_at "wn"
    exact ⟨ad (.tab p), _, n, _, rfl, rfl, SqL.of ht, hat, k⟩
def spSourceAt (C : Cs) : Sp := fun vs H Q _ => ∃ p n t : Int, OnSys C vs H [.int p, .int n] fun S _ _ => Means S p n t ∧ t ∈ S.srcs ∧ Q (.int t) H
theorem scSourceAt : FnScope ["self", "process", "number", "thing"] ["self", "process", "number"] (defScope sSourceAt) := ⟨rfl, rfl, rfl, by decide +kernel, rfl, by decide +kernel, by decide +kernel⟩
theorem okSourceAt {f fT : Addr} {fd fdT : FuncData} (F : Fun K "source_at" "System.source_at" sSourceAt f fd) (T : ClsF K C.S sysF) (GT : MO P w K mg base 4 C.S "thing_at" ["self", "process", "number"] (spThingAt C) fT fdT) :
    FnOk P w K mg base CX0 5 f fd ["self", "process", "number"] (spSourceAt C) := by
  refine F.ok scSourceAt (fun vs H Q E h => ?_) (fun cdv A outer s H vs Q E hr h => ?_)
  · obtain ⟨_, _, _, _, _, _, rfl, _⟩ := h
    rfl
  · obtain ⟨p, n, t, S, ad, dx, rfl, A0, M, ht, k⟩ := h
    have hu := hu_of hr
    refine ⟨_, pss_cons (ps_set (i := 3) scSourceAt.nd rfl (Or.inl rfl) (pe_meth (pv 0) T.cl GT.m GT.g hr GT.b .nil pass0 (pa_cons (pv 1) (pa_cons (pv 2) pa_nil))))
      (pss_cons (ps_if (pt_cmp (pc_dnotin hu (pv 3) (pe_fld (pv 0) rfl)) rfl) (pss_one ps_never) pss_nil)
      (pss_one (ps_ret (pv 3)))), ?_⟩
    have hb := A0.at_ .box trivial
    walk_at "wn"
    refine ⟨_, rfl, ad .box, dx .box, _, rfl, hb, rfl, ?_⟩
    walk_at "wn"
    refine ⟨p, n, t, S, ad, dx, rfl, A0, M, ?_⟩
    walk_at "wn"
    refine ⟨_, rfl, _, rfl, ad .box, C.S, dx .box, _, _, rfl, hb, T.cl, T.no _ (by decide), rfl, ?_⟩
    refine ⟨ad .srcD, _, rfl, DGet.k (k := Sum.inl t) (A0.at_ .srcD trivial), ?_⟩
    rw [ent_val, if_pos ht]
    refine ⟨_, rfl, ?_⟩
    show if false = true then _ else _
    walk_at "wn"
    exact k
def spSetAt (C : Cs) : Sp := fun vs H Q _ => ∃ p n t : Int, OnSys C vs H [.int p, .int n] fun S ad _ => Means S p n t ∧ t ∈ S.sets ∧ Q (.ref (ad (.ws t))) H
theorem scSetAt : FnScope ["self", "process", "set_number", "thing"] ["self", "process", "set_number"] (defScope sSetAt) := ⟨rfl, rfl, rfl, by decide +kernel, rfl, by decide +kernel, by decide +kernel⟩
theorem okSetAt {f fT : Addr} {fd fdT : FuncData} (F : Fun K "set_at" "System.set_at" sSetAt f fd) (T : ClsF K C.S sysF) (GT : MO P w K mg base 4 C.S "thing_at" ["self", "process", "number"] (spThingAt C) fT fdT) :
    FnOk P w K mg base CX0 5 f fd ["self", "process", "set_number"] (spSetAt C) := by
  refine F.ok scSetAt (fun vs H Q E h => ?_) (fun cdv A outer s H vs Q E hr h => ?_)
  · obtain ⟨_, _, _, _, _, _, rfl, _⟩ := h
    rfl
  · obtain ⟨p, n, t, S, ad, dx, rfl, A0, M, ht, k⟩ := h
    have hu := hu_of hr
    refine ⟨_, pss_cons (ps_set (i := 3) scSetAt.nd rfl (Or.inl rfl) (pe_meth (pv 0) T.cl GT.m GT.g hr GT.b .nil pass0 (pa_cons (pv 1) (pa_cons (pv 2) pa_nil))))
      (pss_cons (ps_if (pt_cmp (pc_dnotin hu (pv 3) (pe_fld (pv 0) rfl)) rfl) (pss_one ps_never) pss_nil)
      (pss_one (ps_ret (pe_dget hu (pe_fld (pv 0) rfl) (pv 3) (fun _ _ => rfl))))), ?_⟩
    have hb := A0.at_ .box trivial
    walk_at "wn"
    refine ⟨_, rfl, ad .box, dx .box, _, rfl, hb, rfl, ?_⟩
    walk_at "wn"
    refine ⟨p, n, t, S, ad, dx, rfl, A0, M, ?_⟩
    walk_at "wn"
    have hv : valV (entKV S.sets fun s => ad (.ws s)) (Sum.inl t) = some (.ref (ad (.ws t))) := by rw [ent_val, if_pos ht]
    refine ⟨_, rfl, _, rfl, ad .box, C.S, dx .box, _, _, rfl, hb, T.cl, T.no _ (by decide), rfl, ?_⟩
    refine ⟨ad .setD, _, rfl, DGet.k (k := Sum.inl t) (A0.at_ .setD trivial), ?_⟩
    rw [ent_val, if_pos ht]
    refine ⟨_, rfl, ?_⟩
    show if false = true then _ else _
    walk_at "wn"
    refine ⟨_, rfl, ad .box, C.S, dx .box, _, _, rfl, hb, T.cl, T.no _ (by decide), rfl, ?_⟩
    exact ⟨_, rfl, ad .setD, _, rfl, hv ▸ DGet.k (k := Sum.inl t) (A0.at_ .setD trivial), k⟩
/-! free_number -/
def firstFree (t : List (Option Int)) (n : Nat) : Prop := t[n]? = some none ∧ ∀ i, i < n → ∃ x, t[i]? = some (some x)
def spFreeNum (C : Cs) : Sp := fun vs H Q _ => ∃ (p : Int) (n : Nat), OnSys C vs H [.int p] fun S _ _ => p ∈ S.procs ∧ firstFree (S.tab p) n ∧ (S.tab p).length ≤ 1000 ∧ ∀ H', Same H H' → Q (.int (n : Int)) H'
theorem scFreeNum : FnScope ["self", "process", "number", "thing"] ["self", "process"] (defScope sFreeNum) := ⟨rfl, rfl, rfl, by decide +kernel, rfl, by decide +kernel, by decide +kernel⟩
structure SysTxt (mg : Str → Option Value) : Prop where
  enum : mg "enumerate" = none
  list : mg "list" = none
  min : mg "min" = none
end

section
variable {C : Cs} {H H' H2 : Hp} {S S' S2 : Sys} {ad ad' ad2 dx dx' : Cell → Addr}
/-- some cells are written, made or stand elsewhere; the others stay -/
theorem At.re3 (ch : List Cell) (A : At C H S ad dx) (hl : ∀ c, live S' c → c ∈ ch ∨ live S c) (h1 : ∀ c ∈ ch, live S' c → H' (ad' c) = some (co C S' ad' dx' c)) (h2 : ∀ c, c ∉ ch → live S c → ad' c = ad c ∧ co C S' ad' dx' c = co C S ad dx c)
    (fresh : ∀ c ∈ ch, live S' c → (ad' c = ad c ∧ live S c) ∨ H (ad' c) = none) (dist : ∀ c ∈ ch, ∀ c' ∈ ch, live S' c → live S' c' → H (ad' c) = none → ad' c = ad' c' → c = c')
    (k : ∀ b o, (∀ c ∈ ch, live S c → b ≠ ad c) → H b = some o → H' b = some o) (box : ad' .box = ad .box) : At C H' S' ad' dx' ∧ Step H S ad H' S' ad' := by
  have out : ∀ c, c ∉ ch → live S' c → live S c := fun c hc l => (hl c l).resolve_left hc
  have keep : ∀ c, c ∉ ch → live S c → H' (ad c) = H (ad c) := fun c hc l => by
    rw [A.at_ c l]
    exact k _ _ (fun c' hc' l' z => hc (by rw [A.inj c c' l l' z]; exact hc')) (A.at_ c l)
  refine ⟨⟨fun c l => ?_, fun c c' l l' z => ?_⟩, ⟨fun b o n e => k b o (fun c hc lc z => n ⟨c, lc, z.symm⟩) e, fun b ⟨c, l, e⟩ => ?_, box⟩⟩
  · by_cases hc : c ∈ ch
    · exact h1 c hc l
    · have ls := out c hc l
      obtain ⟨e1, e2⟩ := h2 c hc ls
      rw [e1, e2, keep c hc ls]
      exact A.at_ c ls
  · have some_ : ∀ c, c ∉ ch → live S' c → H (ad' c) ≠ none := fun c hc l z => by
      have ls := out c hc l
      rw [(h2 c hc ls).1, A.at_ c ls] at z
      cases z
    by_cases hc : c ∈ ch
    · by_cases hc' : c' ∈ ch
      · rcases fresh c hc l with f | f
        · rcases fresh c' hc' l' with f' | f'
          · exact A.inj c c' f.2 f'.2 (by rw [← f.1, ← f'.1, z])
          · rw [← z, f.1, A.at_ c f.2] at f'
            cases f'
        · exact dist c hc c' hc' l l' f z
      · rcases fresh c hc l with f | f
        · have ls := out c' hc' l'
          exact A.inj c c' f.2 ls (by rw [← f.1, z, (h2 c' hc' ls).1])
        · rw [z] at f
          exact absurd f (some_ c' hc' l')
    · have ls := out c hc l
      by_cases hc' : c' ∈ ch
      · rcases fresh c' hc' l' with f | f
        · exact A.inj c c' ls f.2 (by rw [← f.1, ← z, (h2 c hc ls).1])
        · rw [← z] at f
          exact absurd f (some_ c hc l)
      · have ls' := out c' hc' l'
        exact A.inj c c' ls ls' (by rw [← (h2 c hc ls).1, z, (h2 c' hc' ls').1])
  · by_cases hc : c ∈ ch
    · rcases fresh c hc l with f | f
      · exact .inl ⟨c, f.2, by rw [← f.1]; exact e⟩
      · rw [e] at f
        exact .inr f
    · have ls := out c hc l
      exact .inl ⟨c, ls, by rw [← (h2 c hc ls).1]; exact e⟩
/-- where the addresses stay -/
theorem At.re2 (ch : List Cell) (A : At C H S ad dx) (hl : ∀ c, live S' c → live S c) (lv : ∀ c ∈ ch, live S c) (h1 : ∀ c ∈ ch, H' (ad c) = some (co C S' ad dx c)) (h2 : ∀ c, c ∉ ch → live S c → co C S' ad dx c = co C S ad dx c)
    (k : ∀ b o, (∀ c ∈ ch, b ≠ ad c) → H b = some o → H' b = some o) : At C H' S' ad dx ∧ Step H S ad H' S' ad :=
  At.re3 ch A (fun c l => .inr (hl c l)) (fun c hc _ => h1 c hc) (fun c hc l => ⟨rfl, h2 c hc l⟩) (fun c hc l => .inl ⟨rfl, hl c l⟩) (fun c hc c' hc' l l' _ z => A.inj c c' (hl c l) (hl c' l') z)
    (fun b o n e => k b o (fun c hc => n c hc (lv c hc)) e) rfl
theorem At.not_own (A : At C H S ad dx) {l : Addr} (n : H l = none) : ¬ own S ad l := fun ⟨c, h, e⟩ => by
  rw [← e, A.at_ c h] at n
  cases n
end
theorem nodup_idx {α : Type} : ∀ {l : List α} {i j : Nat} {a : α}, l.Nodup → l[i]? = some a → l[j]? = some a → i = j
  | [], i, _, _, _, h, _ => by simp at h
  | _ :: _, 0, 0, _, _, _, _ => rfl
  | x :: l, 0, j + 1, a, nd, h, h' => by
    obtain rfl : x = a := by simpa using h
    exact absurd (List.mem_of_getElem? (show l[j]? = some x from h')) (List.nodup_cons.mp nd).1
  | x :: l, i + 1, 0, a, nd, h, h' => by
    obtain rfl : x = a := by simpa using h'
    exact absurd (List.mem_of_getElem? (show l[i]? = some x from h)) (List.nodup_cons.mp nd).1
  | x :: l, i + 1, j + 1, a, nd, h, h' => by rw [nodup_idx (List.nodup_cons.mp nd).2 (show l[i]? = some a from h) (show l[j]? = some a from h')]
def newThing (S : Sys) (p : Int) (n : Nat) : Sys := { S with next := S.next + 1, tab := fun q => if q = p then (S.tab p).set n (some S.next) else S.tab q }
section
variable {P : Program} {w : World} {K : PySem.W.Frag} {mg : Str → Option Value} {base : Heap} {C : Cs}
def spNewThing (C : Cs) : Sp := fun vs H Q _ => ∃ (p : Int) (n : Nat), OnSys C vs H [.int p] fun S ad dx => p ∈ S.procs ∧ firstFree (S.tab p) n ∧ (S.tab p).length ≤ 1000 ∧
  ∀ H' T, H T = none → H' T = some (.tup [.int (n : Int), .int S.next]) → At C H' (newThing S p n) ad dx → Step H S ad H' (newThing S p n) ad → Q (.ref T) H'
theorem scNewThing : FnScope ["self", "process", "number", "thing"] ["self", "process"] (defScope sNewThing) := ⟨rfl, rfl, rfl, by decide +kernel, rfl, by decide +kernel, by decide +kernel⟩
/-! unread_of_unfinished, is_ready -/
def spUnfinished (C : Cs) : Sp := fun vs H Q _ => ∃ t n : Int, OnSys C vs H [.int t, .int n] fun S _ _ => t ∈ S.srcs ∧ (S.unit t).2 = false ∧ Q (.int (S.unit t).1) H
theorem scUnfinished : FnScope ["self", "source", "number", "unread", "finished"] ["self", "source", "number"] (defScope sUnfinished) := ⟨rfl, rfl, rfl, by decide +kernel, rfl, by decide +kernel, by decide +kernel⟩
theorem okUnfinished {f : Addr} {fd : FuncData} (F : Fun K "unread_of_unfinished" "System.unread_of_unfinished" sUnfinished f fd) (T : ClsF K C.S sysF) : FnOk P w K mg base CX0 1 f fd ["self", "source", "number"] (spUnfinished C) := by
  refine F.ok scUnfinished (fun vs H Q E h => ?_) (fun cdv A outer s H vs Q E hr h => ?_)
  · obtain ⟨_, _, _, _, _, rfl, _⟩ := h
    rfl
  · obtain ⟨t, n, S, ad, dx, rfl, A0, ht, hf, k⟩ := h
    have hu := hu_of hr
    refine ⟨_, pss_cons (ps_asg (pe_dget hu (pe_fld (pv 0) rfl) (pv 1) (fun _ _ => rfl)) (pg_tup rfl (pgs_cons (pg_name (i := 3) scUnfinished.nd rfl (Or.inl rfl)) (pgs_cons (pg_name (i := 4) scUnfinished.nd rfl (Or.inl rfl)) pgs_nil))))
      (pss_cons (ps_if (pt_val (pv 4)) (pss_one ps_never) pss_nil) (pss_one (ps_ret (pv 3)))), ?_⟩
    have hv : valV (entKV S.srcs fun t => ad (.srcT t)) (Sum.inl t) = some (.ref (ad (.srcT t))) := by rw [ent_val, if_pos ht]
    walk_at "wn"
    refine ⟨_, rfl, ad .box, C.S, dx .box, _, _, rfl, A0.at_ .box trivial, T.cl, T.no _ (by decide), rfl, ?_⟩
    refine ⟨_, rfl, ad .srcD, _, rfl, hv ▸ DGet.k (k := Sum.inl t) (A0.at_ .srcD trivial), ?_⟩
    refine ⟨ad (.srcT t), _, rfl, SqT.of (A0.at_ (.srcT t) ht), rfl, _, _, rfl, ?_⟩
    walk_at "wn"
    refine ⟨_, _, rfl, ?_⟩
    walk_at "wn"
    refine ⟨rfl, ?_⟩
    walk_at "wn"
    rw [hf]
    walk_at "wn"
    exact k
def ready (S : Sys) (t : Int) : Bool := decide (0 < (S.unit t).1) || (S.unit t).2
def spIsReady (C : Cs) : Sp := fun vs H Q _ => ∃ t : Int, OnSys C vs H [.int t] fun S _ _ => t ∈ S.srcs ∧ Q (.bl (ready S t)) H
theorem scIsReady : FnScope ["self", "source", "unread", "finished"] ["self", "source"] (defScope sIsReady) := ⟨rfl, rfl, rfl, by decide +kernel, rfl, by decide +kernel, by decide +kernel⟩
theorem okIsReady {f : Addr} {fd : FuncData} (F : Fun K "is_ready" "System.is_ready" sIsReady f fd) (T : ClsF K C.S sysF) : FnOk P w K mg base CX0 1 f fd ["self", "source"] (spIsReady C) := by
  refine F.ok scIsReady (fun vs H Q E h => ?_) (fun cdv A outer s H vs Q E hr h => ?_)
  · obtain ⟨_, _, _, _, rfl, _⟩ := h
    rfl
  · obtain ⟨t, S, ad, dx, rfl, A0, ht, k⟩ := h
    have hu := hu_of hr
    refine ⟨_, pss_cons (ps_asg (pe_dget hu (pe_fld (pv 0) rfl) (pv 1) (fun _ _ => rfl)) (pg_tup rfl (pgs_cons (pg_name (i := 2) scIsReady.nd rfl (Or.inl rfl)) (pgs_cons (pg_name (i := 3) scIsReady.nd rfl (Or.inl rfl)) pgs_nil))))
      (pss_one (ps_ret (pe_or (pe_cmpR op_gt (pv 2) pe_int (nomark _)) (pe_one (pv 3))))), ?_⟩
    have hv : valV (entKV S.srcs fun t => ad (.srcT t)) (Sum.inl t) = some (.ref (ad (.srcT t))) := by rw [ent_val, if_pos ht]
    walk_at "wn"
    refine ⟨_, rfl, ad .box, C.S, dx .box, _, _, rfl, A0.at_ .box trivial, T.cl, T.no _ (by decide), rfl, ?_⟩
    refine ⟨_, rfl, ad .srcD, _, rfl, hv ▸ DGet.k (k := Sum.inl t) (A0.at_ .srcD trivial), ?_⟩
    refine ⟨ad (.srcT t), _, rfl, SqT.of (A0.at_ (.srcT t) ht), rfl, _, _, rfl, ?_⟩
    walk_at "wn"
    refine ⟨_, _, rfl, ?_⟩
    walk_at "wn"
    refine ⟨rfl, ?_⟩
    walk_at "wn"
    unfold ready at k
    refine ite2 (fun hd => ?_) (fun hd => ?_)
    · rw [show decide (0 < (S.unit t).1) = true from hd, Bool.true_or] at k
      exact k
    · rw [show decide (0 < (S.unit t).1) = false from Bool.eq_false_iff.mpr hd, Bool.false_or] at k
      exact ⟨_, rfl, k⟩
/-! notify -/
def notified (S : Sys) (t : Int) : Sys := { S with que := fun s => if s ∈ S.sets then noticeQ (S.reg s) t (S.ents s) (S.que s) else S.que s }
structure Small (S : Sys) : Prop where
  que : ∀ s ∈ S.sets, (S.que s).length ≤ 900
  ents : ∀ s ∈ S.sets, (S.ents s).length ≤ 900
  srcs : S.srcs.length ≤ 900
  sets : S.sets.length ≤ 900
  nd : S.sets.Nodup
def spNotify (C : Cs) : Sp := fun vs H Q _ => ∃ t : Int, OnSys C vs H [.int t] fun S ad dx => Small S ∧ ∀ H', At C H' (notified S t) ad dx → Step H S ad H' (notified S t) ad → Q .non H'
theorem scNotify : FnScope ["self", "source", "waiting"] ["self", "source"] (defScope sNotify) := ⟨rfl, rfl, rfl, by decide +kernel, rfl, by decide +kernel, by decide +kernel⟩
theorem okNotify {f fN : Addr} {fd fdN : FuncData} (F : Fun K "notify" "System.notify" sNotify f fd) (T : ClsF K C.S sysF) (TW : Cls K C.W) (GN : MO P w K mg base 2 C.W "notice" ["self", "source"] (spNotice C.W C.R) fN fdN) : FnOk P w K mg base CX0 3 f fd ["self", "source"] (spNotify C) := by
  refine F.ok scNotify (fun vs H Q E h => ?_) (fun cdv A outer s H vs Q E hr h => ?_)
  · obtain ⟨_, _, _, _, rfl, _⟩ := h
    rfl
  · obtain ⟨t, S, ad, dx, rfl, A0, sm0, k⟩ := h
    refine ⟨_, pss_one (ps_lock (ps_for PassesOwn.never rfl (pi_values (pe_fld (pv 0) rfl)) (pg_name (i := 2) scNotify.nd rfl (Or.inl rfl)) (pss_one (ps_expr (pe_meth (pv 2) TW GN.m GN.g hr GN.b .nil pass0 (pa_cons (pv 1) pa_nil)))))), ?_⟩
    have hb := A0.at_ .box trivial
    have hD := A0.at_ .setD trivial
    have nbD : ad .box ≠ ad .setD := A0.ne (c := .box) (c' := .setD) trivial trivial (by intro z; cases z)
    refine ⟨ad .setD, _, hD, trivial, fun od => ?_⟩
    refine ⟨_, rfl, ad .box, C.S, dx .box, _, _, rfl, by rw [upd_ne nbD]; exact hb, T.cl, T.no _ (by decide), rfl, ?_⟩
    refine ⟨ad .setD, od, _, rfl, upd_same, ?_⟩
    have hqs : ∀ s ∈ S.sets, ad (.que s) ≠ ad .setD := fun s hs => A0.ne (c := .que s) (c' := .setD) hs trivial (by intro z; cases z)
    have eo : co C S ad dx .setD = .dK (entKV S.sets fun s => ad (.ws s)) := rfl
    rw [eo]
    have old : ∀ c, live S c → c ≠ .setD → upd H (ad .setD) (.frz od (.dK (entKV S.sets fun s => ad (.ws s)))) (ad c) = some (co C S ad dx c) := fun c hc n => by rw [upd_ne (A0.ne hc (c' := .setD) trivial n)]; exact A0.at_ c hc
    refine for_it walk_values (fun i σ' H1 => ∃ u : Option V, σ' = [some (.ref (ad .box)), some (.int t), u] ∧ (∀ b o, (∀ s ∈ S.sets, b ≠ ad (.que s)) → upd H (ad .setD) (.frz od (.dK (entKV S.sets fun s => ad (.ws s)))) b = some o → H1 b = some o) ∧ ∀ (j : Nat) (s : Int), S.sets[j]? = some s → H1 (ad (.que s)) = some (.lst ((if j < i then noticeQ (S.reg s) t (S.ents s) (S.que s) else S.que s).map V.int))) ⟨_, rfl, fun _ _ _ z => z, fun j s hj => ?_⟩ (fun i σ' H1 _ ⟨_, _, kp, _⟩ => kp _ _ (fun s hs => Ne.symm (hqs s hs)) upd_same) ?_ ?_
    · rw [if_neg (Nat.not_lt_zero _)]
      exact old (.que s) (List.mem_of_getElem? hj) (by intro z; cases z)
    · rintro i x σ' H1 H2 hi ⟨u, rfl, kp, hq⟩ ⟨rfl, kx, ex⟩
      have hi' : i < S.sets.length := by unfold entKV at hi; rwa [List.length_map] at hi
      have es : S.sets[i]? = some S.sets[i] := List.getElem?_eq_getElem hi'
      have hs : S.sets[i] ∈ S.sets := List.getElem_mem hi'
      unfold entKV at ex
      rw [List.getElem?_map, es] at ex
      cases ex
      generalize S.sets[i] = s at es hs
      have at1 : ∀ c, live S c → c ≠ .setD → (∀ s' , c ≠ .que s') → H2 (ad c) = some (co C S ad dx c) := fun c hc n1 n2 => kp _ _ (fun s' hs' => A0.ne hc (c' := .que s') hs' (n2 s')) (old c hc n1)
      have hw := at1 (.ws s) hs (by intro z; cases z) (fun s' z => by cases z)
      have he := at1 (.ent s) hs (by intro z; cases z) (fun s' z => by cases z)
      have hq1 := hq i s es
      rw [if_neg (Nat.lt_irrefl i)] at hq1
      walk_at "wn"
      refine ⟨_, rfl, ad (.ws s), dx (.ws s), _, rfl, hw, rfl, ?_⟩
      walk_at "wn"
      refine ⟨ad (.ws s), dx (.ws s), ad (.ent s), ad (.que s), t, S.que s, S.ents s, fun l => ad (.reg s l), S.reg s, rfl, hw, hq1, he, fun l hl => ⟨dx (.reg s l), at1 (.reg s l) ⟨hs, hl⟩ (by intro z; cases z) (fun s' z => by cases z)⟩, Nat.le_trans (sm0.que s hs) (by decide), Nat.le_trans (sm0.ents s hs) (by decide), fun H' k1 k2 => ?_⟩
      refine ⟨_, rfl, fun b o n e => k2 b o (n s hs) (kp b o n e), fun j s' hj => ?_⟩
      by_cases e : s' = s
      · subst e
        have hji : j = i := by
          exact nodup_idx sm0.nd hj es
        rw [if_pos (by omega)]
        exact k1
      · have hs' := List.mem_of_getElem? hj
        rw [k2 _ _ (A0.ne (c := .que s') (c' := .que s) hs' hs (fun z => e (by cases z; rfl))) (hq j s' hj)]
        have hji : j ≠ i := fun z => e (by rw [z, es] at hj; cases hj; rfl)
        by_cases hlt : j < i
        · rw [if_pos hlt, if_pos (by omega)]
        · rw [if_neg hlt, if_neg (by omega)]
    · rintro σ' H1 ⟨u, rfl, kp, hq⟩
      refine ⟨kp _ _ (fun s hs => Ne.symm (hqs s hs)) upd_same, ?_⟩
      refine (fun z : At C _ _ _ _ ∧ Step _ _ _ _ _ _ => k _ z.1 z.2) ?_
      refine At.re2 (S.sets.map Cell.que) A0 (fun c l => by cases c <;> exact l) (fun c hc => ?_) (fun c hc => ?_) (fun c hc l => ?_) (fun b o n e => ?_)
      · obtain ⟨s, hs, rfl⟩ := List.mem_map.mp hc
        exact hs
      · obtain ⟨s, hs, rfl⟩ := List.mem_map.mp hc
        obtain ⟨j, hj, ej⟩ := List.getElem_of_mem hs
        have ej2 : S.sets[j]? = some s := by rw [List.getElem?_eq_getElem hj, ej]
        have q := hq j s ej2
        rw [if_pos (by unfold entKV; rw [List.length_map]; exact hj)] at q
        rw [upd_ne (hqs s hs), q]
        show _ = some (HO.lst ((if s ∈ S.sets then noticeQ (S.reg s) t (S.ents s) (S.que s) else S.que s).map V.int))
        rw [if_pos hs]
      · cases c with
        | que s =>
          have ns : s ∉ S.sets := fun z => hc (List.mem_map.mpr ⟨s, z, rfl⟩)
          exact absurd l ns
        | _ => rfl
      · by_cases hb2 : b = ad .setD
        · rw [hb2, upd_same, ← eo, ← hD, ← hb2, e]
        · rw [upd_ne hb2]
          exact kp b o (fun s hs => n (.que s) (List.mem_map.mpr ⟨s, hs, rfl⟩)) (by rw [upd_ne hb2]; exact e)
end

def setA (ad : Cell → Addr) (c0 : Cell) (T : Addr) : Cell → Addr := fun c => if c = c0 then T else ad c
theorem setA_same {ad : Cell → Addr} {c0 : Cell} {T : Addr} : setA ad c0 T c0 = T := if_pos rfl
theorem setA_ne {ad : Cell → Addr} {c0 c : Cell} {T : Addr} (h : c ≠ c0) : setA ad c0 T c = ad c := if_neg h
theorem srcT_fun (ad : Cell → Addr) (t : Int) (T : Addr) : (fun j => if j = t then T else ad (.srcT j)) = fun j => setA ad (.srcT t) T (.srcT j) := by
  funext j
  by_cases h : j = t
  · rw [if_pos h, h, setA_same]
  · rw [if_neg h, setA_ne fun z => h (by cases z; rfl)]
def withUnit (S : Sys) (t u : Int) (f : Bool) : Sys := { S with unit := fun j => if j = t then (u, f) else S.unit j }
section
variable {C : Cs} {H : Hp} {S : Sys} {ad dx : Cell → Addr}
/-- sources[t] = (u, f) -/
theorem At.unit (A : At C H S ad dx) {t u : Int} {f : Bool} {T : Addr} (ht : t ∈ S.srcs) (hT : H T = none) :
    At C (upd (upd H T (.tup [.int u, .bl f])) (ad .srcD) (.dK (putK (entKV S.srcs fun j => ad (.srcT j)) (Sum.inl t) (.ref T)))) (withUnit S t u f) (setA ad (.srcT t) T) dx ∧
    Step H S ad (upd (upd H T (.tup [.int u, .bl f])) (ad .srcD) (.dK (putK (entKV S.srcs fun j => ad (.srcT j)) (Sum.inl t) (.ref T)))) (withUnit S t u f) (setA ad (.srcT t) T) := by
  have hD := A.at_ .srcD trivial
  have nTD : T ≠ ad .srcD := fun z => by rw [z, hD] at hT; cases hT
  refine At.re3 [.srcD, .srcT t] A (fun c l => .inr (by cases c <;> exact l)) (fun c hc l => ?_) (fun c hc l => ?_) (fun c hc l => ?_) (fun c hc c' hc' l l' z e => ?_) (fun b o n e => ?_) (setA_ne (by intro z; cases z))
  · simp only [List.mem_cons, List.not_mem_nil, or_false] at hc
    rcases hc with rfl | rfl
    · rw [setA_ne (by intro z; cases z), upd_same, ent_put, if_pos ht, srcT_fun]
      rfl
    · rw [setA_same, upd_ne nTD, upd_same]
      show _ = some (HO.tup [.int (if t = t then (u, f) else S.unit t).1, .bl (if t = t then (u, f) else S.unit t).2])
      rw [if_pos rfl]
  · have n1 : c ≠ .srcD := fun z => hc (by rw [z]; simp)
    have n2 : c ≠ .srcT t := fun z => hc (by rw [z]; simp)
    refine ⟨setA_ne n2, ?_⟩
    cases c with
    | srcD => exact absurd rfl n1
    | srcT j =>
      have nj : j ≠ t := fun z => n2 (by rw [z])
      show HO.tup [.int (if j = t then (u, f) else S.unit j).1, .bl (if j = t then (u, f) else S.unit j).2] = _
      rw [if_neg nj]
      rfl
    | _ => rfl
  · simp only [List.mem_cons, List.not_mem_nil, or_false] at hc
    rcases hc with rfl | rfl
    · exact .inl ⟨setA_ne (by intro z; cases z), trivial⟩
    · exact .inr (by rw [setA_same]; exact hT)
  · simp only [List.mem_cons, List.not_mem_nil, or_false] at hc hc'
    rcases hc with rfl | rfl
    · rw [setA_ne (by intro z; cases z), hD] at z
      cases z
    · rcases hc' with rfl | rfl
      · rw [setA_same, setA_ne (by intro z; cases z)] at e
        exact absurd e nTD
      · rfl
  · rw [upd_ne (n .srcD (by simp) trivial), upd_ne (ne_of_none e hT)]
    exact e
end
section
variable {P : Program} {w : World} {K : PySem.W.Frag} {mg : Str → Option Value} {base : Heap} {C : Cs}
def arrived (S : Sys) (t m : Int) : Sys := notified (withUnit S t ((S.unit t).1 + m) false) t
def spArrive (C : Cs) : Sp := fun vs H Q _ => ∃ p n t m : Int, OnSys C vs H [.int p, .int n, .int m] fun S ad dx => Means S p n t ∧ t ∈ S.srcs ∧ (S.unit t).2 = false ∧ 1 ≤ m ∧ m ≤ 1000000 ∧ Small S ∧ ∀ H' ad', At C H' (arrived S t m) ad' dx → Step H S ad H' (arrived S t m) ad' → Q .non H'
theorem scArrive : FnScope ["self", "process", "number", "many", "source", "unread"] ["self", "process", "number", "many"] (defScope sArrive) := ⟨rfl, rfl, rfl, by decide +kernel, rfl, by decide +kernel, by decide +kernel⟩
theorem okArrive {dvs : List V} {kws : List (Str × V)} {f fS fU fN fC : Addr} {fd fdS fdU fdN fdC : FuncData} (F : FunD K "arrive" "System.arrive" (defArgs sArrive) (defBody sArrive) (defScope sArrive) dvs kws f fd) (T : ClsF K C.S sysF)
    (GS : MO P w K mg base 5 C.S "source_at" ["self", "process", "number"] (spSourceAt C) fS fdS) (GU : MO P w K mg base 1 C.S "unread_of_unfinished" ["self", "source", "number"] (spUnfinished C) fU fdU) (GN : MO P w K mg base 3 C.S "notify" ["self", "source"] (spNotify C) fN fdN)
    (GC : DO P w K mg base 3 "is_count" ["x"] spIsCount fC fdC) : FnOk P w K mg base CX0 6 f fd ["self", "process", "number", "many"] (spArrive C) := by
  refine F.ok scArrive (fun vs H Q E h => ?_) (fun cdv A outer s H vs Q E hr h => ?_)
  · obtain ⟨_, _, _, _, _, _, _, rfl, _⟩ := h
    rfl
  · obtain ⟨p, n, t, m, S, ad, dx, rfl, A0, M, ht, hf, m0, m1, sm0, k⟩ := h
    have hu := hu_of hr
    have hr1 : Room 1 _ := hr.mono (by decide)
    have hr3 : Room 3 _ := hr.mono (by decide)
    refine ⟨_, pss_cons (ps_set (i := 4) scArrive.nd rfl (Or.inl rfl) (pe_meth (pv 0) T.cl GS.m GS.g hr GS.b .nil pass0 (pa_cons (pv 1) (pa_cons (pv 2) pa_nil))))
      (pss_cons (ps_if (pt_not (pt_val (pe_call GC.g hr3 (by rfl) GC.m GC.k GC.b .nil pass0 (pa_cons (pv 3) pa_nil)))) (pss_one ps_never) pss_nil)
      (pss_cons (ps_set (i := 5) scArrive.nd rfl (Or.inl rfl) (pe_meth (pv 0) T.cl GU.m GU.g hr1 GU.b .nil pass0 (pa_cons (pv 4) (pa_cons (pv 2) pa_nil))))
      (pss_cons (ps_dput hu (pe_fld (pv 0) rfl) (pv 4) (pe_tup (pa_cons (pe_op op_add (pv 5) (pv 3)) (pa_cons pe_bl pa_nil))) rfl)
      (pss_one (ps_expr (pe_meth (pv 0) T.cl GN.m GN.g hr3 GN.b .nil pass0 (pa_cons (pv 4) pa_nil))))))), ?_⟩
    have hb := A0.at_ .box trivial
    walk_at "wn"
    refine ⟨_, rfl, ad .box, dx .box, _, rfl, hb, rfl, ?_⟩
    walk_at "wn"
    refine ⟨p, n, t, S, ad, dx, rfl, A0, M, ht, ?_⟩
    walk_at "wn"
    refine ⟨m, rfl, ?_⟩
    rw [decide_eq_true m0, decide_eq_true m1]
    refine ⟨_, rfl, ?_⟩
    walk_at "wn"
    refine ⟨_, rfl, ad .box, dx .box, _, rfl, hb, rfl, ?_⟩
    walk_at "wn"
    refine ⟨t, n, S, ad, dx, rfl, A0, ht, hf, ?_⟩
    walk_at "wn"
    refine ⟨_, rfl, _, rfl, _, _, rfl, rfl, by show 2 ≤ sizeLine; decide, fun T1 hT => ?_⟩
    have nbT : ad .box ≠ T1 := ne_of_none hb hT
    have nDT : ad .srcD ≠ T1 := ne_of_none (A0.at_ .srcD trivial) hT
    refine ⟨_, rfl, ad .box, C.S, dx .box, _, _, rfl, by rw [upd_ne nbT]; exact hb, T.cl, T.no _ (by decide), rfl, ?_⟩
    refine ⟨_, rfl, ad .srcD, _, rfl, DPut.k (k := Sum.inl t) (by rw [upd_ne nDT]; exact A0.at_ .srcD trivial) (by unfold entKV; rw [List.length_map, sizeLine_eq]; have := sm0.srcs; omega), ?_⟩
    obtain ⟨A1, st1⟩ := A0.unit (u := (S.unit t).1 + m) (f := false) ht hT
    walk_at "wn"
    refine ⟨_, rfl, setA ad (.srcT t) T1 .box, dx .box, _, by rw [setA_ne (by intro z; cases z)], A1.at_ .box trivial, rfl, ?_⟩
    walk_at "wn"
    refine ⟨t, _, _, dx, by rw [setA_ne (by intro z; cases z)]; rfl, A1, ⟨sm0.que, sm0.ents, sm0.srcs, sm0.sets, sm0.nd⟩, fun H' A2 st2 => k H' _ A2 (st1.trans st2)⟩
/-! read -/
def taken (u : Int) : Option Int → Int
  | none => u
  | some m => if u < m then u else m
def readS (S : Sys) (t : Int) (mo : Option Int) : Sys := withUnit S t ((S.unit t).1 - taken (S.unit t).1 mo) (S.unit t).2
def spRead (C : Cs) : Sp := fun vs H Q _ => ∃ (p n t : Int) (mo : Option Int), OnSys C vs H [.int p, .int n, optV mo] fun S ad dx => Means S p n t ∧ t ∈ S.srcs ∧ (∀ m, mo = some m → 1 ≤ m ∧ m ≤ 1000000) ∧ Small S ∧ ∀ H' ad', At C H' (readS S t mo) ad' dx → Step H S ad H' (readS S t mo) ad' → Q (.int (taken (S.unit t).1 mo)) H'
theorem scRead : FnScope ["self", "process", "number", "many", "source", "unread", "finished", "taken"] ["self", "process", "number", "many"] (defScope sRead) := ⟨rfl, rfl, rfl, by decide +kernel, rfl, by decide +kernel, by decide +kernel⟩
theorem okRead {dvs : List V} {kws : List (Str × V)} {f fS fC : Addr} {fd fdS fdC : FuncData} (F : FunD K "read" "System.read" (defArgs sRead) (defBody sRead) (defScope sRead) dvs kws f fd) (X : SysTxt mg) (T : ClsF K C.S sysF)
    (GS : MO P w K mg base 5 C.S "source_at" ["self", "process", "number"] (spSourceAt C) fS fdS) (GC : DO P w K mg base 3 "is_count" ["x"] spIsCount fC fdC) : FnOk P w K mg base CX0 6 f fd ["self", "process", "number", "many"] (spRead C) := by
  refine F.ok scRead (fun vs H Q E h => ?_) (fun cdv A outer s H vs Q E hr h => ?_)
  · obtain ⟨_, _, _, _, _, _, _, rfl, _⟩ := h
    rfl
  · obtain ⟨p, n, t, mo, S, ad, dx, rfl, A0, M, ht, hm, sm0, k⟩ := h
    have hu := hu_of hr
    have hr3 : Room 3 _ := hr.mono (by decide)
    refine ⟨_, pss_cons (ps_set (i := 4) scRead.nd rfl (Or.inl rfl) (pe_meth (pv 0) T.cl GS.m GS.g hr GS.b .nil pass0 (pa_cons (pv 1) (pa_cons (pv 2) pa_nil))))
      (pss_cut (ps_if (PW.pt (pw_and (pt_cmpR oNotN (pv 3) pe_non (nomark _)) (pw_and1 (pt_not (pt_val (pe_call GC.g hr3 (by rfl) GC.m GC.k GC.b .nil pass0 (pa_cons (pv 3) pa_nil))))))) (pss_one ps_never) pss_nil)
      (pss_cons (ps_asg (pe_dget hu (pe_fld (pv 0) rfl) (pv 4) (fun _ _ => rfl)) (pg_tup rfl (pgs_cons (pg_name (i := 5) scRead.nd rfl (Or.inl rfl)) (pgs_cons (pg_name (i := 6) scRead.nd rfl (Or.inl rfl)) pgs_nil))))
      (pss_cut (ps_set (i := 7) scRead.nd rfl (Or.inl rfl) (pe_ifExp (pt_cmpR oIsN (pv 3) pe_non (nomark _)) (pv 5) (pe_callB (cMin2 rfl) (by rfl) X.min (by decide +kernel) (pa_cons (pv 3) (pa_cons (pv 5) pa_nil)))))
      (pss_cons (ps_dput hu (pe_fld (pv 0) rfl) (pv 4) (pe_tup (pa_cons (pe_op op_sub (pv 5) (pv 7)) (pa_cons (pv 6) pa_nil))) rfl)
      (pss_one (ps_ret (pv 7))))))), ?_⟩
    have hb := A0.at_ .box trivial
    have hv : valV (entKV S.srcs fun t => ad (.srcT t)) (Sum.inl t) = some (.ref (ad (.srcT t))) := by rw [ent_val, if_pos ht]
    walk_at "wn"
    refine ⟨_, rfl, ad .box, dx .box, _, rfl, hb, rfl, ?_⟩
    walk_at "wn"
    refine ⟨p, n, t, S, ad, dx, rfl, A0, M, ht, ?_⟩
    walk_at "wn"
    refine ⟨fun σ' H' => σ' = [some (.ref (ad .box)), some (.int p), some (.int n), some (optV mo), some (.int t), none, none, none] ∧ H' = H, ?_, ?_⟩
    · walk_at "wn"
      cases mo with
      | none =>
        have e : decide (optV none = V.non) = true := decide_eq_true rfl
        rw [e]
        walk_at "wn"
        exact ⟨rfl, rfl⟩
      | some m =>
        have e : decide (optV (some m) = V.non) = false := decide_eq_false fun z => nomatch z
        rw [e]
        walk_at "wn"
        refine ⟨m, rfl, ?_⟩
        rw [decide_eq_true (hm m rfl).1, decide_eq_true (hm m rfl).2]
        refine ⟨_, rfl, ?_⟩
        walk_at "wn"
        exact ⟨rfl, rfl⟩
    rintro σ' H' ⟨rfl, rfl⟩
    walk_at "wn"
    refine ⟨_, rfl, ad .box, C.S, dx .box, _, _, rfl, hb, T.cl, T.no _ (by decide), rfl, ?_⟩
    refine ⟨_, rfl, ad .srcD, _, rfl, hv ▸ DGet.k (k := Sum.inl t) (A0.at_ .srcD trivial), ?_⟩
    refine ⟨ad (.srcT t), _, rfl, SqT.of (A0.at_ (.srcT t) ht), rfl, _, _, rfl, ?_⟩
    walk_at "wn"
    refine ⟨_, _, rfl, ?_⟩
    walk_at "wn"
    refine ⟨rfl, ?_⟩
    refine ⟨fun σ' H1 => σ' = [some (.ref (ad .box)), some (.int p), some (.int n), some (optV mo), some (.int t), some (.int (S.unit t).1), some (.bl (S.unit t).2), some (.int (taken (S.unit t).1 mo))] ∧ H1 = H', ?_, ?_⟩
    · walk_at "wn"
      cases mo with
      | none =>
        have e : decide (optV none = V.non) = true := decide_eq_true rfl
        rw [e]
        walk_at "wn"
        exact ⟨rfl, rfl⟩
      | some m =>
        have e : decide (optV (some m) = V.non) = false := decide_eq_false fun z => nomatch z
        rw [e]
        walk_at "wn"
        refine ⟨m, (S.unit t).1, rfl, ?_⟩
        exact ⟨rfl, rfl⟩
    rintro σ' H1 ⟨rfl, rfl⟩
    walk_at "wn"
    refine ⟨_, rfl, _, rfl, _, _, rfl, rfl, ?_⟩
    walk_at "wn"
    refine ⟨by show 2 ≤ sizeLine; decide, fun T1 hT => ?_⟩
    have nbT : ad .box ≠ T1 := ne_of_none hb hT
    have nDT : ad .srcD ≠ T1 := ne_of_none (A0.at_ .srcD trivial) hT
    refine ⟨_, rfl, ad .box, C.S, dx .box, _, _, rfl, by rw [upd_ne nbT]; exact hb, T.cl, T.no _ (by decide), rfl, ?_⟩
    refine ⟨_, rfl, ad .srcD, _, rfl, DPut.k (k := Sum.inl t) (by rw [upd_ne nDT]; exact A0.at_ .srcD trivial) (by unfold entKV; rw [List.length_map, sizeLine_eq]; have := sm0.srcs; omega), ?_⟩
    obtain ⟨A1, st1⟩ := A0.unit (u := (S.unit t).1 - taken (S.unit t).1 mo) (f := (S.unit t).2) ht hT
    walk_at "wn"
    exact k _ _ A1 st1
/-! row_of -/
end

theorem reg_fun (ad : Cell → Addr) (s l : Int) (T : Addr) : (fun j => if j = l then T else ad (.reg s j)) = fun j => setA ad (.reg s l) T (.reg s j) := by
  funext j
  by_cases h : j = l
  · rw [if_pos h, h, setA_same]
  · rw [if_neg h, setA_ne fun z => h (by cases z; rfl)]
def added (S : Sys) (s l : Int) (r : Reg) : Sys := { S with
  ents := fun j => if j = s then S.ents s ++ [l] else S.ents j
  reg := fun j i => if j = s ∧ i = l then r else S.reg j i
  que := fun j => if j = s then (if ready S r.src = true then qAdd l (S.que s) else S.que s) else S.que j }
section
variable {P : Program} {w : World} {K : PySem.W.Frag} {mg : Str → Option Value} {base : Heap} {C : Cs}
def spAdd (C : Cs) : Sp := fun vs H Q _ => ∃ (p sn n l s t : Int) (wd : Str), OnSys C vs H [.int p, .int sn, .int n, .int l, .str wd] fun S ad dx => Means S p sn s ∧ s ∈ S.sets ∧ Means S p n t ∧ t ∈ S.srcs ∧ 0 ≤ l ∧ l ≤ 999999 ∧ wd ∈ wordsL ∧ (S.ents s).find? (keyOf (S.reg s) n t) = none ∧ l ∉ S.ents s ∧ Small S ∧
  ∀ H' ad' dx', At C H' (added S s l ⟨n, t, wd, true⟩) ad' dx' → Step H S ad H' (added S s l ⟨n, t, wd, true⟩) ad' → Q .non H'
theorem scAdd : FnScope ["self", "process", "set_number", "number", "label", "word", "waiting", "source"] ["self", "process", "set_number", "number", "label", "word"] (defScope sAdd) := ⟨rfl, rfl, rfl, by decide +kernel, rfl, by decide +kernel, by decide +kernel⟩
theorem okAdd {dvs : List V} {kws : List (Str × V)} {f fW fS fL fD fO fR fI fP : Addr} {fd fdW fdS fdL fdD fdO fdR fdI fdP : FuncData} (F : FunD K "add" "System.add" (defArgs sAdd) (defBody sAdd) (defScope sAdd) dvs kws f fd) (T : ClsF K C.S sysF) (TW : ClsF K C.W wsF)
    (GW : MO P w K mg base 5 C.S "set_at" ["self", "process", "set_number"] (spSetAt C) fW fdW) (GS : MO P w K mg base 5 C.S "source_at" ["self", "process", "number"] (spSourceAt C) fS fdS)
    (GL : DO P w K mg base 3 "is_label" ["x"] spIsLabel fL fdL) (GD : DO P w K mg base 1 "is_word" ["x"] spIsWord fD fdD) (GO : MO P w K mg base 1 C.W "label_of" ["self", "number", "source"] (spLabelOf C.W C.R) fO fdO)
    (gR : mg "Registration" = some (.ref C.R)) (MR : Mk K C.R fR) (GR : FnOk P w K mg base CX0 1 fR fdR ["self", "number", "source", "word", "armed"] (spRegInit C.R)) (bR : Binds K fdR ["self", "number", "source", "word", "armed"] [])
    (GI : MO P w K mg base 1 C.S "is_ready" ["self", "source"] (spIsReady C) fI fdI) (GP : MO P w K mg base 2 C.W "put" ["self", "label", "kept", "ready"] (spPut C.W) fP fdP) :
    FnOk P w K mg base CX0 6 f fd ["self", "process", "set_number", "number", "label", "word"] (spAdd C) := by
  refine F.ok scAdd (fun vs H Q E h => ?_) (fun cdv A outer s H vs Q E hr h => ?_)
  · obtain ⟨_, _, _, _, _, _, _, _, _, _, rfl, _⟩ := h
    rfl
  · obtain ⟨p, sn, n, l, s, t, wd, S, ad, dx, rfl, A0, Ms, hs, Mt, ht, l0, l1, hwd, hfind, hl, sm0, k⟩ := h
    have hu := hu_of hr
    have hr1 : Room 1 _ := hr.mono (by decide)
    have hr2 : Room 2 _ := hr.mono (by decide)
    have hr3 : Room 3 _ := hr.mono (by decide)
    refine ⟨_, pss_cons (ps_set (i := 6) scAdd.nd rfl (Or.inl rfl) (pe_meth (pv 0) T.cl GW.m GW.g hr GW.b .nil pass0 (pa_cons (pv 1) (pa_cons (pv 2) pa_nil))))
      (pss_cons (ps_set (i := 7) scAdd.nd rfl (Or.inl rfl) (pe_meth (pv 0) T.cl GS.m GS.g hr GS.b .nil pass0 (pa_cons (pv 1) (pa_cons (pv 3) pa_nil))))
      (pss_cons (ps_if (pt_not (pt_val (pe_call GL.g hr3 (by rfl) GL.m GL.k GL.b .nil pass0 (pa_cons (pv 4) pa_nil)))) (pss_one ps_never) pss_nil)
      (pss_cons (ps_if (pt_not (pt_val (pe_call GD.g hr1 (by rfl) GD.m GD.k GD.b .nil pass0 (pa_cons (pv 5) pa_nil)))) (pss_one ps_never) pss_nil)
      (pss_cons (ps_if (pt_cmpR oNotN (pe_meth (pv 6) TW.cl GO.m GO.g hr1 GO.b .nil pass0 (pa_cons (pv 3) (pa_cons (pv 7) pa_nil))) pe_non (nomark _)) (pss_one ps_never) pss_nil)
      (pss_cons (ps_if (pt_cmp (pc_din hu (pv 4) (pe_fld (pv 6) rfl)) rfl) (pss_one ps_never) pss_nil)
      (pss_one (ps_expr (pe_meth (pv 6) TW.cl GP.m GP.g hr2 GP.b .nil pass0 (pa_cons (pv 4) (pa_cons (pe_make MR GR hr2 (by rfl) gR bR .nil pass0 (pa_cons (pv 3) (pa_cons (pv 7) (pa_cons (pv 5) (pa_cons pe_bl pa_nil))))) (pa_cons (pe_meth (pv 0) T.cl GI.m GI.g hr1 GI.b .nil pass0 (pa_cons (pv 7) pa_nil)) pa_nil))))))))))), ?_⟩
    have hb := A0.at_ .box trivial
    walk_at "wn"
    refine ⟨_, rfl, ad .box, dx .box, _, rfl, hb, rfl, ?_⟩
    walk_at "wn"
    refine ⟨p, sn, s, S, ad, dx, rfl, A0, Ms, hs, ?_⟩
    walk_at "wn"
    refine ⟨_, rfl, ad .box, dx .box, _, rfl, hb, rfl, ?_⟩
    walk_at "wn"
    refine ⟨p, n, t, S, ad, dx, rfl, A0, Mt, ht, ?_⟩
    walk_at "wn"
    refine ⟨l, rfl, ?_⟩
    rw [decide_eq_true l0, decide_eq_true l1]
    refine ⟨_, rfl, ?_⟩
    walk_at "wn"
    refine ⟨_, rfl, wd, rfl, hwd, ?_⟩
    refine ⟨_, rfl, ?_⟩
    walk_at "wn"
    have hw := A0.at_ (.ws s) hs
    refine ⟨_, rfl, ad (.ws s), dx (.ws s), _, rfl, hw, rfl, ?_⟩
    walk_at "wn"
    refine ⟨ad (.ws s), dx (.ws s), ad (.ent s), ad (.que s), n, t, S.ents s, fun j => ad (.reg s j), S.reg s, rfl, hw, A0.at_ (.ent s) hs, fun j hj => ⟨dx (.reg s j), A0.at_ (.reg s j) ⟨hs, hj⟩⟩, fun H1 s1 => ?_⟩
    rw [hfind]
    have A1 := A0.same s1
    have hw1 := A1.at_ (.ws s) hs
    have he1 := A1.at_ (.ent s) hs
    have hq1 := A1.at_ (.que s) hs
    walk_at "wn"
    refine ⟨_, rfl, _, rfl, ad (.ws s), C.W, dx (.ws s), _, _, rfl, hw1, TW.cl, TW.no _ (by decide), rfl, ?_⟩
    refine ⟨ad (.ent s), _, rfl, DGet.k (k := Sum.inl l) he1, ?_⟩
    rw [ent_val, if_neg hl]
    refine ⟨_, rfl, ?_⟩
    show if false = true then _ else _
    walk_at "wn"
    refine ⟨_, rfl, ad (.ws s), dx (.ws s), _, rfl, hw1, rfl, ?_⟩
    walk_at "wn"
    refine ⟨_, rfl, _, rfl, _, rfl, fun x dx2 hx hdx ndx => ?_⟩
    refine ⟨x, dx2, n, t, wd, true, rfl, upd_same, fun H2 k1 k2 => ⟨rfl, ?_⟩⟩
    have s2 : Same H1 H2 := fun b o e => by
      rw [k1 b (ne_of_none e hx), upd_ne (ne_of_none e hx), upd_ne (ne_of_none e hdx)]
      exact e
    have A2 := A1.same s2
    refine ⟨_, rfl, ad .box, dx .box, _, rfl, A2.at_ .box trivial, rfl, ?_⟩
    walk_at "wn"
    refine ⟨t, S, ad, dx, rfl, A2, ht, ?_⟩
    have he2 := A2.at_ (.ent s) hs
    have hq2 := A2.at_ (.que s) hs
    have z1 := sm0.que s hs
    have z2 := sm0.ents s hs
    refine ⟨ad (.ws s), dx (.ws s), ad (.ent s), ad (.que s), x, l, ready S t, S.que s, _, rfl, A2.at_ (.ws s) hs, hq2, he2, by omega, by unfold entKV; rw [List.length_map]; omega, fun H3 j1 j2 j3 => ?_⟩
    rw [ent_put, if_neg hl, reg_fun] at j1
    have nxe : x ≠ ad (.ent s) := fun z => by rw [z, he1] at hx; cases hx
    have nxq : x ≠ ad (.que s) := fun z => by rw [z, hq1] at hx; cases hx
    have fresh : H x = none := s1.free hx
    refine (fun z : At C _ _ _ _ ∧ Step H S ad _ _ _ => k H3 (setA ad (.reg s l) x) (setA dx (.reg s l) dx2) z.1 z.2) ?_
    refine At.re3 [.ent s, .que s, .reg s l] A0 (fun c lc => ?_) (fun c hc lc => ?_) (fun c hc lc => ?_) (fun c hc lc => ?_) (fun c hc c' hc' lc lc' z e => ?_) (fun b o nb e => ?_) (setA_ne (by intro z; cases z))
    · cases c with
      | reg s' l' =>
        obtain ⟨h1, h2⟩ := lc
        by_cases e : s' = s
        · subst e
          have h2 : l' ∈ (if s' = s' then S.ents s' ++ [l] else S.ents s') := h2
          rw [if_pos rfl] at h2
          rcases List.mem_append.mp h2 with y | y
          · exact .inr ⟨h1, y⟩
          · rw [List.mem_singleton.mp y]
            exact .inl (by simp)
        · have h2 : l' ∈ (if s' = s then S.ents s ++ [l] else S.ents s') := h2
          rw [if_neg e] at h2
          exact .inr ⟨h1, h2⟩
      | _ => exact .inr lc
    · simp only [List.mem_cons, List.not_mem_nil, or_false] at hc
      rcases hc with rfl | rfl | rfl
      · rw [setA_ne (by intro z; cases z), j1]
        show _ = some (HO.dK (entKV (if s = s then S.ents s ++ [l] else S.ents s) _))
        rw [if_pos rfl]
      · rw [setA_ne (by intro z; cases z), j2]
        show _ = some (HO.lst ((if s = s then _ else S.que s).map V.int))
        rw [if_pos rfl]
      · rw [setA_same, j3 x nxe nxq, k2]
        show _ = some (regO C.R (setA dx (.reg s l) dx2 (.reg s l)) (if s = s ∧ l = l then (⟨n, t, wd, true⟩ : Reg) else S.reg s l).num (if s = s ∧ l = l then (⟨n, t, wd, true⟩ : Reg) else S.reg s l).src (if s = s ∧ l = l then (⟨n, t, wd, true⟩ : Reg) else S.reg s l).word (if s = s ∧ l = l then (⟨n, t, wd, true⟩ : Reg) else S.reg s l).armed)
        rw [if_pos ⟨rfl, rfl⟩, setA_same]
    · have n1 : c ≠ .ent s := fun z => hc (by rw [z]; simp)
      have n2 : c ≠ .que s := fun z => hc (by rw [z]; simp)
      have n3 : c ≠ .reg s l := fun z => hc (by rw [z]; simp)
      refine ⟨setA_ne n3, ?_⟩
      cases c with
      | ent s' =>
        have ns : s' ≠ s := fun z => n1 (by rw [z])
        show HO.dK (entKV (if s' = s then S.ents s ++ [l] else S.ents s') fun j => setA ad (.reg s l) x (.reg s' j)) = _
        rw [if_neg ns]
        have ef : (fun j => setA ad (.reg s l) x (.reg s' j)) = fun j => ad (.reg s' j) := funext fun j => setA_ne fun z => ns (by cases z; rfl)
        rw [ef]
        rfl
      | que s' =>
        have ns : s' ≠ s := fun z => n2 (by rw [z])
        show HO.lst ((if s' = s then _ else S.que s').map V.int) = _
        rw [if_neg ns]
        rfl
      | reg s' l' =>
        have nr : ¬ (s' = s ∧ l' = l) := fun z => n3 (by rw [z.1, z.2])
        show regO C.R (setA dx (.reg s l) dx2 (.reg s' l')) (if s' = s ∧ l' = l then (⟨n, t, wd, true⟩ : Reg) else S.reg s' l').num (if s' = s ∧ l' = l then (⟨n, t, wd, true⟩ : Reg) else S.reg s' l').src (if s' = s ∧ l' = l then (⟨n, t, wd, true⟩ : Reg) else S.reg s' l').word (if s' = s ∧ l' = l then (⟨n, t, wd, true⟩ : Reg) else S.reg s' l').armed = _
        rw [if_neg nr, setA_ne n3]
        rfl
      | _ => rfl
    · simp only [List.mem_cons, List.not_mem_nil, or_false] at hc
      rcases hc with rfl | rfl | rfl
      · exact .inl ⟨setA_ne (by intro z; cases z), hs⟩
      · exact .inl ⟨setA_ne (by intro z; cases z), hs⟩
      · exact .inr (by rw [setA_same]; exact fresh)
    · have of : ∀ c, c ∈ ([.ent s, .que s, .reg s l] : List Cell) → H (setA ad (.reg s l) x c) = none → c = .reg s l := fun c hc z => by
        simp only [List.mem_cons, List.not_mem_nil, or_false] at hc
        rcases hc with rfl | rfl | rfl
        · rw [setA_ne (by intro z; cases z), A0.at_ (.ent s) hs] at z
          cases z
        · rw [setA_ne (by intro z; cases z), A0.at_ (.que s) hs] at z
          cases z
        · rfl
      rw [of c hc z, of c' hc' (by rw [← e]; exact z)]
    · rw [j3 b (nb (.ent s) (by simp) hs) (nb (.que s) (by simp) hs)]
      exact s2 _ _ (s1 _ _ e)
end

def took (S : Sys) (s most : Int) : TSt := takeAll S.unit most (S.que s) ⟨[], S.que s, S.reg s⟩
def waited (S : Sys) (s most : Int) : Sys := { S with
  que := fun j => if j = s then (took S s most).que else S.que j
  reg := fun j => if j = s then (took S s most).reg else S.reg j }
section
variable {P : Program} {w : World} {K : PySem.W.Frag} {mg : Str → Option Value} {base : Heap} {C : Cs}
def spWait (C : Cs) : Sp := fun vs H Q _ => ∃ (p sn s most : Int), OnSys C vs H [.int p, .int sn, .int most] fun S ad dx => Means S p sn s ∧ s ∈ S.sets ∧ 1 ≤ most ∧ most ≤ 1000000 ∧ (∀ l ∈ S.que s, l ∈ S.ents s) ∧ (∀ l ∈ S.ents s, (S.reg s l).src ∈ S.srcs) ∧ C.W ≠ C.R ∧ Small S ∧
  ∀ H' ad' dx' r rs, H r = none → H' r = some (.lst rs) → ¬ own (waited S s most) ad' r → Paired (RepAt H') rs (took S s most).reps → At C H' (waited S s most) ad' dx' → Step H S ad H' (waited S s most) ad' → Q (.ref r) H'
theorem scWait : FnScope ["self", "process", "set_number", "most", "waiting"] ["self", "process", "set_number", "most"] (defScope sWait) := ⟨rfl, rfl, rfl, by decide +kernel, rfl, by decide +kernel, by decide +kernel⟩
def setW (ad : Cell → Addr) (s : Int) (q : Addr) (r : Int → Addr) : Cell → Addr
  | .que j => if j = s then q else ad (.que j)
  | .reg j l => if j = s then r l else ad (.reg j l)
  | c => ad c
theorem okWait {dvs : List V} {kws : List (Str × V)} {f fW fC fR : Addr} {fd fdW fdC fdR : FuncData} (F : FunD K "wait" "System.wait" (defArgs sWait) (defBody sWait) (defScope sWait) dvs kws f fd) (T : ClsF K C.S sysF) (TW : ClsF K C.W wsF)
    (GW : MO P w K mg base 5 C.S "set_at" ["self", "process", "set_number"] (spSetAt C) fW fdW) (GC : DO P w K mg base 3 "is_count" ["x"] spIsCount fC fdC) (GR : MO P w K mg base 4 C.W "take_reports" ["self", "most", "sources"] (spReports C.W C.R) fR fdR) :
    FnOk P w K mg base CX0 6 f fd ["self", "process", "set_number", "most"] (spWait C) := by
  refine F.ok scWait (fun vs H Q E h => ?_) (fun cdv A outer s H vs Q E hr h => ?_)
  · obtain ⟨_, _, _, _, _, _, _, rfl, _⟩ := h
    rfl
  · obtain ⟨p, sn, s, most, S, ad, dx, rfl, A0, Ms, hs, m0, m1, hqe, hes, nWR, sm0, k⟩ := h
    have hr3 : Room 3 _ := hr.mono (by decide)
    have hr4 : Room 4 _ := hr.mono (by decide)
    refine ⟨_, pss_cons (ps_set (i := 4) scWait.nd rfl (Or.inl rfl) (pe_meth (pv 0) T.cl GW.m GW.g hr GW.b .nil pass0 (pa_cons (pv 1) (pa_cons (pv 2) pa_nil))))
      (pss_cons (ps_if (pt_not (pt_val (pe_call GC.g hr3 (by rfl) GC.m GC.k GC.b .nil pass0 (pa_cons (pv 3) pa_nil)))) (pss_one ps_never) pss_nil)
      (pss_one (ps_ret (pe_meth (pv 4) TW.cl GR.m GR.g hr4 GR.b .nil pass0 (pa_cons (pv 3) (pa_cons (pe_fld (pv 0) rfl) pa_nil)))))), ?_⟩
    have hb := A0.at_ .box trivial
    have hw := A0.at_ (.ws s) hs
    have he := A0.at_ (.ent s) hs
    have hq := A0.at_ (.que s) hs
    walk_at "wn"
    refine ⟨_, rfl, ad .box, dx .box, _, rfl, hb, rfl, ?_⟩
    walk_at "wn"
    refine ⟨p, sn, s, S, ad, dx, rfl, A0, Ms, hs, ?_⟩
    walk_at "wn"
    refine ⟨most, rfl, ?_⟩
    rw [decide_eq_true m0, decide_eq_true m1]
    refine ⟨_, rfl, ?_⟩
    walk_at "wn"
    refine ⟨_, rfl, ad (.ws s), dx (.ws s), _, rfl, hw, rfl, ?_⟩
    refine ⟨_, rfl, _, rfl, ad .box, C.S, dx .box, _, _, rfl, hb, T.cl, T.no _ (by decide), rfl, ?_⟩
    have z1 := sm0.que s hs
    have z2 := sm0.ents s hs
    refine ⟨ad (.ws s), dx (.ws s), ad (.ent s), ad (.que s), ad .srcD, most, S.que s, S.ents s, S.srcs, (fun l => ad (.reg s l)), (fun t => ad (.srcT t)), S.reg s, S.unit, rfl, hw, hq, he, fun l hl => ⟨dx (.reg s l), A0.at_ (.reg s l) ⟨hs, hl⟩⟩, A0.at_ .srcD trivial,
      A0.ne (c := .srcD) (c' := .ent s) trivial hs (by intro z; cases z), fun t ht => A0.at_ (.srcT t) ht, hqe, hes, nWR, fun l hl l' hl' z => by cases A0.inj (.reg s l) (.reg s l') ⟨hs, hl⟩ ⟨hs, hl'⟩ z; rfl, by omega, by omega, fun H' r rs q' adE k1 k2 k3 k4 k5 k6 k7 k8 k9 k10 k11 k12 => ?_⟩
    have k5' : ∀ l ∈ S.ents s, ∃ d : Addr, H' (adE l) = some (regO C.R d ((took S s most).reg l).num ((took S s most).reg l).src ((took S s most).reg l).word ((took S s most).reg l).armed) := k5
    obtain ⟨dE, hdE⟩ : ∃ dE : Int → Addr, ∀ l ∈ S.ents s, H' (adE l) = some (regO C.R (dE l) ((took S s most).reg l).num ((took S s most).reg l).src ((took S s most).reg l).word ((took S s most).reg l).armed) := by
      refine ⟨fun l => if h : l ∈ S.ents s then Classical.choose (k5' l h) else 0, fun l hl => ?_⟩
      dsimp only
      rw [dif_pos hl]
      exact Classical.choose_spec (k5' l hl)
    let dx' : Cell → Addr := fun c => match c with
      | .reg j l => if j = s then dE l else dx (.reg j l)
      | c => dx c
    have sE : ∀ l, setW ad s q' adE (.reg s l) = adE l := fun l => if_pos rfl
    have sQ : setW ad s q' adE (.que s) = q' := if_pos rfl
    have dEe : ∀ l, dx' (.reg s l) = dE l := fun l => if_pos rfl
    have key : At C H' (waited S s most) (setW ad s q' adE) dx' ∧ Step H S ad H' (waited S s most) (setW ad s q' adE) := by
      refine At.re3 ([.ws s, .que s, .ent s] ++ (S.ents s).map (Cell.reg s)) A0 (fun c lc => .inr ?_) (fun c hc lc => ?_) (fun c hc lc => ?_) (fun c hc lc => ?_) (fun c hc c' hc' lc lc' z e => ?_) (fun b o nb e => ?_) rfl
      · cases c <;> exact lc
      · rcases List.mem_append.mp hc with hc | hc
        · simp only [List.mem_cons, List.not_mem_nil, or_false] at hc
          rcases hc with rfl | rfl | rfl
          · show H' (ad (.ws s)) = some (wsO C.W (dx (.ws s)) (ad (.ent s)) (setW ad s q' adE (.que s)))
            rw [sQ]
            exact k1
          · rw [sQ, k2]
            show _ = some (HO.lst ((if s = s then (took S s most).que else S.que s).map V.int))
            rw [if_pos rfl]
            rfl
          · show H' (ad (.ent s)) = some (HO.dK (entKV (S.ents s) fun l => setW ad s q' adE (.reg s l)))
            rw [k4]
            have ef : (fun l => setW ad s q' adE (.reg s l)) = adE := funext sE
            rw [ef]
        · obtain ⟨l, hl, rfl⟩ := List.mem_map.mp hc
          rw [sE, hdE l hl]
          show _ = some (regO C.R (dx' (.reg s l)) ((if s = s then (took S s most).reg else S.reg s) l).num ((if s = s then (took S s most).reg else S.reg s) l).src ((if s = s then (took S s most).reg else S.reg s) l).word ((if s = s then (took S s most).reg else S.reg s) l).armed)
          rw [if_pos rfl, dEe]
      · have n1 : c ≠ .ws s := fun z => hc (by rw [z]; simp)
        have n2 : c ≠ .que s := fun z => hc (by rw [z]; simp)
        have n3 : c ≠ .ent s := fun z => hc (by rw [z]; simp)
        cases c with
        | ws j =>
          have nj : j ≠ s := fun z => n1 (by rw [z])
          refine ⟨rfl, ?_⟩
          show wsO C.W (dx (.ws j)) (ad (.ent j)) (if j = s then q' else ad (.que j)) = _
          rw [if_neg nj]
          rfl
        | que j =>
          have nj : j ≠ s := fun z => n2 (by rw [z])
          refine ⟨if_neg nj, ?_⟩
          show HO.lst ((if j = s then (took S s most).que else S.que j).map V.int) = _
          rw [if_neg nj]
          rfl
        | ent j =>
          have nj : j ≠ s := fun z => n3 (by rw [z])
          refine ⟨rfl, ?_⟩
          have ef : (fun l => setW ad s q' adE (.reg j l)) = fun l => ad (.reg j l) := funext fun l => if_neg nj
          show HO.dK (entKV (S.ents j) fun l => setW ad s q' adE (.reg j l)) = _
          rw [ef]
          rfl
        | reg j l =>
          have nj : j ≠ s := fun z => hc (List.mem_append.mpr (.inr (List.mem_map.mpr ⟨l, by rw [← z]; exact lc.2, by rw [z]⟩)))
          refine ⟨if_neg nj, ?_⟩
          show regO C.R (if j = s then dE l else dx (.reg j l)) ((if j = s then (took S s most).reg else S.reg j) l).num ((if j = s then (took S s most).reg else S.reg j) l).src ((if j = s then (took S s most).reg else S.reg j) l).word ((if j = s then (took S s most).reg else S.reg j) l).armed = _
          rw [if_neg nj, if_neg nj]
          rfl
        | _ => exact ⟨rfl, rfl⟩
      · rcases List.mem_append.mp hc with hc | hc
        · simp only [List.mem_cons, List.not_mem_nil, or_false] at hc
          rcases hc with rfl | rfl | rfl
          · exact .inl ⟨rfl, hs⟩
          · rw [sQ]
            rcases k3 with z | z
            · exact .inl ⟨z, hs⟩
            · exact .inr z
          · exact .inl ⟨rfl, hs⟩
        · obtain ⟨l, hl, rfl⟩ := List.mem_map.mp hc
          rw [sE]
          rcases k6 l with z | z
          · exact .inl ⟨z, ⟨hs, hl⟩⟩
          · exact .inr z
      · have kind : ∀ c ∈ ([.ws s, .que s, .ent s] ++ (S.ents s).map (Cell.reg s) : List Cell), H (setW ad s q' adE c) = none → c = .que s ∨ ∃ l ∈ S.ents s, c = .reg s l := fun c hc z => by
          rcases List.mem_append.mp hc with hc | hc
          · simp only [List.mem_cons, List.not_mem_nil, or_false] at hc
            rcases hc with rfl | rfl | rfl
            · rw [show setW ad s q' adE (.ws s) = ad (.ws s) from rfl, hw] at z
              cases z
            · exact .inl rfl
            · rw [show setW ad s q' adE (.ent s) = ad (.ent s) from rfl, he] at z
              cases z
          · obtain ⟨l, hl, rfl⟩ := List.mem_map.mp hc
            exact .inr ⟨l, hl, rfl⟩
        have z' : H (setW ad s q' adE c') = none := by rw [← e]; exact z
        rcases kind c hc z with rfl | ⟨l, hl, rfl⟩
        · rcases kind c' hc' z' with rfl | ⟨l', hl', rfl⟩
          · rfl
          · rw [sQ, sE] at e
            have x := hdE l' hl'
            rw [← e, k2] at x
            cases x
        · rcases kind c' hc' z' with rfl | ⟨l', hl', rfl⟩
          · rw [sQ, sE] at e
            have x := hdE l hl
            rw [e, k2] at x
            cases x
          · rw [sE, sE] at e
            rw [k7 l hl l' hl' e]
      · exact k12 b o (nb (.ws s) (by simp) hs) (nb (.ent s) (by simp) hs) (nb (.que s) (by simp) hs) e
    refine k H' _ dx' r rs k8 k10 (fun ⟨c, lc, ec⟩ => ?_) k11 key.1 key.2
    have x := key.1.at_ c lc
    rw [ec, k10] at x
    cases c with
    | tab j =>
      have y : H (ad (.tab j)) = _ := A0.at_ (.tab j) lc
      rw [show ad (.tab j) = r from ec, k8] at y
      cases y
    | que j =>
      by_cases nj : j = s
      · subst nj
        rw [sQ] at ec
        exact k9 ec.symm
      · have ec2 : (if j = s then q' else ad (.que j)) = r := ec
        rw [if_neg nj] at ec2
        have y : H (ad (.que j)) = _ := A0.at_ (.que j) lc
        rw [ec2, k8] at y
        cases y
    | _ => cases x
end

/-! o.m(e, .., k = v, ..) -/
def tMethK (C : Addr) (m : Str) (n j : Nat) (sp : Sp) (gV : List V → List V → List V) (E : XK) (ta : TE) (t tk : TA) : TE := fun σ H Q => ta σ H fun x H1 => ∃ a dx fs, x = .ref a ∧ H1 a = some (.ins C dx fs) ∧ fs.lookup m = none ∧ t σ H1 fun vs H2 => tk σ H2 fun zs H3 => vs.length = n ∧ zs.length = j ∧ sp (gV (x :: vs) zs) H3 Q E
section
variable {X : Cx} {CX : CXT} {k n : Nat} {f C : Addr} {fd : FuncData} {ps ks : List Str} {sp : Sp} {E : XK} {m : Str} {apos pos : Pos} {o e : Expr} {es : List Expr} {kws : List Keyword} {ta : TE} {t tk : TA} {g : List Value → List Value → List Value} {gV : List V → List V → List V}
end
/-! WaitingSet.drop -/
theorem ent_drop (ls : List Int) (ad : Int → Addr) (l : Int) : dropK (entKV ls ad) (Sum.inl l) = entKV (ls.filter fun x => decide (x ≠ l)) ad := by
  unfold dropK entKV
  induction ls with
  | nil => rfl
  | cons x ls ih =>
    rw [List.map_cons, List.filter_cons, List.filter_cons, ih]
    by_cases h : x = l
    · have e1 : decide ((Sum.inl x : Key) ≠ Sum.inl l) = false := decide_eq_false fun z => z (by rw [h])
      have e2 : decide (x ≠ l) = false := decide_eq_false fun z => z h
      rw [e2]
      show (if decide ((Sum.inl x : Key) ≠ Sum.inl l) = true then _ else _) = _
      rw [e1]
      rfl
    · have e1 : decide ((Sum.inl x : Key) ≠ Sum.inl l) = true := decide_eq_true fun z => h (Sum.inl.inj z)
      have e2 : decide (x ≠ l) = true := decide_eq_true h
      rw [e2]
      show (if decide ((Sum.inl x : Key) ≠ Sum.inl l) = true then _ else _) = _
      rw [e1]
      rfl
section
variable {P : Program} {w : World} {K : PySem.W.Frag} {mg : Str → Option Value} {base : Heap} {CR CW : Addr}
def without (l : Int) (ls : List Int) : List Int := ls.filter fun x => decide (x ≠ l)
def spDrop (CW : Addr) : Sp := fun vs H Q _ => ∃ (a dx e q : Addr) (l : Int) (qs ls : List Int) (ad : Int → Addr), vs = [.ref a, .int l] ∧ H a = some (wsO CW dx e q) ∧ H q = some (.lst (qs.map V.int)) ∧ H e = some (.dK (entKV ls ad)) ∧ l ∈ ls ∧ qs.length ≤ 10000 ∧
  ∀ H' q', H q' = none → H' a = some (wsO CW dx e q') → H' q' = some (.lst ((without l qs).map V.int)) → H' e = some (.dK (entKV (without l ls) ad)) → (∀ b o, b ≠ a → b ≠ e → H b = some o → H' b = some o) → Q .non H'
theorem scDrop : FnScope ["self", "label", "pending"] ["self", "label"] (defScope sDrop) := ⟨rfl, rfl, rfl, by decide +kernel, rfl, by decide +kernel, by decide +kernel⟩
theorem okDrop {f : Addr} {fd : FuncData} (F : Fun K "drop" "WaitingSet.drop" sDrop f fd) (T : ClsF K CW wsF) : FnOk P w K mg base CX0 1 f fd ["self", "label"] (spDrop CW) := by
  refine F.ok scDrop (fun vs H Q E h => ?_) (fun cdv A outer s H vs Q E hr h => ?_)
  · obtain ⟨_, _, _, _, _, _, _, _, rfl, _⟩ := h
    rfl
  · obtain ⟨a, dx, e, q, l, qs, ls, ad, rfl, ha, hq, he, hl, hz, k⟩ := h
    have hu := hu_of hr
    refine ⟨_, pss_cons (ps_ddel (pe_fld (pv 0) rfl) (pv 1))
      (pss_one (ps_fld (pv 0) (pe_lc (own := [("pending", 2)]) (g := gName 2) (tt := tTest (tOp rNe (tVar 2) (tVar 1))) (te := tVar 2) rfl scDrop.nd (pi_list (pe_fld (pv 0) rfl)) (blkOk_by (N := ["self", "label", "pending"]) (sc := defScope sDrop) (by decide +kernel)) (fun _ _ _ _ _ => pg_name (i := 2) scDrop.nd rfl (Or.inl rfl)) (fun _ _ _ _ _ => pts_one (pt_cmpR op_ne (pv 2) (pv 1) (nomark _))) (fun _ _ _ _ _ => pv 2)) rfl)), ?_⟩
    have nae : a ≠ e := ne_of ha he (by intro z; cases z)
    have nqe : q ≠ e := ne_of hq he (by intro z; cases z)
    refine ⟨_, rfl, a, CW, dx, _, _, rfl, ha, T.cl, T.no _ (by decide), rfl, ?_⟩
    refine ⟨_, rfl, e, _, Sum.inl l, rfl, he, rfl, by rw [ent_val, if_pos hl]; rfl, ?_⟩
    rw [ent_drop]
    have g1 : ∀ b o, b ≠ e → H b = some o → upd H e (.dK (entKV (ls.filter fun x => decide (x ≠ l)) ad)) b = some o := fun b o n z => by rw [upd_ne n]; exact z
    have e1 : upd H e (.dK (entKV (ls.filter fun x => decide (x ≠ l)) ad)) e = some (.dK (entKV (without l ls) ad)) := upd_same
    generalize upd H e (.dK (entKV (ls.filter fun x => decide (x ≠ l)) ad)) = H1 at g1 e1
    have a1 := g1 _ _ nae ha
    have q1 := g1 _ _ nqe hq
    refine ⟨_, rfl, a, CW, dx, _, _, rfl, a1, T.cl, T.no _ (by decide), rfl, ?_⟩
    refine ⟨q, rfl, ⟨_, SqL.of q1⟩, fun D hD => lc_list (K := K) (a := q) (xs := qs.map V.int) (fun i H' => Same H1 H' ∧ H' D = some (.lst ((without l (qs.take i)).map V.int))) ⟨Same.new' hD, by rw [upd_same]; rfl⟩ (fun i H' _ h => SqL.of (h.1 _ _ q1)) ?_ ?_⟩
    · rintro i v H' hv ⟨sm, hD'⟩
      rw [List.getElem?_map] at hv
      cases el : qs[i]? with
      | none => rw [el] at hv; cases hv
      | some x =>
      rw [el] at hv
      cases hv
      obtain ⟨hi, _⟩ := List.getElem?_eq_some_iff.mp el
      have et : without l (qs.take (i + 1)) = without l (qs.take i) ++ (if x ≠ l then [x] else []) := by
        unfold without
        rw [List.take_add_one, el, List.filter_append]
        by_cases h : x = l
        · rw [if_neg (fun z => z h)]
          simp [h]
        · rw [if_pos h]
          simp [h]
      refine ⟨rfl, ?_⟩
      show tTest _ _ _ _
      walk_at "wn"
      by_cases h : x = l
      · subst h
        rw [et, if_neg (show ¬ (x ≠ x) from fun z => z rfl), List.append_nil]
        walk_at "wn"
        exact ⟨sm, hD'⟩
      · rw [decide_eq_false fun z => h (V.int.inj z), et, if_pos h, List.map_append]
        walk_at "wn"
        refine ⟨_, hD', ?_, fun b o z => ?_, upd_same⟩
        · rw [List.length_map]
          have : (without l (qs.take i)).length ≤ (qs.take i).length := List.length_filter_le _ _
          rw [List.length_take] at this
          rw [sizeLine_eq]
          omega
        · rw [upd_ne (ne_of_none z hD)]
          exact sm _ _ z
    · rintro H' ⟨sm, hD'⟩
      have hD0 : H D = none := by
        cases z : H D with
        | none => rfl
        | some o =>
          by_cases n : D = e
          · rw [n, e1] at hD
            cases hD
          · rw [g1 _ _ n z] at hD
            cases hD
      have eq : without l (qs.take (qs.map V.int).length) = without l qs := by rw [List.length_map, List.take_length]
      rw [eq] at hD'
      refine ⟨_, rfl, a, CW, dx, _, rfl, sm _ _ a1, T.cl, T.no _ (by decide), by show 2 < 1000; decide, ?_⟩
      have naD : a ≠ D := ne_of_none a1 hD
      have neD : e ≠ D := ne_of_none e1 hD
      refine k _ D hD0 upd_same ((upd_ne (Ne.symm naD)).trans hD') ((upd_ne (Ne.symm nae)).trans (sm _ _ e1)) fun b o n1 n2 z => ?_
      rw [upd_ne n1]
      exact sm _ _ (g1 _ _ n2 z)
end
/-! System.change, System.remove -/
def changed (S : Sys) (s l : Int) (r : Reg) : Sys := { S with
  reg := fun j i => if j = s ∧ i = l then r else S.reg j i
  que := fun j => if j = s then (if ready S r.src = true then qAdd l (S.que s) else S.que s) else S.que j }
def dropped (S : Sys) (s l : Int) : Sys := { S with
  ents := fun j => if j = s then without l (S.ents s) else S.ents j
  que := fun j => if j = s then without l (S.que s) else S.que j }
section
variable {P : Program} {w : World} {K : PySem.W.Frag} {mg : Str → Option Value} {base : Heap} {C : Cs}
def spChange (C : Cs) : Sp := fun vs H Q _ => ∃ (p sn n l s t : Int) (wd : Str), OnSys C vs H [.int p, .int sn, .int n, .str wd] fun S ad dx => Means S p sn s ∧ s ∈ S.sets ∧ Means S p n t ∧ t ∈ S.srcs ∧ wd ∈ wordsL ∧ (S.ents s).find? (keyOf (S.reg s) n t) = some l ∧ Small S ∧
  ∀ H' ad' dx', At C H' (changed S s l ⟨n, t, wd, true⟩) ad' dx' → Step H S ad H' (changed S s l ⟨n, t, wd, true⟩) ad' → Q .non H'
theorem scChange : FnScope ["self", "process", "set_number", "number", "word", "waiting", "source", "label"] ["self", "process", "set_number", "number", "word"] (defScope sChange) := ⟨rfl, rfl, rfl, by decide +kernel, rfl, by decide +kernel, by decide +kernel⟩
theorem okChange {f fW fS fD fO fR fI fP : Addr} {fd fdW fdS fdD fdO fdR fdI fdP : FuncData} (F : Fun K "change" "System.change" sChange f fd) (T : ClsF K C.S sysF) (TW : ClsF K C.W wsF)
    (GW : MO P w K mg base 5 C.S "set_at" ["self", "process", "set_number"] (spSetAt C) fW fdW) (GS : MO P w K mg base 5 C.S "source_at" ["self", "process", "number"] (spSourceAt C) fS fdS)
    (GD : DO P w K mg base 1 "is_word" ["x"] spIsWord fD fdD) (GO : MO P w K mg base 1 C.W "label_of" ["self", "number", "source"] (spLabelOf C.W C.R) fO fdO)
    (gR : mg "Registration" = some (.ref C.R)) (MR : Mk K C.R fR) (GR : FnOk P w K mg base CX0 1 fR fdR ["self", "number", "source", "word", "armed"] (spRegInit C.R)) (bR : Binds K fdR ["self", "number", "source", "word", "armed"] [])
    (GI : MO P w K mg base 1 C.S "is_ready" ["self", "source"] (spIsReady C) fI fdI) (GP : MO P w K mg base 2 C.W "put" ["self", "label", "kept", "ready"] (spPut C.W) fP fdP) :
    FnOk P w K mg base CX0 6 f fd ["self", "process", "set_number", "number", "word"] (spChange C) := by
  refine F.ok scChange (fun vs H Q E h => ?_) (fun cdv A outer s H vs Q E hr h => ?_)
  · obtain ⟨_, _, _, _, _, _, _, _, _, _, rfl, _⟩ := h
    rfl
  · obtain ⟨p, sn, n, l, s, t, wd, S, ad, dx, rfl, A0, Ms, hs, Mt, ht, hwd, hfind, sm0, k⟩ := h
    have hu := hu_of hr
    have hr1 : Room 1 _ := hr.mono (by decide)
    have hr2 : Room 2 _ := hr.mono (by decide)
    have hl : l ∈ S.ents s := List.mem_of_find?_eq_some hfind
    refine ⟨_, pss_cons (ps_set (i := 5) scChange.nd rfl (Or.inl rfl) (pe_meth (pv 0) T.cl GW.m GW.g hr GW.b .nil pass0 (pa_cons (pv 1) (pa_cons (pv 2) pa_nil))))
      (pss_cons (ps_set (i := 6) scChange.nd rfl (Or.inl rfl) (pe_meth (pv 0) T.cl GS.m GS.g hr GS.b .nil pass0 (pa_cons (pv 1) (pa_cons (pv 3) pa_nil))))
      (pss_cons (ps_if (pt_not (pt_val (pe_call GD.g hr1 (by rfl) GD.m GD.k GD.b .nil pass0 (pa_cons (pv 4) pa_nil)))) (pss_one ps_never) pss_nil)
      (pss_cons (ps_set (i := 7) scChange.nd rfl (Or.inl rfl) (pe_meth (pv 5) TW.cl GO.m GO.g hr1 GO.b .nil pass0 (pa_cons (pv 3) (pa_cons (pv 6) pa_nil))))
      (pss_cons (ps_if (pt_cmpR oIsN (pv 7) pe_non (nomark _)) (pss_one ps_never) pss_nil)
      (pss_one (ps_expr (pe_meth (pv 5) TW.cl GP.m GP.g hr2 GP.b .nil pass0 (pa_cons (pv 7) (pa_cons (pe_make MR GR hr2 (by rfl) gR bR .nil pass0 (pa_cons (pv 3) (pa_cons (pv 6) (pa_cons (pv 4) (pa_cons pe_bl pa_nil))))) (pa_cons (pe_meth (pv 0) T.cl GI.m GI.g hr1 GI.b .nil pass0 (pa_cons (pv 6) pa_nil)) pa_nil)))))))))), ?_⟩
    have hb := A0.at_ .box trivial
    walk_at "wn"
    refine ⟨_, rfl, ad .box, dx .box, _, rfl, hb, rfl, ?_⟩
    walk_at "wn"
    refine ⟨p, sn, s, S, ad, dx, rfl, A0, Ms, hs, ?_⟩
    walk_at "wn"
    refine ⟨_, rfl, ad .box, dx .box, _, rfl, hb, rfl, ?_⟩
    walk_at "wn"
    refine ⟨p, n, t, S, ad, dx, rfl, A0, Mt, ht, ?_⟩
    walk_at "wn"
    refine ⟨wd, rfl, hwd, ?_⟩
    refine ⟨_, rfl, ?_⟩
    walk_at "wn"
    have hw := A0.at_ (.ws s) hs
    refine ⟨_, rfl, ad (.ws s), dx (.ws s), _, rfl, hw, rfl, ?_⟩
    walk_at "wn"
    refine ⟨ad (.ws s), dx (.ws s), ad (.ent s), ad (.que s), n, t, S.ents s, fun j => ad (.reg s j), S.reg s, rfl, hw, A0.at_ (.ent s) hs, fun j hj => ⟨dx (.reg s j), A0.at_ (.reg s j) ⟨hs, hj⟩⟩, fun H1 s1 => ?_⟩
    rw [hfind]
    have A1 := A0.same s1
    have hw1 := A1.at_ (.ws s) hs
    have he1 := A1.at_ (.ent s) hs
    have hq1 := A1.at_ (.que s) hs
    walk_at "wn"
    rw [decide_eq_false (by intro z; cases z)]
    walk_at "wn"
    refine ⟨_, rfl, ad (.ws s), dx (.ws s), _, rfl, hw1, rfl, ?_⟩
    walk_at "wn"
    refine ⟨_, rfl, _, rfl, _, rfl, fun x dx2 hx hdx ndx => ?_⟩
    refine ⟨x, dx2, n, t, wd, true, rfl, upd_same, fun H2 k1 k2 => ⟨rfl, ?_⟩⟩
    have s2 : Same H1 H2 := fun b o e => by
      rw [k1 b (ne_of_none e hx), upd_ne (ne_of_none e hx), upd_ne (ne_of_none e hdx)]
      exact e
    have A2 := A1.same s2
    refine ⟨_, rfl, ad .box, dx .box, _, rfl, A2.at_ .box trivial, rfl, ?_⟩
    walk_at "wn"
    refine ⟨t, S, ad, dx, rfl, A2, ht, ?_⟩
    have he2 := A2.at_ (.ent s) hs
    have hq2 := A2.at_ (.que s) hs
    have z1 := sm0.que s hs
    have z2 := sm0.ents s hs
    refine ⟨ad (.ws s), dx (.ws s), ad (.ent s), ad (.que s), x, l, ready S t, S.que s, _, rfl, A2.at_ (.ws s) hs, hq2, he2, by omega, by unfold entKV; rw [List.length_map]; omega, fun H3 j1 j2 j3 => ?_⟩
    rw [ent_put, if_pos hl, reg_fun] at j1
    have nxe : x ≠ ad (.ent s) := fun z => by rw [z, he1] at hx; cases hx
    have nxq : x ≠ ad (.que s) := fun z => by rw [z, hq1] at hx; cases hx
    have fresh : H x = none := s1.free hx
    refine (fun z : At C _ _ _ _ ∧ Step H S ad _ _ _ => k H3 (setA ad (.reg s l) x) (setA dx (.reg s l) dx2) z.1 z.2) ?_
    refine At.re3 [.ent s, .que s, .reg s l] A0 (fun c lc => .inr ?_) (fun c hc lc => ?_) (fun c hc lc => ?_) (fun c hc lc => ?_) (fun c hc c' hc' lc lc' z e => ?_) (fun b o nb e => ?_) (setA_ne (by intro z; cases z))
    · cases c <;> exact lc
    · simp only [List.mem_cons, List.not_mem_nil, or_false] at hc
      rcases hc with rfl | rfl | rfl
      · rw [setA_ne (by intro z; cases z), j1]
        rfl
      · rw [setA_ne (by intro z; cases z), j2]
        show _ = some (HO.lst ((if s = s then _ else S.que s).map V.int))
        rw [if_pos rfl]
      · rw [setA_same, j3 x nxe nxq, k2]
        show _ = some (regO C.R (setA dx (.reg s l) dx2 (.reg s l)) (if s = s ∧ l = l then (⟨n, t, wd, true⟩ : Reg) else S.reg s l).num (if s = s ∧ l = l then (⟨n, t, wd, true⟩ : Reg) else S.reg s l).src (if s = s ∧ l = l then (⟨n, t, wd, true⟩ : Reg) else S.reg s l).word (if s = s ∧ l = l then (⟨n, t, wd, true⟩ : Reg) else S.reg s l).armed)
        rw [if_pos ⟨rfl, rfl⟩, setA_same]
    · have n1 : c ≠ .ent s := fun z => hc (by rw [z]; simp)
      have n2 : c ≠ .que s := fun z => hc (by rw [z]; simp)
      have n3 : c ≠ .reg s l := fun z => hc (by rw [z]; simp)
      refine ⟨setA_ne n3, ?_⟩
      cases c with
      | ent s' =>
        have ns : s' ≠ s := fun z => n1 (by rw [z])
        have ef : (fun j => setA ad (.reg s l) x (.reg s' j)) = fun j => ad (.reg s' j) := funext fun j => setA_ne fun z => ns (by cases z; rfl)
        show HO.dK (entKV (S.ents s') fun j => setA ad (.reg s l) x (.reg s' j)) = _
        rw [ef]
        rfl
      | que s' =>
        have ns : s' ≠ s := fun z => n2 (by rw [z])
        show HO.lst ((if s' = s then _ else S.que s').map V.int) = _
        rw [if_neg ns]
        rfl
      | reg s' l' =>
        have nr : ¬ (s' = s ∧ l' = l) := fun z => n3 (by rw [z.1, z.2])
        show regO C.R (setA dx (.reg s l) dx2 (.reg s' l')) (if s' = s ∧ l' = l then (⟨n, t, wd, true⟩ : Reg) else S.reg s' l').num (if s' = s ∧ l' = l then (⟨n, t, wd, true⟩ : Reg) else S.reg s' l').src (if s' = s ∧ l' = l then (⟨n, t, wd, true⟩ : Reg) else S.reg s' l').word (if s' = s ∧ l' = l then (⟨n, t, wd, true⟩ : Reg) else S.reg s' l').armed = _
        rw [if_neg nr, setA_ne n3]
        rfl
      | _ => rfl
    · simp only [List.mem_cons, List.not_mem_nil, or_false] at hc
      rcases hc with rfl | rfl | rfl
      · exact .inl ⟨setA_ne (by intro z; cases z), hs⟩
      · exact .inl ⟨setA_ne (by intro z; cases z), hs⟩
      · exact .inr (by rw [setA_same]; exact fresh)
    · have of : ∀ c, c ∈ ([.ent s, .que s, .reg s l] : List Cell) → H (setA ad (.reg s l) x c) = none → c = .reg s l := fun c hc z => by
        simp only [List.mem_cons, List.not_mem_nil, or_false] at hc
        rcases hc with rfl | rfl | rfl
        · rw [setA_ne (by intro z; cases z), A0.at_ (.ent s) hs] at z
          cases z
        · rw [setA_ne (by intro z; cases z), A0.at_ (.que s) hs] at z
          cases z
        · rfl
      rw [of c hc z, of c' hc' (by rw [← e]; exact z)]
    · rw [j3 b (nb (.ent s) (by simp) hs) (nb (.que s) (by simp) hs)]
      exact s2 _ _ (s1 _ _ e)
def spRemove (C : Cs) : Sp := fun vs H Q _ => ∃ (p sn n l s t : Int), OnSys C vs H [.int p, .int sn, .int n] fun S ad dx => Means S p sn s ∧ s ∈ S.sets ∧ Means S p n t ∧ t ∈ S.srcs ∧ (S.ents s).find? (keyOf (S.reg s) n t) = some l ∧ Small S ∧
  ∀ H' ad' dx', At C H' (dropped S s l) ad' dx' → Step H S ad H' (dropped S s l) ad' → Q .non H'
theorem scRemove : FnScope ["self", "process", "set_number", "number", "waiting", "source", "label"] ["self", "process", "set_number", "number"] (defScope sRemove) := ⟨rfl, rfl, rfl, by decide +kernel, rfl, by decide +kernel, by decide +kernel⟩
theorem okRemove {f fW fS fO fP : Addr} {fd fdW fdS fdO fdP : FuncData} (F : Fun K "remove" "System.remove" sRemove f fd) (T : ClsF K C.S sysF) (TW : ClsF K C.W wsF)
    (GW : MO P w K mg base 5 C.S "set_at" ["self", "process", "set_number"] (spSetAt C) fW fdW) (GS : MO P w K mg base 5 C.S "source_at" ["self", "process", "number"] (spSourceAt C) fS fdS)
    (GO : MO P w K mg base 1 C.W "label_of" ["self", "number", "source"] (spLabelOf C.W C.R) fO fdO) (GP : MO P w K mg base 1 C.W "drop" ["self", "label"] (spDrop C.W) fP fdP) :
    FnOk P w K mg base CX0 6 f fd ["self", "process", "set_number", "number"] (spRemove C) := by
  refine F.ok scRemove (fun vs H Q E h => ?_) (fun cdv A outer s H vs Q E hr h => ?_)
  · obtain ⟨_, _, _, _, _, _, _, _, _, rfl, _⟩ := h
    rfl
  · obtain ⟨p, sn, n, l, s, t, S, ad, dx, rfl, A0, Ms, hs, Mt, ht, hfind, sm0, k⟩ := h
    have hr1 : Room 1 _ := hr.mono (by decide)
    have hl : l ∈ S.ents s := List.mem_of_find?_eq_some hfind
    refine ⟨_, pss_cons (ps_set (i := 4) scRemove.nd rfl (Or.inl rfl) (pe_meth (pv 0) T.cl GW.m GW.g hr GW.b .nil pass0 (pa_cons (pv 1) (pa_cons (pv 2) pa_nil))))
      (pss_cons (ps_set (i := 5) scRemove.nd rfl (Or.inl rfl) (pe_meth (pv 0) T.cl GS.m GS.g hr GS.b .nil pass0 (pa_cons (pv 1) (pa_cons (pv 3) pa_nil))))
      (pss_cons (ps_set (i := 6) scRemove.nd rfl (Or.inl rfl) (pe_meth (pv 4) TW.cl GO.m GO.g hr1 GO.b .nil pass0 (pa_cons (pv 3) (pa_cons (pv 5) pa_nil))))
      (pss_cons (ps_if (pt_cmpR oIsN (pv 6) pe_non (nomark _)) (pss_one ps_never) pss_nil)
      (pss_one (ps_expr (pe_meth (pv 4) TW.cl GP.m GP.g hr1 GP.b .nil pass0 (pa_cons (pv 6) pa_nil))))))), ?_⟩
    have hb := A0.at_ .box trivial
    walk_at "wn"
    refine ⟨_, rfl, ad .box, dx .box, _, rfl, hb, rfl, ?_⟩
    walk_at "wn"
    refine ⟨p, sn, s, S, ad, dx, rfl, A0, Ms, hs, ?_⟩
    walk_at "wn"
    refine ⟨_, rfl, ad .box, dx .box, _, rfl, hb, rfl, ?_⟩
    walk_at "wn"
    refine ⟨p, n, t, S, ad, dx, rfl, A0, Mt, ht, ?_⟩
    walk_at "wn"
    have hw := A0.at_ (.ws s) hs
    refine ⟨_, rfl, ad (.ws s), dx (.ws s), _, rfl, hw, rfl, ?_⟩
    walk_at "wn"
    refine ⟨ad (.ws s), dx (.ws s), ad (.ent s), ad (.que s), n, t, S.ents s, fun j => ad (.reg s j), S.reg s, rfl, hw, A0.at_ (.ent s) hs, fun j hj => ⟨dx (.reg s j), A0.at_ (.reg s j) ⟨hs, hj⟩⟩, fun H1 s1 => ?_⟩
    rw [hfind]
    have A1 := A0.same s1
    have hw1 := A1.at_ (.ws s) hs
    have he1 := A1.at_ (.ent s) hs
    have hq1 := A1.at_ (.que s) hs
    walk_at "wn"
    rw [decide_eq_false (by intro z; cases z)]
    walk_at "wn"
    refine ⟨_, rfl, ad (.ws s), dx (.ws s), _, rfl, hw1, rfl, ?_⟩
    walk_at "wn"
    have z1 := sm0.que s hs
    refine ⟨ad (.ws s), dx (.ws s), ad (.ent s), ad (.que s), l, S.que s, S.ents s, fun j => ad (.reg s j), rfl, hw1, hq1, he1, hl, by omega, fun H2 q' j0 j1 j2 j3 j4 => ?_⟩
    have fresh : H q' = none := s1.free j0
    refine (fun z : At C _ _ _ _ ∧ Step H S ad _ _ _ => k H2 (setA ad (.que s) q') dx z.1 z.2) ?_
    refine At.re3 [.ws s, .ent s, .que s] A0 (fun c lc => .inr ?_) (fun c hc lc => ?_) (fun c hc lc => ?_) (fun c hc lc => ?_) (fun c hc c' hc' lc lc' z e => ?_) (fun b o nb e => ?_) (setA_ne (by intro z; cases z))
    · cases c with
      | reg s' l' =>
        obtain ⟨h1, h2⟩ := lc
        have h2 : l' ∈ (if s' = s then without l (S.ents s) else S.ents s') := h2
        by_cases e : s' = s
        · subst e
          rw [if_pos rfl] at h2
          exact ⟨h1, (List.mem_filter.mp h2).1⟩
        · rw [if_neg e] at h2
          exact ⟨h1, h2⟩
      | _ => exact lc
    · simp only [List.mem_cons, List.not_mem_nil, or_false] at hc
      rcases hc with rfl | rfl | rfl
      · rw [setA_ne (by intro z; cases z), j1]
        show _ = some (wsO C.W (dx (.ws s)) (setA ad (.que s) q' (.ent s)) (setA ad (.que s) q' (.que s)))
        rw [setA_ne (by intro z; cases z), setA_same]
      · rw [setA_ne (by intro z; cases z), j3]
        show _ = some (HO.dK (entKV (if s = s then without l (S.ents s) else S.ents s) fun j => setA ad (.que s) q' (.reg s j)))
        rw [if_pos rfl]
        have ef : (fun j => setA ad (.que s) q' (.reg s j)) = fun j => ad (.reg s j) := funext fun j => setA_ne (by intro z; cases z)
        rw [ef]
      · rw [setA_same, j2]
        show _ = some (HO.lst ((if s = s then without l (S.que s) else S.que s).map V.int))
        rw [if_pos rfl]
    · have n1 : c ≠ .ws s := fun z => hc (by rw [z]; simp)
      have n2 : c ≠ .ent s := fun z => hc (by rw [z]; simp)
      have n3 : c ≠ .que s := fun z => hc (by rw [z]; simp)
      refine ⟨setA_ne n3, ?_⟩
      cases c with
      | ws s' =>
        have ns : s' ≠ s := fun z => n1 (by rw [z])
        show wsO C.W (dx (.ws s')) (setA ad (.que s) q' (.ent s')) (setA ad (.que s) q' (.que s')) = _
        rw [setA_ne (by intro z; cases z), setA_ne (fun z => ns (by cases z; rfl))]
        rfl
      | ent s' =>
        have ns : s' ≠ s := fun z => n2 (by rw [z])
        have ef : (fun j => setA ad (.que s) q' (.reg s' j)) = fun j => ad (.reg s' j) := funext fun j => setA_ne (by intro z; cases z)
        show HO.dK (entKV (if s' = s then without l (S.ents s) else S.ents s') fun j => setA ad (.que s) q' (.reg s' j)) = _
        rw [if_neg ns, ef]
        rfl
      | que s' =>
        have ns : s' ≠ s := fun z => n3 (by rw [z])
        show HO.lst ((if s' = s then _ else S.que s').map V.int) = _
        rw [if_neg ns]
        rfl
      | _ => rfl
    · simp only [List.mem_cons, List.not_mem_nil, or_false] at hc
      rcases hc with rfl | rfl | rfl
      · exact .inl ⟨setA_ne (by intro z; cases z), hs⟩
      · exact .inl ⟨setA_ne (by intro z; cases z), hs⟩
      · exact .inr (by rw [setA_same]; exact fresh)
    · have of : ∀ c, c ∈ ([.ws s, .ent s, .que s] : List Cell) → H (setA ad (.que s) q' c) = none → c = .que s := fun c hc z => by
        simp only [List.mem_cons, List.not_mem_nil, or_false] at hc
        rcases hc with rfl | rfl | rfl
        · rw [setA_ne (by intro z; cases z), hw] at z
          cases z
        · rw [setA_ne (by intro z; cases z), A0.at_ (.ent s) hs] at z
          cases z
        · rfl
      rw [of c hc z, of c' hc' (by rw [← e]; exact z)]
    · exact j4 b o (nb (.ws s) (by simp) hs) (nb (.ent s) (by simp) hs) (s1 _ _ e)
end

def newSource (S : Sys) (p : Int) (n : Nat) : Sys := { newThing S p n with
  srcs := S.srcs ++ [S.next]
  unit := fun j => if j = S.next then (0, false) else S.unit j }
def newSet (S : Sys) (p : Int) (n : Nat) : Sys := { newThing S p n with
  sets := S.sets ++ [S.next]
  ents := fun j => if j = S.next then [] else S.ents j
  que := fun j => if j = S.next then [] else S.que j }
section
variable {P : Program} {w : World} {K : PySem.W.Frag} {mg : Str → Option Value} {base : Heap} {C : Cs}
def spNewSource (C : Cs) : Sp := fun vs H Q _ => ∃ (p : Int) (n : Nat), OnSys C vs H [.int p] fun S ad dx => p ∈ S.procs ∧ firstFree (S.tab p) n ∧ (S.tab p).length ≤ 1000 ∧ S.srcs.length ≤ 1000 ∧ S.next ∉ S.srcs ∧
  ∀ H' ad', At C H' (newSource S p n) ad' dx → Step H S ad H' (newSource S p n) ad' → Q (.int (n : Int)) H'
theorem scNewSource : FnScope ["self", "process", "number", "thing"] ["self", "process"] (defScope sNewSource) := ⟨rfl, rfl, rfl, by decide +kernel, rfl, by decide +kernel, by decide +kernel⟩
def spNewSet (C : Cs) : Sp := fun vs H Q _ => ∃ (p : Int) (n : Nat), OnSys C vs H [.int p] fun S ad dx => p ∈ S.procs ∧ firstFree (S.tab p) n ∧ (S.tab p).length ≤ 1000 ∧ S.sets.length ≤ 1000 ∧ S.next ∉ S.sets ∧
  ∀ H' ad' dx', At C H' (newSet S p n) ad' dx' → Step H S ad H' (newSet S p n) ad' → Q (.int (n : Int)) H'
theorem scNewSet : FnScope ["self", "process", "number", "thing"] ["self", "process"] (defScope sNewSet) := ⟨rfl, rfl, rfl, by decide +kernel, rfl, by decide +kernel, by decide +kernel⟩
end

def newSys (P N : Int) : Sys where
  P := P
  N := N
  next := 0
  procs := [0]
  tab := fun _ => List.replicate N.toNat none
  srcs := []
  unit := fun _ => (0, false)
  sets := []
  ents := fun _ => []
  reg := fun _ _ => ⟨0, 0, "level", true⟩
  que := fun _ => []
section
variable {P : Program} {w : World} {K : PySem.W.Frag} {mg : Str → Option Value} {base : Heap} {C : Cs}
structure LimTxt (K : PySem.W.Frag) (mg : Str → Option Value) (CS : Addr) : Prop where
  lp : ∃ t, mg "LEAST_PROCESSES" = some (.int 2 t)
  ln : ∃ t, mg "LEAST_NUMBERS" = some (.int 3 t)
  mp : ∃ u, Con K CS "MOST_PROCESSES" (.int 6) u
  mn : ∃ u, Con K CS "MOST_NUMBERS" (.int 8) u
def spSysInit (C : Cs) : Sp := fun vs H Q _ => ∃ (x dx0 : Addr) (p n : Int), vs = [.ref x, .int p, .int n] ∧ H x = some (.ins C.S dx0 []) ∧ 2 ≤ p ∧ p ≤ 6 ∧ 3 ≤ n ∧ n ≤ 8 ∧
  ∀ H' ad dx, ad .box = x → At C H' (newSys p n) ad dx → (∀ b o, b ≠ x → H b = some o → H' b = some o) → (∀ b, own (newSys p n) ad b → b = x ∨ H b = none) → Q .non H'
theorem scSysInit : FnScope ["self", "processes", "numbers"] ["self", "processes", "numbers"] (defScope sSysInit) := ⟨rfl, rfl, rfl, by decide +kernel, rfl, by decide +kernel, by decide +kernel⟩
def initA (x td sd ud tl : Addr) : Cell → Addr
  | .box => x
  | .tabD => td
  | .srcD => sd
  | .setD => ud
  | _ => tl
theorem okSysInit {dvs : List V} {kws : List (Str × V)} {f fB : Addr} {fd fdB : FuncData} (F : FunD K "__init__" "System.__init__" (defArgs sSysInit) (defBody sSysInit) (defScope sSysInit) dvs kws f fd) (T : ClsF K C.S sysF) (L : LimTxt K mg C.S)
    (GB : DO P w K mg base 2 "is_between" ["x", "least", "most"] spIsBetween fB fdB) : FnOk P w K mg base CX0 3 f fd ["self", "processes", "numbers"] (spSysInit C) := by
  refine F.ok scSysInit (fun vs H Q E h => ?_) (fun cdv A outer s H vs Q E hr h => ?_)
  · obtain ⟨_, _, _, _, rfl, _⟩ := h
    rfl
  · obtain ⟨x, dx0, p, n, rfl, hx, p0, p1, n0, n1, k⟩ := h
    obtain ⟨tp, lp⟩ := L.lp
    obtain ⟨tn, ln⟩ := L.ln
    obtain ⟨up, mp⟩ := L.mp
    obtain ⟨un, mn⟩ := L.mn
    refine ⟨_, pss_cons (ps_if (pt_not (pt_val (pe_call GB.g hr (by rfl) GB.m GB.k GB.b .nil pass0 (pa_cons (pv 1) (pa_cons (pe_glob (v := .int 2) (by rfl) lp ⟨_, rfl⟩) (pa_cons (pe_con (pv 0) rfl) pa_nil)))))) (pss_one ps_never) pss_nil)
      (pss_cons (ps_if (pt_not (pt_val (pe_call GB.g hr (by rfl) GB.m GB.k GB.b .nil pass0 (pa_cons (pv 2) (pa_cons (pe_glob (v := .int 3) (by rfl) ln ⟨_, rfl⟩) (pa_cons (pe_con (pv 0) rfl) pa_nil)))))) (pss_one ps_never) pss_nil)
      (pss_cons (ps_fld (pv 0) (pv 1) rfl) (pss_cons (ps_fld (pv 0) (pv 2) rfl)
      (pss_cons (ps_fld (pv 0) (pe_disp (pps_cons pe_int (pe_op op_rep (pe_lst (pa_cons pe_non pa_nil)) (pv 2)) pps_nil) (by rfl) (by rfl) (fun z => by cases z) (by decide)) rfl)
      (pss_cons (ps_fld (pv 0) pe_dnewK rfl) (pss_cons (ps_fld (pv 0) pe_dnewK rfl) (pss_one (ps_fld (pv 0) pe_int rfl)))))))), ?_⟩
    walk_at "wn"
    refine ⟨_, rfl, x, C.S, dx0, _, _, _, rfl, hx, T.cl, mp, rfl, ?_⟩
    refine ⟨p, 2, 6, rfl, ?_⟩
    rw [decide_eq_true p0, decide_eq_true p1]
    refine ⟨_, rfl, ?_⟩
    walk_at "wn"
    refine ⟨_, rfl, _, rfl, x, C.S, dx0, _, _, _, rfl, hx, T.cl, mn, rfl, ?_⟩
    refine ⟨n, 3, 8, rfl, ?_⟩
    rw [decide_eq_true n0, decide_eq_true n1]
    refine ⟨_, rfl, ?_⟩
    refine ⟨_, rfl, _, rfl, x, C.S, dx0, _, rfl, hx, T.cl, T.no _ (by decide), by show 0 < 1000; decide, ?_⟩
    refine ⟨_, rfl, _, rfl, x, C.S, dx0, _, rfl, upd_same, T.cl, T.no _ (by decide), by show 1 < 1000; decide, ?_⟩
    have g1 : ∀ b o, b ≠ x → H b = some o → upd (upd H x (.ins C.S dx0 (putF "process_limit" (V.int p) []))) x (.ins C.S dx0 (putF "number_limit" (V.int n) (putF "process_limit" (V.int p) []))) b = some o := fun b o nb e => by rw [upd_ne nb, upd_ne nb]; exact e
    have x1 : upd (upd H x (.ins C.S dx0 (putF "process_limit" (V.int p) []))) x (.ins C.S dx0 (putF "number_limit" (V.int n) (putF "process_limit" (V.int p) []))) x = some (.ins C.S dx0 [("process_limit", .int p), ("number_limit", .int n)]) := upd_same
    generalize upd (upd H x (.ins C.S dx0 (putF "process_limit" (V.int p) []))) x (.ins C.S dx0 (putF "number_limit" (V.int n) (putF "process_limit" (V.int p) []))) = H1 at g1 x1
    have fr : ∀ {H' : Hp} {l : Addr}, (∀ b o, b ≠ x → H b = some o → H' b = some o) → H' l = none → l ≠ x → H l = none := fun {H'} {l} g e nl => by
      cases z : H l with
      | none => rfl
      | some o => rw [g l o nl z] at e; cases e
    intro td htd
    have ntx : td ≠ x := fun z => by rw [z, x1] at htd; cases htd
    have s2 := Same.new' (o := .dK []) htd
    refine ⟨by show 1 ≤ sizeLine; decide, fun l0 hl0 => ?_⟩
    have s3 := Same.new' (o := .lst [V.non]) hl0
    have l0' : upd (upd H1 td (.dK [])) l0 (.lst [V.non]) l0 = some (.lst [V.non]) := upd_same
    refine ⟨_, rfl, l0, n, _, rfl, rfl, l0', by omega, by omega, ?_, fun tl htl => ?_⟩
    · show 1 * n.toNat ≤ sizeLine
      rw [sizeLine_eq]
      omega
    have s4 := Same.new' (o := .lst (List.replicate n.toNat [V.non]).flatten) htl
    have td4 : upd (upd (upd H1 td (.dK [])) l0 (.lst [V.non])) tl (.lst (List.replicate n.toNat [V.non]).flatten) td = some (.dK []) := s4 _ _ (s3 _ _ upd_same)
    have x4 := s4 _ _ (s3 _ _ (s2 _ _ x1))
    have tl4 : upd (upd (upd H1 td (.dK [])) l0 (.lst [V.non])) tl (.lst (List.replicate n.toNat [V.non]).flatten) tl = some (.lst (List.replicate n.toNat [V.non]).flatten) := upd_same
    have g4 : ∀ b o, b ≠ x → H b = some o → upd (upd (upd H1 td (.dK [])) l0 (.lst [V.non])) tl (.lst (List.replicate n.toNat [V.non]).flatten) b = some o := fun b o nb e => s4 _ _ (s3 _ _ (s2 _ _ (g1 b o nb e)))
    have hd0 : H td = none := fr g1 htd ntx
    have ntlx : tl ≠ x := fun z => by rw [z] at htl; rw [s3 _ _ (s2 _ _ x1)] at htl; cases htl
    have htl0 : H tl = none := fr (H' := upd (upd H1 td (.dK [])) l0 (.lst [V.non])) (fun b o nb e => s3 _ _ (s2 _ _ (g1 b o nb e))) htl ntlx
    generalize upd (upd (upd H1 td (.dK [])) l0 (.lst [V.non])) tl (.lst (List.replicate n.toNat [V.non]).flatten) = H4 at td4 x4 tl4 g4
    have ntd : tl ≠ td := ne_of tl4 td4 (by intro z; cases z)
    refine ⟨td4, [(Sum.inl 0, .ref tl)], rfl, by show 1 ≤ 15; decide, ?_⟩
    have g5 : ∀ b o, b ≠ x → H b = some o → upd H4 td (.dK (mergeK [] [((Sum.inl 0 : Key), V.ref tl)])) b = some o := fun b o nb e => by rw [upd_ne (ne_of_none e hd0)]; exact g4 b o nb e
    have x5 : upd H4 td (.dK (mergeK [] [((Sum.inl 0 : Key), V.ref tl)])) x = _ := (upd_ne (Ne.symm ntx)).trans x4
    have tl5 : upd H4 td (.dK (mergeK [] [((Sum.inl 0 : Key), V.ref tl)])) tl = _ := (upd_ne ntd).trans tl4
    have td5 : upd H4 td (.dK (mergeK [] [((Sum.inl 0 : Key), V.ref tl)])) td = some (.dK [((Sum.inl 0 : Key), V.ref tl)]) := upd_same
    generalize upd H4 td (.dK (mergeK [] [((Sum.inl 0 : Key), V.ref tl)])) = H5 at g5 x5 tl5 td5
    refine ⟨_, rfl, x, C.S, dx0, _, rfl, x5, T.cl, T.no _ (by decide), by show 2 < 1000; decide, ?_⟩
    have g6 : ∀ b o, b ≠ x → H5 b = some o → upd H5 x (.ins C.S dx0 (putF "tables" (V.ref td) [("process_limit", .int p), ("number_limit", .int n)])) b = some o := fun b o nb e => by rw [upd_ne nb]; exact e
    have x6 : upd H5 x (.ins C.S dx0 (putF "tables" (V.ref td) [("process_limit", .int p), ("number_limit", .int n)])) x = some (.ins C.S dx0 [("process_limit", .int p), ("number_limit", .int n), ("tables", .ref td)]) := upd_same
    generalize upd H5 x (.ins C.S dx0 (putF "tables" (V.ref td) [("process_limit", .int p), ("number_limit", .int n)])) = H6 at g6 x6
    intro sd hsd
    have nsx : sd ≠ x := fun z => by rw [z, x6] at hsd; cases hsd
    have nst : sd ≠ td := fun z => by rw [z, g6 _ _ ntx td5] at hsd; cases hsd
    have hsd0 : H sd = none := fr (fun b o nb e => g6 b o nb (g5 b o nb e)) hsd nsx
    have s7 := Same.new' (o := .dK []) hsd
    refine ⟨_, rfl, x, C.S, dx0, _, rfl, s7 _ _ x6, T.cl, T.no _ (by decide), by show 3 < 1000; decide, ?_⟩
    have g8 : ∀ b o, b ≠ x → H6 b = some o → upd (upd H6 sd (.dK [])) x (.ins C.S dx0 (putF "sources" (V.ref sd) [("process_limit", .int p), ("number_limit", .int n), ("tables", .ref td)])) b = some o := fun b o nb e => by rw [upd_ne nb]; exact s7 _ _ e
    have sd8 : upd (upd H6 sd (.dK [])) x (.ins C.S dx0 (putF "sources" (V.ref sd) [("process_limit", .int p), ("number_limit", .int n), ("tables", .ref td)])) sd = some (.dK []) := by rw [upd_ne nsx]; exact upd_same
    have x8 : upd (upd H6 sd (.dK [])) x (.ins C.S dx0 (putF "sources" (V.ref sd) [("process_limit", .int p), ("number_limit", .int n), ("tables", .ref td)])) x = some (.ins C.S dx0 [("process_limit", .int p), ("number_limit", .int n), ("tables", .ref td), ("sources", .ref sd)]) := upd_same
    generalize upd (upd H6 sd (.dK [])) x (.ins C.S dx0 (putF "sources" (V.ref sd) [("process_limit", .int p), ("number_limit", .int n), ("tables", .ref td)])) = H8 at g8 sd8 x8
    intro ud hud
    have nux : ud ≠ x := fun z => by rw [z, x8] at hud; cases hud
    have nut : ud ≠ td := fun z => by rw [z, g8 _ _ ntx (g6 _ _ ntx td5)] at hud; cases hud
    have nus : ud ≠ sd := fun z => by rw [z, sd8] at hud; cases hud
    have hud0 : H ud = none := fr (fun b o nb e => g8 b o nb (g6 b o nb (g5 b o nb e))) hud nux
    have s9 := Same.new' (o := .dK []) hud
    refine ⟨_, rfl, x, C.S, dx0, _, rfl, s9 _ _ x8, T.cl, T.no _ (by decide), by show 4 < 1000; decide, ?_⟩
    refine ⟨_, rfl, x, C.S, dx0, _, rfl, upd_same, T.cl, T.no _ (by decide), by show 5 < 1000; decide, ?_⟩
    have fin : ∀ b o, b ≠ x → upd H8 ud (.dK []) b = some o → upd (upd (upd H8 ud (.dK [])) x (.ins C.S dx0 (putF "sets" (V.ref ud) [("process_limit", .int p), ("number_limit", .int n), ("tables", .ref td), ("sources", .ref sd)]))) x (.ins C.S dx0 (putF "next_thing" (V.int 0) (putF "sets" (V.ref ud) [("process_limit", .int p), ("number_limit", .int n), ("tables", .ref td), ("sources", .ref sd)]))) b = some o := fun b o nb e => by rw [upd_ne nb, upd_ne nb]; exact e
    have xf : upd (upd (upd H8 ud (.dK [])) x (.ins C.S dx0 (putF "sets" (V.ref ud) [("process_limit", .int p), ("number_limit", .int n), ("tables", .ref td), ("sources", .ref sd)]))) x (.ins C.S dx0 (putF "next_thing" (V.int 0) (putF "sets" (V.ref ud) [("process_limit", .int p), ("number_limit", .int n), ("tables", .ref td), ("sources", .ref sd)]))) x = some (sysO C.S dx0 (newSys p n) td sd ud) := upd_same
    generalize upd (upd (upd H8 ud (.dK [])) x (.ins C.S dx0 (putF "sets" (V.ref ud) [("process_limit", .int p), ("number_limit", .int n), ("tables", .ref td), ("sources", .ref sd)]))) x (.ins C.S dx0 (putF "next_thing" (V.int 0) (putF "sets" (V.ref ud) [("process_limit", .int p), ("number_limit", .int n), ("tables", .ref td), ("sources", .ref sd)]))) = HF at fin xf
    have tdF : HF td = some (.dK [((Sum.inl 0 : Key), V.ref tl)]) := fin _ _ ntx (s9 _ _ (g8 _ _ ntx (g6 _ _ ntx td5)))
    have sdF : HF sd = some (.dK []) := fin _ _ nsx (s9 _ _ sd8)
    have udF : HF ud = some (.dK []) := fin _ _ nux upd_same
    have tlF : HF tl = some (.lst (List.replicate n.toNat [V.non]).flatten) := fin _ _ ntlx (s9 _ _ (g8 _ _ ntlx (g6 _ _ ntlx tl5)))
    have et : (List.replicate n.toNat [V.non]).flatten = (List.replicate n.toNat (none : Option Int)).map optV := by
      rw [List.map_replicate]
      have : ∀ m : Nat, (List.replicate m [V.non]).flatten = List.replicate m V.non := by
        intro m
        induction m with
        | zero => rfl
        | succ m ih => rw [List.replicate_succ, List.flatten_cons, ih]; rfl
      exact this _
    rw [et] at tlF
    have lt0 : ∀ t, live (newSys p n) (.tab t) → t = 0 := fun t h => List.mem_singleton.mp h
    have no : ∀ t : Int, t ∉ ([] : List Int) := fun t h => nomatch h
    refine k HF (initA x td sd ud tl) (fun _ => dx0) rfl ⟨fun c hc => ?_, fun c c' hc hc' z => ?_⟩ (fun b o nb e => fin b o nb (s9 _ _ (g8 b o nb (g6 b o nb (g5 b o nb e))))) (fun b hb => ?_)
    · cases c with
      | box => exact xf
      | tabD => exact tdF
      | srcD => exact sdF
      | setD => exact udF
      | tab t => exact tlF
      | srcT t => exact absurd hc (no t)
      | ws t => exact absurd hc (no t)
      | ent t => exact absurd hc (no t)
      | que t => exact absurd hc (no t)
      | reg t l => exact absurd hc.1 (no t)
    · have n_xt : x ≠ td := Ne.symm ntx
      have n_ts : tl ≠ sd := ne_of tlF sdF (by intro z; cases z)
      have n_tu : tl ≠ ud := ne_of tlF udF (by intro z; cases z)
      have dead : ∀ {c : Cell}, live (newSys p n) c → c = .box ∨ c = .tabD ∨ c = .srcD ∨ c = .setD ∨ c = .tab 0 := fun {c} hc => by
        cases c with
        | box => exact .inl rfl
        | tabD => exact .inr (.inl rfl)
        | srcD => exact .inr (.inr (.inl rfl))
        | setD => exact .inr (.inr (.inr (.inl rfl)))
        | tab t => exact .inr (.inr (.inr (.inr (by rw [lt0 t hc]))))
        | srcT t => exact absurd hc (no t)
        | ws t => exact absurd hc (no t)
        | ent t => exact absurd hc (no t)
        | que t => exact absurd hc (no t)
        | reg t l => exact absurd hc.1 (no t)
      rcases dead hc with rfl | rfl | rfl | rfl | rfl <;> rcases dead hc' with rfl | rfl | rfl | rfl | rfl <;> first | rfl | (exfalso; revert z; first | exact fun z => n_xt z | exact fun z => n_xt z.symm | exact fun z => nsx z | exact fun z => nsx z.symm | exact fun z => nux z | exact fun z => nux z.symm | exact fun z => ntlx z | exact fun z => ntlx z.symm | exact fun z => nst z | exact fun z => nst z.symm | exact fun z => nut z | exact fun z => nut z.symm | exact fun z => nus z | exact fun z => nus z.symm | exact fun z => ntd z | exact fun z => ntd z.symm | exact fun z => n_ts z | exact fun z => n_ts z.symm | exact fun z => n_tu z | exact fun z => n_tu z.symm)
    · obtain ⟨c, hc, rfl⟩ := hb
      cases c with
      | box => exact .inl rfl
      | tabD => exact .inr hd0
      | srcD => exact .inr hsd0
      | setD => exact .inr hud0
      | tab t => exact .inr htl0
      | srcT t => exact absurd hc (no t)
      | ws t => exact absurd hc (no t)
      | ent t => exact absurd hc (no t)
      | que t => exact absurd hc (no t)
      | reg t l => exact absurd hc.1 (no t)
end

/-! a dict comprehension with two clauses: {k: v for t0 in i0 if .. for t1 in i1 if ..} -/
/-- one turn of any clause: the next item, the store, the tests, what the clause does, and round again -/
def oneTurn (t i : Expr) (ifs : List Expr) (it : Value) (env : Env) (deed : Sem Fin → Sem Fin) (round : Sem Fin) : Sem Fin := do
  standAt i.pos
  match ← pyNext it with
  | none => pure (.done .next)
  | some v =>
    letOwnedTupleGo t it v
    assign t env v
    let mut ok := true
    for c in ifs do
      if ok then ok ← isTrue c env (eval c env)
    if ok then deed round else round
abbrev testsOf (ifs : List Expr) (env : Env) : Sem Bool := forIn ifs true fun c r => if r = true then do let ok ← isTrue c env (eval c env); pure (ForInStep.yield ok) else pure (ForInStep.yield r)
theorem oneTurn_wp {M : Model} {A : Around} {t i : Expr} {ifs : List Expr} {it : Value} {env : Env} {deed : Sem Fin → Sem Fin} {round : Sem Fin} {Q : Fin → Shared → Prop} {E : Value → Shared → Prop} {s : Shared}
    (h : wpAny M A (pyNext it) (fun r s1 => match r with
      | none => Q (.done .next) s1
      | some v => wpAny M A (letOwnedTupleGo t it v) (fun _ s2 => wpAny M A (assign t env v) (fun _ s3 => wpAny M A (testsOf ifs env) (fun ok s4 => if ok = true then wpAny M A (deed round) Q E s4 else wpAny M A round Q E s4) E s3) E s2) E s1) E s) :
    wpAny M A (oneTurn t i ifs it env deed round) Q E s := by
  unfold oneTurn
  refine wpAny_bind (wpAny_standAt (wpAny_bind (wpAny_mono h (fun r s1 h1 => ?_) fun _ _ z => z)))
  cases r with
  | none => exact wpAny_pure h1
  | some v =>
    refine wpAny_bind (wpAny_mono h1 (fun _ s2 h2 => wpAny_bind (wpAny_mono h2 (fun _ s3 h3 => wpAny_bind (wpAny_mono h3 (fun ok s4 h4 => ?_) fun _ _ z => z)) fun _ _ z => z)) fun _ _ z => z)
    cases ok with
    | false => exact h4
    | true => exact h4
section
variable (kx vx t0 i0 t1 i1 : Expr) (ifs0 ifs1 : List Expr) (scope : Scope) (pos : Pos)
abbrev dcx : Expr := .DictComp kx vx [⟨t0, i0, ifs0, 0⟩, ⟨t1, i1, ifs1, 0⟩] scope pos
/-- what the first clause does: the second one's whole walk -/
def deed0 (acc : Value) (env : Env) (round : Sem Fin) : Sem Fin := do
  let x ← eval i1 env
  standAt i1.pos
  let y ← foldedSetIterable i1 env x
  let _ ← runOwn (.compStart (dcx kx vx t0 i0 t1 i1 ifs0 ifs1 scope pos) 1 (← holding [y] (pyIter y)) acc env) env
  round
def deed1 (D : Addr) (env : Env) (round : Sem Fin) : Sem Fin := do
  (do
    let kv ← eval kx env
    let vv ← holding [kv] (eval vx env)
    standAt { kx.pos with endLine := vx.pos.endLine, endCol := vx.pos.endCol }
    holding [kv, vv] (dictSet D kv vv))
  round
theorem turn0 (it acc : Value) (env : Env) : compTurn (dcx kx vx t0 i0 t1 i1 ifs0 ifs1 scope pos) 0 it acc env = oneTurn t0 i0 ifs0 it env (deed0 kx vx t0 i0 t1 i1 ifs0 ifs1 scope pos acc env) (again (.compLoop (dcx kx vx t0 i0 t1 i1 ifs0 ifs1 scope pos) 0 it acc env)) := by rfl
theorem turn1 (it : Value) (D : Addr) (env : Env) : compTurn (dcx kx vx t0 i0 t1 i1 ifs0 ifs1 scope pos) 1 it (.ref D) env = oneTurn t1 i1 ifs1 it env (deed1 kx vx D env) (again (.compLoop (dcx kx vx t0 i0 t1 i1 ifs0 ifs1 scope pos) 1 it (.ref D) env)) := by rfl
end
/-- the walk of one clause: what holds before each turn, and what each turn does with the item that has come -/
def Rounds (J : It) (g : TG) (tt : TT) (σ : L2.St) (vs : List Nat) (dd : L2.St → Hp → (Hp → Prop) → Prop) (H0 : Hp) (fin : Hp → Prop) : Prop :=
  ∃ W : Nat → Nat → Hp → Prop, (∃ m, W 0 m H0) ∧ ∀ i m H, W i m H → (J.stop i H ∧ fin H) ∨ (J.go i H ∧ ∃ Nx : Hp → Prop, (∀ H', Nx H' → ∃ m', m' < m ∧ W (i + 1) m' H') ∧
    ∀ x H', J.yld i H x H' → g x (wipe σ vs) H' fun σ2 H2 => wipe σ2 vs = wipe σ vs ∧ tt σ2 H2 fun b H3 => if b = true then dd σ2 H3 Nx else Nx H3)
theorem rounds_loop {Y : Cx} {e t i : Expr} {d : Nat} {ifs : List Expr} {deed : Sem Fin → Sem Fin} {acc : Value} {R : Result → Shared → Prop} {s : Shared} {J : It} {g : TG} {tt : TT} {σ : L2.St} {vs : List Nat} {dd : L2.St → Hp → (Hp → Prop) → Prop} {H0 : Hp} {fin : Hp → Prop}
    {fp : List Addr} {tn : Nat → Heap → Prop} {it : Addr} {pins : List (Addr × Obj)} (hc : Y.calm = true) (hx : Y.xe = fun _ _ => False)
    (hq : (Code.compLoop e d (.ref it) acc Y.env).quiet = true)
    (hn : ∀ (post : Fin → Shared → Prop) (E : Value → Shared → Prop) (s1 : Shared), wpAny (model Y.prog Y.w) Y.A ((compTurn e d (.ref it) acc Y.env).onRaise (fun x => do noteFrame x Y.env; theTreesLotGoes x)) post E s1 → wpAny (model Y.prog Y.w) (Y.A.under (.compLoop e d (.ref it) acc Y.env)) ((model Y.prog Y.w).den (.compLoop e d (.ref it) acc Y.env)) post E s1)
    (he : compTurn e d (.ref it) acc Y.env = oneTurn t i ifs (.ref it) Y.env deed (again (.compLoop e d (.ref it) acc Y.env)))
    (pg : PG Y t g) (pt : PTs Y ifs tt) (T : Turn Y.prog Y.w Y.K t J fp it tn)
    (ff : ∀ σ H s, Inv Y pins σ H s → (∀ b ∈ fp, H b = none) → ∀ b ∈ fp, FpOk Y pins H b)
    (I : Inv Y pins (wipe σ vs) H0 s) (st : tn 0 s.heap) (n0 : ∀ b ∈ fp, H0 b = none) (h : Rounds J g tt σ vs dd H0 fin)
    (hd : ∀ pl σ2 H3 s4 Nx (post : Fin → Shared → Prop) (E : Value → Shared → Prop), Inv Y (pins ++ pl) σ2 H3 s4 → dd σ2 H3 Nx →
      (∀ σ9 H' s', Inv Y (pins ++ pl) σ9 H' s' → σ9.length = σ2.length → (∀ (j : Nat) v, (wipe σ2 vs)[j]? = some (some v) → σ9[j]? = some (some v)) → Nx H' → wpAny (model Y.prog Y.w) Y.A (again (.compLoop e d (.ref it) acc Y.env)) post E s') →
      wpAny (model Y.prog Y.w) Y.A (deed (again (.compLoop e d (.ref it) acc Y.env))) post E s4)
    (hf : ∀ s' H', Inv Y pins (wipe σ vs) H' s' → fin H' → R (.ok .next) s') :
    codeAny (model Y.prog Y.w) Y.A (.compLoop e d (.ref it) acc Y.env) R s := by
  obtain ⟨W, ⟨m0, w0⟩, turn⟩ := h
  refine codeAny_loop hq (fun n s' => ∃ i H', Inv Y pins (wipe σ vs) H' s' ∧ tn i s'.heap ∧ (∀ b ∈ fp, H' b = none) ∧ W i n H') (fun n s1 ⟨k, H1, I1, st1, n1, w1⟩ => ?_) m0 ⟨0, H0, I, st, n0, w0⟩
  refine hn _ _ s1 (wpAny_noted ?_)
  rw [he]
  refine oneTurn_wp ?_
  rcases turn k n H1 w1 with ⟨stop, q⟩ | ⟨go, Nx, hN, step⟩
  · refine thnF (T.done Y rfl rfl rfl hc k pins s1 _ H1 (fun _ _ => False) I1 (ff _ _ _ I1 n1) st1 stop) fun r s2 ⟨hr, I2⟩ => ?_
    subst hr
    exact hf s2 H1 I2 q
  · refine thnF (T.item Y rfl rfl rfl hc k pins s1 _ H1 (fun _ _ => False) I1 (ff _ _ _ I1 n1) st1 go) fun r s2 ⟨u, hr, h2⟩ => ?_
    subst hr
    refine thnF h2 fun _ s3 ⟨x, H3, I3, rx, y3, st3, n3⟩ => ?_
    have ho := T.obj _ _ st3
    have a1 := pg.run _ s3 _ H3 x u _ (I3.pinned (ff _ _ _ I3 n3) ho) rx (step x H3 y3)
    rw [hx] at a1
    refine thnF a1 fun _ s4 ⟨σ4, H4, I4, e4, q4⟩ => ?_
    have a2 := pt.run _ s4 σ4 H4 _ I4 q4
    rw [hx] at a2
    refine thnF a2 fun b s5 ⟨H5, I5, q5⟩ => ?_
    -- round again
    have round : ∀ σ9 H' s', Inv Y (pins ++ pinsAt fp s3.heap) σ9 H' s' → σ9.length = σ4.length → (∀ (j : Nat) v, (wipe σ4 vs)[j]? = some (some v) → σ9[j]? = some (some v)) → Nx H' →
        ∃ m, m < n ∧ ∃ i H', Inv Y pins (wipe σ vs) H' s' ∧ tn i s'.heap ∧ (∀ b ∈ fp, H' b = none) ∧ W i m H' := fun σ9 H' s' I' hl hk nx => by
      obtain ⟨m, hm, w'⟩ := hN H' nx
      have stay : ∀ b ∈ fp, ∀ o, s3.heap.get? b = some o → s'.heap.get? b = some o ∧ H' b = none := fun b hb o eo =>
        let z := I'.pin (b, o) (List.mem_append_right _ (List.mem_append_right _ (mem_pinsAt hb eo)))
        ⟨z.1, z.2.1⟩
      refine ⟨m, hm, k + 1, H', I'.unpinned.weak (by rw [hl, ← wipe_length σ4 vs, e4]) (fun j v e => hk j v (by rw [e4]; exact e)), T.keep _ _ _ st3 fun b hb o eo => (stay b hb o eo).1, fun b hb => ?_, w'⟩
      obtain ⟨o, eo, _⟩ := ho b hb
      exact (stay b hb o eo).2
    cases b with
    | false => exact wpAny_pure ⟨rfl, round σ4 H5 s5 I5 rfl (fun j v e => (wipe_some e).1) q5⟩
    | true => exact hd _ σ4 H5 s5 Nx _ _ I5 q5 fun σ9 H' s' I' hl hk nx => wpAny_pure ⟨rfl, round σ9 H' s' I' hl hk nx⟩
section
variable {prog : Program} {w : World} {A : Around} {R : Result → Shared → Prop} {s : Shared} {kx vx t0 i0 t1 i1 : Expr} {ifs0 ifs1 : List Expr} {scope : Scope} {pos : Pos} {it acc : Value} {env : Env}
/-- the second clause's start: iter() of what is an iterator already, asked once or twice -/
theorem start1 (h0 : codeAny (model prog w) A (.compLoop (dcx kx vx t0 i0 t1 i1 ifs0 ifs1 scope pos) 1 it acc env) R s)
    (h : wpAny (model prog w) A (pyIter it) (fun it' s' => codeAny (model prog w) A (.compLoop (dcx kx vx t0 i0 t1 i1 ifs0 ifs1 scope pos) 1 it' acc env) R s') (notedBy (model prog w) A env fun x s' => R (.error x) s') s) :
    codeAny (model prog w) A (.compStart (dcx kx vx t0 i0 t1 i1 ifs0 ifs1 scope pos) 1 it acc env) R s := by
  refine codeAny_of_tree ?_
  show wpAny _ A ((compStart (dcx kx vx t0 i0 t1 i1 ifs0 ifs1 scope pos) 1 it acc env).onRaise (fun x => do noteFrame x env; standAt theWindowsPlace)) _ _ s
  refine wpAny_notedAt ?_
  unfold compStart
  show wpAny _ A (ask >>= _) _ _ s
  refine wpAny_bind (wpAny_askSetting (wpAny_ite ?_))
  have twice : wpAny (model prog w) A (standAt i1.pos) (fun _ s1 => wpAny (model prog w) A (pyIter it) (fun it' s' => codeAny (model prog w) A (.compLoop (dcx kx vx t0 i0 t1 i1 ifs0 ifs1 scope pos) 1 it' acc env) R s') (notedBy (model prog w) A env fun x s' => R (.error x) s') s1) (notedBy (model prog w) A env fun x s' => R (.error x) s') s := wpAny_standAt h
  split
  · first
      | exact wpAny_pure ⟨rfl, h0⟩
      | exact wpAny_bind (wpAny_pure (wpAny_pure ⟨rfl, h0⟩))
  · refine wpAny_bind (wpAny_rule ?_)
    exact wpAny_bind (wpAny_mono twice (fun _ s1 h1 => wpAny_bind (wpAny_mono h1 (fun it' s' h' => wpAny_pure ⟨rfl, h'⟩) fun _ _ z => z)) fun _ _ z => z)
/-- what the first clause does, by its pieces -/
theorem deed0_wp {round : Sem Fin} {Q : Fin → Shared → Prop} {E : Value → Shared → Prop} (hs : ∀ x, foldedSetIterable i1 env x = pure x)
    (h : wpAny (model prog w) A (eval i1 env) (fun x s1 => wpAny (model prog w) A (pyIter x) (fun it1 s2 => codeAny (model prog w) A (.compStart (dcx kx vx t0 i0 t1 i1 ifs0 ifs1 scope pos) 1 it1 acc env) (fun r s' => match r with
        | .ok _ => wpAny (model prog w) A round Q E s'
        | .error _ => False) s2) E s1) E s) : wpAny (model prog w) A (deed0 kx vx t0 i0 t1 i1 ifs0 ifs1 scope pos acc env round) Q E s := by
  unfold deed0
  refine wpAny_bind (wpAny_mono h (fun x s1 h1 => wpAny_bind (wpAny_standAt (wpAny_bind (wpAny_of_eq (hs x) (wpAny_bind (wpAny_holding (wpAny_mono h1 (fun it1 s2 h2 => ?_) fun _ _ z => z))))))) fun _ _ z => z)
  refine wpAny_bind (wpAny_runOwn ?_)
  rw [Around.mark_none]
  refine codeAny_mono h2 fun r s' hr => ?_
  cases r with
  | ok f => exact hr
  | error e => exact hr.elim
theorem deed1_wp {round : Sem Fin} {Q : Fin → Shared → Prop} {E : Value → Shared → Prop} {D : Addr}
    (h : wpAny (model prog w) A (eval kx env) (fun kv s1 => wpAny (model prog w) A (eval vx env) (fun vv s2 => wpAny (model prog w) A (dictSet D kv vv) (fun _ s3 => wpAny (model prog w) A round Q E s3) E s2) E s1) E s) :
    wpAny (model prog w) A (deed1 kx vx D env round) Q E s := by
  unfold deed1
  exact wpAny_bind (wpAny_bind (wpAny_mono h (fun kv s1 h1 => wpAny_bind (wpAny_holding (wpAny_mono h1 (fun vv s2 h2 => wpAny_bind (wpAny_standAt (wpAny_holding h2))) fun _ _ z => z))) fun _ _ z => z))
end
section
variable {X : Cx}
/-- true of the block's context, wherever the block stands -/
abbrev Blk (X : Cx) (scope : Scope) (F : Cx → Prop) : Prop := ∀ (s : Shared) (H : Hp) (C : Addr) (cl : List (Str × Addr)) (fp : List Addr), F (X.blk s H scope (compEnvC scope cl C X.env) fp)
def tDc2 (wi : TI) (g : TG) (tt : TT) (wi1 : TI) (g1 : TG) (tt1 : TT) (tk tv : TE) (vs vs1 : List Nat) : TE := fun σ H Q => wi σ H fun J H1 => ∀ D, H1 D = none →
  Rounds J g tt σ vs (fun σ2 H3 Nx => wi1 σ2 H3 fun J1 H4 => Rounds J1 g1 tt1 σ2 vs1 (fun σ3 H6 Nx1 => tk σ3 H6 fun y H7 => tv σ3 H7 fun z H8 => ∃ kvs k, y = kV k ∧ H8 D = some (.dK kvs) ∧ kvs.length < sizeLine ∧ Nx1 (upd H8 D (.dK (putK kvs k z)))) H4 Nx) (upd H1 D (.dK [])) (Q (.ref D))
theorem pe_dc2 {kx vx t0 i0 t1 i1 : Expr} {ifs0 ifs1 : List Expr} {scope : Scope} {own : List (Str × Nat)} {vs1 : List Nat} {pos : Pos} {wi wi1 : TI} {g g1 : TG} {tt tt1 : TT} {tk tv : TE} (hc : X.calm = true) (hN : X.N.Nodup) (hi : PI X t0 i0 wi) (ok : BlkOk X.N X.env.scope scope own) (hv : ∀ i ∈ vs1, i ∈ own.map (·.2))
    (hg : Blk X scope fun Y => PG Y t0 g) (ht : Blk X scope fun Y => PTs Y ifs0 tt) (hi1 : Blk X scope fun Y => PI Y t1 i1 wi1) (hg1 : Blk X scope fun Y => PG Y t1 g1) (ht1 : Blk X scope fun Y => PTs Y ifs1 tt1)
    (hk : Blk X scope fun Y => PE Y kx tk) (he : Blk X scope fun Y => PE Y vx tv) (hs : ∀ x, foldedSetIterable i0 X.env x = pure x := by intro _; rfl) (hs1 : ∀ env x, foldedSetIterable i1 env x = pure x := by intro _ _; rfl) :
    PE X (dcx kx vx t0 i0 t1 i1 ifs0 ifs1 scope pos) (tDc2 wi g tt wi1 g1 tt1 tk tv (own.map (·.2)) vs1) := by
  refine ⟨fun pins s σ H Q I h => ?_⟩
  rw [arm_eval_DictComp]
  have hfree : ∀ y ∈ scope.names, y.2 = .free → ∃ c, X.env.cells.lookup y.1 = some c := fun y hy e => I.ok.has _ (ok.free y hy e)
  refine wpAny_comprehension_free (use := none) rfl hs (closure_ok hfree) ok.kind (fun y hy e => by rw [ok.uniq y hy, e]) (thn (hi.run pins s σ H _ I h) fun xv s1 hx => thn hx fun itv s2 ⟨it, fp, tn, J, H2, e, I2, T, st2, f2, q⟩ => ?_)
  subst e
  refine wpAny_newObj_type (newEnv_comp ?_)
  generalize hD : s2.heap.objs.size = D
  have q := q D (I2.hok.fresh (Nat.le_of_eq hD))
  generalize hs3 : ({ s2 with heap := s2.heap.push { cls := .type "dict", data := .dict #[] } } : Shared) = s3
  have h3 : s3.heap = s2.heap.push { cls := .type "dict", data := .dict #[] } := by rw [← hs3]
  have I3 : Inv X pins σ (upd H2 D (.dK [])) s3 := by
    rw [← hs3]
    refine I2.laid (t' := s2.toks) (fun b o e => Heap.get?_push_of_some _ e) (Nat.le_of_eq hD) ?_
    rw [← hD]
    exact dk_empty s2.heap I2.big
  have f3 : ∀ b ∈ fp, FpOk X pins (upd H2 D (.dK [])) b ∧ b < s3.heap.objs.size := fun b hb => by
    obtain ⟨o, eo, _⟩ := T.obj _ _ st2 b hb
    have lt : b < s2.heap.objs.size := Heap.lt_size eo
    refine ⟨⟨?_, (f2 b hb).2⟩, by rw [h3, Heap.size_push]; exact Nat.lt_succ_of_lt lt⟩
    rw [upd_ne (by rw [← hD]; exact Nat.ne_of_lt lt)]
    exact (f2 b hb).1
  have st3 : tn 0 s3.heap := T.keep _ _ _ st2 fun b _ o eo => by rw [h3]; exact Heap.get?_push_of_some _ eo
  have I4 := block_start I3 ok hN f3
  have pg := hg s3 (upd H2 D (.dK [])) s3.heap.objs.size (cellsFrom (s3.heap.objs.size + 1) scope.names (cloFrom X.env.cells scope.names [])) fp
  have pt := ht s3 (upd H2 D (.dK [])) s3.heap.objs.size (cellsFrom (s3.heap.objs.size + 1) scope.names (cloFrom X.env.cells scope.names [])) fp
  have pi := hi1 s3 (upd H2 D (.dK [])) s3.heap.objs.size (cellsFrom (s3.heap.objs.size + 1) scope.names (cloFrom X.env.cells scope.names [])) fp
  have pg1 := hg1 s3 (upd H2 D (.dK [])) s3.heap.objs.size (cellsFrom (s3.heap.objs.size + 1) scope.names (cloFrom X.env.cells scope.names [])) fp
  have pt1 := ht1 s3 (upd H2 D (.dK [])) s3.heap.objs.size (cellsFrom (s3.heap.objs.size + 1) scope.names (cloFrom X.env.cells scope.names [])) fp
  have pk := hk s3 (upd H2 D (.dK [])) s3.heap.objs.size (cellsFrom (s3.heap.objs.size + 1) scope.names (cloFrom X.env.cells scope.names [])) fp
  have pe := he s3 (upd H2 D (.dK [])) s3.heap.objs.size (cellsFrom (s3.heap.objs.size + 1) scope.names (cloFrom X.env.cells scope.names [])) fp
  show codeAny _ _ (.compStart (dcx kx vx t0 i0 t1 i1 ifs0 ifs1 scope pos) 0 (.ref it) (.ref D) (compEnvC scope (cellsFrom (s3.heap.objs.size + 1) scope.names (cloFrom X.env.cells scope.names [])) s3.heap.objs.size X.env)) (compPost (model X.prog X.w) X.A X.xe none (EP X pins σ Q) (.ref D) s3.heap.objs.size) { s3 with heap := pushCells (s3.heap.push { cls := .type "dict", data := .dict #[] }) scope.names }
  generalize hce : compEnvC scope (cellsFrom (s3.heap.objs.size + 1) scope.names (cloFrom X.env.cells scope.names [])) s3.heap.objs.size X.env = ce at I4 pg pt pi pg1 pt1 pk pe ⊢
  have cL : ce.locals = s3.heap.objs.size := by rw [← hce]; rfl
  generalize hs4 : ({ s3 with heap := pushCells (s3.heap.push { cls := .type "dict", data := .dict #[] }) scope.names } : Shared) = s4 at I4 ⊢
  have st4 : tn 0 s4.heap := T.keep _ _ _ st3 fun b _ o eo => by rw [← hs4]; exact pushCells_keeps _ _ _ _ (Heap.get?_push_of_some _ eo)
  have loop : codeAny (model X.prog X.w) X.A (.compLoop (dcx kx vx t0 i0 t1 i1 ifs0 ifs1 scope pos) 0 (.ref it) (.ref D) ce) (compPost (model X.prog X.w) X.A X.xe none (EP X pins σ Q) (.ref D) s3.heap.objs.size) s4 := by
    refine rounds_loop (Y := X.blk s3 (upd H2 D (.dK [])) scope ce fp) (deed := deed0 kx vx t0 i0 t1 i1 ifs0 ifs1 scope pos (.ref D) ce) hc rfl rfl (fun _ _ _ h => h) (turn0 kx vx t0 i0 t1 i1 ifs0 ifs1 scope pos (.ref it) (.ref D) ce) pg pt T (fun σ' H' s' I' hn b hb => ⟨hn b hb, (I'.ok.exf b hb).1, I'.ok.exfs b hb, .inl hb, fun x c eo => (I'.ok.exf b hb).2 x c eo, fun p hp => absurd (show p ∈ ([] : List (Addr × Obj)) ++ [] from hp) (by simp)⟩)
      I4 st4 (fun b hb => (f3 b hb).1.1) q (fun pl σ2 H3 s5 Nx post E I5 dd round => ?_) (fun s' H' I' q' => ?_)
    · refine deed0_wp (hs1 ce) ?_
      have a := pi.run _ s5 σ2 H3 _ I5 dd
      refine thnF a fun x s6 hx6 => thnF hx6 fun itv s7 ⟨it1, fp1, tn1, J1, H4, e1, I7, T1, st7, f7, q1⟩ => ?_
      subst e1
      have loop1 : codeAny (model X.prog X.w) X.A (.compLoop (dcx kx vx t0 i0 t1 i1 ifs0 ifs1 scope pos) 1 (.ref it1) (.ref D) ce) (fun r s' => match r with
          | .ok _ => wpAny (model X.prog X.w) X.A (again (.compLoop (dcx kx vx t0 i0 t1 i1 ifs0 ifs1 scope pos) 0 (.ref it) (.ref D) ce)) post E s'
          | .error _ => False) s7 := by
        refine rounds_loop (Y := X.blk s3 (upd H2 D (.dK [])) scope ce fp) (deed := deed1 kx vx D ce) hc rfl rfl (fun _ _ _ h => h) (turn1 kx vx t0 i0 t1 i1 ifs0 ifs1 scope pos (.ref it1) D ce) pg1 pt1 T1 (fun σ' H' s' I' hn b hb => ⟨hn b hb, (f7 b hb).2⟩)
          (I7.weak (wipe_length σ2 vs1) fun j v eo => (wipe_some eo).1) st7 (fun b hb => (f7 b hb).1) q1 (fun pl1 σ3 H6 s8 Nx1 post1 E1 I8 dd1 round1 => ?_) (fun s' H' I' nx => ?_)
        · refine deed1_wp ?_
          refine thnF (pk.run _ s8 σ3 H6 _ I8 dd1) fun kv s9 ⟨yk, H9, I9, rk, q9⟩ => ?_
          refine thnF (pe.run _ s9 σ3 H9 _ I9 q9) fun vv s10 ⟨yv, H10, I10, rv, kvs, k, ek, hD10, hz, nx⟩ => ?_
          subst ek
          exact d_dictSet (X := X.blk s3 (upd H2 D (.dK [])) scope ce fp) I10 hD10 hz rk rv fun s11 I11 => round1 σ3 _ s11 I11 rfl (fun j v eo => (wipe_some eo).1) nx
        · refine round _ H' s' I' (wipe_length σ2 vs1) (fun j v eo => ?_) nx
          obtain ⟨e3, e4⟩ := wipe_some eo
          rw [wipe_out fun z => e4 (hv j z)]
          exact e3
      exact start1 loop1 (T1.self X.A 0 _ _ _ st7 loop1)
    · have I7 : Inv X pins σ H' s' := I3.call' (ch := fp) I'.os I'.base I'.hok I'.bare fun b hb => ⟨(f3 b hb).1.2.2.2.1, (f3 b hb).1.2.1, (f3 b hb).1.2.2.2.2.1, (f3 b hb).1.2.2.2.2.2⟩
      have nC : H' s3.heap.objs.size = none := by
        have z : H' ce.locals = none := I'.free
        rw [cL] at z
        exact z
      obtain ⟨m, hn, _⟩ := I'.loc
      have hn : s'.heap.Ns ce.locals m := hn
      rw [cL] at hn
      obtain ⟨a0, a1, a2, a3, a4, a5⟩ := I3.fpOk (H' := H') (Nat.le_refl _) nC
      exact ⟨m, hn, fun h'' sb => ⟨.ref D, H', I7.turned (t' := s'.toks) (fun b o hb eo => (sb.2 b hb).trans eo) a0 a1 a3 a4 a5, rfl, q'⟩⟩
  exact codeAny_compStart_dict loop (T.self X.A 0 _ _ _ st4 loop)
end
/-- any walk, by what holds before its turn i -/
theorem rounds_it {J : It} {n : Nat} {G : Hp → Prop} {Y : Nat → Hp → V → Hp → Prop} {g : TG} {tt : TT} {σ : L2.St} {vs : List Nat} {dd : L2.St → Hp → (Hp → Prop) → Prop} {H0 : Hp} {fin : Hp → Prop} (w : Walk J n G Y) (Pv : Nat → Hp → Prop) (h0 : Pv 0 H0) (hG : ∀ i H, i ≤ n → Pv i H → G H)
    (hs : ∀ i x H H', i < n → Pv i H → Y i H x H' → g x (wipe σ vs) H' fun σ2 H2 => wipe σ2 vs = wipe σ vs ∧ tt σ2 H2 fun b H3 => if b = true then dd σ2 H3 (Pv (i + 1)) else Pv (i + 1) H3) (hd : ∀ H, Pv n H → fin H) : Rounds J g tt σ vs dd H0 fin := by
  refine ⟨fun i m H => m + i = n ∧ Pv i H, ⟨n, rfl, h0⟩, fun i m H ⟨e, p⟩ => ?_⟩
  have hi : i ≤ n := by omega
  by_cases hlt : i < n
  · exact .inr ⟨w.goes i H hlt (hG i H hi p), Pv (i + 1), fun H' p' => ⟨m - 1, by omega, by omega, p'⟩, fun x H' y => hs i x H H' hlt p (w.yields i H x H' hlt (hG i H hi p) y)⟩
  · obtain rfl : i = n := by omega
    exact .inl ⟨w.stops H (hG i H hi p), hd H p⟩
/-- the same for the one-clause comprehensions and the list of two clauses -/
theorem tDc_of {wi : TI} {g : TG} {tt : TT} {tk tv : TE} {vs : List Nat} {σ : L2.St} {H : Hp} {Q : VK} (h : wi σ H fun J H1 => ∀ D, H1 D = none → Rounds J g tt σ vs (fun σ2 H3 Nx => tk σ2 H3 fun y H4 => tv σ2 H4 fun z H5 => ∃ kvs k, y = kV k ∧ H5 D = some (.dK kvs) ∧ kvs.length < sizeLine ∧ Nx (upd H5 D (.dK (putK kvs k z)))) (upd H1 D (.dK [])) (Q (.ref D))) : tDc wi g tt tk tv vs σ H Q := h
theorem tLc2_of {wi wi1 : TI} {g g1 : TG} {tt tt1 : TT} {te : TE} {vs vs1 : List Nat} {σ : L2.St} {H : Hp} {Q : VK} (h : wi σ H fun J H1 => ∀ D, H1 D = none → Rounds J g tt σ vs (fun σ2 H3 Nx => wi1 σ2 H3 fun J1 H4 => Rounds J1 g1 tt1 σ2 vs1 (fun σ3 H6 Nx1 => te σ3 H6 fun y H7 => ∃ acc, H7 D = some (.lst acc) ∧ acc.length < sizeLine ∧ Nx1 (upd H7 D (.lst (acc ++ [y])))) H4 Nx) (upd H1 D (.lst [])) (Q (.ref D))) : tLc2 wi g tt wi1 g1 tt1 te vs vs1 σ H Q := h

/-- the things of the tables, in the order in which they are met -/
def rowThings (acc : List Int) : List (Option Int) → List Int
  | [] => acc
  | none :: l => rowThings acc l
  | some t :: l => rowThings (qAdd t acc) l
def thingsOf (S : Sys) : List Int → List Int → List Int
  | acc, [] => acc
  | acc, p :: ps => thingsOf S (rowThings acc (S.tab p)) ps
theorem rowThings_app (acc : List Int) (l : List (Option Int)) (x : Option Int) : rowThings acc (l ++ [x]) = match x with
    | none => rowThings acc l
    | some t => qAdd t (rowThings acc l) := by
  induction l generalizing acc with
  | nil => cases x <;> rfl
  | cons y l ih => cases y <;> exact ih _
theorem thingsOf_app (S : Sys) (acc ps : List Int) (p : Int) : thingsOf S acc (ps ++ [p]) = rowThings (thingsOf S acc ps) (S.tab p) := by
  induction ps generalizing acc with
  | nil => rfl
  | cons y l ih => exact ih _
theorem qAdd_len (t : Int) (l : List Int) : (qAdd t l).length ≤ l.length + 1 := by
  unfold qAdd
  split
  · omega
  · rw [List.length_append]
    exact Nat.le_refl _
theorem rowThings_len (acc : List Int) (l : List (Option Int)) : (rowThings acc l).length ≤ acc.length + l.length := by
  induction l generalizing acc with
  | nil => exact Nat.le_refl _
  | cons y l ih =>
    rw [List.length_cons]
    cases y with
    | none =>
      have h : (rowThings acc (none :: l)).length ≤ acc.length + l.length := ih acc
      omega
    | some t =>
      have h : (rowThings acc (some t :: l)).length ≤ (qAdd t acc).length + l.length := ih _
      have := qAdd_len t acc
      omega
def trueKV (ls : List Int) : List (Key × V) := ls.map fun t => (Sum.inl t, .bl true)
theorem true_put (ls : List Int) (t : Int) : putK (trueKV ls) (Sum.inl t) (.bl true) = trueKV (qAdd t ls) := by
  have any : ∀ l : List Int, (valV (trueKV l) (Sum.inl t)).isSome = decide (t ∈ l) := fun l => by
    induction l with
    | nil => rfl
    | cons x l ih =>
      unfold trueKV at ih ⊢
      rw [List.map_cons]
      by_cases h : x = t
      · subst h
        rw [valV_pos rfl, decide_eq_true List.mem_cons_self]
        rfl
      · rw [valV_neg (fun z => h (Sum.inl.inj z)), ih]
        exact decide_eq_decide.mpr ⟨fun z => List.mem_cons_of_mem _ z, fun z => (List.mem_cons.mp z).elim (fun e => absurd e.symm h) id⟩
  unfold putK qAdd
  rw [valV_any, any]
  by_cases h : t ∈ ls
  · rw [decide_eq_true h, if_pos h]
    show List.map _ (trueKV ls) = _
    unfold trueKV
    rw [List.map_map]
    refine List.map_congr_left fun x _ => ?_
    show (if (Sum.inl x : Key) = Sum.inl t then _ else _) = _
    split <;> rename_i e
    · rw [show x = t from Sum.inl.inj e]
    · rfl
  · rw [decide_eq_false h, if_neg h]
    show trueKV ls ++ _ = _
    unfold trueKV
    rw [List.map_append]
    rfl
section
variable {P : Program} {w : World} {K : PySem.W.Frag} {mg : Str → Option Value} {base : Heap} {C : Cs}
structure RegTxt (mg : Str → Option Value) : Prop where
  sorted : mg "sorted" = none
  list : mg "list" = none
  enum : mg "enumerate" = none
/-- what a system's tables ask of the heap -/
structure TabAt (C : Cs) (H : Hp) (S : Sys) (ad dx : Cell → Addr) : Prop where
  box : H (ad .box) = some (co C S ad dx .box)
  tabD : H (ad .tabD) = some (co C S ad dx .tabD)
  tab : ∀ p ∈ S.procs, H (ad (.tab p)) = some (co C S ad dx (.tab p))
theorem At.tabAt {H : Hp} {S : Sys} {ad dx : Cell → Addr} (A : At C H S ad dx) : TabAt C H S ad dx := ⟨A.at_ _ trivial, A.at_ _ trivial, fun p hp => A.at_ (.tab p) hp⟩
theorem TabAt.same {H H' : Hp} {S : Sys} {ad dx : Cell → Addr} (A : TabAt C H S ad dx) (s : Same H H') : TabAt C H' S ad dx := ⟨s _ _ A.box, s _ _ A.tabD, fun p hp => s _ _ (A.tab p hp)⟩
def OnTab (C : Cs) (vs : List V) (H : Hp) (rest : List V) (k : Sys → (Cell → Addr) → (Cell → Addr) → Prop) : Prop := ∃ (S : Sys) (ad dx : Cell → Addr), vs = .ref (ad .box) :: rest ∧ TabAt C H S ad dx ∧ k S ad dx
def spThings (C : Cs) : Sp := fun vs H Q _ => OnTab C vs H [] fun S ad _ => S.procs.length ≤ 6 ∧ (∀ p ∈ S.procs, (S.tab p).length ≤ 8) ∧
  ∀ (ys : List Int) (H' : Hp) (r : Addr), ys.Perm S.procs → ys.Pairwise (· ≤ ·) → Same H H' → H r = none → H' r = some (.lst ((thingsOf S [] ys).map V.int)) → Q (.ref r) H'
abbrev nThings : List Str := ["self", "tables", "process", "table", "thing"]
theorem scThings : FnScope nThings ["self"] (defScope sThings) := ⟨rfl, rfl, rfl, by decide +kernel, rfl, by decide +kernel, by decide +kernel⟩
theorem okThings {f : Addr} {fd : FuncData} (F : Fun K "things" "System.things" sThings f fd) (X : RegTxt mg) (T : ClsF K C.S sysF) : FnOk P w K mg base CX0 1 f fd ["self"] (spThings C) := by
  refine F.ok scThings (fun vs H Q E h => ?_) (fun cdv A outer s H vs Q E hr h => ?_)
  · obtain ⟨_, _, _, rfl, _⟩ := h
    rfl
  · obtain ⟨S, ad, dx, rfl, A0, hp, ht, k⟩ := h
    have hu := hu_of hr
    refine ⟨_, pss_cut (ps_setLc (i := 1) (own := [("process", 2)]) (g := gName 2) (tt := tYes) (te := tDGet (tFld K (tVar 0) "tables") (tVar 2)) rfl scThings.nd rfl rfl rfl (pi_list (pe_callB (call_sortedDI rfl) (by rfl) X.sorted (by decide +kernel) (pa_cons (pe_fld (pv 0) rfl) pa_nil))) (blkOk_by (N := nThings) (sc := defScope sThings) (by decide +kernel))
        (fun _ _ _ _ _ => pg_name (i := 2) scThings.nd rfl (Or.inl rfl)) (fun _ _ _ _ _ => pts_nil) (fun _ _ _ _ _ => pe_dget hu (pe_fld (pv 0) rfl) (pv 2) (fun _ _ => rfl)))
      (pss_one (ps_ret (pe_callTy (call_listD rfl) (by rfl) X.list (by decide +kernel) (pa_cons (pe_dc2 (own := [("table", 3), ("thing", 4)]) (vs1 := [4]) (g := gName 3) (tt := tYes) (wi1 := iList K (tVar 3)) (g1 := gName 4) (tt1 := tTest (tOp rNotN (tVar 4) (tC .non))) (tk := tVar 4) (tv := tC (.bl true)) rfl scThings.nd (pi_list (pv 1)) (blkOk_by (N := nThings) (sc := defScope sThings) (by decide +kernel)) (by decide)
        (fun _ _ _ _ _ => pg_name (i := 3) scThings.nd rfl (Or.inl rfl)) (fun _ _ _ _ _ => pts_nil) (fun _ _ _ _ _ => pi_list (pv 3)) (fun _ _ _ _ _ => pg_name (i := 4) scThings.nd rfl (Or.inl rfl)) (fun _ _ _ _ _ => pts_one (pt_cmpR oNotN (pv 4) pe_non (nomark _))) (fun _ _ _ _ _ => pv 4) (fun _ _ _ _ _ => pe_bl)) pa_nil)))), ?_⟩
    have hb := A0.box
    refine ⟨fun σ' H1 => ∃ (ys : List Int) (a : Addr), ys.Perm S.procs ∧ ys.Pairwise (· ≤ ·) ∧ σ' = [some (.ref (ad .box)), some (.ref a), none, none, none] ∧ Same H H1 ∧ H1 a = some (.lst (ys.map fun p => .ref (ad (.tab p)))), ?_, ?_⟩
    · walk_at "wn"
      unfold tLc iList
      walk_at "wn"
      refine ⟨_, rfl, ad .box, C.S, dx .box, _, _, rfl, hb, T.cl, T.no _ (by decide), rfl, ?_⟩
      walk_at "wn"
      refine ⟨ad .tabD, _, S.procs, rfl, .inl (A0.tabD), by unfold entKV; rw [List.map_map]; rfl, by omega, fun ys q pm pw hq => ?_⟩
      have s1 := Same.new' (o := .lst (ys.map V.int)) hq
      refine ⟨q, rfl, ⟨_, SqL.of upd_same⟩, fun D hD => ?_⟩
      refine lc_list (K := K) (a := q) (xs := ys.map V.int) (fun i H' => Same (upd H q (.lst (ys.map V.int))) H' ∧ H' D = some (.lst ((ys.take i).map fun p => .ref (ad (.tab p))))) ⟨Same.new' hD, upd_same⟩ (fun i H' _ h => SqL.of (h.1 _ _ upd_same)) ?_ ?_
      · rintro i v H' hv ⟨sm, hd⟩
        rw [List.getElem?_map] at hv
        cases ey : ys[i]? with
        | none => rw [ey] at hv; cases hv
        | some p =>
        rw [ey] at hv
        cases hv
        have hin : p ∈ S.procs := pm.mem_iff.mp (List.mem_of_getElem? ey)
        have hv : valV (entKV S.procs fun p => ad (.tab p)) (Sum.inl p) = some (.ref (ad (.tab p))) := by rw [ent_val, if_pos hin]
        have s2 := s1.trans sm
        walk_at "wn"
        refine ⟨rfl, ?_⟩
        have lp := pm.length_eq
        refine ⟨_, rfl, ad .box, C.S, dx .box, _, _, rfl, s2 _ _ hb, T.cl, T.no _ (by decide), rfl, _, rfl, ad .tabD, _, rfl, hv ▸ DGet.k (k := Sum.inl p) (s2 _ _ (A0.tabD)), _, hd, ?_, fun b o e => ?_, ?_⟩
        · rw [List.length_map, List.length_take, sizeLine_eq]
          omega
        · rw [upd_ne (ne_of_none e hD)]
          exact sm _ _ e
        · rw [upd_same, List.take_add_one, ey, Option.toList_some, List.map_append]
          rfl
      · rintro H' ⟨sm, hd⟩
        rw [List.length_map, List.take_length] at hd
        walk_at "wn"
        exact ⟨ys, D, pm, pw, rfl, s1.trans sm, hd⟩
    · rintro σ' H1 ⟨ys, a, pm, pw, rfl, sm, ha⟩
      walk_at "wn"
      show iList _ (tVar 1) _ _ _
      refine ⟨_, rfl, a, rfl, ⟨_, SqL.of ha⟩, fun D hD => ?_⟩
      have lp := pm.length_eq
      have tl : ∀ i, (thingsOf S [] (ys.take i)).length ≤ 8 * (ys.take i).length := fun i => by
        induction i with
        | zero => simp [thingsOf]
        | succ i ih =>
          rw [List.take_add_one]
          cases ey : ys[i]? with
          | none => rw [Option.toList_none, List.append_nil]; exact ih
          | some p =>
            rw [Option.toList_some, thingsOf_app, List.length_append]
            have a1 := rowThings_len (thingsOf S [] (ys.take i)) (S.tab p)
            have a2 := ht p (pm.mem_iff.mp (List.mem_of_getElem? ey))
            show _ ≤ 8 * (_ + 1)
            omega
      refine rounds_it (walk_list (K := K) (xs := ys.map fun p => .ref (ad (.tab p)))) (fun i H' => Same H1 H' ∧ H' D = some (.dK (trueKV (thingsOf S [] (ys.take i))))) ⟨Same.new' hD, upd_same⟩ (fun i H' _ h => SqL.of (h.1 _ _ ha)) ?_ ?_
      · rintro i x H2 H3 hi ⟨sm2, hd⟩ ⟨rfl, ex⟩
        rw [List.getElem?_map] at ex
        cases ey : ys[i]? with
        | none => rw [ey] at ex; cases ex
        | some p =>
        rw [ey] at ex
        cases ex
        have hin : p ∈ S.procs := pm.mem_iff.mp (List.mem_of_getElem? ey)
        have row := A0.tab p hin
        have li := tl i
        have le : (ys.take i).length ≤ 6 := by rw [List.length_take]; omega
        have l8 := ht p hin
        walk_at "wn"
        refine ⟨rfl, ?_⟩
        walk_at "wn"
        refine ⟨_, rfl, ad (.tab p), rfl, ⟨_, SqL.of (sm2 _ _ (sm _ _ row))⟩, ?_⟩
        refine rounds_it (walk_list (K := K) (xs := (S.tab p).map optV)) (fun j H' => Same H1 H' ∧ H' D = some (.dK (trueKV (rowThings (thingsOf S [] (ys.take i)) ((S.tab p).take j))))) ⟨sm2, hd⟩ (fun j H' _ h => SqL.of (h.1 _ _ (sm _ _ row))) ?_ ?_
        · rintro j x H4 H5 hj ⟨sm4, hd4⟩ ⟨rfl, ex⟩
          rw [List.getElem?_map] at ex
          cases et : (S.tab p)[j]? with
          | none => rw [et] at ex; cases ex
          | some o =>
          rw [et] at ex
          cases ex
          rw [List.take_add_one, et, Option.toList_some, rowThings_app]
          walk_at "wn"
          refine ⟨rfl, ?_⟩
          cases o with
          | none =>
            walk_at "wn"
            exact ⟨sm4, hd4⟩
          | some t =>
            walk_at "wn"
            refine ⟨_, rfl, _, Sum.inl t, rfl, hd4, ?_, fun b q e => ?_, ?_⟩
            · have := rowThings_len (thingsOf S [] (ys.take i)) ((S.tab p).take j)
              rw [List.length_take] at this
              unfold trueKV
              rw [List.length_map, sizeLine_eq]
              omega
            · rw [upd_ne (ne_of_none e hD)]
              exact sm4 _ _ e
            · rw [upd_same, true_put]
        · rintro H' ⟨sm4, hd4⟩
          rw [List.length_map, List.take_length] at hd4
          refine ⟨sm4, ?_⟩
          rw [List.take_add_one, ey, Option.toList_some, thingsOf_app]
          exact hd4
      · rintro H' ⟨sm2, hd⟩
        rw [List.length_map, List.take_length] at hd
        walk_at "wn"
        refine ⟨D, _, rfl, .inl hd, fun r hr => ?_⟩
        have e : (trueKV (thingsOf S [] ys)).map (fun kv => kV kv.1) = (thingsOf S [] ys).map V.int := by
          unfold trueKV
          rw [List.map_map]
          rfl
        rw [e]
        exact k ys _ r pm pw ((sm.trans sm2).trans (Same.new' hr)) ((sm.trans sm2).free hr) upd_same
end

/-- the places of a thing: in one row from the index k on, and in the tables -/
def rowAt (t p : Int) : Nat → List (Option Int) → List (Int × Nat)
  | _, [] => []
  | k, x :: l => if x = some t then (p, k) :: rowAt t p (k + 1) l else rowAt t p (k + 1) l
def placesIn (S : Sys) (t : Int) : List Int → List (Int × Nat)
  | [] => []
  | p :: ps => rowAt t p 0 (S.tab p) ++ placesIn S t ps
theorem rowAt_app (t p : Int) (x : Option Int) : ∀ (l : List (Option Int)) (k : Nat), rowAt t p k (l ++ [x]) = rowAt t p k l ++ (if x = some t then [(p, k + l.length)] else [])
  | [], k => by
    show (if x = some t then (p, k) :: [] else []) = [] ++ _
    split <;> rfl
  | y :: l, k => by
    have ih := rowAt_app t p x l (k + 1)
    rw [Nat.add_right_comm k 1 l.length, Nat.add_assoc] at ih
    show (if y = some t then (p, k) :: rowAt t p (k + 1) (l ++ [x]) else rowAt t p (k + 1) (l ++ [x])) = (if y = some t then (p, k) :: rowAt t p (k + 1) l else rowAt t p (k + 1) l) ++ _
    rw [ih]
    split <;> rfl
theorem placesIn_app (S : Sys) (t p : Int) : ∀ ps : List Int, placesIn S t (ps ++ [p]) = placesIn S t ps ++ rowAt t p 0 (S.tab p)
  | [] => by
    show rowAt t p 0 (S.tab p) ++ [] = [] ++ _
    rw [List.append_nil]
    rfl
  | q :: ps => by
    show rowAt t q 0 (S.tab q) ++ placesIn S t (ps ++ [p]) = (rowAt t q 0 (S.tab q) ++ placesIn S t ps) ++ _
    rw [placesIn_app S t p ps, List.append_assoc]
theorem rowAt_len (t p : Int) : ∀ (l : List (Option Int)) (k : Nat), (rowAt t p k l).length ≤ l.length
  | [], _ => Nat.le_refl _
  | x :: l, k => by
    have ih := rowAt_len t p l (k + 1)
    show (if x = some t then (p, k) :: rowAt t p (k + 1) l else rowAt t p (k + 1) l).length ≤ l.length + 1
    split
    · rw [List.length_cons]
      omega
    · omega
theorem placesIn_len {S : Sys} (t : Int) {ps : List Int} (h : ∀ p ∈ ps, (S.tab p).length ≤ 8) : (placesIn S t ps).length ≤ 8 * ps.length := by
  induction ps with
  | nil => exact Nat.le_refl _
  | cons p ps ih =>
    have a := ih fun q hq => h q (List.mem_cons_of_mem _ hq)
    have b := h p List.mem_cons_self
    have c := rowAt_len t p (S.tab p) 0
    show (rowAt t p 0 (S.tab p) ++ placesIn S t ps).length ≤ 8 * (ps.length + 1)
    rw [List.length_append]
    omega
def PlAt (H : Hp) (v : V) (r : Int × Nat) : Prop := ∃ T, v = .ref T ∧ H T = some (.tup [.int r.1, .int (r.2 : Int)])
theorem plAts_keep {H H' : Hp} {vs : List V} {rs : List (Int × Nat)} (p : Paired (PlAt H) vs rs) (s : ∀ b x y, H b = some (.tup [x, y]) → H' b = some (.tup [x, y])) : Paired (PlAt H') vs rs := by
  induction p with
  | nil => exact .nil
  | cons r _ ih =>
    obtain ⟨T, h1, h2⟩ := r
    exact .cons ⟨T, h1, s _ _ _ h2⟩ ih
theorem plAts_same {H H' : Hp} {vs : List V} {rs : List (Int × Nat)} (p : Paired (PlAt H) vs rs) (s : Same H H') : Paired (PlAt H') vs rs := plAts_keep p fun b x y h => s _ _ h
theorem plAts_snoc {H : Hp} {vs : List V} {rs : List (Int × Nat)} {v : V} {r : Int × Nat} (p : Paired (PlAt H) vs rs) (h : PlAt H v r) : Paired (PlAt H) (vs ++ [v]) (rs ++ [r]) := by
  induction p with
  | nil => exact .cons h .nil
  | cons q _ ih => exact .cons q ih
section
variable {P : Program} {w : World} {K : PySem.W.Frag} {mg : Str → Option Value} {base : Heap} {C : Cs}
def spNumbersOf (C : Cs) : Sp := fun vs H Q _ => ∃ t : Int, OnTab C vs H [.int t] fun S ad _ => S.procs.length ≤ 6 ∧ (∀ p ∈ S.procs, (S.tab p).length ≤ 8) ∧
  ∀ (ys : List Int) (H' : Hp) (r : Addr) (rs : List V), ys.Perm S.procs → ys.Pairwise (· ≤ ·) → Same H H' → H r = none → H' r = some (.lst rs) → Paired (PlAt H') rs (placesIn S t ys) → Q (.ref r) H'
abbrev nNumsOf : List Str := ["self", "thing", "process", "number", "meant"]
theorem scNumsOf : FnScope nNumsOf ["self", "thing"] (defScope sNumbersOf) := ⟨rfl, rfl, rfl, by decide +kernel, rfl, by decide +kernel, by decide +kernel⟩
theorem okNumbersOf {f : Addr} {fd : FuncData} (F : Fun K "numbers_of" "System.numbers_of" sNumbersOf f fd) (X : RegTxt mg) (T : ClsF K C.S sysF) : FnOk P w K mg base CX0 1 f fd ["self", "thing"] (spNumbersOf C) := by
  refine F.ok scNumsOf (fun vs H Q E h => ?_) (fun cdv A outer s H vs Q E hr h => ?_)
  · obtain ⟨_, _, _, _, rfl, _⟩ := h
    rfl
  · obtain ⟨t, S, ad, dx, rfl, A0, hp, ht, k⟩ := h
    have hu := hu_of hr
    refine ⟨_, pss_one (ps_ret (pe_lc2 (own := [("process", 2), ("number", 3), ("meant", 4)]) (vs1 := [3, 4]) (g := gName 2) (tt := tYes) (wi1 := iEnum K (tCons (tDGet (tFld K (tVar 0) "tables") (tVar 2)) tNil)) (g1 := gTup K 2 (gCons (gName 3) (gCons (gName 4) gNil))) (tt1 := tTest (tOp rEq (tVar 4) (tVar 1))) (te := tTup (tCons (tVar 2) (tCons (tVar 3) tNil)))
        rfl scNumsOf.nd (pi_list (pe_callB (call_sortedDI rfl) (by rfl) X.sorted (by decide +kernel) (pa_cons (pe_fld (pv 0) rfl) pa_nil))) (blkOk_by (N := nNumsOf) (sc := defScope sNumbersOf) (by decide +kernel)) (by decide)
        (fun _ _ _ _ _ => pg_name (i := 2) scNumsOf.nd rfl (Or.inl rfl)) (fun _ _ _ _ _ => pts_nil) (fun _ _ _ _ _ => pi_enum (by rfl) X.enum (pa_cons (pe_dget hu (pe_fld (pv 0) rfl) (pv 2) (fun _ _ => rfl)) pa_nil))
        (fun _ _ _ _ _ => pg_tup rfl (pgs_cons (pg_name (i := 3) scNumsOf.nd rfl (Or.inl rfl)) (pgs_cons (pg_name (i := 4) scNumsOf.nd rfl (Or.inl rfl)) pgs_nil))) (fun _ _ _ _ _ => pts_one (pt_cmpR op_eq (pv 4) (pv 1) (nomark _))) (fun _ _ _ _ _ => pe_tup (pa_cons (pv 2) (pa_cons (pv 3) pa_nil))))), ?_⟩
    have hb := A0.box
    walk_at "wn"
    refine tLc2_of ?_
    unfold iList
    walk_at "wn"
    refine ⟨_, rfl, ad .box, C.S, dx .box, _, _, rfl, hb, T.cl, T.no _ (by decide), rfl, ?_⟩
    walk_at "wn"
    refine ⟨ad .tabD, _, S.procs, rfl, .inl (A0.tabD), by unfold entKV; rw [List.map_map]; rfl, by omega, fun ys q pm pw hq => ?_⟩
    have s1 := Same.new' (o := .lst (ys.map V.int)) hq
    have lp := pm.length_eq
    have hty : ∀ i, ∀ p ∈ ys.take i, (S.tab p).length ≤ 8 := fun i p hp => ht p (pm.mem_iff.mp (List.mem_of_mem_take hp))
    refine ⟨q, rfl, ⟨_, SqL.of upd_same⟩, fun D hD => ?_⟩
    generalize hH1 : upd H q (.lst (ys.map V.int)) = H1 at s1 hD ⊢
    have hq1 : H1 q = some (.lst (ys.map V.int)) := by rw [← hH1]; exact upd_same
    refine rounds_it (walk_list (K := K) (xs := ys.map V.int)) (fun i H' => ∃ rs, Same H1 H' ∧ H' D = some (.lst rs) ∧ Paired (PlAt H') rs (placesIn S t (ys.take i))) ⟨[], Same.new' hD, upd_same, .nil⟩ (fun i H' _ ⟨_, sm, _⟩ => SqL.of (sm _ _ hq1)) ?_ ?_
    · rintro i x H2 H3 hi ⟨rs, sm, hd, pr⟩ ⟨rfl, ex⟩
      rw [List.getElem?_map] at ex
      cases ey : ys[i]? with
      | none => rw [ey] at ex; cases ex
      | some p =>
      rw [ey] at ex
      cases ex
      have hin : p ∈ S.procs := pm.mem_iff.mp (List.mem_of_getElem? ey)
      have hv : valV (entKV S.procs fun p => ad (.tab p)) (Sum.inl p) = some (.ref (ad (.tab p))) := by rw [ent_val, if_pos hin]
      have row := s1 _ _ (A0.tab p hin)
      have hb1 := s1 _ _ hb
      have hT1 := s1 _ _ (A0.tabD)
      have l8 := ht p hin
      have li := placesIn_len t (hty i)
      have le : (ys.take i).length ≤ 6 := by rw [List.length_take]; omega
      walk_at "wn"
      refine ⟨rfl, ?_⟩
      walk_at "wn"
      refine ⟨_, rfl, ad .box, C.S, dx .box, _, _, rfl, sm _ _ hb1, T.cl, T.no _ (by decide), rfl, _, rfl, ad .tabD, _, rfl, hv ▸ DGet.k (k := Sum.inl p) (sm _ _ hT1), ?_⟩
      refine ⟨ad (.tab p), _, rfl, SqL.of (sm _ _ row), ?_⟩
      refine rounds_it (walk_enum (xs := (S.tab p).map optV)) (fun j H' => ∃ rs, Same H1 H' ∧ H' D = some (.lst rs) ∧ Paired (PlAt H') rs (placesIn S t (ys.take i) ++ rowAt t p 0 ((S.tab p).take j))) ⟨rs, sm, hd, by rw [List.take_zero]; show Paired _ _ (_ ++ []); rw [List.append_nil]; exact pr⟩ (fun j H' _ ⟨_, sm, _⟩ => SqL.of (sm _ _ row)) ?_ ?_
      · rintro j x H4 H5 hj ⟨rs, sm, hd, pr⟩ ⟨T1, x1, y1, rfl, nT, rfl, ex, ey1⟩
        have s2 := Same.new' (o := .tup [x1, y1]) nT
        obtain rfl := Option.some.inj ex
        have ey1 : ((S.tab p).map optV)[j]? = some y1 := ey1
        rw [List.getElem?_map] at ey1
        cases et : (S.tab p)[j]? with
        | none => rw [et] at ey1; cases ey1
        | some o =>
        rw [et] at ey1
        cases ey1
        have jl : ((S.tab p).take j).length = j := by
          have := (List.getElem?_eq_some_iff.mp et).1
          rw [List.length_take]
          omega
        rw [List.take_add_one, et, Option.toList_some, rowAt_app, jl, Nat.zero_add, ← List.append_assoc]
        have hd1 := s2 _ _ hd
        have pr1 := plAts_same pr s2
        have sm1 := sm.trans s2
        refine ⟨T1, _, rfl, SqT.of upd_same, rfl, _, _, rfl, ?_⟩
        walk_at "wn"
        refine ⟨_, _, rfl, ?_⟩
        walk_at "wn"
        refine ⟨rfl, rfl, ?_⟩
        generalize upd H4 T1 (.tup [V.int (j : Int), optV o]) = H6 at sm1 hd1 pr1
        have sc : scal (optV o) (.int t) = true := by cases o <;> rfl
        have dc : decide (optV o = .int t) = decide (o = some t) := by
          cases o with
          | none => rfl
          | some u => exact decide_eq_decide.mpr ⟨fun z => by rw [V.int.inj z], fun z => by rw [Option.some.inj z]; rfl⟩
        walk_at "wn"
        refine ⟨sc, _, rfl, ?_⟩
        rw [dc]
        by_cases ho : o = some t
        · subst ho
          rw [if_pos rfl, decide_eq_true rfl]
          refine iteT ?_
          walk_at "wn"
          refine ⟨by show 2 ≤ sizeLine; decide, fun T2 hT2 => ?_⟩
          have nT2 : T2 ≠ D := fun z => by rw [z, hd1] at hT2; cases hT2
          have s3 := Same.new' (o := .tup [.int p, .int (j : Int)]) hT2
          have kp : ∀ b x y, upd H6 T2 (.tup [.int p, .int (j : Int)]) b = some (.tup [x, y]) → upd (upd H6 T2 (.tup [.int p, .int (j : Int)])) D (.lst (rs ++ [.ref T2])) b = some (.tup [x, y]) := fun b x y h => by
            rw [upd_ne (fun z => by rw [z, upd_ne (Ne.symm nT2), hd1] at h; cases h)]
            exact h
          refine ⟨rs, s3 _ _ hd1, ?_, _, fun b o z => ?_, upd_same, plAts_snoc (plAts_keep (plAts_same pr1 s3) kp) ⟨T2, rfl, kp _ _ _ upd_same⟩⟩
          · have h1 := pr1.length
            rw [List.length_append] at h1
            have h2 := rowAt_len t p ((S.tab p).take j) 0
            rw [List.length_take] at h2
            rw [sizeLine_eq]
            omega
          · rw [upd_ne (fun y => by rw [y] at z; rw [hD] at z; cases z)]
            exact (sm1.trans s3) b o z
        · rw [if_neg ho, decide_eq_false ho, List.append_nil]
          refine iteF ?_
          exact ⟨rs, sm1, hd1, pr1⟩
      · rintro H' ⟨rs, sm, hd, pr⟩
        rw [List.length_map, List.take_length] at pr
        refine ⟨rs, sm, hd, ?_⟩
        rw [List.take_add_one, ey, Option.toList_some, placesIn_app]
        exact pr
    · rintro H' ⟨rs, sm, hd, pr⟩
      rw [List.length_map, List.take_length] at pr
      exact k ys _ D rs pm pw (s1.trans sm) (s1.free hD) hd pr
def spNameOf (C : Cs) : Sp := fun vs H Q _ => ∃ t : Int, OnTab C vs H [.int t] fun S ad _ => S.procs.length ≤ 6 ∧ (∀ p ∈ S.procs, (S.tab p).length ≤ 8) ∧ (∃ p ∈ S.procs, ∃ n : Nat, (S.tab p)[n]? = some (some t)) ∧
  ∀ (ys : List Int) (H' : Hp) (v : V) (r : Int × Nat), ys.Perm S.procs → ys.Pairwise (· ≤ ·) → Same H H' → (placesIn S t ys)[0]? = some r → PlAt H' v r → Q v H'
theorem scNameOf : FnScope ["self", "thing"] ["self", "thing"] (defScope sNameOf) := ⟨rfl, rfl, rfl, by decide +kernel, rfl, by decide +kernel, by decide +kernel⟩
theorem rowAt_some {t p : Int} : ∀ {l : List (Option Int)} {n k : Nat}, l[n]? = some (some t) → rowAt t p k l ≠ []
  | x :: l, 0, k, h => by
    rw [List.getElem?_cons_zero] at h
    cases h
    show (if some t = some t then _ else _) ≠ []
    rw [if_pos rfl]
    exact fun z => by cases z
  | x :: l, n + 1, k, h => by
    rw [List.getElem?_cons_succ] at h
    have ih := rowAt_some (p := p) (k := k + 1) h
    show (if x = some t then _ else _) ≠ []
    split
    · exact fun z => by cases z
    · exact ih
theorem placesIn_some {S : Sys} {t p : Int} {n : Nat} (h : (S.tab p)[n]? = some (some t)) : ∀ {ps : List Int}, p ∈ ps → placesIn S t ps ≠ []
  | q :: ps, hp => by
    show rowAt t q 0 (S.tab q) ++ placesIn S t ps ≠ []
    rcases List.mem_cons.mp hp with e | e
    · subst e
      exact fun z => rowAt_some h (List.append_eq_nil_iff.mp z).1
    · exact fun z => placesIn_some h e (List.append_eq_nil_iff.mp z).2
theorem okNameOf {f fN : Addr} {fd fdN : FuncData} (F : Fun K "name_of" "System.name_of" sNameOf f fd) (T : ClsF K C.S sysF) (GN : MO P w K mg base 1 C.S "numbers_of" ["self", "thing"] (spNumbersOf C) fN fdN) : FnOk P w K mg base CX0 2 f fd ["self", "thing"] (spNameOf C) := by
  refine F.ok scNameOf (fun vs H Q E h => ?_) (fun cdv A outer s H vs Q E hr h => ?_)
  · obtain ⟨_, _, _, _, rfl, _⟩ := h
    rfl
  · obtain ⟨t, S, ad, dx, rfl, A0, hp, ht, ⟨p, hpS, n, hn⟩, k⟩ := h
    refine ⟨_, pss_one (ps_ret (pe_ix ix_list (pe_meth (pv 0) T.cl GN.m GN.g hr GN.b .nil pass0 (pa_cons (pv 1) pa_nil)) pe_int (fun _ _ => rfl))), ?_⟩
    have hb := A0.box
    walk_at "wn"
    refine ⟨_, rfl, ad .box, dx .box, _, rfl, hb, rfl, ?_⟩
    walk_at "wn"
    refine ⟨t, S, ad, dx, rfl, A0, hp, ht, fun ys H' r rs pm pw sm nr hrs pr => ?_⟩
    walk_at "wn"
    have ne := placesIn_some hn (pm.mem_iff.mpr hpS)
    have kk := k ys H'
    generalize placesIn S t ys = pl at pr ne kk
    cases pr with
    | nil => exact absurd rfl ne
    | @cons v1 r1 vs1 rs1 a b =>
      refine ⟨r, _, _, _, rfl, rfl, SqL.of hrs, atI_nat (xs := v1 :: vs1) (v := v1) (j := 0) rfl, kk v1 r1 pm pw sm rfl a⟩
end

theorem mem_without {l x : Int} {ls : List Int} : x ∈ without l ls ↔ x ∈ ls ∧ x ≠ l := by
  unfold without
  rw [List.mem_filter]
  simp
theorem without_len (l : Int) (ls : List Int) : (without l ls).length ≤ ls.length := List.length_filter_le _ _
/-- labels dropped, one after another -/
def dropAll (ls : List Int) : List Int → List Int
  | [] => ls
  | l :: D => dropAll (without l ls) D
def ofSrc (reg : Int → Reg) (t : Int) (ls : List Int) : List Int := ls.filter fun l => decide ((reg l).src = t)
theorem dropAll_snoc (x : Int) : ∀ (D ls : List Int), dropAll ls (D ++ [x]) = without x (dropAll ls D)
  | [], _ => rfl
  | l :: D, ls => dropAll_snoc x D (without l ls)
theorem mem_dropAll {x : Int} : ∀ {D ls : List Int}, x ∈ dropAll ls D ↔ x ∈ ls ∧ x ∉ D
  | [], ls => ⟨fun h => ⟨h, List.not_mem_nil⟩, fun h => h.1⟩
  | l :: D, ls => by
    show x ∈ dropAll (without l ls) D ↔ _
    rw [mem_dropAll, mem_without, List.mem_cons]
    constructor
    · rintro ⟨⟨a, b⟩, c⟩
      exact ⟨a, fun z => z.elim b c⟩
    · rintro ⟨a, b⟩
      exact ⟨⟨a, fun z => b (.inl z)⟩, fun z => b (.inr z)⟩
theorem dropAll_len : ∀ (D ls : List Int), (dropAll ls D).length ≤ ls.length
  | [], _ => Nat.le_refl _
  | l :: D, ls => Nat.le_trans (dropAll_len D (without l ls)) (without_len l ls)
section
variable {P : Program} {w : World} {K : PySem.W.Frag} {mg : Str → Option Value} {base : Heap} {C : Cs} {CW CR : Addr}
/-! drop_source -/
def spDropSource (CW CR : Addr) : Sp := fun vs H Q _ => ∃ (a dx e q : Addr) (s : Int) (qs ls : List Int) (ad : Int → Addr) (reg : Int → Reg), vs = [.ref a, .int s] ∧ H a = some (wsO CW dx e q) ∧ H q = some (.lst (qs.map V.int)) ∧ H e = some (.dK (entKV ls ad)) ∧ RegsAt CR H ls ad reg ∧ ls.Nodup ∧ qs.length ≤ 4000 ∧ ls.length ≤ 4000 ∧
  ∀ H' q', (q' = q ∨ H q' = none) → H' a = some (wsO CW dx e q') → H' q' = some (.lst ((dropAll qs (ofSrc reg s ls)).map V.int)) → H' e = some (.dK (entKV (dropAll ls (ofSrc reg s ls)) ad)) → (∀ b o, b ≠ a → b ≠ e → H b = some o → H' b = some o) → Q .non H'
abbrev nDropS : List Str := ["self", "source", "labels", "label", "kept"]
theorem scDropSource : FnScope nDropS ["self", "source"] (defScope sDropSource) := ⟨rfl, rfl, rfl, by decide +kernel, rfl, by decide +kernel, by decide +kernel⟩
theorem okDropSource {f fD : Addr} {fd fdD : FuncData} (F : Fun K "drop_source" "WaitingSet.drop_source" sDropSource f fd) (T : ClsF K CW wsF) (TR : ClsF K CR regF) (GD : MO P w K mg base 1 CW "drop" ["self", "label"] (spDrop CW) fD fdD) : FnOk P w K mg base CX0 2 f fd ["self", "source"] (spDropSource CW CR) := by
  refine F.ok scDropSource (fun vs H Q E h => ?_) (fun cdv A outer s H vs Q E hr h => ?_)
  · obtain ⟨_, _, _, _, _, _, _, _, _, rfl, _⟩ := h
    rfl
  · obtain ⟨a, dx, e, q, s, qs, ls, ad, reg, rfl, ha, hq, he, hR, nd, hz, hz2, k⟩ := h
    refine ⟨_, pss_cut (ps_lock (ps_setLc (i := 2) (own := [("label", 3), ("kept", 4)]) (g := gTup K 2 (gCons (gName 3) (gCons (gName 4) gNil))) (tt := tTest (tOp rEq (tFld K (tVar 4) "source") (tVar 1))) (te := tVar 3) rfl scDropSource.nd rfl rfl rfl (pi_items (pe_fld (pv 0) rfl)) (blkOk_by (N := nDropS) (sc := defScope sDropSource) (by decide +kernel))
        (fun _ _ _ _ _ => pg_tup rfl (pgs_cons (pg_name (i := 3) scDropSource.nd rfl (Or.inl rfl)) (pgs_cons (pg_name (i := 4) scDropSource.nd rfl (Or.inl rfl)) pgs_nil))) (fun _ _ _ _ _ => pts_one (pt_cmpR op_eq (pe_fld (pv 4) rfl) (pv 1) (nomark _))) (fun _ _ _ _ _ => pv 3)))
      (pss_one (ps_for PassesOwn.never rfl (pi_list (pv 2)) (pg_name (i := 3) scDropSource.nd rfl (Or.inl rfl)) (pss_one (ps_expr (pe_meth (pv 0) T.cl GD.m GD.g hr GD.b .nil pass0 (pa_cons (pv 3) pa_nil)))))), ?_⟩
    have nae : a ≠ e := ne_of ha he (by intro z; cases z)
    have nqe : q ≠ e := ne_of hq he (by intro z; cases z)
    have naq : a ≠ q := ne_of ha hq (by intro z; cases z)
    refine ⟨fun σ' H' => ∃ (D : Addr) (u v : Option V), σ' = [some (.ref a), some (.int s), some (.ref D), u, v] ∧ Same H H' ∧ H D = none ∧ H' D = some (.lst ((ofSrc reg s ls).map V.int)), ?_, ?_⟩
    · refine ⟨e, _, he, trivial, fun od => ?_⟩
      refine ⟨_, rfl, a, CW, dx, _, _, rfl, by rw [upd_ne nae]; exact ha, T.cl, T.no _ (by decide), rfl, ?_⟩
      refine ⟨e, od, entKV ls ad, rfl, upd_same, fun D hD => ?_⟩
      have un : ∀ {H1 : Hp}, Same (upd H e (.frz od (.dK (entKV ls ad)))) H1 → Same H (upd H1 e (.dK (entKV ls ad))) := fun {H1} sm b o e1 => by
        by_cases hb : b = e
        · rw [hb, upd_same, ← he, ← hb, e1]
        · rw [upd_ne hb]
          exact sm _ _ (by rw [upd_ne hb]; exact e1)
      have hR1 : ∀ j ∈ ls, ∃ dx, upd H e (.frz od (.dK (entKV ls ad))) (ad j) = some (regO CR dx (reg j).num (reg j).src (reg j).word (reg j).armed) := fun j hj => by
        obtain ⟨dj, ej⟩ := hR j hj
        exact ⟨dj, by rw [upd_ne (ne_of ej he (by intro z; cases z))]; exact ej⟩
      have nDe : D ≠ e := fun z => by rw [z, upd_same] at hD; cases hD
      have hD0 : H D = none := by rw [upd_ne nDe] at hD; exact hD
      refine lc_it walk_items (fun i H' => Same (upd H e (.frz od (.dK (entKV ls ad)))) H' ∧ H' D = some (.lst ((ofSrc reg s (ls.take i)).map V.int))) ⟨Same.new' hD, upd_same⟩ (fun i H' _ h => h.1 _ _ upd_same) ?_ (fun H' h => ?_)
      · rintro i x H1 H2 hi ⟨sm, hd⟩ ⟨T1, x1, y1, rfl, nT, rfl, ex, ey⟩
        have hi' : i < ls.length := by unfold entKV at hi; rwa [List.length_map] at hi
        have e1 : (entKV ls ad)[i]? = some (Sum.inl ls[i], .ref (ad ls[i])) := by
          unfold entKV
          rw [List.getElem?_map, List.getElem?_eq_getElem hi']
          rfl
        have ex : (entKV ls ad)[i]?.map (fun kv => kV kv.1) = some x1 := ex
        have ey : (entKV ls ad)[i]?.map Prod.snd = some y1 := ey
        rw [e1] at ex ey
        cases ex
        cases ey
        have sT := Same.new' (o := .tup [V.int ls[i], V.ref (ad ls[i])]) nT
        have smT := sm.trans sT
        have hdT := sT _ _ hd
        obtain ⟨dr, er⟩ := hR1 ls[i] (List.getElem_mem hi')
        have er2 := smT _ _ er
        have et : ofSrc reg s (ls.take (i + 1)) = ofSrc reg s (ls.take i) ++ (if (reg ls[i]).src = s then [ls[i]] else []) := by
          unfold ofSrc
          rw [List.take_add_one, List.getElem?_eq_getElem hi', Option.toList_some, List.filter_append, List.filter_cons, List.filter_nil]
          congr 1
          by_cases h : (reg ls[i]).src = s
          · rw [if_pos h, if_pos (decide_eq_true h)]
          · rw [if_neg h, if_neg (by rw [decide_eq_false h]; exact Bool.noConfusion)]
        refine ⟨T1, _, rfl, SqT.of upd_same, rfl, _, _, rfl, ?_⟩
        walk_at "wn"
        refine ⟨_, _, rfl, ?_⟩
        walk_at "wn"
        refine ⟨rfl, rfl, ?_⟩
        show tTest _ _ _ _
        refine ⟨_, rfl, ad ls[i], CR, dr, _, _, rfl, er2, TR.cl, TR.no _ (by decide), rfl, _, rfl, rfl, _, rfl, ?_⟩
        by_cases h : (reg ls[i]).src = s
        · rw [decide_eq_true (by rw [h]), et, if_pos h, List.map_append]
          walk_at "wn"
          refine ⟨_, hdT, ?_, fun b o z => ?_, upd_same⟩
          · rw [List.length_map]
            have : (ofSrc reg s (ls.take i)).length ≤ (ls.take i).length := List.length_filter_le _ _
            rw [List.length_take] at this
            rw [sizeLine_eq]
            omega
          · rw [upd_ne (ne_of_none z hD)]
            exact smT _ _ z
        · rw [decide_eq_false fun z => h (V.int.inj z), et, if_neg h, List.append_nil]
          walk_at "wn"
          exact ⟨smT, hdT⟩
      · obtain ⟨sm, hd⟩ := h
        have el : ls.take (entKV ls ad).length = ls := by unfold entKV; rw [List.length_map, List.take_length]
        rw [el] at hd
        show _ ∧ _
        refine ⟨sm _ _ upd_same, ?_⟩
        walk_at "wn"
        exact ⟨D, _, _, rfl, un sm, hD0, (upd_ne nDe).trans hd⟩
    · rintro σ' H1 ⟨D, u, v, rfl, s1, nD, hD⟩
      have ndD : (ofSrc reg s ls).Nodup := nd.filter _
      have hDl : (ofSrc reg s ls).length ≤ ls.length := List.length_filter_le _ _
      have nDa : D ≠ a := fun z => by rw [z, ha] at nD; cases nD
      have nDe : D ≠ e := fun z => by rw [z, he] at nD; cases nD
      walk_at "wn"
      refine ⟨_, rfl, D, rfl, ⟨_, SqL.of hD⟩, ?_⟩
      refine for_it (walk_list (K := K) (xs := (ofSrc reg s ls).map V.int)) (fun i σ' H' => ∃ (u v : Option V) (q' : Addr), σ' = [some (.ref a), some (.int s), some (.ref D), u, v] ∧ (q' = q ∨ H q' = none) ∧ H' a = some (wsO CW dx e q') ∧ H' q' = some (.lst ((dropAll qs ((ofSrc reg s ls).take i)).map V.int)) ∧ H' e = some (.dK (entKV (dropAll ls ((ofSrc reg s ls).take i)) ad)) ∧ (∀ b o, b ≠ a → b ≠ e → H1 b = some o → H' b = some o)) ⟨u, v, q, rfl, .inl rfl, s1 _ _ ha, s1 _ _ hq, s1 _ _ he, fun b o _ _ z => z⟩ (fun i σ' H' _ ⟨_, _, _, _, _, _, _, _, kp⟩ => SqL.of (kp _ _ nDa nDe hD)) ?_ ?_
      · rintro i x σ' H2 H3 hi ⟨u, v, q', rfl, hq', ha2, hq2, he2, kp⟩ ⟨rfl, ex⟩
        rw [List.getElem?_map] at ex
        obtain ⟨l, el, rfl⟩ := Option.map_eq_some_iff.mp ex
        have hl : l ∈ ofSrc reg s ls := List.mem_of_getElem? el
        have lm : l ∈ dropAll ls ((ofSrc reg s ls).take i) := mem_dropAll.mpr ⟨(List.mem_filter.mp hl).1, fun z => by
          obtain ⟨j, hj, e3⟩ := List.mem_take_iff_getElem.mp z
          have := nodup_idx ndD el (show (ofSrc reg s ls)[j]? = some l by rw [List.getElem?_eq_getElem (by omega), e3])
          omega⟩
        walk_at "wn"
        refine ⟨_, rfl, a, dx, _, rfl, ha2, rfl, ?_⟩
        walk_at "wn"
        refine ⟨a, dx, e, q', l, _, _, ad, rfl, ha2, hq2, he2, lm, Nat.le_trans (dropAll_len _ _) (by omega), fun H4 q4 n4 ha4 hq4 he4 kp4 => ?_⟩
        have et : (ofSrc reg s ls).take (i + 1) = (ofSrc reg s ls).take i ++ [l] := by rw [List.take_add_one, el]; rfl
        rw [et, dropAll_snoc, dropAll_snoc]
        refine ⟨_, _, q4, rfl, .inr ?_, ha4, hq4, he4, fun b o n1 n2 z => kp4 b o n1 n2 (kp b o n1 n2 z)⟩
        cases hz4 : H q4 with
        | none => rfl
        | some o =>
          by_cases c1 : q4 = a
          · rw [c1, ha2] at n4
            cases n4
          · by_cases c2 : q4 = e
            · rw [c2, he2] at n4
              cases n4
            · rw [kp q4 o c1 c2 (s1 _ _ hz4)] at n4
              cases n4
      · rintro σ' H2 ⟨u, v, q', rfl, hq', ha2, hq2, he2, kp⟩
        rw [List.length_map, List.take_length] at hq2 he2
        exact k H2 q' hq' ha2 hq2 he2 fun b o n1 n2 z => kp b o n1 n2 (s1 _ _ z)
end

/-! the end of a thing, any number of sets -/
structure Tidy (S : Sys) : Prop where
  sm : Small S
  nd : ∀ s ∈ S.sets, (S.ents s).Nodup
def gone (S : Sys) (t s : Int) : List Int := ofSrc (S.reg s) t (S.ents s)
def noSrc (S : Sys) (t : Int) : Sys := { S with srcs := without t S.srcs }
/-- the source t has left the sets D -/
def sdrops (S : Sys) (t : Int) (D : List Int) : Sys := { S with
  ents := fun s => if s ∈ D then dropAll (S.ents s) (gone S t s) else S.ents s
  que := fun s => if s ∈ D then dropAll (S.que s) (gone S t s) else S.que s }
def ended (S : Sys) (t : Int) : Sys := if t ∈ S.sets then { S with sets := without t S.sets } else sdrops (noSrc S t) t S.sets
section
variable {C : Cs} {H H' : Hp} {S : Sys} {ad dx : Cell → Addr}
/-- the source t leaves one more set -/
theorem At.sdrop {t s : Int} {D : List Int} {q' : Addr} (A : At C H (sdrops S t D) ad dx) (hs : s ∈ S.sets) (hD : s ∉ D) (n : q' = ad (.que s) ∨ H q' = none) (c1 : H' (ad (.ws s)) = some (wsO C.W (dx (.ws s)) (ad (.ent s)) q')) (c2 : H' q' = some (.lst ((dropAll (S.que s) (gone S t s)).map V.int)))
    (c3 : H' (ad (.ent s)) = some (.dK (entKV (dropAll (S.ents s) (gone S t s)) fun l => ad (.reg s l)))) (k : ∀ b o, b ≠ ad (.ws s) → b ≠ ad (.ent s) → H b = some o → H' b = some o) :
    At C H' (sdrops S t (D ++ [s])) (setA ad (.que s) q') dx ∧ Step H (sdrops S t D) ad H' (sdrops S t (D ++ [s])) (setA ad (.que s) q') := by
  have hw := A.at_ (.ws s) hs
  have he := A.at_ (.ent s) hs
  have nq1 : q' ≠ ad (.ws s) := fun z => by rw [z, c1] at c2; cases c2
  have nq2 : q' ≠ ad (.ent s) := fun z => by rw [z, c3] at c2; cases c2
  have hsD : s ∈ D ++ [s] := List.mem_append.mpr (.inr (List.mem_singleton.mpr rfl))
  have oth : ∀ j, j ≠ s → (j ∈ D ++ [s] ↔ j ∈ D) := fun j nj => by rw [List.mem_append, List.mem_singleton]; exact ⟨fun z => z.resolve_right nj, .inl⟩
  refine At.re3 [.ws s, .ent s, .que s] A (fun c lc => ?_) (fun c hc lc => ?_) (fun c hc lc => ?_) (fun c hc lc => ?_) (fun c hc c' hc' lc lc' z e => ?_) (fun b o nb e => ?_) (setA_ne (by intro z; cases z))
  · right
    cases c with
    | reg j l =>
      obtain ⟨l1, l2⟩ := lc
      refine ⟨l1, ?_⟩
      have l2 : l ∈ (if j ∈ D ++ [s] then dropAll (S.ents j) (gone S t j) else S.ents j) := l2
      show l ∈ (if j ∈ D then dropAll (S.ents j) (gone S t j) else S.ents j)
      by_cases nj : j = s
      · subst nj
        rw [if_pos hsD] at l2
        rw [if_neg hD]
        exact (mem_dropAll.mp l2).1
      · by_cases hj : j ∈ D
        · rw [if_pos ((oth j nj).mpr hj)] at l2
          rw [if_pos hj]
          exact l2
        · rw [if_neg (fun z => hj ((oth j nj).mp z))] at l2
          rw [if_neg hj]
          exact l2
    | _ => exact lc
  · simp only [List.mem_cons, List.not_mem_nil, or_false] at hc
    rcases hc with rfl | rfl | rfl
    · rw [setA_ne (by intro z; cases z), c1]
      show _ = some (wsO C.W (dx (.ws s)) (setA ad (.que s) q' (.ent s)) (setA ad (.que s) q' (.que s)))
      rw [setA_same, setA_ne (by intro z; cases z)]
    · rw [setA_ne (by intro z; cases z), c3]
      show _ = some (HO.dK (entKV (if s ∈ D ++ [s] then dropAll (S.ents s) (gone S t s) else S.ents s) fun l => setA ad (.que s) q' (.reg s l)))
      rw [if_pos hsD, show (fun l => setA ad (.que s) q' (.reg s l)) = fun l => ad (.reg s l) from funext fun l => setA_ne (by intro z; cases z)]
    · rw [setA_same, c2]
      show _ = some (HO.lst ((if s ∈ D ++ [s] then dropAll (S.que s) (gone S t s) else S.que s).map V.int))
      rw [if_pos hsD]
  · have nq : c ≠ .que s := fun z => hc (by rw [z]; simp)
    refine ⟨setA_ne nq, ?_⟩
    have rgf : ∀ j, (fun l => setA ad (.que s) q' (.reg j l)) = fun l => ad (.reg j l) := fun j => funext fun l => setA_ne (by intro z; cases z)
    cases c with
    | ws j =>
      have nj : j ≠ s := fun z => hc (by rw [z]; simp)
      show wsO C.W (dx (.ws j)) (setA ad (.que s) q' (.ent j)) (setA ad (.que s) q' (.que j)) = _
      rw [setA_ne (by intro z; cases z), setA_ne (fun z => nj (by cases z; rfl))]
      rfl
    | ent j =>
      have nj : j ≠ s := fun z => hc (by rw [z]; simp)
      show HO.dK (entKV (if j ∈ D ++ [s] then dropAll (S.ents j) (gone S t j) else S.ents j) fun l => setA ad (.que s) q' (.reg j l)) = HO.dK (entKV (if j ∈ D then dropAll (S.ents j) (gone S t j) else S.ents j) fun l => ad (.reg j l))
      rw [rgf j]
      by_cases hj : j ∈ D
      · rw [if_pos hj, if_pos ((oth j nj).mpr hj)]
      · rw [if_neg hj, if_neg (fun z => hj ((oth j nj).mp z))]
    | que j =>
      have nj : j ≠ s := fun z => hc (by rw [z]; simp)
      show HO.lst ((if j ∈ D ++ [s] then dropAll (S.que j) (gone S t j) else S.que j).map V.int) = HO.lst ((if j ∈ D then dropAll (S.que j) (gone S t j) else S.que j).map V.int)
      by_cases hj : j ∈ D
      · rw [if_pos hj, if_pos ((oth j nj).mpr hj)]
      · rw [if_neg hj, if_neg (fun z => hj ((oth j nj).mp z))]
    | _ => rfl
  · simp only [List.mem_cons, List.not_mem_nil, or_false] at hc
    rcases hc with rfl | rfl | rfl
    · exact .inl ⟨setA_ne (by intro z; cases z), hs⟩
    · exact .inl ⟨setA_ne (by intro z; cases z), hs⟩
    · rw [setA_same]
      exact n.imp (fun z => ⟨z, hs⟩) id
  · simp only [List.mem_cons, List.not_mem_nil, or_false] at hc hc'
    rcases hc with rfl | rfl | rfl
    · rw [setA_ne (by intro z; cases z), hw] at z
      cases z
    · rw [setA_ne (by intro z; cases z), he] at z
      cases z
    · rcases hc' with rfl | rfl | rfl
      · rw [setA_same, setA_ne (by intro z; cases z)] at e
        exact absurd e nq1
      · rw [setA_same, setA_ne (by intro z; cases z)] at e
        exact absurd e nq2
      · rfl
  · exact k b o (nb (.ws s) (by simp) hs) (nb (.ent s) (by simp) hs) e
end
section
variable {P : Program} {w : World} {K : PySem.W.Frag} {mg : Str → Option Value} {base : Heap} {C : Cs}
def spEndThing (C : Cs) : Sp := fun vs H Q _ => ∃ t : Int, OnSys C vs H [.int t] fun S ad dx => (t ∉ S.sets → t ∈ S.srcs) ∧ Tidy S ∧ ∀ H' ad', At C H' (ended S t) ad' dx → Step H S ad H' (ended S t) ad' → (∀ q, ad' (.tab q) = ad (.tab q)) → ad' .tabD = ad .tabD → Q .non H'
theorem scEndThing : FnScope ["self", "thing", "waiting"] ["self", "thing"] (defScope sEndThing) := ⟨rfl, rfl, rfl, by decide +kernel, rfl, by decide +kernel, by decide +kernel⟩
theorem okEndThing {f fD : Addr} {fd fdD : FuncData} (F : Fun K "end_thing" "System.end_thing" sEndThing f fd) (T : ClsF K C.S sysF) (TW : Cls K C.W) (GD : MO P w K mg base 2 C.W "drop_source" ["self", "source"] (spDropSource C.W C.R) fD fdD) :
    FnOk P w K mg base CX0 3 f fd ["self", "thing"] (spEndThing C) := by
  refine F.ok scEndThing (fun vs H Q E h => ?_) (fun cdv A outer s H vs Q E hr h => ?_)
  · obtain ⟨_, _, _, _, rfl, _⟩ := h
    rfl
  · obtain ⟨t, S, ad, dx, rfl, A0, hsrc, O, k⟩ := h
    have hu := hu_of hr
    refine ⟨_, pss_cons (ps_if (pt_cmp (pc_din hu (pv 1) (pe_fld (pv 0) rfl)) rfl) (pss_cons (ps_ddel (pe_fld (pv 0) rfl) (pv 1)) (pss_one ps_retN)) pss_nil)
      (pss_cons (ps_ddel (pe_fld (pv 0) rfl) (pv 1))
      (pss_one (ps_lock (ps_for PassesOwn.never rfl (pi_values (pe_fld (pv 0) rfl)) (pg_name (i := 2) scEndThing.nd rfl (Or.inl rfl)) (pss_one (ps_expr (pe_meth (pv 2) TW GD.m GD.g hr GD.b .nil pass0 (pa_cons (pv 1) pa_nil)))))))), ?_⟩
    have hb := A0.at_ .box trivial
    have hD : H (ad .setD) = some (.dK (entKV S.sets fun s => ad (.ws s))) := A0.at_ .setD trivial
    have hR : H (ad .srcD) = some (.dK (entKV S.srcs fun t => ad (.srcT t))) := A0.at_ .srcD trivial
    have nbD : ad .box ≠ ad .setD := A0.ne (c := .box) (c' := .setD) trivial trivial (by intro z; cases z)
    refine ⟨_, rfl, _, rfl, ad .box, C.S, dx .box, _, _, rfl, hb, T.cl, T.no _ (by decide), rfl, ?_⟩
    refine ⟨ad .setD, _, rfl, DGet.k (k := Sum.inl t) hD, ?_⟩
    rw [ent_val]
    by_cases ht : t ∈ S.sets
    · rw [if_pos ht]
      refine ⟨_, rfl, ?_⟩
      show if true = true then _ else _
      refine iteT ?_
      refine ⟨_, rfl, ad .box, C.S, dx .box, _, _, rfl, hb, T.cl, T.no _ (by decide), rfl, ?_⟩
      refine ⟨_, rfl, ad .setD, _, Sum.inl t, rfl, hD, rfl, by rw [ent_val, if_pos ht]; rfl, ?_⟩
      rw [ent_drop]
      have ee : ended S t = { S with sets := without t S.sets } := if_pos ht
      refine (fun z : At C _ _ ad dx ∧ Step _ _ _ _ _ ad => k _ ad z.1 z.2 (fun _ => rfl) rfl) ?_
      rw [ee]
      refine At.re2 [.setD] A0 (fun c l => ?_) (fun c hc => ?_) (fun c hc => ?_) (fun c hc l => ?_) (fun b o n e => ?_)
      · cases c with
        | ws s => exact (mem_without.mp l).1
        | ent s => exact (mem_without.mp l).1
        | que s => exact (mem_without.mp l).1
        | reg s j => exact ⟨(mem_without.mp l.1).1, l.2⟩
        | _ => exact l
      · rw [List.mem_singleton.mp hc]
        exact trivial
      · rw [List.mem_singleton.mp hc, upd_same]
        rfl
      · cases c with
        | setD => exact absurd List.mem_cons_self hc
        | _ => rfl
      · rw [upd_ne (n .setD (by simp))]
        exact e
    · rw [if_neg ht]
      refine ⟨_, rfl, ?_⟩
      show if false = true then _ else _
      refine iteF ?_
      have hts := hsrc ht
      refine ⟨_, rfl, ad .box, C.S, dx .box, _, _, rfl, hb, T.cl, T.no _ (by decide), rfl, ?_⟩
      refine ⟨_, rfl, ad .srcD, _, Sum.inl t, rfl, hR, rfl, by rw [ent_val, if_pos hts]; rfl, ?_⟩
      rw [ent_drop]
      have ee : ended S t = sdrops (noSrc S t) t S.sets := if_neg ht
      rw [ee] at k
      obtain ⟨A1, st1⟩ : At C (upd H (ad .srcD) (.dK (entKV (S.srcs.filter fun x => decide (x ≠ t)) fun t => ad (.srcT t)))) (noSrc S t) ad dx ∧ Step H S ad (upd H (ad .srcD) (.dK (entKV (S.srcs.filter fun x => decide (x ≠ t)) fun t => ad (.srcT t)))) (noSrc S t) ad := by
        refine At.re2 [.srcD] A0 (fun c l => ?_) (fun c hc => ?_) (fun c hc => ?_) (fun c hc l => ?_) (fun b o n e => ?_)
        · cases c with
          | srcT s => exact (mem_without.mp l).1
          | _ => exact l
        · rw [List.mem_singleton.mp hc]
          exact trivial
        · rw [List.mem_singleton.mp hc, upd_same]
          rfl
        · cases c with
          | srcD => exact absurd List.mem_cons_self hc
          | _ => rfl
        · rw [upd_ne (n .srcD (by simp))]
          exact e
      have O1 : Tidy (noSrc S t) := ⟨⟨O.sm.que, O.sm.ents, Nat.le_trans (without_len t S.srcs) O.sm.srcs, O.sm.sets, O.sm.nd⟩, O.nd⟩
      generalize upd H (ad .srcD) (.dK (entKV (S.srcs.filter fun x => decide (x ≠ t)) fun t => ad (.srcT t))) = H1 at A1 st1
      have hsets : (noSrc S t).sets = S.sets := rfl
      rw [← hsets] at k
      generalize noSrc S t = S1 at A1 st1 O1 k
      have hb1 := A1.at_ .box trivial
      have hD1 : H1 (ad .setD) = some (.dK (entKV S1.sets fun s => ad (.ws s))) := A1.at_ .setD trivial
      refine ⟨ad .setD, _, hD1, trivial, fun od => ?_⟩
      refine ⟨_, rfl, ad .box, C.S, dx .box, _, _, rfl, by rw [upd_ne nbD]; exact hb1, T.cl, T.no _ (by decide), rfl, ?_⟩
      refine ⟨ad .setD, od, _, rfl, upd_same, ?_⟩
      have back : ∀ {H2 : Hp} {u o : HO}, H2 (ad .setD) = some o → upd (upd H2 (ad .setD) u) (ad .setD) o = H2 := fun {H2 u o} e => funext fun b => by
        by_cases z : b = ad .setD
        · rw [z, upd_same, e]
        · rw [upd_ne z, upd_ne z]
      refine for_it walk_values (fun i σ' H2 => ∃ (u : Option V) (ad' : Cell → Addr), σ' = [some (.ref (ad .box)), some (.int t), u] ∧ H2 (ad .setD) = some (.frz od (.dK (entKV S1.sets fun s => ad (.ws s)))) ∧ (∀ c, (∀ j, c ≠ .que j) → ad' c = ad c) ∧
        At C (upd H2 (ad .setD) (.dK (entKV S1.sets fun s => ad (.ws s)))) (sdrops S1 t (S1.sets.take i)) ad' dx ∧ Step H1 S1 ad (upd H2 (ad .setD) (.dK (entKV S1.sets fun s => ad (.ws s)))) (sdrops S1 t (S1.sets.take i)) ad') ?_ (fun i σ' H2 _ h => ?_) ?_ ?_
      · refine ⟨none, ad, rfl, upd_same, fun c _ => rfl, ?_⟩
        rw [back hD1]
        have e0 : sdrops S1 t (S1.sets.take 0) = S1 := by
          rw [List.take_zero]
          show ({ S1 with ents := _, que := _ } : Sys) = S1
          have e1 : (fun s => if s ∈ ([] : List Int) then dropAll (S1.ents s) (gone S1 t s) else S1.ents s) = S1.ents := funext fun s => if_neg List.not_mem_nil
          have e2 : (fun s => if s ∈ ([] : List Int) then dropAll (S1.que s) (gone S1 t s) else S1.que s) = S1.que := funext fun s => if_neg List.not_mem_nil
          rw [e1, e2]
        rw [e0]
        exact ⟨A1, Step.refl⟩
      · obtain ⟨_, _, _, h, _⟩ := h
        exact h
      · rintro i x σ' H2 H3 hi ⟨u, ad', rfl, hF, had, A2, st2⟩ ⟨rfl, kx, ex⟩
        have hi' : i < S1.sets.length := by unfold entKV at hi; rwa [List.length_map] at hi
        have e2 : S1.sets[i]? = some S1.sets[i] := List.getElem?_eq_getElem hi'
        have hs : S1.sets[i] ∈ S1.sets := List.getElem_mem hi'
        have et : S1.sets.take (i + 1) = S1.sets.take i ++ [S1.sets[i]] := by rw [List.take_add_one, e2]; rfl
        have hnD : S1.sets[i] ∉ S1.sets.take i := fun z => by
          obtain ⟨j, hj, e⟩ := List.mem_take_iff_getElem.mp z
          have := nodup_idx O1.sm.nd e2 (show S1.sets[j]? = some S1.sets[i] by rw [List.getElem?_eq_getElem (by omega), e])
          omega
        unfold entKV at ex
        rw [List.getElem?_map, e2] at ex
        cases ex
        rw [et]
        generalize S1.sets[i] = s0 at e2 hs hnD
        have a1 : ad' (.ws s0) = ad (.ws s0) := had _ fun j z => by cases z
        have a2 : ad' (.ent s0) = ad (.ent s0) := had _ fun j z => by cases z
        have a3 : ad' .setD = ad .setD := had _ fun j z => by cases z
        have a4 : ∀ l, ad' (.reg s0 l) = ad (.reg s0 l) := fun l => had _ fun j z => by cases z
        have nD : ∀ c, c ≠ .setD → live (sdrops S1 t (S1.sets.take i)) c → ad' c ≠ ad .setD := fun c nc lc z => A2.ne lc (c' := .setD) trivial nc (z.trans a3.symm)
        have eH : ∀ b, b ≠ ad .setD → upd H3 (ad .setD) (.dK (entKV S1.sets fun s => ad (.ws s))) b = H3 b := fun b n => upd_ne n
        have es : (sdrops S1 t (S1.sets.take i)).ents s0 = S1.ents s0 := if_neg hnD
        have eq : (sdrops S1 t (S1.sets.take i)).que s0 = S1.que s0 := if_neg hnD
        have hw : H3 (ad' (.ws s0)) = some (wsO C.W (dx (.ws s0)) (ad' (.ent s0)) (ad' (.que s0))) := (eH _ (nD (.ws s0) (by intro z; cases z) hs)).symm.trans (A2.at_ (.ws s0) hs)
        have he : H3 (ad' (.ent s0)) = some (.dK (entKV (S1.ents s0) fun l => ad' (.reg s0 l))) := by
          have e := (eH _ (nD (.ent s0) (by intro z; cases z) hs)).symm.trans (A2.at_ (.ent s0) hs)
          rw [e]
          show some (HO.dK (entKV ((sdrops S1 t (S1.sets.take i)).ents s0) fun l => ad' (.reg s0 l))) = _
          rw [es]
        have hq : H3 (ad' (.que s0)) = some (.lst ((S1.que s0).map V.int)) := by
          have e := (eH _ (nD (.que s0) (by intro z; cases z) hs)).symm.trans (A2.at_ (.que s0) hs)
          rw [e]
          show some (HO.lst (((sdrops S1 t (S1.sets.take i)).que s0).map V.int)) = _
          rw [eq]
        walk_at "wn"
        refine ⟨_, rfl, ad (.ws s0), dx (.ws s0), _, rfl, a1 ▸ hw, rfl, ?_⟩
        walk_at "wn"
        refine ⟨ad' (.ws s0), dx (.ws s0), ad' (.ent s0), ad' (.que s0), t, S1.que s0, S1.ents s0, fun l => ad' (.reg s0 l), S1.reg s0, by rw [a1]; rfl, hw, hq, he, fun l hl => ⟨dx (.reg s0 l), ?_⟩, O1.nd s0 hs, Nat.le_trans (O1.sm.que s0 hs) (by decide), Nat.le_trans (O1.sm.ents s0 hs) (by decide), fun H' q' c1 c2 c3 c4 c5 => ?_⟩
        · have lv : live (sdrops S1 t (S1.sets.take i)) (.reg s0 l) := ⟨hs, by rw [es]; exact hl⟩
          exact (eH _ (nD (.reg s0 l) (by intro z; cases z) lv)).symm.trans (A2.at_ (.reg s0 l) lv)
        · have hF' : H' (ad .setD) = some (.frz od (.dK (entKV S1.sets fun s => ad (.ws s)))) := c5 _ _ (Ne.symm (nD (.ws s0) (by intro z; cases z) hs)) (Ne.symm (nD (.ent s0) (by intro z; cases z) hs)) hF
          have nqD : q' ≠ ad .setD := fun z => by rw [z, hF'] at c3; cases c3
          have r := At.sdrop (H' := upd H' (ad .setD) (.dK (entKV S1.sets fun s => ad (.ws s)))) (q' := q') A2 hs hnD (c1.imp id fun z => by rw [eH _ nqD]; exact z) (by rw [upd_ne (nD (.ws s0) (by intro z; cases z) hs)]; exact c2) (by rw [upd_ne nqD]; exact c3) (by rw [upd_ne (nD (.ent s0) (by intro z; cases z) hs)]; exact c4) (fun b o n1 n2 e => by
            by_cases hb2 : b = ad .setD
            · rw [hb2, upd_same] at e ⊢
              exact e
            · rw [upd_ne hb2] at e ⊢
              exact c5 _ _ n1 n2 e)
          exact ⟨_, setA ad' (.que s0) q', rfl, hF', fun c hc => (setA_ne (hc s0)).trans (had c hc), r.1, st2.trans r.2⟩
      · rintro σ' H2 ⟨u, ad', rfl, hF, had, A2, st2⟩
        have el : S1.sets.take (entKV S1.sets fun s => ad (.ws s)).length = S1.sets := by unfold entKV; rw [List.length_map, List.take_length]
        rw [el] at A2 st2
        exact ⟨hF, k _ ad' A2 (st1.trans st2) (fun q => had _ fun j z => by cases z) (had _ fun j z => by cases z)⟩
end

/-! own errors over any built-in base -/
structure BX (x : Str) (B newId initId : String) (tl : List Value) : Prop where
  bf : ExcBaseFacts B newId initId (.type B :: tl)
  sf : StoreFacts B (.type B :: tl) "object.__setattr__" "object"
  ty : typeOf (.type B) = pure (.type "type")
  st : Manifest.isStub B = false
  bo : bootBuiltins x = some (.type B)
  nn : x ≠ "__name__"
  nd : (x == ("__debug__" : Str)) = false
  hi : PySem.W.handedIn (.builtin initId) = true
theorem bxRuntime : BX "RuntimeError" "RuntimeError" "RuntimeError.__new__" "RuntimeError.__init__" [.type "Exception", .type "BaseException", .type "object"] := ⟨F.excBase_RuntimeError, F.store_RuntimeError, by kernel_rfl, by decide +kernel, PyProof.Rows.Boot.«RuntimeError», by decide, by decide, by decide +kernel⟩
theorem bxLookup : BX "LookupError" "LookupError" "LookupError.__new__" "LookupError.__init__" [.type "Exception", .type "BaseException", .type "object"] := ⟨F.excBase_LookupError, F.store_LookupError, by kernel_rfl, by decide +kernel, PyProof.Rows.Boot.«LookupError», by decide, by decide, by decide +kernel⟩
theorem bxOverflow : BX "OverflowError" "OverflowError" "OverflowError.__new__" "OverflowError.__init__" [.type "ArithmeticError", .type "Exception", .type "BaseException", .type "object"] := ⟨F.excBase_OverflowError, F.store_OverflowError, by kernel_rfl, by decide +kernel, PyProof.Rows.Boot.«OverflowError», by decide, by decide, by decide +kernel⟩
theorem bxType : BX "TypeError" "TypeError" "TypeError.__new__" "TypeError.__init__" [.type "Exception", .type "BaseException", .type "object"] := ⟨F.excBase_TypeError, F.store_TypeError, by kernel_rfl, by decide +kernel, PyProof.Rows.Boot.«TypeError», by decide, by decide, by decide +kernel⟩
theorem bxValue : BX "ValueError" "ValueError" "ValueError.__new__" "ValueError.__init__" [.type "Exception", .type "BaseException", .type "object"] := ⟨F.excBase_ValueError, F.store_ValueError, by kernel_rfl, by decide +kernel, PyProof.Rows.Boot.«ValueError», by decide, by decide, by decide +kernel⟩
/-- a class of the program's straight over the base with this mro -/
structure OxB (K : PySem.W.Frag) (C : Addr) (newId : String) (bm : List Value) : Prop where
  cls : ∃ nm q N bs sn sub ab col dd k0 k1 k2 k3 k5, K.lookup C = some (excClassObj nm q C N bs bm true sn sub ab col dd k0 k1 k2 k3 k5 newId)
  sa : PySem.W.findIn K (.ref C) "__setattr__" = some (some (.builtin "object.__setattr__"))
  exC : PySem.W.subIn K (.ref C) (.type "BaseException") = some true
  tyC : PySem.W.typeIn K (.ref C) = some (.type "type")
  kC : PySem.W.keepIn K (.ref C) = true
namespace OxB
variable {K : PySem.W.Frag} {C : Addr} {newId B : String} {tl : List Value}
theorem data (T : OxB K C newId (.type B :: tl)) : ∃ cd : ClassData, PySem.W.clsIn K C = some cd ∧ cd.mro = .ref C :: .type B :: tl ∧ cd.hasDict = true := by
  obtain ⟨nm, q, N, bs, sn, sub, ab, col, dd, k0, k1, k2, k3, k5, hC⟩ := T.cls
  refine ⟨{ name := nm, bases := bs, mro := .ref C :: .type B :: tl, ns := N, qualname := q, hasDict := true, slotNames := sn, subclasses := sub, abstract := ab, collection := col, hasDel := false }, ?_, rfl, rfl⟩
  unfold PySem.W.clsIn
  rw [hC]
theorem over (T : OxB K C newId (.type B :: tl)) : PySem.W.excOver K C (.type B :: tl) = true := by
  obtain ⟨cd, h1, h2, _⟩ := T.data
  unfold PySem.W.excOver
  rw [h1]
  show (match cd.mro with | .ref C' :: bm => C' == C && PySem.W.excTail (.type B :: tl) bm | _ => false) = true
  rw [h2]
  have e : PySem.W.excTail (.type B :: tl) (.type B :: tl) = true := by
    unfold PySem.W.excTail
    exact beq_self_eq_true _
  show (C == C && PySem.W.excTail (.type B :: tl) (.type B :: tl)) = true
  rw [e, beq_self_eq_true]
  rfl
end OxB
section
open Builtin Builtin.ObjectAttr
/-- the first field of an error that has no dict yet -/
theorem oxb_first {prog : Program} {w : World} {A : Around} {R : Result → Shared → Prop} {hp : Heap} {g : Array GenState} {d : Drawn} {t : Nat} {os : OsState} {K : PySem.W.Frag} {C x : Addr} {newId B : String} {tl : List Value} {name : Str} {tk : Tok} {v : Value} {fv : Array Value}
    (T : OxB K C newId (.type B :: tl)) (SF : StoreFacts B (.type B :: tl) "object.__setattr__" "object") (X : K.In hp) (hx : hp.get? x = some { cls := .ref C, data := .fields fv }) (no : PySem.W.findIn K (.ref C) name = some none)
    (q : ∀ h' tk' dx, (∀ b o, b ≠ x → hp.get? b = some o → h'.get? b = some o) → hp.objs.size ≤ dx → dx ≠ x → h'.get? x = some { cls := .ref C, dict := some dx, data := .fields fv } → h'.Ns1 dx (fun y => if y = name then some v else none) → R (.ok (.ret .none)) ⟨h', g, d, tk', os⟩) :
    codeAny (model prog w) A (.call (.builtin "object.__setattr__") ⟨[.ref x, .str name tk, v], []⟩) R ⟨hp, g, d, t, os⟩ := by
  have J : PySem.W.InstAt (⟨hp, g, d, t, os⟩ : Shared).heap x { cls := .ref C, data := .fields fv } C none := ⟨hx, rfl, rfl, trivial⟩
  have tkr : PySem.W.takerIn K C name = some none := by
    unfold PySem.W.takerIn
    rw [no]
    rfl
  obtain ⟨cd, hcd, _, hhd⟩ := T.data
  have away : x ≠ hp.objs.size := Nat.ne_of_lt (Heap.lt_size hx)
  refine PySem.W.osa_openX (s := ⟨hp, g, d, t, os⟩) SF X J T.over tkr fun onT => ?_
  show wpAny _ _ (storeInOwnDict (.ref x) (.ref C) (.str name tk) name v onT) _ _ _
  have ask : PySem.W.Looks (model prog w) hp (classData C) cd := PySem.W.looks_clsIn X hcd
  obtain ⟨nm, bs, mro, ns, qn, hd, sn, sb, ab, col, del⟩ := cd
  obtain rfl : hd = true := hhd
  unfold storeInOwnDict ownDictForStores
  repeat (first | with_reducible refine PySem.HandSPX.store_in_new ?_ ?_ | (with_reducible refine wpAny_loadPart_at hx ?_) | (with_reducible refine ask.at ?_) | wp_step)
  · exact (fun laid => ⟨_, #[], _, laid, rfl, fun e he => absurd he (by simp), fun _ => rfl⟩) ((Heap.get?_update_ne _ _ _ _ away.symm).trans (Heap.get?_push_at rfl rfl))
  · intro h' tk' hn same
    have h1 : (hp.push { cls := .type "dict", data := .dict #[] }).get? x = some { cls := .ref C, data := .fields fv } := Heap.get?_push_of_some _ hx
    refine q h' tk' hp.objs.size (fun b o nb eb => ?_) (Nat.le_refl _) away.symm ((same.2 x away).trans (Heap.get?_update_self _ h1 rfl)) hn
    rw [same.2 b (Nat.ne_of_lt (Heap.lt_size eb)), Heap.get?_update_ne _ _ _ _ nb]
    exact Heap.get?_push_of_some _ eb
end
section
variable {X : Cx} {pins : List (Addr × Obj)} {σ : L2.St} {H : Hp} {s : Shared} {a C : Addr} {f : Str} {y : V} {u : Value} {newId initId B : String} {tl : List Value} {A : Around}
theorem oxb_store {Q : Unit → Shared → Prop} {E : Value → Shared → Prop} (T : OxB X.K C newId (.type B :: tl)) (SF : StoreFacts B (.type B :: tl) "object.__setattr__" "object") (I : Inv X pins σ H s) (e : H a = some (exo a C none)) (no : PySem.W.findIn X.K (.ref C) f = some none) (ry : RelV y u)
    (k : ∀ dx s', H dx = none → dx ≠ a → Inv X pins σ (upd (upd H dx (exd dx [(f, y)])) a (exo a C (some dx))) s' → Q () s') : wpAny (model X.prog X.w) A (setAttr (.ref a) f u) Q E s := by
  obtain ⟨t1, ho⟩ := exo_at I.hok e
  obtain ⟨hp, g, d, t, os⟩ := s
  refine PySem.W.set_plain I.kIn (od := none) (ox := { cls := .ref C, dict := none, data := .fields #[.ref t1, .none, .none, .none, .bool false, .none] }) ⟨ho, rfl, rfl, trivial⟩ T.sa (oxb_first T SF I.kIn ho no fun h' tk' dx kp dn dne hx hn => ?_)
  have free : H dx = none := I.hok.fresh dn
  have apart : ∀ {b : Addr} {o : Obj}, hp.get? b = some o → b ≠ dx := fun {b o} z => Nat.ne_of_lt (Nat.lt_of_lt_of_le (Heap.lt_size z) dn)
  have other : ∀ {b : Addr}, H b = none → b ≠ a := fun {b} n z => by rw [z, e] at n; cases n
  refine k dx _ free dne (I.un (t' := tk') ⟨fun b o z n _ _ => kp b o (other n) z, fun b o z n _ _ => ⟨o.slots, kp b o (other n) z⟩, fun b o z n _ => ?_, fun b o z _ => ?_, fun b xs z => ?_, fun b o v z => ?_, fun b ps z => ⟨#[], ?_⟩⟩ fun b o z => ?_)
  · rw [upd_ne (other n), upd_ne (apart z)]
    exact n
  · by_cases hb : b = a
    · exact ⟨_, by rw [hb]; exact hx⟩
    · exact ⟨o, kp b o hb z⟩
  · rw [upd_ne (at_ne e z exo_tup), upd_ne (ne_of_none z free)]
    exact z
  · rw [upd_ne (at_ne e z exo_frz), upd_ne (ne_of_none z free)]
    exact z
  · rw [upd_ne (at_ne e z exo_tbl), upd_ne (ne_of_none z free), z]
    simp
  · by_cases hb : b = a
    · subst hb
      rw [upd_same] at z
      cases z
      exact exo_ok hx
    rw [upd_ne hb] at z
    by_cases hd : b = dx
    · subst hd
      rw [upd_same] at z
      cases z
      exact exd_ok hn (relO_put (fs := []) ry fun g => True.intro)
    rw [upd_ne hd] at z
    refine (I.hok b o z).stay (fun c v hc y1 => kp c v ?_ y1) (fun c hc => ?_) (fun c xs hc => ?_)
    · rcases hc with hc | hc
      · exact hc ▸ hb
      · exact at_ne e hc exo_own
    · rw [upd_ne (at_ne e hc exo_own), upd_ne (ne_of_none hc free)]
      exact hc
    · rw [upd_ne (at_ne e hc exo_tup), upd_ne (ne_of_none hc free)]
      exact hc
theorem oxb_init {us : List Value} {Q : Value → Shared → Prop} {E : Value → Shared → Prop} (T : OxB X.K C newId (.type B :: tl)) (BF : ExcBaseFacts B newId initId (.type B :: tl)) (I : Inv X pins σ H s) (e : H a = some (exo a C none)) (hl : us.length ≤ sizeLine) (k : ∀ s', Inv X pins σ H s' → Q .none s') :
    wpAny (model X.prog X.w) A (call (.builtin initId) (.ref a :: us)) Q E s := by
  obtain ⟨nm, q, N, bs, sn, sub, ab, col, dd, k0, k1, k2, k3, k5, hC⟩ := T.cls
  obtain ⟨t1, ho⟩ := exo_at I.hok e
  obtain ⟨hp, g, d, t, os⟩ := s
  refine wpAny_call (PySem.HandSPX.init_base BF (fun _ => rfl) (I.kIn _ _ hC) ho hl fun h' t2 kp hx => k _ ?_)
  have J := I.write (t' := t) (x := a) (e := a) (o := exo a C none) (by rw [e]; exact True.intro) (.inl rfl) kp ⟨_, hx⟩ (exo_ok hx)
  have eu : upd H a (exo a C none) = H := funext fun b => by
    by_cases hb : b = a
    · rw [hb, upd_same, e]
    · exact upd_ne hb
  exact eu ▸ J
/-- B.__init__(self, ..) of a base B -/
def tBI (K : PySem.W.Frag) (newId B : String) (tl : List Value) (ta : TA) : TE := fun σ H Q => ta σ H fun vs H1 => ∃ (a C : Addr) (ws : List V), vs = .ref a :: ws ∧ ws.length ≤ 1000 ∧ OxB K C newId (.type B :: tl) ∧ H1 a = some (exo a C none) ∧ Q .non H1
/-- self.f = e, the only field -/
def tOsB (K : PySem.W.Frag) (newId B : String) (tl : List Value) (f : Str) (to te : TE) : TS := fun D σ H => te σ H fun y H1 => to σ H1 fun x H2 => ∃ a C : Addr, x = .ref a ∧ OxB K C newId (.type B :: tl) ∧ PySem.W.findIn K (.ref C) f = some none ∧ H2 a = some (exo a C none) ∧
  ∀ dx, H2 dx = none → dx ≠ a → D.nx σ (upd (upd H2 dx (exd dx [(f, y)])) a (exo a C (some dx)))
variable {o e : Expr} {es : List Expr} {to te : TE} {ta : TA} {x : Str} {p p' p1 p2 pos : Pos}
theorem pe_binit {pl : Sem Bool} (Z : BX x B newId initId tl) (hg : Gl X x) (hm : X.mg x = none) (fI : PySem.W.findCls X.K (.type B) (.type "type") "__init__" = some (.val (.builtin initId))) (ha : PA X (e :: es) ta)
    (hc : eval (.Call (.Attribute (.Name x p1) "__init__" p2) (e :: es) [] pos) X.env = (eval (.Name x p1) X.env >>= fun ov => standAt p2.atName >>= fun _ => holding [ov] (getMethod ov "__init__" pl) >>= fun r => callWith pos r.1 r.2 (backTo pos (starEach (e :: es) X.env)) (backToKw pos (keywordEach [] X.env))) := by rfl)
    (st : starEach (e :: es) X.env = (false, eval e X.env) :: starEach es X.env := by rfl) (pn : (backTo pos (starEach es X.env)).any (·.1) = false := by rfl) : PE X (.Call (.Attribute (.Name x p1) "__init__" p2) (e :: es) [] pos) (tBI X.K newId B tl ta) := by
  refine ⟨fun pins s σ H Q I h => PySem.W.methodCall_KW (ld_blt I hg hm Z.bo ?_ Z.nn Z.nd) hc⟩
  obtain ⟨m, fr⟩ := I.fr
  refine PySem.W.method_type fr I.ok.mod.kin Z.ty Z.st fI Z.hi ?_
  show wpAny _ _ (callWith pos (Value.builtin initId) [] (backTo pos (starEach (e :: es) X.env)) []) _ _ _
  refine PyProof.Rows.callWith_method1 (thn (ha.run pos pins _ σ H _ (I.tok _) h) ?_) st pn
  rintro us s1 ⟨vs, H1, I1, r1, a, C, ws, rfl, hl, T, ea, q⟩
  cases r1 with
  | @cons _ u0 _ ur ra rw' =>
    obtain rfl : u0 = Value.ref a := ra
    exact oxb_init T Z.bf I1 ea (by rw [← Paired.length rw', sizeLine_eq]; omega) fun s' J => ⟨.non, H1, J, rfl, q⟩
theorem ps_osb (Z : BX x B newId initId tl) (ho : PE X o to) (he : PE X e te) (sw : swapsWith e (some (.Attribute o f p')) pos.line X.env = pure false := by rfl) : PS X (.Assign [.Attribute o f p'] e pos) (tOsB X.K newId B tl f to te) := by
  refine ⟨fun pins s σ H D I h => plainObj_wpAny_Assign_Attribute (thn (he.run pins s σ H _ I h) ?_) sw⟩
  rintro v s1 ⟨y, H1, I1, r1, q1⟩
  refine thn (ho.run pins s1 σ H1 _ I1 q1) ?_
  rintro u s2 ⟨x, H2, I2, r2, a, C, rfl, T, no, ea, q⟩
  obtain rfl : u = Value.ref a := r2
  exact oxb_store T Z.sf I2 ea no r1 fun dx s' n ne J => ⟨σ, _, J, q dx n ne⟩
theorem pmk_oxb {CX : CXT} {n : Str} {fI : Addr} {k : Nat} {fd : FuncData} {ps : List Str} {sp : Sp} {ds : List Value} {dvs : List V} (Z : BX x B newId initId tl) (T : OxB X.K C newId (.type B :: tl)) (iC : PySem.W.findIn X.K (.ref C) "__init__" = some (some (.ref fI)))
    (tI : PySem.W.typeIn X.K (.ref fI) = some (.type "function")) (G : FnOk X.prog X.w X.K X.mg X.base CX k fI fd ps sp) (hr : Room (k + 1) X.A) (hb : Binds X.K fd ps ds) (hd : Vals dvs ds) (hx : Passes CX X (fun _ _ _ => False)) (hg : Gl X n) (hm : X.mg n = some (.ref C)) (ha : PA X (e :: es) ta)
    (db : (n == ("__debug__" : Str)) = false := by decide) (st : starEach (e :: es) X.env = (false, eval e X.env) :: starEach es X.env := by rfl) (pn : (backTo pos (starEach es X.env)).any (·.1) = false := by rfl) : PMk X (.Call (.Name n p) (e :: es) [] pos) (tMkO C sp dvs ta) := by
  intro pins s σ H Q I h
  obtain ⟨nm, q, N, bs, sn, sub, ab, col, dd, k0, k1, k2, k3, k5, hC⟩ := T.cls
  refine wpAny_Call_Name_kw (ld_glob I hg hm (PySem.W.callWith_K (h₀ := X.base) I.ok.mod.kin T.kC (thn (ha.run pos pins s σ H _ I h) ?_) st pn) db)
  rintro us ⟨hp, g, dr, tk, os⟩ ⟨vs, H1, I1, r1, hz, q1⟩
  refine ⟨I1.kIn, ?_⟩
  show wpAny _ _ (call (.ref C) us) _ _ _
  have above : hp.objs.size ≤ hp.objs.size + 1 := Nat.le_succ _
  have want := q1 (hp.objs.size + 1) (I1.hok.fresh above)
  have kp : ∀ b o, hp.get? b = some o → ((hp.push (PySem.W.kdv_tup us)).push (PySem.HandSPX.excO C hp.objs.size)).get? b = some o := fun b o z => Heap.get?_push_of_some _ (Heap.get?_push_of_some _ z)
  have here : ((hp.push (PySem.W.kdv_tup us)).push (PySem.HandSPX.excO C hp.objs.size)).get? (hp.objs.size + 1) = some (PySem.HandSPX.excO C hp.objs.size) := by heap_get
  have I2 : Inv X pins σ (upd H1 (hp.objs.size + 1) (exo (hp.objs.size + 1) C none)) ⟨(hp.push (PySem.W.kdv_tup us)).push (PySem.HandSPX.excO C hp.objs.size), g, dr, tk, os⟩ := I1.laid (t' := tk) kp above (exo_ok here)
  have rs : Vals (V.ref (hp.objs.size + 1) :: (vs ++ dvs)) (Value.ref (hp.objs.size + 1) :: (us ++ ds)) := .cons rfl (r1.append hd)
  have many : (Value.ref (hp.objs.size + 1) :: us ++ ds).length = ps.length := (G.len _ _ _ _ want ▸ rs.length).symm
  have short : us.length ≤ sizeLine := by rw [← Paired.length r1, sizeLine_eq]; omega
  refine wpAny_call (PySem.HandSPX.call_own Z.bf (fun _ => rfl) (I1.kIn _ _ hC) (PySem.W.looks_findIn I1.kIn iC) (fun self => PySem.W.bind_fn I1.kIn self tI) short
    (codeAny_mono (G.run _ X.stack _ _ ⟨Value.ref (hp.objs.size + 1) :: us, []⟩ (Value.ref (hp.objs.size + 1) :: (us ++ ds)) _ _ (fun _ _ _ => False) (hr.make C us []) (I2.env0.make C us []) (hb _ (Value.ref (hp.objs.size + 1) :: us) I2.kIn many) rs want) fun r s' hq => ?_))
  rcases r with er | (_ | _ | _ | u)
  all_goals first | exact False.elim hq | exact hx pins σ _ _ er s' I2 hq | skip
  all_goals
    obtain ⟨v, H2, os2, bare2, un2, hok2, rv, ev, d, fs, ea, ed, hd1, q2⟩ := hq
    subst ev
    obtain ⟨h2, g2, d2, t2, os'⟩ := s'
    exact ⟨rv, mk_end (raises_own T.exC T.tyC) I1 above kp un2 hok2 os2 bare2 ea ed hd1 q2⟩
end

/-! several except clauses, each of which names what it caught -/
structure HdA where
  c : Value
  i : Nat
  ts : Addr → Value → Option Addr → TS
def wAll (K : PySem.W.Frag) (Wz : WX) (D : Ends) : List HdA → WX
  | [] => Wz
  | h :: r => wAs K h.c h.i h.ts (wAll K Wz D r) D
inductive HdsA (X : Cx) : List ExceptHandler → List HdA → Prop
  | nil : HdsA X [] []
  | cons {x n : Str} {c : Value} {i : Nat} {ts : Addr → Value → Option Addr → TS} {b1 : Stmt} {suite : List Stmt} {np pos1 : Pos} {hds : List ExceptHandler} {l : List HdA} (hi : X.N[i]? = some n) (hln : X.env.kindOf n = some .local) (hc : Names X x c)
      (hsu : ∀ (a : Addr) (oe : Obj) (cls : Value) (d : Option Addr) (pn : List (Addr × Obj)), Zc cls d oe → (∃ us, oe.data = .fields us) → PSs (X.suite a ((a, oe) :: pn)) (b1 :: suite) (ts a cls d)) (r : HdsA X hds l) : HdsA X (.ExceptHandler (some (.Name x np)) (some n) (b1 :: suite) pos1 :: hds) (⟨c, i, ts⟩ :: l)
section
variable {X : Cx} {body : List Stmt} {h1 : ExceptHandler} {hds : List ExceptHandler} {l : List HdA} {pos : Pos} {tb : WX → TS} {Wz : WX}
theorem ps_try_all (hs : X.stack = X.env :: X.outer) (hf : X.env.frame = some X.env.locals) (nd : X.N.Nodup) (tk : Takes X Wz) (hb : ∀ (W : WX) (pn : List (Addr × Obj)) (xe : Value → Shared → Prop), Takes (X.tr pn xe) W → PassesOwn (model X.prog X.w) X.A X.env xe → PSs (X.tr pn xe) body (tb W))
    (hh : HdsA X (h1 :: hds) l) : PS X (.Try body (h1 :: hds) [] [] pos) (fun D σ H => tb (wAll X.K Wz D l) D σ H) := by
  constructor
  intro pins s σ H D I h
  have ok := I.ok
  have frs1 : X.A.frames = some (X.env :: X.outer) := ok.frames.trans (by rw [hs])
  refine wpAny_Try_except (wpAny_mono ((hb (wAll X.K Wz D l) (X.pn ++ pins) (fun e s₁ => wpAny (model X.prog X.w) X.A (noteFrame e X.env) (fun _ s₂ => wpAny (model X.prog X.w) X.A (setFlight e none) (fun _ s₃ => wpAny (model X.prog X.w) X.A (handleBy e X.env (h1 :: hds)) (SP X pins D) X.xe s₃) X.xe s₂) X.xe s₁) (fun u s' xx => ?_) PassesOwn.looking).run [] s σ H D (I.toTry _) h) (fun f s1 hsp => ?_) (fun e s1 he => he))
  · obtain ⟨a, B, sI, pins1, σ1, H1, cls, d, rfl, Jt, nb, up, sky, na, os, ag, w⟩ := xx
    have J : Inv X pins σ1 H1 sI := Jt.ofTry ok
    rw [hs] at sky
    show wpAny (model X.prog X.w) X.A (noteFrame (.ref a) X.env) _ _ _
    refine Sky.land Zc.steady frs1 hf sky fun h3 fl3 up3 => ?_
    have J3 : Inv X pins σ1 H1 { s' with heap := h3 } := J.landed nb fl3.1 (up.trans up3) os ag
    obtain ⟨oe3, vs3, he3, hz3, hd3⟩ := fl3.there
    have nfr : a ∉ frs (X.env :: X.outer) := fun hm => by
      obtain ⟨_, o1, e1, hnf⟩ := fl3.2.2.1.mem hm
      rw [he3] at e1
      cases e1
      exact hnf _ hd3
    have nL : a ≠ X.env.locals := fun z => nfr (List.mem_filterMap.mpr ⟨X.env, List.mem_cons_self, hf.trans (by rw [z])⟩)
    have nF : a ∉ X.fs := fun hm => by
      obtain ⟨e1, he1, q⟩ := List.mem_filterMap.mp hm
      exact nfr (List.mem_filterMap.mpr ⟨e1, List.mem_cons_of_mem _ he1, q⟩)
    have S3 := J3.suite he3 hd3 na nL nF
    have go : ∀ {hs2 : List ExceptHandler} {l2 : List HdA}, HdsA X hs2 l2 → wAll X.K Wz D l2 cls d σ1 H1 → wpAny (model X.prog X.w) X.A (handleBy (.ref a) X.env hs2) (SP X pins D) X.xe { s' with heap := h3 } := by
      intro hs2 l2 hk
      induction hk with
      | nil =>
        intro w
        obtain ⟨k1, k2, k3, oe, vs, T, oT, tsx, he, hz, hd, hT, hr⟩ := id fl3
        refine wpAny_handleBy_nil ?_
        unfold PySem.passOn
        refine wpAny_bind (wpAny_field he hd hT ?_)
        rw [if_neg (show ¬ ((Value.ref T == Value.none) = true) from by simp)]
        have fin : wpAny (model X.prog X.w) X.A (setFlight (.ref a) X.env.frame) (fun _ s4 => wpAny (model X.prog X.w) X.A (throw (.ref a) : Sem Flow) (SP X pins D) X.xe s4) X.xe { s' with heap := h3 } := by
          rw [hf]
          refine HandSPX.setFlight_upZ fl3 fun h4 hh4 up4 => wpAny_throw (tk _ _ ⟨a, B, sI, pins, σ1, H1, cls, d, rfl, J, nb, (up.trans up3).trans up4, .inr (.inr (by rw [hs]; exact hh4)), na, os, ag, w⟩)
        first
          | exact wpAny_bind (wpAny_pure (wpAny_bind fin))
          | exact wpAny_bind fin
      | @cons x n c i ts b1 suite np pos1 hds2 l3 hi hln hc hsu r ih =>
        rintro ⟨b, hb1, hyes, hno⟩
        refine wpAny_handleBy_cons (codeAny_handlers_test ?_) (by intro q; cases q)
        have LT : PySem.W.Looks (model X.prog X.w) h3 (typeOf (.ref a)) cls := fun A Q E s k q => wpAny_typeOf_ref (k _ _ he3) (hz3.1.symm ▸ q)
        have LM := PySem.W.exm_one (M := model X.prog X.w) (J3.kIn) LT hb1
        have test : ∀ {Q : Value → Shared → Prop} {E : Value → Shared → Prop}, Q c { s' with heap := h3 } → wpAny (model X.prog X.w) (X.A.mark (some (.ref a))) (eval (.Name x np) X.env) Q E { s' with heap := h3 } := fun {Q E} q => by
          rcases hc with ⟨hg, hdbg, hm | ⟨hm, hv, hnn⟩⟩
          · exact ld_glob (X := X.suite a ((a, oe3) :: (X.pn ++ pins))) S3 hg hm q hdbg
          · exact ld_blt (X := X.suite a ((a, oe3) :: (X.pn ++ pins))) S3 hg hm hv q hnn hdbg
        refine test (LM.here ?_)
        cases b with
        | false =>
          show wpAny _ X.A (handleBy (.ref a) X.env hds2) _ _ _
          exact ih (hno rfl)
        | true =>
          refine codeAny_handlers_suite_as (HandSPX.lands_againZ fl3 fun h4 fl4 up4 => ?_)
          have J4 : Inv X pins σ1 H1 { s' with heap := h4 } := J.landed nb fl4.1 ((up.trans up3).trans up4) os ag
          obtain ⟨oe4, vs4, he4, hz4, hd4⟩ := fl4.there
          have hloc : Loc X.env.scope n := .inl hln
          refine store_ok (X := X.suite a ((a, oe4) :: (X.pn ++ pins))) (v := .ref a) (J4.suite he4 hd4 na nL nF) nd hi hloc rfl (fun s5 S5 => wpAny_mono ((hsu a oe4 cls d (X.pn ++ pins) hz4 ⟨_, hd4⟩).run [] s5 _ H1 _ S5 (hyes rfl a na)) (fun f s6 hsp => ?_) (fun _ _ z => False.elim z)) (.inr hln)
          have gone : ∀ {σ6 : L2.St} {H6 : Hp} {Q : Shared → Prop}, Inv (X.suite a ((a, oe4) :: (X.pn ++ pins))) [] σ6 H6 s6 → (∀ s7, Inv X pins (σ6.set i none) H6 s7 → Q s7) → wpAny (model X.prog X.w) X.A (do bindName X.env n .none; unbindBehindTheSuite X.env n pos1) (fun _ s7 => Q s7) X.xe s6 := fun S6 hq => gone_ok (S6.unsuite ok) nd hi hln hq
          cases f with
          | ret u =>
            obtain ⟨v6, σ6, H6, S6, r6, q6⟩ := hsp
            exact gone S6 fun s7 J7 => ⟨_, _, _, J7, r6, q6⟩
          | _ =>
            obtain ⟨σ6, H6, S6, q6⟩ := hsp
            exact gone S6 fun s7 J7 => ⟨_, _, J7, q6⟩
    exact go hh w
  · cases f with
    | next =>
      obtain ⟨σ1, H1, J1, q⟩ := hsp
      exact wpAny_execs_nil ⟨σ1, H1, J1.ofTry ok, q⟩
    | ret u =>
      obtain ⟨v, σ1, H1, J1, r, q⟩ := hsp
      exact ⟨v, σ1, H1, J1.ofTry ok, r, q⟩
    | _ =>
      obtain ⟨σ1, H1, J1, q⟩ := hsp
      exact ⟨σ1, H1, J1.ofTry ok, q⟩
end

set_option maxHeartbeats 9000000
/-! {x!r} where x is any flat object: some bounded text, whatever repr is under way -/
section
open PySem.Sem
theorem lst_head {M : Model} {A : Around} {E : Value → Shared → Prop} {s : Shared} {Q : Fin → Shared → Prop} {a : Addr} {o : Obj} {x : Value} {l : List Value} {n : Nat} (e1 : s.heap.get? a = some o) (e2 : o.data = .seq (x :: l).toArray n)
    (k1 : ∀ u tk, Q (.done (.ret (.str "[...]" u))) { s with toks := tk }) (k2 : wpAny M A (do again (.builtin "list.__repr__.loop" ⟨[.ref a, rawInt 0, ← newList [], rawInt 0], []⟩)) Q E s) : wpAny M A (Builtin.listReprAt 0 ⟨[.ref a], []⟩) Q E s := by
  have y1 : wpAny M A (do rule "list.__repr__.in-itself"; retStr "[...]") Q E s := wpAny_bind (wpAny_rule (wpAny_bind (wpAny_mkStr (wpAny_pure (k1 _ _)) (by decide +kernel))))
  intro Γ p hΓ
  have z1 := y1 Γ p hΓ
  have z2 := k2 Γ p hΓ
  unfold Builtin.listReprAt
  simp [slotArgs, Builtin.List.listItems, seqItems?, wp_load_of (h := e1), e2, PySem.stack]
  show wp M Γ (if (Γ.below.any _) = true then _ else _) _ _ p s
  split
  · exact z1
  · exact z2
end
section
variable {prog : Program} {w : World} {A : Around} {E : Value → Shared → Prop} {s : Shared}
theorem lst_any {Q : Value → Shared → Prop} {a : Addr} {oa : Obj} {x : Value} {l : List Value} {na : Nat} {ts : List Str} (hu : A.units < cLine) (hc : oa.cls = .type "list") (ha : s.heap.get? a = some oa) (hda : oa.data = .seq (x :: l).toArray na) (hT : ReprAll prog w (x :: l) ts) (hsz : (listText ts).length ≤ 9000)
    (h : ∀ (m : Str) h' u tk, m.length ≤ 9000 → (∀ b o, s.heap.get? b = some o → h'.get? b = some o) → Q (.str m u) { s with heap := h', toks := tk }) : wpAny (model prog w) A (pyReprObj (.ref a)) Q E s := by
  have big : 9000 ≤ sizeLine := by rw [sizeLine_eq]; decide
  have hlen : ts.length = (x :: l).toArray.size := by rw [hT.length_eq]; simp
  have hall : ∀ (i : Nat) (y : Value), (x :: l).toArray[i]? = some y → ∃ t, ts[i]? = some t ∧ ReprIs prog w y t := by
    have go : ∀ {vs : List Value} {us : List Str}, ReprAll prog w vs us → ∀ (i : Nat) (y : Value), vs[i]? = some y → ∃ t, us[i]? = some t ∧ ReprIs prog w y t := by
      intro vs us hv
      induction hv with
      | nil => intro i y e; simp at e
      | cons r _ ih =>
        intro i y e
        cases i with
        | zero =>
          cases e
          exact ⟨_, rfl, r⟩
        | succ i => exact ih i y e
    intro i y e
    exact go hT i y (by simpa using e)
  refine wpAny_pyReprObj_slot hu ⟨oa, ha, hc⟩ F.slot_list_repr.toG (wpAny_call (codeAny_call_builtin F.slot_list_repr.plain F.entry_list_repr (F.slot_list_repr.check _ _ _ _ _ _ _ _ ⟨oa, ha, hc⟩ (F.args_list_repr_1 _) ?_)))
  refine lst_head (A := A.in1) ha hda (fun u tk => ⟨_, _, rfl, h "[...]" s.heap u tk (by decide +kernel) fun _ _ e => e⟩) ?_
  refine wpAny_bind (m := newList []) (wpAny_newObj_type (wpAny_pure ⟨F.quiet_list_repr_loop _, ?_⟩))
  exact codeAny_list_repr_start (P := s.heap.objs.size) (Nat.ne_of_lt (Heap.lt_size ha)) hlen hall (Heap.get?_push_of_some _ ha) hda (Heap.get?_push_size _ rfl) (fun h' u tk hk => ⟨_, _, rfl, h _ h' u tk hsz fun b o e => hk b o (Nat.ne_of_lt (Heap.lt_size e)) (Heap.get?_push_of_some _ e)⟩) (by show 0 + (listText ts).length ≤ sizeLine; omega)
theorem tup_any {Q : Value → Shared → Prop} {a : Addr} {oa : Obj} {items : Array Value} {na : Nat} {ts : List Str} (hu : A.units < cLine) (hc : oa.cls = .type "tuple") (ha : s.heap.get? a = some oa) (hda : oa.data = .seq items na) (hT : ReprAll prog w items.toList ts) (hsz : (tupleText ts).length ≤ 8990)
    (h : ∀ (m : Str) u tk, m.length ≤ 9000 → Q (.str m u) { s with toks := tk }) : wpAny (model prog w) A (pyReprObj (.ref a)) Q E s := by
  have big : 9000 ≤ sizeLine := by rw [sizeLine_eq]; decide
  exact wpAny_pyReprObj_slot hu ⟨oa, ha, hc⟩ F.slot_tuple_repr (fmt_tuple_repr ha hc hda hT (by omega) fun m u tk hm => ⟨_, _, rfl, h m u tk (by omega)⟩)
end
/-- a flat object: what a number, a process, a limit may be in the place of one -/
inductive Flat (H : Hp) : V → Prop
  | non : Flat H .non
  | bl (b : Bool) : Flat H (.bl b)
  | int (i : Int) : i.natAbs.log2 < 1920 → Flat H (.int i)
  | str (y : Str) : y.length ≤ 100 → (y.cps.toList.all fun c => decide (c < 16 ^ 8)) = true → Flat H (.str y)
  | tup (a : Addr) (l : List Int) : l.length ≤ 3 → (∀ i ∈ l, i.natAbs.log2 < 1920) → H a = some (.tup (l.map V.int)) → Flat H (.ref a)
  | lst (a : Addr) (i : Int) (l : List Int) : l.length ≤ 2 → (∀ j ∈ i :: l, j.natAbs.log2 < 1920) → H a = some (.lst ((i :: l).map V.int)) → Flat H (.ref a)
theorem ReprAll.ints {prog : Program} {w : World} : ∀ {l : List Int} {its : List Value}, Vals (l.map V.int) its → (∀ i ∈ l, i.natAbs.log2 < 1920) → ReprAll prog w its (l.map fun i => (toString i : String))
  | [], _, r, _ => by
    cases r
    exact .nil
  | i :: l, _, r, h => by
    cases r with
    | cons r1 r2 =>
      obtain ⟨t, rfl⟩ := r1
      exact .cons (ReprIs.int t (h i List.mem_cons_self)) (ReprAll.ints r2 fun j hj => h j (List.mem_cons_of_mem _ hj))
theorem ints_len : ∀ (l : List Int), (∀ i ∈ l, i.natAbs.log2 < 1920) → ((l.map fun i => ((toString i : String) : Str)).map (·.length)).sum ≤ 2000 * l.length
  | [], _ => Nat.le_refl _
  | i :: l, h => by
    have e := int_text_length_le (k := 1920) (by decide) (h i List.mem_cons_self)
    have ih := ints_len l fun j hj => h j (List.mem_cons_of_mem _ hj)
    simp only [List.map_cons, List.sum_cons, List.length_cons]
    rw [PySem.ofString_length]
    omega
def tFmtO (te : TE) : TE := fun σ H Q => te σ H fun x H1 => Flat H1 x ∧ ∀ m : Str, m.length ≤ 9000 → Q (.str m) H1
theorem pe_fmtO {X : Cx} {e : Expr} {te : TE} {pos : Pos} {k : Nat} (hr : Room k X.A) (he : PE X e te) : PE X (.FormattedValue e 114 none pos) (tFmtO te) := by
  refine ⟨fun pins s σ H Q I h => wpAny_FormattedValue_repr (thn (he.run pins s σ H _ I h) fun v s1 hv => ?_)⟩
  obtain ⟨x, H1, I1, r1, fl, q⟩ := hv
  have hu : X.A.units < cLine := by have := hr.units; omega
  have big : 9000 ≤ sizeLine := by rw [sizeLine_eq]; decide
  have fin : ∀ {m : Str} {u : Tok} {s2 : Shared}, m.length ≤ 9000 → (∀ tk, Inv X pins σ H1 { s2 with toks := tk }) → Inv X pins σ H1 s2 → wpAny (model X.prog X.w) X.A (formatField (.str m u) Str.empty) (EP X pins σ Q) X.xe s2 := fun {m u s2} hm J1 J2 =>
    wpAny_formatField_str ⟨.str m, H1, J2, ⟨_, rfl⟩, q m hm⟩ ⟨.str m, H1, J1 _, ⟨_, rfl⟩, q m hm⟩ (by omega)
  cases fl with
  | non =>
    cases r1
    exact pyReprObj_none (fin (by decide +kernel) (fun tk => I1.tok _) (I1.tok _))
  | bl b =>
    cases r1
    exact pyReprObj_bool (fin (by cases b <;> decide +kernel) (fun tk => I1.tok _) (I1.tok _))
  | int i hi =>
    obtain ⟨t, rfl⟩ := r1
    have e := int_text_length_le (k := 1920) (by decide) hi
    exact pyReprObj_int hi (fin (by rw [PySem.ofString_length]; omega) (fun tk => I1.tok _) (I1.tok _))
  | str y hy h2 =>
    obtain ⟨t, rfl⟩ := r1
    have hl := StrLaws.reprText_len y fun c hc => of_decide_eq_true (List.all_eq_true.mp h2 c hc)
    exact pyReprObj_str (fin (by omega) (fun tk => I1.tok _) (I1.tok _)) (by omega)
  | tup a l hl hi ht =>
    cases r1
    obtain ⟨its, rv, ⟨o, ho, hc, n, hd⟩, _⟩ := I1.tuple (SqT.of ht)
    have ra := ReprAll.ints (prog := X.prog) (w := X.w) rv hi
    have e := tupleText_len_le (l.map fun i => ((toString i : String) : Str))
    have e2 := ints_len l hi
    rw [List.length_map] at e
    exact tup_any (ts := l.map fun i => ((toString i : String) : Str)) hu hc ho hd (by simpa using ra) (by omega) fun m u tk hm => fin hm (fun tk => I1.tok _) (I1.tok _)
  | lst a i l hl hi hs =>
    cases r1
    obtain ⟨its, rv, ⟨o, n, ho, hc, _, hd⟩, _⟩ := I1.list (SqL.of hs)
    have ra := ReprAll.ints (prog := X.prog) (w := X.w) rv hi
    have e := listText_len_le ((i :: l).map fun i => ((toString i : String) : Str))
    have e2 := ints_len (i :: l) hi
    rw [List.length_map, List.length_cons] at e
    rw [List.length_cons] at e2
    cases rv with
    | cons rv1 rv2 => exact lst_any hu hc ho hd ra (by omega) fun m h' u tk hm hk => fin hm (fun tk => I1.kept hk) (I1.kept hk)
theorem Flat.same {H H' : Hp} {v : V} (f : Flat H v) (s : Same H H') : Flat H' v := by
  cases f with
  | non => exact .non
  | bl b => exact .bl b
  | int i h => exact .int i h
  | str y h h2 => exact .str y h h2
  | tup a l h1 h2 h3 => exact .tup a l h1 h2 (s _ _ h3)
  | lst a i l h1 h2 h3 => exact .lst a i l h1 h2 (s _ _ h3)
/-- any object that is asked whether it is an integer -/
inductive Ob (H : Hp) : V → Prop
  | non : Ob H .non
  | bl (b : Bool) : Ob H (.bl b)
  | int (i : Int) : Ob H (.int i)
  | str (y : Str) : Ob H (.str y)
  | tup (a : Addr) (xs : List V) : H a = some (.tup xs) → Ob H (.ref a)
  | lst (a : Addr) (xs : List V) : H a = some (.lst xs) → Ob H (.ref a)
theorem Flat.ob {H : Hp} {v : V} (f : Flat H v) : Ob H v := by
  cases f with
  | non => exact .non
  | bl b => exact .bl b
  | int i h => exact .int i
  | str y h h2 => exact .str y
  | tup a l h1 h2 h3 => exact .tup a _ h3
  | lst a i l h1 h2 h3 => exact .lst a _ h3
def isI : V → Bool
  | .int _ => true
  | _ => false
def inB : V → Int → Int → Bool
  | .int i, a, b => decide (a ≤ i) && decide (i ≤ b)
  | _, _, _ => false

theorem passX {X : Cx} {E : XK} (tk : Takes X fun cls d _ H => E cls d H) : Passes (L2.CX X.prog X.w) X E := fun pins σ H s e s' I c => tk e s' (XE.of_call I (fun _ _ _ h => h) c)
abbrev exT : List Value := [.type "Exception", .type "BaseException", .type "object"]
/-! an error of the class at D whose only field, named f, is an int -/
structure ErrF (K : PySem.W.Frag) (mg : Str → Option Value) (nm : Str) (f : Str) (D fI : Addr) (fdI : FuncData) (newId : String) (bm : List Value) : Prop where
  gC : mg nm = some (.ref D)
  ox : OxB K D newId bm
  noN : PySem.W.findIn K (.ref D) f = some none
  iC : PySem.W.findIn K (.ref D) "__init__" = some (some (.ref fI))
  tI : PySem.W.typeIn K (.ref fI) = some (.type "function")
  bI : Binds K fdI ["self", f] []
  te : PySem.W.exmOne K (.ref D) (.ref D) = some true
  xf : XfC K D
section
variable {P : Program} {w : World} {K : PySem.W.Frag} {mg : Str → Option Value} {base : Heap} {C : Cs}
def spErrInit (D : Addr) (f : Str) : Sp := fun vs H Q _ => ∃ (a : Addr) (v : V), vs = [.ref a, v] ∧ Flat H v ∧ H a = some (exo a D none) ∧
  ∀ d, H d = none → d ≠ a → Q .non (upd (upd H d (exd d [(f, v)])) a (exo a D (some d)))
theorem scNoProcessInit : FnScope ["self", "process"] ["self", "process"] (defScope sNoProcessInit) := ⟨rfl, rfl, rfl, by decide +kernel, rfl, by decide +kernel, by decide +kernel⟩
abbrev NoProcessE (K : PySem.W.Frag) (mg : Str → Option Value) (D fI : Addr) (fdI : FuncData) : Prop := ErrF K mg "NoProcess" "process" D fI fdI "LookupError.__new__" (.type "LookupError" :: exT)
theorem okNoProcessInit {D fI : Addr} {fdI : FuncData} (F : Fun K "__init__" "NoProcess.__init__" sNoProcessInit fI fdI) (gB : mg "LookupError" = none) (fB : PySem.W.findCls K (.type "LookupError") (.type "type") "__init__" = some (.val (.builtin "LookupError.__init__"))) (T : NoProcessE K mg D fI fdI) : FnOk P w K mg base CX0 1 fI fdI ["self", "process"] (spErrInit D "process") := by
  refine F.ok scNoProcessInit (fun vs H Q E h => ?_) (fun cdv A outer s H vs Q E hr h => ?_)
  · obtain ⟨a, n, rfl, _⟩ := h
    rfl
  · obtain ⟨a, n, rfl, fl, ha, k⟩ := h
    refine ⟨_, pss_cons (ps_expr (pe_binit bxLookup (by rfl) gB fB (pa_cons (pv 0) (pa_cons (pe_joined (.cons pe_str (.cons (pe_fmtO hr (pv 1)) .nil))) pa_nil))))
      (pss_one (ps_osb (f := "process") bxLookup (pv 0) (pv 1))), ?_⟩
    walk_at "wn"
    show tCons _ _ _ _ _
    walk_at "wn"
    show tJs _ _ _ _ _
    have e6 : (((("no alive process " : String) : Str))).length = 17 := rfl
    refine ⟨"no alive process ", rfl, by decide, ?_⟩
    refine ⟨_, rfl, fl, fun m hm => ?_⟩
    refine ⟨m, rfl, ?_, ?_⟩
    · rw [strLen_append, strLen_append, sizeLine_eq, e6]
      show 0 + 17 + _ ≤ _
      omega
    refine ⟨a, D, [_], rfl, by show 1 ≤ 1000; decide, T.ox, ha, ?_⟩
    refine ⟨_, rfl, _, rfl, ?_⟩
    exact ⟨a, D, rfl, T.ox, T.noN, ha, fun dx h1 h2 => k dx h1 h2⟩
theorem scNotOpenInit : FnScope ["self", "number"] ["self", "number"] (defScope sNotOpenInit) := ⟨rfl, rfl, rfl, by decide +kernel, rfl, by decide +kernel, by decide +kernel⟩
abbrev NotOpenE (K : PySem.W.Frag) (mg : Str → Option Value) (D fI : Addr) (fdI : FuncData) : Prop := ErrF K mg "NotOpen" "number" D fI fdI "LookupError.__new__" (.type "LookupError" :: exT)
theorem okNotOpenInit {D fI : Addr} {fdI : FuncData} (F : Fun K "__init__" "NotOpen.__init__" sNotOpenInit fI fdI) (gB : mg "LookupError" = none) (fB : PySem.W.findCls K (.type "LookupError") (.type "type") "__init__" = some (.val (.builtin "LookupError.__init__"))) (T : NotOpenE K mg D fI fdI) : FnOk P w K mg base CX0 1 fI fdI ["self", "number"] (spErrInit D "number") := by
  refine F.ok scNotOpenInit (fun vs H Q E h => ?_) (fun cdv A outer s H vs Q E hr h => ?_)
  · obtain ⟨a, n, rfl, _⟩ := h
    rfl
  · obtain ⟨a, n, rfl, fl, ha, k⟩ := h
    refine ⟨_, pss_cons (ps_expr (pe_binit bxLookup (by rfl) gB fB (pa_cons (pv 0) (pa_cons (pe_joined (.cons pe_str (.cons (pe_fmtO hr (pv 1)) (.cons pe_str .nil)))) pa_nil))))
      (pss_one (ps_osb (f := "number") bxLookup (pv 0) (pv 1))), ?_⟩
    walk_at "wn"
    show tCons _ _ _ _ _
    walk_at "wn"
    show tJs _ _ _ _ _
    have e5 : (((" is not open" : String) : Str)).length = 12 := rfl
    have e6 : (((("number " : String) : Str))).length = 7 := rfl
    refine ⟨"number ", rfl, by decide, ?_⟩
    refine ⟨_, rfl, fl, fun m hm => ?_⟩
    refine ⟨m, rfl, ?_, ?_⟩
    · rw [strLen_append, strLen_append, sizeLine_eq, e6]
      show 0 + 7 + _ ≤ _
      omega
    refine ⟨" is not open", rfl, ?_, ?_⟩
    · rw [strLen_append, strLen_append, strLen_append, sizeLine_eq, e5, e6]
      show 0 + 7 + _ + _ ≤ _
      omega
    refine ⟨a, D, [_], rfl, by show 1 ≤ 1000; decide, T.ox, ha, ?_⟩
    refine ⟨_, rfl, _, rfl, ?_⟩
    exact ⟨a, D, rfl, T.ox, T.noN, ha, fun dx h1 h2 => k dx h1 h2⟩
theorem scNoNumberInit : FnScope ["self", "number"] ["self", "number"] (defScope sNoNumberInit) := ⟨rfl, rfl, rfl, by decide +kernel, rfl, by decide +kernel, by decide +kernel⟩
abbrev NoNumberE (K : PySem.W.Frag) (mg : Str → Option Value) (D fI : Addr) (fdI : FuncData) : Prop := ErrF K mg "NoNumber" "number" D fI fdI "LookupError.__new__" (.type "LookupError" :: exT)
theorem okNoNumberInit {D fI : Addr} {fdI : FuncData} (F : Fun K "__init__" "NoNumber.__init__" sNoNumberInit fI fdI) (gB : mg "LookupError" = none) (fB : PySem.W.findCls K (.type "LookupError") (.type "type") "__init__" = some (.val (.builtin "LookupError.__init__"))) (T : NoNumberE K mg D fI fdI) : FnOk P w K mg base CX0 1 fI fdI ["self", "number"] (spErrInit D "number") := by
  refine F.ok scNoNumberInit (fun vs H Q E h => ?_) (fun cdv A outer s H vs Q E hr h => ?_)
  · obtain ⟨a, n, rfl, _⟩ := h
    rfl
  · obtain ⟨a, n, rfl, fl, ha, k⟩ := h
    refine ⟨_, pss_cons (ps_expr (pe_binit bxLookup (by rfl) gB fB (pa_cons (pv 0) (pa_cons (pe_joined (.cons (pe_fmtO hr (pv 1)) (.cons pe_str .nil))) pa_nil))))
      (pss_one (ps_osb (f := "number") bxLookup (pv 0) (pv 1))), ?_⟩
    walk_at "wn"
    show tCons _ _ _ _ _
    walk_at "wn"
    show tJs _ _ _ _ _
    have e5 : (((" is no number of a table" : String) : Str)).length = 24 := rfl
    refine ⟨_, rfl, fl, fun m hm => ?_⟩
    refine ⟨m, rfl, ?_, ?_⟩
    · rw [strLen_append, sizeLine_eq]
      show 0 + _ ≤ _
      omega
    refine ⟨" is no number of a table", rfl, ?_, ?_⟩
    · rw [strLen_append, strLen_append, sizeLine_eq, e5]
      show 0 + _ + _ ≤ _
      omega
    refine ⟨a, D, [_], rfl, by show 1 ≤ 1000; decide, T.ox, ha, ?_⟩
    refine ⟨_, rfl, _, rfl, ?_⟩
    exact ⟨a, D, rfl, T.ox, T.noN, ha, fun dx h1 h2 => k dx h1 h2⟩
theorem scNotRegisteredInit : FnScope ["self", "number"] ["self", "number"] (defScope sNotRegisteredInit) := ⟨rfl, rfl, rfl, by decide +kernel, rfl, by decide +kernel, by decide +kernel⟩
abbrev NotRegisteredE (K : PySem.W.Frag) (mg : Str → Option Value) (D fI : Addr) (fdI : FuncData) : Prop := ErrF K mg "NotRegistered" "number" D fI fdI "LookupError.__new__" (.type "LookupError" :: exT)
theorem okNotRegisteredInit {D fI : Addr} {fdI : FuncData} (F : Fun K "__init__" "NotRegistered.__init__" sNotRegisteredInit fI fdI) (gB : mg "LookupError" = none) (fB : PySem.W.findCls K (.type "LookupError") (.type "type") "__init__" = some (.val (.builtin "LookupError.__init__"))) (T : NotRegisteredE K mg D fI fdI) : FnOk P w K mg base CX0 1 fI fdI ["self", "number"] (spErrInit D "number") := by
  refine F.ok scNotRegisteredInit (fun vs H Q E h => ?_) (fun cdv A outer s H vs Q E hr h => ?_)
  · obtain ⟨a, n, rfl, _⟩ := h
    rfl
  · obtain ⟨a, n, rfl, fl, ha, k⟩ := h
    refine ⟨_, pss_cons (ps_expr (pe_binit bxLookup (by rfl) gB fB (pa_cons (pv 0) (pa_cons (pe_joined (.cons pe_str (.cons (pe_fmtO hr (pv 1)) (.cons pe_str .nil)))) pa_nil))))
      (pss_one (ps_osb (f := "number") bxLookup (pv 0) (pv 1))), ?_⟩
    walk_at "wn"
    show tCons _ _ _ _ _
    walk_at "wn"
    show tJs _ _ _ _ _
    have e5 : (((" and its source" : String) : Str)).length = 15 := rfl
    have e6 : (((("no registration has number " : String) : Str))).length = 27 := rfl
    refine ⟨"no registration has number ", rfl, by decide, ?_⟩
    refine ⟨_, rfl, fl, fun m hm => ?_⟩
    refine ⟨m, rfl, ?_, ?_⟩
    · rw [strLen_append, strLen_append, sizeLine_eq, e6]
      show 0 + 27 + _ ≤ _
      omega
    refine ⟨" and its source", rfl, ?_, ?_⟩
    · rw [strLen_append, strLen_append, strLen_append, sizeLine_eq, e5, e6]
      show 0 + 27 + _ + _ ≤ _
      omega
    refine ⟨a, D, [_], rfl, by show 1 ≤ 1000; decide, T.ox, ha, ?_⟩
    refine ⟨_, rfl, _, rfl, ?_⟩
    exact ⟨a, D, rfl, T.ox, T.noN, ha, fun dx h1 h2 => k dx h1 h2⟩
theorem scNotASourceInit : FnScope ["self", "number"] ["self", "number"] (defScope sNotASourceInit) := ⟨rfl, rfl, rfl, by decide +kernel, rfl, by decide +kernel, by decide +kernel⟩
abbrev NotASourceE (K : PySem.W.Frag) (mg : Str → Option Value) (D fI : Addr) (fdI : FuncData) : Prop := ErrF K mg "NotASource" "number" D fI fdI "TypeError.__new__" (.type "TypeError" :: exT)
theorem okNotASourceInit {D fI : Addr} {fdI : FuncData} (F : Fun K "__init__" "NotASource.__init__" sNotASourceInit fI fdI) (gB : mg "TypeError" = none) (fB : PySem.W.findCls K (.type "TypeError") (.type "type") "__init__" = some (.val (.builtin "TypeError.__init__"))) (T : NotASourceE K mg D fI fdI) : FnOk P w K mg base CX0 1 fI fdI ["self", "number"] (spErrInit D "number") := by
  refine F.ok scNotASourceInit (fun vs H Q E h => ?_) (fun cdv A outer s H vs Q E hr h => ?_)
  · obtain ⟨a, n, rfl, _⟩ := h
    rfl
  · obtain ⟨a, n, rfl, fl, ha, k⟩ := h
    refine ⟨_, pss_cons (ps_expr (pe_binit bxType (by rfl) gB fB (pa_cons (pv 0) (pa_cons (pe_joined (.cons pe_str (.cons (pe_fmtO hr (pv 1)) (.cons pe_str .nil)))) pa_nil))))
      (pss_one (ps_osb (f := "number") bxType (pv 0) (pv 1))), ?_⟩
    walk_at "wn"
    show tCons _ _ _ _ _
    walk_at "wn"
    show tJs _ _ _ _ _
    have e5 : (((" means no source" : String) : Str)).length = 16 := rfl
    have e6 : (((("number " : String) : Str))).length = 7 := rfl
    refine ⟨"number ", rfl, by decide, ?_⟩
    refine ⟨_, rfl, fl, fun m hm => ?_⟩
    refine ⟨m, rfl, ?_, ?_⟩
    · rw [strLen_append, strLen_append, sizeLine_eq, e6]
      show 0 + 7 + _ ≤ _
      omega
    refine ⟨" means no source", rfl, ?_, ?_⟩
    · rw [strLen_append, strLen_append, strLen_append, sizeLine_eq, e5, e6]
      show 0 + 7 + _ + _ ≤ _
      omega
    refine ⟨a, D, [_], rfl, by show 1 ≤ 1000; decide, T.ox, ha, ?_⟩
    refine ⟨_, rfl, _, rfl, ?_⟩
    exact ⟨a, D, rfl, T.ox, T.noN, ha, fun dx h1 h2 => k dx h1 h2⟩
theorem scNotASetInit : FnScope ["self", "number"] ["self", "number"] (defScope sNotASetInit) := ⟨rfl, rfl, rfl, by decide +kernel, rfl, by decide +kernel, by decide +kernel⟩
abbrev NotASetE (K : PySem.W.Frag) (mg : Str → Option Value) (D fI : Addr) (fdI : FuncData) : Prop := ErrF K mg "NotASet" "number" D fI fdI "TypeError.__new__" (.type "TypeError" :: exT)
theorem okNotASetInit {D fI : Addr} {fdI : FuncData} (F : Fun K "__init__" "NotASet.__init__" sNotASetInit fI fdI) (gB : mg "TypeError" = none) (fB : PySem.W.findCls K (.type "TypeError") (.type "type") "__init__" = some (.val (.builtin "TypeError.__init__"))) (T : NotASetE K mg D fI fdI) : FnOk P w K mg base CX0 1 fI fdI ["self", "number"] (spErrInit D "number") := by
  refine F.ok scNotASetInit (fun vs H Q E h => ?_) (fun cdv A outer s H vs Q E hr h => ?_)
  · obtain ⟨a, n, rfl, _⟩ := h
    rfl
  · obtain ⟨a, n, rfl, fl, ha, k⟩ := h
    refine ⟨_, pss_cons (ps_expr (pe_binit bxType (by rfl) gB fB (pa_cons (pv 0) (pa_cons (pe_joined (.cons pe_str (.cons (pe_fmtO hr (pv 1)) (.cons pe_str .nil)))) pa_nil))))
      (pss_one (ps_osb (f := "number") bxType (pv 0) (pv 1))), ?_⟩
    walk_at "wn"
    show tCons _ _ _ _ _
    walk_at "wn"
    show tJs _ _ _ _ _
    have e5 : (((" means no set" : String) : Str)).length = 13 := rfl
    have e6 : (((("number " : String) : Str))).length = 7 := rfl
    refine ⟨"number ", rfl, by decide, ?_⟩
    refine ⟨_, rfl, fl, fun m hm => ?_⟩
    refine ⟨m, rfl, ?_, ?_⟩
    · rw [strLen_append, strLen_append, sizeLine_eq, e6]
      show 0 + 7 + _ ≤ _
      omega
    refine ⟨" means no set", rfl, ?_, ?_⟩
    · rw [strLen_append, strLen_append, strLen_append, sizeLine_eq, e5, e6]
      show 0 + 7 + _ + _ ≤ _
      omega
    refine ⟨a, D, [_], rfl, by show 1 ≤ 1000; decide, T.ox, ha, ?_⟩
    refine ⟨_, rfl, _, rfl, ?_⟩
    exact ⟨a, D, rfl, T.ox, T.noN, ha, fun dx h1 h2 => k dx h1 h2⟩
theorem scBadCountInit : FnScope ["self", "count"] ["self", "count"] (defScope sBadCountInit) := ⟨rfl, rfl, rfl, by decide +kernel, rfl, by decide +kernel, by decide +kernel⟩
abbrev BadCountE (K : PySem.W.Frag) (mg : Str → Option Value) (D fI : Addr) (fdI : FuncData) : Prop := ErrF K mg "BadCount" "count" D fI fdI "ValueError.__new__" (.type "ValueError" :: exT)
theorem okBadCountInit {D fI : Addr} {fdI : FuncData} (F : Fun K "__init__" "BadCount.__init__" sBadCountInit fI fdI) (gB : mg "ValueError" = none) (fB : PySem.W.findCls K (.type "ValueError") (.type "type") "__init__" = some (.val (.builtin "ValueError.__init__"))) (T : BadCountE K mg D fI fdI) : FnOk P w K mg base CX0 1 fI fdI ["self", "count"] (spErrInit D "count") := by
  refine F.ok scBadCountInit (fun vs H Q E h => ?_) (fun cdv A outer s H vs Q E hr h => ?_)
  · obtain ⟨a, n, rfl, _⟩ := h
    rfl
  · obtain ⟨a, n, rfl, fl, ha, k⟩ := h
    refine ⟨_, pss_cons (ps_expr (pe_binit bxValue (by rfl) gB fB (pa_cons (pv 0) (pa_cons (pe_joined (.cons (pe_fmtO hr (pv 1)) (.cons pe_str .nil))) pa_nil))))
      (pss_one (ps_osb (f := "count") bxValue (pv 0) (pv 1))), ?_⟩
    walk_at "wn"
    show tCons _ _ _ _ _
    walk_at "wn"
    show tJs _ _ _ _ _
    have e5 : (((" is no count" : String) : Str)).length = 12 := rfl
    refine ⟨_, rfl, fl, fun m hm => ?_⟩
    refine ⟨m, rfl, ?_, ?_⟩
    · rw [strLen_append, sizeLine_eq]
      show 0 + _ ≤ _
      omega
    refine ⟨" is no count", rfl, ?_, ?_⟩
    · rw [strLen_append, strLen_append, sizeLine_eq, e5]
      show 0 + _ + _ ≤ _
      omega
    refine ⟨a, D, [_], rfl, by show 1 ≤ 1000; decide, T.ox, ha, ?_⟩
    refine ⟨_, rfl, _, rfl, ?_⟩
    exact ⟨a, D, rfl, T.ox, T.noN, ha, fun dx h1 h2 => k dx h1 h2⟩
theorem scBadLabelInit : FnScope ["self", "label"] ["self", "label"] (defScope sBadLabelInit) := ⟨rfl, rfl, rfl, by decide +kernel, rfl, by decide +kernel, by decide +kernel⟩
abbrev BadLabelE (K : PySem.W.Frag) (mg : Str → Option Value) (D fI : Addr) (fdI : FuncData) : Prop := ErrF K mg "BadLabel" "label" D fI fdI "ValueError.__new__" (.type "ValueError" :: exT)
theorem okBadLabelInit {D fI : Addr} {fdI : FuncData} (F : Fun K "__init__" "BadLabel.__init__" sBadLabelInit fI fdI) (gB : mg "ValueError" = none) (fB : PySem.W.findCls K (.type "ValueError") (.type "type") "__init__" = some (.val (.builtin "ValueError.__init__"))) (T : BadLabelE K mg D fI fdI) : FnOk P w K mg base CX0 1 fI fdI ["self", "label"] (spErrInit D "label") := by
  refine F.ok scBadLabelInit (fun vs H Q E h => ?_) (fun cdv A outer s H vs Q E hr h => ?_)
  · obtain ⟨a, n, rfl, _⟩ := h
    rfl
  · obtain ⟨a, n, rfl, fl, ha, k⟩ := h
    refine ⟨_, pss_cons (ps_expr (pe_binit bxValue (by rfl) gB fB (pa_cons (pv 0) (pa_cons (pe_joined (.cons (pe_fmtO hr (pv 1)) (.cons pe_str .nil))) pa_nil))))
      (pss_one (ps_osb (f := "label") bxValue (pv 0) (pv 1))), ?_⟩
    walk_at "wn"
    show tCons _ _ _ _ _
    walk_at "wn"
    show tJs _ _ _ _ _
    have e5 : (((" is no label" : String) : Str)).length = 12 := rfl
    refine ⟨_, rfl, fl, fun m hm => ?_⟩
    refine ⟨m, rfl, ?_, ?_⟩
    · rw [strLen_append, sizeLine_eq]
      show 0 + _ ≤ _
      omega
    refine ⟨" is no label", rfl, ?_, ?_⟩
    · rw [strLen_append, strLen_append, sizeLine_eq, e5]
      show 0 + _ + _ ≤ _
      omega
    refine ⟨a, D, [_], rfl, by show 1 ≤ 1000; decide, T.ox, ha, ?_⟩
    refine ⟨_, rfl, _, rfl, ?_⟩
    exact ⟨a, D, rfl, T.ox, T.noN, ha, fun dx h1 h2 => k dx h1 h2⟩
theorem scBadWordInit : FnScope ["self", "word"] ["self", "word"] (defScope sBadWordInit) := ⟨rfl, rfl, rfl, by decide +kernel, rfl, by decide +kernel, by decide +kernel⟩
abbrev BadWordE (K : PySem.W.Frag) (mg : Str → Option Value) (D fI : Addr) (fdI : FuncData) : Prop := ErrF K mg "BadWord" "word" D fI fdI "ValueError.__new__" (.type "ValueError" :: exT)
theorem okBadWordInit {D fI : Addr} {fdI : FuncData} (F : Fun K "__init__" "BadWord.__init__" sBadWordInit fI fdI) (gB : mg "ValueError" = none) (fB : PySem.W.findCls K (.type "ValueError") (.type "type") "__init__" = some (.val (.builtin "ValueError.__init__"))) (T : BadWordE K mg D fI fdI) : FnOk P w K mg base CX0 1 fI fdI ["self", "word"] (spErrInit D "word") := by
  refine F.ok scBadWordInit (fun vs H Q E h => ?_) (fun cdv A outer s H vs Q E hr h => ?_)
  · obtain ⟨a, n, rfl, _⟩ := h
    rfl
  · obtain ⟨a, n, rfl, fl, ha, k⟩ := h
    refine ⟨_, pss_cons (ps_expr (pe_binit bxValue (by rfl) gB fB (pa_cons (pv 0) (pa_cons (pe_joined (.cons (pe_fmtO hr (pv 1)) (.cons pe_str .nil))) pa_nil))))
      (pss_one (ps_osb (f := "word") bxValue (pv 0) (pv 1))), ?_⟩
    walk_at "wn"
    show tCons _ _ _ _ _
    walk_at "wn"
    show tJs _ _ _ _ _
    have e5 : (((" is no word" : String) : Str)).length = 11 := rfl
    refine ⟨_, rfl, fl, fun m hm => ?_⟩
    refine ⟨m, rfl, ?_, ?_⟩
    · rw [strLen_append, sizeLine_eq]
      show 0 + _ ≤ _
      omega
    refine ⟨" is no word", rfl, ?_, ?_⟩
    · rw [strLen_append, strLen_append, sizeLine_eq, e5]
      show 0 + _ + _ ≤ _
      omega
    refine ⟨a, D, [_], rfl, by show 1 ≤ 1000; decide, T.ox, ha, ?_⟩
    refine ⟨_, rfl, _, rfl, ?_⟩
    exact ⟨a, D, rfl, T.ox, T.noN, ha, fun dx h1 h2 => k dx h1 h2⟩
theorem scFullInit : FnScope ["self", "process"] ["self", "process"] (defScope sFullInit) := ⟨rfl, rfl, rfl, by decide +kernel, rfl, by decide +kernel, by decide +kernel⟩
abbrev FullE (K : PySem.W.Frag) (mg : Str → Option Value) (D fI : Addr) (fdI : FuncData) : Prop := ErrF K mg "Full" "process" D fI fdI "OverflowError.__new__" (.type "OverflowError" :: .type "ArithmeticError" :: exT)
theorem okFullInit {D fI : Addr} {fdI : FuncData} (F : Fun K "__init__" "Full.__init__" sFullInit fI fdI) (gB : mg "OverflowError" = none) (fB : PySem.W.findCls K (.type "OverflowError") (.type "type") "__init__" = some (.val (.builtin "OverflowError.__init__"))) (T : FullE K mg D fI fdI) : FnOk P w K mg base CX0 1 fI fdI ["self", "process"] (spErrInit D "process") := by
  refine F.ok scFullInit (fun vs H Q E h => ?_) (fun cdv A outer s H vs Q E hr h => ?_)
  · obtain ⟨a, n, rfl, _⟩ := h
    rfl
  · obtain ⟨a, n, rfl, fl, ha, k⟩ := h
    refine ⟨_, pss_cons (ps_expr (pe_binit bxOverflow (by rfl) gB fB (pa_cons (pv 0) (pa_cons (pe_joined (.cons pe_str (.cons (pe_fmtO hr (pv 1)) (.cons pe_str .nil)))) pa_nil))))
      (pss_one (ps_osb (f := "process") bxOverflow (pv 0) (pv 1))), ?_⟩
    walk_at "wn"
    show tCons _ _ _ _ _
    walk_at "wn"
    show tJs _ _ _ _ _
    have e5 : (((" has no free number" : String) : Str)).length = 19 := rfl
    have e6 : (((("process " : String) : Str))).length = 8 := rfl
    refine ⟨"process ", rfl, by decide, ?_⟩
    refine ⟨_, rfl, fl, fun m hm => ?_⟩
    refine ⟨m, rfl, ?_, ?_⟩
    · rw [strLen_append, strLen_append, sizeLine_eq, e6]
      show 0 + 8 + _ ≤ _
      omega
    refine ⟨" has no free number", rfl, ?_, ?_⟩
    · rw [strLen_append, strLen_append, strLen_append, sizeLine_eq, e5, e6]
      show 0 + 8 + _ + _ ≤ _
      omega
    refine ⟨a, D, [_], rfl, by show 1 ≤ 1000; decide, T.ox, ha, ?_⟩
    refine ⟨_, rfl, _, rfl, ?_⟩
    exact ⟨a, D, rfl, T.ox, T.noN, ha, fun dx h1 h2 => k dx h1 h2⟩
theorem scFinishedInit : FnScope ["self", "number"] ["self", "number"] (defScope sFinishedInit) := ⟨rfl, rfl, rfl, by decide +kernel, rfl, by decide +kernel, by decide +kernel⟩
abbrev FinishedE (K : PySem.W.Frag) (mg : Str → Option Value) (D fI : Addr) (fdI : FuncData) : Prop := ErrF K mg "Finished" "number" D fI fdI "RuntimeError.__new__" (.type "RuntimeError" :: exT)
theorem okFinishedInit {D fI : Addr} {fdI : FuncData} (F : Fun K "__init__" "Finished.__init__" sFinishedInit fI fdI) (gB : mg "RuntimeError" = none) (fB : PySem.W.findCls K (.type "RuntimeError") (.type "type") "__init__" = some (.val (.builtin "RuntimeError.__init__"))) (T : FinishedE K mg D fI fdI) : FnOk P w K mg base CX0 1 fI fdI ["self", "number"] (spErrInit D "number") := by
  refine F.ok scFinishedInit (fun vs H Q E h => ?_) (fun cdv A outer s H vs Q E hr h => ?_)
  · obtain ⟨a, n, rfl, _⟩ := h
    rfl
  · obtain ⟨a, n, rfl, fl, ha, k⟩ := h
    refine ⟨_, pss_cons (ps_expr (pe_binit bxRuntime (by rfl) gB fB (pa_cons (pv 0) (pa_cons (pe_joined (.cons pe_str (.cons (pe_fmtO hr (pv 1)) (.cons pe_str .nil)))) pa_nil))))
      (pss_one (ps_osb (f := "number") bxRuntime (pv 0) (pv 1))), ?_⟩
    walk_at "wn"
    show tCons _ _ _ _ _
    walk_at "wn"
    show tJs _ _ _ _ _
    have e5 : (((" is finished" : String) : Str)).length = 12 := rfl
    have e6 : (((("the source of number " : String) : Str))).length = 21 := rfl
    refine ⟨"the source of number ", rfl, by decide, ?_⟩
    refine ⟨_, rfl, fl, fun m hm => ?_⟩
    refine ⟨m, rfl, ?_, ?_⟩
    · rw [strLen_append, strLen_append, sizeLine_eq, e6]
      show 0 + 21 + _ ≤ _
      omega
    refine ⟨" is finished", rfl, ?_, ?_⟩
    · rw [strLen_append, strLen_append, strLen_append, sizeLine_eq, e5, e6]
      show 0 + 21 + _ + _ ≤ _
      omega
    refine ⟨a, D, [_], rfl, by show 1 ≤ 1000; decide, T.ox, ha, ?_⟩
    refine ⟨_, rfl, _, rfl, ?_⟩
    exact ⟨a, D, rfl, T.ox, T.noN, ha, fun dx h1 h2 => k dx h1 h2⟩
theorem scRegisteredInit : FnScope ["self", "number"] ["self", "number"] (defScope sRegisteredInit) := ⟨rfl, rfl, rfl, by decide +kernel, rfl, by decide +kernel, by decide +kernel⟩
abbrev RegisteredE (K : PySem.W.Frag) (mg : Str → Option Value) (D fI : Addr) (fdI : FuncData) : Prop := ErrF K mg "Registered" "number" D fI fdI "RuntimeError.__new__" (.type "RuntimeError" :: exT)
theorem okRegisteredInit {D fI : Addr} {fdI : FuncData} (F : Fun K "__init__" "Registered.__init__" sRegisteredInit fI fdI) (gB : mg "RuntimeError" = none) (fB : PySem.W.findCls K (.type "RuntimeError") (.type "type") "__init__" = some (.val (.builtin "RuntimeError.__init__"))) (T : RegisteredE K mg D fI fdI) : FnOk P w K mg base CX0 1 fI fdI ["self", "number"] (spErrInit D "number") := by
  refine F.ok scRegisteredInit (fun vs H Q E h => ?_) (fun cdv A outer s H vs Q E hr h => ?_)
  · obtain ⟨a, n, rfl, _⟩ := h
    rfl
  · obtain ⟨a, n, rfl, fl, ha, k⟩ := h
    refine ⟨_, pss_cons (ps_expr (pe_binit bxRuntime (by rfl) gB fB (pa_cons (pv 0) (pa_cons (pe_joined (.cons pe_str (.cons (pe_fmtO hr (pv 1)) (.cons pe_str .nil)))) pa_nil))))
      (pss_one (ps_osb (f := "number") bxRuntime (pv 0) (pv 1))), ?_⟩
    walk_at "wn"
    show tCons _ _ _ _ _
    walk_at "wn"
    show tJs _ _ _ _ _
    have e5 : (((" and its source are registered" : String) : Str)).length = 30 := rfl
    have e6 : (((("number " : String) : Str))).length = 7 := rfl
    refine ⟨"number ", rfl, by decide, ?_⟩
    refine ⟨_, rfl, fl, fun m hm => ?_⟩
    refine ⟨m, rfl, ?_, ?_⟩
    · rw [strLen_append, strLen_append, sizeLine_eq, e6]
      show 0 + 7 + _ ≤ _
      omega
    refine ⟨" and its source are registered", rfl, ?_, ?_⟩
    · rw [strLen_append, strLen_append, strLen_append, sizeLine_eq, e5, e6]
      show 0 + 7 + _ + _ ≤ _
      omega
    refine ⟨a, D, [_], rfl, by show 1 ≤ 1000; decide, T.ox, ha, ?_⟩
    refine ⟨_, rfl, _, rfl, ?_⟩
    exact ⟨a, D, rfl, T.ox, T.noN, ha, fun dx h1 h2 => k dx h1 h2⟩
theorem scTakenInit : FnScope ["self", "label"] ["self", "label"] (defScope sTakenInit) := ⟨rfl, rfl, rfl, by decide +kernel, rfl, by decide +kernel, by decide +kernel⟩
abbrev TakenE (K : PySem.W.Frag) (mg : Str → Option Value) (D fI : Addr) (fdI : FuncData) : Prop := ErrF K mg "Taken" "label" D fI fdI "RuntimeError.__new__" (.type "RuntimeError" :: exT)
theorem okTakenInit {D fI : Addr} {fdI : FuncData} (F : Fun K "__init__" "Taken.__init__" sTakenInit fI fdI) (gB : mg "RuntimeError" = none) (fB : PySem.W.findCls K (.type "RuntimeError") (.type "type") "__init__" = some (.val (.builtin "RuntimeError.__init__"))) (T : TakenE K mg D fI fdI) : FnOk P w K mg base CX0 1 fI fdI ["self", "label"] (spErrInit D "label") := by
  refine F.ok scTakenInit (fun vs H Q E h => ?_) (fun cdv A outer s H vs Q E hr h => ?_)
  · obtain ⟨a, n, rfl, _⟩ := h
    rfl
  · obtain ⟨a, n, rfl, fl, ha, k⟩ := h
    refine ⟨_, pss_cons (ps_expr (pe_binit bxRuntime (by rfl) gB fB (pa_cons (pv 0) (pa_cons (pe_joined (.cons pe_str (.cons (pe_fmtO hr (pv 1)) (.cons pe_str .nil)))) pa_nil))))
      (pss_one (ps_osb (f := "label") bxRuntime (pv 0) (pv 1))), ?_⟩
    walk_at "wn"
    show tCons _ _ _ _ _
    walk_at "wn"
    show tJs _ _ _ _ _
    have e5 : (((" is taken" : String) : Str)).length = 9 := rfl
    have e6 : (((("label " : String) : Str))).length = 6 := rfl
    refine ⟨"label ", rfl, by decide, ?_⟩
    refine ⟨_, rfl, fl, fun m hm => ?_⟩
    refine ⟨m, rfl, ?_, ?_⟩
    · rw [strLen_append, strLen_append, sizeLine_eq, e6]
      show 0 + 6 + _ ≤ _
      omega
    refine ⟨" is taken", rfl, ?_, ?_⟩
    · rw [strLen_append, strLen_append, strLen_append, sizeLine_eq, e5, e6]
      show 0 + 6 + _ + _ ≤ _
      omega
    refine ⟨a, D, [_], rfl, by show 1 ≤ 1000; decide, T.ox, ha, ?_⟩
    refine ⟨_, rfl, _, rfl, ?_⟩
    exact ⟨a, D, rfl, T.ox, T.noN, ha, fun dx h1 h2 => k dx h1 h2⟩
/-- the way out with an error of the class at D whose field is v -/
def OutV (D : Addr) (f : Str) (v : V) (H : Hp) (E : XK) : Prop := ∀ d H', H d = none → Same H H' → H' d = some (.xd [(f, v)]) → E (.ref D) (some d) H'
abbrev Out (D : Addr) (f : Str) (n : Int) (H : Hp) (E : XK) : Prop := OutV D f (.int n) H E
theorem out_madeV {D : Addr} {f : Str} {v : V} {H : Hp} {Q : XK} (fl : Flat H v) (k : OutV D f v H Q) :
    ([v].length ≤ 1000 ∧ ∀ a, H a = none → spErrInit D f (.ref a :: ([v] ++ [])) (upd H a (exo a D none)) (fun v H2 => v = .non ∧ ∃ (d : Addr) (fs : List (Str × V)), H2 a = some (exo a D (some d)) ∧ H2 d = some (exd d fs) ∧ H d = none ∧ Q (.ref D) (some d) (upd (del H2 a) d (.xd fs))) fun _ _ _ => False) := by
  refine ⟨by show 1 ≤ 1000; decide, fun a ha => ⟨a, v, rfl, fl.same (Same.new' ha), upd_same, fun d hd nd => ⟨rfl, d, [(f, v)], upd_same, ?_, ?_, ?_⟩⟩⟩
  · rw [upd_ne nd, upd_same]
  · rw [upd_ne nd] at hd
    exact hd
  · rw [upd_ne nd] at hd
    refine k d _ hd (fun b o e => ?_) upd_same
    have n1 : b ≠ d := fun z => by rw [z, hd] at e; cases e
    have n2 : b ≠ a := fun z => by rw [z, ha] at e; cases e
    rw [upd_ne n1]
    show (if b = a then none else _) = _
    rw [if_neg n2, upd_ne n2, upd_ne n1, upd_ne n2]
    exact e
end
/-! an own error without fields -/
section
variable {X : Cx}
theorem mk_endN {pins : List (Addr × Obj)} {σ : L2.St} {H1 H2 : Hp} {Q : XK} {hp hp2 h2 : Heap} {g1 g2 : Array GenState} {d1 d2 : Drawn} {t1 t2 : Nat} {os1 os2 : OsState} {a C : Addr} (T : Raises X (.ref C)) (I1 : Inv X pins σ H1 ⟨hp, g1, d1, t1, os1⟩)
    (ha : hp.objs.size ≤ a) (k : ∀ b o, hp.get? b = some o → hp2.get? b = some o) (un : Un (frs X.stack) [] (upd H1 a (exo a C none)) H2 hp2 h2) (hok : HOk X.prog X.w H2 h2) (ho : os2 = os1) (hb : AllBare g2)
    (ea : H2 a = some (exo a C none)) (q : Q (.ref C) none (del H2 a)) : MkP X pins σ Q (.ref a) ⟨h2, g2, d2, t2, os2⟩ := by
  obtain ⟨t0, hoe⟩ := exo_at hok ea
  have hn : H1 a = none := I1.hok.fresh ha
  obtain ⟨G, g1', g2'⟩ := restrict h2 fun b => decide (b ≠ a)
  have gk : ∀ b, b ≠ a → G.get? b = h2.get? b := fun b hb => g1' b (decide_eq_true hb)
  have ge : G.get? a = none := g2' a (by simp)
  have nha : ∀ {b : Addr} {o : Obj}, hp.get? b = some o → b ≠ a := fun {b o} z => Nat.ne_of_lt (Nat.lt_of_lt_of_le (Heap.lt_size z) ha)
  have up : ∀ {b : Addr}, b ≠ a → H1 b = none → upd H1 a (exo a C none) b = none := fun {b} hb n => by rw [upd_ne hb]; exact n
  have U : Un (frs X.stack) [] H1 (del H2 a) hp G := {
    keep := fun b o z n hf hx => by
      rw [gk b (nha z)]
      exact un.keep b o (k b o z) (up (nha z) n) hf hx
    slot := fun b o z n hf hx => by
      rw [gk b (nha z)]
      exact un.slot b o (k b o z) (up (nha z) n) hf hx
    free := fun b o z n hx => by
      rw [del_ne (nha z)]
      exact un.free b o (k b o z) (up (nha z) n) hx
    there := fun b o z hx => by
      rw [gk b (nha z)]
      exact un.there b o (k b o z) hx
    tups := fun b xs z => by
      rw [del_ne (ne_of_none z hn)]
      exact un.tups b xs (by rw [upd_ne (ne_of_none z hn)]; exact z)
    frzs := fun b o v z => by
      rw [del_ne (ne_of_none z hn)]
      exact un.frzs b o v (by rw [upd_ne (ne_of_none z hn)]; exact z)
    tbls := fun b ps z => by
      rw [del_ne (ne_of_none z hn)]
      exact un.tbls b ps (by rw [upd_ne (ne_of_none z hn)]; exact z) }
  have hok3 : HOk X.prog X.w (del H2 a) G := fun b o z => by
    have hba : b ≠ a := fun e => by
      rw [e, del_same] at z
      cases z
    rw [del_ne hba] at z
    have noa : ∀ {c : Addr}, H2 c = some (.own b) → c ≠ a := fun {c} hc => at_ne ea hc exo_own
    exact (hok b o z).stay (fun c v hc y => by
        have hca : c ≠ a := by
          rcases hc with hc | hc
          · rw [hc]
            exact hba
          · exact noa hc
        rw [gk c hca]
        exact y)
      (fun c hc => by rw [del_ne (noa hc)]; exact hc) (fun c xs hc => by rw [del_ne (at_ne ea hc exo_tup)]; exact hc)
  have J : Inv X pins σ (del H2 a) ⟨G, g2, d2, t2, os2⟩ := I1.call' (ch := []) ho U hok3 hb (fun b z => absurd z (by simp))
  refine ⟨a, _, _, ⟨G, g2, d2, t2, os2⟩, _, .ref C, none, rfl, J, fun b o z => ?_, ge, hoe, ⟨rfl, rfl⟩, rfl, rfl, del_same, rfl, hb, T, q⟩
  by_cases hba : b = a
  · rw [hba, ge] at z
    cases z
  · exact (gk b hba).symm.trans z
/-- C(), an own error whose __init__ stores nothing -/
def tMkO0 (C : Addr) (sp : Sp) : L2.St → Hp → XK → Prop := fun _ H1 Q => ∀ a, H1 a = none → sp [.ref a] (upd H1 a (exo a C none)) (fun v H2 => v = .non ∧ H2 a = some (exo a C none) ∧ Q (.ref C) none (del H2 a)) fun _ _ _ => False
theorem pmk_oxb0 {CX : CXT} {n x : Str} {newId initId B : String} {tl : List Value} {C fI : Addr} {k : Nat} {fd : FuncData} {ps : List Str} {sp : Sp} {p pos : Pos} (Z : BX x B newId initId tl) (T : OxB X.K C newId (.type B :: tl)) (iC : PySem.W.findIn X.K (.ref C) "__init__" = some (some (.ref fI)))
    (tI : PySem.W.typeIn X.K (.ref fI) = some (.type "function")) (G : FnOk X.prog X.w X.K X.mg X.base CX k fI fd ps sp) (hr : Room (k + 1) X.A) (hb : Binds X.K fd ps []) (hx : Passes CX X (fun _ _ _ => False)) (hg : Gl X n) (hm : X.mg n = some (.ref C))
    (db : (n == ("__debug__" : Str)) = false := by decide) : PMk X (.Call (.Name n p) [] [] pos) (tMkO0 C sp) := by
  intro pins s σ H Q I h
  obtain ⟨nm, q, N, bs, sn, sub, ab, col, dd, k0, k1, k2, k3, k5, hC⟩ := T.cls
  refine wpAny_Call_Name_kw (ld_glob I hg hm ?_ db)
  refine PySem.W.callWith_K0 I.kIn T.kC ?_
  obtain ⟨hp, g, dr, tk, os⟩ := s
  show wpAny _ _ (call (.ref C) []) _ _ _
  have above : hp.objs.size ≤ hp.objs.size + 1 := Nat.le_succ _
  have want := h (hp.objs.size + 1) (I.hok.fresh above)
  have kp : ∀ b o, hp.get? b = some o → ((hp.push (PySem.W.kdv_tup [])).push (PySem.HandSPX.excO C hp.objs.size)).get? b = some o := fun b o z => Heap.get?_push_of_some _ (Heap.get?_push_of_some _ z)
  have here : ((hp.push (PySem.W.kdv_tup [])).push (PySem.HandSPX.excO C hp.objs.size)).get? (hp.objs.size + 1) = some (PySem.HandSPX.excO C hp.objs.size) := by heap_get
  have I2 : Inv X pins σ (upd H (hp.objs.size + 1) (exo (hp.objs.size + 1) C none)) ⟨(hp.push (PySem.W.kdv_tup [])).push (PySem.HandSPX.excO C hp.objs.size), g, dr, tk, os⟩ := I.laid (t' := tk) kp above (exo_ok here)
  have rs : Vals [V.ref (hp.objs.size + 1)] [Value.ref (hp.objs.size + 1)] := .cons rfl .nil
  have many : ([Value.ref (hp.objs.size + 1)] ++ []).length = ps.length := by rw [← G.len _ _ _ _ want]; rfl
  refine wpAny_call (PySem.HandSPX.call_own Z.bf (fun _ => rfl) (I.kIn _ _ hC) (PySem.W.looks_findIn I.kIn iC) (fun self => PySem.W.bind_fn I.kIn self tI) (Nat.zero_le _)
    (codeAny_mono (G.run _ X.stack _ _ ⟨[Value.ref (hp.objs.size + 1)], []⟩ [Value.ref (hp.objs.size + 1)] _ _ (fun _ _ _ => False) (hr.make C [] []) (I2.env0.make C [] []) (by have := hb ⟨(hp.push (PySem.W.kdv_tup [])).push (PySem.HandSPX.excO C hp.objs.size), g, dr, tk, os⟩ [Value.ref (hp.objs.size + 1)] I2.kIn many; simpa using this) rs want) fun r s' hq => ?_))
  rcases r with er | (_ | _ | _ | u)
  all_goals first | exact False.elim hq | exact hx pins σ _ _ er s' I2 hq | skip
  all_goals
    obtain ⟨v, H2, os2, bare2, un2, hok2, rv, ev, ea, q2⟩ := hq
    subst ev
    obtain ⟨h2, g2, d2, t2, os'⟩ := s'
    exact ⟨rv, mk_endN (raises_own T.exC T.tyC) I above kp un2 hok2 os2 bare2 ea q2⟩
end
/-- an error of the class at D without fields -/
structure ErrN (K : PySem.W.Frag) (mg : Str → Option Value) (nm : Str) (D fI : Addr) (fdI : FuncData) (newId : String) (bm : List Value) : Prop where
  gC : mg nm = some (.ref D)
  ox : OxB K D newId bm
  iC : PySem.W.findIn K (.ref D) "__init__" = some (some (.ref fI))
  tI : PySem.W.typeIn K (.ref fI) = some (.type "function")
  bI : Binds K fdI ["self"] []
  te : PySem.W.exmOne K (.ref D) (.ref D) = some true
  xf : XfC K D
def OutN (D : Addr) (H : Hp) (E : XK) : Prop := ∀ H', Same H H' → E (.ref D) none H'
abbrev NoRoomE (K : PySem.W.Frag) (mg : Str → Option Value) (D fI : Addr) (fdI : FuncData) : Prop := ErrN K mg "NoRoom" D fI fdI "OverflowError.__new__" (.type "OverflowError" :: .type "ArithmeticError" :: exT)
section
variable {P : Program} {w : World} {K : PySem.W.Frag} {mg : Str → Option Value} {base : Heap} {C : Cs}
def spErr0 (D : Addr) : Sp := fun vs H Q _ => ∃ a : Addr, vs = [.ref a] ∧ H a = some (exo a D none) ∧ Q .non H
theorem scNoRoomInit : FnScope ["self"] ["self"] (defScope sNoRoomInit) := ⟨rfl, rfl, rfl, by decide +kernel, rfl, by decide +kernel, by decide +kernel⟩
theorem okNoRoomInit {D fI : Addr} {fdI : FuncData} (F : Fun K "__init__" "NoRoom.__init__" sNoRoomInit fI fdI) (gB : mg "OverflowError" = none) (fB : PySem.W.findCls K (.type "OverflowError") (.type "type") "__init__" = some (.val (.builtin "OverflowError.__init__"))) (T : NoRoomE K mg D fI fdI) : FnOk P w K mg base CX0 1 fI fdI ["self"] (spErr0 D) := by
  refine F.ok scNoRoomInit (fun vs H Q E h => ?_) (fun cdv A outer s H vs Q E hr h => ?_)
  · obtain ⟨a, rfl, _⟩ := h
    rfl
  · obtain ⟨a, rfl, ha, k⟩ := h
    refine ⟨_, pss_one (ps_expr (pe_binit bxOverflow (by rfl) gB fB (pa_cons (pv 0) (pa_cons pe_str pa_nil)))), ?_⟩
    walk_at "wn"
    show tCons _ _ _ _ _
    walk_at "wn"
    refine ⟨a, D, [_], rfl, by show 1 ≤ 1000; decide, T.ox, ha, ?_⟩
    exact k
end

/-! promises that may raise, beside promises that never do -/
section
variable {P : Program} {w : World} {K : PySem.W.Frag} {mg : Str → Option Value} {base : Heap} {k : Nat} {f : Addr} {fd : FuncData} {ps : List Str} {sp sp1 sp2 : Sp} {CX : CXT}
theorem FnOk.x (F : FnOk P w K mg base CX0 k f fd ps sp) : FnOk P w K mg base (L2.CX P w) k f fd ps sp :=
  ⟨F.len, fun A outer s H args us vs Q E hr he hb hv hs => codeAny_mono (F.run A outer s H args us vs Q E hr he hb hv hs) fun r s' q => by
    rcases r with e | fl
    · exact False.elim q
    · cases fl <;> exact q⟩
theorem FnOk.or (F1 : FnOk P w K mg base CX k f fd ps sp1) (F2 : FnOk P w K mg base CX k f fd ps sp2) : FnOk P w K mg base CX k f fd ps fun vs H Q E => sp1 vs H Q E ∨ sp2 vs H Q E :=
  ⟨fun vs H Q E h => h.elim (F1.len vs H Q E) (F2.len vs H Q E), fun A outer s H args us vs Q E hr he hb hv hs => hs.elim (F1.run A outer s H args us vs Q E hr he hb hv) (F2.run A outer s H args us vs Q E hr he hb hv)⟩
end
/-! what a call raises -/
inductive Er
  | proc (v : V) | open_ (v : V) | num (v : V) | nosrc (v : V) | noset (v : V) | full (v : V) | noroom | count (v : V) | label (v : V) | word (v : V) | fin (v : V) | regd (v : V) | taken (v : V) | notreg (v : V)
def Er.nm : Er → Str
  | .proc _ => "NoProcess"
  | .open_ _ => "NotOpen"
  | .num _ => "NoNumber"
  | .nosrc _ => "NotASource"
  | .noset _ => "NotASet"
  | .full _ => "Full"
  | .noroom => "NoRoom"
  | .count _ => "BadCount"
  | .label _ => "BadLabel"
  | .word _ => "BadWord"
  | .fin _ => "Finished"
  | .regd _ => "Registered"
  | .taken _ => "Taken"
  | .notreg _ => "NotRegistered"
structure Es where
  proc : Addr
  open_ : Addr
  num : Addr
  nosrc : Addr
  noset : Addr
  full : Addr
  noroom : Addr
  count : Addr
  label : Addr
  word : Addr
  fin : Addr
  regd : Addr
  taken : Addr
  notreg : Addr
def Er.out (D : Es) (H : Hp) (E : XK) : Er → Prop
  | .proc v => OutV D.proc "process" v H E
  | .open_ v => OutV D.open_ "number" v H E
  | .num v => OutV D.num "number" v H E
  | .nosrc v => OutV D.nosrc "number" v H E
  | .noset v => OutV D.noset "number" v H E
  | .full v => OutV D.full "process" v H E
  | .noroom => OutN D.noroom H E
  | .count v => OutV D.count "count" v H E
  | .label v => OutV D.label "label" v H E
  | .word v => OutV D.word "word" v H E
  | .fin v => OutV D.fin "number" v H E
  | .regd v => OutV D.regd "number" v H E
  | .taken v => OutV D.taken "label" v H E
  | .notreg v => OutV D.notreg "number" v H E
theorem OutV.same {D : Addr} {f : Str} {v : V} {H H1 : Hp} {E : XK} (k : OutV D f v H E) (s : Same H H1) : OutV D f v H1 E := fun d H' hd s' e => k d H' (s.free hd) (s.trans s') e
theorem Er.out_same {D : Es} {H H1 : Hp} {E : XK} {e : Er} (k : e.out D H E) (s : Same H H1) : e.out D H1 E := by
  cases e with
  | noroom => exact fun H' s' => k H' (s.trans s')
  | _ => exact OutV.same k s
/-- a class of error, with its __init__ -/
structure Thr (P : Program) (w : World) (K : PySem.W.Frag) (mg : Str → Option Value) (base : Heap) (nm f : Str) (newId : String) (bm : List Value) (D : Addr) : Prop where
  ex : ∃ (fI : Addr) (fdI : FuncData), ErrF K mg nm f D fI fdI newId bm ∧ FnOk P w K mg base CX0 1 fI fdI ["self", f] (spErrInit D f)
def tThr (D : Addr) (f : Str) (E : XK) (te : TE) : TS := fun _ σ H => tMkO D (spErrInit D f) [] (tCons te tNil) σ H fun cls d H' => E cls d H'
theorem ps_thr {X : Cx} {E : XK} {x B newId initId : String} {nm f : Str} {tl : List Value} {D : Addr} {e : Expr} {te : TE} {p pos pos2 : Pos} (R : Thr X.prog X.w X.K X.mg X.base nm f newId (.type B :: tl) D) (Z : BX x B newId initId tl) (tk : Takes X fun cls d _ H => E cls d H) (hr : Room 2 X.A) (he : PE X e te) (hc : X.calm = true := by rfl) (hg : Gl X nm := by rfl)
    (db : (nm == ("__debug__" : Str)) = false := by decide) (st : starEach [e] X.env = (false, eval e X.env) :: starEach [] X.env := by rfl) (pn : (backTo pos (starEach [] X.env)).any (·.1) = false := by rfl) : PS X (.Raise (some (.Call (.Name nm p) [e] [] pos)) none pos2) (tThr D f E te) := by
  obtain ⟨fI, fdI, T, G⟩ := R.ex
  exact ps_raise hc tk (pmk_oxb Z T.ox T.iC T.tI G hr T.bI .nil pass0 hg T.gC (pa_cons he pa_nil (hs := st)) db st pn)
theorem g_thr {D : Addr} {f : Str} {E : XK} {i : Nat} {v : V} {Ds : Ends} {σ : L2.St} {H : Hp} (h : σ[i]? = some (some v)) (fl : Flat H v) (k : OutV D f v H E) : tThr D f E (tVar i) Ds σ H := ⟨v, h, out_madeV fl k⟩
theorem g_thrD {D : Addr} {f : Str} {E : XK} {i : Nat} {v : V} {σ : L2.St} {H : Hp} (h : σ[i]? = some (some v)) (fl : Flat H v) (k : OutV D f v H E) : tMkO D (spErrInit D f) [] (tCons (tVar i) tNil) σ H fun cls d H' => E cls d H' := ⟨v, h, out_madeV fl k⟩
structure ErTx (P : Program) (w : World) (K : PySem.W.Frag) (mg : Str → Option Value) (base : Heap) (D : Es) : Prop where
  proc : Thr P w K mg base "NoProcess" "process" "LookupError.__new__" (.type "LookupError" :: exT) D.proc
  open_ : Thr P w K mg base "NotOpen" "number" "LookupError.__new__" (.type "LookupError" :: exT) D.open_
  num : Thr P w K mg base "NoNumber" "number" "LookupError.__new__" (.type "LookupError" :: exT) D.num
  nosrc : Thr P w K mg base "NotASource" "number" "TypeError.__new__" (.type "TypeError" :: exT) D.nosrc
  noset : Thr P w K mg base "NotASet" "number" "TypeError.__new__" (.type "TypeError" :: exT) D.noset
  full : Thr P w K mg base "Full" "process" "OverflowError.__new__" (.type "OverflowError" :: .type "ArithmeticError" :: exT) D.full
  noroom : ∃ (fI : Addr) (fdI : FuncData), NoRoomE K mg D.noroom fI fdI ∧ FnOk P w K mg base CX0 1 fI fdI ["self"] (spErr0 D.noroom)
  count : Thr P w K mg base "BadCount" "count" "ValueError.__new__" (.type "ValueError" :: exT) D.count
  label : Thr P w K mg base "BadLabel" "label" "ValueError.__new__" (.type "ValueError" :: exT) D.label
  word : Thr P w K mg base "BadWord" "word" "ValueError.__new__" (.type "ValueError" :: exT) D.word
  fin : Thr P w K mg base "Finished" "number" "RuntimeError.__new__" (.type "RuntimeError" :: exT) D.fin
  regd : Thr P w K mg base "Registered" "number" "RuntimeError.__new__" (.type "RuntimeError" :: exT) D.regd
  taken : Thr P w K mg base "Taken" "label" "RuntimeError.__new__" (.type "RuntimeError" :: exT) D.taken
  notreg : Thr P w K mg base "NotRegistered" "number" "LookupError.__new__" (.type "LookupError" :: exT) D.notreg
def Res {α : Type} (D : Es) (H : Hp) (E : XK) (r : Except Er α) (k : α → Prop) : Prop := match r with
  | .ok a => k a
  | .error e => e.out D H E
theorem res_ok {α : Type} {D : Es} {H : Hp} {E : XK} {r : Except Er α} {k : α → Prop} {a : α} (h : r = .ok a) (q : k a) : Res D H E r k := by
  subst h
  exact q
theorem res_err {α : Type} {D : Es} {H : Hp} {E : XK} {r : Except Er α} {k : α → Prop} {e : Er} (h : r = .error e) (q : e.out D H E) : Res D H E r k := by
  subst h
  exact q
/-! what a system is -/
structure WF (S : Sys) : Prop where
  P2 : 2 ≤ S.P
  P6 : S.P ≤ 6
  N3 : 3 ≤ S.N
  N8 : S.N ≤ 8
  pn : S.procs.Nodup
  pr : ∀ p ∈ S.procs, 0 ≤ p ∧ p < S.P
  tl : ∀ p ∈ S.procs, (S.tab p).length = S.N.toNat
  nx : ∀ p ∈ S.procs, ∀ t, some t ∈ S.tab p → t < S.next
  kd : ∀ t, (∃ p ∈ S.procs, some t ∈ S.tab p) ↔ (t ∈ S.srcs ∨ t ∈ S.sets)
  dj : ∀ t ∈ S.srcs, t ∉ S.sets
  sn : S.srcs.Nodup
  en : S.sets.Nodup
  un : ∀ t ∈ S.srcs, 0 ≤ (S.unit t).1
  ln : ∀ s ∈ S.sets, (S.ents s).Nodup
  lb : ∀ s ∈ S.sets, ∀ l ∈ S.ents s, 0 ≤ l ∧ l ≤ 999999
  rs : ∀ s ∈ S.sets, ∀ l ∈ S.ents s, (S.reg s l).src ∈ S.srcs
  rn : ∀ s ∈ S.sets, ∀ l ∈ S.ents s, 0 ≤ (S.reg s l).num ∧ (S.reg s l).num < S.N
  rw_ : ∀ s ∈ S.sets, ∀ l ∈ S.ents s, (S.reg s l).word ∈ wordsL
  ky : ∀ s ∈ S.sets, ∀ l ∈ S.ents s, ∀ j ∈ S.ents s, (S.reg s l).num = (S.reg s j).num → (S.reg s l).src = (S.reg s j).src → l = j
  qn : ∀ s ∈ S.sets, (S.que s).Nodup
  qe : ∀ s ∈ S.sets, ∀ l ∈ S.que s, l ∈ S.ents s
theorem nodup_len {α : Type} [DecidableEq α] : ∀ {l m : List α}, l.Nodup → (∀ x ∈ l, x ∈ m) → l.length ≤ m.length
  | [], _, _, _ => Nat.zero_le _
  | a :: l, m, nd, h => by
    obtain ⟨na, nl⟩ := List.nodup_cons.mp nd
    have ha := h a List.mem_cons_self
    have ih := nodup_len (m := m.erase a) nl fun x hx => (List.mem_erase_of_ne fun z : x = a => na (z ▸ hx)).mpr (h x (List.mem_cons_of_mem _ hx))
    rw [List.length_erase_of_mem ha] at ih
    have : 0 < m.length := List.length_pos_of_mem ha
    rw [List.length_cons]
    omega
theorem range_sub : ∀ (l : List Int) (N : Nat), l.Nodup → (∀ n ∈ l, 0 ≤ n ∧ n < (N : Int)) → l.length ≤ N := fun l N nd h => by
  have e : l.length = (l.map Int.toNat).length := (List.length_map ..).symm
  rw [e]
  have nd2 : (l.map Int.toNat).Nodup := by
    rw [List.nodup_iff_pairwise_ne] at nd ⊢
    rw [List.pairwise_map]
    exact List.Pairwise.imp_of_mem (fun ha hb ne z => ne (by have := h _ ha; have := h _ hb; omega)) nd
  have sub : ∀ x ∈ l.map Int.toNat, x ∈ List.range N := fun x hx => by
    obtain ⟨y, hy, rfl⟩ := List.mem_map.mp hx
    have := h y hy
    exact List.mem_range.mpr (by omega)
  have := nodup_len nd2 sub
  rw [List.length_range] at this
  exact this
theorem len_sub {l m : List Int} (nd : l.Nodup) (h : ∀ x ∈ l, x ∈ m) : l.length ≤ m.length := nodup_len nd h
/-- the things that stand in tables -/
def held (S : Sys) : List Int := S.procs.flatMap fun p => (S.tab p).filterMap id
theorem mem_held {S : Sys} {t : Int} : t ∈ held S ↔ ∃ p ∈ S.procs, some t ∈ S.tab p := by
  unfold held
  rw [List.mem_flatMap]
  constructor
  · rintro ⟨p, hp, h⟩
    obtain ⟨x, hx, e⟩ := List.mem_filterMap.mp h
    exact ⟨p, hp, by rw [← show x = some t from e]; exact hx⟩
  · rintro ⟨p, hp, h⟩
    exact ⟨p, hp, List.mem_filterMap.mpr ⟨some t, h, rfl⟩⟩
namespace WF
variable {S : Sys}
theorem pl (W : WF S) : S.procs.length ≤ 6 := range_sub S.procs 6 W.pn fun p hp => by
  have := W.pr p hp
  have := W.P6
  omega
theorem t8 (W : WF S) {p : Int} (hp : p ∈ S.procs) : (S.tab p).length ≤ 8 := by
  have := W.tl p hp
  have := W.N8
  omega
theorem held_len (W : WF S) : (held S).length ≤ 48 := by
  have go : ∀ l : List Int, (∀ p ∈ l, p ∈ S.procs) → (l.flatMap fun p => (S.tab p).filterMap id).length ≤ 8 * l.length := fun l => by
    induction l with
    | nil => exact fun _ => Nat.le_refl _
    | cons p l ih =>
      intro h
      have a := ih fun q hq => h q (List.mem_cons_of_mem _ hq)
      have b := W.t8 (h p List.mem_cons_self)
      have c : ((S.tab p).filterMap id).length ≤ (S.tab p).length := List.length_filterMap_le _ _
      rw [List.flatMap_cons, List.length_append, List.length_cons]
      omega
  have := go S.procs fun _ h => h
  have := W.pl
  unfold held
  omega
theorem srcs_len (W : WF S) : S.srcs.length ≤ 48 := Nat.le_trans (len_sub W.sn fun t ht => mem_held.mpr ((W.kd t).mpr (.inl ht))) W.held_len
theorem sets_len (W : WF S) : S.sets.length ≤ 48 := Nat.le_trans (len_sub W.en fun t ht => mem_held.mpr ((W.kd t).mpr (.inr ht))) W.held_len
theorem ents_len (W : WF S) {s : Int} (hs : s ∈ S.sets) : (S.ents s).length ≤ 384 := by
  have e : (S.ents s).length = ((S.ents s).map fun l => ((S.reg s l).num.toNat, (S.reg s l).src)).length := (List.length_map ..).symm
  rw [e]
  have nd : ((S.ents s).map fun l => ((S.reg s l).num.toNat, (S.reg s l).src)).Nodup := by
    have nd0 := W.ln s hs
    rw [List.nodup_iff_pairwise_ne] at nd0 ⊢
    rw [List.pairwise_map]
    refine List.Pairwise.imp_of_mem (fun {a b} ha hb ne z => ne (W.ky s hs a ha b hb ?_ ?_)) nd0
    · have h1 := (W.rn s hs a ha).1
      have h2 := (W.rn s hs b hb).1
      have := congrArg Prod.fst z
      have h3 : (S.reg s a).num.toNat = (S.reg s b).num.toNat := this
      omega
    · exact congrArg Prod.snd z
  have sub : ∀ x ∈ (S.ents s).map fun l => ((S.reg s l).num.toNat, (S.reg s l).src), x ∈ (List.range 8).flatMap fun n => S.srcs.map fun t => (n, t) := fun x hx => by
    obtain ⟨l, hl, rfl⟩ := List.mem_map.mp hx
    have h1 := W.rn s hs l hl
    have h2 := W.N8
    exact List.mem_flatMap.mpr ⟨_, List.mem_range.mpr (by omega), List.mem_map.mpr ⟨_, W.rs s hs l hl, rfl⟩⟩
  have h := nodup_len nd sub
  have h3 : ((List.range 8).flatMap fun n => S.srcs.map fun t => (n, t)).length = 8 * S.srcs.length := by
    rw [List.length_flatMap]
    simp only [List.length_map]
    rw [List.map_const', List.sum_replicate_nat, List.length_range]
  have := W.srcs_len
  omega
theorem que_len (W : WF S) {s : Int} (hs : s ∈ S.sets) : (S.que s).length ≤ 384 := Nat.le_trans (len_sub (W.qn s hs) (W.qe s hs)) (W.ents_len hs)
theorem small (W : WF S) : Small S := ⟨fun s hs => Nat.le_trans (W.que_len hs) (by decide), fun s hs => Nat.le_trans (W.ents_len hs) (by decide), Nat.le_trans W.srcs_len (by decide), Nat.le_trans W.sets_len (by decide), W.en⟩
theorem tidy (W : WF S) : Tidy S := ⟨W.small, W.ln⟩
theorem next_out (W : WF S) : S.next ∉ S.srcs ∧ S.next ∉ S.sets := by
  refine ⟨fun h => ?_, fun h => ?_⟩
  · obtain ⟨p, hp, h2⟩ := (W.kd _).mpr (.inl h)
    have := W.nx p hp _ h2
    omega
  · obtain ⟨p, hp, h2⟩ := (W.kd _).mpr (.inr h)
    have := W.nx p hp _ h2
    omega
theorem kind (W : WF S) {p n t : Int} (M : Means S p n t) : t ∈ S.srcs ∨ t ∈ S.sets := (W.kd t).mp ⟨p, M.pr, List.mem_of_getElem? M.at_⟩
end WF
/-! what a process number and a number say -/
def tabOf (S : Sys) (p : V) : Except Er Int := match p with
  | .int i => if i ∈ S.procs then .ok i else .error (.proc (.int i))
  | v => .error (.proc v)
def numAt (S : Sys) (q : Int) (n : V) : Except Er Int := match n with
  | .int j => if 0 ≤ j ∧ j ≤ S.N - 1 then (match (S.tab q)[j.toNat]? with
    | some (some t) => .ok t
    | _ => .error (.open_ (.int j))) else .error (.open_ (.int j))
  | v => .error (.open_ v)
def thing (S : Sys) (p n : V) : Except Er Int := match tabOf S p with
  | .ok q => numAt S q n
  | .error e => .error e
def source (S : Sys) (p n : V) : Except Er Int := match thing S p n with
  | .ok t => if t ∈ S.srcs then .ok t else .error (.nosrc n)
  | .error e => .error e
def setOf (S : Sys) (p n : V) : Except Er Int := match thing S p n with
  | .ok t => if t ∈ S.sets then .ok t else .error (.noset n)
  | .error e => .error e
theorem tabOf_ok {S : Sys} {p : V} {q : Int} (h : tabOf S p = .ok q) : p = .int q ∧ q ∈ S.procs := by
  unfold tabOf at h
  split at h
  · split at h
    · cases h
      exact ⟨rfl, by assumption⟩
    · cases h
  · cases h
theorem tabOf_of {S : Sys} {q : Int} (h : q ∈ S.procs) : tabOf S (.int q) = .ok q := if_pos h
theorem numAt_ok {S : Sys} {q : Int} {n : V} {t : Int} (h : numAt S q n = .ok t) : ∃ j, n = .int j ∧ 0 ≤ j ∧ j ≤ S.N - 1 ∧ (S.tab q)[j.toNat]? = some (some t) := by
  unfold numAt at h
  split at h
  · rename_i j
    split at h
    · rename_i hj
      split at h
      · rename_i t' e
        cases h
        exact ⟨j, rfl, hj.1, hj.2, e⟩
      · cases h
    · cases h
  · cases h
theorem thing_ok {S : Sys} {p n : V} {t : Int} (h : thing S p n = .ok t) : ∃ i j, p = .int i ∧ n = .int j ∧ Means S i j t := by
  unfold thing at h
  split at h
  · rename_i q hq
    obtain ⟨e1, hp⟩ := tabOf_ok hq
    obtain ⟨j, e2, h1, h2, h3⟩ := numAt_ok h
    exact ⟨q, j, e1, e2, hp, h1, h2, h3⟩
  · cases h
theorem thing_of {S : Sys} {i j t : Int} (M : Means S i j t) : thing S (.int i) (.int j) = .ok t := by
  unfold thing
  rw [tabOf_of M.pr]
  show (if 0 ≤ j ∧ j ≤ S.N - 1 then _ else _) = _
  rw [if_pos ⟨M.lo, M.hi⟩, M.at_]
theorem source_ok {S : Sys} {p n : V} {t : Int} (h : source S p n = .ok t) : (∃ i j, p = .int i ∧ n = .int j ∧ Means S i j t) ∧ t ∈ S.srcs := by
  unfold source at h
  split at h
  · split at h
    · rename_i u hu ht
      cases h
      exact ⟨thing_ok hu, ht⟩
    · cases h
  · cases h
theorem source_of {S : Sys} {i j t : Int} (M : Means S i j t) (h : t ∈ S.srcs) : source S (.int i) (.int j) = .ok t := by
  unfold source
  rw [thing_of M]
  exact if_pos h
theorem setOf_ok {S : Sys} {p n : V} {t : Int} (h : setOf S p n = .ok t) : (∃ i j, p = .int i ∧ n = .int j ∧ Means S i j t) ∧ t ∈ S.sets := by
  unfold setOf at h
  split at h
  · split at h
    · rename_i u hu ht
      cases h
      exact ⟨thing_ok hu, ht⟩
    · cases h
  · cases h
theorem setOf_of {S : Sys} {i j t : Int} (M : Means S i j t) (h : t ∈ S.sets) : setOf S (.int i) (.int j) = .ok t := by
  unfold setOf
  rw [thing_of M]
  exact if_pos h
/-! checks of any object -/
section
variable {P : Program} {w : World} {K : PySem.W.Frag} {mg : Str → Option Value} {base : Heap} {C : Cs} {D : Es}
def spIntX : Sp := fun vs H Q _ => ∃ x : V, vs = [x] ∧ Ob H x ∧ Q (.bl (isI x)) H
theorem okIntX {f : Addr} {fd : FuncData} (F : Fun K "is_integer" "is_integer" sIsInteger f fd) (T : ChkTxt K mg) : FnOk P w K mg base CX0 1 f fd ["x"] spIntX := by
  refine F.ok scIsInteger (fun vs H Q E h => ?_) (fun cdv A outer s H vs Q E hr h => ?_)
  · obtain ⟨x, rfl, _⟩ := h
    rfl
  · obtain ⟨x, rfl, ob, k⟩ := h
    refine ⟨_, pss_one (ps_ret (pe_and (pe_callB call_isi (by rfl) T.isin PyProof.Rows.boot_isinstance (pa_cons (pv 0) (pa_cons (pe_bltn (v := .ty "int") (by rfl) T.int PyProof.Rows.boot_int rfl) pa_nil))) (pe_one (pe_not (pe_callB call_isi (by rfl) T.isin PyProof.Rows.boot_isinstance (pa_cons (pv 0) (pa_cons (pe_bltn (v := .ty "bool") (by rfl) T.bool (by decide +kernel) rfl) pa_nil))))))), ?_⟩
    cases ob with
    | int i =>
      refine ⟨_, rfl, _, _, _, _, true, rfl, .ty "int", .base (.int i), kit_ty (by decide +kernel), ?_⟩
      refine ⟨_, rfl, _, rfl, _, _, _, _, false, rfl, .ty "bool", .base (.int i), kit_ty (by decide +kernel), ?_⟩
      exact ⟨_, rfl, k⟩
    | bl b =>
      refine ⟨_, rfl, _, _, _, _, true, rfl, .ty "int", .base (.bl b), kit_ty (by decide +kernel), ?_⟩
      refine ⟨_, rfl, _, rfl, _, _, _, _, true, rfl, .ty "bool", .base (.bl b), kit_ty (by decide +kernel), ?_⟩
      exact ⟨_, rfl, k⟩
    | non =>
      refine ⟨_, rfl, _, _, _, _, false, rfl, .ty "int", .base .non, kit_ty (by decide +kernel), ?_⟩
      exact ⟨_, rfl, k⟩
    | str y =>
      refine ⟨_, rfl, _, _, _, _, false, rfl, .ty "int", .base (.str y), kit_ty (by decide +kernel), ?_⟩
      exact ⟨_, rfl, k⟩
    | tup a xs ha =>
      refine ⟨_, rfl, _, _, _, _, false, rfl, .ty "int", .base (.tup ha), kit_ty (by decide +kernel), ?_⟩
      exact ⟨_, rfl, k⟩
    | lst a xs ha =>
      refine ⟨_, rfl, _, _, _, _, false, rfl, .ty "int", .base (.lst ha), kit_ty (by decide +kernel), ?_⟩
      exact ⟨_, rfl, k⟩
def spBetX : Sp := fun vs H Q _ => ∃ (x : V) (a b : Int), vs = [x, .int a, .int b] ∧ Ob H x ∧ Q (.bl (inB x a b)) H
theorem okBetX {f fI : Addr} {fd fdI : FuncData} (F : Fun K "is_between" "is_between" sIsBetween f fd) (GI : DO P w K mg base 1 "is_integer" ["x"] spIntX fI fdI) :
    FnOk P w K mg base CX0 2 f fd ["x", "least", "most"] spBetX := by
  refine F.ok scIsBetween (fun vs H Q E h => ?_) (fun cdv A outer s H vs Q E hr h => ?_)
  · obtain ⟨x, y, z, rfl, _⟩ := h
    rfl
  · obtain ⟨x, a, b, rfl, ob, k⟩ := h
    refine ⟨_, pss_one (ps_ret (pe_and (pe_call GI.g hr (by rfl) GI.m GI.k GI.b .nil pass0 (pa_cons (pv 0) pa_nil)) (pe_one (pe_chain op_le op_le (pv 1) (pv 0) (pv 2))))), ?_⟩
    walk_at "wn"
    refine ⟨x, rfl, ob, ?_⟩
    walk_at "wn"
    by_cases hi : ∃ i, x = .int i
    · obtain ⟨i, rfl⟩ := hi
      refine ⟨_, rfl, _, rfl, a, i, rfl, rfl, _, rfl, ?_⟩
      have k : Q (.bl (decide (a ≤ i) && decide (i ≤ b))) H := k
      refine ite2 (fun hc => ?_) (fun hc => ?_)
      · rw [hc, Bool.true_and] at k
        exact ⟨_, rfl, i, b, rfl, rfl, k⟩
      · rw [Bool.eq_false_iff.mpr hc, Bool.false_and] at k
        exact k
    · have e : isI x = false := by cases x <;> first | rfl | exact absurd ⟨_, rfl⟩ hi
      have e2 : inB x a b = false := by cases x <;> first | rfl | exact absurd ⟨_, rfl⟩ hi
      rw [e2] at k
      rw [e]
      exact k
def spCountX : Sp := fun vs H Q _ => ∃ x : V, vs = [x] ∧ Ob H x ∧ Q (.bl (inB x 1 1000000)) H
theorem okCountX {f fB : Addr} {fd fdB : FuncData} (F : Fun K "is_count" "is_count" sIsCount f fd) (T : ChkTxt K mg) (GB : DO P w K mg base 2 "is_between" ["x", "least", "most"] spBetX fB fdB) :
    FnOk P w K mg base CX0 3 f fd ["x"] spCountX := by
  refine F.ok scIsCount (fun vs H Q E h => ?_) (fun cdv A outer s H vs Q E hr h => ?_)
  · obtain ⟨x, rfl, _⟩ := h
    rfl
  · obtain ⟨i, rfl, ob, k⟩ := h
    obtain ⟨t, ht⟩ := T.count
    refine ⟨_, pss_one (ps_ret (pe_call GB.g hr (by rfl) GB.m GB.k GB.b .nil pass0 (pa_cons (pv 0) (pa_cons pe_int (pa_cons (pe_glob (v := .int 1000000) (by rfl) ht ⟨_, rfl⟩) pa_nil))))), ?_⟩
    walk_at "wn"
    exact ⟨i, 1, 1000000, rfl, ob, k⟩
def spLabelX : Sp := fun vs H Q _ => ∃ x : V, vs = [x] ∧ Ob H x ∧ Q (.bl (inB x 0 999999)) H
theorem okLabelX {f fB : Addr} {fd fdB : FuncData} (F : Fun K "is_label" "is_label" sIsLabel f fd) (T : ChkTxt K mg) (GB : DO P w K mg base 2 "is_between" ["x", "least", "most"] spBetX fB fdB) :
    FnOk P w K mg base CX0 3 f fd ["x"] spLabelX := by
  refine F.ok scIsLabel (fun vs H Q E h => ?_) (fun cdv A outer s H vs Q E hr h => ?_)
  · obtain ⟨x, rfl, _⟩ := h
    rfl
  · obtain ⟨i, rfl, ob, k⟩ := h
    obtain ⟨t, ht⟩ := T.label
    refine ⟨_, pss_one (ps_ret (pe_call GB.g hr (by rfl) GB.m GB.k GB.b .nil pass0 (pa_cons (pv 0) (pa_cons pe_int (pa_cons (pe_glob (v := .int 999999) (by rfl) ht ⟨_, rfl⟩) pa_nil))))), ?_⟩
    walk_at "wn"
    exact ⟨i, 0, 999999, rfl, ob, k⟩
def isW (x : V) : Bool := inV x [.str "level", .str "edge", .str "once"]
/-- what a word may be asked of: no object of the heap -/
def NoRef (x : V) : Prop := ∀ a, x ≠ .ref a
def spWordX : Sp := fun vs H Q _ => ∃ x : V, vs = [x] ∧ flatV x = true ∧ Q (.bl (isW x)) H
theorem okWordX {f : Addr} {fd : FuncData} (F : Fun K "is_word" "is_word" sIsWord f fd) (T : ChkTxt K mg) : FnOk P w K mg base CX0 1 f fd ["x"] spWordX := by
  refine F.ok scIsWord (fun vs H Q E h => ?_) (fun cdv A outer s H vs Q E hr h => ?_)
  · obtain ⟨x, rfl, _⟩ := h
    rfl
  · obtain ⟨x, rfl, hx, k⟩ := h
    obtain ⟨aW, gW, sW⟩ := T.words
    refine ⟨_, pss_one (ps_ret (pe_cmpR op_in_seq (pv 0) (pe_glob (v := .ref aW) (by rfl) gW rfl) (by rfl))), ?_⟩
    walk_at "wn"
    exact ⟨aW, _, rfl, .inr (sW _), hx, by decide, k⟩
/-! numbers of processes, numbers, things -/
def inP (S : Sys) : V → Bool
  | .int p => decide (p ∈ S.procs)
  | _ => false
def spContX (C : Cs) : Sp := fun vs H Q _ => ∃ x : V, OnSys C vs H [x] fun S _ _ => Ob H x ∧ Q (.bl (inP S x)) H
theorem okContX {f fI : Addr} {fd fdI : FuncData} (F : Fun K "__contains__" "System.__contains__" sContains f fd) (T : ClsF K C.S sysF) (GI : DO P w K mg base 1 "is_integer" ["x"] spIntX fI fdI) : FnOk P w K mg base CX0 2 f fd ["self", "x"] (spContX C) := by
  refine F.ok scContains (fun vs H Q E h => ?_) (fun cdv A outer s H vs Q E hr h => ?_)
  · obtain ⟨_, _, _, _, rfl, _⟩ := h
    rfl
  · obtain ⟨x, S, ad, dx, rfl, A0, ob, k⟩ := h
    have hu := hu_of hr
    refine ⟨_, pss_one (ps_ret (pe_and (pe_call GI.g hr (by rfl) GI.m GI.k GI.b .nil pass0 (pa_cons (pv 1) pa_nil)) (pe_one (pe_cmp (pc_din hu (pv 1) (pe_fld (pv 0) rfl)) rfl)))), ?_⟩
    walk_at "wn"
    refine ⟨x, rfl, ob, ?_⟩
    by_cases hi : ∃ p, x = .int p
    · obtain ⟨p, rfl⟩ := hi
      refine g_bl ?_
      refine iteT ?_
      refine ⟨_, rfl, _, rfl, ad .box, C.S, dx .box, _, _, rfl, A0.at_ .box trivial, T.cl, T.no _ (by decide), rfl, ?_⟩
      refine ⟨ad .tabD, _, rfl, DGet.k (k := Sum.inl p) (A0.at_ .tabD trivial), ?_⟩
      rw [ent_val]
      have k : Q (.bl (decide (p ∈ S.procs))) H := k
      by_cases hp : p ∈ S.procs
      · rw [if_pos hp]
        rw [decide_eq_true hp] at k
        exact k
      · rw [if_neg hp]
        rw [decide_eq_false hp] at k
        exact k
    · have e : isI x = false := by cases x <;> first | rfl | exact absurd ⟨_, rfl⟩ hi
      have e2 : inP S x = false := by cases x <;> first | rfl | exact absurd ⟨_, rfl⟩ hi
      rw [e2] at k
      rw [e]
      refine g_bl ?_
      exact iteF k
/-- a method that may raise -/
structure MX (P : Program) (w : World) (K : PySem.W.Frag) (mg : Str → Option Value) (base : Heap) (k : Nat) (C : Addr) (m : Str) (ps : List Str) (sp : Sp) (f : Addr) (fd : FuncData) : Prop where
  g : FnOk P w K mg base (L2.CX P w) k f fd ps sp
  m : Meth K C m f
  b : Binds K fd ps []
theorem inP_tab {S : Sys} {x : V} : (inP S x = true ∧ ∃ q, x = .int q ∧ q ∈ S.procs ∧ tabOf S x = .ok q) ∨ (inP S x = false ∧ tabOf S x = .error (.proc x)) := by
  by_cases hi : ∃ p, x = .int p
  · obtain ⟨p, rfl⟩ := hi
    by_cases hp : p ∈ S.procs
    · exact .inl ⟨decide_eq_true hp, p, rfl, hp, if_pos hp⟩
    · exact .inr ⟨decide_eq_false hp, if_neg hp⟩
  · exact .inr ⟨by cases x <;> first | rfl | exact absurd ⟨_, rfl⟩ hi, by cases x <;> first | rfl | exact absurd ⟨_, rfl⟩ hi⟩
def spTabX (C : Cs) (D : Es) : Sp := fun vs H Q E => ∃ p : V, OnSys C vs H [p] fun S ad _ => Flat H p ∧ Res D H E (tabOf S p) fun q => Q (.ref (ad (.tab q))) H
theorem okTabX {f fC : Addr} {fd fdC : FuncData} (F : Fun K "table_of" "System.table_of" sTableOf f fd) (T : ClsF K C.S sysF) (X : ErTx P w K mg base D) (GC : MO P w K mg base 2 C.S "__contains__" ["self", "x"] (spContX C) fC fdC) : FnOk P w K mg base (L2.CX P w) 3 f fd ["self", "process"] (spTabX C D) := by
  refine F.okX scTableOf (fun vs H Q E h => ?_) (fun cdv A outer s H vs Q E hr h => ?_)
  · obtain ⟨_, _, _, _, rfl, _⟩ := h
    rfl
  · obtain ⟨p, S, ad, dx, rfl, A0, fl, k⟩ := h
    have hu := hu_of hr
    refine ⟨_, pss_cons (ps_if (pt_cmpR (op_ownNotIn GC.g hr GC.m.at_ GC.m.fn GC.b pass0) (pv 1) (pv 0) (by rfl)) (pss_one (ps_thr X.proc bxLookup (takes_of rfl rfl rfl rfl) hr (pv 1))) pss_nil)
      (pss_one (ps_ret (pe_dget hu (pe_fld (pv 0) rfl) (pv 1) (fun _ _ => rfl)))), ?_⟩
    walk_at "wn"
    refine ⟨ad .box, dx .box, _, rfl, A0.at_ .box trivial, p, S, ad, dx, rfl, A0, fl.ob, _, rfl, ?_⟩
    rcases inP_tab (S := S) (x := p) with ⟨e1, q, rfl, hq, e2⟩ | ⟨e1, e2⟩
    · rw [e1]
      rw [e2] at k
      walk_at "wn"
      refine ⟨_, rfl, ad .box, C.S, dx .box, _, _, rfl, A0.at_ .box trivial, T.cl, T.no _ (by decide), rfl, ?_⟩
      have hv : valV (entKV S.procs fun p => ad (.tab p)) (Sum.inl q) = some (.ref (ad (.tab q))) := by rw [ent_val, if_pos hq]
      exact ⟨_, rfl, ad .tabD, _, rfl, hv ▸ DGet.k (k := Sum.inl q) (A0.at_ .tabD trivial), k⟩
    · rw [e1]
      rw [e2] at k
      walk_at "wn"
      exact g_thr rfl fl k
def spNumX (C : Cs) : Sp := fun vs H Q _ => ∃ n : V, OnSys C vs H [n] fun S _ _ => Ob H n ∧ Q (.bl (inB n 0 (S.N - 1))) H
theorem okNumX {f fB : Addr} {fd fdB : FuncData} (F : Fun K "is_table_number" "System.is_table_number" sIsTabNum f fd) (T : ClsF K C.S sysF) (GB : DO P w K mg base 2 "is_between" ["x", "least", "most"] spBetX fB fdB) : FnOk P w K mg base CX0 3 f fd ["self", "number"] (spNumX C) := by
  refine F.ok scIsTabNum (fun vs H Q E h => ?_) (fun cdv A outer s H vs Q E hr h => ?_)
  · obtain ⟨_, _, _, _, rfl, _⟩ := h
    rfl
  · obtain ⟨n, S, ad, dx, rfl, A0, ob, k⟩ := h
    refine ⟨_, pss_one (ps_ret (pe_call GB.g hr (by rfl) GB.m GB.k GB.b .nil pass0 (pa_cons (pv 1) (pa_cons pe_int (pa_cons (pe_op op_sub (pe_fld (pv 0) rfl) pe_int) pa_nil))))), ?_⟩
    walk_at "wn"
    refine ⟨_, rfl, ad .box, C.S, dx .box, _, _, rfl, A0.at_ .box trivial, T.cl, T.no _ (by decide), rfl, ?_⟩
    walk_at "wn"
    exact ⟨n, 0, S.N - 1, rfl, ob, k⟩
theorem num_at {S : Sys} {q : Int} {x : V} (tl : (S.tab q).length = S.N.toNat) : (∃ (j : Int) (m : Nat) (y : Option Int), x = .int j ∧ j = (m : Int) ∧ inB x 0 (S.N - 1) = true ∧ (S.tab q)[m]? = some y ∧ numAt S q x = match y with | some t => .ok t | none => .error (.open_ x)) ∨ (inB x 0 (S.N - 1) = false ∧ numAt S q x = .error (.open_ x)) := by
  by_cases hi : ∃ p, x = .int p
  · obtain ⟨j, rfl⟩ := hi
    by_cases hj : 0 ≤ j ∧ j ≤ S.N - 1
    · obtain ⟨m, rfl⟩ := Int.eq_ofNat_of_zero_le hj.1
      have hl : m < (S.tab q).length := by omega
      refine .inl ⟨_, m, (S.tab q)[m], rfl, rfl, ?_, List.getElem?_eq_getElem hl, ?_⟩
      · show (decide (0 ≤ (m : Int)) && decide ((m : Int) ≤ S.N - 1)) = true
        rw [decide_eq_true hj.1, decide_eq_true hj.2]
        rfl
      · show (if 0 ≤ (m : Int) ∧ (m : Int) ≤ S.N - 1 then _ else _) = _
        rw [if_pos hj, Int.toNat_natCast, List.getElem?_eq_getElem hl]
        cases (S.tab q)[m] <;> rfl
    · refine .inr ⟨?_, if_neg hj⟩
      show (decide (0 ≤ j) && decide (j ≤ S.N - 1)) = false
      by_cases h0 : 0 ≤ j
      · rw [decide_eq_false (fun z => hj ⟨h0, z⟩), Bool.and_false]
      · rw [decide_eq_false h0, Bool.false_and]
  · exact .inr ⟨by cases x <;> first | rfl | exact absurd ⟨_, rfl⟩ hi, by cases x <;> first | rfl | exact absurd ⟨_, rfl⟩ hi⟩
def spThingX (C : Cs) (D : Es) : Sp := fun vs H Q E => ∃ p n : V, OnSys C vs H [p, n] fun S _ _ => WF S ∧ Flat H p ∧ Flat H n ∧ Res D H E (thing S p n) fun t => Q (.int t) H
theorem okThingX {f fT fN : Addr} {fd fdT fdN : FuncData} (F : Fun K "thing_at" "System.thing_at" sThingAt f fd) (T : ClsF K C.S sysF) (X : ErTx P w K mg base D) (GT : MX P w K mg base 3 C.S "table_of" ["self", "process"] (spTabX C D) fT fdT) (GN : MO P w K mg base 3 C.S "is_table_number" ["self", "number"] (spNumX C) fN fdN) :
    FnOk P w K mg base (L2.CX P w) 4 f fd ["self", "process", "number"] (spThingX C D) := by
  refine F.okX scThingAt (fun vs H Q E h => ?_) (fun cdv A outer s H vs Q E hr h => ?_)
  · obtain ⟨_, _, _, _, _, rfl, _⟩ := h
    rfl
  · obtain ⟨p, n, S, ad, dx, rfl, A0, W, fp, fn, k⟩ := h
    refine ⟨_, pss_cons (ps_set (i := 3) scThingAt.nd rfl (Or.inl rfl) (pe_meth (pv 0) T.cl GT.m GT.g hr GT.b .nil (passX (takes_of rfl rfl rfl rfl)) (pa_cons (pv 1) pa_nil)))
      (pss_cons (ps_if (PW.pt (pw_or (pt_not (pt_val (pe_meth (pv 0) T.cl GN.m GN.g hr GN.b .nil pass0 (pa_cons (pv 2) pa_nil)))) (pw_or1 (pt_cmpR oIsN (pe_ix ix_list (pv 3) (pv 2) (fun _ _ => rfl)) pe_non (nomark _))))) (pss_one (ps_thr X.open_ bxLookup (takes_of rfl rfl rfl rfl) (hr.mono (by decide)) (pv 2))) pss_nil)
      (pss_one (ps_ret (pe_ix ix_list (pv 3) (pv 2) (fun _ _ => rfl))))), ?_⟩
    have hb := A0.at_ .box trivial
    walk_at "wn"
    refine ⟨_, rfl, ad .box, dx .box, _, rfl, hb, rfl, ?_⟩
    walk_at "wn"
    refine ⟨p, S, ad, dx, rfl, A0, fp, ?_⟩
    unfold thing at k
    cases et : tabOf S p with
    | error e =>
      rw [et] at k
      exact k
    | ok q =>
      rw [et] at k
      have k : Res D H E (numAt S q n) fun t => Q (.int t) H := k
      obtain ⟨rfl, hq⟩ := tabOf_ok et
      have ht := A0.at_ (.tab q) hq
      refine res_ok rfl ?_
      walk_at "wn"
      refine ⟨_, rfl, ad .box, dx .box, _, rfl, hb, rfl, ?_⟩
      walk_at "wn"
      refine ⟨n, S, ad, dx, rfl, A0, fn.ob, ?_⟩
      rcases num_at (q := q) (x := n) (W.tl q hq) with ⟨j, m, y, rfl, rfl, e1, e2, e3⟩ | ⟨e1, e3⟩
      · rw [e1]
        rw [e3] at k
        have hat : atI ((S.tab q).map optV) (m : Int) = some (optV y) := atI_nat (by rw [List.getElem?_map, e2]; rfl)
        refine ⟨_, rfl, ?_⟩
        walk_at "wn"
        refine ⟨ad (.tab q), _, (m : Int), _, rfl, rfl, SqL.of ht, hat, ?_⟩
        walk_at "wn"
        cases y with
        | none =>
          rw [decide_eq_true (show optV none = V.non from rfl)]
          walk_at "wn"
          exact g_thr rfl fn k
        | some t =>
          rw [decide_eq_false (show ¬ optV (some t) = V.non from fun z => nomatch z)]
          walk_at "wn"
          exact ⟨ad (.tab q), _, (m : Int), _, rfl, rfl, SqL.of ht, hat, k⟩
      · rw [e1]
        rw [e3] at k
        refine ⟨_, rfl, ?_⟩
        walk_at "wn"
        exact g_thr rfl fn k
def spSourceX (C : Cs) (D : Es) : Sp := fun vs H Q E => ∃ p n : V, OnSys C vs H [p, n] fun S _ _ => WF S ∧ Flat H p ∧ Flat H n ∧ Res D H E (source S p n) fun t => Q (.int t) H
theorem okSourceX {f fT : Addr} {fd fdT : FuncData} (F : Fun K "source_at" "System.source_at" sSourceAt f fd) (T : ClsF K C.S sysF) (X : ErTx P w K mg base D) (GT : MX P w K mg base 4 C.S "thing_at" ["self", "process", "number"] (spThingX C D) fT fdT) :
    FnOk P w K mg base (L2.CX P w) 5 f fd ["self", "process", "number"] (spSourceX C D) := by
  refine F.okX scSourceAt (fun vs H Q E h => ?_) (fun cdv A outer s H vs Q E hr h => ?_)
  · obtain ⟨_, _, _, _, _, rfl, _⟩ := h
    rfl
  · obtain ⟨p, n, S, ad, dx, rfl, A0, W, fp, fn, k⟩ := h
    have hu := hu_of hr
    refine ⟨_, pss_cons (ps_set (i := 3) scSourceAt.nd rfl (Or.inl rfl) (pe_meth (pv 0) T.cl GT.m GT.g hr GT.b .nil (passX (takes_of rfl rfl rfl rfl)) (pa_cons (pv 1) (pa_cons (pv 2) pa_nil))))
      (pss_cons (ps_if (pt_cmp (pc_dnotin hu (pv 3) (pe_fld (pv 0) rfl)) rfl) (pss_one (ps_thr X.nosrc bxType (takes_of rfl rfl rfl rfl) (hr.mono (by decide)) (pv 2))) pss_nil)
      (pss_one (ps_ret (pv 3)))), ?_⟩
    have hb := A0.at_ .box trivial
    walk_at "wn"
    refine ⟨_, rfl, ad .box, dx .box, _, rfl, hb, rfl, ?_⟩
    walk_at "wn"
    refine ⟨p, n, S, ad, dx, rfl, A0, W, fp, fn, ?_⟩
    unfold source at k
    cases et : thing S p n with
    | error e =>
      rw [et] at k
      exact k
    | ok t =>
      rw [et] at k
      have k : Res D H E (if t ∈ S.srcs then .ok t else .error (.nosrc n)) fun t => Q (.int t) H := k
      refine res_ok rfl ?_
      walk_at "wn"
      refine ⟨_, rfl, _, rfl, ad .box, C.S, dx .box, _, _, rfl, hb, T.cl, T.no _ (by decide), rfl, ?_⟩
      refine ⟨ad .srcD, _, rfl, DGet.k (k := Sum.inl t) (A0.at_ .srcD trivial), ?_⟩
      rw [ent_val]
      by_cases ht : t ∈ S.srcs
      · rw [if_pos ht] at k ⊢
        refine ⟨_, rfl, ?_⟩
        show if false = true then _ else _
        walk_at "wn"
        exact k
      · rw [if_neg ht] at k ⊢
        refine ⟨_, rfl, ?_⟩
        show if true = true then _ else _
        walk_at "wn"
        exact g_thr rfl fn k
def spSetX (C : Cs) (D : Es) : Sp := fun vs H Q E => ∃ p n : V, OnSys C vs H [p, n] fun S ad _ => WF S ∧ Flat H p ∧ Flat H n ∧ Res D H E (setOf S p n) fun t => Q (.ref (ad (.ws t))) H
theorem okSetX {f fT : Addr} {fd fdT : FuncData} (F : Fun K "set_at" "System.set_at" sSetAt f fd) (T : ClsF K C.S sysF) (X : ErTx P w K mg base D) (GT : MX P w K mg base 4 C.S "thing_at" ["self", "process", "number"] (spThingX C D) fT fdT) :
    FnOk P w K mg base (L2.CX P w) 5 f fd ["self", "process", "set_number"] (spSetX C D) := by
  refine F.okX scSetAt (fun vs H Q E h => ?_) (fun cdv A outer s H vs Q E hr h => ?_)
  · obtain ⟨_, _, _, _, _, rfl, _⟩ := h
    rfl
  · obtain ⟨p, n, S, ad, dx, rfl, A0, W, fp, fn, k⟩ := h
    have hu := hu_of hr
    refine ⟨_, pss_cons (ps_set (i := 3) scSetAt.nd rfl (Or.inl rfl) (pe_meth (pv 0) T.cl GT.m GT.g hr GT.b .nil (passX (takes_of rfl rfl rfl rfl)) (pa_cons (pv 1) (pa_cons (pv 2) pa_nil))))
      (pss_cons (ps_if (pt_cmp (pc_dnotin hu (pv 3) (pe_fld (pv 0) rfl)) rfl) (pss_one (ps_thr X.noset bxType (takes_of rfl rfl rfl rfl) (hr.mono (by decide)) (pv 2))) pss_nil)
      (pss_one (ps_ret (pe_dget hu (pe_fld (pv 0) rfl) (pv 3) (fun _ _ => rfl))))), ?_⟩
    have hb := A0.at_ .box trivial
    walk_at "wn"
    refine ⟨_, rfl, ad .box, dx .box, _, rfl, hb, rfl, ?_⟩
    walk_at "wn"
    refine ⟨p, n, S, ad, dx, rfl, A0, W, fp, fn, ?_⟩
    unfold setOf at k
    cases et : thing S p n with
    | error e =>
      rw [et] at k
      exact k
    | ok t =>
      rw [et] at k
      have k : Res D H E (if t ∈ S.sets then .ok t else .error (.noset n)) fun t => Q (.ref (ad (.ws t))) H := k
      refine res_ok rfl ?_
      walk_at "wn"
      refine ⟨_, rfl, _, rfl, ad .box, C.S, dx .box, _, _, rfl, hb, T.cl, T.no _ (by decide), rfl, ?_⟩
      refine ⟨ad .setD, _, rfl, DGet.k (k := Sum.inl t) (A0.at_ .setD trivial), ?_⟩
      rw [ent_val]
      by_cases ht : t ∈ S.sets
      · rw [if_pos ht] at k ⊢
        refine ⟨_, rfl, ?_⟩
        show if false = true then _ else _
        walk_at "wn"
        refine ⟨_, rfl, ad .box, C.S, dx .box, _, _, rfl, hb, T.cl, T.no _ (by decide), rfl, ?_⟩
        have hv : valV (entKV S.sets fun s => ad (.ws s)) (Sum.inl t) = some (.ref (ad (.ws t))) := by rw [ent_val, if_pos ht]
        exact ⟨_, rfl, ad .setD, _, rfl, hv ▸ DGet.k (k := Sum.inl t) (A0.at_ .setD trivial), k⟩
      · rw [if_neg ht] at k ⊢
        refine ⟨_, rfl, ?_⟩
        show if true = true then _ else _
        walk_at "wn"
        exact g_thr rfl fn k
end

/-! the lowest free number -/
def firstN : List (Option Int) → Option Nat
  | [] => none
  | none :: _ => some 0
  | some _ :: l => (firstN l).map (· + 1)
def Ful (t : List (Option Int)) : Prop := ∀ i, i < t.length → ∃ x, t[i]? = some (some x)
theorem firstN_some : ∀ {l : List (Option Int)} {n : Nat}, firstN l = some n → firstFree l n
  | [], _, h => by cases h
  | none :: l, n, h => by
    cases h
    exact ⟨rfl, fun i hi => absurd hi (Nat.not_lt_zero _)⟩
  | some x :: l, n, h => by
    obtain ⟨m, hm, rfl⟩ := Option.map_eq_some_iff.mp (show (firstN l).map (· + 1) = some n from h)
    obtain ⟨a, b⟩ := firstN_some hm
    refine ⟨a, fun i hi => ?_⟩
    cases i with
    | zero => exact ⟨x, rfl⟩
    | succ i => exact b i (by omega)
theorem firstN_none : ∀ {l : List (Option Int)}, firstN l = none → Ful l
  | [], _, i, hi => absurd hi (Nat.not_lt_zero _)
  | none :: l, h, _, _ => by cases h
  | some x :: l, h, i, hi => by
    have h : (firstN l).map (· + 1) = none := h
    cases i with
    | zero => exact ⟨x, rfl⟩
    | succ i => exact firstN_none (Option.map_eq_none_iff.mp h) i (Nat.lt_of_succ_lt_succ hi)
theorem firstFree_uniq {l : List (Option Int)} {m n : Nat} (a : firstFree l m) (b : firstFree l n) : m = n := by
  rcases Nat.lt_trichotomy m n with h | h | h
  · obtain ⟨x, e⟩ := b.2 m h
    rw [a.1] at e
    cases e
  · exact h
  · obtain ⟨x, e⟩ := a.2 n h
    rw [b.1] at e
    cases e
theorem firstN_of {l : List (Option Int)} {n : Nat} (h : firstFree l n) : firstN l = some n := by
  cases e : firstN l with
  | none =>
    obtain ⟨x, ex⟩ := firstN_none e n (List.getElem?_eq_some_iff.mp h.1).1
    rw [h.1] at ex
    cases ex
  | some m => rw [firstFree_uniq (firstN_some e) h]
def freeOf (S : Sys) (p : V) : Except Er (Int × Nat) := match tabOf S p with
  | .ok q => (match firstN (S.tab q) with
    | some n => .ok (q, n)
    | none => .error (.full p))
  | .error e => .error e
theorem freeOf_ok {S : Sys} {x : V} {p : Int} {n : Nat} (h : freeOf S x = .ok (p, n)) : x = .int p ∧ p ∈ S.procs ∧ firstFree (S.tab p) n := by
  unfold freeOf at h
  split at h
  · rename_i q hq
    split at h
    · rename_i m hm
      cases h
      obtain ⟨a, b⟩ := tabOf_ok hq
      exact ⟨a, b, firstN_some hm⟩
    · cases h
  · cases h
theorem freeOf_of {S : Sys} {p : Int} {n : Nat} (hp : p ∈ S.procs) (h : firstFree (S.tab p) n) : freeOf S (.int p) = .ok (p, n) := by
  unfold freeOf
  rw [tabOf_of hp]
  show (match firstN (S.tab p) with | some n => _ | none => _) = _
  rw [firstN_of h]
section
variable {P : Program} {w : World} {K : PySem.W.Frag} {mg : Str → Option Value} {base : Heap} {C : Cs} {D : Es}
def spFreeX (C : Cs) (D : Es) : Sp := fun vs H Q E => ∃ x : V, OnSys C vs H [x] fun S _ _ => WF S ∧ Flat H x ∧ Res D H E (freeOf S x) fun r => ∀ H', Same H H' → Q (.int (r.2 : Int)) H'
theorem okFreeX {f fT : Addr} {fd fdT : FuncData} (F : Fun K "free_number" "System.free_number" sFreeNum f fd) (X : SysTxt mg) (T : ClsF K C.S sysF) (R : ErTx P w K mg base D) (GT : MX P w K mg base 3 C.S "table_of" ["self", "process"] (spTabX C D) fT fdT) :
    FnOk P w K mg base (L2.CX P w) 4 f fd ["self", "process"] (spFreeX C D) := by
  refine F.okX scFreeNum (fun vs H Q E h => ?_) (fun cdv A outer s H vs Q E hr h => ?_)
  · obtain ⟨_, _, _, _, rfl, _⟩ := h
    rfl
  · obtain ⟨x, S, ad, dx, rfl, A0, W, fl, k⟩ := h
    have hr2 : Room 2 _ := hr.mono (by decide)
    refine ⟨_, pss_cons (ps_for PassesOwn.leaving rfl (pi_enum (by rfl) X.enum (pa_cons (pe_meth (pv 0) T.cl GT.m GT.g hr GT.b .nil (passX (takes_of rfl rfl rfl rfl)) (pa_cons (pv 1) pa_nil)) pa_nil)) (pg_tup rfl (pgs_cons (pg_name (i := 2) scFreeNum.nd rfl (Or.inl rfl)) (pgs_cons (pg_name (i := 3) scFreeNum.nd rfl (Or.inl rfl)) pgs_nil)))
        (pss_one (ps_if (pt_cmpR oIsN (pv 3) pe_non (nomark _)) (pss_one (ps_ret (pv 2))) pss_nil)))
      (pss_one (ps_thr R.full bxOverflow (takes_of rfl rfl rfl rfl) hr2 (pv 1))), ?_⟩
    have hb := A0.at_ .box trivial
    refine ⟨_, rfl, ad .box, dx .box, _, rfl, hb, rfl, ?_⟩
    walk_at "wn"
    refine ⟨x, S, ad, dx, rfl, A0, fl, ?_⟩
    unfold freeOf at k
    cases et : tabOf S x with
    | error e =>
      rw [et] at k
      exact k
    | ok p =>
      rw [et] at k
      obtain ⟨rfl, hp⟩ := tabOf_ok et
      have k : Res D H E (match firstN (S.tab p) with
        | some n => .ok (p, n)
        | none => .error (.full (.int p))) fun r => ∀ H', Same H H' → Q (.int (r.2 : Int)) H' := k
      have k1 : ∀ n, firstFree (S.tab p) n → ∀ H', Same H H' → Q (.int (n : Int)) H' := fun n h => by
        rw [firstN_of h] at k
        exact k
      have k2 : Ful (S.tab p) → OutV D.full "process" (.int p) H E := fun h => by
        cases e : firstN (S.tab p) with
        | none =>
          rw [e] at k
          exact k
        | some n =>
          obtain ⟨y, ey⟩ := h n (List.getElem?_eq_some_iff.mp (firstN_some e).1).1
          rw [(firstN_some e).1] at ey
          cases ey
      have ht := A0.at_ (.tab p) hp
      refine res_ok rfl ?_
      refine ⟨ad (.tab p), _, rfl, SqL.of ht, ?_⟩
      refine for_it (walk_enum (xs := (S.tab p).map optV)) (fun i σ' H1 => ∃ u v : Option V, σ' = [some (.ref (ad .box)), some (.int p), u, v] ∧ Same H H1 ∧ ∀ j, j < i → ∃ x, (S.tab p)[j]? = some (some x)) ⟨_, _, rfl, Same.refl _, fun j h => absurd h (Nat.not_lt_zero _)⟩ (fun i σ' H1 _ ⟨_, _, _, sm, _⟩ => Same.seq sm (SqL.of ht)) ?_ ?_
      · rintro i x σ' H1 H2 hi ⟨u, v, rfl, sm, hlo⟩ ⟨T1, x1, y1, rfl, nT, rfl, ex, ey⟩
        have smT := sm.trans (Same.new' (o := .tup [x1, y1]) nT)
        obtain rfl := Option.some.inj ex
        have ey : ((S.tab p).map optV)[i]? = some y1 := ey
        rw [List.getElem?_map] at ey
        refine ⟨T1, _, rfl, SqT.of upd_same, rfl, _, _, rfl, ?_⟩
        walk_at "wn"
        refine ⟨_, _, rfl, ?_⟩
        walk_at "wn"
        refine ⟨rfl, ?_⟩
        walk_at "wn"
        cases et : (S.tab p)[i]? with
        | none => rw [et] at ey; cases ey
        | some x =>
        rw [et] at ey
        cases ey
        cases x with
        | some t =>
          have e : decide (optV (some t) = V.non) = false := decide_eq_false fun z => nomatch z
          rw [e]
          walk_at "wn"
          refine ⟨_, _, rfl, smT, fun j hj => ?_⟩
          rcases Nat.lt_or_ge j i with z | z
          · exact hlo j z
          · obtain rfl : j = i := by omega
            exact ⟨t, et⟩
        | none =>
          have e : decide (optV none = V.non) = true := decide_eq_true rfl
          rw [e]
          walk_at "wn"
          exact k1 i ⟨et, hlo⟩ _ smT
      · rintro σ' H1 ⟨u, v, rfl, sm, hlo⟩
        rw [List.length_map] at hlo
        exact g_thrD rfl (fl.same sm) (OutV.same (k2 hlo) sm)
/-! new_thing, new_source, new_set -/
def spNewThingX (C : Cs) (D : Es) : Sp := fun vs H Q E => ∃ x : V, OnSys C vs H [x] fun S ad dx => WF S ∧ Flat H x ∧ Res D H E (freeOf S x) fun r => ∀ H' T, H T = none → H' T = some (.tup [.int (r.2 : Int), .int S.next]) → At C H' (newThing S r.1 r.2) ad dx → Step H S ad H' (newThing S r.1 r.2) ad → Q (.ref T) H'
theorem okNewThingX {f fF : Addr} {fd fdF : FuncData} (F : Fun K "new_thing" "System.new_thing" sNewThing f fd) (T : ClsF K C.S sysF) (GF : MX P w K mg base 4 C.S "free_number" ["self", "process"] (spFreeX C D) fF fdF) :
    FnOk P w K mg base (L2.CX P w) 5 f fd ["self", "process"] (spNewThingX C D) := by
  refine F.okX scNewThing (fun vs H Q E h => ?_) (fun cdv A outer s H vs Q E hr h => ?_)
  · obtain ⟨_, _, _, _, rfl, _⟩ := h
    rfl
  · obtain ⟨x, S, ad, dx, rfl, A0, W, fl, k⟩ := h
    have hu := hu_of hr
    refine ⟨_, pss_cons (ps_set (i := 2) scNewThing.nd rfl (Or.inl rfl) (pe_meth (pv 0) T.cl GF.m GF.g hr GF.b .nil (passX (takes_of rfl rfl rfl rfl)) (pa_cons (pv 1) pa_nil)))
      (pss_cons (ps_set (i := 3) scNewThing.nd rfl (Or.inl rfl) (pe_fld (pv 0) rfl))
      (pss_cons (ps_fldaug (pv 0) pe_int in_add)
      (pss_cons (ps_asg (pv 3) (pg_sub (pe_dget hu (pe_fld (pv 0) rfl) (pv 1) (fun _ _ => rfl)) (pv 2) set_list))
      (pss_one (ps_ret (pe_tup (pa_cons (pv 2) (pa_cons (pv 3) pa_nil)))))))), ?_⟩
    walk_at "wn"
    refine ⟨_, rfl, ad .box, dx .box, _, rfl, A0.at_ .box trivial, rfl, ?_⟩
    walk_at "wn"
    refine ⟨x, S, ad, dx, rfl, A0, W, fl, ?_⟩
    cases et : freeOf S x with
    | error e =>
      rw [et] at k
      exact k
    | ok r =>
    obtain ⟨p, n⟩ := r
    rw [et] at k
    obtain ⟨rfl, hp, hf⟩ := freeOf_ok et
    refine res_ok rfl (fun H1 s1 => ?_)
    have A1 := A0.same s1
    have hb := A1.at_ .box trivial
    have ht := A1.at_ (.tab p) hp
    have nbt : ad .box ≠ ad (.tab p) := A1.ne (c := .box) (c' := .tab p) trivial hp (by intro z; cases z)
    have nbd : ad .tabD ≠ ad .box := A1.ne (c := .tabD) (c' := .box) trivial trivial (by intro z; cases z)
    walk_at "wn"
    refine ⟨_, rfl, ad .box, C.S, dx .box, _, _, rfl, hb, T.cl, T.no _ (by decide), rfl, ?_⟩
    walk_at "wn"
    refine ⟨_, rfl, ad .box, C.S, dx .box, _, _, rfl, hb, T.cl, T.no _ (by decide), rfl, ?_⟩
    refine ⟨_, _, rfl, rfl, ?_⟩
    refine ⟨_, _, hb, by show 6 < 1000; decide, ?_⟩
    walk_at "wn"
    have hv : valV (entKV S.procs fun p => ad (.tab p)) (Sum.inl p) = some (.ref (ad (.tab p))) := by rw [ent_val, if_pos hp]
    refine ⟨_, rfl, ad .box, C.S, dx .box, _, _, rfl, upd_same, T.cl, T.no _ (by decide), rfl, ?_⟩
    refine ⟨_, rfl, ad .tabD, _, rfl, hv ▸ DGet.k (k := Sum.inl p) (by rw [upd_ne nbd]; exact A1.at_ .tabD trivial), ?_⟩
    have hn : n < (S.tab p).length := (List.getElem?_eq_some_iff.mp hf.1).1
    refine ⟨_, rfl, ad (.tab p), _, _, n, rfl, rfl, by rw [upd_ne (Ne.symm nbt)]; exact ht, by rw [List.length_map]; exact ixN_nat hn, ?_⟩
    walk_at "wn"
    refine ⟨by show 2 ≤ sizeLine; decide, fun T1 hT => ?_⟩
    have nTt : T1 ≠ ad (.tab p) := fun z => by rw [z, upd_same] at hT; cases hT
    rw [upd_ne nTt] at hT
    have nTb : T1 ≠ ad .box := fun z => by rw [z, upd_same] at hT; cases hT
    rw [upd_ne nTb] at hT
    refine (fun z : At C _ _ _ _ ∧ Step _ _ _ _ _ _ => k _ T1 (s1.free hT) upd_same z.1 ((Step.same s1).trans z.2)) ?_
    refine At.re2 [.box, .tab p] A1 (fun c l => by cases c <;> exact l) (fun c hc => ?_) (fun c hc => ?_) (fun c hc l => ?_) (fun b o n e => ?_)
    · simp only [List.mem_cons, List.not_mem_nil, or_false] at hc
      rcases hc with rfl | rfl
      · exact trivial
      · exact hp
    · simp only [List.mem_cons, List.not_mem_nil, or_false] at hc
      rcases hc with rfl | rfl
      · rw [upd_ne (Ne.symm nTb), upd_ne nbt, upd_same]
        rfl
      · rw [upd_ne (Ne.symm nTt), upd_same]
        show _ = some (HO.lst ((if p = p then (S.tab p).set n (some S.next) else S.tab p).map optV))
        rw [if_pos rfl, List.map_set]
        rfl
    · cases c with
      | box => exact absurd List.mem_cons_self hc
      | tab q =>
        have nq : q ≠ p := fun z => hc (by rw [z]; simp)
        show HO.lst ((if q = p then (S.tab p).set n (some S.next) else S.tab q).map optV) = _
        rw [if_neg nq]
        rfl
      | _ => rfl
    · have n1 := n .box (by simp)
      have n2 := n (.tab p) (by simp)
      rw [upd_ne (ne_of_none e hT), upd_ne n2, upd_ne n1]
      exact e
def spNewSourceX (C : Cs) (D : Es) : Sp := fun vs H Q E => ∃ x : V, OnSys C vs H [x] fun S ad dx => WF S ∧ Flat H x ∧ Res D H E (freeOf S x) fun r => ∀ H' ad', At C H' (newSource S r.1 r.2) ad' dx → Step H S ad H' (newSource S r.1 r.2) ad' → Q (.int (r.2 : Int)) H'
theorem okNewSourceX {f fN : Addr} {fd fdN : FuncData} (F : Fun K "new_source" "System.new_source" sNewSource f fd) (T : ClsF K C.S sysF) (GN : MX P w K mg base 5 C.S "new_thing" ["self", "process"] (spNewThingX C D) fN fdN) :
    FnOk P w K mg base (L2.CX P w) 6 f fd ["self", "process"] (spNewSourceX C D) := by
  refine F.okX scNewSource (fun vs H Q E h => ?_) (fun cdv A outer s H vs Q E hr h => ?_)
  · obtain ⟨_, _, _, _, rfl, _⟩ := h
    rfl
  · obtain ⟨x, S, ad, dx, rfl, A0, W, fl, k⟩ := h
    have hu := hu_of hr
    refine ⟨_, pss_cons (ps_asg (pe_meth (pv 0) T.cl GN.m GN.g hr GN.b .nil (passX (takes_of rfl rfl rfl rfl)) (pa_cons (pv 1) pa_nil)) (pg_tup rfl (pgs_cons (pg_name (i := 2) scNewSource.nd rfl (Or.inl rfl)) (pgs_cons (pg_name (i := 3) scNewSource.nd rfl (Or.inl rfl)) pgs_nil))))
      (pss_cons (ps_dput hu (pe_fld (pv 0) rfl) (pv 3) (pe_tup (pa_cons pe_int (pa_cons pe_bl pa_nil))) rfl) (pss_one (ps_ret (pv 2)))), ?_⟩
    walk_at "wn"
    refine ⟨_, rfl, ad .box, dx .box, _, rfl, A0.at_ .box trivial, rfl, ?_⟩
    walk_at "wn"
    refine ⟨x, S, ad, dx, rfl, A0, W, fl, ?_⟩
    cases et : freeOf S x with
    | error e =>
      rw [et] at k
      exact k
    | ok r =>
    obtain ⟨p, n⟩ := r
    rw [et] at k
    obtain ⟨rfl, hp, hf⟩ := freeOf_ok et
    have hnx := W.next_out.1
    have hz := W.srcs_len
    refine res_ok rfl (fun H1 T1 hT1 hT A1 st1 => ?_)
    refine ⟨T1, _, rfl, SqT.of hT, rfl, _, _, rfl, ?_⟩
    walk_at "wn"
    refine ⟨_, _, rfl, ?_⟩
    walk_at "wn"
    refine ⟨rfl, ?_⟩
    walk_at "wn"
    refine ⟨by show 2 ≤ sizeLine; decide, fun T2 hT2 => ?_⟩
    have hb := A1.at_ .box trivial
    have hD : H1 (ad .srcD) = some (.dK (entKV S.srcs fun t => ad (.srcT t))) := A1.at_ .srcD trivial
    have nTD : T2 ≠ ad .srcD := fun z => by rw [z, hD] at hT2; cases hT2
    have nTb : ad .box ≠ T2 := ne_of_none hb hT2
    refine ⟨_, rfl, ad .box, C.S, dx .box, _, _, rfl, by rw [upd_ne nTb]; exact hb, T.cl, T.no _ (by decide), rfl, ?_⟩
    refine ⟨_, rfl, ad .srcD, _, rfl, DPut.k (k := Sum.inl S.next) (by rw [upd_ne (Ne.symm nTD)]; exact hD) (by unfold entKV; rw [List.length_map, sizeLine_eq]; omega), ?_⟩
    walk_at "wn"
    refine (fun z : At C _ _ _ _ ∧ Step H1 (newThing S p n) ad _ _ _ => k _ (setA ad (.srcT S.next) T2) z.1 (st1.trans z.2)) ?_
    refine At.re3 [.srcD, .srcT S.next] A1 (fun c lc => ?_) (fun c hc lc => ?_) (fun c hc lc => ?_) (fun c hc lc => ?_) (fun c hc c' hc' lc lc' z e => ?_) (fun b o nb e => ?_) (setA_ne (by intro z; cases z))
    · cases c with
      | srcT t =>
        rcases List.mem_append.mp (show t ∈ S.srcs ++ [S.next] from lc) with y | y
        · exact .inr y
        · rw [List.mem_singleton.mp y]
          exact .inl (by simp)
      | _ => exact .inr lc
    · simp only [List.mem_cons, List.not_mem_nil, or_false] at hc
      rcases hc with rfl | rfl
      · rw [setA_ne (by intro z; cases z), upd_same, ent_put, if_neg hnx, srcT_fun]
        rfl
      · rw [setA_same, upd_ne nTD, upd_same]
        show _ = some (HO.tup [.int (if S.next = S.next then ((0 : Int), false) else S.unit S.next).1, .bl (if S.next = S.next then ((0 : Int), false) else S.unit S.next).2])
        rw [if_pos rfl]
    · have n1 : c ≠ .srcD := fun z => hc (by rw [z]; simp)
      have n2 : c ≠ .srcT S.next := fun z => hc (by rw [z]; simp)
      refine ⟨setA_ne n2, ?_⟩
      cases c with
      | srcD => exact absurd rfl n1
      | srcT j =>
        have nj : j ≠ S.next := fun z => n2 (by rw [z])
        show HO.tup [.int (if j = S.next then ((0 : Int), false) else S.unit j).1, .bl (if j = S.next then ((0 : Int), false) else S.unit j).2] = _
        rw [if_neg nj]
        rfl
      | _ => rfl
    · simp only [List.mem_cons, List.not_mem_nil, or_false] at hc
      rcases hc with rfl | rfl
      · exact .inl ⟨setA_ne (by intro z; cases z), trivial⟩
      · exact .inr (by rw [setA_same]; exact hT2)
    · simp only [List.mem_cons, List.not_mem_nil, or_false] at hc hc'
      rcases hc with rfl | rfl
      · rw [setA_ne (by intro z; cases z), hD] at z
        cases z
      · rcases hc' with rfl | rfl
        · rw [setA_same, setA_ne (by intro z; cases z)] at e
          exact absurd e nTD
        · rfl
    · rw [upd_ne (nb .srcD (by simp) trivial), upd_ne (ne_of_none e hT2)]
      exact e
def spNewSetX (C : Cs) (D : Es) : Sp := fun vs H Q E => ∃ x : V, OnSys C vs H [x] fun S ad dx => WF S ∧ Flat H x ∧ Res D H E (freeOf S x) fun r => ∀ H' ad' dx', At C H' (newSet S r.1 r.2) ad' dx' → Step H S ad H' (newSet S r.1 r.2) ad' → Q (.int (r.2 : Int)) H'
theorem okNewSetX {f fN fI : Addr} {fd fdN fdI : FuncData} (F : Fun K "new_set" "System.new_set" sNewSet f fd) (T : ClsF K C.S sysF) (GN : MX P w K mg base 5 C.S "new_thing" ["self", "process"] (spNewThingX C D) fN fdN)
    (gW : mg "WaitingSet" = some (.ref C.W)) (MW : Mk K C.W fI) (GI : FnOk P w K mg base CX0 1 fI fdI ["self"] (spWsInit C.W)) (bI : Binds K fdI ["self"] []) :
    FnOk P w K mg base (L2.CX P w) 6 f fd ["self", "process"] (spNewSetX C D) := by
  refine F.okX scNewSet (fun vs H Q E h => ?_) (fun cdv A outer s H vs Q E hr h => ?_)
  · obtain ⟨_, _, _, _, rfl, _⟩ := h
    rfl
  · obtain ⟨x0, S, ad, dx, rfl, A0, W, fl, k⟩ := h
    have hu := hu_of hr
    have hr2 : Room 2 _ := hr.mono (by decide)
    refine ⟨_, pss_cons (ps_asg (pe_meth (pv 0) T.cl GN.m GN.g hr GN.b .nil (passX (takes_of rfl rfl rfl rfl)) (pa_cons (pv 1) pa_nil)) (pg_tup rfl (pgs_cons (pg_name (i := 2) scNewSet.nd rfl (Or.inl rfl)) (pgs_cons (pg_name (i := 3) scNewSet.nd rfl (Or.inl rfl)) pgs_nil))))
      (pss_cons (ps_dput hu (pe_fld (pv 0) rfl) (pv 3) (pe_make0 MW GI hr2 (by rfl) gW bI .nil pass0) rfl) (pss_one (ps_ret (pv 2)))), ?_⟩
    walk_at "wn"
    refine ⟨_, rfl, ad .box, dx .box, _, rfl, A0.at_ .box trivial, rfl, ?_⟩
    walk_at "wn"
    refine ⟨x0, S, ad, dx, rfl, A0, W, fl, ?_⟩
    cases et : freeOf S x0 with
    | error e =>
      rw [et] at k
      exact k
    | ok r =>
    obtain ⟨p, n⟩ := r
    rw [et] at k
    obtain ⟨rfl, hp, hf⟩ := freeOf_ok et
    have hnx := W.next_out.2
    have hz := W.sets_len
    refine res_ok rfl (fun H1 T1 hT1 hT A1 st1 => ?_)
    refine ⟨T1, _, rfl, SqT.of hT, rfl, _, _, rfl, ?_⟩
    walk_at "wn"
    refine ⟨_, _, rfl, ?_⟩
    walk_at "wn"
    refine ⟨rfl, ?_⟩
    refine (fun x dx2 hx hdx ndx => ?_ : ∀ x dx2, _ → _ → _ → _)
    refine ⟨x, dx2, rfl, upd_same, fun H2 e q he hq h2e h2q h2x h2 => ⟨rfl, ?_⟩⟩
    have nex : e ≠ x := fun z => by rw [z, upd_same] at he; cases he
    have nqx : q ≠ x := fun z => by rw [z, upd_same] at hq; cases hq
    rw [upd_ne nex] at he
    rw [upd_ne nqx] at hq
    have ned : e ≠ dx2 := fun z => by rw [z, upd_same] at he; cases he
    have nqd : q ≠ dx2 := fun z => by rw [z, upd_same] at hq; cases hq
    rw [upd_ne ned] at he
    rw [upd_ne nqd] at hq
    have neq : e ≠ q := fun z => by rw [z, h2q] at h2e; cases h2e
    have s2 : Same H1 H2 := fun b o y => by
      rw [h2 b (ne_of_none y hx) (ne_of_none y he) (ne_of_none y hq), upd_ne (ne_of_none y hx), upd_ne (ne_of_none y hdx)]
      exact y
    have A2 := A1.same s2
    have hb := A2.at_ .box trivial
    have hD : H2 (ad .setD) = some (.dK (entKV S.sets fun t => ad (.ws t))) := A2.at_ .setD trivial
    have hD1 : H1 (ad .setD) = some (.dK (entKV S.sets fun t => ad (.ws t))) := A1.at_ .setD trivial
    have nxD : x ≠ ad .setD := fun z => by rw [z, hD1] at hx; cases hx
    have neD : e ≠ ad .setD := fun z => by rw [z, hD1] at he; cases he
    have nqD : q ≠ ad .setD := fun z => by rw [z, hD1] at hq; cases hq
    refine ⟨_, rfl, ad .box, C.S, dx .box, _, _, rfl, hb, T.cl, T.no _ (by decide), rfl, ?_⟩
    refine ⟨_, rfl, ad .setD, _, rfl, DPut.k (k := Sum.inl S.next) hD (by unfold entKV; rw [List.length_map, sizeLine_eq]; omega), ?_⟩
    walk_at "wn"
    have wf : (fun j => if j = S.next then x else ad (.ws j)) = fun j => setA (setA (setA ad (.ws S.next) x) (.ent S.next) e) (.que S.next) q (.ws j) := by
      funext j
      rw [setA_ne (by intro z; cases z), setA_ne (by intro z; cases z)]
      by_cases h : j = S.next
      · rw [if_pos h, h, setA_same]
      · rw [if_neg h, setA_ne fun z => h (by cases z; rfl)]
    have aw : setA (setA (setA ad (.ws S.next) x) (.ent S.next) e) (.que S.next) q (.ws S.next) = x := by rw [setA_ne (by intro z; cases z), setA_ne (by intro z; cases z), setA_same]
    have ae : setA (setA (setA ad (.ws S.next) x) (.ent S.next) e) (.que S.next) q (.ent S.next) = e := by rw [setA_ne (by intro z; cases z), setA_same]
    have aq : setA (setA (setA ad (.ws S.next) x) (.ent S.next) e) (.que S.next) q (.que S.next) = q := setA_same
    have ao : ∀ c, c ≠ .ws S.next → c ≠ .ent S.next → c ≠ .que S.next → setA (setA (setA ad (.ws S.next) x) (.ent S.next) e) (.que S.next) q c = ad c := fun c h1 h2 h3 => by rw [setA_ne h3, setA_ne h2, setA_ne h1]
    refine (fun z : At C _ _ _ _ ∧ Step H1 (newThing S p n) ad _ _ _ => k _ (setA (setA (setA ad (.ws S.next) x) (.ent S.next) e) (.que S.next) q) (setA dx (.ws S.next) dx2) z.1 (st1.trans z.2)) ?_
    refine At.re3 [.setD, .ws S.next, .ent S.next, .que S.next] A1 (fun c lc => ?_) (fun c hc lc => ?_) (fun c hc lc => ?_) (fun c hc lc => ?_) (fun c hc c' hc' lc lc' z ee => ?_) (fun b o nb ee => ?_) (ao _ (by intro z; cases z) (by intro z; cases z) (by intro z; cases z))
    · have split : ∀ t, t ∈ S.sets ++ [S.next] → t ∈ S.sets ∨ t = S.next := fun t h => by
        rcases List.mem_append.mp h with y | y
        · exact .inl y
        · exact .inr (List.mem_singleton.mp y)
      cases c with
      | ws t =>
        rcases split t lc with y | rfl
        · exact .inr y
        · exact .inl (by simp)
      | ent t =>
        rcases split t lc with y | rfl
        · exact .inr y
        · exact .inl (by simp)
      | que t =>
        rcases split t lc with y | rfl
        · exact .inr y
        · exact .inl (by simp)
      | reg t l =>
        obtain ⟨h1, h2⟩ := lc
        have h2 : l ∈ (if t = S.next then [] else S.ents t) := h2
        by_cases nt : t = S.next
        · rw [if_pos nt] at h2
          cases h2
        · rw [if_neg nt] at h2
          rcases split t h1 with y | y
          · exact .inr ⟨y, h2⟩
          · exact absurd y nt
      | _ => exact .inr lc
    · simp only [List.mem_cons, List.not_mem_nil, or_false] at hc
      rcases hc with rfl | rfl | rfl | rfl
      · rw [ao _ (by intro z; cases z) (by intro z; cases z) (by intro z; cases z), upd_same, ent_put, if_neg hnx, wf]
        rfl
      · rw [aw, upd_ne nxD, h2x]
        show _ = some (wsO C.W (setA dx (.ws S.next) dx2 (.ws S.next)) _ _)
        rw [setA_same, ae, aq]
      · rw [ae, upd_ne neD, h2e]
        show _ = some (HO.dK (entKV (if S.next = S.next then [] else S.ents S.next) _))
        rw [if_pos rfl]
        rfl
      · rw [aq, upd_ne nqD, h2q]
        show _ = some (HO.lst ((if S.next = S.next then [] else S.que S.next).map V.int))
        rw [if_pos rfl]
        rfl
    · have n1 : c ≠ .setD := fun z => hc (by rw [z]; simp)
      have n2 : c ≠ .ws S.next := fun z => hc (by rw [z]; simp)
      have n3 : c ≠ .ent S.next := fun z => hc (by rw [z]; simp)
      have n4 : c ≠ .que S.next := fun z => hc (by rw [z]; simp)
      refine ⟨ao c n2 n3 n4, ?_⟩
      cases c with
      | setD => exact absurd rfl n1
      | ws t =>
        have nt : t ≠ S.next := fun z => n2 (by rw [z])
        show wsO C.W (setA dx (.ws S.next) dx2 (.ws t)) _ _ = _
        rw [setA_ne n2, ao (.ent t) (by intro z; cases z) (fun z => nt (by cases z; rfl)) (by intro z; cases z), ao (.que t) (by intro z; cases z) (by intro z; cases z) (fun z => nt (by cases z; rfl))]
        rfl
      | ent t =>
        have nt : t ≠ S.next := fun z => n3 (by rw [z])
        show HO.dK (entKV (if t = S.next then [] else S.ents t) _) = _
        rw [if_neg nt]
        rfl
      | que t =>
        have nt : t ≠ S.next := fun z => n4 (by rw [z])
        show HO.lst ((if t = S.next then [] else S.que t).map V.int) = _
        rw [if_neg nt]
        rfl
      | _ => rfl
    · simp only [List.mem_cons, List.not_mem_nil, or_false] at hc
      rcases hc with rfl | rfl | rfl | rfl
      · exact .inl ⟨ao _ (by intro z; cases z) (by intro z; cases z) (by intro z; cases z), trivial⟩
      · exact .inr (by rw [aw]; exact hx)
      · exact .inr (by rw [ae]; exact he)
      · exact .inr (by rw [aq]; exact hq)
    · simp only [List.mem_cons, List.not_mem_nil, or_false] at hc hc'
      have oD : setA (setA (setA ad (.ws S.next) x) (.ent S.next) e) (.que S.next) q .setD = ad .setD := ao _ (by intro z; cases z) (by intro z; cases z) (by intro z; cases z)
      rcases hc with rfl | rfl | rfl | rfl
      · rw [oD, hD1] at z
        cases z
      · rcases hc' with rfl | rfl | rfl | rfl
        · rw [aw, oD] at ee
          exact absurd ee nxD
        · rfl
        · rw [aw, ae] at ee
          exact absurd ee.symm nex
        · rw [aw, aq] at ee
          exact absurd ee.symm nqx
      · rcases hc' with rfl | rfl | rfl | rfl
        · rw [ae, oD] at ee
          exact absurd ee neD
        · rw [aw, ae] at ee
          exact absurd ee nex
        · rfl
        · rw [ae, aq] at ee
          exact absurd ee neq
      · rcases hc' with rfl | rfl | rfl | rfl
        · rw [aq, oD] at ee
          exact absurd ee nqD
        · rw [aw, aq] at ee
          exact absurd ee nqx
        · rw [ae, aq] at ee
          exact absurd ee.symm neq
        · rfl
    · rw [upd_ne (nb .setD (by simp) trivial)]
      exact s2 _ _ ee
end

theorem inV_opt (t : Int) : ∀ l : List (Option Int), inV (.int t) (l.map optV) = decide (some t ∈ l)
  | [] => rfl
  | x :: l => by
    have ih := inV_opt t l
    unfold inV at ih ⊢
    rw [List.map_cons, List.any_cons, ih]
    have e : eqV (optV x) (V.int t) = decide (x = some t) := by
      cases x with
      | none => rfl
      | some y =>
        show decide (y = t) = _
        by_cases h : y = t
        · rw [decide_eq_true h, decide_eq_true (by rw [h])]
        · rw [decide_eq_false h, decide_eq_false (fun z => h (by cases z; rfl))]
    rw [e]
    by_cases h : x = some t
    · rw [decide_eq_true h, Bool.true_or]
      exact (decide_eq_true (by rw [h]; exact List.mem_cons_self)).symm
    · rw [decide_eq_false h, Bool.false_or]
      by_cases h2 : some t ∈ l
      · rw [decide_eq_true h2]
        exact (decide_eq_true (List.mem_cons_of_mem _ h2)).symm
      · rw [decide_eq_false h2]
        exact (decide_eq_false fun z => (List.mem_cons.mp z).elim (fun e => h e.symm) h2).symm
theorem flat_opts (l : List (Option Int)) : (l.map optV).all flatV = true := by
  rw [List.all_map, List.all_eq_true]
  intro x _
  cases x <;> rfl

def cleared (S : Sys) (p n : Int) : Sys := { S with tab := fun q => if q = p then (S.tab p).set n.toNat none else S.tab q }
/-- a number is free; what it meant may end -/
def closed (S : Sys) (p n t : Int) : Sys := if ∃ q ∈ S.procs, some t ∈ (cleared S p n).tab q then cleared S p n else ended (cleared S p n) t
section
variable {P : Program} {w : World} {K : PySem.W.Frag} {mg : Str → Option Value} {base : Heap} {C : Cs}
/-! free -/
def spFree (C : Cs) : Sp := fun vs H Q _ => ∃ p n t : Int, OnSys C vs H [.int p, .int n] fun S ad dx => Means S p n t ∧ S.procs.length ≤ 1000 ∧ (t ∉ S.sets → t ∈ S.srcs) ∧ Tidy S ∧ ∀ H' ad', At C H' (closed S p n t) ad' dx → Step H S ad H' (closed S p n t) ad' → (∀ q, ad' (.tab q) = ad (.tab q)) → Q .non H'
abbrev nFree : List Str := ["self", "process", "number", "thing", "table"]
theorem scFree : FnScope nFree ["self", "process", "number"] (defScope sFree) := ⟨rfl, rfl, rfl, by decide +kernel, rfl, by decide +kernel, by decide +kernel⟩
theorem okFree {f fE : Addr} {fd fdE : FuncData} (F : Fun K "free" "System.free" sFree f fd) (any : mg "any" = none) (T : ClsF K C.S sysF) (GE : MO P w K mg base 3 C.S "end_thing" ["self", "thing"] (spEndThing C) fE fdE) :
    FnOk P w K mg base CX0 4 f fd ["self", "process", "number"] (spFree C) := by
  refine F.ok scFree (fun vs H Q E h => ?_) (fun cdv A outer s H vs Q E hr h => ?_)
  · obtain ⟨_, _, _, _, _, _, rfl, _⟩ := h
    rfl
  · obtain ⟨p, n, t, S, ad, dx, rfl, A0, M, hz, hst, O, k⟩ := h
    have hu := hu_of hr
    refine ⟨_, pss_cons (ps_set (i := 3) scFree.nd rfl (Or.inr rfl) (pe_ix ix_list (pe_dget hu (pe_fld (pv 0) rfl) (pv 1) (fun _ _ => rfl)) (pv 2) (fun _ _ => rfl)))
      (pss_cons (ps_asg pe_non (pg_sub (pe_dget hu (pe_fld (pv 0) rfl) (pv 1) (fun _ _ => rfl)) (pv 2) set_list))
      (pss_one (ps_if (pt_not (pt_val (pe_callB (cr_any rfl) (by rfl) any (by decide +kernel) (pa_cons (pe_lock (pe_lc (own := [("table", 4)]) (g := gName 4) (tt := tYes) (te := tOp (rIn K false) (tVar 3) (tVar 4)) rfl scFree.nd (pi_values (pe_fld (pv 0) rfl)) (blkOk_by (N := nFree) (sc := defScope sFree) (by decide +kernel)) (fun _ _ _ _ _ => pg_name (i := 4) scFree.nd rfl (Or.inl rfl)) (fun _ _ _ _ _ => pts_nil) (fun _ _ _ _ _ => pe_cmpR op_in_seq (pv 3) (pv 4) (by rfl)))) pa_nil))))
        (pss_one (ps_expr (pe_meth (pv 0) T.cl GE.m GE.g hr GE.b .nil pass0 (pa_cons (pv 3) pa_nil)))) pss_nil))), ?_⟩
    have hb := A0.at_ .box trivial
    have ht := A0.at_ (.tab p) M.pr
    have hT : H (ad .tabD) = some (.dK (entKV S.procs fun p => ad (.tab p))) := A0.at_ .tabD trivial
    obtain ⟨m, rfl⟩ := Int.eq_ofNat_of_zero_le M.lo
    have hm : (S.tab p)[m]? = some (some t) := M.at_
    have hml : m < (S.tab p).length := (List.getElem?_eq_some_iff.mp hm).1
    have hat : atI ((S.tab p).map optV) (m : Int) = some (V.int t) := atI_nat (by rw [List.getElem?_map, hm]; rfl)
    have hv : valV (entKV S.procs fun p => ad (.tab p)) (Sum.inl p) = some (.ref (ad (.tab p))) := by rw [ent_val, if_pos M.pr]
    refine ⟨_, rfl, ad .box, C.S, dx .box, _, _, rfl, hb, T.cl, T.no _ (by decide), rfl, ?_⟩
    refine ⟨_, rfl, ad .tabD, _, rfl, hv ▸ DGet.k (k := Sum.inl p) hT, ?_⟩
    refine ⟨_, rfl, ad (.tab p), _, _, _, rfl, rfl, SqL.of ht, hat, ?_⟩
    walk_at "wn"
    refine ⟨_, rfl, ad .box, C.S, dx .box, _, _, rfl, hb, T.cl, T.no _ (by decide), rfl, ?_⟩
    refine ⟨_, rfl, ad .tabD, _, rfl, hv ▸ DGet.k (k := Sum.inl p) hT, ?_⟩
    refine ⟨_, rfl, ad (.tab p), _, _, m, rfl, rfl, ht, by rw [List.length_map]; exact ixN_nat hml, ?_⟩
    have ntT : ad (.tab p) ≠ ad .tabD := A0.ne (c := .tab p) (c' := .tabD) M.pr trivial (by intro z; cases z)
    have nbT : ad .box ≠ ad .tabD := A0.ne (c := .box) (c' := .tabD) trivial trivial (by intro z; cases z)
    obtain ⟨A1, st1⟩ : At C (upd H (ad (.tab p)) (.lst (((S.tab p).map optV).set m V.non))) (cleared S p m) ad dx ∧ Step H S ad (upd H (ad (.tab p)) (.lst (((S.tab p).map optV).set m V.non))) (cleared S p m) ad := by
      refine At.re2 [.tab p] A0 (fun c l => by cases c <;> exact l) (fun c hc => ?_) (fun c hc => ?_) (fun c hc l => ?_) (fun b o n e => ?_)
      · rw [List.mem_singleton.mp hc]
        exact M.pr
      · rw [List.mem_singleton.mp hc, upd_same]
        show _ = some (HO.lst ((if p = p then (S.tab p).set (m : Int).toNat none else S.tab p).map optV))
        rw [if_pos rfl, List.map_set, Int.toNat_natCast]
        rfl
      · cases c with
        | tab q =>
          have nq : q ≠ p := fun z => hc (by rw [z]; simp)
          show HO.lst ((if q = p then (S.tab p).set (m : Int).toNat none else S.tab q).map optV) = _
          rw [if_neg nq]
          rfl
        | _ => rfl
      · rw [upd_ne (n (.tab p) (by simp))]
        exact e
    generalize upd H (ad (.tab p)) (.lst (((S.tab p).map optV).set m V.non)) = H1 at A1 st1
    have hb1 := A1.at_ .box trivial
    have hT1 : H1 (ad .tabD) = some (.dK (entKV S.procs fun p => ad (.tab p))) := A1.at_ .tabD trivial
    show tIfS (tNot (tB (tCB _ (tCons (tLockE _) tNil)))) _ _ _ _ H1
    refine g_ifs (g_not (g_tB (g_cb (g_cons ?_))))
    refine ⟨ad .tabD, _, hT1, trivial, fun od => ?_⟩
    refine ⟨_, rfl, ad .box, C.S, dx .box, _, _, rfl, by rw [upd_ne nbT]; exact hb1, T.cl, T.no _ (by decide), rfl, ?_⟩
    refine ⟨ad .tabD, od, _, rfl, upd_same, fun D hD => ?_⟩
    have nDT : D ≠ ad .tabD := fun z => by rw [z, upd_same] at hD; cases hD
    have hD0 : H1 D = none := by rw [upd_ne nDT] at hD; exact hD
    refine lc_it walk_values (fun i H' => Same (upd H1 (ad .tabD) (.frz od (.dK (entKV S.procs fun p => ad (.tab p))))) H' ∧ H' D = some (.lst (((S.procs.take i).map fun q => decide (some t ∈ (cleared S p m).tab q)).map V.bl))) ⟨Same.new' hD, upd_same⟩ (fun i H' _ h => h.1 _ _ upd_same) ?_ (fun H' h => ?_)
    · rintro i x H2 H3 hi ⟨sm, hd⟩ ⟨rfl, kx, ex⟩
      have hi' : i < S.procs.length := by unfold entKV at hi; rwa [List.length_map] at hi
      have e2 : S.procs[i]? = some S.procs[i] := List.getElem?_eq_getElem hi'
      have hs : S.procs[i] ∈ S.procs := List.getElem_mem hi'
      have et : S.procs.take (i + 1) = S.procs.take i ++ [S.procs[i]] := by rw [List.take_add_one, e2]; rfl
      unfold entKV at ex
      rw [List.getElem?_map, e2] at ex
      cases ex
      rw [et]
      generalize S.procs[i] = q at e2 hs
      have f1 : H3 (ad (.tab q)) = some (.lst (((cleared S p m).tab q).map optV)) := sm _ _ ((upd_ne (A1.ne (c := .tab q) (c' := .tabD) hs trivial (by intro z; cases z))).trans (A1.at_ (.tab q) hs))
      refine ⟨rfl, ?_⟩
      show tYes _ _ _
      refine g_yes ?_
      show if true = true then _ else _
      refine iteT ?_
      refine ⟨_, rfl, _, rfl, ad (.tab q), _, rfl, .inl (SqL.of f1), rfl, flat_opts _, ?_⟩
      refine ⟨_, hd, by rw [List.length_map, List.length_map, List.length_take, sizeLine_eq]; omega, fun b o z => ?_, ?_⟩
      · rw [upd_ne (fun y => by rw [y, hD] at z; cases z)]
        exact sm b o z
      · rw [upd_same, List.map_append, List.map_append]
        show some (HO.lst (_ ++ [V.bl (inV (.int t) (((cleared S p m).tab q).map optV))])) = _
        rw [inV_opt]
        rfl
    · obtain ⟨sm, hd⟩ := h
      have ee : S.procs.take (entKV S.procs fun p => ad (.tab p)).length = S.procs := by unfold entKV; rw [List.length_map, List.take_length]
      rw [ee] at hd
      refine ⟨sm _ _ upd_same, ?_⟩
      have sm2 : Same H1 (upd H' (ad .tabD) (.dK (entKV S.procs fun p => ad (.tab p)))) := fun b o z => by
        by_cases hb2 : b = ad .tabD
        · rw [hb2, upd_same, ← hT1, ← hb2, z]
        · rw [upd_ne hb2]
          exact sm _ _ (by rw [upd_ne hb2]; exact z)
      show tNil _ _ _
      refine g_nil ?_
      refine ⟨D, _, rfl, SqL.of (by rw [upd_ne nDT]; exact hd), ?_⟩
      refine g_bl ?_
      have hany : ((S.procs.map fun q => decide (some t ∈ (cleared S p m).tab q)).any id) = decide (∃ q ∈ S.procs, some t ∈ (cleared S p m).tab q) := by
        rw [List.any_map]
        by_cases he : ∃ q ∈ S.procs, some t ∈ (cleared S p m).tab q
        · rw [decide_eq_true he]
          obtain ⟨q, h1, h2⟩ := he
          exact List.any_eq_true.mpr ⟨q, h1, decide_eq_true h2⟩
        · rw [decide_eq_false he]
          refine List.any_eq_false.mpr fun q hq z => he ⟨q, hq, of_decide_eq_true z⟩
      rw [hany]
      have A2 := A1.same sm2
      have st2 := st1.trans (Step.same sm2)
      unfold closed at k
      by_cases he : ∃ q ∈ S.procs, some t ∈ (cleared S p m).tab q
      · rw [if_pos he] at k
        rw [decide_eq_true he]
        refine iteF ?_
        exact k _ ad A2 st2 fun _ => rfl
      · rw [if_neg he] at k
        rw [decide_eq_false he]
        refine iteT ?_
        walk_at "wn"
        refine ⟨_, rfl, ad .box, dx .box, _, rfl, A2.at_ .box trivial, rfl, ?_⟩
        walk_at "wn"
        exact ⟨t, cleared S p m, ad, dx, rfl, A2, hst, ⟨⟨O.sm.que, O.sm.ents, O.sm.srcs, O.sm.sets, O.sm.nd⟩, O.nd⟩, fun H3 ad3 A3 st3 tb3 _ => k H3 ad3 A3 (st2.trans st3) tb3⟩
end
def copied (S : Sys) (p : Int) (m : Nat) (t : Int) : Sys := { S with tab := fun q => if q = p then (S.tab p).set m (some t) else S.tab q }
theorem At.cop {C : Cs} {H : Hp} {S : Sys} {ad dx : Cell → Addr} {p t : Int} {m : Nat} (A : At C H S ad dx) (hp : p ∈ S.procs) : At C (upd H (ad (.tab p)) (.lst (((S.tab p).map optV).set m (.int t)))) (copied S p m t) ad dx ∧ Step H S ad (upd H (ad (.tab p)) (.lst (((S.tab p).map optV).set m (.int t)))) (copied S p m t) ad := by
  refine At.re2 [.tab p] A (fun c l => by cases c <;> exact l) (fun c hc => ?_) (fun c hc => ?_) (fun c hc l => ?_) (fun b o n e => ?_)
  · rw [List.mem_singleton.mp hc]
    exact hp
  · rw [List.mem_singleton.mp hc, upd_same]
    show _ = some (HO.lst ((if p = p then (S.tab p).set m (some t) else S.tab p).map optV))
    rw [if_pos rfl, List.map_set]
    rfl
  · cases c with
    | tab q =>
      have nq : q ≠ p := fun z => hc (by rw [z]; simp)
      show HO.lst ((if q = p then (S.tab p).set m (some t) else S.tab q).map optV) = _
      rw [if_neg nq]
      rfl
    | _ => rfl
  · rw [upd_ne (n (.tab p) (by simp))]
    exact e
/-- a copy onto a number; what the number meant may end -/
def pasted (S : Sys) (p : Int) (m : Nat) (t : Int) : Sys := match (S.tab p)[m]? with
  | some (some u) => if u = t then S else copied (closed S p (m : Int) u) p m t
  | _ => copied S p m t
theorem closed_tab {S : Sys} {p n t : Int} : (closed S p n t).tab = (cleared S p n).tab := by
  unfold closed
  split
  · rfl
  · unfold ended
    split <;> rfl
theorem closed_procs {S : Sys} {p n t : Int} : (closed S p n t).procs = S.procs := by
  unfold closed
  split
  · rfl
  · unfold ended
    split <;> rfl
structure FreeP (S : Sys) (m : Nat) : Prop where
  no : (m : Int) ∉ S.procs
  lo : ∀ i : Nat, i < m → (i : Int) ∈ S.procs
  hi : (m : Int) < S.P
structure NoFree (S : Sys) : Prop where
  all : ∀ i : Nat, (i : Int) < S.P → (i : Int) ∈ S.procs
def forked (S : Sys) (p : Int) (m : Nat) : Sys := { S with procs := S.procs ++ [(m : Int)], tab := fun q => if q = (m : Int) then S.tab p else S.tab q }
theorem tab_fun (ad : Cell → Addr) (t : Int) (T : Addr) : (fun j => if j = t then T else ad (.tab j)) = fun j => setA ad (.tab t) T (.tab j) := by
  funext j
  by_cases h : j = t
  · rw [if_pos h, h, setA_same]
  · rw [if_neg h, setA_ne fun z => h (by cases z; rfl)]

/-! what a system is stays behind each call -/
def finished (S : Sys) (t : Int) : Sys := notified (withUnit S t (S.unit t).1 true) t
theorem nodup_snoc {α : Type} {l : List α} {x : α} (h : l.Nodup) (n : x ∉ l) : (l ++ [x]).Nodup := List.nodup_append.mpr ⟨h, by simp, fun a ha b hb e => n (by rw [List.mem_singleton] at hb; rw [← hb, ← e]; exact ha)⟩
theorem mem_setL {α : Type} {l : List α} {n : Nat} {x y : α} (h : n < l.length) : x ∈ l.set n y ↔ x = y ∨ ∃ i, i ≠ n ∧ l[i]? = some x := by
  constructor
  · intro hx
    obtain ⟨i, hi⟩ := List.getElem?_of_mem hx
    rw [List.getElem?_set] at hi
    by_cases e : n = i
    · rw [if_pos e, if_pos (e ▸ h)] at hi
      exact .inl (Option.some.inj hi).symm
    · rw [if_neg e] at hi
      exact .inr ⟨i, fun z => e z.symm, hi⟩
  · rintro (e | ⟨i, ni, hi⟩)
    · rw [e]
      exact List.mem_set h y
    · refine List.mem_of_getElem? (i := i) ?_
      rw [List.getElem?_set, if_neg fun z => ni z.symm]
      exact hi
theorem mem_get {α : Type} {l : List α} {x : α} : x ∈ l ↔ ∃ i : Nat, l[i]? = some x := ⟨List.getElem?_of_mem, fun ⟨i, h⟩ => List.mem_of_getElem? h⟩
abbrev heldP (S : Sys) (t : Int) : Prop := ∃ p ∈ S.procs, some t ∈ S.tab p
theorem WF.tabs {S S' : Sys} (W : WF S) (eP : S'.P = S.P) (eN : S'.N = S.N) (e1 : S'.srcs = S.srcs) (e2 : S'.sets = S.sets) (e3 : S'.unit = S.unit) (e4 : S'.ents = S.ents) (e5 : S'.reg = S.reg) (e6 : S'.que = S.que)
    (pn : S'.procs.Nodup) (pr : ∀ p ∈ S'.procs, 0 ≤ p ∧ p < S.P) (tl : ∀ p ∈ S'.procs, (S'.tab p).length = S.N.toNat) (nx : ∀ p ∈ S'.procs, ∀ t, some t ∈ S'.tab p → t < S'.next) (kd : ∀ t, heldP S' t ↔ (t ∈ S.srcs ∨ t ∈ S.sets)) : WF S' := by
  obtain ⟨P, N, next, procs, tab, srcs, unit, sets, ents, reg, que⟩ := S'
  dsimp only at eP eN e1 e2 e3 e4 e5 e6
  subst eP eN e1 e2 e3 e4 e5 e6
  exact ⟨W.P2, W.P6, W.N3, W.N8, pn, pr, tl, nx, kd, W.dj, W.sn, W.en, W.un, W.ln, W.lb, W.rs, W.rn, W.rw_, W.ky, W.qn, W.qe⟩
section
variable {S : Sys}
/-- a table with one number changed -/
theorem tab_mem {p q : Int} {n : Nat} {y x : Option Int} (h : n < (S.tab p).length) : x ∈ (if q = p then (S.tab p).set n y else S.tab q) ↔ (q = p ∧ x = y) ∨ ∃ i, ¬ (q = p ∧ i = n) ∧ (S.tab q)[i]? = some x := by
  by_cases z : q = p
  · rw [if_pos z, mem_setL h]
    constructor
    · rintro (e | ⟨i, a, b⟩)
      · exact .inl ⟨z, e⟩
      · exact .inr ⟨i, fun y => a y.2, by rw [z]; exact b⟩
    · rintro (e | ⟨i, a, b⟩)
      · exact .inl e.2
      · exact .inr ⟨i, fun y => a ⟨z, y⟩, by rw [← z]; exact b⟩
  · rw [if_neg z, mem_get]
    constructor
    · rintro ⟨i, hi⟩
      exact .inr ⟨i, fun y => z y.1, hi⟩
    · rintro (e | ⟨i, a, b⟩)
      · exact absurd e.1 z
      · exact ⟨i, b⟩
theorem tab_len {p q : Int} {n : Nat} {y : Option Int} : (if q = p then (S.tab p).set n y else S.tab q).length = (S.tab q).length := by
  split
  · rename_i z
    rw [List.length_set, z]
  · rfl
theorem WF.newHeld (W : WF S) {p : Int} {n : Nat} (hp : p ∈ S.procs) (hf : firstFree (S.tab p) n) (t : Int) : heldP (newThing S p n) t ↔ (heldP S t ∨ t = S.next) := by
  have hn := (List.getElem?_eq_some_iff.mp hf.1).1
  constructor
  · rintro ⟨q, hq, h⟩
    rcases (tab_mem (y := some S.next) hn).mp h with ⟨_, e⟩ | ⟨i, _, e⟩
    · exact .inr (Option.some.inj e)
    · exact .inl ⟨q, hq, List.mem_of_getElem? e⟩
  · rintro (⟨q, hq, h⟩ | rfl)
    · obtain ⟨i, hi⟩ := mem_get.mp h
      refine ⟨q, hq, (tab_mem (y := some S.next) hn).mpr (.inr ⟨i, fun z => ?_, hi⟩)⟩
      rw [z.1, z.2, hf.1] at hi
      cases hi
    · exact ⟨p, hp, (tab_mem (y := some S.next) hn).mpr (.inl ⟨rfl, rfl⟩)⟩
theorem WF.newNx (W : WF S) {p : Int} {n : Nat} (hf : firstFree (S.tab p) n) {q : Int} (hq : q ∈ S.procs) {t : Int} (h : some t ∈ (Wn.newThing S p n).tab q) : t < S.next + 1 := by
  have hn := (List.getElem?_eq_some_iff.mp hf.1).1
  rcases (tab_mem (y := some S.next) hn).mp h with ⟨_, e⟩ | ⟨i, _, e⟩
  · have := Option.some.inj e
    omega
  · have := W.nx q hq t (List.mem_of_getElem? e)
    omega
theorem WF.newSource (W : WF S) {p : Int} {n : Nat} (hp : p ∈ S.procs) (hf : firstFree (S.tab p) n) : WF (newSource S p n) := by
  obtain ⟨o1, o2⟩ := W.next_out
  have inS : ∀ t, t ∈ S.srcs ++ [S.next] ↔ t ∈ S.srcs ∨ t = S.next := fun t => by rw [List.mem_append, List.mem_singleton]
  refine ⟨W.P2, W.P6, W.N3, W.N8, W.pn, W.pr, fun q hq => (tab_len (y := some S.next)).trans (W.tl q hq), fun q hq t h => W.newNx hf hq h, fun t => ?_, fun t ht => ?_, nodup_snoc W.sn o1, W.en, fun t ht => ?_, W.ln, W.lb, fun s hs l hl => (inS _).mpr (.inl (W.rs s hs l hl)), W.rn, W.rw_, W.ky, W.qn, W.qe⟩
  · refine (W.newHeld hp hf t).trans ?_
    show _ ↔ t ∈ S.srcs ++ [S.next] ∨ t ∈ S.sets
    rw [inS, show heldP S t ↔ _ from W.kd t]
    exact ⟨fun z => z.elim (fun y => y.elim (fun x => .inl (.inl x)) .inr) fun y => .inl (.inr y), fun z => z.elim (fun y => y.elim (fun x => .inl (.inl x)) .inr) fun y => .inl (.inr y)⟩
  · rcases (inS t).mp ht with z | z
    · exact W.dj t z
    · rw [z]
      exact o2
  · show 0 ≤ (if t = S.next then ((0 : Int), false) else S.unit t).1
    split
    · exact Int.le_refl _
    · exact W.un t (((inS t).mp ht).resolve_right (by assumption))
theorem WF.newSet (W : WF S) {p : Int} {n : Nat} (hp : p ∈ S.procs) (hf : firstFree (S.tab p) n) : WF (newSet S p n) := by
  obtain ⟨o1, o2⟩ := W.next_out
  have inS : ∀ t, t ∈ S.sets ++ [S.next] ↔ t ∈ S.sets ∨ t = S.next := fun t => by rw [List.mem_append, List.mem_singleton]
  have ent : ∀ s, s ∈ S.sets ++ [S.next] → ((Wn.newSet S p n).ents s = [] ∧ (Wn.newSet S p n).que s = []) ∨ (s ∈ S.sets ∧ (Wn.newSet S p n).ents s = S.ents s ∧ (Wn.newSet S p n).que s = S.que s) := fun s hs => by
    by_cases z : s = S.next
    · exact .inl ⟨if_pos z, if_pos z⟩
    · exact .inr ⟨((inS s).mp hs).resolve_right z, if_neg z, if_neg z⟩
  have old : ∀ s, s ∈ S.sets ++ [S.next] → ∀ l, l ∈ (Wn.newSet S p n).ents s → s ∈ S.sets ∧ l ∈ S.ents s := fun s hs l hl => by
    rcases ent s hs with ⟨e, _⟩ | ⟨a, e, _⟩
    · rw [e] at hl
      cases hl
    · rw [e] at hl
      exact ⟨a, hl⟩
  refine ⟨W.P2, W.P6, W.N3, W.N8, W.pn, W.pr, fun q hq => (tab_len (y := some S.next)).trans (W.tl q hq), fun q hq t h => W.newNx hf hq h, fun t => ?_, fun t ht z => ?_, W.sn, nodup_snoc W.en o2, W.un, fun s hs => ?_, fun s hs l hl => ?_, fun s hs l hl => ?_, fun s hs l hl => ?_, fun s hs l hl => ?_, fun s hs l hl j hj => ?_, fun s hs => ?_, fun s hs l hl => ?_⟩
  · refine (W.newHeld hp hf t).trans ?_
    show _ ↔ t ∈ S.srcs ∨ t ∈ S.sets ++ [S.next]
    rw [inS, show heldP S t ↔ _ from W.kd t, or_assoc]
  · rcases (inS t).mp z with y | y
    · exact W.dj t ht y
    · exact o1 (y ▸ ht)
  · rcases ent s hs with ⟨e, _⟩ | ⟨a, e, _⟩
    · rw [e]
      exact List.nodup_nil
    · rw [e]
      exact W.ln s a
  · obtain ⟨a, b⟩ := old s hs l hl
    exact W.lb s a l b
  · obtain ⟨a, b⟩ := old s hs l hl
    exact W.rs s a l b
  · obtain ⟨a, b⟩ := old s hs l hl
    exact W.rn s a l b
  · obtain ⟨a, b⟩ := old s hs l hl
    exact W.rw_ s a l b
  · obtain ⟨a, b⟩ := old s hs l hl
    obtain ⟨_, c⟩ := old s hs j hj
    exact W.ky s a l b j c
  · rcases ent s hs with ⟨_, e⟩ | ⟨a, _, e⟩
    · rw [e]
      exact List.nodup_nil
    · rw [e]
      exact W.qn s a
  · rcases ent s hs with ⟨_, e⟩ | ⟨a, e1, e⟩
    · rw [e] at hl
      cases hl
    · rw [e] at hl
      rw [e1]
      exact W.qe s a l hl
/-! closings -/
theorem cleared_tab (q p : Int) (n : Nat) : (cleared S p (n : Int)).tab q = if q = p then (S.tab p).set n none else S.tab q := by
  show (if q = p then (S.tab p).set (n : Int).toNat none else S.tab q) = _
  rw [Int.toNat_natCast]
theorem held_clear {p t : Int} {n : Nat} (h : (S.tab p)[n]? = some (some t)) {u : Int} : heldP (cleared S p (n : Int)) u → heldP S u := fun ⟨q, hq, hu⟩ => by
  rw [cleared_tab] at hu
  rcases (tab_mem (List.getElem?_eq_some_iff.mp h).1).mp hu with ⟨_, e⟩ | ⟨i, _, e⟩
  · cases e
  · exact ⟨q, hq, List.mem_of_getElem? e⟩
theorem held_clear2 {p t : Int} {n : Nat} (h : (S.tab p)[n]? = some (some t)) {u : Int} (nu : u ≠ t) : heldP S u → heldP (cleared S p (n : Int)) u := fun ⟨q, hq, hu⟩ => by
  obtain ⟨i, hi⟩ := mem_get.mp hu
  refine ⟨q, hq, ?_⟩
  rw [cleared_tab]
  refine (tab_mem (List.getElem?_eq_some_iff.mp h).1).mpr (.inr ⟨i, fun z => nu ?_, hi⟩)
  rw [z.1, z.2, h] at hi
  exact (Option.some.inj (Option.some.inj hi)).symm
theorem WF.close (W : WF S) {p n t : Int} (M : Means S p n t) : WF (closed S p n t) := by
  obtain ⟨m, rfl⟩ := Int.eq_ofNat_of_zero_le M.lo
  have hm : (S.tab p)[m]? = some (some t) := M.at_
  have ht : heldP S t := ⟨p, M.pr, List.mem_of_getElem? hm⟩
  have tl1 : ∀ q ∈ S.procs, ((cleared S p (m : Int)).tab q).length = S.N.toNat := fun q hq => by
    rw [cleared_tab, tab_len]
    exact W.tl q hq
  have nx1 : ∀ q ∈ S.procs, ∀ u, some u ∈ (cleared S p (m : Int)).tab q → u < S.next := fun q hq u hu => by
    rw [cleared_tab] at hu
    rcases (tab_mem (List.getElem?_eq_some_iff.mp hm).1).mp hu with ⟨_, e⟩ | ⟨i, _, e⟩
    · cases e
    · exact W.nx q hq u (List.mem_of_getElem? e)
  unfold closed
  split
  · rename_i hh
    refine W.tabs rfl rfl rfl rfl rfl rfl rfl rfl W.pn W.pr tl1 nx1 fun u => ⟨fun h => (W.kd u).mp (held_clear hm h), fun h => ?_⟩
    by_cases e : u = t
    · rw [e]
      exact hh
    · exact held_clear2 hm e ((W.kd u).mpr h)
  · rename_i hh
    have kd1 : ∀ u, heldP (cleared S p (m : Int)) u ↔ (u ≠ t ∧ (u ∈ S.srcs ∨ u ∈ S.sets)) := fun u => ⟨fun h => ⟨fun e => hh (e ▸ h), (W.kd u).mp (held_clear hm h)⟩, fun h => held_clear2 hm h.1 ((W.kd u).mpr h.2)⟩
    unfold ended
    split
    · rename_i hs
      have hs : t ∈ S.sets := hs
      have sub : ∀ s, s ∈ without t S.sets → s ∈ S.sets := fun s h => (mem_without.mp h).1
      refine ⟨W.P2, W.P6, W.N3, W.N8, W.pn, W.pr, tl1, nx1, fun u => (kd1 u).trans ?_, fun u hu z => W.dj u hu (sub u z), W.sn, W.en.filter _, W.un, fun s h => W.ln s (sub s h), fun s h => W.lb s (sub s h), fun s h => W.rs s (sub s h), fun s h => W.rn s (sub s h), fun s h => W.rw_ s (sub s h), fun s h => W.ky s (sub s h), fun s h => W.qn s (sub s h), fun s h => W.qe s (sub s h)⟩
      show _ ↔ u ∈ S.srcs ∨ u ∈ without t S.sets
      rw [mem_without]
      constructor
      · rintro ⟨a, b | b⟩
        · exact .inl b
        · exact .inr ⟨b, a⟩
      · rintro (b | ⟨b, a⟩)
        · exact ⟨fun e => W.dj u b (e ▸ hs), .inl b⟩
        · exact ⟨a, .inr b⟩
    · rename_i hs
      have hs : t ∉ S.sets := hs
      show WF (sdrops (noSrc (cleared S p (m : Int)) t) t S.sets)
      have hsr : t ∈ S.srcs := ((W.kd t).mp ht).resolve_right hs
      have sub : ∀ s, s ∈ without t S.srcs → s ∈ S.srcs := fun s h => (mem_without.mp h).1
      have ent : ∀ s ∈ S.sets, (sdrops (noSrc (cleared S p (m : Int)) t) t S.sets).ents s = dropAll (S.ents s) (gone S t s) := fun s h => if_pos h
      have que : ∀ s ∈ S.sets, (sdrops (noSrc (cleared S p (m : Int)) t) t S.sets).que s = dropAll (S.que s) (gone S t s) := fun s h => if_pos h
      have old : ∀ s ∈ S.sets, ∀ l, l ∈ (sdrops (noSrc (cleared S p (m : Int)) t) t S.sets).ents s → l ∈ S.ents s ∧ (S.reg s l).src ≠ t := fun s h l hl => by
        rw [ent s h] at hl
        obtain ⟨a, b⟩ := mem_dropAll.mp hl
        exact ⟨a, fun e => b (List.mem_filter.mpr ⟨a, decide_eq_true e⟩)⟩
      have dnd : ∀ (D ls : List Int), ls.Nodup → (dropAll ls D).Nodup := fun D => by
        induction D with
        | nil => exact fun ls h => h
        | cons d D ih => exact fun ls h => ih _ (h.filter _)
      refine ⟨W.P2, W.P6, W.N3, W.N8, W.pn, W.pr, tl1, nx1, fun u => (kd1 u).trans ?_, fun u hu z => W.dj u (sub u hu) z, W.sn.filter _, W.en, fun u hu => W.un u (sub u hu), fun s h => ?_, fun s h l hl => W.lb s h l (old s h l hl).1, fun s h l hl => mem_without.mpr ⟨W.rs s h l (old s h l hl).1, (old s h l hl).2⟩, fun s h l hl => W.rn s h l (old s h l hl).1, fun s h l hl => W.rw_ s h l (old s h l hl).1, fun s h l hl j hj => W.ky s h l (old s h l hl).1 j (old s h j hj).1, fun s h => ?_, fun s h l hl => ?_⟩
      · show _ ↔ u ∈ without t S.srcs ∨ u ∈ S.sets
        rw [mem_without]
        constructor
        · rintro ⟨a, b | b⟩
          · exact .inl ⟨b, a⟩
          · exact .inr b
        · rintro (⟨b, a⟩ | b)
          · exact ⟨a, .inl b⟩
          · exact ⟨fun e => hs (e ▸ b), .inr b⟩
      · rw [ent s h]
        exact dnd _ _ (W.ln s h)
      · rw [que s h]
        exact dnd _ _ (W.qn s h)
      · rw [que s h] at hl
        rw [ent s h]
        obtain ⟨a, b⟩ := mem_dropAll.mp hl
        exact mem_dropAll.mpr ⟨W.qe s h l a, b⟩
theorem WF.copied (W : WF S) {p t : Int} {m : Nat} (hp : p ∈ S.procs) (ht : heldP S t) (h : (S.tab p)[m]? = some none) : WF (copied S p m t) := by
  have hl := (List.getElem?_eq_some_iff.mp h).1
  refine W.tabs rfl rfl rfl rfl rfl rfl rfl rfl W.pn W.pr (fun q hq => tab_len.trans (W.tl q hq)) (fun q hq u hu => ?_) fun u => Iff.trans ⟨?_, ?_⟩ (W.kd u)
  · rcases (tab_mem (y := some t) hl).mp hu with ⟨_, e⟩ | ⟨i, _, e⟩
    · obtain ⟨r, hr, e2⟩ := ht
      rw [Option.some.inj e]
      exact W.nx r hr t e2
    · exact W.nx q hq u (List.mem_of_getElem? e)
  · rintro ⟨q, hq, hu⟩
    rcases (tab_mem (y := some t) hl).mp hu with ⟨_, e⟩ | ⟨i, _, e⟩
    · rw [Option.some.inj e]
      exact ht
    · exact ⟨q, hq, List.mem_of_getElem? e⟩
  · rintro ⟨q, hq, hu⟩
    obtain ⟨i, hi⟩ := mem_get.mp hu
    refine ⟨q, hq, (tab_mem (y := some t) hl).mpr (.inr ⟨i, fun z => ?_, hi⟩)⟩
    rw [z.1, z.2, h] at hi
    cases hi
theorem WF.forked (W : WF S) {p : Int} {m : Nat} (hp : p ∈ S.procs) (hf : FreeP S m) : WF (forked S p m) := by
  have ti : ∀ q ∈ S.procs, (Wn.forked S p m).tab q = S.tab q := fun q hq => if_neg fun z : q = (m : Int) => hf.no (z ▸ hq)
  have tm : (Wn.forked S p m).tab (m : Int) = S.tab p := if_pos rfl
  have inP : ∀ q, q ∈ S.procs ++ [(m : Int)] ↔ q ∈ S.procs ∨ q = (m : Int) := fun q => by rw [List.mem_append, List.mem_singleton]
  refine W.tabs rfl rfl rfl rfl rfl rfl rfl rfl (nodup_snoc W.pn hf.no) (fun q hq => ?_) (fun q hq => ?_) (fun q hq u hu => ?_) fun u => Iff.trans ⟨?_, ?_⟩ (W.kd u)
  · rcases (inP q).mp hq with z | z
    · exact W.pr q z
    · rw [z]
      exact ⟨by omega, hf.hi⟩
  · rcases (inP q).mp hq with z | z
    · rw [ti q z]
      exact W.tl q z
    · rw [z, tm]
      exact W.tl p hp
  · rcases (inP q).mp hq with z | z
    · rw [ti q z] at hu
      exact W.nx q z u hu
    · rw [z, tm] at hu
      exact W.nx p hp u hu
  · rintro ⟨q, hq, hu⟩
    rcases (inP q).mp hq with z | z
    · rw [ti q z] at hu
      exact ⟨q, z, hu⟩
    · rw [z, tm] at hu
      exact ⟨p, hp, hu⟩
  · rintro ⟨q, hq, hu⟩
    exact ⟨q, (inP q).mpr (.inl hq), by rw [ti q hq]; exact hu⟩
/-- a process without open numbers is gone -/
def goneP (S : Sys) (p : Int) : Sys := { S with procs := without p S.procs }
/-! units and registrations -/
theorem mem_noticeQ {reg : Int → Reg} {s x : Int} : ∀ {ls qs : List Int}, x ∈ noticeQ reg s ls qs ↔ x ∈ qs ∨ (x ∈ ls ∧ (reg x).src = s ∧ (reg x).armed = true)
  | [], qs => ⟨.inl, fun h => h.elim id fun z => absurd z.1 List.not_mem_nil⟩
  | l :: ls, qs => by
    show x ∈ noticeQ reg s ls (if (reg l).src = s ∧ (reg l).armed = true then qAdd l qs else qs) ↔ _
    rw [mem_noticeQ]
    have mq : ∀ {t u : Int} {l : List Int}, t ∈ qAdd u l ↔ t = u ∨ t ∈ l := fun {t u l} => by
      unfold qAdd
      split <;> rename_i h
      · exact ⟨.inr, fun z => z.elim (fun e => e ▸ h) id⟩
      · rw [List.mem_append, List.mem_singleton]
        exact ⟨fun z => z.symm, fun z => z.symm⟩
    by_cases h : (reg l).src = s ∧ (reg l).armed = true
    · rw [if_pos h, mq, List.mem_cons]
      constructor
      · rintro ((z | z) | z)
        · exact .inr ⟨.inl z, by rw [z]; exact h⟩
        · exact .inl z
        · exact .inr ⟨.inr z.1, z.2⟩
      · rintro (z | ⟨z | z, y⟩)
        · exact .inl (.inr z)
        · exact .inl (.inl z)
        · exact .inr ⟨z, y⟩
    · rw [if_neg h, List.mem_cons]
      constructor
      · rintro (z | z)
        · exact .inl z
        · exact .inr ⟨.inr z.1, z.2⟩
      · rintro (z | ⟨z | z, y⟩)
        · exact .inl z
        · exact absurd (by rw [← z]; exact y) h
        · exact .inr ⟨z, y⟩
theorem nodup_qAdd {u : Int} {l : List Int} (h : l.Nodup) : (qAdd u l).Nodup := by
  unfold qAdd
  split <;> rename_i h2
  · exact h
  · exact nodup_snoc h h2
theorem nodup_noticeQ {reg : Int → Reg} {s : Int} : ∀ {ls qs : List Int}, qs.Nodup → (noticeQ reg s ls qs).Nodup
  | [], qs, h => h
  | l :: ls, qs, h => by
    show (noticeQ reg s ls (if (reg l).src = s ∧ (reg l).armed = true then qAdd l qs else qs)).Nodup
    refine nodup_noticeQ ?_
    split
    · exact nodup_qAdd h
    · exact h
theorem WF.units (W : WF S) {t u : Int} {f : Bool} (h : 0 ≤ u) : WF (withUnit S t u f) :=
  ⟨W.P2, W.P6, W.N3, W.N8, W.pn, W.pr, W.tl, W.nx, W.kd, W.dj, W.sn, W.en, fun s hs => by
    show 0 ≤ (if s = t then (u, f) else S.unit s).1
    split
    · exact h
    · exact W.un s hs, W.ln, W.lb, W.rs, W.rn, W.rw_, W.ky, W.qn, W.qe⟩
theorem WF.notified (W : WF S) (t : Int) : WF (notified S t) := by
  have que : ∀ s ∈ S.sets, (Wn.notified S t).que s = noticeQ (S.reg s) t (S.ents s) (S.que s) := fun s h => if_pos h
  refine ⟨W.P2, W.P6, W.N3, W.N8, W.pn, W.pr, W.tl, W.nx, W.kd, W.dj, W.sn, W.en, W.un, W.ln, W.lb, W.rs, W.rn, W.rw_, W.ky, fun s hs => ?_, fun s hs l hl => ?_⟩
  · rw [que s hs]
    exact nodup_noticeQ (W.qn s hs)
  · rw [que s hs] at hl
    rcases mem_noticeQ.mp hl with z | z
    · exact W.qe s hs l z
    · exact z.1
theorem WF.arrived (W : WF S) {t m : Int} (ht : t ∈ S.srcs) (hm : 0 ≤ m) : WF (arrived S t m) := (W.units (by have := W.un t ht; omega)).notified t
theorem WF.read (W : WF S) {t : Int} {mo : Option Int} (ht : t ∈ S.srcs) (hm : ∀ m, mo = some m → 1 ≤ m) : WF (readS S t mo) := by
  refine W.units ?_
  have := W.un t ht
  cases mo with
  | none =>
    show 0 ≤ (S.unit t).1 - (S.unit t).1
    omega
  | some m =>
    show 0 ≤ (S.unit t).1 - (if (S.unit t).1 < m then (S.unit t).1 else m)
    split <;> omega
theorem WF.added (W : WF S) {s l : Int} {r : Reg} (hs : s ∈ S.sets) (l0 : 0 ≤ l) (l1 : l ≤ 999999) (hr : r.src ∈ S.srcs) (n0 : 0 ≤ r.num) (n1 : r.num < S.N) (hw : r.word ∈ wordsL) (hl : l ∉ S.ents s) (hk : (S.ents s).find? (keyOf (S.reg s) r.num r.src) = none) : WF (added S s l r) := by
  have e1 : (Wn.added S s l r).ents s = S.ents s ++ [l] := if_pos rfl
  have e2 : ∀ j, j ≠ s → (Wn.added S s l r).ents j = S.ents j := fun j h => if_neg h
  have r1 : (Wn.added S s l r).reg s l = r := if_pos ⟨rfl, rfl⟩
  have r2 : ∀ j i, ¬ (j = s ∧ i = l) → (Wn.added S s l r).reg j i = S.reg j i := fun j i h => if_neg h
  have q1 : (Wn.added S s l r).que s = if ready S r.src = true then qAdd l (S.que s) else S.que s := if_pos rfl
  have q2 : ∀ j, j ≠ s → (Wn.added S s l r).que j = S.que j := fun j h => if_neg h
  have mem : ∀ j i, i ∈ (Wn.added S s l r).ents j → (j = s ∧ i = l) ∨ (i ∈ S.ents j ∧ ¬ (j = s ∧ i = l)) := fun j i hi => by
    by_cases z : j = s
    · rw [z, e1, List.mem_append, List.mem_singleton] at hi
      rcases hi with y | y
      · exact .inr ⟨z ▸ y, fun x => hl (x.2 ▸ y)⟩
      · exact .inl ⟨z, y⟩
    · rw [e2 j z] at hi
      exact .inr ⟨hi, fun x => z x.1⟩
  have nk : ∀ i ∈ S.ents s, (S.reg s i).num = r.num → (S.reg s i).src = r.src → False := fun i hi a b => by
    have := List.find?_eq_none.mp hk i hi
    unfold keyOf at this
    rw [decide_eq_true a, decide_eq_true b] at this
    exact this rfl
  refine ⟨W.P2, W.P6, W.N3, W.N8, W.pn, W.pr, W.tl, W.nx, W.kd, W.dj, W.sn, W.en, W.un, fun j hj => ?_, fun j hj i hi => ?_, fun j hj i hi => ?_, fun j hj i hi => ?_, fun j hj i hi => ?_, fun j hj i hi k hk2 a b => ?_, fun j hj => ?_, fun j hj i hi => ?_⟩
  · by_cases z : j = s
    · rw [z, e1]
      exact nodup_snoc (W.ln s hs) hl
    · rw [e2 j z]
      exact W.ln j hj
  · rcases mem j i hi with ⟨_, z⟩ | ⟨z, _⟩
    · rw [z]
      exact ⟨l0, l1⟩
    · exact W.lb j hj i z
  · rcases mem j i hi with ⟨z, y⟩ | ⟨z, y⟩
    · rw [z, y, r1]
      exact hr
    · rw [r2 j i y]
      exact W.rs j hj i z
  · rcases mem j i hi with ⟨z, y⟩ | ⟨z, y⟩
    · rw [z, y, r1]
      exact ⟨n0, n1⟩
    · rw [r2 j i y]
      exact W.rn j hj i z
  · rcases mem j i hi with ⟨z, y⟩ | ⟨z, y⟩
    · rw [z, y, r1]
      exact hw
    · rw [r2 j i y]
      exact W.rw_ j hj i z
  · rcases mem j i hi with ⟨z, y⟩ | ⟨z, y⟩
    · subst z y
      rcases mem j k hk2 with ⟨_, x⟩ | ⟨x, x2⟩
      · exact x.symm
      · rw [r1, r2 j k x2] at a b
        exact (nk k x a.symm b.symm).elim
    · rcases mem j k hk2 with ⟨x, x2⟩ | ⟨x, x2⟩
      · subst x x2
        rw [r1, r2 j i y] at a b
        exact (nk i z a b).elim
      · rw [r2 j i y, r2 j k x2] at a b
        exact W.ky j hj i z k x a b
  · by_cases z : j = s
    · rw [z, q1]
      split
      · exact nodup_qAdd (W.qn s hs)
      · exact W.qn s hs
    · rw [q2 j z]
      exact W.qn j hj
  · by_cases z : j = s
    · rw [z, q1] at hi
      rw [z, e1, List.mem_append, List.mem_singleton]
      split at hi
      · unfold qAdd at hi
        split at hi
        · exact .inl (W.qe s hs i hi)
        · rw [List.mem_append, List.mem_singleton] at hi
          exact hi.imp (W.qe s hs i) id
      · exact .inl (W.qe s hs i hi)
    · rw [q2 j z] at hi
      rw [e2 j z]
      exact W.qe j hj i hi
/-- registrations that keep number and source -/
theorem WF.regs {S' : Sys} (W : WF S) (e0 : S'.P = S.P ∧ S'.N = S.N ∧ S'.next = S.next ∧ S'.procs = S.procs ∧ S'.tab = S.tab ∧ S'.srcs = S.srcs ∧ S'.unit = S.unit ∧ S'.sets = S.sets ∧ S'.ents = S.ents) (rg : ∀ s ∈ S.sets, ∀ l ∈ S.ents s, (S'.reg s l).num = (S.reg s l).num ∧ (S'.reg s l).src = (S.reg s l).src ∧ (S'.reg s l).word ∈ wordsL)
    (qn : ∀ s ∈ S.sets, (S'.que s).Nodup) (qe : ∀ s ∈ S.sets, ∀ l ∈ S'.que s, l ∈ S.ents s) : WF S' := by
  obtain ⟨P, N, next, procs, tab, srcs, unit, sets, ents, reg, que⟩ := S'
  obtain ⟨a1, a2, a3, a4, a5, a6, a7, a8, a9⟩ := e0
  dsimp only at a1 a2 a3 a4 a5 a6 a7 a8 a9
  subst a1 a2 a3 a4 a5 a6 a7 a8 a9
  refine ⟨W.P2, W.P6, W.N3, W.N8, W.pn, W.pr, W.tl, W.nx, W.kd, W.dj, W.sn, W.en, W.un, W.ln, W.lb, fun s hs l hl => ?_, fun s hs l hl => ?_, fun s hs l hl => (rg s hs l hl).2.2, fun s hs l hl j hj a b => ?_, qn, qe⟩
  · rw [(rg s hs l hl).2.1]
    exact W.rs s hs l hl
  · rw [(rg s hs l hl).1]
    exact W.rn s hs l hl
  · rw [(rg s hs l hl).1, (rg s hs j hj).1] at a
    rw [(rg s hs l hl).2.1, (rg s hs j hj).2.1] at b
    exact W.ky s hs l hl j hj a b
/-- what a wait leaves -/
theorem take_keeps {unit : Int → Int × Bool} {most : Int} {reg : Int → Reg} : ∀ (ls A : List Int) (s : TSt), s.que = ls ++ A → (ls ++ A).Nodup → (∀ j, (s.reg j).num = (reg j).num ∧ (s.reg j).src = (reg j).src ∧ (s.reg j).word = (reg j).word) →
    ((takeAll unit most ls s).que.Nodup ∧ (∀ x ∈ (takeAll unit most ls s).que, x ∈ ls ++ A) ∧ ∀ j, ((takeAll unit most ls s).reg j).num = (reg j).num ∧ ((takeAll unit most ls s).reg j).src = (reg j).src ∧ ((takeAll unit most ls s).reg j).word = (reg j).word)
  | [], A, s, hq, nd, hr => by
    refine ⟨?_, fun x hx => ?_, hr⟩
    · show s.que.Nodup
      rw [hq]
      exact nd
    · rw [← hq]
      exact hx
  | l :: ls, A, s, hq, nd, hr => by
    show (_ : Prop)
    unfold takeAll
    by_cases hm : (s.reps.length : Int) = most
    · rw [if_pos hm]
      exact ⟨by rw [hq]; exact nd, fun x hx => by rw [← hq]; exact hx, hr⟩
    · rw [if_neg hm]
      have hd : s.que.drop 1 = ls ++ A := by rw [hq]; rfl
      have nd2 : (ls ++ A).Nodup := (List.nodup_cons.mp (show (l :: (ls ++ A)).Nodup from nd)).2
      have nl : l ∉ ls ++ A := (List.nodup_cons.mp (show (l :: (ls ++ A)).Nodup from nd)).1
      have st : ∀ j, (settled s.reg l j).num = (reg j).num ∧ (settled s.reg l j).src = (reg j).src ∧ (settled s.reg l j).word = (reg j).word := fun j => by
        unfold settled
        split
        · rename_i h
          rw [h.1]
          exact hr l
        · exact hr j
      have plain : ∀ (s2 : TSt), s2.que = ls ++ A → (∀ j, (s2.reg j).num = (reg j).num ∧ (s2.reg j).src = (reg j).src ∧ (s2.reg j).word = (reg j).word) → _ := fun s2 h1 h2 => take_keeps (unit := unit) (most := most) (reg := reg) ls A s2 h1 nd2 h2
      have back : ∀ (s2 : TSt), s2.que = ls ++ (A ++ [l]) → (∀ j, (s2.reg j).num = (reg j).num ∧ (s2.reg j).src = (reg j).src ∧ (s2.reg j).word = (reg j).word) → _ := fun s2 h1 h2 => take_keeps (unit := unit) (most := most) (reg := reg) ls (A ++ [l]) s2 h1 (by rw [← List.append_assoc]; exact nodup_snoc nd2 nl) h2
      have w1 : ∀ x, x ∈ ls ++ A → x ∈ l :: ls ++ A := fun x hx => List.mem_cons_of_mem _ hx
      have w2 : ∀ x, x ∈ ls ++ (A ++ [l]) → x ∈ l :: ls ++ A := fun x hx => by
        rw [← List.append_assoc, List.mem_append, List.mem_singleton] at hx
        rcases hx with z | z
        · exact List.mem_cons_of_mem _ z
        · rw [z]
          exact List.mem_cons_self
      unfold takeStep
      split
      · by_cases hw : (s.reg l).word = "level"
        · obtain ⟨a, b, c⟩ := back ⟨s.reps ++ [(l, (unit (s.reg l).src).1, (unit (s.reg l).src).2)], s.que.drop 1 ++ [l], settled s.reg l⟩ (by show s.que.drop 1 ++ [l] = _; rw [hd, List.append_assoc]) st
          rw [if_pos hw]
          exact ⟨a, fun x hx => w2 x (b x hx), c⟩
        · obtain ⟨a, b, c⟩ := plain ⟨s.reps ++ [(l, (unit (s.reg l).src).1, (unit (s.reg l).src).2)], s.que.drop 1, settled s.reg l⟩ hd st
          rw [if_neg hw]
          exact ⟨a, fun x hx => w1 x (b x hx), c⟩
      · obtain ⟨a, b, c⟩ := plain ⟨s.reps, s.que.drop 1, s.reg⟩ hd hr
        exact ⟨a, fun x hx => w1 x (b x hx), c⟩
theorem WF.waited (W : WF S) {s most : Int} (hs : s ∈ S.sets) : WF (waited S s most) := by
  obtain ⟨a, b, c⟩ := take_keeps (unit := S.unit) (most := most) (reg := S.reg s) (S.que s) [] ⟨[], S.que s, S.reg s⟩ (List.append_nil _).symm (by rw [List.append_nil]; exact W.qn s hs) fun j => ⟨rfl, rfl, rfl⟩
  refine W.regs ⟨rfl, rfl, rfl, rfl, rfl, rfl, rfl, rfl, rfl⟩ (fun j hj i hi => ?_) (fun j hj => ?_) fun j hj i hi => ?_
  · show ((if j = s then (took S s most).reg else S.reg j) i).num = _ ∧ ((if j = s then (took S s most).reg else S.reg j) i).src = _ ∧ ((if j = s then (took S s most).reg else S.reg j) i).word ∈ _
    split
    · rename_i z
      rw [z]
      exact ⟨(c i).1, (c i).2.1, by rw [show ((took S s most).reg i).word = _ from (c i).2.2]; exact W.rw_ s hs i (z ▸ hi)⟩
    · exact ⟨rfl, rfl, W.rw_ j hj i hi⟩
  · show (if j = s then (took S s most).que else S.que j).Nodup
    split
    · exact a
    · exact W.qn j hj
  · have hi : i ∈ (if j = s then (took S s most).que else S.que j) := hi
    split at hi
    · rename_i z
      rw [z]
      have := b i hi
      rw [List.append_nil] at this
      exact W.qe s hs i this
    · exact W.qe j hj i hi
theorem WF.start {P N : Int} (p2 : 2 ≤ P) (p6 : P ≤ 6) (n3 : 3 ≤ N) (n8 : N ≤ 8) : WF (newSys P N) := by
  have nt : ∀ q t, ¬ some t ∈ (newSys P N).tab q := fun q t h => by
    have := List.eq_of_mem_replicate (show some t ∈ List.replicate N.toNat none from h)
    cases this
  refine ⟨p2, p6, n3, n8, by show [(0 : Int)].Nodup; decide, fun p hp => ?_, fun p hp => List.length_replicate .., fun p hp t h => absurd h (nt p t), fun t => ⟨fun ⟨q, _, h⟩ => absurd h (nt q t), fun h => h.elim (fun z => absurd z List.not_mem_nil) fun z => absurd z List.not_mem_nil⟩, fun t h => absurd h List.not_mem_nil, List.nodup_nil, List.nodup_nil, fun t h => absurd h List.not_mem_nil, fun s h => absurd h List.not_mem_nil, fun s h => absurd h List.not_mem_nil, fun s h => absurd h List.not_mem_nil, fun s h => absurd h List.not_mem_nil, fun s h => absurd h List.not_mem_nil, fun s h => absurd h List.not_mem_nil, fun s h => absurd h List.not_mem_nil, fun s h => absurd h List.not_mem_nil⟩
  rw [List.mem_singleton.mp (show p ∈ [(0 : Int)] from hp)]
  show (0 : Int) ≤ 0 ∧ 0 < P
  omega
end

def toI : V → Int
  | .int i => i
  | _ => 0
def toS : V → Str
  | .str z => z
  | _ => Str.empty
def goalOf (S : Sys) (p : Int) (to : V) : Except Er Nat := if to = .non then (match firstN (S.tab p) with
    | some m => .ok m
    | none => .error (.full (.int p))) else if inB to 0 (S.N - 1) = true then .ok (toI to).toNat else .error (.num to)
def copyM (S : Sys) (p n to : V) : Except Er (Nat × Int) := match thing S p n with
  | .ok t => (match goalOf S (toI p) to with
    | .ok m => .ok (m, t)
    | .error e => .error e)
  | .error e => .error e
theorem inB_ok {x : V} {a b : Int} (h : inB x a b = true) : ∃ j, x = .int j ∧ a ≤ j ∧ j ≤ b := by
  cases x with
  | int j =>
    have h : (decide (a ≤ j) && decide (j ≤ b)) = true := h
    rw [Bool.and_eq_true, decide_eq_true_eq, decide_eq_true_eq] at h
    exact ⟨j, rfl, h⟩
  | _ => cases h
theorem inB_of {j a b : Int} (h1 : a ≤ j) (h2 : j ≤ b) : inB (.int j) a b = true := by
  show (decide (a ≤ j) && decide (j ≤ b)) = true
  rw [decide_eq_true h1, decide_eq_true h2]
  rfl
def firstP (S : Sys) : Option Nat := (List.range S.P.toNat).find? fun m => !decide ((m : Int) ∈ S.procs)
theorem firstP_some {S : Sys} {m : Nat} (h : firstP S = some m) : FreeP S m := by
  unfold firstP at h
  rw [List.find?_eq_some_iff_getElem] at h
  obtain ⟨h1, i, hi, e, h2⟩ := h
  rw [List.getElem_range] at e
  subst e
  rw [List.length_range] at hi
  have h1 : (i : Int) ∉ S.procs := by
    rw [Bool.not_eq_true', decide_eq_false_iff_not] at h1
    exact h1
  refine ⟨h1, fun j hj => ?_, by omega⟩
  have := h2 j hj
  rw [List.getElem_range, Bool.not_not, decide_eq_true_eq] at this
  exact this
theorem firstP_none {S : Sys} (h : firstP S = none) : NoFree S := by
  unfold firstP at h
  rw [List.find?_eq_none] at h
  refine ⟨fun i hi => ?_⟩
  have := h i (List.mem_range.mpr (by omega))
  rw [Bool.not_eq_true, Bool.not_eq_false', decide_eq_true_eq] at this
  exact this
theorem freeP_uniq {S : Sys} {m n : Nat} (a : FreeP S m) (b : FreeP S n) : m = n := by
  rcases Nat.lt_trichotomy m n with h | h | h
  · exact absurd (b.lo m h) a.no
  · exact h
  · exact absurd (a.lo n h) b.no
theorem firstP_of {S : Sys} {m : Nat} (h : FreeP S m) : firstP S = some m := by
  cases e : firstP S with
  | none => exact absurd ((firstP_none e).all m h.hi) h.no
  | some n => rw [freeP_uniq (firstP_some e) h]
def forkM (S : Sys) (p : V) : Except Er (Int × Nat) := match tabOf S p with
  | .ok q => (match firstP S with
    | some m => .ok (q, m)
    | none => .error .noroom)
  | .error e => .error e
/-- the first i numbers of a process are closed -/
def endUp (S : Sys) (p : Int) : Nat → Sys
  | 0 => S
  | i + 1 => match ((endUp S p i).tab p)[i]? with
    | some (some t) => closed (endUp S p i) p (i : Int) t
    | _ => endUp S p i
def endS (S : Sys) (p : Int) : Sys := goneP (endUp S p S.N.toNat) p
section
variable {P : Program} {w : World} {K : PySem.W.Frag} {mg : Str → Option Value} {base : Heap} {C : Cs} {D : Es}
/-! close -/
def spCloseX (C : Cs) (D : Es) : Sp := fun vs H Q E => ∃ p n : V, OnSys C vs H [p, n] fun S ad dx => WF S ∧ Flat H p ∧ Flat H n ∧ Res D H E (thing S p n) fun t => ∀ H' ad', At C H' (closed S (toI p) (toI n) t) ad' dx → Step H S ad H' (closed S (toI p) (toI n) t) ad' → Q .non H'
theorem scClose : FnScope ["self", "process", "number"] ["self", "process", "number"] (defScope sClose) := ⟨rfl, rfl, rfl, by decide +kernel, rfl, by decide +kernel, by decide +kernel⟩
theorem okCloseX {f fT fF : Addr} {fd fdT fdF : FuncData} (F : Fun K "close" "System.close" sClose f fd) (T : ClsF K C.S sysF) (GT : MX P w K mg base 4 C.S "thing_at" ["self", "process", "number"] (spThingX C D) fT fdT) (GF : MO P w K mg base 4 C.S "free" ["self", "process", "number"] (spFree C) fF fdF) :
    FnOk P w K mg base (L2.CX P w) 5 f fd ["self", "process", "number"] (spCloseX C D) := by
  refine F.okX scClose (fun vs H Q E h => ?_) (fun cdv A outer s H vs Q E hr h => ?_)
  · obtain ⟨_, _, _, _, _, rfl, _⟩ := h
    rfl
  · obtain ⟨p, n, S, ad, dx, rfl, A0, W, fp, fn, k⟩ := h
    refine ⟨_, pss_cons (ps_expr (pe_meth (pv 0) T.cl GT.m GT.g hr GT.b .nil (passX (takes_of rfl rfl rfl rfl)) (pa_cons (pv 1) (pa_cons (pv 2) pa_nil))))
      (pss_one (ps_expr (pe_meth (pv 0) T.cl GF.m GF.g hr GF.b .nil pass0 (pa_cons (pv 1) (pa_cons (pv 2) pa_nil))))), ?_⟩
    have hb := A0.at_ .box trivial
    walk_at "wn"
    refine ⟨_, rfl, ad .box, dx .box, _, rfl, hb, rfl, ?_⟩
    walk_at "wn"
    refine ⟨p, n, S, ad, dx, rfl, A0, W, fp, fn, ?_⟩
    cases et : thing S p n with
    | error e =>
      rw [et] at k
      exact k
    | ok t =>
      rw [et] at k
      obtain ⟨i, j, rfl, rfl, M⟩ := thing_ok et
      refine res_ok rfl ?_
      walk_at "wn"
      refine ⟨_, rfl, ad .box, dx .box, _, rfl, hb, rfl, ?_⟩
      walk_at "wn"
      exact ⟨i, j, t, S, ad, dx, rfl, A0, M, by have := W.pl; omega, fun h => (W.kind M).resolve_right h, W.tidy, fun H' ad' A1 st1 _ => k H' ad' A1 st1⟩
/-! copy -/
def spCopyX (C : Cs) (D : Es) : Sp := fun vs H Q E => ∃ p n to : V, OnSys C vs H [p, n, to] fun S ad dx => WF S ∧ Flat H p ∧ Flat H n ∧ Flat H to ∧ Res D H E (copyM S p n to) fun r => ∀ H' ad', At C H' (pasted S (toI p) r.1 r.2) ad' dx → Step H S ad H' (pasted S (toI p) r.1 r.2) ad' → Q (.int (r.1 : Int)) H'
theorem scCopy : FnScope ["self", "process", "number", "to", "thing", "goal", "table"] ["self", "process", "number", "to"] (defScope sCopy) := ⟨rfl, rfl, rfl, by decide +kernel, rfl, by decide +kernel, by decide +kernel⟩
theorem okCopyX {dvs : List V} {kws : List (Str × V)} {f fT fN fF fR : Addr} {fd fdT fdN fdF fdR : FuncData} (F : FunD K "copy" "System.copy" (defArgs sCopy) (defBody sCopy) (defScope sCopy) dvs kws f fd) (T : ClsF K C.S sysF) (R : ErTx P w K mg base D)
    (GT : MX P w K mg base 4 C.S "thing_at" ["self", "process", "number"] (spThingX C D) fT fdT) (GN : MO P w K mg base 3 C.S "is_table_number" ["self", "number"] (spNumX C) fN fdN) (GF : MX P w K mg base 4 C.S "free_number" ["self", "process"] (spFreeX C D) fF fdF) (GR : MO P w K mg base 4 C.S "free" ["self", "process", "number"] (spFree C) fR fdR) :
    FnOk P w K mg base (L2.CX P w) 5 f fd ["self", "process", "number", "to"] (spCopyX C D) := by
  refine F.ok scCopy (fun vs H Q E h => ?_) (fun cdv A outer s H vs Q E hr h => ?_)
  · obtain ⟨_, _, _, _, _, _, rfl, _⟩ := h
    rfl
  · obtain ⟨p0, n, to, S, ad, dx, rfl, A0, W, fp, fn, ft, k⟩ := h
    have hu := hu_of hr
    have hr2 : Room 2 _ := hr.mono (by decide)
    have hr3 : Room 3 _ := hr.mono (by decide)
    refine ⟨_, pss_cons (ps_set (i := 4) scCopy.nd rfl (Or.inl rfl) (pe_meth (pv 0) T.cl GT.m GT.g hr GT.b .nil (passX (takes_of rfl rfl rfl rfl)) (pa_cons (pv 1) (pa_cons (pv 2) pa_nil))))
      (pss_cons (ps_if (PW.pt (pw_and (pt_cmpR oNotN (pv 3) pe_non (nomark _)) (pw_and1 (pt_not (pt_val (pe_meth (pv 0) T.cl GN.m GN.g hr3 GN.b .nil pass0 (pa_cons (pv 3) pa_nil))))))) (pss_one (ps_thr R.num bxLookup (takes_of rfl rfl rfl rfl) hr2 (pv 3))) pss_nil)
      (pss_cut (ps_set (i := 5) scCopy.nd rfl (Or.inl rfl) (pe_ifExp (pt_cmpR oIsN (pv 3) pe_non (nomark _)) (pe_meth (pv 0) T.cl GF.m GF.g hr GF.b .nil (passX (takes_of rfl rfl rfl rfl)) (pa_cons (pv 1) pa_nil)) (pv 3)))
      (pss_cons (ps_set (i := 6) scCopy.nd rfl (Or.inl rfl) (pe_dget hu (pe_fld (pv 0) rfl) (pv 1) (fun _ _ => rfl)))
      (pss_cons (ps_if (pt_cmpR op_ne (pe_ix ix_list (pv 6) (pv 5) (fun _ _ => rfl)) (pv 4) (nomark _))
        (pss_cons (ps_if (pt_cmpR oNotN (pe_ix ix_list (pv 6) (pv 5) (fun _ _ => rfl)) pe_non (nomark _)) (pss_one (ps_expr (pe_meth (pv 0) T.cl GR.m GR.g hr GR.b .nil pass0 (pa_cons (pv 1) (pa_cons (pv 5) pa_nil))))) pss_nil)
        (pss_one (ps_asg (pv 4) (pg_sub (pv 6) (pv 5) set_list)))) pss_nil)
      (pss_one (ps_ret (pv 5))))))), ?_⟩
    have hb := A0.at_ .box trivial
    walk_at "wn"
    refine ⟨_, rfl, ad .box, dx .box, _, rfl, hb, rfl, ?_⟩
    walk_at "wn"
    refine ⟨p0, n, S, ad, dx, rfl, A0, W, fp, fn, ?_⟩
    unfold copyM at k
    cases et : thing S p0 n with
    | error e =>
      rw [et] at k
      exact k
    | ok t =>
    rw [et] at k
    obtain ⟨p, j, rfl, rfl, M⟩ := thing_ok et
    have k : Res D H E (match goalOf S p to with
      | .ok m => .ok (m, t)
      | .error e => .error e) fun r => ∀ H' ad', At C H' (pasted S p r.1 r.2) ad' dx → Step H S ad H' (pasted S p r.1 r.2) ad' → Q (.int (r.1 : Int)) H' := k
    have tl := W.tl p M.pr
    have N3 := W.N3
    refine res_ok rfl ?_
    -- what it is copied onto
    have body : ∀ m : Nat, goalOf S p to = .ok m → m < (S.tab p).length → ∀ H', Same H H' → (∀ H2 ad', At C H2 (pasted S p m t) ad' dx → Step H' S ad H2 (pasted S p m t) ad' → Q (.int (m : Int)) H2) := fun m em _ H' s H2 ad' A2 st2 => by
      rw [em] at k
      exact k H2 ad' A2 ((Step.same s).trans st2)
    by_cases hn : to = .non
    · subst hn
      have eg : goalOf S p .non = (match firstN (S.tab p) with
        | some m => .ok m
        | none => .error (.full (.int p))) := if_pos rfl
      walk_at "wn"
      refine ⟨fun σ' H' => ∃ m : Nat, goalOf S p .non = .ok m ∧ m < (S.tab p).length ∧ σ' = [some (.ref (ad .box)), some (.int p), some (.int j), some .non, some (.int t), some (.int (m : Int)), none] ∧ Same H H', ?_, ?_⟩
      · walk_at "wn"
        refine ⟨_, rfl, ad .box, dx .box, _, rfl, hb, rfl, ?_⟩
        walk_at "wn"
        refine ⟨.int p, S, ad, dx, rfl, A0, W, fp, ?_⟩
        rw [eg] at k
        unfold freeOf
        rw [tabOf_of M.pr]
        show Res D H E (match firstN (S.tab p) with
          | some n => .ok (p, n)
          | none => .error (.full (.int p))) _
        cases ef : firstN (S.tab p) with
        | none =>
          rw [ef] at k
          exact k
        | some m =>
          refine res_ok rfl fun H1 s1 => ?_
          walk_at "wn"
          exact ⟨m, by rw [eg, ef], (List.getElem?_eq_some_iff.mp (firstN_some ef).1).1, rfl, s1⟩
      rintro σ' H1 ⟨m, em, hml, rfl, s1⟩
      have k := body m em hml H1 s1
      replace A0 := A0.same s1
      have hb := A0.at_ .box trivial
      obtain ⟨y, hy⟩ : ∃ y, (S.tab p)[m]? = some y := ⟨_, List.getElem?_eq_getElem hml⟩
      walk_at "wn"
      have ht := A0.at_ (.tab p) M.pr
      have hv : valV (entKV S.procs fun p => ad (.tab p)) (Sum.inl p) = some (.ref (ad (.tab p))) := by rw [ent_val, if_pos M.pr]
      have hat : atI ((S.tab p).map optV) (m : Int) = some (optV y) := atI_nat (by rw [List.getElem?_map, hy]; rfl)
      refine ⟨_, rfl, ad .box, C.S, dx .box, _, _, rfl, hb, T.cl, T.no _ (by decide), rfl, ?_⟩
      refine ⟨_, rfl, ad .tabD, _, rfl, hv ▸ DGet.k (k := Sum.inl p) (A0.at_ .tabD trivial), ?_⟩
      walk_at "wn"
      refine ⟨ad (.tab p), _, (m : Int), _, rfl, rfl, SqL.of ht, hat, ?_⟩
      walk_at "wn"

      cases y with
      | none =>
        refine g_rNe rfl ?_
        rw [decide_eq_false (show ¬ optV none = V.int t from fun z => nomatch z)]
        walk_at "wn"
        refine ⟨ad (.tab p), _, (m : Int), _, rfl, rfl, SqL.of ht, hat, ?_⟩
        walk_at "wn"
        refine ⟨ad (.tab p), _, (m : Int), m, rfl, rfl, ht, by rw [List.length_map]; exact ixN_nat hml, ?_⟩
        walk_at "wn"
        have e : pasted S p m t = copied S p m t := by unfold pasted; rw [hy]
        rw [e] at k
        exact k _ ad (A0.cop M.pr).1 (A0.cop M.pr).2
      | some u =>
        by_cases hut : u = t
        · refine g_rNe rfl ?_
          rw [decide_eq_true (show optV (some u) = V.int t from congrArg V.int hut)]
          walk_at "wn"
          have e : pasted S p m t = S := by unfold pasted; rw [hy]; exact if_pos hut
          rw [e] at k
          exact k _ ad A0 (Step.refl)
        · refine g_rNe rfl ?_
          rw [decide_eq_false (show ¬ optV (some u) = V.int t from fun z => hut (V.int.inj z))]
          walk_at "wn"
          refine ⟨ad (.tab p), _, (m : Int), _, rfl, rfl, SqL.of ht, hat, ?_⟩
          walk_at "wn"
          rw [decide_eq_false (show ¬ optV (some u) = V.non from fun z => nomatch z)]
          walk_at "wn"
          refine ⟨_, rfl, ad .box, dx .box, _, rfl, hb, rfl, ?_⟩
          walk_at "wn"
          refine ⟨p, (m : Int), u, S, ad, dx, rfl, A0, ⟨M.pr, by omega, by omega, by rw [Int.toNat_natCast]; exact hy⟩, by have := W.pl; omega, fun h => (W.kind (n := (m : Int)) ⟨M.pr, by omega, by omega, by rw [Int.toNat_natCast]; exact hy⟩).resolve_right h, W.tidy, fun H1 ad1 A1 st1 tb1 => ?_⟩
          have e : pasted S p m t = copied (closed S p (m : Int) u) p m t := by unfold pasted; rw [hy]; exact if_neg hut
          rw [e] at k
          have hp1 : p ∈ (closed S p (m : Int) u).procs := by rw [closed_procs]; exact M.pr
          have ht1 := A1.at_ (.tab p) hp1
          have ct := (A1.cop (t := t) (m := m) hp1)
          rw [tb1 p] at ht1 ct
          have hl1 : ((closed S p (m : Int) u).tab p).length = (S.tab p).length := by
            rw [closed_tab]
            show (if p = p then (S.tab p).set (m : Int).toNat none else S.tab p).length = _
            rw [if_pos rfl, List.length_set]
          walk_at "wn"
          refine ⟨ad (.tab p), _, (m : Int), m, rfl, rfl, ht1, by rw [List.length_map, hl1]; exact ixN_nat hml, ?_⟩
          walk_at "wn"
          exact k _ ad1 ct.1 (st1.trans ct.2)
    · have e0 : decide (to = V.non) = false := decide_eq_false hn
      have eg : goalOf S p to = if inB to 0 (S.N - 1) = true then .ok (toI to).toNat else .error (.num to) := if_neg hn
      walk_at "wn"
      rw [e0]
      walk_at "wn"
      refine ⟨_, rfl, ad .box, dx .box, _, rfl, hb, rfl, ?_⟩
      walk_at "wn"
      refine ⟨to, S, ad, dx, rfl, A0, ft.ob, ?_⟩
      cases hi : inB to 0 (S.N - 1) with
      | false =>
        rw [eg, hi] at k
        refine ⟨_, rfl, ?_⟩
        refine iteT ?_
        exact g_thr rfl ft k
      | true =>
      obtain ⟨j2, rfl, j0, j1⟩ := inB_ok hi
      obtain ⟨m, rfl⟩ := Int.eq_ofNat_of_zero_le j0
      have em : goalOf S p (.int (m : Int)) = .ok m := by rw [eg, if_pos hi]; rfl
      refine ⟨_, rfl, ?_⟩
      refine iteF ?_
      refine ⟨fun σ' H' => goalOf S p (.int (m : Int)) = .ok m ∧ m < (S.tab p).length ∧ σ' = [some (.ref (ad .box)), some (.int p), some (.int j), some (.int (m : Int)), some (.int t), some (.int (m : Int)), none] ∧ Same H H', ?_, ?_⟩
      · walk_at "wn"
        rw [e0]
        walk_at "wn"
        exact ⟨em, by omega, rfl, Same.refl _⟩
      rintro σ' H1 ⟨em, hml, rfl, s1⟩
      have k := body m em hml H1 s1
      replace A0 := A0.same s1
      have hb := A0.at_ .box trivial
      obtain ⟨y, hy⟩ : ∃ y, (S.tab p)[m]? = some y := ⟨_, List.getElem?_eq_getElem hml⟩
      walk_at "wn"
      have ht := A0.at_ (.tab p) M.pr
      have hv : valV (entKV S.procs fun p => ad (.tab p)) (Sum.inl p) = some (.ref (ad (.tab p))) := by rw [ent_val, if_pos M.pr]
      have hat : atI ((S.tab p).map optV) (m : Int) = some (optV y) := atI_nat (by rw [List.getElem?_map, hy]; rfl)
      refine ⟨_, rfl, ad .box, C.S, dx .box, _, _, rfl, hb, T.cl, T.no _ (by decide), rfl, ?_⟩
      refine ⟨_, rfl, ad .tabD, _, rfl, hv ▸ DGet.k (k := Sum.inl p) (A0.at_ .tabD trivial), ?_⟩
      walk_at "wn"
      refine ⟨ad (.tab p), _, (m : Int), _, rfl, rfl, SqL.of ht, hat, ?_⟩
      walk_at "wn"

      cases y with
      | none =>
        refine g_rNe rfl ?_
        rw [decide_eq_false (show ¬ optV none = V.int t from fun z => nomatch z)]
        walk_at "wn"
        refine ⟨ad (.tab p), _, (m : Int), _, rfl, rfl, SqL.of ht, hat, ?_⟩
        walk_at "wn"
        refine ⟨ad (.tab p), _, (m : Int), m, rfl, rfl, ht, by rw [List.length_map]; exact ixN_nat hml, ?_⟩
        walk_at "wn"
        have e : pasted S p m t = copied S p m t := by unfold pasted; rw [hy]
        rw [e] at k
        exact k _ ad (A0.cop M.pr).1 (A0.cop M.pr).2
      | some u =>
        by_cases hut : u = t
        · refine g_rNe rfl ?_
          rw [decide_eq_true (show optV (some u) = V.int t from congrArg V.int hut)]
          walk_at "wn"
          have e : pasted S p m t = S := by unfold pasted; rw [hy]; exact if_pos hut
          rw [e] at k
          exact k _ ad A0 (Step.refl)
        · refine g_rNe rfl ?_
          rw [decide_eq_false (show ¬ optV (some u) = V.int t from fun z => hut (V.int.inj z))]
          walk_at "wn"
          refine ⟨ad (.tab p), _, (m : Int), _, rfl, rfl, SqL.of ht, hat, ?_⟩
          walk_at "wn"
          rw [decide_eq_false (show ¬ optV (some u) = V.non from fun z => nomatch z)]
          walk_at "wn"
          refine ⟨_, rfl, ad .box, dx .box, _, rfl, hb, rfl, ?_⟩
          walk_at "wn"
          refine ⟨p, (m : Int), u, S, ad, dx, rfl, A0, ⟨M.pr, by omega, by omega, by rw [Int.toNat_natCast]; exact hy⟩, by have := W.pl; omega, fun h => (W.kind (n := (m : Int)) ⟨M.pr, by omega, by omega, by rw [Int.toNat_natCast]; exact hy⟩).resolve_right h, W.tidy, fun H1 ad1 A1 st1 tb1 => ?_⟩
          have e : pasted S p m t = copied (closed S p (m : Int) u) p m t := by unfold pasted; rw [hy]; exact if_neg hut
          rw [e] at k
          have hp1 : p ∈ (closed S p (m : Int) u).procs := by rw [closed_procs]; exact M.pr
          have ht1 := A1.at_ (.tab p) hp1
          have ct := (A1.cop (t := t) (m := m) hp1)
          rw [tb1 p] at ht1 ct
          have hl1 : ((closed S p (m : Int) u).tab p).length = (S.tab p).length := by
            rw [closed_tab]
            show (if p = p then (S.tab p).set (m : Int).toNat none else S.tab p).length = _
            rw [if_pos rfl, List.length_set]
          walk_at "wn"
          refine ⟨ad (.tab p), _, (m : Int), m, rfl, rfl, ht1, by rw [List.length_map, hl1]; exact ixN_nat hml, ?_⟩
          walk_at "wn"
          exact k _ ad1 ct.1 (st1.trans ct.2)
/-! fork -/
def spForkX (C : Cs) (D : Es) : Sp := fun vs H Q E => ∃ x : V, OnSys C vs H [x] fun S ad dx => WF S ∧ Flat H x ∧ Res D H E (forkM S x) fun r => ∀ H' ad', At C H' (forked S r.1 r.2) ad' dx → Step H S ad H' (forked S r.1 r.2) ad' → Q (.int (r.2 : Int)) H'
def spFreeProc (C : Cs) : Sp := fun vs H Q _ => OnSys C vs H [] fun S ad dx => S.P ≤ 1000 ∧ 0 ≤ S.P ∧ (∀ m : Nat, FreeP S m → Q (.int (m : Int)) H) ∧ (NoFree S → Q .non H)
theorem scFreeProc : FnScope ["self", "process"] ["self"] (defScope sFreeProc) := ⟨rfl, rfl, rfl, by decide +kernel, rfl, by decide +kernel, by decide +kernel⟩
theorem okFreeProc {f : Addr} {fd : FuncData} (F : Fun K "free_process" "System.free_process" sFreeProc f fd) (rng : mg "range" = none) (T : ClsF K C.S sysF) : FnOk P w K mg base CX0 1 f fd ["self"] (spFreeProc C) := by
  refine F.ok scFreeProc (fun vs H Q E h => ?_) (fun cdv A outer s H vs Q E hr h => ?_)
  · obtain ⟨_, _, _, rfl, _⟩ := h
    rfl
  · obtain ⟨S, ad, dx, rfl, A0, h2, h0, k, kn⟩ := h
    have hu := hu_of hr
    refine ⟨_, pss_cons (ps_for PassesOwn.never rfl (pi_range1 (by rfl) rng (pa_cons (pe_fld (pv 0) rfl) pa_nil)) (pg_name (i := 1) scFreeProc.nd rfl (Or.inl rfl))
      (pss_one (ps_if (pt_cmp (pc_dnotin hu (pv 1) (pe_fld (pv 0) rfl)) rfl) (pss_one (ps_ret (pv 1))) pss_nil))) (pss_one (ps_ret pe_non)), ?_⟩
    have hb := A0.at_ .box trivial
    walk_at "wn"
    show iRng1 _ _ _ _
    show tCons _ _ _ _ _
    walk_at "wn"
    refine ⟨_, rfl, ad .box, C.S, dx .box, _, _, rfl, hb, T.cl, T.no _ (by decide), rfl, ?_⟩
    walk_at "wn"
    refine ⟨_, rfl, by omega, by omega, ?_⟩
    refine for_range (lo := 0) (fun i σ' H1 => ∃ u : Option V, σ' = [some (.ref (ad .box)), u] ∧ H1 = H ∧ ∀ j : Nat, j < i → (j : Int) ∈ S.procs) ⟨_, rfl, rfl, fun j h => absurd h (Nat.not_lt_zero _)⟩ ?_ ?_
    · rintro i σ' H1 hi ⟨u, rfl, rfl, him⟩
      walk_at "wn"
      refine ⟨_, rfl, _, rfl, ad .box, C.S, dx .box, _, _, rfl, hb, T.cl, T.no _ (by decide), rfl, ?_⟩
      refine ⟨ad .tabD, _, rfl, DGet.k (k := Sum.inl (0 + (i : Int))) (A0.at_ .tabD trivial), ?_⟩
      rw [ent_val, Int.zero_add]
      by_cases hm : (i : Int) ∈ S.procs
      · rw [if_pos hm]
        refine ⟨_, rfl, ?_⟩
        show if false = true then _ else _
        walk_at "wn"
        refine ⟨_, rfl, rfl, fun j hj => ?_⟩
        rcases Nat.lt_or_ge j i with z | z
        · exact him j z
        · rw [show j = i by omega]
          exact hm
      · rw [if_neg hm]
        refine ⟨_, rfl, ?_⟩
        show if true = true then _ else _
        walk_at "wn"
        exact k i ⟨hm, him, by omega⟩
    · rintro σ' H1 ⟨u, rfl, rfl, him⟩
      walk_at "wn"
      exact kn ⟨fun i hi => him i (by omega)⟩
theorem scFork : FnScope ["self", "process", "table", "other"] ["self", "process"] (defScope sFork) := ⟨rfl, rfl, rfl, by decide +kernel, rfl, by decide +kernel, by decide +kernel⟩
theorem okForkX {f fT fF : Addr} {fd fdT fdF : FuncData} (F : Fun K "fork" "System.fork" sFork f fd) (X : SysTxt mg) (lst : mg "list" = none) (T : ClsF K C.S sysF) (R : ErTx P w K mg base D) (GT : MX P w K mg base 3 C.S "table_of" ["self", "process"] (spTabX C D) fT fdT) (GF : MO P w K mg base 1 C.S "free_process" ["self"] (spFreeProc C) fF fdF) :
    FnOk P w K mg base (L2.CX P w) 4 f fd ["self", "process"] (spForkX C D) := by
  refine F.okX scFork (fun vs H Q E h => ?_) (fun cdv A outer s H vs Q E hr h => ?_)
  · obtain ⟨_, _, _, _, rfl, _⟩ := h
    rfl
  · obtain ⟨x, S, ad, dx, rfl, A0, W, fl, k⟩ := h
    obtain ⟨fI, fdI, TE, GI⟩ := R.noroom
    have hu := hu_of hr
    have hr1 : Room 1 _ := hr.mono (by decide)
    have hr2 : Room 2 _ := hr.mono (by decide)
    have hr3 : Room 3 _ := hr.mono (by decide)
    refine ⟨_, pss_cons (ps_set (i := 2) scFork.nd rfl (Or.inl rfl) (pe_meth (pv 0) T.cl GT.m GT.g hr3 GT.b .nil (passX (takes_of rfl rfl rfl rfl)) (pa_cons (pv 1) pa_nil)))
      (pss_cons (ps_set (i := 3) scFork.nd rfl (Or.inl rfl) (pe_meth0 (pv 0) T.cl GF.m GF.g hr1 GF.b .nil pass0))
      (pss_cons (ps_if (pt_cmpR oIsN (pv 3) pe_non (nomark _)) (pss_one (ps_raise rfl (takes_of rfl rfl rfl rfl) (pmk_oxb0 bxOverflow TE.ox TE.iC TE.tI GI hr2 TE.bI pass0 (by rfl) TE.gC))) pss_nil)
      (pss_cons (ps_dput hu (pe_fld (pv 0) rfl) (pv 3) (pe_callTy call_list_of (by rfl) lst PyProof.Rows.boot_list (pa_cons (pv 2) pa_nil)) rfl)
      (pss_one (ps_ret (pv 3)))))), ?_⟩
    have hb := A0.at_ .box trivial
    have hD : H (ad .tabD) = some (.dK (entKV S.procs fun p => ad (.tab p))) := A0.at_ .tabD trivial
    walk_at "wn"
    refine ⟨_, rfl, ad .box, dx .box, _, rfl, hb, rfl, ?_⟩
    walk_at "wn"
    refine ⟨x, S, ad, dx, rfl, A0, fl, ?_⟩
    unfold forkM at k
    cases et : tabOf S x with
    | error e =>
      rw [et] at k
      exact k
    | ok p =>
    rw [et] at k
    obtain ⟨rfl, hp⟩ := tabOf_ok et
    have ht := A0.at_ (.tab p) hp
    have hP : S.P ≤ 1000 := by have := W.P6; omega
    have hP0 : 0 ≤ S.P := by have := W.P2; omega
    have hl : (S.tab p).length ≤ 900 := by have := W.t8 hp; omega
    have hz : S.procs.length ≤ 900 := by have := W.pl; omega
    have k : Res D H E (match firstP S with
      | some m => .ok (p, m)
      | none => .error .noroom) fun r => ∀ H' ad', At C H' (forked S r.1 r.2) ad' dx → Step H S ad H' (forked S r.1 r.2) ad' → Q (.int (r.2 : Int)) H' := k
    have kn : NoFree S → OutN D.noroom H E := fun h => by
      cases e : firstP S with
      | none =>
        rw [e] at k
        exact k
      | some m => exact absurd (h.all m (firstP_some e).hi) (firstP_some e).no
    have k : ∀ m : Nat, FreeP S m → ∀ H' ad', At C H' (forked S p m) ad' dx → Step H S ad H' (forked S p m) ad' → Q (.int (m : Int)) H' := fun m h => by
      rw [firstP_of h] at k
      exact k
    refine res_ok rfl ?_
    walk_at "wn"
    refine ⟨_, rfl, ad .box, dx .box, _, rfl, hb, rfl, ?_⟩
    walk_at "wn"
    refine ⟨S, ad, dx, rfl, A0, hP, hP0, fun m M => ?_, fun N => ?_⟩
    case refine_2 =>
      walk_at "wn"
      refine fun a ha => ⟨a, rfl, upd_same, rfl, upd_same, ?_⟩
      refine kn N _ fun b o e => ?_
      rw [del_ne (ne_of_none e ha), upd_ne (ne_of_none e ha)]
      exact e
    walk_at "wn"
    have e : decide (V.int (m : Int) = V.non) = false := decide_eq_false fun z => nomatch z
    rw [e]
    walk_at "wn"
    refine ⟨_, rfl, ad (.tab p), _, rfl, .inl (SqL.of ht), fun r hr0 => ?_⟩
    have nbr : ad .box ≠ r := ne_of_none hb hr0
    have nDr : ad .tabD ≠ r := ne_of_none hD hr0
    refine ⟨_, rfl, ad .box, C.S, dx .box, _, _, rfl, by rw [upd_ne nbr]; exact hb, T.cl, T.no _ (by decide), rfl, ?_⟩
    refine ⟨_, rfl, ad .tabD, _, rfl, DPut.k (k := Sum.inl (m : Int)) (by rw [upd_ne nDr]; exact hD) (by unfold entKV; rw [List.length_map, sizeLine_eq]; omega), ?_⟩
    walk_at "wn"
    refine (fun z : At C _ _ _ _ ∧ Step H S ad _ _ _ => k m M _ (setA ad (.tab (m : Int)) r) z.1 z.2) ?_
    refine At.re3 [.tabD, .tab (m : Int)] A0 (fun c lc => ?_) (fun c hc lc => ?_) (fun c hc lc => ?_) (fun c hc lc => ?_) (fun c hc c' hc' lc lc' z e => ?_) (fun b o nb e => ?_) (setA_ne (by intro z; cases z))
    · cases c with
      | tab t =>
        rcases List.mem_append.mp (show t ∈ S.procs ++ [(m : Int)] from lc) with y | y
        · exact .inr y
        · rw [List.mem_singleton.mp y]
          exact .inl (by simp)
      | _ => exact .inr lc
    · simp only [List.mem_cons, List.not_mem_nil, or_false] at hc
      rcases hc with rfl | rfl
      · rw [setA_ne (by intro z; cases z), upd_same, ent_put, if_neg M.no, tab_fun]
        rfl
      · rw [setA_same, upd_ne (Ne.symm nDr), upd_same]
        show _ = some (HO.lst ((if (m : Int) = (m : Int) then S.tab p else S.tab (m : Int)).map optV))
        rw [if_pos rfl]
    · have n1 : c ≠ .tabD := fun z => hc (by rw [z]; simp)
      have n2 : c ≠ .tab (m : Int) := fun z => hc (by rw [z]; simp)
      refine ⟨setA_ne n2, ?_⟩
      cases c with
      | tabD => exact absurd rfl n1
      | tab j =>
        have nj : j ≠ (m : Int) := fun z => n2 (by rw [z])
        show HO.lst ((if j = (m : Int) then S.tab p else S.tab j).map optV) = _
        rw [if_neg nj]
        rfl
      | _ => rfl
    · simp only [List.mem_cons, List.not_mem_nil, or_false] at hc
      rcases hc with rfl | rfl
      · exact .inl ⟨setA_ne (by intro z; cases z), trivial⟩
      · exact .inr (by rw [setA_same]; exact hr0)
    · simp only [List.mem_cons, List.not_mem_nil, or_false] at hc hc'
      rcases hc with rfl | rfl
      · rw [setA_ne (by intro z; cases z), hD] at z
        cases z
      · rcases hc' with rfl | rfl
        · rw [setA_same, setA_ne (by intro z; cases z)] at e
          exact absurd e (Ne.symm nDr)
        · rfl
    · rw [upd_ne (nb .tabD (by simp) trivial), upd_ne (ne_of_none e hr0)]
      exact e
/-! end -/
end

section
variable {P : Program} {w : World} {K : PySem.W.Frag} {mg : Str → Option Value} {base : Heap} {C : Cs} {D : Es}
def spFinish (C : Cs) : Sp := fun vs H Q _ => ∃ p n t : Int, OnSys C vs H [.int p, .int n] fun S ad dx => Means S p n t ∧ t ∈ S.srcs ∧ (S.unit t).2 = false ∧ Small S ∧ ∀ H' ad', At C H' (finished S t) ad' dx → Step H S ad H' (finished S t) ad' → Q .non H'
/-! units -/
def unfin (S : Sys) (t : Int) (n : V) : Except Er Int := if (S.unit t).2 = true then .error (.fin n) else .ok (S.unit t).1
def spUnfinX (C : Cs) (D : Es) : Sp := fun vs H Q E => ∃ (t : Int) (n : V), OnSys C vs H [.int t, n] fun S _ _ => t ∈ S.srcs ∧ Flat H n ∧ Res D H E (unfin S t n) fun u => Q (.int u) H
theorem okUnfinX {f : Addr} {fd : FuncData} (F : Fun K "unread_of_unfinished" "System.unread_of_unfinished" sUnfinished f fd) (T : ClsF K C.S sysF) (R : ErTx P w K mg base D) : FnOk P w K mg base (L2.CX P w) 3 f fd ["self", "source", "number"] (spUnfinX C D) := by
  refine F.okX scUnfinished (fun vs H Q E h => ?_) (fun cdv A outer s H vs Q E hr h => ?_)
  · obtain ⟨_, _, _, _, _, rfl, _⟩ := h
    rfl
  · obtain ⟨t, n, S, ad, dx, rfl, A0, ht, fl, k⟩ := h
    have hu := hu_of hr
    refine ⟨_, pss_cons (ps_asg (pe_dget hu (pe_fld (pv 0) rfl) (pv 1) (fun _ _ => rfl)) (pg_tup rfl (pgs_cons (pg_name (i := 3) scUnfinished.nd rfl (Or.inl rfl)) (pgs_cons (pg_name (i := 4) scUnfinished.nd rfl (Or.inl rfl)) pgs_nil))))
      (pss_cons (ps_if (pt_val (pv 4)) (pss_one (ps_thr R.fin bxRuntime (takes_of rfl rfl rfl rfl) hr (pv 2))) pss_nil) (pss_one (ps_ret (pv 3)))), ?_⟩
    have hv : valV (entKV S.srcs fun t => ad (.srcT t)) (Sum.inl t) = some (.ref (ad (.srcT t))) := by rw [ent_val, if_pos ht]
    walk_at "wn"
    refine ⟨_, rfl, ad .box, C.S, dx .box, _, _, rfl, A0.at_ .box trivial, T.cl, T.no _ (by decide), rfl, ?_⟩
    refine ⟨_, rfl, ad .srcD, _, rfl, hv ▸ DGet.k (k := Sum.inl t) (A0.at_ .srcD trivial), ?_⟩
    refine ⟨ad (.srcT t), _, rfl, SqT.of (A0.at_ (.srcT t) ht), rfl, _, _, rfl, ?_⟩
    walk_at "wn"
    refine ⟨_, _, rfl, ?_⟩
    walk_at "wn"
    refine ⟨rfl, ?_⟩
    walk_at "wn"
    unfold unfin at k
    cases hf : (S.unit t).2 with
    | true =>
      rw [hf] at k
      walk_at "wn"
      exact g_thr rfl fl k
    | false =>
      rw [hf] at k
      walk_at "wn"
      exact k
def arriveM (S : Sys) (p n m : V) : Except Er Int := match source S p n with
  | .ok t => if inB m 1 1000000 = true then (match unfin S t n with
    | .ok _ => .ok t
    | .error e => .error e) else .error (.count m)
  | .error e => .error e
def finishM (S : Sys) (p n : V) : Except Er Int := match source S p n with
  | .ok t => (match unfin S t n with
    | .ok _ => .ok t
    | .error e => .error e)
  | .error e => .error e
def readM (S : Sys) (p n m : V) : Except Er Int := match source S p n with
  | .ok t => if m = .non ∨ inB m 1 1000000 = true then .ok t else .error (.count m)
  | .error e => .error e
def toO : V → Option Int
  | .int i => some i
  | _ => none
theorem arriveM_ok {S : Sys} {p n m : V} {t : Int} (h : arriveM S p n m = .ok t) : ∃ i j k, p = .int i ∧ n = .int j ∧ m = .int k ∧ Means S i j t ∧ t ∈ S.srcs ∧ (S.unit t).2 = false ∧ 1 ≤ k ∧ k ≤ 1000000 := by
  unfold arriveM at h
  split at h
  · rename_i t' et
    split at h
    · rename_i hm
      split at h
      · rename_i u hu
        cases h
        obtain ⟨⟨i, j, e1, e2, M⟩, ht⟩ := source_ok et
        obtain ⟨k, e3, k1, k2⟩ := inB_ok hm
        unfold unfin at hu
        split at hu
        · cases hu
        · rename_i hf
          exact ⟨i, j, k, e1, e2, e3, M, ht, Bool.eq_false_iff.mpr hf, k1, k2⟩
      · cases h
    · cases h
  · cases h
theorem arriveM_of {S : Sys} {i j t k : Int} (M : Means S i j t) (ht : t ∈ S.srcs) (hf : (S.unit t).2 = false) (k1 : 1 ≤ k) (k2 : k ≤ 1000000) : arriveM S (.int i) (.int j) (.int k) = .ok t := by
  unfold arriveM
  rw [source_of M ht]
  show (if inB (.int k) 1 1000000 = true then _ else _) = _
  rw [if_pos (inB_of k1 k2)]
  unfold unfin
  rw [hf]
  rfl
theorem readM_ok {S : Sys} {p n m : V} {t : Int} (h : readM S p n m = .ok t) : ∃ i j, p = .int i ∧ n = .int j ∧ m = optV (toO m) ∧ Means S i j t ∧ t ∈ S.srcs ∧ ∀ k, toO m = some k → 1 ≤ k ∧ k ≤ 1000000 := by
  unfold readM at h
  split at h
  · rename_i t' et
    split at h
    · rename_i hm
      cases h
      obtain ⟨⟨i, j, e1, e2, M⟩, ht⟩ := source_ok et
      refine ⟨i, j, e1, e2, ?_, M, ht, ?_⟩
      · rcases hm with rfl | hm
        · rfl
        · obtain ⟨k, rfl, _⟩ := inB_ok hm
          rfl
      · rcases hm with rfl | hm
        · intro k e
          cases e
        · obtain ⟨k, rfl, k1, k2⟩ := inB_ok hm
          intro k' e
          cases e
          exact ⟨k1, k2⟩
    · cases h
  · cases h
/-- arrive, finish, read where they raise -/
def spArriveE (C : Cs) (D : Es) : Sp := fun vs H Q E => ∃ p n m : V, OnSys C vs H [p, n, m] fun S _ _ => WF S ∧ Flat H p ∧ Flat H n ∧ Flat H m ∧ ∃ e, arriveM S p n m = .error e ∧ e.out D H E
theorem okArriveE {dvs : List V} {kws : List (Str × V)} {f fS fU fC : Addr} {fd fdS fdU fdC : FuncData} (F : FunD K "arrive" "System.arrive" (defArgs sArrive) (defBody sArrive) (defScope sArrive) dvs kws f fd) (T : ClsF K C.S sysF) (R : ErTx P w K mg base D)
    (GS : MX P w K mg base 5 C.S "source_at" ["self", "process", "number"] (spSourceX C D) fS fdS) (GU : MX P w K mg base 3 C.S "unread_of_unfinished" ["self", "source", "number"] (spUnfinX C D) fU fdU)
    (GC : DO P w K mg base 3 "is_count" ["x"] spCountX fC fdC) : FnOk P w K mg base (L2.CX P w) 6 f fd ["self", "process", "number", "many"] (spArriveE C D) := by
  refine F.ok scArrive (fun vs H Q E h => ?_) (fun cdv A outer s H vs Q E hr h => ?_)
  · obtain ⟨_, _, _, _, _, _, rfl, _⟩ := h
    rfl
  · obtain ⟨p, n, m, S, ad, dx, rfl, A0, W, fp, fn, fm, e, he, k⟩ := h
    have hr2 : Room 2 _ := hr.mono (by decide)
    have hr3 : Room 3 _ := hr.mono (by decide)
    refine ⟨_, pss_cons (ps_set (i := 4) scArrive.nd rfl (Or.inl rfl) (pe_meth (pv 0) T.cl GS.m GS.g hr GS.b .nil (passX (takes_of rfl rfl rfl rfl)) (pa_cons (pv 1) (pa_cons (pv 2) pa_nil))))
      (pss_cons (ps_if (pt_not (pt_val (pe_call GC.g hr3 (by rfl) GC.m GC.k GC.b .nil pass0 (pa_cons (pv 3) pa_nil)))) (pss_one (ps_thr R.count bxValue (takes_of rfl rfl rfl rfl) hr2 (pv 3))) pss_nil)
      (pss_cons (ps_set (i := 5) scArrive.nd rfl (Or.inl rfl) (pe_meth (pv 0) T.cl GU.m GU.g hr3 GU.b .nil (passX (takes_of rfl rfl rfl rfl)) (pa_cons (pv 4) (pa_cons (pv 2) pa_nil)))) pss_never)), ?_⟩
    have hb := A0.at_ .box trivial
    walk_at "wn"
    refine ⟨_, rfl, ad .box, dx .box, _, rfl, hb, rfl, ?_⟩
    walk_at "wn"
    refine ⟨p, n, S, ad, dx, rfl, A0, W, fp, fn, ?_⟩
    unfold arriveM at he
    cases et : source S p n with
    | error e' =>
      rw [et] at he
      cases he
      exact k
    | ok t =>
    rw [et] at he
    have he : (if inB m 1 1000000 = true then (match unfin S t n with
      | .ok _ => .ok t
      | .error e => .error e) else .error (.count m)) = (.error e : Except Er Int) := he
    refine res_ok rfl ?_
    walk_at "wn"
    refine ⟨m, rfl, fm.ob, ?_⟩
    cases hm : inB m 1 1000000 with
    | false =>
      rw [hm] at he
      cases he
      refine ⟨_, rfl, ?_⟩
      walk_at "wn"
      exact g_thr rfl fm k
    | true =>
      rw [if_pos hm] at he
      refine ⟨_, rfl, ?_⟩
      walk_at "wn"
      refine ⟨_, rfl, ad .box, dx .box, _, rfl, hb, rfl, ?_⟩
      walk_at "wn"
      refine ⟨t, n, S, ad, dx, rfl, A0, (source_ok et).2, fn, ?_⟩
      cases eu : unfin S t n with
      | error e' =>
        rw [eu] at he
        cases he
        exact k
      | ok u =>
        rw [eu] at he
        cases he
def spFinishE (C : Cs) (D : Es) : Sp := fun vs H Q E => ∃ p n : V, OnSys C vs H [p, n] fun S _ _ => WF S ∧ Flat H p ∧ Flat H n ∧ ∃ e, finishM S p n = .error e ∧ e.out D H E
def spReadE (C : Cs) (D : Es) : Sp := fun vs H Q E => ∃ p n m : V, OnSys C vs H [p, n, m] fun S _ _ => WF S ∧ Flat H p ∧ Flat H n ∧ Flat H m ∧ ∃ e, readM S p n m = .error e ∧ e.out D H E
theorem okReadE {dvs : List V} {kws : List (Str × V)} {f fS fC : Addr} {fd fdS fdC : FuncData} (F : FunD K "read" "System.read" (defArgs sRead) (defBody sRead) (defScope sRead) dvs kws f fd) (T : ClsF K C.S sysF) (R : ErTx P w K mg base D)
    (GS : MX P w K mg base 5 C.S "source_at" ["self", "process", "number"] (spSourceX C D) fS fdS) (GC : DO P w K mg base 3 "is_count" ["x"] spCountX fC fdC) : FnOk P w K mg base (L2.CX P w) 6 f fd ["self", "process", "number", "many"] (spReadE C D) := by
  refine F.ok scRead (fun vs H Q E h => ?_) (fun cdv A outer s H vs Q E hr h => ?_)
  · obtain ⟨_, _, _, _, _, _, rfl, _⟩ := h
    rfl
  · obtain ⟨p, n, m, S, ad, dx, rfl, A0, W, fp, fn, fm, e, he, k⟩ := h
    have hr2 : Room 2 _ := hr.mono (by decide)
    have hr3 : Room 3 _ := hr.mono (by decide)
    refine ⟨_, pss_cons (ps_set (i := 4) scRead.nd rfl (Or.inl rfl) (pe_meth (pv 0) T.cl GS.m GS.g hr GS.b .nil (passX (takes_of rfl rfl rfl rfl)) (pa_cons (pv 1) (pa_cons (pv 2) pa_nil))))
      (pss_cons (ps_if (PW.pt (pw_and (pt_cmpR oNotN (pv 3) pe_non (nomark _)) (pw_and1 (pt_not (pt_val (pe_call GC.g hr3 (by rfl) GC.m GC.k GC.b .nil pass0 (pa_cons (pv 3) pa_nil))))))) (pss_one (ps_thr R.count bxValue (takes_of rfl rfl rfl rfl) hr2 (pv 3))) pss_nil) pss_never), ?_⟩
    have hb := A0.at_ .box trivial
    walk_at "wn"
    refine ⟨_, rfl, ad .box, dx .box, _, rfl, hb, rfl, ?_⟩
    walk_at "wn"
    refine ⟨p, n, S, ad, dx, rfl, A0, W, fp, fn, ?_⟩
    unfold readM at he
    cases et : source S p n with
    | error e' =>
      rw [et] at he
      cases he
      exact k
    | ok t =>
    rw [et] at he
    have he : (if m = .non ∨ inB m 1 1000000 = true then .ok t else .error (.count m)) = (.error e : Except Er Int) := he
    by_cases hc : m = .non ∨ inB m 1 1000000 = true
    · rw [if_pos hc] at he
      cases he
    rw [if_neg hc] at he
    cases he
    have hn : m ≠ .non := fun z => hc (.inl z)
    have hm : inB m 1 1000000 = false := Bool.eq_false_iff.mpr fun z => hc (.inr z)
    refine res_ok rfl ?_
    walk_at "wn"
    rw [decide_eq_false hn]
    walk_at "wn"
    refine ⟨m, rfl, fm.ob, ?_⟩
    rw [hm]
    refine ⟨_, rfl, ?_⟩
    walk_at "wn"
    exact g_thr rfl fm k
/-! units, same -/
def spUnitsX (C : Cs) (D : Es) : Sp := fun vs H Q E => ∃ p n : V, OnSys C vs H [p, n] fun S ad _ => WF S ∧ Flat H p ∧ Flat H n ∧ Res D H E (source S p n) fun t => Q (.ref (ad (.srcT t))) H
def sameM (S : Sys) (p n q m : V) : Except Er Bool := match thing S p n with
  | .ok t => (match thing S q m with
    | .ok u => .ok (decide (t = u))
    | .error e => .error e)
  | .error e => .error e
def spSameX (C : Cs) (D : Es) : Sp := fun vs H Q E => ∃ p n q m : V, OnSys C vs H [p, n, q, m] fun S _ _ => WF S ∧ Flat H p ∧ Flat H n ∧ Flat H q ∧ Flat H m ∧ Res D H E (sameM S p n q m) fun b => Q (.bl b) H
/-! registrations -/
def addM (S : Sys) (p sn n l wd : V) : Except Er (Int × Int) := match setOf S p sn with
  | .ok s => (match source S p n with
    | .ok t => if inB l 0 999999 = true then (if isW wd = true then (if ((S.ents s).find? (keyOf (S.reg s) (toI n) t)).isSome = true then .error (.regd n) else if toI l ∈ S.ents s then .error (.taken l) else .ok (s, t)) else .error (.word wd)) else .error (.label l)
    | .error e => .error e)
  | .error e => .error e
def changeM (S : Sys) (p sn n wd : V) : Except Er (Int × Int × Int) := match setOf S p sn with
  | .ok s => (match source S p n with
    | .ok t => if isW wd = true then (match (S.ents s).find? (keyOf (S.reg s) (toI n) t) with
      | some l => .ok (s, t, l)
      | none => .error (.notreg n)) else .error (.word wd)
    | .error e => .error e)
  | .error e => .error e
def removeM (S : Sys) (p sn n : V) : Except Er (Int × Int) := match setOf S p sn with
  | .ok s => (match source S p n with
    | .ok t => (match (S.ents s).find? (keyOf (S.reg s) (toI n) t) with
      | some l => .ok (s, l)
      | none => .error (.notreg n))
    | .error e => .error e)
  | .error e => .error e
def waitM (S : Sys) (p sn m : V) : Except Er Int := match setOf S p sn with
  | .ok s => if inB m 1 1000000 = true then .ok s else .error (.count m)
  | .error e => .error e
def spAddE (C : Cs) (D : Es) : Sp := fun vs H Q E => ∃ p sn n l wd : V, OnSys C vs H [p, sn, n, l, wd] fun S _ _ => WF S ∧ Flat H p ∧ Flat H sn ∧ Flat H n ∧ Flat H l ∧ Flat H wd ∧ flatV wd = true ∧ ∃ e, addM S p sn n l wd = .error e ∧ e.out D H E
theorem okAddE {dvs : List V} {kws : List (Str × V)} {f fW fS fL fD fO : Addr} {fd fdW fdS fdL fdD fdO : FuncData} (F : FunD K "add" "System.add" (defArgs sAdd) (defBody sAdd) (defScope sAdd) dvs kws f fd) (T : ClsF K C.S sysF) (TW : ClsF K C.W wsF) (R : ErTx P w K mg base D)
    (GW : MX P w K mg base 5 C.S "set_at" ["self", "process", "set_number"] (spSetX C D) fW fdW) (GS : MX P w K mg base 5 C.S "source_at" ["self", "process", "number"] (spSourceX C D) fS fdS)
    (GL : DO P w K mg base 3 "is_label" ["x"] spLabelX fL fdL) (GD : DO P w K mg base 1 "is_word" ["x"] spWordX fD fdD) (GO : MO P w K mg base 1 C.W "label_of" ["self", "number", "source"] (spLabelOf C.W C.R) fO fdO) :
    FnOk P w K mg base (L2.CX P w) 6 f fd ["self", "process", "set_number", "number", "label", "word"] (spAddE C D) := by
  refine F.ok scAdd (fun vs H Q E h => ?_) (fun cdv A outer s H vs Q E hr h => ?_)
  · obtain ⟨_, _, _, _, _, _, _, _, rfl, _⟩ := h
    rfl
  · obtain ⟨p, sn, n, l, wd, S, ad, dx, rfl, A0, W, fp, fsn, fn, fl, fw, fw2, e, he, k⟩ := h
    have hu := hu_of hr
    have hr1 : Room 1 _ := hr.mono (by decide)
    have hr2 : Room 2 _ := hr.mono (by decide)
    have hr3 : Room 3 _ := hr.mono (by decide)
    refine ⟨_, pss_cons (ps_set (i := 6) scAdd.nd rfl (Or.inl rfl) (pe_meth (pv 0) T.cl GW.m GW.g hr GW.b .nil (passX (takes_of rfl rfl rfl rfl)) (pa_cons (pv 1) (pa_cons (pv 2) pa_nil))))
      (pss_cons (ps_set (i := 7) scAdd.nd rfl (Or.inl rfl) (pe_meth (pv 0) T.cl GS.m GS.g hr GS.b .nil (passX (takes_of rfl rfl rfl rfl)) (pa_cons (pv 1) (pa_cons (pv 3) pa_nil))))
      (pss_cons (ps_if (pt_not (pt_val (pe_call GL.g hr3 (by rfl) GL.m GL.k GL.b .nil pass0 (pa_cons (pv 4) pa_nil)))) (pss_one (ps_thr R.label bxValue (takes_of rfl rfl rfl rfl) hr2 (pv 4))) pss_nil)
      (pss_cons (ps_if (pt_not (pt_val (pe_call GD.g hr1 (by rfl) GD.m GD.k GD.b .nil pass0 (pa_cons (pv 5) pa_nil)))) (pss_one (ps_thr R.word bxValue (takes_of rfl rfl rfl rfl) hr2 (pv 5))) pss_nil)
      (pss_cons (ps_if (pt_cmpR oNotN (pe_meth (pv 6) TW.cl GO.m GO.g hr1 GO.b .nil pass0 (pa_cons (pv 3) (pa_cons (pv 7) pa_nil))) pe_non (nomark _)) (pss_one (ps_thr R.regd bxRuntime (takes_of rfl rfl rfl rfl) hr2 (pv 3))) pss_nil)
      (pss_cons (ps_if (pt_cmp (pc_din hu (pv 4) (pe_fld (pv 6) rfl)) rfl) (pss_one (ps_thr R.taken bxRuntime (takes_of rfl rfl rfl rfl) hr2 (pv 4))) pss_nil) pss_never))))), ?_⟩
    have hb := A0.at_ .box trivial
    unfold addM at he
    walk_at "wn"
    refine ⟨_, rfl, ad .box, dx .box, _, rfl, hb, rfl, ?_⟩
    walk_at "wn"
    refine ⟨p, sn, S, ad, dx, rfl, A0, W, fp, fsn, ?_⟩
    cases es : setOf S p sn with
    | error e' =>
      rw [es] at he
      cases he
      exact k
    | ok s =>
    rw [es] at he
    dsimp only at he
    obtain ⟨_, hs⟩ := setOf_ok es
    refine res_ok rfl ?_
    walk_at "wn"
    refine ⟨_, rfl, ad .box, dx .box, _, rfl, hb, rfl, ?_⟩
    walk_at "wn"
    refine ⟨p, n, S, ad, dx, rfl, A0, W, fp, fn, ?_⟩
    cases et : source S p n with
    | error e' =>
      rw [et] at he
      cases he
      exact k
    | ok t =>
    rw [et] at he
    dsimp only at he
    obtain ⟨⟨i, j, rfl, rfl, M⟩, ht⟩ := source_ok et
    refine res_ok rfl ?_
    walk_at "wn"
    refine ⟨l, rfl, fl.ob, ?_⟩
    cases hl : inB l 0 999999 with
    | false =>
      rw [hl] at he
      cases he
      refine ⟨_, rfl, ?_⟩
      walk_at "wn"
      exact g_thr rfl fl k
    | true =>
    rw [if_pos hl] at he
    refine ⟨_, rfl, ?_⟩
    walk_at "wn"
    refine ⟨wd, rfl, fw2, ?_⟩
    cases hw : isW wd with
    | false =>
      rw [hw] at he
      cases he
      refine ⟨_, rfl, ?_⟩
      walk_at "wn"
      exact g_thr rfl fw k
    | true =>
    rw [if_pos hw] at he
    refine ⟨_, rfl, ?_⟩
    walk_at "wn"
    have hws := A0.at_ (.ws s) hs
    refine ⟨_, rfl, ad (.ws s), dx (.ws s), _, rfl, hws, rfl, ?_⟩
    walk_at "wn"
    refine ⟨ad (.ws s), dx (.ws s), ad (.ent s), ad (.que s), j, t, S.ents s, fun j => ad (.reg s j), S.reg s, rfl, hws, A0.at_ (.ent s) hs, fun j hj => ⟨dx (.reg s j), A0.at_ (.reg s j) ⟨hs, hj⟩⟩, fun H1 s1 => ?_⟩
    have he : (if ((S.ents s).find? (keyOf (S.reg s) j t)).isSome = true then .error (.regd (.int j)) else if toI l ∈ S.ents s then .error (.taken l) else .ok (s, t)) = (.error e : Except Er (Int × Int)) := he
    cases ef : (S.ents s).find? (keyOf (S.reg s) j t) with
    | some l' =>
      rw [ef] at he
      cases he
      walk_at "wn"
      rw [decide_eq_false (show ¬ V.int l' = V.non from fun z => nomatch z)]
      walk_at "wn"
      exact g_thr rfl (fn.same s1) (Er.out_same (e := .regd (.int j)) k s1)
    | none =>
    rw [ef] at he
    have he : (if toI l ∈ S.ents s then .error (.taken l) else .ok (s, t)) = (.error e : Except Er (Int × Int)) := he
    obtain ⟨li, rfl, _, _⟩ := inB_ok hl
    walk_at "wn"
    have A1 := A0.same s1
    refine ⟨_, rfl, _, rfl, ad (.ws s), C.W, dx (.ws s), _, _, rfl, A1.at_ (.ws s) hs, TW.cl, TW.no _ (by decide), rfl, ?_⟩
    refine ⟨ad (.ent s), _, rfl, DGet.k (k := Sum.inl li) (A1.at_ (.ent s) hs), ?_⟩
    have he : (if li ∈ S.ents s then .error (.taken (.int li)) else .ok (s, t)) = (.error e : Except Er (Int × Int)) := he
    rw [ent_val]
    by_cases hm : li ∈ S.ents s
    · rw [if_pos hm] at he ⊢
      cases he
      refine ⟨_, rfl, ?_⟩
      show if true = true then _ else _
      walk_at "wn"
      exact g_thr rfl (fl.same s1) (Er.out_same (e := .taken (.int li)) k s1)
    · rw [if_neg hm] at he
      cases he
def spChangeE (C : Cs) (D : Es) : Sp := fun vs H Q E => ∃ p sn n wd : V, OnSys C vs H [p, sn, n, wd] fun S _ _ => WF S ∧ Flat H p ∧ Flat H sn ∧ Flat H n ∧ Flat H wd ∧ flatV wd = true ∧ ∃ e, changeM S p sn n wd = .error e ∧ e.out D H E
theorem okChangeE {f fW fS fD fO : Addr} {fd fdW fdS fdD fdO : FuncData} (F : Fun K "change" "System.change" sChange f fd) (T : ClsF K C.S sysF) (TW : ClsF K C.W wsF) (R : ErTx P w K mg base D)
    (GW : MX P w K mg base 5 C.S "set_at" ["self", "process", "set_number"] (spSetX C D) fW fdW) (GS : MX P w K mg base 5 C.S "source_at" ["self", "process", "number"] (spSourceX C D) fS fdS)
    (GD : DO P w K mg base 1 "is_word" ["x"] spWordX fD fdD) (GO : MO P w K mg base 1 C.W "label_of" ["self", "number", "source"] (spLabelOf C.W C.R) fO fdO) :
    FnOk P w K mg base (L2.CX P w) 6 f fd ["self", "process", "set_number", "number", "word"] (spChangeE C D) := by
  refine F.okX scChange (fun vs H Q E h => ?_) (fun cdv A outer s H vs Q E hr h => ?_)
  · obtain ⟨_, _, _, _, _, _, _, rfl, _⟩ := h
    rfl
  · obtain ⟨p, sn, n, wd, S, ad, dx, rfl, A0, W, fp, fsn, fn, fw, fw2, e, he, k⟩ := h
    have hr1 : Room 1 _ := hr.mono (by decide)
    have hr2 : Room 2 _ := hr.mono (by decide)
    refine ⟨_, pss_cons (ps_set (i := 5) scChange.nd rfl (Or.inl rfl) (pe_meth (pv 0) T.cl GW.m GW.g hr GW.b .nil (passX (takes_of rfl rfl rfl rfl)) (pa_cons (pv 1) (pa_cons (pv 2) pa_nil))))
      (pss_cons (ps_set (i := 6) scChange.nd rfl (Or.inl rfl) (pe_meth (pv 0) T.cl GS.m GS.g hr GS.b .nil (passX (takes_of rfl rfl rfl rfl)) (pa_cons (pv 1) (pa_cons (pv 3) pa_nil))))
      (pss_cons (ps_if (pt_not (pt_val (pe_call GD.g hr1 (by rfl) GD.m GD.k GD.b .nil pass0 (pa_cons (pv 4) pa_nil)))) (pss_one (ps_thr R.word bxValue (takes_of rfl rfl rfl rfl) hr2 (pv 4))) pss_nil)
      (pss_cons (ps_set (i := 7) scChange.nd rfl (Or.inl rfl) (pe_meth (pv 5) TW.cl GO.m GO.g hr1 GO.b .nil pass0 (pa_cons (pv 3) (pa_cons (pv 6) pa_nil))))
      (pss_cons (ps_if (pt_cmpR oIsN (pv 7) pe_non (nomark _)) (pss_one (ps_thr R.notreg bxLookup (takes_of rfl rfl rfl rfl) hr2 (pv 3))) pss_nil) pss_never)))), ?_⟩
    have hb := A0.at_ .box trivial
    unfold changeM at he
    walk_at "wn"
    refine ⟨_, rfl, ad .box, dx .box, _, rfl, hb, rfl, ?_⟩
    walk_at "wn"
    refine ⟨p, sn, S, ad, dx, rfl, A0, W, fp, fsn, ?_⟩
    cases es : setOf S p sn with
    | error e' =>
      rw [es] at he
      cases he
      exact k
    | ok s =>
    rw [es] at he
    dsimp only at he
    obtain ⟨_, hs⟩ := setOf_ok es
    refine res_ok rfl ?_
    walk_at "wn"
    refine ⟨_, rfl, ad .box, dx .box, _, rfl, hb, rfl, ?_⟩
    walk_at "wn"
    refine ⟨p, n, S, ad, dx, rfl, A0, W, fp, fn, ?_⟩
    cases et : source S p n with
    | error e' =>
      rw [et] at he
      cases he
      exact k
    | ok t =>
    rw [et] at he
    dsimp only at he
    obtain ⟨⟨i, j, rfl, rfl, M⟩, ht⟩ := source_ok et
    refine res_ok rfl ?_
    walk_at "wn"
    refine ⟨wd, rfl, fw2, ?_⟩
    cases hw : isW wd with
    | false =>
      rw [hw] at he
      cases he
      refine ⟨_, rfl, ?_⟩
      walk_at "wn"
      exact g_thr rfl fw k
    | true =>
    rw [if_pos hw] at he
    refine ⟨_, rfl, ?_⟩
    walk_at "wn"
    have hws := A0.at_ (.ws s) hs
    refine ⟨_, rfl, ad (.ws s), dx (.ws s), _, rfl, hws, rfl, ?_⟩
    walk_at "wn"
    refine ⟨ad (.ws s), dx (.ws s), ad (.ent s), ad (.que s), j, t, S.ents s, fun j => ad (.reg s j), S.reg s, rfl, hws, A0.at_ (.ent s) hs, fun j hj => ⟨dx (.reg s j), A0.at_ (.reg s j) ⟨hs, hj⟩⟩, fun H1 s1 => ?_⟩
    have he : (match (S.ents s).find? (keyOf (S.reg s) j t) with
      | some l => .ok (s, t, l)
      | none => .error (.notreg (.int j))) = (.error e : Except Er (Int × Int × Int)) := he
    cases ef : (S.ents s).find? (keyOf (S.reg s) j t) with
    | some l' =>
      rw [ef] at he
      cases he
    | none =>
      rw [ef] at he
      cases he
      walk_at "wn"
      exact g_thr rfl (fn.same s1) (Er.out_same (e := .notreg (.int j)) k s1)
def spRemoveE (C : Cs) (D : Es) : Sp := fun vs H Q E => ∃ p sn n : V, OnSys C vs H [p, sn, n] fun S _ _ => WF S ∧ Flat H p ∧ Flat H sn ∧ Flat H n ∧ ∃ e, removeM S p sn n = .error e ∧ e.out D H E
theorem okRemoveE {f fW fS fO : Addr} {fd fdW fdS fdO : FuncData} (F : Fun K "remove" "System.remove" sRemove f fd) (T : ClsF K C.S sysF) (TW : ClsF K C.W wsF) (R : ErTx P w K mg base D)
    (GW : MX P w K mg base 5 C.S "set_at" ["self", "process", "set_number"] (spSetX C D) fW fdW) (GS : MX P w K mg base 5 C.S "source_at" ["self", "process", "number"] (spSourceX C D) fS fdS)
    (GO : MO P w K mg base 1 C.W "label_of" ["self", "number", "source"] (spLabelOf C.W C.R) fO fdO) :
    FnOk P w K mg base (L2.CX P w) 6 f fd ["self", "process", "set_number", "number"] (spRemoveE C D) := by
  refine F.okX scRemove (fun vs H Q E h => ?_) (fun cdv A outer s H vs Q E hr h => ?_)
  · obtain ⟨_, _, _, _, _, _, rfl, _⟩ := h
    rfl
  · obtain ⟨p, sn, n, S, ad, dx, rfl, A0, W, fp, fsn, fn, e, he, k⟩ := h
    have hr1 : Room 1 _ := hr.mono (by decide)
    have hr2 : Room 2 _ := hr.mono (by decide)
    refine ⟨_, pss_cons (ps_set (i := 4) scRemove.nd rfl (Or.inl rfl) (pe_meth (pv 0) T.cl GW.m GW.g hr GW.b .nil (passX (takes_of rfl rfl rfl rfl)) (pa_cons (pv 1) (pa_cons (pv 2) pa_nil))))
      (pss_cons (ps_set (i := 5) scRemove.nd rfl (Or.inl rfl) (pe_meth (pv 0) T.cl GS.m GS.g hr GS.b .nil (passX (takes_of rfl rfl rfl rfl)) (pa_cons (pv 1) (pa_cons (pv 3) pa_nil))))
      (pss_cons (ps_set (i := 6) scRemove.nd rfl (Or.inl rfl) (pe_meth (pv 4) TW.cl GO.m GO.g hr1 GO.b .nil pass0 (pa_cons (pv 3) (pa_cons (pv 5) pa_nil))))
      (pss_cons (ps_if (pt_cmpR oIsN (pv 6) pe_non (nomark _)) (pss_one (ps_thr R.notreg bxLookup (takes_of rfl rfl rfl rfl) hr2 (pv 3))) pss_nil) pss_never))), ?_⟩
    have hb := A0.at_ .box trivial
    unfold removeM at he
    walk_at "wn"
    refine ⟨_, rfl, ad .box, dx .box, _, rfl, hb, rfl, ?_⟩
    walk_at "wn"
    refine ⟨p, sn, S, ad, dx, rfl, A0, W, fp, fsn, ?_⟩
    cases es : setOf S p sn with
    | error e' =>
      rw [es] at he
      cases he
      exact k
    | ok s =>
    rw [es] at he
    dsimp only at he
    obtain ⟨_, hs⟩ := setOf_ok es
    refine res_ok rfl ?_
    walk_at "wn"
    refine ⟨_, rfl, ad .box, dx .box, _, rfl, hb, rfl, ?_⟩
    walk_at "wn"
    refine ⟨p, n, S, ad, dx, rfl, A0, W, fp, fn, ?_⟩
    cases et : source S p n with
    | error e' =>
      rw [et] at he
      cases he
      exact k
    | ok t =>
    rw [et] at he
    dsimp only at he
    obtain ⟨⟨i, j, rfl, rfl, M⟩, ht⟩ := source_ok et
    refine res_ok rfl ?_
    walk_at "wn"
    have hws := A0.at_ (.ws s) hs
    refine ⟨_, rfl, ad (.ws s), dx (.ws s), _, rfl, hws, rfl, ?_⟩
    walk_at "wn"
    refine ⟨ad (.ws s), dx (.ws s), ad (.ent s), ad (.que s), j, t, S.ents s, fun j => ad (.reg s j), S.reg s, rfl, hws, A0.at_ (.ent s) hs, fun j hj => ⟨dx (.reg s j), A0.at_ (.reg s j) ⟨hs, hj⟩⟩, fun H1 s1 => ?_⟩
    have he : (match (S.ents s).find? (keyOf (S.reg s) j t) with
      | some l => .ok (s, l)
      | none => .error (.notreg (.int j))) = (.error e : Except Er (Int × Int)) := he
    cases ef : (S.ents s).find? (keyOf (S.reg s) j t) with
    | some l' =>
      rw [ef] at he
      cases he
    | none =>
      rw [ef] at he
      cases he
      walk_at "wn"
      exact g_thr rfl (fn.same s1) (Er.out_same (e := .notreg (.int j)) k s1)
def spWaitE (C : Cs) (D : Es) : Sp := fun vs H Q E => ∃ p sn m : V, OnSys C vs H [p, sn, m] fun S _ _ => WF S ∧ Flat H p ∧ Flat H sn ∧ Flat H m ∧ ∃ e, waitM S p sn m = .error e ∧ e.out D H E
theorem okWaitE {dvs : List V} {kws : List (Str × V)} {f fW fC : Addr} {fd fdW fdC : FuncData} (F : FunD K "wait" "System.wait" (defArgs sWait) (defBody sWait) (defScope sWait) dvs kws f fd) (T : ClsF K C.S sysF) (R : ErTx P w K mg base D)
    (GW : MX P w K mg base 5 C.S "set_at" ["self", "process", "set_number"] (spSetX C D) fW fdW) (GC : DO P w K mg base 3 "is_count" ["x"] spCountX fC fdC) :
    FnOk P w K mg base (L2.CX P w) 6 f fd ["self", "process", "set_number", "most"] (spWaitE C D) := by
  refine F.ok scWait (fun vs H Q E h => ?_) (fun cdv A outer s H vs Q E hr h => ?_)
  · obtain ⟨_, _, _, _, _, _, rfl, _⟩ := h
    rfl
  · obtain ⟨p, sn, m, S, ad, dx, rfl, A0, W, fp, fsn, fm, e, he, k⟩ := h
    have hr2 : Room 2 _ := hr.mono (by decide)
    have hr3 : Room 3 _ := hr.mono (by decide)
    refine ⟨_, pss_cons (ps_set (i := 4) scWait.nd rfl (Or.inl rfl) (pe_meth (pv 0) T.cl GW.m GW.g hr GW.b .nil (passX (takes_of rfl rfl rfl rfl)) (pa_cons (pv 1) (pa_cons (pv 2) pa_nil))))
      (pss_cons (ps_if (pt_not (pt_val (pe_call GC.g hr3 (by rfl) GC.m GC.k GC.b .nil pass0 (pa_cons (pv 3) pa_nil)))) (pss_one (ps_thr R.count bxValue (takes_of rfl rfl rfl rfl) hr2 (pv 3))) pss_nil) pss_never), ?_⟩
    have hb := A0.at_ .box trivial
    unfold waitM at he
    walk_at "wn"
    refine ⟨_, rfl, ad .box, dx .box, _, rfl, hb, rfl, ?_⟩
    walk_at "wn"
    refine ⟨p, sn, S, ad, dx, rfl, A0, W, fp, fsn, ?_⟩
    cases es : setOf S p sn with
    | error e' =>
      rw [es] at he
      cases he
      exact k
    | ok s =>
    rw [es] at he
    dsimp only at he
    refine res_ok rfl ?_
    walk_at "wn"
    refine ⟨m, rfl, fm.ob, ?_⟩
    cases hm : inB m 1 1000000 with
    | true =>
      rw [if_pos hm] at he
      cases he
    | false =>
      rw [hm] at he
      cases he
      refine ⟨_, rfl, ?_⟩
      walk_at "wn"
      exact g_thr rfl fm k
end
/-! numbers -/
def numsOf (S : Sys) : Nat → List (Option Int) → List (Nat × Bool)
  | _, [] => []
  | i, none :: l => numsOf S (i + 1) l
  | i, some t :: l => (i, decide (t ∈ S.srcs)) :: numsOf S (i + 1) l
def numOne (S : Sys) (i : Nat) : Option Int → List (Nat × Bool)
  | none => []
  | some t => [(i, decide (t ∈ S.srcs))]
theorem nums_take (S : Sys) : ∀ (l : List (Option Int)) (k i : Nat) (x : Option Int), l[i]? = some x → numsOf S k (l.take (i + 1)) = numsOf S k (l.take i) ++ numOne S (k + i) x
  | [], k, i, x, h => by simp at h
  | y :: l, k, 0, x, h => by
    obtain rfl : y = x := by simpa using h
    cases y <;> simp [numsOf, numOne]
  | y :: l, k, i + 1, x, h => by
    have ih := nums_take S l (k + 1) i x (by simpa using h)
    have e : k + 1 + i = k + (i + 1) := by omega
    rw [e] at ih
    cases y with
    | none =>
      show numsOf S (k + 1) (l.take (i + 1)) = numsOf S (k + 1) (l.take i) ++ _
      exact ih
    | some t =>
      show _ :: numsOf S (k + 1) (l.take (i + 1)) = (_ :: numsOf S (k + 1) (l.take i)) ++ _
      rw [ih]
      rfl
theorem nums_len (S : Sys) : ∀ (l : List (Option Int)) (k : Nat), (numsOf S k l).length ≤ l.length
  | [], _ => Nat.le_refl _
  | none :: l, k => Nat.le_trans (nums_len S l (k + 1)) (Nat.le_succ _)
  | some t :: l, k => Nat.succ_le_succ (nums_len S l (k + 1))
def kindS (b : Bool) : Str := if b = true then "source" else "set"
def NumAt (H : Hp) (v : V) (r : Nat × Bool) : Prop := ∃ T, v = .ref T ∧ H T = some (.tup [.int (r.1 : Int), .str (kindS r.2)])
theorem NumAt.same {H H' : Hp} {v : V} {r : Nat × Bool} (h : NumAt H v r) (s : Same H H') : NumAt H' v r := by
  obtain ⟨T, rfl, e⟩ := h
  exact ⟨T, rfl, s _ _ e⟩
theorem numAts_same {H H' : Hp} {vs : List V} {rs : List (Nat × Bool)} (p : Paired (NumAt H) vs rs) (s : Same H H') : Paired (NumAt H') vs rs := by
  induction p with
  | nil => exact .nil
  | cons r _ ih => exact .cons (r.same s) ih
theorem numAts_keep {H H' : Hp} {vs : List V} {rs : List (Nat × Bool)} (p : Paired (NumAt H) vs rs) (s : ∀ b x y, H b = some (.tup [x, y]) → H' b = some (.tup [x, y])) : Paired (NumAt H') vs rs := by
  induction p with
  | nil => exact .nil
  | cons r _ ih =>
    obtain ⟨T, h1, h2⟩ := r
    exact .cons ⟨T, h1, s _ _ _ h2⟩ ih
theorem nums_snoc {H : Hp} {vs : List V} {rs : List (Nat × Bool)} {v : V} {r : Nat × Bool} (p : Paired (NumAt H) vs rs) (h : NumAt H v r) : Paired (NumAt H) (vs ++ [v]) (rs ++ [r]) := by
  induction p with
  | nil => exact .cons h .nil
  | cons q _ ih => exact .cons q ih
section
variable {P : Program} {w : World} {K : PySem.W.Frag} {mg : Str → Option Value} {base : Heap} {C : Cs} {D : Es}
def spNumbersX (C : Cs) (D : Es) : Sp := fun vs H Q E => ∃ x : V, OnSys C vs H [x] fun S ad dx => WF S ∧ Flat H x ∧ Res D H E (tabOf S x) fun p => ∀ H' r rs, H r = none → Same H H' → H' r = some (.lst rs) → Paired (NumAt H') rs (numsOf S 0 (S.tab p)) → Q (.ref r) H'
abbrev nNumbers : List Str := ["self", "process", "table", "number", "thing"]
theorem scNumbers : FnScope nNumbers ["self", "process"] (defScope sNumbers) := ⟨rfl, rfl, rfl, by decide +kernel, rfl, by decide +kernel, by decide +kernel⟩
theorem okNumbersX {f fT : Addr} {fd fdT : FuncData} (F : Fun K "numbers" "System.numbers" sNumbers f fd) (X : SysTxt mg) (T : ClsF K C.S sysF) (GT : MX P w K mg base 3 C.S "table_of" ["self", "process"] (spTabX C D) fT fdT) :
    FnOk P w K mg base (L2.CX P w) 4 f fd ["self", "process"] (spNumbersX C D) := by
  refine F.okX scNumbers (fun vs H Q E h => ?_) (fun cdv A outer s H vs Q E hr h => ?_)
  · obtain ⟨_, _, _, _, rfl, _⟩ := h
    rfl
  · obtain ⟨x, S, ad, dx, rfl, A0, W, fl, k⟩ := h
    have hu := hu_of hr
    refine ⟨_, pss_cons (ps_set (i := 2) scNumbers.nd rfl (Or.inl rfl) (pe_meth (pv 0) T.cl GT.m GT.g hr GT.b .nil (passX (takes_of rfl rfl rfl rfl)) (pa_cons (pv 1) pa_nil)))
      (pss_one (ps_ret (pe_lc (own := [("number", 3), ("thing", 4)]) (g := gTup K 2 (gCons (gName 3) (gCons (gName 4) gNil))) rfl scNumbers.nd (pi_enum (by rfl) X.enum (pa_cons (pv 2) pa_nil)) (blkOk_by (N := nNumbers) (sc := defScope sNumbers) (by decide +kernel))
        (fun _ _ _ _ _ => pg_tup rfl (pgs_cons (pg_name (i := 3) scNumbers.nd rfl (Or.inl rfl)) (pgs_cons (pg_name (i := 4) scNumbers.nd rfl (Or.inl rfl)) pgs_nil))) (tt := tTest (tOp rNotN (tVar 4) (tC .non))) (fun _ _ _ _ _ => pts_one (pt_cmpR oNotN (pv 4) pe_non (nomark _)))
        (te := tTup (tCons (tVar 3) (tCons (tIf (tTest (tDIn (tVar 4) (tFld K (tVar 0) "sources"))) (tC (.str "source")) (tC (.str "set"))) tNil)))
        (fun _ _ _ _ _ => pe_tup (pa_cons (pv 3) (pa_cons (pe_ifExp (pt_cmp (pc_din hu (pv 4) (pe_fld (pv 0) rfl)) rfl) pe_str pe_str) pa_nil)))))), ?_⟩
    have hb := A0.at_ .box trivial
    walk_at "wn"
    refine ⟨_, rfl, ad .box, dx .box, _, rfl, hb, rfl, ?_⟩
    walk_at "wn"
    refine ⟨x, S, ad, dx, rfl, A0, fl, ?_⟩
    cases et : tabOf S x with
    | error e =>
      rw [et] at k
      exact k
    | ok p =>
    rw [et] at k
    obtain ⟨rfl, hp⟩ := tabOf_ok et
    have ht := A0.at_ (.tab p) hp
    have hl : (S.tab p).length ≤ 1000 := by have := W.t8 hp; omega
    refine res_ok rfl ?_
    walk_at "wn"
    refine ⟨_, rfl, ?_⟩
    refine ⟨ad (.tab p), _, rfl, SqL.of ht, fun D hD => ?_⟩
    refine lc_it (walk_enum (xs := (S.tab p).map optV)) (fun i H' => ∃ rs, Same H H' ∧ H' D = some (.lst rs) ∧ Paired (NumAt H') rs (numsOf S 0 ((S.tab p).take i))) ⟨[], Same.new' hD, upd_same, .nil⟩ (fun i H' _ ⟨_, sm, _⟩ => Same.seq sm (SqL.of ht)) ?_ (fun H' h => ?_)
    · rintro i x H1 H2 hi ⟨rs, sm, hd, pr⟩ ⟨T1, x1, y1, rfl, nT, rfl, ex, ey⟩
      have s1 := Same.new' (o := .tup [x1, y1]) nT
      have smT := sm.trans s1
      obtain rfl := Option.some.inj ex
      have ey : ((S.tab p).map optV)[i]? = some y1 := ey
      rw [List.getElem?_map] at ey
      cases et : (S.tab p)[i]? with
      | none => rw [et] at ey; cases ey
      | some x =>
      rw [et] at ey
      cases ey
      have tk := nums_take S (S.tab p) 0 i x et
      rw [Nat.zero_add] at tk
      rw [tk]
      have nDT : D ≠ T1 := fun z => by rw [← z, hd] at nT; cases nT
      have hd1 := s1 _ _ hd
      have pr1 := numAts_same pr s1
      refine ⟨T1, _, rfl, SqT.of upd_same, rfl, _, _, rfl, ?_⟩
      walk_at "wn"
      refine ⟨_, _, rfl, ?_⟩
      walk_at "wn"
      refine ⟨rfl, rfl, ?_⟩
      generalize upd H1 T1 (.tup [V.int (i : Int), optV x]) = H2 at smT hd1 pr1
      have hb2 := smT _ _ hb
      have hR : H2 (ad .srcD) = some (.dK (entKV S.srcs fun t => ad (.srcT t))) := smT _ _ (A0.at_ .srcD trivial)
      cases x with
      | none =>
        walk_at "wn"
        refine ⟨rs, smT, hd1, ?_⟩
        show Paired _ _ (_ ++ [])
        rw [List.append_nil]
        exact pr1
      | some t =>
        walk_at "wn"
        have e : (!decide (optV (some t) = V.non)) = true := rfl
        rw [e]
        refine iteT ?_
        walk_at "wn"
        refine ⟨_, rfl, _, rfl, ad .box, C.S, dx .box, _, _, rfl, hb2, T.cl, T.no _ (by decide), rfl, ?_⟩
        refine ⟨ad .srcD, _, rfl, DGet.k (k := Sum.inl t) hR, ?_⟩
        rw [ent_val]
        have fin : ∀ T2, H2 T2 = none → ∃ acc, upd H2 T2 (.tup [.int (i : Int), .str (kindS (decide (t ∈ S.srcs)))]) D = some (.lst acc) ∧ acc.length < sizeLine ∧ ∃ rs', Same H (upd (upd H2 T2 (.tup [.int (i : Int), .str (kindS (decide (t ∈ S.srcs)))])) D (.lst (acc ++ [.ref T2]))) ∧ upd (upd H2 T2 (.tup [.int (i : Int), .str (kindS (decide (t ∈ S.srcs)))])) D (.lst (acc ++ [.ref T2])) D = some (.lst rs') ∧ Paired (NumAt (upd (upd H2 T2 (.tup [.int (i : Int), .str (kindS (decide (t ∈ S.srcs)))])) D (.lst (acc ++ [.ref T2])))) rs' (numsOf S 0 ((S.tab p).take i) ++ numOne S i (some t)) := fun T2 hT2 => by
          have nT2 : T2 ≠ D := fun z => by rw [z, hd1] at hT2; cases hT2
          have s2 := Same.new' (o := .tup [.int (i : Int), .str (kindS (decide (t ∈ S.srcs)))]) hT2
          have kp : ∀ b x y, upd H2 T2 (.tup [.int (i : Int), .str (kindS (decide (t ∈ S.srcs)))]) b = some (.tup [x, y]) → upd (upd H2 T2 (.tup [.int (i : Int), .str (kindS (decide (t ∈ S.srcs)))])) D (.lst (rs ++ [.ref T2])) b = some (.tup [x, y]) := fun b x y h => by
            rw [upd_ne (fun z => by rw [z, upd_ne (Ne.symm nT2), hd1] at h; cases h)]
            exact h
          refine ⟨rs, s2 _ _ hd1, ?_, _, fun b o z => ?_, upd_same, ?_⟩
          · have h1 := pr.length
            have h2 := nums_len S ((S.tab p).take i) 0
            rw [List.length_take] at h2
            rw [sizeLine_eq]
            omega
          · rw [upd_ne (fun y => by rw [y] at z; rw [hD] at z; cases z)]
            exact (smT.trans s2) b o z
          · exact nums_snoc (numAts_keep (numAts_same pr1 s2) kp) ⟨T2, rfl, kp _ _ _ upd_same⟩
        by_cases hts : t ∈ S.srcs
        · rw [if_pos hts]
          rw [decide_eq_true hts] at fin
          refine ⟨_, rfl, ?_⟩
          refine iteT ?_
          walk_at "wn"
          exact ⟨by show 2 ≤ sizeLine; decide, fun T2 hT2 => fin T2 hT2⟩
        · rw [if_neg hts]
          rw [decide_eq_false hts] at fin
          refine ⟨_, rfl, ?_⟩
          refine iteF ?_
          walk_at "wn"
          exact ⟨by show 2 ≤ sizeLine; decide, fun T2 hT2 => fin T2 hT2⟩
    · obtain ⟨rs, sm, hd, pr⟩ := h
      rw [List.length_map, List.take_length] at pr
      exact k H' D rs hD sm hd pr
end

theorem sort_uniq : ∀ {a b : List Int}, a.Perm b → a.Pairwise (· ≤ ·) → b.Pairwise (· ≤ ·) → a = b
  | [], b, p, _, _ => (List.nil_perm.mp p).symm
  | x :: a, [], p, _, _ => absurd p.length_eq (by simp)
  | x :: a, y :: b, p, ha, hb => by
    obtain ⟨h1, h2⟩ := List.pairwise_cons.mp ha
    obtain ⟨h3, h4⟩ := List.pairwise_cons.mp hb
    have e : x = y := by
      have m1 : x ∈ y :: b := p.mem_iff.mp List.mem_cons_self
      have m2 : y ∈ x :: a := p.mem_iff.mpr List.mem_cons_self
      rcases List.mem_cons.mp m1 with e | e
      · exact e
      · rcases List.mem_cons.mp m2 with e2 | e2
        · exact e2.symm
        · have := h3 x e
          have := h1 y e2
          omega
    subst e
    rw [sort_uniq ((List.perm_cons x).mp p) h2 h4]
theorem mem_qAdd {t u : Int} {l : List Int} : t ∈ qAdd u l ↔ t = u ∨ t ∈ l := by
  unfold qAdd
  split <;> rename_i h
  · exact ⟨.inr, fun z => z.elim (fun e => e ▸ h) id⟩
  · rw [List.mem_append, List.mem_singleton]
    exact ⟨fun z => z.symm, fun z => z.symm⟩
theorem qAdd_nodup {u : Int} {l : List Int} (h : l.Nodup) : (qAdd u l).Nodup := by
  unfold qAdd
  split <;> rename_i h2
  · exact h
  · exact List.nodup_append.mpr ⟨h, by simp, fun a ha b hb e => h2 (by rw [List.mem_singleton] at hb; rw [← hb, ← e]; exact ha)⟩
theorem mem_row {t : Int} : ∀ {l : List (Option Int)} {acc : List Int}, t ∈ rowThings acc l ↔ t ∈ acc ∨ ∃ n : Nat, l[n]? = some (some t)
  | [], acc => ⟨.inl, fun z => z.elim id fun ⟨n, h⟩ => by simp at h⟩
  | x :: l, acc => by
    have sh : (∃ n : Nat, (x :: l)[n]? = some (some t)) ↔ x = some t ∨ ∃ n : Nat, l[n]? = some (some t) := ⟨fun ⟨n, h⟩ => by
      cases n with
      | zero => exact .inl (by simpa using h)
      | succ n => exact .inr ⟨n, by simpa using h⟩, fun z => z.elim (fun e => ⟨0, by simp [e]⟩) fun ⟨n, h⟩ => ⟨n + 1, by simpa using h⟩⟩
    rw [sh]
    cases x with
    | none =>
      have ih := mem_row (t := t) (l := l) (acc := acc)
      show t ∈ rowThings acc l ↔ _
      rw [ih]
      simp
    | some u =>
      have ih := mem_row (t := t) (l := l) (acc := qAdd u acc)
      show t ∈ rowThings (qAdd u acc) l ↔ _
      rw [ih, mem_qAdd]
      constructor
      · rintro ((e | e) | e)
        · exact .inr (.inl (by rw [e]))
        · exact .inl e
        · exact .inr (.inr e)
      · rintro (e | e | e)
        · exact .inl (.inr e)
        · exact .inl (.inl (Option.some.inj e).symm)
        · exact .inr e
theorem mem_things {S : Sys} {t : Int} : ∀ {ps acc : List Int}, t ∈ thingsOf S acc ps ↔ t ∈ acc ∨ ∃ p ∈ ps, ∃ n : Nat, (S.tab p)[n]? = some (some t)
  | [], acc => ⟨.inl, fun z => z.elim id fun ⟨p, hp, _⟩ => absurd hp List.not_mem_nil⟩
  | q :: ps, acc => by
    have ih := mem_things (S := S) (t := t) (ps := ps) (acc := rowThings acc (S.tab q))
    show t ∈ thingsOf S (rowThings acc (S.tab q)) ps ↔ _
    rw [ih, mem_row]
    constructor
    · rintro ((e | e) | ⟨p, hp, e⟩)
      · exact .inl e
      · exact .inr ⟨q, List.mem_cons_self, e⟩
      · exact .inr ⟨p, List.mem_cons_of_mem _ hp, e⟩
    · rintro (e | ⟨p, hp, e⟩)
      · exact .inl (.inl e)
      · rcases List.mem_cons.mp hp with z | z
        · subst z
          exact .inl (.inr e)
        · exact .inr ⟨p, z, e⟩
theorem row_nodup : ∀ {l : List (Option Int)} {acc : List Int}, acc.Nodup → (rowThings acc l).Nodup
  | [], _, h => h
  | none :: l, _, h => row_nodup (l := l) h
  | some _ :: l, _, h => row_nodup (l := l) (qAdd_nodup h)
theorem things_nodup {S : Sys} : ∀ {ps acc : List Int}, acc.Nodup → (thingsOf S acc ps).Nodup
  | [], _, h => h
  | _ :: ps, _, h => things_nodup (ps := ps) (row_nodup h)
theorem things_len {S : Sys} : ∀ {ps acc : List Int}, (∀ p ∈ ps, (S.tab p).length ≤ 8) → (thingsOf S acc ps).length ≤ acc.length + 8 * ps.length
  | [], _, _ => Nat.le_refl _
  | p :: ps, acc, h => by
    have a := things_len (S := S) (ps := ps) (acc := rowThings acc (S.tab p)) fun q hq => h q (List.mem_cons_of_mem _ hq)
    have b := h p List.mem_cons_self
    have c := rowThings_len acc (S.tab p)
    show (thingsOf S (rowThings acc (S.tab p)) ps).length ≤ acc.length + 8 * (ps.length + 1)
    omega
/-- what a row of registrations() shows of the label l in the set s -/
def RgAt (S : Sys) (ys : List Int) (s : Int) (H : Hp) (v : V) (l : Int) : Prop := ∃ (T : Addr) (v1 v2 : V) (r1 r2 : Int × Nat), v = .ref T ∧ H T = some (.tup [v1, .int l, .int (S.reg s l).num, v2, .str (S.reg s l).word, .bl (S.reg s l).armed]) ∧
  (placesIn S s ys)[0]? = some r1 ∧ PlAt H v1 r1 ∧ (placesIn S (S.reg s l).src ys)[0]? = some r2 ∧ PlAt H v2 r2
theorem PlAt.keep {H H' : Hp} {v : V} {r : Int × Nat} (h : PlAt H v r) (s : ∀ b o, H b = some o → (∀ xs, o ≠ .tup xs) ∨ H' b = some o) : PlAt H' v r := by
  obtain ⟨T, h1, h2⟩ := h
  exact ⟨T, h1, (s _ _ h2).elim (fun z => absurd rfl (z _)) id⟩
theorem PlAt.upd {H : Hp} {v : V} {r : Int × Nat} {D : Addr} {o o' : HO} (h : PlAt H v r) (hD : H D = some o) (n : ∀ xs, o ≠ .tup xs) : PlAt (upd H D o') v r := h.keep fun b o2 e => by
  by_cases z : b = D
  · rw [z, hD] at e
    cases e
    exact .inl n
  · exact .inr (by rw [upd_ne z]; exact e)
theorem rgs_keep {S : Sys} {ys : List Int} {s : Int} {H H' : Hp} {vs : List V} {ls : List Int} (p : Paired (RgAt S ys s H) vs ls) (k : ∀ b o, H b = some o → (∀ xs, o ≠ .tup xs) ∨ H' b = some o) : Paired (RgAt S ys s H') vs ls := by
  induction p with
  | nil => exact .nil
  | cons r _ ih =>
    obtain ⟨T, v1, v2, r1, r2, h1, h2, h3, h4, h5, h6⟩ := r
    exact .cons ⟨T, v1, v2, r1, r2, h1, (k _ _ h2).elim (fun z => absurd rfl (z _)) id, h3, h4.keep k, h5, h6.keep k⟩ ih
theorem paired_snoc {α β : Type} {R : α → β → Prop} {xs : List α} {ys : List β} {x : α} {y : β} (p : Paired R xs ys) (h : R x y) : Paired R (xs ++ [x]) (ys ++ [y]) := by
  induction p with
  | nil => exact .cons h .nil
  | cons q _ ih => exact .cons q ih
section
variable {P : Program} {w : World} {K : PySem.W.Frag} {mg : Str → Option Value} {base : Heap} {C : Cs}
def spRegistrations (C : Cs) : Sp := fun vs H Q _ => OnSys C vs H [] fun S ad dx => ∃ s, S.sets = [s] ∧ S.procs.length ≤ 6 ∧ (∀ p ∈ S.procs, (S.tab p).length ≤ 8) ∧ (∃ p ∈ S.procs, ∃ n : Nat, (S.tab p)[n]? = some (some s)) ∧
  (S.ents s).length ≤ 1000 ∧ (∀ l ∈ S.ents s, ∃ p ∈ S.procs, ∃ n : Nat, (S.tab p)[n]? = some (some (S.reg s l).src)) ∧
  ∀ (ys : List Int) (H' : Hp) (r : Addr) (rs : List V), ys.Perm S.procs → ys.Pairwise (· ≤ ·) → Same H H' → H r = none → H' r = some (.lst rs) → Paired (RgAt S ys s H') rs (S.ents s) → Q (.ref r) H'
abbrev nRegs : List Str := ["self", "names", "thing", "label", "kept"]
theorem scRegs : FnScope nRegs ["self"] (defScope sRegistrations) := ⟨rfl, rfl, rfl, by decide +kernel, rfl, by decide +kernel, by decide +kernel⟩
theorem okRegistrations {f fT fN : Addr} {fd fdT fdN : FuncData} (F : Fun K "registrations" "System.registrations" sRegistrations f fd) (T : ClsF K C.S sysF) (TW : ClsF K C.W wsF) (TR : ClsF K C.R regF)
    (GT : MO P w K mg base 1 C.S "things" ["self"] (spThings C) fT fdT) (GN : MO P w K mg base 2 C.S "name_of" ["self", "thing"] (spNameOf C) fN fdN) : FnOk P w K mg base CX0 3 f fd ["self"] (spRegistrations C) := by
  refine F.ok scRegs (fun vs H Q E h => ?_) (fun cdv A outer s H vs Q E hr h => ?_)
  · obtain ⟨_, _, _, rfl, _⟩ := h
    rfl
  · obtain ⟨S, ad, dx, rfl, A0, s0, hsets, hp, ht, hs0, hel, hsrc, k⟩ := h
    have hu := hu_of hr
    have r1 : Room 1 _ := hr.mono (by decide)
    refine ⟨_, pss_cut (ps_set (i := 1) scRegs.nd rfl (Or.inr rfl) (pe_dc (own := [("thing", 2)]) (g := gName 2) (tt := tYes) (tk := tVar 2) (tv := tMeth C.S "name_of" (spNameOf C) [] (fun _ _ _ => False) (tVar 0) (tCons (tVar 2) tNil)) rfl scRegs.nd (pi_list (pe_meth0 (pv 0) T.cl GT.m GT.g r1 GT.b .nil pass0)) (blkOk_by (N := nRegs) (sc := defScope sRegistrations) (by decide +kernel))
        (fun _ _ _ _ _ => pg_name (i := 2) scRegs.nd rfl (Or.inl rfl)) (fun _ _ _ _ _ => pts_nil) (fun _ _ _ _ _ => pv 2) (fun _ _ _ _ _ => pe_meth (pv 0) T.cl GN.m GN.g hr GN.b .nil pass0 (pa_cons (pv 2) pa_nil))))
      (pss_one (ps_lock (ps_ret (pe_lc2 (own := [("thing", 2), ("label", 3), ("kept", 4)]) (vs1 := [3, 4]) (g := gName 2) (tt := tTest (tDIn (tVar 2) (tFld K (tVar 0) "sets"))) (wi1 := iItems (tFld K (tDGet (tFld K (tVar 0) "sets") (tVar 2)) "entries")) (g1 := gTup K 2 (gCons (gName 3) (gCons (gName 4) gNil))) (tt1 := tYes)
        (te := tTup (tCons (tDGet (tVar 1) (tVar 2)) (tCons (tVar 3) (tCons (tFld K (tVar 4) "number") (tCons (tDGet (tVar 1) (tFld K (tVar 4) "source")) (tCons (tFld K (tVar 4) "word") (tCons (tFld K (tVar 4) "armed") tNil)))))))
        rfl scRegs.nd (pi_list (pe_meth0 (pv 0) T.cl GT.m GT.g r1 GT.b .nil pass0)) (blkOk_by (N := nRegs) (sc := defScope sRegistrations) (by decide +kernel)) (by decide)
        (fun _ _ _ _ _ => pg_name (i := 2) scRegs.nd rfl (Or.inl rfl)) (fun _ _ _ _ _ => pts_one (pt_cmp (pc_din hu (pv 2) (pe_fld (pv 0) rfl)) rfl)) (fun _ _ _ _ _ => pi_items (pe_fld (pe_dget hu (pe_fld (pv 0) rfl) (pv 2) (fun _ _ => rfl)) rfl))
        (fun _ _ _ _ _ => pg_tup rfl (pgs_cons (pg_name (i := 3) scRegs.nd rfl (Or.inl rfl)) (pgs_cons (pg_name (i := 4) scRegs.nd rfl (Or.inl rfl)) pgs_nil))) (fun _ _ _ _ _ => pts_nil)
        (fun _ _ _ _ _ => pe_tup (pa_cons (pe_dget hu (pv 1) (pv 2) (fun _ _ => rfl)) (pa_cons (pv 3) (pa_cons (pe_fld (pv 4) rfl) (pa_cons (pe_dget hu (pv 1) (pe_fld (pv 4) rfl) (fun _ _ => rfl)) (pa_cons (pe_fld (pv 4) rfl) (pa_cons (pe_fld (pv 4) rfl) pa_nil))))))))))), ?_⟩
    have hb := A0.at_ .box trivial
    have Tb := A0.tabAt
    refine ⟨fun σ' H1 => ∃ (ys : List Int) (D : Addr) (kvs : List (Key × V)), ys.Perm S.procs ∧ ys.Pairwise (· ≤ ·) ∧ σ' = [some (.ref (ad .box)), some (.ref D), none, none, none] ∧ Same H H1 ∧ H1 D = some (.dK kvs) ∧ H D = none ∧
      ∀ t ∈ thingsOf S [] ys, ∃ v r, valV kvs (Sum.inl t) = some v ∧ (placesIn S t ys)[0]? = some r ∧ PlAt H1 v r, ?_, ?_⟩
    · walk_at "wn"
      refine tDc_of ?_
      unfold iList
      walk_at "wn"
      refine ⟨_, rfl, ad .box, dx .box, _, rfl, hb, rfl, ?_⟩
      walk_at "wn"
      refine ⟨S, ad, dx, rfl, Tb, hp, ht, fun ys H1 r pm pw s1 nr hr1 => ?_⟩
      refine ⟨r, rfl, ⟨_, SqL.of hr1⟩, fun D hD => ?_⟩
      have tlen := things_len (S := S) (ps := ys) (acc := []) fun p hp => ht p (pm.mem_iff.mp hp)
      have lp := pm.length_eq
      refine rounds_it (walk_list (K := K) (xs := (thingsOf S [] ys).map V.int)) (fun i H' => ∃ kvs : List (Key × V), Same H1 H' ∧ H' D = some (.dK kvs) ∧ kvs.length ≤ i ∧ ∀ t ∈ (thingsOf S [] ys).take i, ∃ v r, valV kvs (Sum.inl t) = some v ∧ (placesIn S t ys)[0]? = some r ∧ PlAt H' v r) ⟨[], Same.new' hD, upd_same, Nat.zero_le _, fun t h => absurd h (by simp)⟩ (fun i H' _ ⟨_, sm, _⟩ => SqL.of (sm _ _ hr1)) ?_ ?_
      · rintro i x H2 H3 hi ⟨kvs, sm, hd, kl, hk⟩ ⟨rfl, ex⟩
        rw [List.getElem?_map] at ex
        rw [List.length_map] at hi
        cases et : (thingsOf S [] ys)[i]? with
        | none => rw [et] at ex; cases ex
        | some t =>
        rw [et] at ex
        cases ex
        obtain ⟨p, hpy, n, hn⟩ := (mem_things.mp (List.mem_of_getElem? et)).resolve_left List.not_mem_nil
        have s3 := s1.trans sm
        walk_at "wn"
        refine ⟨rfl, ?_⟩
        walk_at "wn"
        refine ⟨_, rfl, ad .box, dx .box, _, rfl, s3 _ _ hb, rfl, ?_⟩
        walk_at "wn"
        refine ⟨t, S, ad, dx, rfl, Tb.same s3, hp, ht, ⟨p, pm.mem_iff.mp hpy, n, hn⟩, fun ys2 H4 v r pm2 pw2 s4 e4 pl => ?_⟩
        obtain rfl := sort_uniq (pm2.trans pm.symm) pw2 pw
        have hd4 := s4 _ _ hd
        simp only [List.length_nil, Nat.zero_add] at tlen
        refine ⟨kvs, Sum.inl t, rfl, hd4, by rw [sizeLine_eq]; omega, _, fun b o e => ?_, upd_same, ?_, fun t' ht' => ?_⟩
        · rw [upd_ne (ne_of_none e hD)]
          exact s4 _ _ (sm _ _ e)
        · have := length_putK kvs (Sum.inl t) v
          omega
        · rw [valV_put]
          by_cases z : t' = t
          · subst z
            exact ⟨v, r, if_pos rfl, e4, pl.upd hd4 fun xs z => by cases z⟩
          · rw [List.take_add_one, et, Option.toList_some, List.mem_append, List.mem_singleton] at ht'
            obtain ⟨v', r', a1, a2, a3⟩ := hk t' (ht'.resolve_right z)
            exact ⟨v', r', by rw [if_neg (fun y => z (Sum.inl.inj y))]; exact a1, a2, (a3.keep fun b o e => .inr (s4 _ _ e)).upd hd4 fun xs z => by cases z⟩
      · rintro H' ⟨kvs, sm, hd, kl, hk⟩
        rw [List.length_map, List.take_length] at hk
        walk_at "wn"
        exact ⟨ys, D, kvs, pm, pw, rfl, s1.trans sm, hd, s1.free hD, hk⟩
    · rintro σ' H1 ⟨ys, D, kvs, pm, pw, rfl, sm, hD, nD, hk⟩
      have hs : s0 ∈ S.sets := by rw [hsets]; exact List.mem_singleton.mpr rfl
      have he := A0.at_ (.ent s0) hs
      refine ⟨ad (.ent s0), _, sm _ _ he, trivial, fun od => ?_⟩
      have hL : ∀ b, b ≠ ad (.ent s0) → upd H1 (ad (.ent s0)) (.frz od (co C S ad dx (.ent s0))) b = H1 b := fun b n => upd_ne n
      have hLe : upd H1 (ad (.ent s0)) (.frz od (co C S ad dx (.ent s0))) (ad (.ent s0)) = some (.frz od (co C S ad dx (.ent s0))) := upd_same
      generalize upd H1 (ad (.ent s0)) (.frz od (co C S ad dx (.ent s0))) = HL at hL hLe ⊢
      have cellL : ∀ c, live S c → c ≠ .ent s0 → HL (ad c) = some (co C S ad dx c) := fun c lc n => by
        rw [hL _ (A0.ne lc hs n)]
        exact sm _ _ (A0.at_ c lc)
      have TbL : TabAt C HL S ad dx := ⟨cellL .box trivial (by intro z; cases z), cellL .tabD trivial (by intro z; cases z), fun p hp => cellL (.tab p) hp (by intro z; cases z)⟩
      have nDe : D ≠ ad (.ent s0) := fun z => by rw [z, he] at nD; cases nD
      have hDL : HL D = some (.dK kvs) := (hL D nDe).trans hD
      walk_at "wn"
      refine tLc2_of ?_
      unfold iList
      walk_at "wn"
      refine ⟨_, rfl, ad .box, dx .box, _, rfl, TbL.box, rfl, ?_⟩
      walk_at "wn"
      refine ⟨S, ad, dx, rfl, TbL, hp, ht, fun ys2 H2 r pm2 pw2 s2 nr hr2 => ?_⟩
      obtain rfl := sort_uniq (pm2.trans pm.symm) pw2 pw
      refine ⟨r, rfl, ⟨_, SqL.of hr2⟩, fun D2 hD2 => ?_⟩
      have nd : (thingsOf S [] ys2).Nodup := things_nodup List.nodup_nil
      have ms : s0 ∈ thingsOf S [] ys2 := mem_things.mpr (.inr (by
        obtain ⟨p, hpS, n, hn⟩ := hs0
        exact ⟨p, pm.mem_iff.mpr hpS, n, hn⟩))
      have cell2 : ∀ c, live S c → c ≠ .ent s0 → H2 (ad c) = some (co C S ad dx c) := fun c lc n => s2 _ _ (cellL c lc n)
      have e2 := s2 _ _ hLe
      have hD2n := s2 _ _ hDL
      have box2 := cell2 .box trivial (by intro z; cases z)
      have set2 := cell2 .setD trivial (by intro z; cases z)
      have ws2 := cell2 (.ws s0) hs (by intro z; cases z)
      have pl2 : ∀ {v r}, PlAt H1 v r → PlAt H2 v r := fun {v r} ⟨T, a1, a2⟩ => ⟨T, a1, s2 _ _ ((hL T fun z => by rw [z, sm _ _ he] at a2; cases a2).trans a2)⟩
      refine rounds_it (walk_list (K := K) (xs := (thingsOf S [] ys2).map V.int)) (fun i H' => ∃ rs, Same H2 H' ∧ H' D2 = some (.lst rs) ∧ Paired (RgAt S ys2 s0 H') rs (if s0 ∈ (thingsOf S [] ys2).take i then S.ents s0 else [])) ⟨[], Same.new' hD2, upd_same, by rw [List.take_zero, if_neg List.not_mem_nil]; exact .nil⟩ (fun i H' _ ⟨_, sm, _⟩ => SqL.of (sm _ _ hr2)) ?_ ?_
      · rintro i x H3 H4 hi ⟨rs, s3, hd, pr⟩ ⟨rfl, ex⟩
        rw [List.getElem?_map] at ex
        cases et : (thingsOf S [] ys2)[i]? with
        | none => rw [et] at ex; cases ex
        | some t =>
        rw [et] at ex
        cases ex
        walk_at "wn"
        refine ⟨rfl, ?_⟩
        walk_at "wn"
        refine ⟨_, rfl, _, rfl, ad .box, C.S, dx .box, _, _, rfl, s3 _ _ box2, T.cl, T.no _ (by decide), rfl, ?_⟩
        refine ⟨ad .setD, _, rfl, DGet.k (k := Sum.inl t) (s3 _ _ set2), ?_⟩
        rw [ent_val, hsets]
        by_cases z : t = s0
        · subst z
          have nin : t ∉ (thingsOf S [] ys2).take i := fun h => by
            obtain ⟨j, hj, e⟩ := List.mem_take_iff_getElem.mp h
            have h1 := List.getElem?_eq_some_iff.mp et
            obtain ⟨hi2, e3⟩ := h1
            have := (List.getElem_inj nd).mp (e.trans e3.symm)
            omega
          rw [if_neg nin] at pr
          rw [if_pos (List.mem_singleton.mpr rfl)]
          refine ⟨_, rfl, ?_⟩
          refine iteT ?_
          cases pr
          have hv : valV (entKV S.sets fun s => ad (.ws s)) (Sum.inl t) = some (.ref (ad (.ws t))) := by rw [ent_val, if_pos hs]
          refine ⟨_, rfl, ad .box, C.S, dx .box, _, _, rfl, s3 _ _ box2, T.cl, T.no _ (by decide), rfl, _, rfl, ad .setD, _, rfl, hv ▸ DGet.k (k := Sum.inl t) (s3 _ _ set2), ad (.ws t), C.W, dx (.ws t), _, _, rfl, s3 _ _ ws2, TW.cl, TW.no _ (by decide), rfl, ad (.ent t), od, _, rfl, s3 _ _ e2, ?_⟩
          refine rounds_it (walk_items (kvs := entKV (S.ents t) fun l => ad (.reg t l)) (o := od) (d := ad (.ent t))) (fun j H' => ∃ rs, Same H2 H' ∧ H' D2 = some (.lst rs) ∧ Paired (RgAt S ys2 t H') rs ((S.ents t).take j)) ⟨[], s3, hd, .nil⟩ (fun j H' _ ⟨_, sm, _⟩ => sm _ _ e2) ?_ ?_
          · rintro j x H5 H6 hj ⟨rs, s5, hd5, pr5⟩ ⟨T1, x1, y1, rfl, nT, rfl, ex, ey⟩
            cases el : (S.ents t)[j]? with
            | none =>
              have h1 := List.getElem?_eq_none_iff.mp el
              have h2 : j < ((S.ents t).map fun l => ((Sum.inl l : Key), V.ref (ad (.reg t l)))).length := hj
              rw [List.length_map] at h2
              omega
            | some l =>
            have ek : (entKV (S.ents t) fun l => ad (.reg t l))[j]? = some (Sum.inl l, .ref (ad (.reg t l))) := by
              unfold entKV
              rw [List.getElem?_map, el]
              rfl
            have ex : ((entKV (S.ents t) fun l => ad (.reg t l))[j]?.map fun kv => kV kv.1) = some x1 := ex
            have ey : ((entKV (S.ents t) fun l => ad (.reg t l))[j]?.map Prod.snd) = some y1 := ey
            rw [ek] at ex ey
            obtain rfl := Option.some.inj ex
            obtain rfl := Option.some.inj ey
            have hl : l ∈ S.ents t := List.mem_of_getElem? el
            have jlt : j < (S.ents t).length := (List.getElem?_eq_some_iff.mp el).1
            obtain ⟨v1, q1, a1, a2, a3⟩ := hk t ms
            obtain ⟨v2, q2, b1, b2, b3⟩ := hk (S.reg t l).src (mem_things.mpr (.inr (by
              obtain ⟨p, hpS, n, hn⟩ := hsrc l hl
              exact ⟨p, pm.mem_iff.mpr hpS, n, hn⟩)))
            have s6 := Same.new' (o := .tup [kV (Sum.inl l), .ref (ad (.reg t l))]) nT
            have s7 := s5.trans s6
            have hd6 := s6 _ _ hd5
            have pr6 := rgs_keep pr5 fun b o h => .inr (s6 _ _ h)
            have reg6 := s7 _ _ (cell2 (.reg t l) ⟨hs, hl⟩ (by intro z; cases z))
            have D6 := s7 _ _ hD2n
            refine ⟨T1, _, rfl, SqT.of upd_same, rfl, _, _, rfl, ?_⟩
            walk_at "wn"
            refine ⟨_, _, rfl, ?_⟩
            walk_at "wn"
            refine ⟨rfl, rfl, ?_⟩
            generalize upd H5 T1 (.tup [kV (Sum.inl l), .ref (ad (.reg t l))]) = H6 at s7 hd6 pr6 reg6 D6 ⊢
            walk_at "wn"
            refine ⟨_, rfl, _, rfl, D, _, rfl, a1 ▸ DGet.k (k := Sum.inl t) D6, ?_⟩
            walk_at "wn"
            refine ⟨_, rfl, ad (.reg t l), C.R, dx (.reg t l), _, _, rfl, reg6, TR.cl, TR.no _ (by decide), rfl, ?_⟩
            walk_at "wn"
            refine ⟨_, rfl, _, rfl, ad (.reg t l), C.R, dx (.reg t l), _, _, rfl, reg6, TR.cl, TR.no _ (by decide), rfl, D, _, rfl, b1 ▸ DGet.k (k := Sum.inl (S.reg t l).src) D6, ?_⟩
            walk_at "wn"
            refine ⟨_, rfl, ad (.reg t l), C.R, dx (.reg t l), _, _, rfl, reg6, TR.cl, TR.no _ (by decide), rfl, ?_⟩
            walk_at "wn"
            refine ⟨_, rfl, ad (.reg t l), C.R, dx (.reg t l), _, _, rfl, reg6, TR.cl, TR.no _ (by decide), rfl, ?_⟩
            walk_at "wn"
            refine ⟨by show 6 ≤ sizeLine; decide, fun T2 hT2 => ?_⟩
            have nT2 : T2 ≠ D2 := fun z => by rw [z, hd6] at hT2; cases hT2
            have s8 := Same.new' (o := .tup [v1, .int l, .int (S.reg t l).num, v2, .str (S.reg t l).word, .bl (S.reg t l).armed]) hT2
            have kp : ∀ b o, H6 b = some o → (∀ xs, o ≠ .tup xs) ∨ upd (upd H6 T2 (.tup [v1, .int l, .int (S.reg t l).num, v2, .str (S.reg t l).word, .bl (S.reg t l).armed])) D2 (.lst (rs ++ [.ref T2])) b = some o := fun b o h => by
              by_cases z : b = D2
              · rw [z, hd6] at h
                cases h
                exact .inl fun xs y => by cases y
              · exact .inr (by rw [upd_ne z]; exact s8 _ _ h)
            have l1 := pr6.length
            rw [List.length_take] at l1
            refine ⟨rs, s8 _ _ hd6, by rw [sizeLine_eq]; omega, _, fun b o h => ?_, upd_same, ?_⟩
            · rw [upd_ne (ne_of_none h hD2)]
              exact (s7.trans s8) _ _ h
            · rw [List.take_add_one, el, Option.toList_some]
              exact paired_snoc (rgs_keep pr6 kp) ⟨T2, v1, v2, q1, q2, rfl, (upd_ne nT2).trans upd_same, a2, ((pl2 a3).keep fun b o h => .inr (s7 _ _ h)).keep kp, b2, ((pl2 b3).keep fun b o h => .inr (s7 _ _ h)).keep kp⟩
          · rintro H' ⟨rs, s5, hd5, pr5⟩
            have e : (S.ents t).take (entKV (S.ents t) fun l => ad (.reg t l)).length = S.ents t := by
              unfold entKV
              rw [List.length_map, List.take_length]
            rw [e] at pr5
            refine ⟨rs, s5, hd5, ?_⟩
            rw [List.take_add_one, et, Option.toList_some, if_pos (List.mem_append_right _ (List.mem_singleton.mpr rfl))]
            exact pr5
        · rw [if_neg (fun h => z (List.mem_singleton.mp h))]
          refine ⟨_, rfl, ?_⟩
          refine iteF ?_
          have e : (if s0 ∈ (thingsOf S [] ys2).take (i + 1) then S.ents s0 else []) = if s0 ∈ (thingsOf S [] ys2).take i then S.ents s0 else [] := by
            rw [List.take_add_one, et, Option.toList_some]
            by_cases h : s0 ∈ (thingsOf S [] ys2).take i
            · rw [if_pos h, if_pos (List.mem_append_left _ h)]
            · rw [if_neg h, if_neg (fun y => (List.mem_append.mp y).elim h fun w => z (List.mem_singleton.mp w).symm)]
          exact ⟨rs, s3, hd, by rw [e]; exact pr⟩
      · rintro H' ⟨rs, s3, hd, pr⟩
        rw [List.length_map, List.take_length, if_pos ms] at pr
        have e3 := s3 _ _ e2
        have nE : D2 ≠ ad (.ent s0) := fun z => by rw [z, e2] at hD2; cases hD2
        refine ⟨e3, k ys2 _ D2 rs pm pw (fun b o h => ?_) ?_ ((upd_ne nE).trans hd) (rgs_keep pr fun b o h => ?_)⟩
        · by_cases z : b = ad (.ent s0)
          · rw [z, he] at h
            cases h
            rw [z]
            exact upd_same
          · rw [upd_ne z]
            exact s3 _ _ (s2 _ _ ((hL b z).trans (sm _ _ h)))
        · cases h : H D2 with
          | none => rfl
          | some o => exact absurd (s2 _ _ ((hL D2 nE).trans (sm _ _ h))) (by rw [hD2]; exact fun z => by cases z)
        · by_cases z : b = ad (.ent s0)
          · rw [z, e3] at h
            cases h
            exact .inl fun xs y => by cases y
          · exact .inr (by rw [upd_ne z]; exact h)
end

/-! the bag of draws: two numbers that are not negative, the second one below 2 ^ 31 -/
def BagAt (H : Hp) (p : Addr) : Prop := ∃ a b : Int, H p = some (.lst [.int a, .int b]) ∧ 0 ≤ a ∧ 0 ≤ b ∧ b < 2147483648
def Dr (p : Addr) (H H' : Hp) : Prop := (∀ a o, a ≠ p → H a = some o → H' a = some o) ∧ BagAt H' p
structure DrawTxt (mg : Str → Option Value) : Prop where
  len : mg "len" = none
  enum : mg "enumerate" = none
  int : mg "int" = none
  abs : mg "abs" = none
def spBag (K : PySem.W.Frag) : Sp := fun vs H Q _ => ∃ (a : Addr) (ns : List Int) (i : Nat), vs = [.ref a, .int i] ∧ SqL K H a (ns.map V.int) ∧ ns.length ≤ 63 ∧ i ≤ 100 ∧
  ∀ (H' : Hp) (p : Addr), H p = none → Same H H' → BagAt H' p → Q (.ref p) H'
def spTake : Sp := fun vs H Q _ => ∃ (p : Addr) (m : Int), vs = [.ref p, .int m] ∧ BagAt H p ∧ 0 < m ∧ m < 4611686018427387904 ∧
  ∀ (k : Int) (H' : Hp), 0 ≤ k → k < m → (∀ b, b ≠ p → H' b = H b) → BagAt H' p → Q (.int k) H'
def spOf (K : PySem.W.Frag) : Sp := fun vs H Q _ => ∃ (p l : Addr) (xs : List V), vs = [.ref p, .ref l] ∧ BagAt H p ∧ SqL K H l xs ∧ l ≠ p ∧ 0 < xs.length ∧ xs.length ≤ 1000 ∧
  ∀ (k : Nat) (v : V) (H' : Hp), xs[k]? = some v → (∀ b, b ≠ p → H' b = H b) → BagAt H' p → Q v H'
section
variable {P : Program} {w : World} {K : PySem.W.Frag} {mg : Str → Option Value} {base : Heap}
theorem scBag : FnScope ["_law_script", "_law_at", "_law_cell", "_law_blend", "_law_k", "_law_each"] ["_law_script", "_law_at"] (defScope sBag) := ⟨rfl, rfl, rfl, by decide +kernel, rfl, by decide +kernel, by decide +kernel⟩
theorem okBag {f : Addr} {fd : FuncData} (F : Fun K "_law_bag" "_law_bag" sBag f fd) (T : DrawTxt mg) : FnOk P w K mg base CX0 1 f fd ["_law_script", "_law_at"] (spBag K) := by
  refine F.ok scBag (fun vs H Q E h => ?_) (fun cdv A outer s H vs Q E hr h => ?_)
  · obtain ⟨a, ns, i, rfl, _⟩ := h
    rfl
  · obtain ⟨a, ns, i, rfl, hS, hl, hi, k⟩ := h
    refine ⟨_, pss_cut (ps_set (i := 2) scBag.nd rfl (Or.inl rfl) (pe_ifExp (pt_cmpR op_lt (pv 1) (pe_callB cLenQ (by rfl) T.len PySem.boot_len (pa_cons (pv 0) pa_nil)) (nomark _)) (pe_ix ix_list (pv 0) (pv 1) (fun _ _ => rfl)) pe_int))
      (pss_cons (ps_set (i := 3) scBag.nd rfl (Or.inl rfl) (pe_op op_add (pe_op op_mul pe_int (pv 1)) pe_int))
      (pss_cut (ps_for PassesOwn.never rfl (pi_enum (by rfl) T.enum (pa_cons (pe_slice sl_list (pv 0) po_none (po_some pe_int)) pa_nil)) (pg_tup rfl (pgs_cons (pg_name (i := 4) scBag.nd rfl (Or.inl rfl)) (pgs_cons (pg_name (i := 5) scBag.nd rfl (Or.inl rfl)) pgs_nil)))
        (pss_one (ps_set (i := 3) scBag.nd rfl (Or.inl rfl) (pe_op op_mod (pe_callTy cInt1 (by rfl) T.int PyProof.Rows.boot_int (pa_cons (pe_op op_add (pe_op op_add (pe_op op_add (pe_op op_mul (pv 3) pe_int) (pe_op op_mod (pe_callTy cInt1 (by rfl) T.int PyProof.Rows.boot_int (pa_cons (pv 5) pa_nil)) pe_int)) (pe_op op_mul pe_int (pv 4))) pe_int) pa_nil)) pe_int))))
      (pss_one (ps_ret (pe_lst (pa_cons (pe_ifExp (pt_cmpR op_ge (pe_callB cAbs (by rfl) T.abs (by decide +kernel) (pa_cons (pv 2) pa_nil)) (pe_op op_pow pe_int pe_int) (nomark _)) (pe_callB cAbs (by rfl) T.abs (by decide +kernel) (pa_cons (pv 2) pa_nil)) pe_int) (pa_cons (pv 3) pa_nil))))))), ?_⟩
    refine ⟨fun σ' H' => ∃ c : Int, σ' = [some (.ref a), some (.int i), some (.int c), none, none, none] ∧ H' = H, ?_, ?_⟩
    · walk_at "wn"
      refine ⟨a, _, rfl, .inl hS, ?_⟩
      walk_at "wn"
      refine ite2 (fun hc => ?_) (fun hc => ?_)
      · have hlt : i < (ns.map V.int).length := by have := of_decide_eq_true hc; omega
        rw [List.length_map] at hlt
        walk_at "wn"
        refine ⟨a, _, _, _, rfl, rfl, hS, atI_nat (v := V.int (ns[i])) (by rw [List.getElem?_map, List.getElem?_eq_getElem hlt]; rfl), ?_⟩
        exact ⟨_, rfl, rfl⟩
      · exact ⟨0, rfl, rfl⟩
    · rintro σ' H' ⟨c, rfl, rfl⟩
      walk_at "wn"
      refine ⟨fun σ' H2 => ∃ (b : Int) (u v : Option V), 0 ≤ b ∧ b < 2147483648 ∧ σ' = [some (.ref a), some (.int i), some (.int c), some (.int b), u, v] ∧ Same H' H2, ?_, ?_⟩
      · show tSl _ _ _ _ _ _ _
        walk_at "wn"
        refine ⟨a, _, rfl, hS, fun p hp => ?_⟩
        walk_at "wn"
        refine ⟨p, _, rfl, SqL.of upd_same, ?_⟩
        refine for_it (walk_enum (xs := cutV (ns.map V.int) none (some 40))) (fun j σ' H3 => ∃ (b : Int) (u v : Option V), 0 ≤ b ∧ b < 2147483648 ∧ σ' = [some (.ref a), some (.int i), some (.int c), some (.int b), u, v] ∧ Same (upd H' p (.lst (cutV (ns.map V.int) none (some 40)))) H3) ?_ ?_ ?_ ?_
        · exact ⟨_, none, none, by omega, by omega, rfl, Same.refl _⟩
        · rintro j σ' H3 hj ⟨b, u, v, b0, b1, rfl, sm⟩
          exact sm.seq (SqL.of upd_same)
        · rintro j x σ' H3 H4 hj ⟨b, u, v, b0, b1, rfl, sm⟩ ⟨T1, x1, y1, rfl, nT, rfl, hx, hy⟩
          obtain rfl := Option.some.inj hx
          obtain ⟨z, rfl⟩ : ∃ z, y1 = V.int z := by
            have q : y1 ∈ ns.map V.int := List.mem_of_mem_drop (List.mem_of_mem_take (List.mem_of_getElem? hy))
            obtain ⟨z, _, e⟩ := List.mem_map.mp q
            exact ⟨z, e.symm⟩
          refine ⟨T1, _, rfl, SqT.of upd_same, rfl, _, _, rfl, ?_⟩
          walk_at "wn"
          refine ⟨_, _, rfl, ?_⟩
          walk_at "wn"
          refine ⟨rfl, ?_⟩
          walk_at "wn"
          refine ⟨_, _, _, by omega, by omega, rfl, fun x o hx => ?_⟩
          rw [upd_ne (ne_of_none (sm _ _ hx) nT)]
          exact sm _ _ hx
        · rintro σ' H3 ⟨b, u, v, b0, b1, rfl, sm⟩
          exact ⟨b, u, v, b0, b1, rfl, fun x o hx => sm _ _ (by rw [upd_ne (ne_of_none hx hp)]; exact hx)⟩
      · rintro σ' H2 ⟨b, u, v, b0, b1, rfl, sm⟩
        walk_at "wn"
        refine g_rI ⟨by decide, by decide, by decide⟩ ?_
        walk_at "wn"
        have fin : ∀ z : Int, 0 ≤ z → ([V.int z, V.int b].length ≤ sizeLine ∧ ∀ p, H2 p = none → Q (V.ref p) (upd H2 p (HO.lst [V.int z, V.int b]))) := fun z hz => ⟨by show 2 ≤ sizeLine; decide, fun p hp => k _ p (sm.free hp) (fun x o hx => by
          rw [upd_ne (ne_of_none (sm _ _ hx) hp)]
          exact sm _ _ hx) ⟨z, b, upd_same, hz, b0, b1⟩⟩
        refine ite2 (fun hc => ?_) (fun hc => ?_)
        · walk_at "wn"
          exact fin _ (by split <;> omega)
        · walk_at "wn"
          exact fin 0 (by decide)
theorem scTake : FnScope ["_law_bag_here", "_law_many", "_law_digit"] ["_law_bag_here", "_law_many"] (defScope sTake) := ⟨rfl, rfl, rfl, by decide +kernel, rfl, by decide +kernel, by decide +kernel⟩
theorem okTake {f : Addr} {fd : FuncData} (F : Fun K "_law_take" "_law_take" sTake f fd) (T : DrawTxt mg) : FnOk P w K mg base CX0 1 f fd ["_law_bag_here", "_law_many"] spTake := by
  refine F.ok scTake (fun vs H Q E h => ?_) (fun cdv A outer s H vs Q E hr h => ?_)
  · obtain ⟨a, m, rfl, _⟩ := h
    rfl
  · obtain ⟨p, m, rfl, ⟨a, b, hp, a0, b0, b1⟩, m0, m1, k⟩ := h
    refine ⟨_, pss_cons (ps_if (pt_cmpR op_gt (pe_ix ix_list (pv 0) pe_int (fun _ _ => rfl)) pe_int (nomark _))
        (pss_cons (ps_set (i := 2) scTake.nd rfl (Or.inl rfl) (pe_op op_mod (pe_callTy cInt1 (by rfl) T.int PyProof.Rows.boot_int (pa_cons (pe_ix ix_list (pv 0) pe_int (fun _ _ => rfl)) pa_nil)) (pv 1)))
        (pss_cons (ps_asg (pe_op op_fdivW (pe_ix ix_list (pv 0) pe_int (fun _ _ => rfl)) (pv 1)) (pg_sub (pv 0) pe_int set_list))
        (pss_one (ps_ret (pv 2))))) pss_nil)
      (pss_cons (ps_asg (pe_op op_mod (pe_callTy cInt1 (by rfl) T.int PyProof.Rows.boot_int (pa_cons (pe_op op_add (pe_op op_mul (pe_ix ix_list (pv 0) pe_int (fun _ _ => rfl)) pe_int) pe_int) pa_nil)) pe_int) (pg_sub (pv 0) pe_int set_list))
      (pss_one (ps_ret (pe_op op_mod (pe_op op_fdivW (pe_op op_mod (pe_callTy cInt1 (by rfl) T.int PyProof.Rows.boot_int (pa_cons (pe_op op_mul (pe_op op_fdivW (pe_ix ix_list (pv 0) pe_int (fun _ _ => rfl)) pe_int) pe_int) pa_nil)) pe_int) pe_int) (pv 1))))), ?_⟩
    walk_at "wn"
    refine ite2 (fun hc => ?_) (fun hc => ?_)
    · walk_at "wn"
      refine k _ _ (Int.emod_nonneg _ (by omega)) (Int.emod_lt_of_pos _ m0) (fun x hx => upd_ne hx) ⟨_, _, upd_same, Int.ediv_nonneg a0 (by omega), b0, b1⟩
    · walk_at "wn"
      refine k _ _ (Int.emod_nonneg _ (by omega)) (Int.emod_lt_of_pos _ m0) (fun x hx => upd_ne hx) ⟨_, _, upd_same, a0, by omega, by omega⟩
theorem scOf : FnScope ["_law_bag_here", "_law_some"] ["_law_bag_here", "_law_some"] (defScope sOf) := ⟨rfl, rfl, rfl, by decide +kernel, rfl, by decide +kernel, by decide +kernel⟩
theorem okOf {f fT : Addr} {fd fdT : FuncData} (F : Fun K "_law_of" "_law_of" sOf f fd) (T : DrawTxt mg) (FT : Fun K "_law_take" "_law_take" sTake fT fdT) (gT : mg "_law_take" = some (.ref fT)) (bT : Binds K fdT ["_law_bag_here", "_law_many"] []) : FnOk P w K mg base CX0 2 f fd ["_law_bag_here", "_law_some"] (spOf K) := by
  have GT : FnOk P w K mg base CX0 1 fT fdT ["_law_bag_here", "_law_many"] spTake := okTake FT T
  refine F.ok scOf (fun vs H Q E h => ?_) (fun cdv A outer s H vs Q E hr h => ?_)
  · obtain ⟨a, l, xs, rfl, _⟩ := h
    rfl
  · obtain ⟨p, l, xs, rfl, hb, hx, hl, l0, l1, k⟩ := h
    refine ⟨_, pss_one (ps_ret (pe_ix ix_seq (pv 1) (pe_call GT hr (by rfl) gT FT.kp bT .nil pass0 (pa_cons (pv 0) (pa_cons (pe_callB cLenQ (by rfl) T.len PySem.boot_len (pa_cons (pv 1) pa_nil)) pa_nil))) (fun _ _ => rfl))), ?_⟩
    walk_at "wn"
    refine ⟨l, xs, rfl, .inl hx, ?_⟩
    walk_at "wn"
    refine ⟨p, _, rfl, hb, by omega, by omega, fun i H1 i0 i1 he hb1 => ?_⟩
    obtain ⟨j, rfl⟩ := Int.eq_ofNat_of_zero_le i0
    have hj : j < xs.length := by omega
    exact .inl ⟨l, xs, _, xs[j], rfl, rfl, seq_at (he l hl) hx, atI_nat (List.getElem?_eq_getElem hj), k j _ H1 (List.getElem?_eq_getElem hj) he hb1⟩
end

/-! len(o), o of a class of the program with its own __len__ -/
def rLenOwn (C : Addr) (sp : Sp) : List V → Hp → VK → Prop := fun xs H Q => ∃ a dx fs, xs = [.ref a] ∧ H a = some (.ins C dx fs) ∧ sp [.ref a] H (fun v H' => ∃ n : Nat, v = .int (n : Int) ∧ n < 1000000 ∧ Q (.int (n : Int)) H') fun _ _ _ => False
section
open Builtin
theorem call_lenOwn {X : Cx} {CX : CXT} {k : Nat} {C f : Addr} {fd : FuncData} {ps : List Str} {sp : Sp} (F : FnOk X.prog X.w X.K X.mg X.base CX k f fd ps sp) (hr : Room (k + 1) X.A)
    (hs : PySem.W.findIn X.K (.ref C) "__len__" = some (some (.ref f))) (hf : PySem.W.isFn X.K (.ref f) = true) (hb : Binds X.K fd ps []) (hx : Passes CX X fun _ _ _ => False) : CallR X (.builtin "len") (rLenOwn C sp) := by
  intro pins s σ H xs us Q I r h
  obtain ⟨a, dx, fs, rfl, ha, hsp⟩ := h
  obtain ⟨u, rfl, ru⟩ := vals1 r
  obtain rfl : u = Value.ref a := ru
  obtain ⟨mA, J, _⟩ := ins_get I.hok ha
  obtain ⟨od, J, _⟩ := J.look
  refine Calls.call_function_entry kind_len plain_len entry_len (args_len1 _) ?_
  unfold Builtin.«len»
  refine wpAny_bind (m := oneArg "len" _) (wpAny_pure ?_)
  refine wpAny_bind (m := callSpecial? (.ref a) (PySem.Str.ofString "__len__")) (PySem.W.special_fn I.kIn J hs (beq_iff_eq.mp hf) ?_)
  have hl := F.len _ _ _ _ hsp
  refine wpAny_call (codeAny_mono (F.run X.A.in1 X.stack s H ⟨[.ref a], []⟩ [.ref a] [.ref a] _ _ hr.in1 I.env0.in1 (by
    have := hb s [.ref a] I.kIn (by simpa using hl)
    simpa using this) (.cons rfl .nil) hsp) fun r s' hq => ?_)
  cases r with
  | error e => exact hx pins σ H s e s' I hq
  | ok fl =>
    cases fl with
    | ret w =>
      obtain ⟨z, H', I', rz, n, ez, hn, q⟩ := I.after hq
      subst ez
      obtain ⟨t, rfl⟩ := rz
      refine wpAny_bind (wpAny_holding (wpAny_pure ?_))
      refine wpAny_bind (wpAny_letGo ?_)
      show wpAny _ _ (if ((n : Nat) : Int) < 0 then _ else _) _ _ _
      rw [if_neg (by omega)]
      show wpAny _ _ (if ((n : Nat) : Int) ≥ 2 ^ 63 then _ else _) _ _ _
      rw [if_neg (by omega)]
      exact wpAny_bind (wpAny_mkInt (wpAny_pure ⟨_, rfl, .int (n : Int), H', I'.tok _, ⟨_, rfl⟩, q⟩))
    | next => exact False.elim hq
    | brk => exact False.elim hq
    | cont => exact False.elim hq
end
section
variable {P : Program} {w : World} {K : PySem.W.Frag} {mg : Str → Option Value} {base : Heap} {C : Cs}
def spLen (C : Cs) : Sp := fun vs H Q _ => OnSys C vs H [] fun S ad dx => Q (.int (S.procs.length : Int)) H
theorem scLen : FnScope ["self"] ["self"] (defScope sLen) := ⟨rfl, rfl, rfl, by decide +kernel, rfl, by decide +kernel, by decide +kernel⟩
theorem okLen {f : Addr} {fd : FuncData} (F : Fun K "__len__" "System.__len__" sLen f fd) (len : mg "len" = none) (T : ClsF K C.S sysF) : FnOk P w K mg base CX0 1 f fd ["self"] (spLen C) := by
  refine F.ok scLen (fun vs H Q E h => ?_) (fun cdv A outer s H vs Q E hr h => ?_)
  · obtain ⟨_, _, _, rfl, _⟩ := h
    rfl
  · obtain ⟨S, ad, dx, rfl, A0, k⟩ := h
    refine ⟨_, pss_one (ps_ret (pe_callB call_lenD (by rfl) len PySem.boot_len (pa_cons (pe_fld (pv 0) rfl) pa_nil))), ?_⟩
    have hb := A0.at_ .box trivial
    have hD : H (ad .tabD) = some (.dK (entKV S.procs fun p => ad (.tab p))) := A0.at_ .tabD trivial
    walk_at "wn"
    refine ⟨_, rfl, ad .box, C.S, dx .box, _, _, rfl, hb, T.cl, T.no _ (by decide), rfl, ?_⟩
    walk_at "wn"
    refine ⟨ad .tabD, _, rfl, hD, ?_⟩
    unfold entKV
    rw [List.length_map]
    exact k
end

theorem takes0 {X : Cx} : Takes X (fun _ _ _ _ => False) := fun u s' ⟨_, _, _, _, _, _, _, _, _, _, _, _, _, _, _, _, w⟩ => w.elim
abbrev EF : XK := fun _ _ _ => False
theorem passN {X : Cx} : Passes (L2.CX X.prog X.w) X EF := passX takes0
theorem paired_len {α β : Type} {R : α → β → Prop} : ∀ {xs : List α} {ys : List β}, Paired R xs ys → xs.length = ys.length
  | _, _, .nil => rfl
  | _, _, .cons _ p => congrArg Nat.succ (paired_len p)
/-! a method called where what it raises is caught here: the caller's state is known -/
section
variable {X : Cx} {CX : CXT} {k n : Nat} {f C : Addr} {fd : FuncData} {ps ks : List Str} {sp : Sp} {g : List Value → List Value → List Value} {gV : List V → List V → List V} {pins : List (Addr × Obj)} {σ : L2.St} {H : Hp} {s : Shared} {Q : VK} {us ws : List Value} {vs zs : List V}
theorem run_fnA {E : XK} (F : FnOk X.prog X.w X.K X.mg X.base CX k f fd ps sp) (hr : Room k X.A) (hb : KBn X.K fd ps n ks g gV) (hx : PassesAt CX X σ E) (I : L2.Inv X pins σ H s) (r : Vals vs us) (rz : Vals zs ws) (l1 : us.length = n) (l2 : ws.length = ks.length) (q : sp (gV vs zs) H Q E) :
    wpAny (model X.prog X.w) X.A (PySem.call (.ref f) us (ks.zip ws)) (EP X pins σ Q) X.xe s := by
  refine wpAny_call (codeAny_mono (F.run X.A X.stack s H ⟨us, ks.zip ws⟩ (g us ws) (gV vs zs) Q E hr I.env0 (hb.to s us ws I.kIn l1 l2) (hb.rel r rz) q) fun r s' hq => ?_)
  cases r with
  | error e => exact hx pins H s e s' I hq
  | ok fl =>
    cases fl with
    | ret w => exact I.after hq
    | next => exact False.elim hq
    | brk => exact False.elim hq
    | cont => exact False.elim hq
theorem KBn.of (hb : Binds X.K fd ps []) (hn : ps.length = n) : KBn X.K fd ps n [] (fun us _ => us) (fun vs _ => vs) := by
  refine ⟨fun s us ws hk l1 l2 => ?_, fun r _ => r⟩
  have := hb s us hk (by simpa [l1] using hn.symm)
  simpa using this
def tMethA (C : Addr) (m : Str) (n j : Nat) (sp : Sp) (gV : List V → List V → List V) (E : L2.St → XK) (ta : TE) (t tk : TA) : TE := fun σ H Q => ta σ H fun x H1 => ∃ a dx fs, x = .ref a ∧ H1 a = some (.ins C dx fs) ∧ fs.lookup m = none ∧ t σ H1 fun vs H2 => tk σ H2 fun zs H3 => vs.length = n ∧ zs.length = j ∧ sp (gV (x :: vs) zs) H3 Q (E σ)
theorem pe_methA {E : L2.St → XK} {m : Str} {apos pos : Pos} {o e : Expr} {es : List Expr} {kws : List Keyword} {ta : TE} {t tk : TA} {pl : Sem Bool} (he : PE X o ta) (c : Cls X.K C) (hm : Meth X.K C m f) (F : FnOk X.prog X.w X.K X.mg X.base CX k f fd ps sp) (hr : Room k X.A) (hb : KBn X.K fd ps (n + 1) ks g gV) (hx : ∀ σ, PassesAt CX X σ (E σ)) (ha : PA X (e :: es) t) (hkw : PK X kws tk)
    (hall : (backToKw pos (keywordEach kws X.env)).all (·.1.isSome) = true := by rfl) (hks : (backToKw pos (keywordEach kws X.env)).filterMap (·.1) = ks := by rfl)
    (hst : starEach (e :: es) X.env = (false, eval e X.env) :: starEach es X.env := by rfl) (hpl : ((backTo pos (starEach (e :: es) X.env)).any (·.1) || (backToKw pos (keywordEach kws X.env)).any (·.1.isNone)) = false := by rfl)
    (ht : eval (.Call (.Attribute o m apos) (e :: es) kws pos) X.env = (do
      let ov ← eval o X.env
      standAt apos.atName
      let (f, first) ← holding [ov] (getMethod ov m pl)
      callWith pos f first (backTo pos (starEach (e :: es) X.env)) (backToKw pos (keywordEach kws X.env))) := by rfl) :
    PE X (.Call (.Attribute o m apos) (e :: es) kws pos) (tMethA C m n ks.length sp gV E ta t tk) := by
  refine ⟨fun pins s σ H Q I h => ?_⟩
  refine PySem.W.methodCall_KW (pl := pl) (thn (he.run pins s σ H _ I h) fun u s1 ⟨x, H1, I1, rx, a, dx, fs, ex, ea, l, q⟩ => ?_) ht
  subst ex
  obtain rfl : u = Value.ref a := rx
  refine getmeth_ok I1 ea c hm l ?_
  refine PySem.W.callWith_KW (first := [.ref a]) (h₀ := X.base) I.ok.mod.kin hm.kp hall (thn (ha.run pos pins s1 σ H1 _ I1 q) fun us s2 ⟨vs, H2, I2, r, q2⟩ => ?_) hpl hst
  refine thn (hkw.run pos pins s2 σ H2 _ I2 q2) fun ws s3 ⟨zs, H3, I3, rz, l1, l2, q3⟩ => ⟨I3.kIn, ?_⟩
  rw [hks]
  have e1 : us.length = vs.length := (paired_len r).symm
  have e2 : ws.length = zs.length := (paired_len rz).symm
  exact run_fnA (us := .ref a :: us) (vs := .ref a :: vs) F hr hb (hx σ) I3 (.cons rfl r) rz (by rw [List.length_cons, e1, l1]) (e2.trans l2) q3
end
/-! the law's heap: its system, and the law's own objects O -/
structure LW (C : Cs) (Hb : Hp) (x : Addr) (H : Hp) (S : Sys) (ad dx : Cell → Addr) (O : Hp) : Prop where
  at_ : At C H S ad dx
  box : ad .box = x
  on : ∀ b o, O b = some o → H b = some o
  no : ∀ b o, O b = some o → ¬ own S ad b
  ob : ∀ b o, O b = some o → Hb b = none
  old : ∀ q o, Hb q = some o → H q = some o
  nb : ∀ b, own S ad b → Hb b = none
section
variable {C : Cs} {Hb H H1 H' : Hp} {x b : Addr} {S S' : Sys} {ad ad' dx dx' : Cell → Addr} {O : Hp} {o o' : HO}
theorem LW.same (W : LW C Hb x H S ad dx O) (s : Same H H') : LW C Hb x H' S ad dx O :=
  ⟨W.at_.same s, W.box, fun b o h => s _ _ (W.on b o h), W.no, W.ob, fun q o h => s _ _ (W.old q o h), W.nb⟩
theorem LW.hbn (W : LW C Hb x H S ad dx O) {b : Addr} (h : H b = none) : Hb b = none := by
  cases q : Hb b with
  | none => rfl
  | some o => rw [W.old b o q] at h; cases h
theorem LW.step (W : LW C Hb x H S ad dx O) (A : At C H' S' ad' dx') (st : Step H S ad H' S' ad') : LW C Hb x H' S' ad' dx' O := by
  refine ⟨A, st.box.trans W.box, fun b o h => st.keep _ _ (W.no b o h) (W.on b o h), fun b o h z => ?_, W.ob, fun q o h => st.keep _ _ (fun z => by rw [W.nb q z] at h; cases h) (W.old q o h), fun b hb => ?_⟩
  · rcases st.new b z with y | y
    · exact W.no b o h y
    · rw [W.on b o h] at y; cases y
  · rcases st.new b hb with z | z
    · exact W.nb b z
    · exact W.hbn z
/-- one of the law's own objects is written -/
theorem LW.put (W : LW C Hb x H S ad dx O) (hb : O b = some o) (h : H' b = some o') (k : ∀ q u, q ≠ b → H q = some u → H' q = some u) : LW C Hb x H' S ad dx (upd O b o') := by
  refine ⟨⟨fun c hc => k _ _ (fun z => W.no b o hb ⟨c, hc, z⟩) (W.at_.at_ c hc), W.at_.inj⟩, W.box, fun d u hd => ?_, fun d u hd => ?_, fun d u hd => ?_, fun q u hq => k q u (fun z => by rw [z, W.ob b o hb] at hq; cases hq) (W.old q u hq), W.nb⟩
  all_goals
    by_cases z : d = b
    · subst z
      rw [upd_same] at hd
      cases hd
      first | exact h | exact W.no _ _ hb | exact W.ob _ _ hb
    · rw [upd_ne z] at hd
      first | exact k _ _ z (W.on _ _ hd) | exact W.no _ _ hd | exact W.ob _ _ hd
/-- one more object of the law's own -/
theorem LW.new (W : LW C Hb x H S ad dx O) (hb : H b = none) (h : H' b = some o) (s : Same H H') : LW C Hb x H' S ad dx (upd O b o) := by
  have W1 := W.same s
  refine ⟨W1.at_, W1.box, fun d u hd => ?_, fun d u hd => ?_, fun d u hd => ?_, W1.old, W1.nb⟩
  all_goals
    by_cases z : d = b
    · subst z
      rw [upd_same] at hd
      cases hd
      first | exact h | exact W.at_.not_own hb | exact W.hbn hb
    · rw [upd_ne z] at hd
      first | exact W1.on _ _ hd | exact W1.no _ _ hd | exact W1.ob _ _ hd
theorem LW.fresh (W : LW C Hb x H S ad dx O) (hb : H b = none) : O b = none := by
  cases e : O b with
  | none => rfl
  | some o => rw [W.on b o e] at hb; cases hb
theorem LW.sq {K : PySem.W.Frag} {a : Addr} {xs : List V} (W : LW C Hb x H S ad dx O) (h : SqL K Hb a xs) : SqL K H a xs := Same.seq (fun b o e => W.old b o e) h
theorem LW.hb (W : LW C Hb x H S ad dx O) : H x = some (sysO C.S (dx .box) S (ad .tabD) (ad .srcD) (ad .setD)) := by rw [← W.box]; exact W.at_.at_ .box trivial
theorem BagAt.lst {H : Hp} {p : Addr} (h : BagAt H p) : ∃ xs, H p = some (.lst xs) := by
  obtain ⟨a, b, h, _⟩ := h
  exact ⟨_, h⟩
theorem LW.draw {p : Addr} (W : LW C Hb x H S ad dx O) (hp : BagAt O p) (e : ∀ b, b ≠ p → H' b = H b) (bg : BagAt H' p) : ∃ xs, BagAt (upd O p (.lst xs)) p ∧ LW C Hb x H' S ad dx (upd O p (.lst xs)) := by
  obtain ⟨ys, hy⟩ := hp.lst
  obtain ⟨a, b, h, r⟩ := bg
  exact ⟨_, ⟨a, b, upd_same, r⟩, W.put hy h fun q u n hq => (e q n).trans hq⟩
theorem LW.bagH {p : Addr} (W : LW C Hb x H S ad dx O) (hp : BagAt O p) : BagAt H p := by
  obtain ⟨a, b, h, r⟩ := hp
  exact ⟨a, b, W.on _ _ h, r⟩
/-- a system is made -/
theorem LW.start {Hm H3 : Hp} {P0 N0 : Int} {dx0 : Addr} (s : Same Hb H) (on : ∀ b o, O b = some o → H b = some o) (ob : ∀ b o, O b = some o → Hb b = none) (hx : H x = none) (hd : H dx0 = none) (hm : ∀ b, b ≠ x → b ≠ dx0 → Hm b = H b)
    (A : At C H3 (newSys P0 N0) ad dx) (hb : ad .box = x) (k3 : ∀ b o, b ≠ x → Hm b = some o → H3 b = some o) (n3 : ∀ b, own (newSys P0 N0) ad b → b = x ∨ Hm b = none) : LW C Hb x H3 (newSys P0 N0) ad dx O := by
  have sH : Same H H3 := fun b o e => k3 b o (ne_of_none e hx) ((hm b (ne_of_none e hx) (ne_of_none e hd)).trans e)
  have fr : ∀ b, own (newSys P0 N0) ad b → H b = none := fun b h => by
    rcases n3 b h with z | z
    · rw [z]
      exact hx
    · by_cases e : b = x
      · rw [e]
        exact hx
      · by_cases e2 : b = dx0
        · rw [e2]
          exact hd
        · rw [hm b e e2] at z
          exact z
  refine ⟨A, hb, fun b o e => sH _ _ (on b o e), fun b o e z => ?_, ob, fun q o e => sH _ _ (s _ _ e), fun b h => ?_⟩
  · have := fr b z
    rw [on b o e] at this
    cases this
  · cases e : Hb b with
    | none => rfl
    | some o =>
      have := fr b h
      rw [s b o e] at this
      cases this
end
/-! pairs of numbers -/
abbrev Pr := Int × Int
def PrAt (H : Hp) (v : V) (r : Pr) : Prop := ∃ T, v = .ref T ∧ H T = some (.tup [.int r.1, .int r.2])
theorem prs_keep {H H' : Hp} {vs : List V} {rs : List Pr} (p : Paired (PrAt H) vs rs) (k : ∀ b xs, H b = some (.tup xs) → H' b = some (.tup xs)) : Paired (PrAt H') vs rs := by
  induction p with
  | nil => exact .nil
  | cons r _ ih =>
    obtain ⟨T, h1, h2⟩ := r
    exact .cons ⟨T, h1, k _ _ h2⟩ ih
theorem paired_at {α β : Type} {R : α → β → Prop} : ∀ {xs : List α} {ys : List β}, Paired R xs ys → ∀ {i : Nat} {x : α}, xs[i]? = some x → ∃ y, ys[i]? = some y ∧ R x y
  | _, _, .nil, i, y, h => by cases i <;> cases h
  | _, _, .cons r p, 0, y, h => by
    cases h
    exact ⟨_, rfl, r⟩
  | _, _, .cons r p, i + 1, y, h => paired_at p (i := i) h
theorem paired_erase {α β : Type} {R : α → β → Prop} : ∀ {xs : List α} {ys : List β}, Paired R xs ys → ∀ {i : Nat}, Paired R (xs.eraseIdx i) (ys.eraseIdx i)
  | _, _, .nil, i => .nil
  | _, _, .cons r p, 0 => p
  | _, _, .cons r p, i + 1 => .cons r (paired_erase p)
theorem paired_cat {α β : Type} {R : α → β → Prop} {xs us : List α} {ys vs : List β} (p : Paired R xs ys) (q : Paired R us vs) : Paired R (xs ++ us) (ys ++ vs) := by
  induction p with
  | nil => exact q
  | cons r _ ih => exact .cons r ih
theorem dp_ints {K : PySem.W.Frag} {H : Hp} : ∀ l : List Int, DpAll K H (l.map V.int) (l.map PyData.int)
  | [] => .nil
  | _ :: l => .cons (.int _) (dp_ints l)
theorem ints_lay : ∀ l : List Int, PyData.canLayAll0 (l.map PyData.int) = true ∧ PyData.depthAll (l.map PyData.int) = 0
  | [] => ⟨rfl, rfl⟩
  | c :: l => by
    obtain ⟨a, b⟩ := ints_lay l
    refine ⟨?_, ?_⟩
    · simp only [List.map_cons, PyData.canLayAll0, a, Bool.and_true, PyData.canLay0]
    · simp only [List.map_cons, PyData.depthAll, b, PyData.depth]
      rfl
theorem ints_shaped (l : List Int) : SeqAt.shaped (.list (l.map PyData.int)) = true := by
  obtain ⟨a, b⟩ := ints_lay l
  unfold SeqAt.shaped
  rw [Bool.and_eq_true]
  refine ⟨by simp only [PyData.canLay0]; exact a, decide_eq_true ?_⟩
  simp only [PyData.depth, b]
  decide
theorem ints_refl (l : List Int) : PyData.eqv (.list (l.map PyData.int)) (.list (l.map PyData.int)) = true := by
  refine SeqAt.eqv_refl_plain _ (PyData.plain_of_canLay0 _ ?_)
  simp only [PyData.canLay0]
  exact (ints_lay l).1
section
variable {K : PySem.W.Frag} {H : Hp} {a b : Addr} {Q : VK}
theorem q_neInts {l : List Int} (h1 : H a = some (.lst (l.map V.int))) (h2 : H b = some (.lst (l.map V.int))) (k : Q (.bl false) H) : rNeD K (.ref a) (.ref b) H Q := by
  refine ⟨_, _, .lst (SqL.of h1) (dp_ints l), .lst (SqL.of h2) (dp_ints l), ints_shaped l, ints_shaped l, ?_⟩
  rw [ints_refl]
  exact k
end
def prD (r : Pr) : PyData := .tuple [.int r.1, .int r.2]
theorem dp_prs {K : PySem.W.Frag} {H : Hp} {vs : List V} {rs : List Pr} (p : Paired (PrAt H) vs rs) : DpAll K H vs (rs.map prD) := by
  induction p with
  | nil => exact .nil
  | cons r _ ih =>
    obtain ⟨T, rfl, h⟩ := r
    exact .cons (.tup (SqT.of h) (.cons (.int _) (.cons (.int _) .nil))) ih
theorem prs_lay : ∀ rs : List Pr, PyData.canLayAll0 (rs.map prD) = true ∧ PyData.depthAll (rs.map prD) ≤ 1
  | [] => ⟨rfl, Nat.zero_le _⟩
  | r :: rs => by
    obtain ⟨a, b⟩ := prs_lay rs
    refine ⟨?_, ?_⟩
    · simp [prD, PyData.canLayAll0, PyData.canLay0, a]
    · simp only [List.map_cons, prD, PyData.depthAll, PyData.depth]
      omega
theorem prs_shaped (rs : List Pr) : SeqAt.shaped (.list (rs.map prD)) = true := by
  obtain ⟨a, b⟩ := prs_lay rs
  unfold SeqAt.shaped
  rw [Bool.and_eq_true]
  refine ⟨by simp only [PyData.canLay0]; exact a, decide_eq_true ?_⟩
  simp only [PyData.depth]
  have e : ∀ n : Nat, n ≤ 1 → n + 1 ≤ 3 := fun n h => by omega
  refine Nat.le_trans (e _ b) ?_
  decide
theorem q_eqNilP {K : PySem.W.Frag} {H : Hp} {a b : Addr} {Q : VK} {vs : List V} {rs : List Pr} (h1 : H a = some (.lst vs)) (p : Paired (PrAt H) vs rs) (h2 : H b = some (.lst [])) (k : Q (.bl rs.isEmpty) H) : rEqD K (.ref a) (.ref b) H Q := by
  refine ⟨_, _, .lst (SqL.of h1) (dp_prs p), .lst (SqL.of h2) .nil, prs_shaped rs, rfl, ?_⟩
  cases rs <;> exact k
/-! what registrations() gives, told by data -/
def plD (r : Int × Nat) : PyData := .tuple [.int r.1, .int (r.2 : Int)]
def fst0 (l : List (Int × Nat)) : Int × Nat := l[0]?.getD (0, 0)
def rowD (S : Sys) (ys : List Int) (s l : Int) : PyData := .tuple [plD (fst0 (placesIn S s ys)), .int l, .int (S.reg s l).num, plD (fst0 (placesIn S (S.reg s l).src ys)), .str (S.reg s l).word, .bool (S.reg s l).armed]
theorem dp_rows {K : PySem.W.Frag} {S : Sys} {ys : List Int} {s : Int} {H : Hp} {vs : List V} {ls : List Int} (p : Paired (RgAt S ys s H) vs ls) : DpAll K H vs (ls.map (rowD S ys s)) := by
  induction p with
  | nil => exact .nil
  | cons r _ ih =>
    obtain ⟨T, v1, v2, r1, r2, rfl, h2, h3, ⟨T1, rfl, p1⟩, h5, ⟨T2, rfl, p2⟩⟩ := r
    have e1 : fst0 (placesIn S s ys) = r1 := by unfold fst0; rw [h3]; rfl
    refine .cons ?_ ih
    unfold rowD
    rw [e1, show fst0 (placesIn S (S.reg s _).src ys) = r2 by unfold fst0; rw [h5]; rfl]
    exact .tup (SqT.of h2) (.cons (.tup (SqT.of p1) (.cons (.int _) (.cons (.int _) .nil))) (.cons (.int _) (.cons (.int _) (.cons (.tup (SqT.of p2) (.cons (.int _) (.cons (.int _) .nil))) (.cons (.str _) (.cons (.bl _) .nil))))))
theorem word_ok {wd : Str} (h : wd ∈ wordsL) : PyData.strOk wd = true := by
  unfold wordsL at h
  simp only [List.mem_cons, List.not_mem_nil, or_false] at h
  rcases h with z | z | z <;> rw [z] <;> decide +kernel
theorem rows_lay {S : Sys} {ys : List Int} {s : Int} : ∀ ls : List Int, (∀ l ∈ ls, (S.reg s l).word ∈ wordsL) → PyData.canLayAll0 (ls.map (rowD S ys s)) = true ∧ PyData.depthAll (ls.map (rowD S ys s)) ≤ 2
  | [], _ => ⟨rfl, Nat.zero_le _⟩
  | l :: ls, h => by
    obtain ⟨a, b⟩ := rows_lay (ys := ys) ls fun q hq => h q (List.mem_cons_of_mem _ hq)
    have h0 := word_ok (h l List.mem_cons_self)
    refine ⟨?_, ?_⟩
    · simp [rowD, plD, PyData.canLayAll0, PyData.canLay0, a, h0]
    · simp only [List.map_cons, rowD, plD, PyData.depthAll, PyData.depth]
      omega
theorem rows_shaped {S : Sys} {ys : List Int} {s : Int} {ls : List Int} (h : ∀ l ∈ ls, (S.reg s l).word ∈ wordsL) : SeqAt.shaped (.list (ls.map (rowD S ys s))) = true := by
  obtain ⟨a, b⟩ := rows_lay (ys := ys) ls h
  unfold SeqAt.shaped
  rw [Bool.and_eq_true]
  refine ⟨by simp only [PyData.canLay0]; exact a, decide_eq_true ?_⟩
  simp only [PyData.depth]
  have e : ∀ n : Nat, n ≤ 2 → n + 1 ≤ 3 := fun n h => by omega
  refine Nat.le_trans (e _ b) ?_
  decide
theorem rows_refl {S : Sys} {ys : List Int} {s : Int} {ls : List Int} (h : ∀ l ∈ ls, (S.reg s l).word ∈ wordsL) : PyData.eqv (.list (ls.map (rowD S ys s))) (.list (ls.map (rowD S ys s))) = true := by
  refine SeqAt.eqv_refl_plain _ (PyData.plain_of_canLay0 _ ?_)
  simp only [PyData.canLay0]
  exact (rows_lay (ys := ys) ls h).1
theorem q_eqRows {K : PySem.W.Frag} {S : Sys} {ys : List Int} {s : Int} {H : Hp} {a b : Addr} {Q : VK} {vs ws : List V} {ls : List Int} (h : ∀ l ∈ ls, (S.reg s l).word ∈ wordsL) (h1 : H a = some (.lst vs)) (p1 : Paired (RgAt S ys s H) vs ls) (h2 : H b = some (.lst ws)) (p2 : Paired (RgAt S ys s H) ws ls) (k : Q (.bl true) H) : rEqD K (.ref a) (.ref b) H Q := by
  refine ⟨_, _, .lst (SqL.of h1) (dp_rows p1), .lst (SqL.of h2) (dp_rows p2), rows_shaped h, rows_shaped h, ?_⟩
  rw [rows_refl h]
  exact k
theorem sort_same {ys zs l : List Int} (a : ys.Perm l) (pa : ys.Pairwise (· ≤ ·)) (b : zs.Perm l) (pb : zs.Pairwise (· ≤ ·)) : ys = zs := sort_uniq (a.trans b.symm) pa pb
/-- what registrations() asks of a system with one set -/
theorem regs_ask {S : Sys} {s : Int} (W : WF S) (hs : S.sets = [s]) : S.procs.length ≤ 6 ∧ (∀ p ∈ S.procs, (S.tab p).length ≤ 8) ∧ (∃ p ∈ S.procs, ∃ n : Nat, (S.tab p)[n]? = some (some s)) ∧ (S.ents s).length ≤ 1000 ∧ ∀ l ∈ S.ents s, ∃ p ∈ S.procs, ∃ n : Nat, (S.tab p)[n]? = some (some (S.reg s l).src) := by
  have ms : s ∈ S.sets := by rw [hs]; exact List.mem_singleton_self _
  refine ⟨W.pl, fun p hp => W.t8 hp, ?_, Nat.le_trans (W.ents_len ms) (by decide), fun l hl => ?_⟩
  · obtain ⟨p, hp, h⟩ := (W.kd s).mpr (.inr ms)
    obtain ⟨n, hn⟩ := List.getElem?_of_mem h
    exact ⟨p, hp, n, hn⟩
  · obtain ⟨p, hp, h⟩ := (W.kd _).mpr (.inl (W.rs s ms l hl))
    obtain ⟨n, hn⟩ := List.getElem?_of_mem h
    exact ⟨p, hp, n, hn⟩

/-! what returns and what is raised, together -/
section
variable {P : Program} {w : World} {K : PySem.W.Frag} {mg : Str → Option Value} {base : Heap} {C : Cs} {D : Es} {k : Nat} {f : Addr} {fd : FuncData} {ps : List Str}
def spArriveX (C : Cs) (D : Es) : Sp := fun vs H Q E => ∃ p n m : V, OnSys C vs H [p, n, m] fun S ad dx => WF S ∧ Flat H p ∧ Flat H n ∧ Flat H m ∧ Res D H E (arriveM S p n m) fun t => ∀ H' ad', At C H' (arrived S t (toI m)) ad' dx → Step H S ad H' (arrived S t (toI m)) ad' → Q .non H'
theorem okArriveX (F1 : FnOk P w K mg base CX0 k f fd ps (spArrive C)) (F2 : FnOk P w K mg base (L2.CX P w) k f fd ps (spArriveE C D)) : FnOk P w K mg base (L2.CX P w) k f fd ps (spArriveX C D) :=
  (FnOk.or (FnOk.x F1) F2).imp fun vs H Q E h => by
    obtain ⟨p, n, m, S, ad, dx, rfl, A0, W, fp, fn, fm, k⟩ := h
    cases e : arriveM S p n m with
    | error e1 =>
      rw [e] at k
      exact .inr ⟨p, n, m, S, ad, dx, rfl, A0, W, fp, fn, fm, e1, e, k⟩
    | ok t =>
      rw [e] at k
      obtain ⟨i, j, u, rfl, rfl, rfl, M, ht, hf, u1, u2⟩ := arriveM_ok e
      exact .inl ⟨i, j, t, u, S, ad, dx, rfl, A0, M, ht, hf, u1, u2, W.small, k⟩
def spReadX (C : Cs) (D : Es) : Sp := fun vs H Q E => ∃ p n m : V, OnSys C vs H [p, n, m] fun S ad dx => WF S ∧ Flat H p ∧ Flat H n ∧ Flat H m ∧ Res D H E (readM S p n m) fun t => ∀ H' ad', At C H' (readS S t (toO m)) ad' dx → Step H S ad H' (readS S t (toO m)) ad' → Q (.int (taken (S.unit t).1 (toO m))) H'
theorem okReadX (F1 : FnOk P w K mg base CX0 k f fd ps (spRead C)) (F2 : FnOk P w K mg base (L2.CX P w) k f fd ps (spReadE C D)) : FnOk P w K mg base (L2.CX P w) k f fd ps (spReadX C D) :=
  (FnOk.or (FnOk.x F1) F2).imp fun vs H Q E h => by
    obtain ⟨p, n, m, S, ad, dx, rfl, A0, W, fp, fn, fm, k⟩ := h
    cases e : readM S p n m with
    | error e1 =>
      rw [e] at k
      exact .inr ⟨p, n, m, S, ad, dx, rfl, A0, W, fp, fn, fm, e1, e, k⟩
    | ok t =>
      rw [e] at k
      obtain ⟨i, j, rfl, rfl, em, M, ht, hc⟩ := readM_ok e
      exact .inl ⟨i, j, t, toO m, S, ad, dx, by rw [← em], A0, M, ht, hc, W.small, k⟩
theorem isW_ok {x : V} (h : isW x = true) (f : flatV x = true) : ∃ z, x = .str z ∧ z ∈ wordsL := by
  have h : ([V.str "level", .str "edge", .str "once"].any fun y => eqV y x) = true := h
  simp only [List.any_cons, List.any_nil, Bool.or_false, Bool.or_eq_true] at h
  cases x with
  | str z =>
    refine ⟨z, rfl, ?_⟩
    have go : ∀ y : Str, eqV (.str y) (.str z) = true → z = y := fun y e => by
      have e : decide (y = z) = true := e
      exact (of_decide_eq_true e).symm
    rcases h with e | e | e
    · rw [go _ e]; decide
    · rw [go _ e]; decide
    · rw [go _ e]; decide
  | _ => rcases h with e | e | e <;> cases e
def spAddX (C : Cs) (D : Es) : Sp := fun vs H Q E => ∃ p sn n l wd : V, OnSys C vs H [p, sn, n, l, wd] fun S ad dx => WF S ∧ Flat H p ∧ Flat H sn ∧ Flat H n ∧ Flat H l ∧ Flat H wd ∧ flatV wd = true ∧ Res D H E (addM S p sn n l wd) fun r => ∀ H' ad' dx', At C H' (added S r.1 (toI l) ⟨toI n, r.2, toS wd, true⟩) ad' dx' → Step H S ad H' (added S r.1 (toI l) ⟨toI n, r.2, toS wd, true⟩) ad' → Q .non H'
theorem addM_ok {S : Sys} {p sn n l wd : V} {s t : Int} (fw : flatV wd = true) (h : addM S p sn n l wd = .ok (s, t)) : ∃ i a j b z, p = .int i ∧ sn = .int a ∧ n = .int j ∧ l = .int b ∧ wd = .str z ∧ Means S i a s ∧ s ∈ S.sets ∧ Means S i j t ∧ t ∈ S.srcs ∧ 0 ≤ b ∧ b ≤ 999999 ∧ z ∈ wordsL ∧ (S.ents s).find? (keyOf (S.reg s) j t) = none ∧ b ∉ S.ents s := by
  unfold addM at h
  split at h
  · rename_i s' es
    split at h
    · rename_i t' et
      obtain ⟨⟨i, a, e1, e2, Ms⟩, hs⟩ := setOf_ok es
      obtain ⟨⟨i2, j, e3, e4, Mt⟩, ht⟩ := source_ok et
      subst e1 e2 e4
      cases e3
      split at h
      · rename_i hl
        obtain ⟨b, rfl, b0, b1⟩ := inB_ok hl
        split at h
        · rename_i hw
          obtain ⟨z, rfl, hz⟩ := isW_ok hw fw
          split at h
          · cases h
          · rename_i hk
            split at h
            · cases h
            · rename_i hm
              cases h
              exact ⟨i, a, j, b, z, rfl, rfl, rfl, rfl, rfl, Ms, hs, Mt, ht, b0, b1, hz, Option.not_isSome_iff_eq_none.mp hk, hm⟩
        · cases h
      · cases h
    · cases h
  · cases h
theorem okAddX (F1 : FnOk P w K mg base CX0 k f fd ps (spAdd C)) (F2 : FnOk P w K mg base (L2.CX P w) k f fd ps (spAddE C D)) : FnOk P w K mg base (L2.CX P w) k f fd ps (spAddX C D) :=
  (FnOk.or (FnOk.x F1) F2).imp fun vs H Q E h => by
    obtain ⟨p, sn, n, l, wd, S, ad, dx, rfl, A0, W, fp, fs, fn, fl, fw, fw2, k⟩ := h
    cases e : addM S p sn n l wd with
    | error e1 =>
      rw [e] at k
      exact .inr ⟨p, sn, n, l, wd, S, ad, dx, rfl, A0, W, fp, fs, fn, fl, fw, fw2, e1, e, k⟩
    | ok r =>
      rw [e] at k
      obtain ⟨s, t⟩ := r
      obtain ⟨i, a, j, b, z, rfl, rfl, rfl, rfl, rfl, Ms, hs, Mt, ht, b0, b1, hz, hk, hm⟩ := addM_ok fw2 e
      exact .inl ⟨i, a, j, b, s, t, z, S, ad, dx, rfl, A0, Ms, hs, Mt, ht, b0, b1, hz, hk, hm, W.small, k⟩
theorem changeM_ok {S : Sys} {p sn n wd : V} {s t l : Int} (fw : flatV wd = true) (h : changeM S p sn n wd = .ok (s, t, l)) : ∃ i a j z, p = .int i ∧ sn = .int a ∧ n = .int j ∧ wd = .str z ∧ Means S i a s ∧ s ∈ S.sets ∧ Means S i j t ∧ t ∈ S.srcs ∧ z ∈ wordsL ∧ (S.ents s).find? (keyOf (S.reg s) j t) = some l := by
  unfold changeM at h
  split at h
  · rename_i s' es
    split at h
    · rename_i t' et
      obtain ⟨⟨i, a, e1, e2, Ms⟩, hs⟩ := setOf_ok es
      obtain ⟨⟨i2, j, e3, e4, Mt⟩, ht⟩ := source_ok et
      subst e1 e2 e4
      cases e3
      split at h
      · rename_i hw
        obtain ⟨z, rfl, hz⟩ := isW_ok hw fw
        split at h
        · rename_i l' hk
          cases h
          exact ⟨i, a, j, z, rfl, rfl, rfl, rfl, Ms, hs, Mt, ht, hz, hk⟩
        · cases h
      · cases h
    · cases h
  · cases h
def spChangeX (C : Cs) (D : Es) : Sp := fun vs H Q E => ∃ p sn n wd : V, OnSys C vs H [p, sn, n, wd] fun S ad dx => WF S ∧ Flat H p ∧ Flat H sn ∧ Flat H n ∧ Flat H wd ∧ flatV wd = true ∧ Res D H E (changeM S p sn n wd) fun r => ∀ H' ad' dx', At C H' (changed S r.1 r.2.2 ⟨toI n, r.2.1, toS wd, true⟩) ad' dx' → Step H S ad H' (changed S r.1 r.2.2 ⟨toI n, r.2.1, toS wd, true⟩) ad' → Q .non H'
theorem okChangeX (F1 : FnOk P w K mg base CX0 k f fd ps (spChange C)) (F2 : FnOk P w K mg base (L2.CX P w) k f fd ps (spChangeE C D)) : FnOk P w K mg base (L2.CX P w) k f fd ps (spChangeX C D) :=
  (FnOk.or (FnOk.x F1) F2).imp fun vs H Q E h => by
    obtain ⟨p, sn, n, wd, S, ad, dx, rfl, A0, W, fp, fs, fn, fw, fw2, k⟩ := h
    cases e : changeM S p sn n wd with
    | error e1 =>
      rw [e] at k
      exact .inr ⟨p, sn, n, wd, S, ad, dx, rfl, A0, W, fp, fs, fn, fw, fw2, e1, e, k⟩
    | ok r =>
      rw [e] at k
      obtain ⟨s, t, l⟩ := r
      obtain ⟨i, a, j, z, rfl, rfl, rfl, rfl, Ms, hs, Mt, ht, hz, hk⟩ := changeM_ok fw2 e
      exact .inl ⟨i, a, j, l, s, t, z, S, ad, dx, rfl, A0, Ms, hs, Mt, ht, hz, hk, W.small, k⟩
theorem removeM_ok {S : Sys} {p sn n : V} {s l : Int} (h : removeM S p sn n = .ok (s, l)) : ∃ i a j t, p = .int i ∧ sn = .int a ∧ n = .int j ∧ Means S i a s ∧ s ∈ S.sets ∧ Means S i j t ∧ t ∈ S.srcs ∧ (S.ents s).find? (keyOf (S.reg s) j t) = some l := by
  unfold removeM at h
  split at h
  · rename_i s' es
    split at h
    · rename_i t' et
      obtain ⟨⟨i, a, e1, e2, Ms⟩, hs⟩ := setOf_ok es
      obtain ⟨⟨i2, j, e3, e4, Mt⟩, ht⟩ := source_ok et
      subst e1 e2 e4
      cases e3
      split at h
      · rename_i l' hk
        cases h
        exact ⟨i, a, j, t', rfl, rfl, rfl, Ms, hs, Mt, ht, hk⟩
      · cases h
    · cases h
  · cases h
def spRemoveX (C : Cs) (D : Es) : Sp := fun vs H Q E => ∃ p sn n : V, OnSys C vs H [p, sn, n] fun S ad dx => WF S ∧ Flat H p ∧ Flat H sn ∧ Flat H n ∧ Res D H E (removeM S p sn n) fun r => ∀ H' ad' dx', At C H' (dropped S r.1 r.2) ad' dx' → Step H S ad H' (dropped S r.1 r.2) ad' → Q .non H'
theorem okRemoveX (F1 : FnOk P w K mg base CX0 k f fd ps (spRemove C)) (F2 : FnOk P w K mg base (L2.CX P w) k f fd ps (spRemoveE C D)) : FnOk P w K mg base (L2.CX P w) k f fd ps (spRemoveX C D) :=
  (FnOk.or (FnOk.x F1) F2).imp fun vs H Q E h => by
    obtain ⟨p, sn, n, S, ad, dx, rfl, A0, W, fp, fs, fn, k⟩ := h
    cases e : removeM S p sn n with
    | error e1 =>
      rw [e] at k
      exact .inr ⟨p, sn, n, S, ad, dx, rfl, A0, W, fp, fs, fn, e1, e, k⟩
    | ok r =>
      rw [e] at k
      obtain ⟨s, l⟩ := r
      obtain ⟨i, a, j, t, rfl, rfl, rfl, Ms, hs, Mt, ht, hk⟩ := removeM_ok e
      exact .inl ⟨i, a, j, l, s, t, S, ad, dx, rfl, A0, Ms, hs, Mt, ht, hk, W.small, k⟩
theorem waitM_ok {S : Sys} {p sn m : V} {s : Int} (h : waitM S p sn m = .ok s) : ∃ i a b, p = .int i ∧ sn = .int a ∧ m = .int b ∧ Means S i a s ∧ s ∈ S.sets ∧ 1 ≤ b ∧ b ≤ 1000000 := by
  unfold waitM at h
  split at h
  · rename_i s' es
    obtain ⟨⟨i, a, e1, e2, Ms⟩, hs⟩ := setOf_ok es
    split at h
    · rename_i hm
      cases h
      obtain ⟨b, rfl, b0, b1⟩ := inB_ok hm
      exact ⟨i, a, b, e1, e2, rfl, Ms, hs, b0, b1⟩
    · cases h
  · cases h
def spWaitX (C : Cs) (D : Es) : Sp := fun vs H Q E => C.W ≠ C.R ∧ ∃ p sn m : V, OnSys C vs H [p, sn, m] fun S ad dx => WF S ∧ Flat H p ∧ Flat H sn ∧ Flat H m ∧ Res D H E (waitM S p sn m) fun s => ∀ H' ad' dx' r rs, H r = none → H' r = some (.lst rs) → ¬ own (waited S s (toI m)) ad' r → Paired (RepAt H') rs (took S s (toI m)).reps → At C H' (waited S s (toI m)) ad' dx' → Step H S ad H' (waited S s (toI m)) ad' → Q (.ref r) H'
theorem okWaitX (F1 : FnOk P w K mg base CX0 k f fd ps (spWait C)) (F2 : FnOk P w K mg base (L2.CX P w) k f fd ps (spWaitE C D)) : FnOk P w K mg base (L2.CX P w) k f fd ps (spWaitX C D) :=
  (FnOk.or (FnOk.x F1) F2).imp fun vs H Q E h => by
    obtain ⟨nWR, p, sn, m, S, ad, dx, rfl, A0, W, fp, fs, fm, k⟩ := h
    cases e : waitM S p sn m with
    | error e1 =>
      rw [e] at k
      exact .inr ⟨p, sn, m, S, ad, dx, rfl, A0, W, fp, fs, fm, e1, e, k⟩
    | ok s =>
      rw [e] at k
      obtain ⟨i, a, b, rfl, rfl, rfl, Ms, hs, b0, b1⟩ := waitM_ok e
      exact .inl ⟨i, a, s, b, S, ad, dx, rfl, A0, Ms, hs, b0, b1, W.qe s hs, W.rs s hs, nWR, W.small, k⟩
end
/-! the sixteen calls -/

/-! what is held where -/
def Hold (S : Sys) (t p n : Int) : Prop := p ∈ S.procs ∧ 0 ≤ n ∧ (S.tab p)[n.toNat]? = some (some t)
theorem Hold.idx {S : Sys} {t p n : Int} (W : WF S) (h : Hold S t p n) : n < S.N := by
  have h1 := (List.getElem?_eq_some_iff.mp h.2.2).1
  rw [W.tl p h.1] at h1
  have := W.N3
  have := h.2.1
  omega
theorem Hold.means {S : Sys} {t p n : Int} (W : WF S) (h : Hold S t p n) : Means S p n t := ⟨h.1, h.2.1, by have := h.idx W; omega, h.2.2⟩
theorem Means.hold {S : Sys} {t p n : Int} (M : Means S p n t) : Hold S t p n := ⟨M.pr, M.lo, M.at_⟩
theorem held_iff {S : Sys} {t : Int} : (∃ p ∈ S.procs, some t ∈ S.tab p) ↔ ∃ p n, Hold S t p n := by
  constructor
  · rintro ⟨p, hp, h⟩
    obtain ⟨n, hn⟩ := List.getElem?_of_mem h
    exact ⟨p, (n : Int), hp, by omega, by rw [Int.toNat_natCast]; exact hn⟩
  · rintro ⟨p, n, h1, _, h2⟩
    exact ⟨p, h1, List.mem_of_getElem? h2⟩
theorem hold_clear {S : Sys} {p n u q m : Int} (n0 : 0 ≤ n) : Hold (cleared S p n) u q m ↔ Hold S u q m ∧ ¬ (q = p ∧ m = n) := by
  unfold Hold cleared
  dsimp only
  constructor
  · rintro ⟨h1, h2, h3⟩
    by_cases e : q = p
    · rw [if_pos e, List.getElem?_set] at h3
      by_cases z : n.toNat = m.toNat
      · rw [if_pos z] at h3
        split at h3 <;> cases h3
      · rw [if_neg z] at h3
        exact ⟨⟨h1, h2, by rw [e]; exact h3⟩, fun y => z (by rw [y.2])⟩
    · rw [if_neg e] at h3
      exact ⟨⟨h1, h2, h3⟩, fun y => e y.1⟩
  · rintro ⟨⟨h1, h2, h3⟩, h4⟩
    refine ⟨h1, h2, ?_⟩
    by_cases e : q = p
    · rw [if_pos e, List.getElem?_set, if_neg (fun z => h4 ⟨e, by omega⟩), ← e]
      exact h3
    · rw [if_neg e]
      exact h3
theorem hold_closed {S : Sys} {p n t u q m : Int} (n0 : 0 ≤ n) : Hold (closed S p n t) u q m ↔ Hold S u q m ∧ ¬ (q = p ∧ m = n) := by
  rw [← hold_clear n0]
  unfold Hold
  rw [closed_tab, closed_procs]
  exact Iff.rfl
theorem dropAll_nil : ∀ D : List Int, dropAll [] D = []
  | [] => rfl
  | _ :: D => dropAll_nil D
theorem dropAll_filter : ∀ (D ls : List Int), dropAll ls D = ls.filter fun l => decide (l ∉ D)
  | [], ls => by
    show ls = _
    exact (List.filter_eq_self.mpr fun x _ => decide_eq_true List.not_mem_nil).symm
  | d :: D, ls => by
    show dropAll (without d ls) D = _
    rw [dropAll_filter D]
    unfold without
    rw [List.filter_filter]
    refine List.filter_congr fun x _ => ?_
    rw [← Bool.decide_and]
    refine decide_eq_decide.mpr ?_
    rw [List.mem_cons, not_or]
    exact And.comm
/-- the system of the law -/
structure Sx (S : Sys) (turn : Int) : Prop where
  W : WF S
  P : S.P = 6
  N : S.N = 8
  sets : S.sets = [0]
  p0 : (0 : Int) ∈ S.procs
  s0 : ∀ p ∈ S.procs, (S.tab p)[0]? = some (some 0)
  s1 : ∀ p n, Hold S 0 p n → n = 0
  lb : ∀ l ∈ S.ents 0, 0 ≤ l ∧ l < turn
  rg : ∀ l ∈ S.ents 0, (S.reg 0 l).num = 1 ∧ (S.reg 0 l).word = "level" ∧ (S.reg 0 l).armed = true
  sr : ∀ t ∈ S.srcs, ∃ l ∈ S.ents 0, (S.reg 0 l).src = t
  un : ∀ t, S.unit t = (0, false)
  qu : S.que 0 = []
section
variable {S : Sys} {turn : Int}
theorem Sx.m0 (X : Sx S turn) : (0 : Int) ∈ S.sets := by rw [X.sets]; exact List.mem_singleton_self _
theorem Sx.src (X : Sx S turn) {l : Int} (hl : l ∈ S.ents 0) : (S.reg 0 l).src ∈ S.srcs := X.W.rs 0 X.m0 l hl
theorem Sx.uniq (X : Sx S turn) {l j : Int} (hl : l ∈ S.ents 0) (hj : j ∈ S.ents 0) (e : (S.reg 0 l).src = (S.reg 0 j).src) : l = j := X.W.ky 0 X.m0 l hl j hj ((X.rg l hl).1.trans (X.rg j hj).1.symm) e
theorem Sx.held (X : Sx S turn) {t : Int} (ht : t ∈ S.srcs) : ∃ p n, Hold S t p n := held_iff.mp ((X.W.kd t).mpr (.inl ht))
theorem Sx.isSrc (X : Sx S turn) {t p n : Int} (h : Hold S t p n) (n1 : 1 ≤ n) : t ∈ S.srcs := by
  rcases (X.W.kd t).mp (held_iff.mpr ⟨p, n, h⟩) with z | z
  · exact z
  · rw [X.sets, List.mem_singleton] at z
    subst z
    have := X.s1 p n h
    omega
theorem Sx.no0 (X : Sx S turn) : (0 : Int) ∉ S.srcs := fun h => X.W.dj 0 h X.m0
theorem Sx.nodup (X : Sx S turn) : (S.ents 0).Nodup := X.W.ln 0 X.m0
theorem closed_cases {p n t : Int} (ht : t ∉ S.sets) : ((∃ q m, Hold (closed S p n t) t q m) ∧ closed S p n t = cleared S p n) ∨ ((¬ ∃ q m, Hold (closed S p n t) t q m) ∧ closed S p n t = sdrops (noSrc (cleared S p n) t) t S.sets) := by
  have e : (∃ q m, Hold (closed S p n t) t q m) ↔ ∃ q ∈ S.procs, some t ∈ (cleared S p n).tab q := by
    rw [← held_iff, closed_tab, closed_procs]
  rw [e]
  unfold closed
  split
  · rename_i h
    exact .inl ⟨h, rfl⟩
  · rename_i h
    refine .inr ⟨h, ?_⟩
    unfold ended
    exact if_neg ht
theorem closed_more {p n t : Int} : (closed S p n t).reg = S.reg ∧ (closed S p n t).unit = S.unit ∧ (closed S p n t).P = S.P ∧ (closed S p n t).N = S.N ∧ (closed S p n t).next = S.next := by
  unfold closed
  split
  · exact ⟨rfl, rfl, rfl, rfl, rfl⟩
  · unfold ended
    split <;> exact ⟨rfl, rfl, rfl, rfl, rfl⟩
/-- the number of a source is closed -/
theorem Sx.close (X : Sx S turn) {p n t : Int} (h : Hold S t p n) (n1 : 1 ≤ n) : Sx (closed S p n t) turn ∧
    ((∃ q m, Hold (closed S p n t) t q m) → (closed S p n t).ents 0 = S.ents 0) ∧ ((¬ ∃ q m, Hold (closed S p n t) t q m) → (closed S p n t).ents 0 = (S.ents 0).filter fun l => decide ((S.reg 0 l).src ≠ t)) := by
  have M := h.means X.W
  have hts := X.isSrc h n1
  have ht : t ∉ S.sets := X.W.dj t hts
  have W1 := X.W.close M
  have n0 : (0 : Int) ≤ n := by omega
  have hh : ∀ u q m, Hold (closed S p n t) u q m ↔ Hold S u q m ∧ ¬ (q = p ∧ m = n) := fun u q m => hold_closed n0
  obtain ⟨er, eu, eP, eN, _⟩ := closed_more (S := S) (p := p) (n := n) (t := t)
  have ep : (closed S p n t).procs = S.procs := closed_procs
  have s0 : ∀ q ∈ (closed S p n t).procs, ((closed S p n t).tab q)[0]? = some (some 0) := fun q hq => by
    rw [ep] at hq
    have z := (hh 0 q 0).mpr ⟨⟨hq, by decide, X.s0 q hq⟩, fun z => by omega⟩
    exact z.2.2
  have s1 : ∀ q m, Hold (closed S p n t) 0 q m → m = 0 := fun q m hq => X.s1 q m ((hh 0 q m).mp hq).1
  rcases closed_cases (S := S) (p := p) (n := n) ht with ⟨hk, e⟩ | ⟨hk, e⟩
  · have e1 : (closed S p n t).ents = S.ents := by rw [e]; rfl
    refine ⟨⟨W1, eP.trans X.P, eN.trans X.N, by rw [e]; exact X.sets, by rw [ep]; exact X.p0, s0, s1, by rw [e1]; exact X.lb, by rw [e1, er]; exact X.rg, ?_, fun u => by rw [eu]; exact X.un u, by rw [e]; exact X.qu⟩, fun _ => by rw [e1], fun z => absurd hk z⟩
    rw [e1, er, e]
    exact X.sr
  · have e1 : (closed S p n t).ents 0 = (S.ents 0).filter fun l => decide ((S.reg 0 l).src ≠ t) := by
      rw [e]
      show (if (0 : Int) ∈ S.sets then dropAll (S.ents 0) (gone (noSrc (cleared S p n) t) t 0) else S.ents 0) = _
      rw [if_pos X.m0, dropAll_filter]
      refine List.filter_congr fun x hx => decide_eq_decide.mpr ?_
      show x ∉ ofSrc (S.reg 0) t (S.ents 0) ↔ _
      unfold ofSrc
      rw [List.mem_filter, decide_eq_true_eq]
      exact ⟨fun z y => z ⟨hx, y⟩, fun z y => z y.2⟩
    have sub : ∀ l, l ∈ (closed S p n t).ents 0 → l ∈ S.ents 0 := fun l hl => by
      rw [e1] at hl
      exact (List.mem_filter.mp hl).1
    refine ⟨⟨W1, eP.trans X.P, eN.trans X.N, by rw [e]; exact X.sets, by rw [ep]; exact X.p0, s0, s1, fun l hl => X.lb l (sub l hl), fun l hl => by rw [er]; exact X.rg l (sub l hl), fun u hu => ?_, fun u => by rw [eu]; exact X.un u, ?_⟩, fun z => absurd z hk, fun _ => e1⟩
    · have hu2 : u ∈ without t S.srcs := by
        rw [e] at hu
        exact hu
      unfold without at hu2
      obtain ⟨h1, h2⟩ := List.mem_filter.mp hu2
      obtain ⟨l, hl, el⟩ := X.sr u h1
      refine ⟨l, ?_, by rw [er]; exact el⟩
      rw [e1]
      exact List.mem_filter.mpr ⟨hl, by rw [el]; exact h2⟩
    · rw [e]
      show (if (0 : Int) ∈ S.sets then dropAll (S.que 0) _ else S.que 0) = _
      rw [if_pos X.m0, X.qu, dropAll_nil]
end
abbrev Ent := Int × List Pr
/-- the law's dict says which numbers mean which label's source -/
structure Dk (S : Sys) (hd : List Ent) : Prop where
  ks : hd.map Prod.fst = S.ents 0
  nd : ∀ e ∈ hd, e.2.Nodup
  hold : ∀ e ∈ hd, ∀ p n, (p, n) ∈ e.2 ↔ Hold S (S.reg 0 e.1).src p n
section
variable {S : Sys} {turn : Int} {hd : List Ent}
theorem Dk.ent (D : Dk S hd) {e : Ent} (he : e ∈ hd) : e.1 ∈ S.ents 0 := by
  rw [← D.ks]
  exact List.mem_map.mpr ⟨e, he, rfl⟩
theorem Dk.knd (D : Dk S hd) (X : Sx S turn) : (hd.map Prod.fst).Nodup := by
  rw [D.ks]
  exact X.nodup
theorem Dk.ne (D : Dk S hd) (X : Sx S turn) {e : Ent} (he : e ∈ hd) : e.2 ≠ [] := fun z => by
  obtain ⟨p, n, h⟩ := X.held (X.src (D.ent he))
  have := (D.hold e he p n).mpr h
  rw [z] at this
  cases this
theorem fst_inj : ∀ {l : List Ent}, (l.map Prod.fst).Nodup → ∀ {a b : Ent}, a ∈ l → b ∈ l → a.1 = b.1 → a = b
  | [], _, _, _, h, _, _ => absurd h List.not_mem_nil
  | x :: l, nd, a, b, ha, hb, e => by
    obtain ⟨n1, n2⟩ := List.nodup_cons.mp nd
    rcases List.mem_cons.mp ha with ha | ha <;> rcases List.mem_cons.mp hb with hb | hb
    · rw [ha, hb]
    · exact absurd (List.mem_map.mpr ⟨b, hb, by rw [← e, ha]⟩) n1
    · exact absurd (List.mem_map.mpr ⟨a, ha, by rw [e, hb]⟩) n1
    · exact fst_inj n2 ha hb e
def setE (l : Int) (hs : List Pr) (hd : List Ent) : List Ent := hd.map fun e => if e.1 = l then (l, hs) else e
def dropE (l : Int) (hd : List Ent) : List Ent := hd.filter fun e => decide (e.1 ≠ l)
theorem setE_fst (l : Int) (hs : List Pr) (hd : List Ent) : (setE l hs hd).map Prod.fst = hd.map Prod.fst := by
  unfold setE
  rw [List.map_map]
  refine List.map_congr_left fun e _ => ?_
  show (if e.1 = l then (l, hs) else e).1 = e.1
  split
  · rename_i h
    exact h.symm
  · rfl
theorem mem_erase_nd {l : List Pr} {i : Nat} {x y : Pr} (nd : l.Nodup) (hi : l[i]? = some x) : y ∈ l.eraseIdx i ↔ y ∈ l ∧ y ≠ x := by
  constructor
  · intro h
    refine ⟨(List.eraseIdx_sublist l i).subset h, fun z => ?_⟩
    subst z
    rw [List.mem_eraseIdx_iff_getElem?] at h
    obtain ⟨j, hj, e⟩ := h
    have := nodup_idx nd e hi
    exact hj this
  · rintro ⟨h1, h2⟩
    obtain ⟨j, hj⟩ := List.getElem?_of_mem h1
    rw [List.mem_eraseIdx_iff_getElem?]
    exact ⟨j, fun z => h2 (by rw [z, hi] at hj; exact (Option.some.inj hj).symm), hj⟩
/-- one holder's number is closed -/
theorem Dk.close (D : Dk S hd) (X : Sx S turn) {l : Int} {hs : List Pr} {i : Nat} {p n : Int} (he : (l, hs) ∈ hd) (hi : hs[i]? = some (p, n)) :
    Hold S (S.reg 0 l).src p n ∧ 1 ≤ n ∧ Sx (closed S p n (S.reg 0 l).src) turn ∧ Dk (closed S p n (S.reg 0 l).src) (if hs.eraseIdx i = [] then dropE l hd else setE l (hs.eraseIdx i) hd) := by
  have hm : (p, n) ∈ hs := List.mem_of_getElem? hi
  have hh := (D.hold _ he p n).mp hm
  have hl := D.ent he
  have n1 : 1 ≤ n := by
    have h0 := hh.2.1
    rcases (by omega : n = 0 ∨ 1 ≤ n) with z | z
    · subst z
      have e := hh.2.2
      rw [show (0 : Int).toNat = 0 from rfl, X.s0 p hh.1] at e
      have e2 : (0 : Int) = (S.reg 0 l).src := Option.some.inj (Option.some.inj e)
      exact absurd (X.src hl) (by rw [← e2]; exact X.no0)
    · exact z
  obtain ⟨X1, c1, c2⟩ := X.close hh n1
  refine ⟨hh, n1, X1, ?_⟩
  have er := (closed_more (S := S) (p := p) (n := n) (t := (S.reg 0 l).src)).1
  have hc : ∀ u q m, Hold (closed S p n (S.reg 0 l).src) u q m ↔ Hold S u q m ∧ ¬ (q = p ∧ m = n) := fun u q m => hold_closed (by omega)
  have key : ∀ q m, Hold (closed S p n (S.reg 0 l).src) (S.reg 0 l).src q m ↔ (q, m) ∈ hs.eraseIdx i := fun q m => by
    rw [hc, mem_erase_nd (D.nd _ he) hi, D.hold _ he]
    refine and_congr_right fun _ => ⟨fun z y => z ?_, fun z y => z ?_⟩
    · exact ⟨congrArg Prod.fst y, congrArg Prod.snd y⟩
    · rw [y.1, y.2]
  have oth : ∀ e ∈ hd, e.1 ≠ l → ∀ q m, (q, m) ∈ e.2 ↔ Hold (closed S p n (S.reg 0 l).src) (S.reg 0 e.1).src q m := fun e hE ne q m => by
    rw [hc, ← D.hold e hE]
    refine ⟨fun h => ⟨h, fun z => ne ?_⟩, fun h => h.1⟩
    have h1 := (D.hold e hE q m).mp h
    rw [z.1, z.2] at h1
    have : (S.reg 0 e.1).src = (S.reg 0 l).src := by
      have a := h1.2.2
      rw [hh.2.2] at a
      exact (Option.some.inj (Option.some.inj a)).symm
    exact X.uniq (D.ent hE) hl this
  by_cases ez : hs.eraseIdx i = []
  · rw [if_pos ez]
    have no : ¬ ∃ q m, Hold (closed S p n (S.reg 0 l).src) (S.reg 0 l).src q m := fun ⟨q, m, z⟩ => by
      rw [key, ez] at z
      cases z
    refine ⟨?_, fun e hE => D.nd e (List.mem_filter.mp hE).1, fun e hE q m => ?_⟩
    · rw [c2 no, ← D.ks]
      unfold dropE
      rw [List.filter_map]
      congr 1
      refine List.filter_congr fun e hE => decide_eq_decide.mpr ⟨fun z y => z (X.uniq (D.ent hE) hl y), fun z y => z ?_⟩
      show (S.reg 0 e.1).src = _
      rw [y]
    · obtain ⟨h1, h2⟩ := List.mem_filter.mp hE
      rw [er]
      exact oth e h1 (of_decide_eq_true h2) q m
  · rw [if_neg ez]
    have yes : ∃ q m, Hold (closed S p n (S.reg 0 l).src) (S.reg 0 l).src q m := by
      obtain ⟨x, hx⟩ := List.exists_mem_of_ne_nil _ ez
      exact ⟨x.1, x.2, (key x.1 x.2).mpr hx⟩
    have cs : ∀ e ∈ setE l (hs.eraseIdx i) hd, e = (l, hs.eraseIdx i) ∨ (e ∈ hd ∧ e.1 ≠ l) := fun e hE => by
      unfold setE at hE
      obtain ⟨y, hy, rfl⟩ := List.mem_map.mp hE
      by_cases z : y.1 = l
      · rw [if_pos z]
        exact .inl rfl
      · rw [if_neg z]
        exact .inr ⟨hy, z⟩
    refine ⟨by rw [setE_fst, c1 yes, D.ks], fun e hE => ?_, fun e hE q m => ?_⟩
    · rcases cs e hE with z | ⟨z, _⟩
      · rw [z]
        exact (D.nd _ he).sublist (List.eraseIdx_sublist hs i)
      · exact D.nd e z
    · rw [er]
      rcases cs e hE with z | ⟨z, ne⟩
      · rw [z]
        exact (key q m).symm
      · exact oth e z ne q m
end

theorem hold_put {S S' : Sys} {p t u q m : Int} {n : Nat} (ep : S'.procs = S.procs) (et : S'.tab = fun q => if q = p then (S.tab p).set n (some t) else S.tab q) (hp : p ∈ S.procs) (hn : (S.tab p)[n]? = some none) : Hold S' u q m ↔ Hold S u q m ∨ (u = t ∧ q = p ∧ m = (n : Int)) := by
  unfold Hold
  rw [ep, et]
  dsimp only
  have hl := (List.getElem?_eq_some_iff.mp hn).1
  constructor
  · rintro ⟨h1, h2, h3⟩
    by_cases e : q = p
    · rw [if_pos e, List.getElem?_set] at h3
      by_cases z : n = m.toNat
      · rw [if_pos z, if_pos (by omega)] at h3
        exact .inr ⟨(Option.some.inj (Option.some.inj h3)).symm, e, by omega⟩
      · rw [if_neg z] at h3
        exact .inl ⟨h1, h2, by rw [e]; exact h3⟩
    · rw [if_neg e] at h3
      exact .inl ⟨h1, h2, h3⟩
  · rintro (⟨h1, h2, h3⟩ | ⟨rfl, rfl, rfl⟩)
    · refine ⟨h1, h2, ?_⟩
      by_cases e : q = p
      · rw [if_pos e, List.getElem?_set, if_neg (fun z => by rw [e, ← z, hn] at h3; cases h3), ← e]
        exact h3
      · rw [if_neg e]
        exact h3
    · exact ⟨hp, by omega, by rw [if_pos rfl, Int.toNat_natCast, List.getElem?_set, if_pos rfl, if_pos hl]⟩
theorem hold_fork {S : Sys} {u q m : Int} {c : Nat} (h0 : (0 : Int) ∈ S.procs) (hc : (c : Int) ∉ S.procs) : Hold (forked S 0 c) u q m ↔ Hold S u q m ∨ (q = (c : Int) ∧ Hold S u 0 m) := by
  unfold Hold forked
  dsimp only
  rw [List.mem_append, List.mem_singleton]
  constructor
  · rintro ⟨h1, h2, h3⟩
    by_cases e : q = (c : Int)
    · rw [if_pos e] at h3
      exact .inr ⟨e, h0, h2, h3⟩
    · rw [if_neg e] at h3
      exact .inl ⟨h1.resolve_right e, h2, h3⟩
  · rintro (⟨h1, h2, h3⟩ | ⟨h1, h2, h3, h4⟩)
    · exact ⟨.inl h1, h2, by rw [if_neg (fun z : q = (c : Int) => hc (by rw [← z]; exact h1))]; exact h3⟩
    · exact ⟨.inr h1, h3, by rw [if_pos h1]; exact h4⟩
/-- the new source's registration -/
abbrev rNew (S : Sys) : Reg := ⟨1, S.next, "level", true⟩
abbrev mk2 (S : Sys) (l : Int) : Sys := added (newSource S 0 1) 0 l (rNew S)
section
variable {S : Sys} {turn : Int} {hd : List Ent}
theorem Sx.ff (X : Sx S turn) (f1 : (S.tab 0)[1]? = some none) : firstFree (S.tab 0) 1 := ⟨f1, fun i hi => by
  obtain rfl : i = 0 := by omega
  exact ⟨0, X.s0 0 X.p0⟩⟩
theorem Sx.w1 (X : Sx S turn) (f1 : (S.tab 0)[1]? = some none) : WF (newSource S 0 1) := X.W.newSource X.p0 (X.ff f1)
theorem hold1 (X : Sx S turn) (f1 : (S.tab 0)[1]? = some none) {u q m : Int} : Hold (newSource S 0 1) u q m ↔ Hold S u q m ∨ (u = S.next ∧ q = 0 ∧ m = 1) := hold_put rfl rfl X.p0 f1
theorem Sx.noNext (X : Sx S turn) {q m : Int} : ¬ Hold S S.next q m := fun h => by
  have := X.W.nx q h.1 S.next (List.mem_of_getElem? h.2.2)
  omega
theorem Sx.find1 (X : Sx S turn) : (S.ents 0).find? (keyOf (S.reg 0) 1 S.next) = none := List.find?_eq_none.mpr fun l hl z => by
  unfold keyOf at z
  rw [Bool.and_eq_true, decide_eq_true_eq, decide_eq_true_eq] at z
  exact X.W.next_out.1 (by rw [← z.2]; exact X.src hl)
theorem Sx.means1 (X : Sx S turn) (f1 : (S.tab 0)[1]? = some none) : Means (newSource S 0 1) 0 1 S.next := Hold.means (X.w1 f1) ((hold1 X f1).mpr (.inr ⟨rfl, rfl, rfl⟩))
theorem Sx.meansS (X : Sx S turn) : Means S 0 0 0 := Hold.means X.W ⟨X.p0, by decide, X.s0 0 X.p0⟩
theorem Sx.meansS1 (X : Sx S turn) (f1 : (S.tab 0)[1]? = some none) : Means (newSource S 0 1) 0 0 0 := Hold.means (X.w1 f1) ((hold1 X f1).mpr (.inl X.meansS.hold))
theorem next_in : S.next ∈ (newSource S 0 1).srcs := List.mem_append_right _ (List.mem_singleton_self _)
/-- the new source is not registered yet -/
theorem Sx.rem1 (X : Sx S turn) (f1 : (S.tab 0)[1]? = some none) : removeM (newSource S 0 1) (.int 0) (.int 0) (.int 1) = .error (.notreg (.int 1)) := by
  unfold removeM
  rw [setOf_of (X.meansS1 f1) X.m0, source_of (X.means1 f1) next_in]
  show (match (S.ents 0).find? (keyOf (S.reg 0) 1 S.next) with | some l => _ | none => _ : Except Er (Int × Int)) = _
  rw [X.find1]
theorem Sx.chg1 (X : Sx S turn) (f1 : (S.tab 0)[1]? = some none) : changeM (newSource S 0 1) (.int 0) (.int 0) (.int 1) (.str "once") = .error (.notreg (.int 1)) := by
  unfold changeM
  rw [setOf_of (X.meansS1 f1) X.m0, source_of (X.means1 f1) next_in]
  show (if isW (.str "once") = true then (match (S.ents 0).find? (keyOf (S.reg 0) 1 S.next) with | some l => _ | none => _ : Except Er (Int × Int × Int)) else _) = _
  rw [X.find1, if_pos (by decide +kernel)]
theorem Sx.src0 (X : Sx S turn) (f1 : (S.tab 0)[1]? = some none) : source S (.int 0) (.int 1) = .error (.open_ (.int 1)) := by
  unfold source thing
  rw [tabOf_of X.p0]
  show (match numAt S 0 (.int 1) with | .ok t => _ | .error e => _ : Except Er Int) = _
  have e : numAt S 0 (.int 1) = .error (.open_ (.int 1)) := by
    unfold numAt
    dsimp only
    rw [if_pos ⟨by decide, by rw [X.N]; decide⟩, show ((1 : Int).toNat) = 1 from rfl, f1]
  rw [e]
/-- the number 1 is closed -/
theorem Sx.rem0 (X : Sx S turn) (f1 : (S.tab 0)[1]? = some none) : removeM S (.int 0) (.int 0) (.int 1) = .error (.open_ (.int 1)) := by
  unfold removeM
  rw [setOf_of X.meansS X.m0, X.src0 f1]
theorem Sx.chg0 (X : Sx S turn) (f1 : (S.tab 0)[1]? = some none) : changeM S (.int 0) (.int 0) (.int 1) (.str "once") = .error (.open_ (.int 1)) := by
  unfold changeM
  rw [setOf_of X.meansS X.m0, X.src0 f1]
theorem Sx.fresh (X : Sx S turn) : turn ∉ S.ents 0 := fun h => by
  have := X.lb turn h
  omega
theorem Sx.ne (X : Sx S turn) {l : Int} (hl : l ∈ S.ents 0) : l ≠ turn := fun y => X.fresh (by rw [← y]; exact hl)
theorem Sx.add1 (X : Sx S turn) (f1 : (S.tab 0)[1]? = some none) (t0 : 0 ≤ turn) (t9 : turn ≤ 999999) : addM (newSource S 0 1) (.int 0) (.int 0) (.int 1) (.int turn) (.str "level") = .ok (0, S.next) := by
  unfold addM
  rw [setOf_of (X.meansS1 f1) X.m0, source_of (X.means1 f1) next_in]
  dsimp only
  rw [if_pos (inB_of t0 t9), if_pos (by decide +kernel)]
  show (if ((S.ents 0).find? (keyOf (S.reg 0) 1 S.next)).isSome = true then _ else if turn ∈ S.ents 0 then _ else _ : Except Er (Int × Int)) = _
  rw [X.find1, if_neg (by intro z; cases z), if_neg X.fresh]
theorem hold2 (X : Sx S turn) (f1 : (S.tab 0)[1]? = some none) {u q m l : Int} : Hold (mk2 S l) u q m ↔ Hold S u q m ∨ (u = S.next ∧ q = 0 ∧ m = 1) := hold1 X f1
theorem reg2_ne {l j : Int} (n : j ≠ l) : (mk2 S l).reg 0 j = S.reg 0 j := if_neg fun z => n z.2
theorem reg2_at {l : Int} : (mk2 S l).reg 0 l = rNew S := if_pos ⟨rfl, rfl⟩
theorem ents2 {l : Int} : (mk2 S l).ents 0 = S.ents 0 ++ [l] := by
  show (if (0 : Int) = 0 then S.ents 0 ++ [l] else S.ents 0) = _
  rw [if_pos rfl]
theorem Sx.mk2 (X : Sx S turn) (f1 : (S.tab 0)[1]? = some none) (t0 : 0 ≤ turn) (t9 : turn ≤ 999999) : Sx (mk2 S turn) (turn + 1) := by
  have un : ∀ t, (Wn.mk2 S turn).unit t = (0, false) := fun t => by
    show (if t = S.next then _ else S.unit t) = _
    split
    · rfl
    · exact X.un t
  refine ⟨(X.w1 f1).added X.m0 t0 t9 next_in (by show (0 : Int) ≤ 1; decide) (by show (1 : Int) < S.N; rw [X.N]; decide) (by show ("level" : Str) ∈ wordsL; decide) X.fresh X.find1, X.P, X.N, X.sets, X.p0, fun p hp => ?_, fun p n h => ?_, fun l hl => ?_, fun l hl => ?_, fun t ht => ?_, un, ?_⟩
  · exact ((hold2 X f1).mpr (.inl ⟨hp, by decide, X.s0 p hp⟩) : Hold (Wn.mk2 S turn) 0 p 0).2.2
  · rcases (hold2 X f1).mp h with z | z
    · exact X.s1 p n z
    · have h0 := X.W.next_out.2
      rw [← z.1] at h0
      exact absurd X.m0 h0
  · rw [ents2] at hl
    rcases List.mem_append.mp hl with z | z
    · have := X.lb l z
      omega
    · rw [List.mem_singleton.mp z]
      omega
  · rw [ents2] at hl
    rcases List.mem_append.mp hl with z | z
    · rw [reg2_ne (X.ne (z))]
      exact X.rg l z
    · rw [List.mem_singleton.mp z, reg2_at]
      exact ⟨rfl, rfl, rfl⟩
  · have ht : t ∈ S.srcs ++ [S.next] := ht
    rcases List.mem_append.mp ht with z | z
    · obtain ⟨l, hl, e⟩ := X.sr t z
      refine ⟨l, by rw [ents2]; exact List.mem_append_left _ hl, ?_⟩
      rw [reg2_ne (X.ne (hl))]
      exact e
    · refine ⟨turn, by rw [ents2]; exact List.mem_append_right _ (List.mem_singleton_self _), ?_⟩
      rw [reg2_at]
      exact (List.mem_singleton.mp z).symm
  · show (if (0 : Int) = 0 then (if ready (newSource S 0 1) S.next = true then _ else S.que 0) else S.que 0) = _
    rw [if_pos rfl, if_neg]
    · exact X.qu
    · unfold ready
      rw [show (newSource S 0 1).unit S.next = (0, false) from un S.next]
      decide
/-- changes of the tables alone -/
theorem Sx.tabs {S' : Sys} (X : Sx S turn) (W' : WF S') (e : S'.P = S.P ∧ S'.N = S.N ∧ S'.sets = S.sets ∧ S'.ents = S.ents ∧ S'.reg = S.reg ∧ S'.srcs = S.srcs ∧ S'.unit = S.unit ∧ S'.que = S.que) (p0 : (0 : Int) ∈ S'.procs) (s0 : ∀ p ∈ S'.procs, (S'.tab p)[0]? = some (some 0)) (s1 : ∀ p n, Hold S' 0 p n → n = 0) : Sx S' turn := by
  obtain ⟨e1, e2, e3, e4, e5, e6, e7, e8⟩ := e
  exact ⟨W', e1.trans X.P, e2.trans X.N, e3.trans X.sets, p0, s0, s1, by rw [e4]; exact X.lb, by rw [e4, e5]; exact X.rg, by rw [e4, e5, e6]; exact X.sr, by rw [e7]; exact X.un, by rw [e8]; exact X.qu⟩
theorem Sx.fork (X : Sx S turn) {c : Nat} (hf : FreeP S c) : Sx (forked S 0 c) turn := by
  refine X.tabs (X.W.forked X.p0 hf) ⟨rfl, rfl, rfl, rfl, rfl, rfl, rfl, rfl⟩ (List.mem_append_left _ X.p0) (fun p hp => ?_) (fun p n h => ?_)
  · rcases List.mem_append.mp hp with z | z
    · exact ((hold_fork X.p0 hf.no).mpr (.inl ⟨z, by decide, X.s0 p z⟩) : Hold (forked S 0 c) 0 p 0).2.2
    · exact ((hold_fork X.p0 hf.no).mpr (.inr ⟨List.mem_singleton.mp z, X.meansS.hold⟩) : Hold (forked S 0 c) 0 p 0).2.2
  · rcases (hold_fork X.p0 hf.no).mp h with z | z
    · exact X.s1 p n z
    · exact X.s1 0 n z.2
theorem Sx.copy (X : Sx S turn) {t : Int} {k : Nat} {n : Int} (ht : Hold S t 0 n) (n1 : 1 ≤ n) (hk : (S.tab 0)[k]? = some none) : Sx (copied S 0 k t) turn := by
  have hh : ∀ {u q m}, Hold (copied S 0 k t) u q m ↔ Hold S u q m ∨ (u = t ∧ q = 0 ∧ m = (k : Int)) := hold_put rfl rfl X.p0 hk
  refine X.tabs (X.W.copied X.p0 ?_ hk) ⟨rfl, rfl, rfl, rfl, rfl, rfl, rfl, rfl⟩ X.p0 (fun p hp => ?_) (fun p m h => ?_)
  · obtain ⟨a, b, c⟩ := ht
    exact ⟨0, a, List.mem_of_getElem? c⟩
  · exact (hh.mpr (.inl ⟨hp, by decide, X.s0 p hp⟩) : Hold (copied S 0 k t) 0 p 0).2.2
  · rcases hh.mp h with z | z
    · exact X.s1 p m z
    · rw [← z.1] at ht
      have := X.s1 0 n ht
      omega
theorem free1 (X : Sx S turn) {t : Int} : ((closed S 0 1 t).tab 0)[1]? = some none := by
  rw [closed_tab]
  show (if (0 : Int) = 0 then (S.tab 0).set (1 : Int).toNat none else S.tab 0)[1]? = _
  rw [if_pos rfl, List.getElem?_set, if_pos (show (1 : Int).toNat = 1 from rfl), if_pos]
  have := X.W.tl 0 X.p0
  rw [this, X.N]
  decide
theorem free1_close (X : Sx S turn) {p n t : Int} (f1 : (S.tab 0)[1]? = some none) : ((closed S p n t).tab 0)[1]? = some none := by
  rw [closed_tab]
  show (if (0 : Int) = p then (S.tab p).set n.toNat none else S.tab 0)[1]? = _
  split
  · rename_i h
    rw [← h, List.getElem?_set]
    split
    · rename_i h2
      rw [if_pos (by rw [h2]; exact (List.getElem?_eq_some_iff.mp f1).1)]
    · exact f1
  · exact f1
end
/-- behind a round -/
structure Rd (S' : Sys) (turn : Int) (hd' : List Ent) : Prop where
  X : Sx S' turn
  D : Dk S' hd'
  f1 : (S'.tab 0)[1]? = some none
section
variable {S S4 : Sys} {turn : Int} {hd hd1 : List Ent}
/-- the number 1 is closed, the source is held elsewhere -/
theorem Rd.kept (X : Sx S turn) (D : Dk S hd) (f1 : (S.tab 0)[1]? = some none) (X4 : Sx S4 (turn + 1)) (e4 : S4.ents 0 = S.ents 0 ++ [turn]) (r4 : S4.reg = (mk2 S turn).reg) (h1 : Hold S4 S.next 0 1) {hs : List Pr} (nd : hs.Nodup) (ne : hs ≠ [])
    (kh : ∀ q m, (q, m) ∈ hs ↔ Hold S4 S.next q m ∧ ¬ (q = 0 ∧ m = 1)) (k1 : hd1.map Prod.fst = hd.map Prod.fst) (n1 : ∀ e ∈ hd1, e.2.Nodup) (o1 : ∀ e ∈ hd1, ∀ q m, (q, m) ∈ e.2 ↔ Hold S4 (S.reg 0 e.1).src q m ∧ ¬ (q = 0 ∧ m = 1)) : Rd (closed S4 0 1 S.next) (turn + 1) (hd1 ++ [(turn, hs)]) := by
  obtain ⟨X', c1, c2⟩ := X4.close h1 (by decide)
  have hc : ∀ u q m, Hold (closed S4 0 1 S.next) u q m ↔ Hold S4 u q m ∧ ¬ (q = 0 ∧ m = 1) := fun u q m => hold_closed (by decide)
  have yes : ∃ q m, Hold (closed S4 0 1 S.next) S.next q m := by
    obtain ⟨x, hx⟩ := List.exists_mem_of_ne_nil _ ne
    exact ⟨x.1, x.2, (hc _ _ _).mpr ((kh x.1 x.2).mp hx)⟩
  have er : (closed S4 0 1 S.next).reg = (mk2 S turn).reg := closed_more.1.trans r4
  refine ⟨X', ⟨?_, fun e he => ?_, fun e he q m => ?_⟩, free1 X4⟩
  · rw [c1 yes, e4, List.map_append, k1, D.ks]
    rfl
  · rcases List.mem_append.mp he with z | z
    · exact n1 e z
    · rw [List.mem_singleton.mp z]
      exact nd
  · rw [er, hc]
    rcases List.mem_append.mp he with z | z
    · have hm : e.1 ∈ S.ents 0 := by
        rw [← D.ks, ← k1]
        exact List.mem_map.mpr ⟨e, z, rfl⟩
      rw [reg2_ne (X.ne (hm))]
      exact o1 e z q m
    · rw [List.mem_singleton.mp z, reg2_at]
      exact kh q m
theorem Rd.copy (X : Sx S turn) (D : Dk S hd) (f1 : (S.tab 0)[1]? = some none) (t0 : 0 ≤ turn) (t9 : turn ≤ 999999) {k : Nat} (hk : ((mk2 S turn).tab 0)[k]? = some none) : Rd (closed (copied (mk2 S turn) 0 k S.next) 0 1 S.next) (turn + 1) (hd ++ [(turn, [(0, (k : Int))])]) := by
  have X2 := X.mk2 f1 t0 t9
  have h2 : Hold (mk2 S turn) S.next 0 1 := (hold2 X f1).mpr (.inr ⟨rfl, rfl, rfl⟩)
  have hh : ∀ {u q m}, Hold (copied (mk2 S turn) 0 k S.next) u q m ↔ Hold (mk2 S turn) u q m ∨ (u = S.next ∧ q = 0 ∧ m = (k : Int)) := hold_put rfl rfl X2.p0 hk
  have k1 : (k : Int) ≠ 1 := fun z => by
    have e := h2.2.2
    rw [show ((1 : Int).toNat) = k by omega, hk] at e
    cases e
  refine Rd.kept X D f1 (X2.copy h2 (by decide) hk) ents2 rfl (hh.mpr (.inl h2)) (by simp) (by simp) (fun q m => ?_) rfl D.nd fun e he q m => ?_
  · rw [List.mem_singleton, hh, hold2 X f1, Prod.mk.injEq]
    constructor
    · rintro ⟨rfl, rfl⟩
      exact ⟨.inr ⟨rfl, rfl, rfl⟩, fun z => k1 z.2⟩
    · rintro ⟨(z | z) | z, h⟩
      · exact absurd z X.noNext
      · exact absurd z.2 h
      · exact z.2
  · rw [D.hold e he, hh, hold2 X f1]
    constructor
    · intro h
      refine ⟨.inl (.inl h), fun z => ?_⟩
      have e := h.2.2
      rw [z.1, z.2, show ((1 : Int).toNat) = 1 from rfl, f1] at e
      cases e
    · rintro ⟨(z | z) | z, h⟩
      · exact z
      · exact absurd z.2 h
      · exact absurd (X.src (D.ent he)) (by rw [z.1]; exact X.W.next_out.1)
theorem Rd.none_ (X : Sx S turn) (D : Dk S hd) (f1 : (S.tab 0)[1]? = some none) (t0 : 0 ≤ turn) (t9 : turn ≤ 999999) : Rd (closed (mk2 S turn) 0 1 S.next) (turn + 1) hd := by
  have X2 := X.mk2 f1 t0 t9
  have h2 : Hold (mk2 S turn) S.next 0 1 := (hold2 X f1).mpr (.inr ⟨rfl, rfl, rfl⟩)
  obtain ⟨X', c1, c2⟩ := X2.close h2 (by decide)
  have hc : ∀ u q m, Hold (closed (mk2 S turn) 0 1 S.next) u q m ↔ Hold (mk2 S turn) u q m ∧ ¬ (q = 0 ∧ m = 1) := fun u q m => hold_closed (by decide)
  have no : ¬ ∃ q m, Hold (closed (mk2 S turn) 0 1 S.next) S.next q m := fun ⟨q, m, z⟩ => by
    obtain ⟨a, b⟩ := (hc _ _ _).mp z
    rcases (hold2 X f1).mp a with y | y
    · exact X.noNext y
    · exact b y.2
  have ee : (closed (mk2 S turn) 0 1 S.next).ents 0 = S.ents 0 := by
    rw [c2 no, ents2, List.filter_append, List.filter_cons, List.filter_nil, reg2_at, if_neg (by simp), List.append_nil]
    refine List.filter_eq_self.mpr fun l hl => decide_eq_true ?_
    rw [reg2_ne (X.ne (hl))]
    exact fun z => X.W.next_out.1 (by rw [← z]; exact X.src hl)
  refine ⟨X', ⟨by rw [ee]; exact D.ks, D.nd, fun e he q m => ?_⟩, free1 X2⟩
  rw [show (closed (mk2 S turn) 0 1 S.next).reg = (mk2 S turn).reg from closed_more.1, reg2_ne (X.ne (D.ent he)), hc, hold2 X f1, D.hold e he]
  constructor
  · intro h
    refine ⟨.inl h, fun z => ?_⟩
    have e := h.2.2
    rw [z.1, z.2, show ((1 : Int).toNat) = 1 from rfl, f1] at e
    cases e
  · rintro ⟨z | z, h⟩
    · exact z
    · exact absurd z.2 h
/-- numbers of the child are being closed -/
structure Cl (S3 S4 : Sys) (turn c : Int) (D : List Int) : Prop where
  X : Sx S4 turn
  ents : S4.ents 0 = S3.ents 0
  reg : S4.reg = S3.reg
  procs : S4.procs = S3.procs
  h : ∀ u q m, Hold S4 u q m ↔ Hold S3 u q m ∧ ¬ (q = c ∧ m ∈ D)
theorem Cl.start {S3 : Sys} {c : Int} (X : Sx S3 turn) : Cl S3 S3 turn c [] := ⟨X, rfl, rfl, rfl, fun u q m => ⟨fun z => ⟨z, fun y => absurd y.2 List.not_mem_nil⟩, fun z => z.1⟩⟩
theorem Cl.close {S3 : Sys} {c n u : Int} {D : List Int} (L : Cl S3 S4 turn c D) (c0 : c ≠ 0) (h : Hold S3 u c n) (h0 : Hold S3 u 0 n) (n1 : 1 < n) (hn : n ∉ D) : Hold S4 u c n ∧ Cl S3 (closed S4 c n u) turn c (n :: D) := by
  have h4 : Hold S4 u c n := (L.h _ _ _).mpr ⟨h, fun z => hn z.2⟩
  obtain ⟨X', c1, _⟩ := L.X.close h4 (by omega)
  have hc : ∀ v q m, Hold (closed S4 c n u) v q m ↔ Hold S4 v q m ∧ ¬ (q = c ∧ m = n) := fun v q m => hold_closed (by omega)
  have yes : ∃ q m, Hold (closed S4 c n u) u q m := ⟨0, n, (hc _ _ _).mpr ⟨(L.h _ _ _).mpr ⟨h0, fun z => c0 z.1.symm⟩, fun z => c0 z.1.symm⟩⟩
  refine ⟨h4, X', (c1 yes).trans L.ents, closed_more.1.trans L.reg, closed_procs.trans L.procs, fun v q m => ?_⟩
  rw [hc, L.h]
  constructor
  · rintro ⟨⟨a, b⟩, d⟩
    exact ⟨a, fun z => (List.mem_cons.mp z.2).elim (fun y => d ⟨z.1, y⟩) fun y => b ⟨z.1, y⟩⟩
  · rintro ⟨a, b⟩
    exact ⟨⟨a, fun z => b ⟨z.1, List.mem_cons_of_mem _ z.2⟩⟩, fun z => b ⟨z.1, by rw [z.2]; exact List.mem_cons_self⟩⟩
/-- the numbers that a process has -/
def openN (S : Sys) (c : Int) : List Int := (numsOf S 0 (S.tab c)).map fun r => (r.1 : Int)
theorem mem_numsOf {S : Sys} {j : Nat} : ∀ {l : List (Option Int)} {k : Nat}, (∃ b, (j, b) ∈ numsOf S k l) ↔ ∃ i t, l[i]? = some (some t) ∧ j = k + i
  | [], k => ⟨fun ⟨_, h⟩ => absurd h List.not_mem_nil, fun ⟨i, t, h, _⟩ => by simp at h⟩
  | none :: l, k => by
    show (∃ b, (j, b) ∈ numsOf S (k + 1) l) ↔ _
    rw [mem_numsOf (l := l)]
    constructor
    · rintro ⟨i, t, h, e⟩
      exact ⟨i + 1, t, h, by omega⟩
    · rintro ⟨i, t, h, e⟩
      cases i with
      | zero => cases h
      | succ i => exact ⟨i, t, h, by omega⟩
  | some u :: l, k => by
    have ih := mem_numsOf (S := S) (j := j) (l := l) (k := k + 1)
    show (∃ b, (j, b) ∈ (k, decide (u ∈ S.srcs)) :: numsOf S (k + 1) l) ↔ _
    constructor
    · rintro ⟨b, h⟩
      rcases List.mem_cons.mp h with z | z
      · exact ⟨0, u, rfl, congrArg Prod.fst z⟩
      · obtain ⟨i, t, h, e⟩ := ih.mp ⟨b, z⟩
        exact ⟨i + 1, t, h, by omega⟩
    · rintro ⟨i, t, h, e⟩
      cases i with
      | zero => exact ⟨_, List.mem_cons.mpr (.inl (by rw [e]; rfl))⟩
      | succ i =>
        obtain ⟨b, hb⟩ := ih.mpr ⟨i, t, h, by omega⟩
        exact ⟨b, List.mem_cons_of_mem _ hb⟩
theorem mem_open {S : Sys} {c m : Int} (hc : c ∈ S.procs) : m ∈ openN S c ↔ ∃ u, Hold S u c m := by
  unfold openN
  rw [List.mem_map]
  constructor
  · rintro ⟨⟨j, b⟩, h, rfl⟩
    obtain ⟨i, t, h1, e⟩ := mem_numsOf.mp ⟨b, h⟩
    exact ⟨t, hc, by show (0 : Int) ≤ (j : Int); omega, by show (S.tab c)[((j : Nat) : Int).toNat]? = _; rw [Int.toNat_natCast, e, Nat.zero_add]; exact h1⟩
  · rintro ⟨u, _, h0, h⟩
    obtain ⟨b, hb⟩ := (mem_numsOf (S := S) (j := m.toNat) (k := 0)).mpr ⟨m.toNat, u, h, by omega⟩
    exact ⟨_, hb, by show ((m.toNat : Nat) : Int) = m; omega⟩
theorem nums_from {S : Sys} : ∀ {l : List (Option Int)} {k : Nat}, ∀ r ∈ numsOf S k l, k ≤ r.1
  | [], _, r, h => absurd h List.not_mem_nil
  | none :: l, k, r, h => by have := nums_from (l := l) r h; omega
  | some u :: l, k, r, h => by
    rcases List.mem_cons.mp h with z | z
    · rw [z]
      exact Nat.le_refl _
    · have := nums_from (l := l) r z
      omega
theorem nums_nodup {S : Sys} : ∀ {l : List (Option Int)} {k : Nat}, ((numsOf S k l).map fun r => (r.1 : Int)).Nodup
  | [], _ => List.nodup_nil
  | none :: l, k => nums_nodup (l := l)
  | some u :: l, k => by
    show ((k : Int) :: (numsOf S (k + 1) l).map fun r => (r.1 : Int)).Nodup
    refine List.nodup_cons.mpr ⟨fun h => ?_, nums_nodup (l := l)⟩
    obtain ⟨r, hr, e⟩ := List.mem_map.mp h
    have := nums_from (l := l) r hr
    omega
/-- what the child has of a source's holders -/
def moreOf (c : Int) (ns : List Int) (hs : List Pr) : List Pr := (hs.filter fun r => decide (r.1 = 0) && decide (r.2 ∈ ns)).map fun r => (c, r.2)
def widen (c : Int) (ns : List Int) (e : Ent) : Ent := (e.1, e.2 ++ moreOf c ns e.2)
theorem Rd.fork (X : Sx S turn) (D : Dk S hd) (f1 : (S.tab 0)[1]? = some none) (t0 : 0 ≤ turn) (t9 : turn ≤ 999999) {c : Nat} (hf : FreeP (mk2 S turn) c) {Ds : List Int} (L : Cl (forked (mk2 S turn) 0 c) S4 (turn + 1) (c : Int) Ds) (hD : ∀ n ∈ Ds, 1 < n) :
    Rd (closed S4 0 1 S.next) (turn + 1) (hd.map (widen c (openN S4 c)) ++ [(turn, [((c : Int), 1)])]) := by
  have X2 := X.mk2 f1 t0 t9
  have hcs : (c : Int) ∉ S.procs := hf.no
  have c0 : (c : Int) ≠ 0 := fun z => hcs (by rw [z]; exact X.p0)
  have hh : ∀ u q m, Hold S4 u q m ↔ (Hold S u q m ∨ (u = S.next ∧ q = 0 ∧ m = 1) ∨ (q = (c : Int) ∧ (Hold S u 0 m ∨ (u = S.next ∧ m = 1)))) ∧ ¬ (q = (c : Int) ∧ m ∈ Ds) := fun u q m => by
    rw [L.h, hold_fork X2.p0 hf.no, hold2 X f1, hold2 X f1]
    refine and_congr_left fun _ => ?_
    constructor
    · rintro ((z | z) | ⟨z1, z2 | z2⟩)
      · exact .inl z
      · exact .inr (.inl z)
      · exact .inr (.inr ⟨z1, .inl z2⟩)
      · exact .inr (.inr ⟨z1, .inr ⟨z2.1, z2.2.2⟩⟩)
    · rintro (z | z | ⟨z1, z2 | z2⟩)
      · exact .inl (.inl z)
      · exact .inl (.inr z)
      · exact .inr ⟨z1, .inl z2⟩
      · exact .inr ⟨z1, .inr ⟨z2.1, rfl, z2.2⟩⟩
  have no1 : (1 : Int) ∉ Ds := fun z => by have := hD 1 z; omega
  have cp : (c : Int) ∈ S4.procs := by
    rw [L.procs]
    exact List.mem_append_right _ (List.mem_singleton_self _)
  refine Rd.kept X D f1 L.X (L.ents.trans ents2) L.reg ((hh _ _ _).mpr ⟨.inr (.inl ⟨rfl, rfl, rfl⟩), fun z => c0 z.1.symm⟩) (by simp) (by simp) (fun q m => ?_) ?_ (fun e he => ?_) fun e he q m => ?_
  · rw [List.mem_singleton, hh, Prod.mk.injEq]
    constructor
    · rintro ⟨rfl, rfl⟩
      exact ⟨⟨.inr (.inr ⟨rfl, .inr ⟨rfl, rfl⟩⟩), fun z => no1 z.2⟩, fun z => c0 z.1⟩
    · rintro ⟨⟨z | z | ⟨z1, z2 | z2⟩, _⟩, h⟩
      · exact absurd z X.noNext
      · exact absurd z.2 h
      · exact absurd z2 X.noNext
      · exact ⟨z1, z2.2⟩
  · rw [List.map_map]
    exact List.map_congr_left fun e _ => rfl
  · obtain ⟨y, hy, rfl⟩ := List.mem_map.mp he
    show (y.2 ++ moreOf c (openN S4 c) y.2).Nodup
    refine List.nodup_append.mpr ⟨D.nd y hy, ?_, fun a ha b hb e => ?_⟩
    · unfold moreOf
      have nd := (D.nd y hy).filter fun r => decide (r.1 = 0) && decide (r.2 ∈ openN S4 (c : Int))
      have nd := List.nodup_iff_pairwise_ne.mp nd
      refine List.nodup_iff_pairwise_ne.mpr ?_
      rw [List.pairwise_map]
      refine List.Pairwise.imp_of_mem (fun {a b} ha hb ne z => ne ?_) nd
      have h1 := (List.mem_filter.mp ha).2
      have h2 := (List.mem_filter.mp hb).2
      rw [Bool.and_eq_true, decide_eq_true_eq, decide_eq_true_eq] at h1 h2
      exact Prod.ext (h1.1.trans h2.1.symm) (Prod.mk.inj z).2
    · unfold moreOf at hb
      obtain ⟨r, _, rfl⟩ := List.mem_map.mp hb
      subst e
      exact hcs ((D.hold y hy _ _).mp ha).1
  · obtain ⟨y, hy, rfl⟩ := List.mem_map.mp he
    show (q, m) ∈ y.2 ++ moreOf c (openN S4 c) y.2 ↔ Hold S4 (S.reg 0 y.1).src q m ∧ _
    have us : (S.reg 0 y.1).src ≠ S.next := fun z => X.W.next_out.1 (by rw [← z]; exact X.src (D.ent hy))
    rw [List.mem_append, hh, D.hold y hy]
    have mo : (q, m) ∈ moreOf c (openN S4 c) y.2 ↔ q = (c : Int) ∧ Hold S (S.reg 0 y.1).src 0 m ∧ m ∈ openN S4 c := by
      unfold moreOf
      rw [List.mem_map]
      constructor
      · rintro ⟨⟨a, b⟩, h, e⟩
        obtain ⟨h1, h2⟩ := List.mem_filter.mp h
        rw [Bool.and_eq_true, decide_eq_true_eq, decide_eq_true_eq] at h2
        obtain ⟨rfl, rfl⟩ := Prod.mk.inj e
        obtain ⟨rfl, h3⟩ := h2
        exact ⟨rfl, (D.hold y hy _ _).mp h1, h3⟩
      · rintro ⟨rfl, h1, h2⟩
        refine ⟨(0, m), List.mem_filter.mpr ⟨(D.hold y hy _ _).mpr h1, ?_⟩, rfl⟩
        rw [Bool.and_eq_true, decide_eq_true_eq, decide_eq_true_eq]
        exact ⟨rfl, h2⟩
    rw [mo]
    have n01 : ∀ u, ¬ Hold S u 0 1 := fun u z => by
      have e := z.2.2
      rw [show ((1 : Int).toNat) = 1 from rfl, f1] at e
      cases e
    constructor
    · rintro (h | ⟨rfl, h1, h2⟩)
      · exact ⟨⟨.inl h, fun z => hcs (z.1 ▸ h.1)⟩, fun z => n01 _ (by rw [z.1, z.2] at h; exact h)⟩
      · refine ⟨⟨.inr (.inr ⟨rfl, .inl h1⟩), fun z => ?_⟩, fun z => c0 z.1⟩
        obtain ⟨u, hu⟩ := (mem_open cp).mp h2
        exact ((hh _ _ _).mp hu).2 z
    · rintro ⟨⟨z | z | ⟨z1, z2 | z2⟩, nD⟩, h⟩
      · exact .inl z
      · exact absurd z.1 us
      · exact .inr ⟨z1, z2, (mem_open cp).mpr ⟨(S.reg 0 y.1).src, (hh _ _ _).mpr ⟨.inr (.inr ⟨rfl, .inl z2⟩), fun y => nD ⟨z1, y.2⟩⟩⟩⟩
      · exact absurd z2.1 us
end

/-! a source arrives, is waited for, read, and waited for in vain: nothing is changed -/
theorem notice_none {reg : Int → Reg} {t : Int} : ∀ {ls acc : List Int}, (∀ x ∈ ls, (reg x).src ≠ t) → noticeQ reg t ls acc = acc
  | [], _, _ => rfl
  | x :: ls, acc, h => by
    show noticeQ reg t ls (if (reg x).src = t ∧ (reg x).armed = true then qAdd x acc else acc) = acc
    rw [if_neg (fun z => h x List.mem_cons_self z.1)]
    exact notice_none fun y hy => h y (List.mem_cons_of_mem _ hy)
theorem notice_one {reg : Int → Reg} {t l : Int} (hl : (reg l).src = t) (ha : (reg l).armed = true) : ∀ {ls acc : List Int}, ls.Nodup → l ∈ ls → (∀ x ∈ ls, (reg x).src = t → x = l) → l ∉ acc → noticeQ reg t ls acc = acc ++ [l]
  | [], _, _, h, _, _ => absurd h List.not_mem_nil
  | x :: ls, acc, nd, h, hx, na => by
    obtain ⟨n1, n2⟩ := List.nodup_cons.mp nd
    show noticeQ reg t ls (if (reg x).src = t ∧ (reg x).armed = true then qAdd x acc else acc) = _
    by_cases e : x = l
    · subst e
      rw [if_pos ⟨hl, ha⟩, notice_none fun y hy z => n1 (by rw [← hx y (List.mem_cons_of_mem _ hy) z]; exact hy)]
      exact if_neg na
    · rw [if_neg (fun z => e (hx x List.mem_cons_self z.1))]
      exact notice_one hl ha n2 ((List.mem_cons.mp h).resolve_left fun z => e z.symm) (fun y hy => hx y (List.mem_cons_of_mem _ hy)) na
theorem Sys.eqs {S S' : Sys} (h1 : S'.P = S.P) (h2 : S'.N = S.N) (h3 : S'.next = S.next) (h4 : S'.procs = S.procs) (h5 : S'.tab = S.tab) (h6 : S'.srcs = S.srcs) (h7 : S'.unit = S.unit) (h8 : S'.sets = S.sets) (h9 : S'.ents = S.ents) (h10 : S'.reg = S.reg) (h11 : S'.que = S.que) : S' = S := by
  cases S
  cases S'
  dsimp only at h1 h2 h3 h4 h5 h6 h7 h8 h9 h10 h11
  subst h1 h2 h3 h4 h5 h6 h7 h8 h9 h10 h11
  rfl
section
variable {S : Sys} {turn : Int} {hd : List Ent}
theorem Sx.arr (X : Sx S turn) {l : Int} (hl : l ∈ S.ents 0) : (arrived S (S.reg 0 l).src 1).que 0 = [l] := by
  show (if (0 : Int) ∈ S.sets then noticeQ (S.reg 0) (S.reg 0 l).src (S.ents 0) (S.que 0) else S.que 0) = _
  rw [if_pos X.m0, X.qu]
  exact notice_one rfl (X.rg l hl).2.2 X.nodup hl (fun x hx e => X.uniq hx hl e) List.not_mem_nil
theorem settled_lev {reg : Int → Reg} {l : Int} (h : (reg l).word = "level") : settled reg l = reg := funext fun j => settled_no (by rw [h]; decide)
abbrev arrS (S : Sys) (l : Int) : Sys := arrived S (S.reg 0 l).src 1
theorem Sx.took1 (X : Sx S turn) {l : Int} (hl : l ∈ S.ents 0) : took (arrS S l) 0 20 = ⟨[(l, 1, false)], [l], S.reg 0⟩ := by
  have hu : (arrS S l).unit (S.reg 0 l).src = (1, false) := by
    show (if (S.reg 0 l).src = (S.reg 0 l).src then ((S.unit (S.reg 0 l).src).1 + 1, false) else _) = _
    rw [if_pos rfl, X.un]
    rfl
  unfold took
  rw [X.arr hl]
  show (if (([] : List (Int × Int × Bool)).length : Int) = 20 then _ else takeStep (arrS S l).unit ⟨[], [l], S.reg 0⟩ l) = _
  rw [if_neg (by decide)]
  unfold takeStep
  dsimp only
  rw [hu, if_pos (by decide), if_pos (X.rg l hl).2.1, settled_lev (X.rg l hl).2.1]
  rfl
abbrev waitS (S : Sys) (l : Int) : Sys := waited (arrS S l) 0 20
theorem Sx.reg1 (X : Sx S turn) {l : Int} (hl : l ∈ S.ents 0) : (waitS S l).reg = S.reg := funext fun j => by
  show (if j = 0 then (took (arrS S l) 0 20).reg else S.reg j) = _
  rw [X.took1 hl]
  split
  · rename_i h
    rw [h]
  · rfl
abbrev readL (S : Sys) (l : Int) : Sys := readS (waitS S l) (S.reg 0 l).src none
theorem Sx.unit1 (X : Sx S turn) {l : Int} : (waitS S l).unit (S.reg 0 l).src = (1, false) := by
  show (if (S.reg 0 l).src = (S.reg 0 l).src then ((S.unit (S.reg 0 l).src).1 + 1, false) else _) = _
  rw [if_pos rfl, X.un]
  rfl
theorem Sx.unit2 (X : Sx S turn) {l : Int} : (readL S l).unit = S.unit := funext fun j => by
  show (if j = (S.reg 0 l).src then (((waitS S l).unit (S.reg 0 l).src).1 - taken ((waitS S l).unit (S.reg 0 l).src).1 none, ((waitS S l).unit (S.reg 0 l).src).2) else (waitS S l).unit j) = S.unit j
  by_cases e : j = (S.reg 0 l).src
  · rw [if_pos e, X.unit1, X.un]
    rfl
  · rw [if_neg e]
    show (if j = (S.reg 0 l).src then _ else S.unit j) = _
    rw [if_neg e]
theorem Sx.took2 (X : Sx S turn) {l : Int} (hl : l ∈ S.ents 0) : took (readL S l) 0 20 = ⟨[], [], S.reg 0⟩ := by
  have hq : (readL S l).que 0 = [l] := by
    show (if (0 : Int) = 0 then (took (arrS S l) 0 20).que else (arrS S l).que 0) = _
    rw [if_pos rfl, X.took1 hl]
  have hr : (readL S l).reg = S.reg := X.reg1 hl
  unfold took
  rw [hq, hr, X.unit2]
  show (if (([] : List (Int × Int × Bool)).length : Int) = 20 then _ else takeStep S.unit ⟨[], [l], S.reg 0⟩ l) = _
  rw [if_neg (by decide)]
  unfold takeStep
  dsimp only
  rw [X.un, if_neg (by decide)]
  rfl
abbrev wait2 (S : Sys) (l : Int) : Sys := waited (readL S l) 0 20
theorem Sx.cycle (X : Sx S turn) {l : Int} (hl : l ∈ S.ents 0) : wait2 S l = S := by
  refine Sys.eqs rfl rfl rfl rfl rfl rfl X.unit2 rfl rfl (funext fun j => ?_) (funext fun j => ?_)
  · show (if j = 0 then (took (readL S l) 0 20).reg else (waitS S l).reg j) = _
    rw [X.took2 hl, X.reg1 hl]
    split
    · rename_i h
      rw [h]
    · rfl
  · show (if j = 0 then (took (readL S l) 0 20).que else (if j = 0 then (took (arrS S l) 0 20).que else (if j ∈ S.sets then noticeQ (S.reg j) (S.reg 0 l).src (S.ents j) (S.que j) else S.que j))) = _
    rw [X.took2 hl]
    by_cases e : j = 0
    · rw [if_pos e, e, X.qu]
    · rw [if_neg e, if_neg e, if_neg]
      rw [X.sets, List.mem_singleton]
      exact e
end
def tTryA (K : PySem.W.Frag) (Wz : WX) (l : List HdA) (tb : WX → TS) : TS := fun D σ H => tb (wAll K Wz D l) D σ H
theorem ps_tryA {X : Cx} {body : List Stmt} {h1 : ExceptHandler} {hds : List ExceptHandler} {l : List HdA} {pos : Pos} {tb : WX → TS} {Wz : WX} (hs : X.stack = X.env :: X.outer) (hf : X.env.frame = some X.env.locals) (nd : X.N.Nodup) (tk : Takes X Wz) (hb : ∀ (W : WX) (pn : List (Addr × Obj)) (xe : Value → Shared → Prop), Takes (X.tr pn xe) W → PassesOwn (model X.prog X.w) X.A X.env xe → PSs (X.tr pn xe) body (tb W))
    (hh : HdsA X (h1 :: hds) l) : PS X (.Try body (h1 :: hds) [] [] pos) (tTryA X.K Wz l tb) := ps_try_all hs hf nd tk hb hh
/-! unreached -/
structure LawTx (mg : Str → Option Value) : Prop where
  range : mg "range" = none
  max : mg "max" = none
  min : mg "min" = none
  len : mg "len" = none
  sorted : mg "sorted" = none
  list : mg "list" = none
/-- a method of the program's class -/
structure Mx (P : Program) (w : World) (K : PySem.W.Frag) (mg : Str → Option Value) (base : Heap) (k : Nat) (C : Addr) (m : Str) (ps : List Str) (sp : Sp) (ds : List V) (f : Addr) (fd : FuncData) : Prop where
  g : FnOk P w K mg base (L2.CX P w) k f fd ps sp
  m : Meth K C m f
  b : ∃ us, Binds K fd ps us ∧ Vals ds us
section
variable {P : Program} {w : World} {K : PySem.W.Frag} {mg : Str → Option Value} {base : Heap} {C : Cs} {D : Es}
def spUnreached (C : Cs) : Sp := fun vs H Q _ => ∃ (S : Sys) (ad dx : Cell → Addr) (er : Er), vs = [.ref (ad .box), .int 1] ∧ At C H S ad dx ∧ WF S ∧ S.sets = [0] ∧ (er = .notreg (.int 1) ∨ er = .open_ (.int 1)) ∧
  removeM S (.int 0) (.int 0) (.int 1) = .error er ∧ changeM S (.int 0) (.int 0) (.int 1) (.str "once") = .error er ∧ ∀ H', Same H H' → Q (.bl true) H'
abbrev nUnreached : List Str := ["_law_box", "_law_n", "_law_told", "_law_way", "e"]
theorem scUnreached : FnScope nUnreached ["_law_box", "_law_n"] (defScope sUnreached) := ⟨rfl, rfl, rfl, by decide +kernel, rfl, by decide +kernel, by decide +kernel⟩
abbrev endE (Ds : Ends) (i : Nat) : Ends := { nx := fun σ' H' => Ds.nx (σ'.set i none) H', rt := Ds.rt, bk := fun σ' H' => Ds.bk (σ'.set i none) H', ct := fun σ' H' => Ds.ct (σ'.set i none) H' }
theorem out_note {K : PySem.W.Frag} {Wz : WX} {Ds : Ends} {ts1 ts2 : Addr → Value → Option Addr → TS} {σ : L2.St} {H : Hp} {er : Er} (h : er = .notreg (.int 1) ∨ er = .open_ (.int 1)) (t1 : PySem.W.exmOne K (.ref D.notreg) (.ref D.notreg) = some true) (t2 : PySem.W.exmOne K (.ref D.open_) (.ref D.open_) = some true) (x : PySem.W.exmOne K (.ref D.open_) (.ref D.notreg) = some false)
    (k1 : ∀ a d H', Same H H' → H' d = some (.xd [("number", .int 1)]) → ts1 a (.ref D.notreg) (some d) (endE Ds 4) (σ.set 4 (some (.ref a))) H')
    (k2 : ∀ a d H', Same H H' → H' d = some (.xd [("number", .int 1)]) → ts2 a (.ref D.open_) (some d) (endE Ds 4) (σ.set 4 (some (.ref a))) H') : er.out D H fun cls d H' => wAll K Wz Ds [⟨.ref D.notreg, 4, ts1⟩, ⟨.ref D.open_, 4, ts2⟩] cls d σ H' := by
  rcases h with rfl | rfl
  · exact fun d H' hd s e => ⟨true, t1, fun _ a ha => k1 a d H' s e, fun z => Bool.noConfusion z⟩
  · exact fun d H' hd s e => ⟨false, x, (fun z => Bool.noConfusion z), fun _ => ⟨true, t2, fun _ a ha => k2 a d H' s e, fun z => Bool.noConfusion z⟩⟩
theorem fl_int {H : Hp} {i : Int} (h1 : -1000000 ≤ i) (h2 : i ≤ 1000000) : Flat H (.int i) := .int i (by
  have : i.natAbs < 2 ^ 20 := by omega
  rcases (by omega : i.natAbs = 0 ∨ i.natAbs ≠ 0) with z | z
  · rw [z]
    decide
  · exact Nat.lt_trans ((Nat.log2_lt z).mpr this) (by decide))
theorem okUnreached {f fR fC fRg : Addr} {fd fdR fdC fdRg : FuncData} {g : List Value → List Value → List Value} (F : Fun K "_law_unreached" "_law_unreached" sUnreached f fd) (X : LawTx mg) (T : ClsF K C.S sysF) (R : ErTx P w K mg base D) (x : PySem.W.exmOne K (.ref D.open_) (.ref D.notreg) = some false)
    (gR : FnOk P w K mg base (L2.CX P w) 6 fR fdR ["self", "process", "set_number", "number"] (spRemoveX C D)) (mR : Meth K C.S "remove" fR) (bR : Binds K fdR ["self", "process", "set_number", "number"] [])
    (gC : FnOk P w K mg base (L2.CX P w) 6 fC fdC ["self", "process", "set_number", "number", "word"] (spChangeX C D)) (mC : Meth K C.S "change" fC) (kC : KBn K fdC ["self", "process", "set_number", "number", "word"] 4 ["word"] g (fun vs zs => vs ++ zs))
    (GG : MO P w K mg base 3 C.S "registrations" ["self"] (spRegistrations C) fRg fdRg) :
    FnOk P w K mg base CX0 7 f fd ["_law_box", "_law_n"] (spUnreached C) := by
  obtain ⟨fI1, fd1, T1, _⟩ := R.notreg.ex
  obtain ⟨fI2, fd2, T2, _⟩ := R.open_.ex
  refine F.ok scUnreached (fun vs H Q E h => ?_) (fun cdv A outer s H vs Q E hr h => ?_)
  · obtain ⟨_, _, _, _, rfl, _⟩ := h
    rfl
  · obtain ⟨S, ad, dx, er, rfl, A0, W, hs, he, hrm, hch, k⟩ := h
    have hu := hr.units
    have r3 : Room 3 _ := hr.mono (by decide)
    have X1 := T1.xf
    refine ⟨_, pss_cut (ps_set (i := 2) scUnreached.nd rfl (Or.inl rfl) (pe_meth0 (pv 0) T.cl GG.m GG.g r3 GG.b .nil pass0))
      (pss_cut (ps_for PassesOwn.never rfl (pi_range1 (by rfl) X.range (pa_cons pe_int pa_nil)) (pg_name (i := 3) scUnreached.nd rfl (Or.inl rfl))
        (pss_one (ps_tryA (l := [⟨.ref D.notreg, 4, _⟩, ⟨.ref D.open_, 4, _⟩]) (Wz := fun _ _ _ _ => False) rfl rfl scUnreached.nd takes0
          (fun W pn xe tk _ => pss_cons (ps_if (pt_cmpR op_eq (pv 3) pe_int (nomark _))
              (pss_one (ps_expr (pe_methA (ks := []) (kws := []) (pv 0) T.cl mR gR hr (KBn.of bR rfl) (fun σ => passAt tk σ) (pa_cons pe_int (pa_cons pe_int (pa_cons (pv 1) pa_nil))) pk_nil)))
              (pss_one (ps_expr (pe_methA (ks := ["word"]) (pv 0) T.cl mC gC hr kC (fun σ => passAt tk σ) (pa_cons pe_int (pa_cons pe_int (pa_cons (pv 1) pa_nil))) (pk_cons pe_str pk_nil)))))
            (pss_one (ps_ret pe_bl)))
          (.cons rfl rfl ⟨rfl, by decide, Or.inl T1.gC⟩ (fun a oe cls d pn hz hf => pss_one (ps_if (pt_cmpR op_ne (pe_xf T1.xf T1.noN hz hf (pv 4)) (pv 1) (nomark _)) (pss_one (ps_ret pe_bl)) pss_nil))
          (.cons rfl rfl ⟨rfl, by decide, Or.inl T2.gC⟩ (fun a oe cls d pn hz hf => pss_one (ps_if (pt_cmpR op_ne (pe_xf T2.xf T2.noN hz hf (pv 4)) (pv 1) (nomark _)) (pss_one (ps_ret pe_bl)) pss_nil)) .nil)))))
      (pss_one (ps_ret (pe_cmpR (op_eqD hu) (pe_meth0 (pv 0) T.cl GG.m GG.g r3 GG.b .nil pass0) (pv 2) (nomark _))))), ?_⟩
    obtain ⟨q1, q2, q3, q4, q5⟩ := regs_ask W hs
    have hwd : ∀ l ∈ S.ents 0, (S.reg 0 l).word ∈ wordsL := fun l hl => W.rw_ 0 (by rw [hs]; exact List.mem_singleton_self _) l hl
    refine ⟨fun σ' H' => ∃ r ys rs, σ' = [some (.ref (ad .box)), some (.int 1), some (.ref r), none, none] ∧ Same H H' ∧ H' r = some (.lst rs) ∧ ys.Perm S.procs ∧ ys.Pairwise (· ≤ ·) ∧ Paired (RgAt S ys 0 H') rs (S.ents 0), ?_, ?_⟩
    · walk_at "wn"
      refine ⟨_, rfl, ad .box, dx .box, _, rfl, A0.at_ .box trivial, rfl, ?_⟩
      walk_at "wn"
      refine ⟨S, ad, dx, rfl, A0, 0, hs, q1, q2, q3, q4, q5, fun ys H' r rs pm pw s' nr hr' pr => ?_⟩
      walk_at "wn"
      exact ⟨r, ys, rs, rfl, s', hr', pm, pw, pr⟩
    rintro σ' H1 ⟨r, ys, rs, rfl, s1, hr1, pm, pw, pr1⟩
    refine ⟨fun σ' H' => ∃ u3, σ' = [some (.ref (ad .box)), some (.int 1), some (.ref r), u3, none] ∧ Same H1 H', ?_, ?_⟩
    · walk_at "wn"
      show iRng1 _ _ _ _
      show tCons _ _ _ _ _
      walk_at "wn"
      refine ⟨2, rfl, by decide, by decide, ?_⟩
      refine for_range (lo := 0) (fun j σ' H' => ∃ u3, σ' = [some (.ref (ad .box)), some (.int 1), some (.ref r), u3, none] ∧ Same H1 H') ⟨_, rfl, Same.refl _⟩ ?_ (fun σ' H' h => h)
      rintro j σ' H2 hj ⟨u3, rfl, s2⟩
      have A2 := A0.same (s1.trans s2)
      walk_at "wn"
      show tSeq _ _ _ _ _
      have fin : ∀ {Dn : Ends} {a d : Addr} {H' : Hp} {E1 : Value} {Dc : Addr} (u : Option V), Same H2 H' → H' d = some (.xd [("number", .int 1)]) → E1 = .ref Dc →
          (∀ σ2 H3, (∃ u3, σ2 = [some (.ref (ad .box)), some (.int 1), some (.ref r), u3, none] ∧ Same H1 H3) → Dn.nx σ2 H3) →
          tIfS (tTest (tOp rNe (tXf a E1 (some d) Dc "number" (tVar 4)) (tVar 1))) (tRet (tC (.bl false))) tNext (endE Dn 4) [some (.ref (ad .box)), some (.int 1), some (.ref r), u, some (.ref a)] H' := fun {Dn a d H' E1 Dc} u sm hd e1 kk => by
        walk_at "wn"
        refine ⟨_, rfl, rfl, e1, d, _, _, rfl, hd, rfl, ?_⟩
        walk_at "wn"
        refine kk _ _ ⟨_, rfl, s2.trans sm⟩
      walk_at "wn"
      by_cases hj0 : (V.int (0 + (j : Int)) = V.int 0)
      · rw [decide_eq_true hj0]
        refine iteT ?_
        walk_at "wn"
        refine ⟨_, rfl, ad .box, dx .box, _, rfl, A2.at_ .box trivial, rfl, ?_⟩
        walk_at "wn"
        refine ⟨rfl, rfl, .int 0, .int 0, .int 1, S, ad, dx, rfl, A2, W, fl_int (by decide) (by decide), fl_int (by decide) (by decide), fl_int (by decide) (by decide), res_err hrm (out_note he T1.te T2.te x (fun a d H' sm hd => ?_) (fun a d H' sm hd => ?_))⟩
        · exact fin _ sm hd rfl fun _ _ z => z
        · exact fin _ sm hd rfl fun _ _ z => z
      · rw [decide_eq_false hj0]
        refine iteF ?_
        walk_at "wn"
        refine ⟨_, rfl, ad .box, dx .box, _, rfl, A2.at_ .box trivial, rfl, ?_⟩
        walk_at "wn"
        refine ⟨rfl, rfl, .int 0, .int 0, .int 1, .str "once", S, ad, dx, rfl, A2, W, fl_int (by decide) (by decide), fl_int (by decide) (by decide), fl_int (by decide) (by decide), .str _ (by decide) (by decide +kernel), rfl, res_err hch (out_note he T1.te T2.te x (fun a d H' sm hd => ?_) (fun a d H' sm hd => ?_))⟩
        · exact fin _ sm hd rfl fun _ _ z => z
        · exact fin _ sm hd rfl fun _ _ z => z
    rintro σ' H2 ⟨u3, rfl, s2⟩
    have A2 := A0.same (s1.trans s2)
    walk_at "wn"
    refine ⟨_, rfl, ad .box, dx .box, _, rfl, A2.at_ .box trivial, rfl, ?_⟩
    walk_at "wn"
    refine ⟨S, ad, dx, rfl, A2, 0, hs, q1, q2, q3, q4, q5, fun zs H' r2 ws pm2 pw2 s' nr hr2 pr2 => ?_⟩
    obtain rfl := sort_same pm2 pw2 pm pw
    walk_at "wn"
    refine q_eqRows hwd hr2 pr2 (s' _ _ (s2 _ _ hr1)) (rgs_keep pr1 fun b o e => .inr (s' _ _ (s2 _ _ e))) ?_
    exact k _ ((s1.trans s2).trans s')
end

/-- d == {} -/
def rEqE : R2 := fun x y H Q => ∃ a b ks, x = .ref a ∧ y = .ref b ∧ H a = some (.dK ks) ∧ H b = some (.dK []) ∧ Q (.bl ks.isEmpty) H
theorem op_eqE {X : Cx} (hu : X.A.units < cLine) : OpR X (compareOp .Eq) rEqE := by
  intro pins s σ H x y v u Q I rx ry h
  obtain ⟨a, b, ks, rfl, rfl, ea, eb, q⟩ := h
  obtain rfl : v = Value.ref a := rx
  obtain rfl : u = Value.ref b := ry
  obtain ⟨_, ya, va, ra, da⟩ := (show ObjOk X.prog X.w H s.heap a (.dK ks) from I.hok a _ ea)
  obtain ⟨_, yb, vb, rb, db⟩ := (show ObjOk X.prog X.w H s.heap b (.dK []) from I.hok b _ eb)
  have l1 : ks.length = va.length := ra.length
  have l2 : ([] : List (Key × V)).length = vb.length := rb.length
  have lb : vb.length = 0 := l2.symm
  refine PySem.W.keq_eq (knd := mixKind X.prog X.w) (r := true) ya yb da db hu (fun e => ?_) (fin_bl I q ?_)
  · cases ks with
    | nil => exact hits_all rb ra fun p hp => nomatch hp
    | cons p ks =>
      rw [lb, ← l1] at e
      cases e
  · rw [lb, ← l1]
    cases ks <;> rfl
/-! the law's bag and dict -/
structure Pic (H O : Hp) (p D : Addr) (al : Int → Addr) (hd : List Ent) : Prop where
  bag : BagAt O p
  dict : O D = some (.dK (entKV (hd.map Prod.fst) al))
  lst : ∀ e ∈ hd, ∃ vs, O (al e.1) = some (.lst vs) ∧ Paired (PrAt H) vs e.2
  pL : ∀ e ∈ hd, al e.1 ≠ p
  inj : ∀ e ∈ hd, ∀ e' ∈ hd, al e.1 = al e'.1 → e.1 = e'.1
theorem prs_keep2 {H H' : Hp} {vs : List V} {rs : List Pr} (p : Paired (PrAt H) vs rs) (k : ∀ b x y, H b = some (.tup [.int x, .int y]) → H' b = some (.tup [.int x, .int y])) : Paired (PrAt H') vs rs := by
  induction p with
  | nil => exact .nil
  | cons r _ ih =>
    obtain ⟨T, h1, h2⟩ := r
    exact .cons ⟨T, h1, k _ _ _ h2⟩ ih
theorem cases_set {l : Int} {hs' : List Pr} {hd : List Ent} {e : Ent} (hE : e ∈ setE l hs' hd) : e = (l, hs') ∨ (e ∈ hd ∧ e.1 ≠ l) := by
  unfold setE at hE
  obtain ⟨y, hy, rfl⟩ := List.mem_map.mp hE
  by_cases z : y.1 = l
  · rw [if_pos z]
    exact .inl rfl
  · rw [if_neg z]
    exact .inr ⟨hy, z⟩
section
variable {H H' O : Hp} {p D : Addr} {al : Int → Addr} {hd hd' : List Ent}
theorem Pic.keep (P : Pic H O p D al hd) (k : ∀ b x y, H b = some (.tup [.int x, .int y]) → H' b = some (.tup [.int x, .int y])) : Pic H' O p D al hd := ⟨P.bag, P.dict, fun e he => by
  obtain ⟨vs, h1, h2⟩ := P.lst e he
  exact ⟨vs, h1, prs_keep2 h2 k⟩, P.pL, P.inj⟩
theorem Pic.Dp (P : Pic H O p D al hd) : D ≠ p := fun z => by
  obtain ⟨xs, h⟩ := P.bag.lst
  rw [← z, P.dict] at h
  cases h
theorem Pic.DL (P : Pic H O p D al hd) {e : Ent} (he : e ∈ hd) : al e.1 ≠ D := fun z => by
  obtain ⟨vs, h, _⟩ := P.lst e he
  rw [z, P.dict] at h
  cases h
theorem Pic.draw (P : Pic H O p D al hd) {xs : List V} (b : BagAt (upd O p (.lst xs)) p) : Pic H (upd O p (.lst xs)) p D al hd := by
  refine ⟨b, (upd_ne P.Dp).trans P.dict, fun e he => ?_, P.pL, P.inj⟩
  obtain ⟨vs, h1, h2⟩ := P.lst e he
  exact ⟨vs, (upd_ne (P.pL e he)).trans h1, h2⟩
theorem Pic.new (P : Pic H O p D al hd) {t : Addr} {o : HO} (ht : O t = none) : Pic H (upd O t o) p D al hd := by
  have k : ∀ b u, O b = some u → upd O t o b = some u := fun b u e => (upd_ne (ne_of_none e ht)).trans e
  obtain ⟨y, z, hp, r⟩ := P.bag
  refine ⟨⟨y, z, k _ _ hp, r⟩, k _ _ P.dict, fun e he => ?_, P.pL, P.inj⟩
  obtain ⟨vs, h1, h2⟩ := P.lst e he
  exact ⟨vs, k _ _ h1, h2⟩
/-- the dict is written at l -/
theorem Pic.put (P : Pic H O p D al hd) {L : Addr} {l : Int} {vs : List V} {hs : List Pr} (hL : O L = some (.lst vs)) (pr : Paired (PrAt H) vs hs) (Lp : L ≠ p) (nL : ∀ e ∈ hd, e.1 ≠ l → al e.1 ≠ L) (k : hd'.map Prod.fst = if l ∈ hd.map Prod.fst then hd.map Prod.fst else hd.map Prod.fst ++ [l]) (h : ∀ e ∈ hd', (e.1 = l ∧ e.2 = hs) ∨ (e.1 ≠ l ∧ e ∈ hd)) :
    Pic H (upd O D (.dK (putK (entKV (hd.map Prod.fst) al) (Sum.inl l) (.ref L)))) p D (fun j => if j = l then L else al j) hd' := by
  have LD : L ≠ D := fun z => by rw [z, P.dict] at hL; cases hL
  obtain ⟨y, z, hp, r⟩ := P.bag
  refine ⟨⟨y, z, (upd_ne (Ne.symm P.Dp)).trans hp, r⟩, ?_, fun e he => ?_, fun e he => ?_, fun e he e' he' => ?_⟩
  · rw [upd_same, ent_put, k]
  · rcases h e he with ⟨h1, h2⟩ | ⟨h1, h2⟩
    · rw [if_pos h1, h2]
      exact ⟨vs, (upd_ne LD).trans hL, pr⟩
    · rw [if_neg h1]
      obtain ⟨ws, a, b⟩ := P.lst e h2
      exact ⟨ws, (upd_ne (P.DL h2)).trans a, b⟩
  · rcases h e he with ⟨h1, h2⟩ | ⟨h1, h2⟩
    · rw [if_pos h1]
      exact Lp
    · rw [if_neg h1]
      exact P.pL e h2
  · rcases h e he with ⟨h1, h2⟩ | ⟨h1, h2⟩ <;> rcases h e' he' with ⟨h3, h4⟩ | ⟨h3, h4⟩
    · exact fun _ => h1.trans h3.symm
    · rw [if_pos h1, if_neg h3]
      exact fun w => absurd w.symm (nL e' h4 h3)
    · rw [if_neg h1, if_pos h3]
      exact fun w => absurd w (nL e h2 h1)
    · rw [if_neg h1, if_neg h3]
      exact P.inj e h2 e' h4
/-- a label is taken out -/
theorem Pic.drop (P : Pic H O p D al hd) (l : Int) : Pic H (upd O D (.dK (dropK (entKV (hd.map Prod.fst) al) (Sum.inl l)))) p D al (dropE l hd) := by
  have sub : ∀ e, e ∈ dropE l hd → e ∈ hd := fun e he => (List.mem_filter.mp he).1
  obtain ⟨y, z, hp, r⟩ := P.bag
  refine ⟨⟨y, z, (upd_ne (Ne.symm P.Dp)).trans hp, r⟩, ?_, fun e he => ?_, fun e he => P.pL e (sub e he), fun e he e' he' => P.inj e (sub e he) e' (sub e' he')⟩
  · rw [upd_same, ent_drop]
    unfold dropE
    rw [List.filter_map]
    rfl
  · obtain ⟨ws, a, b⟩ := P.lst e (sub e he)
    exact ⟨ws, (upd_ne (P.DL (sub e he))).trans a, b⟩
/-- the list of l is written -/
theorem Pic.putL (P : Pic H O p D al hd) {l : Int} {hs hs' : List Pr} (he : (l, hs) ∈ hd) {vs' : List V} (pr : Paired (PrAt H) vs' hs') : Pic H (upd O (al l) (.lst vs')) p D al (setE l hs' hd) := by
  have one : ∀ e ∈ setE l hs' hd, ∃ e0 ∈ hd, e0.1 = e.1 := fun e hE => by
    rcases cases_set hE with z | z
    · exact ⟨_, he, by rw [z]⟩
    · exact ⟨e, z.1, rfl⟩
  obtain ⟨y, z, hp, r⟩ := P.bag
  refine ⟨⟨y, z, (upd_ne (Ne.symm (P.pL _ he))).trans hp, r⟩, ?_, fun e hE => ?_, fun e hE => ?_, fun e hE e' hE' => ?_⟩
  · rw [upd_ne (Ne.symm (P.DL he)), setE_fst]
    exact P.dict
  · rcases cases_set hE with z | ⟨z, ne⟩
    · rw [z]
      exact ⟨vs', upd_same, pr⟩
    · obtain ⟨ws, a, b⟩ := P.lst e z
      exact ⟨ws, (upd_ne fun y => ne (P.inj e z _ he y)).trans a, b⟩
  · obtain ⟨e0, h1, h2⟩ := one e hE
    rw [← h2]
    exact P.pL e0 h1
  · obtain ⟨e0, h1, h2⟩ := one e hE
    obtain ⟨e1, h3, h4⟩ := one e' hE'
    rw [← h2, ← h4]
    exact P.inj e0 h1 e1 h3
end
/-- a pair of numbers is no part of the system -/
theorem At.notPr {C : Cs} {H : Hp} {S : Sys} {ad dx : Cell → Addr} (A : At C H S ad dx) {T : Addr} {a b : Int} (h : H T = some (.tup [.int a, .int b])) : ¬ own S ad T := by
  rintro ⟨d, hd, rfl⟩
  have e := A.at_ d hd
  rw [h] at e
  have e := Option.some.inj e
  cases d <;> cases e
/-- the heap at the law's work -/
inductive Mid (C : Cs) (Hb : Hp) (x p D : Addr) (al : Int → Addr) (hd : List Ent) (S : Sys) (ad dx : Cell → Addr) (H : Hp) : Prop
  | mk {O : Hp} : LW C Hb x H S ad dx O → Pic H O p D al hd → Mid C Hb x p D al hd S ad dx H
section
variable {C : Cs} {Hb H H1 H' : Hp} {x p D : Addr} {al : Int → Addr} {S S' : Sys} {ad ad' dx dx' : Cell → Addr} {hd hd' : List Ent}
theorem Mid.same (W : Mid C Hb x p D al hd S ad dx H) (s : Same H H') : Mid C Hb x p D al hd S ad dx H' := by
  cases W with
  | mk W P => exact .mk (W.same s) (P.keep fun b x y e => s _ _ e)
theorem Mid.draw (W : Mid C Hb x p D al hd S ad dx H) (e : ∀ b, b ≠ p → H' b = H b) (bg : BagAt H' p) : Mid C Hb x p D al hd S ad dx H' := by
  cases W with
  | mk W P =>
    obtain ⟨xs, b, W1⟩ := W.draw P.bag e bg
    obtain ⟨ys, hp⟩ := (W.bagH P.bag).lst
    exact .mk W1 ((P.draw b).keep fun c x y h => (e c fun z => by rw [z, hp] at h; cases h).trans h)
theorem Mid.step (W : Mid C Hb x p D al hd S ad dx H) (A : At C H' S' ad' dx') (st : Step H S ad H' S' ad') : Mid C Hb x p D al hd S' ad' dx' H' := by
  cases W with
  | mk W P => exact .mk (W.step A st) (P.keep fun b x y e => st.keep _ _ (W.at_.notPr e) e)
theorem Mid.at_ (W : Mid C Hb x p D al hd S ad dx H) : At C H S ad dx := by
  cases W with
  | mk W P => exact W.at_
theorem Mid.box (W : Mid C Hb x p D al hd S ad dx H) : ad .box = x := by
  cases W with
  | mk W P => exact W.box
theorem Mid.hb (W : Mid C Hb x p D al hd S ad dx H) : H x = some (sysO C.S (dx .box) S (ad .tabD) (ad .srcD) (ad .setD)) := by
  cases W with
  | mk W P => exact W.hb
theorem Mid.sq {K : PySem.W.Frag} {b : Addr} {xs : List V} (W : Mid C Hb x p D al hd S ad dx H) (h : SqL K Hb b xs) : SqL K H b xs := by
  cases W with
  | mk W P => exact W.sq h
theorem Mid.bag (W : Mid C Hb x p D al hd S ad dx H) : BagAt H p := by
  cases W with
  | mk W P => exact W.bagH P.bag
theorem Mid.dict (W : Mid C Hb x p D al hd S ad dx H) : H D = some (.dK (entKV (hd.map Prod.fst) al)) := by
  cases W with
  | mk W P => exact W.on _ _ P.dict
theorem Mid.lst (W : Mid C Hb x p D al hd S ad dx H) {e : Ent} (he : e ∈ hd) : ∃ vs, H (al e.1) = some (.lst vs) ∧ Paired (PrAt H) vs e.2 := by
  cases W with
  | mk W P =>
    obtain ⟨vs, a, b⟩ := P.lst e he
    exact ⟨vs, W.on _ _ a, b⟩
theorem Mid.pop (W : Mid C Hb x p D al hd S ad dx H) {l : Int} {hs : List Pr} (he : (l, hs) ∈ hd) {vs : List V} {i : Nat} (h : H (al l) = some (.lst vs)) (h' : H' (al l) = some (.lst (vs.eraseIdx i))) (k : ∀ q u, q ≠ al l → H q = some u → H' q = some u) : Mid C Hb x p D al (setE l (hs.eraseIdx i) hd) S ad dx H' := by
  cases W with
  | mk W P =>
    obtain ⟨vs0, a, b⟩ := P.lst _ he
    have e := W.on _ _ a
    rw [h] at e
    cases e
    exact .mk (W.put a h' k) ((P.putL he (paired_erase b)).keep fun c x y e => k _ _ (fun z => by rw [z, h] at e; cases e) e)
theorem Mid.drop (W : Mid C Hb x p D al hd S ad dx H) (l : Int) (h' : H' D = some (.dK (dropK (entKV (hd.map Prod.fst) al) (Sum.inl l)))) (k : ∀ q u, q ≠ D → H q = some u → H' q = some u) : Mid C Hb x p D al (dropE l hd) S ad dx H' := by
  have hD := W.dict
  cases W with
  | mk W P => exact .mk (W.put P.dict h' k) ((P.drop l).keep fun c x y e => k _ _ (fun z => by rw [z, hD] at e; cases e) e)
/-- a new list, then the dict is written at l with it -/
theorem Mid.put (W : Mid C Hb x p D al hd S ad dx H) {L : Addr} {l : Int} {vs : List V} {hs : List Pr} (hL : H L = none) (h1 : H1 L = some (.lst vs)) (s : Same H H1) (pr : Paired (PrAt H1) vs hs) (h' : H' D = some (.dK (putK (entKV (hd.map Prod.fst) al) (Sum.inl l) (.ref L)))) (k : ∀ q u, q ≠ D → H1 q = some u → H' q = some u)
    (kk : hd'.map Prod.fst = if l ∈ hd.map Prod.fst then hd.map Prod.fst else hd.map Prod.fst ++ [l]) (hh : ∀ e ∈ hd', (e.1 = l ∧ e.2 = hs) ∨ (e.1 ≠ l ∧ e ∈ hd)) : Mid C Hb x p D (fun j => if j = l then L else al j) hd' S ad dx H' := by
  have hD := W.dict
  have hD1 := s _ _ hD
  have Lp : L ≠ p := fun z => by
    obtain ⟨xs, e⟩ := W.bag.lst
    rw [← z, hL] at e
    cases e
  have nL : ∀ e ∈ hd, e.1 ≠ l → al e.1 ≠ L := fun e he _ z => by
    obtain ⟨us, a, _⟩ := W.lst he
    rw [z, hL] at a
    cases a
  cases W with
  | @mk O W P =>
    have f := W.fresh hL
    have W1 := W.new hL h1 s
    have P1 : Pic H1 (upd O L (.lst vs)) p D al hd := (P.new f).keep fun b x y e => s _ _ e
    refine .mk (W1.put P1.dict h' k) ((P1.put upd_same pr Lp nL kk hh).keep fun c x y e => k _ _ (fun z => by rw [z, hD1] at e; cases e) e)
theorem ent_get (ls : List Int) (al : Int → Addr) {l : Int} (h : l ∈ ls) : valV (entKV ls al) (Sum.inl l) = some (.ref (al l)) := by rw [ent_val, if_pos h]
theorem Mid.get (W : Mid C Hb x p D al hd S ad dx H) {l : Int} {hs : List Pr} (he : (l, hs) ∈ hd) : DGet H D (.int l) (some (.ref (al l))) := by
  have hv := ent_get (hd.map Prod.fst) al (List.mem_map.mpr ⟨_, he, rfl⟩ : l ∈ hd.map Prod.fst)
  exact hv ▸ DGet.k (k := Sum.inl l) W.dict
end

theorem paired_get {α β : Type} {R : α → β → Prop} : ∀ {xs : List α} {ys : List β}, Paired R xs ys → ∀ {i : Nat} {y : β}, ys[i]? = some y → ∃ x, xs[i]? = some x ∧ R x y
  | _, _, .nil, i, y, h => by cases i <;> cases h
  | _, _, .cons r p, 0, y, h => by
    cases h
    exact ⟨_, rfl, r⟩
  | _, _, .cons r p, i + 1, y, h => paired_get p (i := i) h
theorem nums_full {S : Sys} : ∀ {l : List (Option Int)} {k : Nat}, (∀ i, i < l.length → ∃ x, l[i]? = some (some x)) → (numsOf S k l).length = l.length
  | [], _, _ => rfl
  | none :: l, k, h => by
    obtain ⟨x, hx⟩ := h 0 (Nat.zero_lt_succ _)
    cases hx
  | some u :: l, k, h => by
    show (numsOf S (k + 1) l).length + 1 = _
    rw [nums_full (l := l) fun i hi => h (i + 1) (Nat.succ_lt_succ hi)]
    rfl
theorem first_of_nums {S : Sys} {l : List (Option Int)} (h : (numsOf S 0 l).length < l.length) : ∃ k, firstN l = some k ∧ l[k]? = some none := by
  cases e : firstN l with
  | none =>
    have := nums_full (S := S) (k := 0) (firstN_none e)
    omega
  | some k => exact ⟨k, rfl, (firstN_some e).1⟩
theorem pasted_free {S : Sys} {p t : Int} {k : Nat} (h : (S.tab p)[k]? = some none) : pasted S p k t = copied S p k t := by
  unfold pasted
  rw [h]
theorem copyM_of {S : Sys} {p n t : Int} {k : Nat} (M : Means S p n t) (h : firstN (S.tab p) = some k) : copyM S (.int p) (.int n) .non = .ok (k, t) := by
  unfold copyM
  rw [thing_of M]
  show (match goalOf S p .non with | .ok m => _ | .error e => _ : Except Er (Nat × Int)) = _
  have e : goalOf S p .non = .ok k := by
    unfold goalOf
    rw [if_pos rfl, h]
  rw [e]
theorem range_sub2 {ps : List Int} {n : Nat} (h : ∀ i : Nat, i < n → (i : Int) ∈ ps) : n ≤ ps.length := by
  have nd : ((List.range n).map fun i : Nat => (i : Int)).Nodup := by
    have a := List.nodup_iff_pairwise_ne.mp (List.nodup_range (n := n))
    refine List.nodup_iff_pairwise_ne.mpr ?_
    rw [List.pairwise_map]
    exact a.imp fun z y => z (by omega)
  have := nodup_len nd (m := ps) fun x hx => by
    obtain ⟨i, hi, rfl⟩ := List.mem_map.mp hx
    exact h i (List.mem_range.mp hi)
  rw [List.length_map, List.length_range] at this
  exact this
theorem Sx.room {S : Sys} {turn : Int} (X : Sx S turn) (h : S.procs.length < 6) : ∃ c : Nat, forkM S (.int 0) = .ok (0, c) ∧ FreeP S c := by
  cases e : firstP S with
  | none =>
    have := range_sub2 (n := 6) fun i hi => (firstP_none e).all i (by rw [X.P]; omega)
    omega
  | some c =>
    refine ⟨c, ?_, firstP_some e⟩
    unfold forkM
    rw [tabOf_of X.p0]
    dsimp only
    rw [e]
/-- how many hold a source -/
theorem Dk.len {S : Sys} {hd : List Ent} (D : Dk S hd) (W : WF S) {e : Ent} (he : e ∈ hd) : e.2.length ≤ 48 := by
  have sub : ∀ r ∈ e.2, r ∈ S.procs.flatMap fun p => (List.range 8).map fun n : Nat => (p, (n : Int)) := fun r hr => by
    obtain ⟨p, n⟩ := r
    have h := (D.hold e he p n).mp hr
    have := h.idx W
    have := W.N8
    have := h.2.1
    exact List.mem_flatMap.mpr ⟨p, h.1, List.mem_map.mpr ⟨n.toNat, List.mem_range.mpr (by omega), by rw [show ((n.toNat : Nat) : Int) = n by omega]⟩⟩
  have h := nodup_len (D.nd e he) sub
  rw [List.length_flatMap] at h
  simp only [List.length_map, List.length_range] at h
  rw [List.map_const', List.sum_replicate_nat] at h
  have := W.pl
  omega
theorem more_len {c : Int} {ns : List Int} {hs : List Pr} : (moreOf c ns hs).length ≤ hs.length := by
  unfold moreOf
  rw [List.length_map]
  exact List.length_filter_le _ _
theorem more_app {c : Int} {ns : List Int} {a b : List Pr} : moreOf c ns (a ++ b) = moreOf c ns a ++ moreOf c ns b := by
  unfold moreOf
  rw [List.filter_append, List.map_append]
/-- the first i of the dict's entries are widened -/
def hdI (c : Int) (ns : List Int) (hd : List Ent) (i : Nat) : List Ent := (hd.take i).map (widen c ns) ++ hd.drop i
theorem hdI_fst {c : Int} {ns : List Int} {hd : List Ent} {i : Nat} : (hdI c ns hd i).map Prod.fst = hd.map Prod.fst := by
  unfold hdI
  rw [List.map_append, List.map_map]
  show (hd.take i).map Prod.fst ++ _ = _
  rw [← List.map_append, List.take_append_drop]
theorem hdI_at {c : Int} {ns : List Int} {hd : List Ent} {i : Nat} {e : Ent} (he : hd[i]? = some e) : e ∈ hdI c ns hd i := by
  obtain ⟨h1, h2⟩ := List.getElem?_eq_some_iff.mp he
  unfold hdI
  rw [List.drop_eq_getElem_cons h1, h2]
  exact List.mem_append_right _ List.mem_cons_self
theorem hdI_next {c : Int} {ns : List Int} {hd : List Ent} {i : Nat} {e : Ent} (nd : (hd.map Prod.fst).Nodup) (he : hd[i]? = some e) : ∀ y ∈ hdI c ns hd (i + 1), (y.1 = e.1 ∧ y.2 = e.2 ++ moreOf c ns e.2) ∨ (y.1 ≠ e.1 ∧ y ∈ hdI c ns hd i) := by
  obtain ⟨h1, h2⟩ := List.getElem?_eq_some_iff.mp he
  intro y hy
  have nd2 : ((hdI c ns hd (i + 1)).map Prod.fst).Nodup := by rw [hdI_fst]; exact nd
  have hw : widen c ns e ∈ hdI c ns hd (i + 1) := by
    unfold hdI
    rw [List.take_add_one, he, Option.toList_some, List.map_append]
    exact List.mem_append_left _ (List.mem_append_right _ (List.mem_singleton_self _))
  by_cases z : y.1 = e.1
  · have e2 := fst_inj nd2 hy hw z
    rw [e2]
    exact .inl ⟨rfl, rfl⟩
  · refine .inr ⟨z, ?_⟩
    unfold hdI at hy ⊢
    rw [List.take_add_one, he, Option.toList_some, List.map_append] at hy
    rw [List.drop_eq_getElem_cons h1, h2]
    rcases List.mem_append.mp hy with y1 | y1
    · rcases List.mem_append.mp y1 with y2 | y2
      · exact List.mem_append_left _ y2
      · rw [List.map_singleton, List.mem_singleton] at y2
        exact absurd (by rw [y2]; rfl) z
    · exact List.mem_append_right _ (List.mem_cons_of_mem _ y1)
theorem At.not_own_same {C : Cs} {H H' : Hp} {S : Sys} {ad dx : Cell → Addr} (_ : At C H' S ad dx) (s : Same H H') {r : Addr} (n : H r = none) (A : At C H S ad dx) : ¬ own S ad r := A.not_own n
/-- a tuple of a number and a text is no part of the system -/
theorem At.notNs {C : Cs} {H : Hp} {S : Sys} {ad dx : Cell → Addr} (A : At C H S ad dx) {T : Addr} {a : Int} {b : Str} (h : H T = some (.tup [.int a, .str b])) : ¬ own S ad T := by
  rintro ⟨d, hd, rfl⟩
  have e := A.at_ d hd
  rw [h] at e
  have e := Option.some.inj e
  cases d <;> cases e
theorem nums_step {C : Cs} {H H' : Hp} {S S' : Sys} {ad dx ad' : Cell → Addr} (A : At C H S ad dx) (st : Step H S ad H' S' ad') {vs : List V} {rs : List (Nat × Bool)} (p : Paired (NumAt H) vs rs) : Paired (NumAt H') vs rs := by
  induction p with
  | nil => exact .nil
  | cons r _ ih =>
    obtain ⟨T, h1, h2⟩ := r
    exact .cons ⟨T, h1, st.keep _ _ (A.notNs h2) h2⟩ ih
theorem own_step {H H' : Hp} {S S' : Sys} {ad ad' : Cell → Addr} (st : Step H S ad H' S' ad') {r : Addr} {o : HO} (h : H r = some o) (n : ¬ own S ad r) : ¬ own S' ad' r := fun z => by
  rcases st.new r z with y | y
  · exact n y
  · rw [h] at y
    cases y
/-- the system's methods that the law calls -/
structure Ms (P : Program) (w : World) (K : PySem.W.Frag) (mg : Str → Option Value) (base : Heap) (C : Cs) (D : Es) : Prop where
  T : ClsF K C.S sysF
  nWR : C.W ≠ C.R
  nso : ∃ f fd, FnOk P w K mg base (L2.CX P w) 6 f fd ["self", "process"] (spNewSourceX C D) ∧ Meth K C.S "new_source" f ∧ Binds K fd ["self", "process"] []
  nse : ∃ f fd, FnOk P w K mg base (L2.CX P w) 6 f fd ["self", "process"] (spNewSetX C D) ∧ Meth K C.S "new_set" f ∧ Binds K fd ["self", "process"] []
  add : ∃ f fd ds, FnOk P w K mg base (L2.CX P w) 6 f fd ["self", "process", "set_number", "number", "label", "word"] (spAddX C D) ∧ Meth K C.S "add" f ∧ Binds K fd ["self", "process", "set_number", "number", "label", "word"] ds ∧ Vals [.str "level"] ds
  cpy : ∃ f fd ds, FnOk P w K mg base (L2.CX P w) 5 f fd ["self", "process", "number", "to"] (spCopyX C D) ∧ Meth K C.S "copy" f ∧ Binds K fd ["self", "process", "number", "to"] ds ∧ Vals [.non] ds
  clo : ∃ f fd, FnOk P w K mg base (L2.CX P w) 5 f fd ["self", "process", "number"] (spCloseX C D) ∧ Meth K C.S "close" f ∧ Binds K fd ["self", "process", "number"] []
  frk : ∃ f fd, FnOk P w K mg base (L2.CX P w) 4 f fd ["self", "process"] (spForkX C D) ∧ Meth K C.S "fork" f ∧ Binds K fd ["self", "process"] []
  num : ∃ f fd, FnOk P w K mg base (L2.CX P w) 4 f fd ["self", "process"] (spNumbersX C D) ∧ Meth K C.S "numbers" f ∧ Binds K fd ["self", "process"] []
  arr : ∃ f fd ds, FnOk P w K mg base (L2.CX P w) 6 f fd ["self", "process", "number", "many"] (spArriveX C D) ∧ Meth K C.S "arrive" f ∧ Binds K fd ["self", "process", "number", "many"] ds ∧ Vals [.int 1] ds
  red : ∃ f fd ds, FnOk P w K mg base (L2.CX P w) 6 f fd ["self", "process", "number", "many"] (spReadX C D) ∧ Meth K C.S "read" f ∧ Binds K fd ["self", "process", "number", "many"] ds ∧ Vals [.non] ds
  wai : ∃ f fd, FnOk P w K mg base (L2.CX P w) 6 f fd ["self", "process", "set_number", "most"] (spWaitX C D) ∧ Meth K C.S "wait" f ∧ Binds K fd ["self", "process", "set_number", "most"] []
  reg : ∃ f fd, MO P w K mg base 3 C.S "registrations" ["self"] (spRegistrations C) f fd
  len : ∃ f fd, FnOk P w K mg base CX0 1 f fd ["self"] (spLen C) ∧ Meth K C.S "__len__" f ∧ Binds K fd ["self"] []
section
variable {P : Program} {w : World} {K : PySem.W.Frag} {mg : Str → Option Value} {base : Heap} {C : Cs} {D : Es}
def spRound (C : Cs) : Sp := fun vs H Q _ => ∃ (Hb : Hp) (x p Dd : Addr) (al : Int → Addr) (hd : List Ent) (S : Sys) (ad dx : Cell → Addr) (turn : Int), vs = [.ref p, .ref x, .int turn, .ref Dd] ∧ Mid C Hb x p Dd al hd S ad dx H ∧ Sx S turn ∧ Dk S hd ∧ (S.tab 0)[1]? = some none ∧ 0 ≤ turn ∧ turn ≤ 100 ∧
  ∀ H' al' hd' S' ad' dx', Mid C Hb x p Dd al' hd' S' ad' dx' H' → Rd S' (turn + 1) hd' → Q (.bl true) H'
abbrev scMore : PySem.Scope := { kind := .function, names := [(".0", .local), ("_law_p", .local), ("_law_n", .local), ("_law_box", .cell), ("_law_child", .cell)], isGenerator := false, isCoroutine := false }
abbrev nRound : List Str := ["_law_bag_here", "_law_box", "_law_label", "_law_held", "_law_way", "_law_child", "_law_n", "_law_kind", "_law_other", "_law_more", "_law_p", "_law_m"]
abbrev pRound : List Str := ["_law_bag_here", "_law_box", "_law_label", "_law_held"]
theorem scRound : FnScope nRound pRound (defScope sRound) := ⟨rfl, rfl, rfl, by decide +kernel, rfl, by decide +kernel, by decide +kernel⟩
theorem okRound {f fT fU : Addr} {fd fdT fdU : FuncData} (F : Fun K "_law_round" "_law_round" sRound f fd) (X : LawTx mg) (M : Ms P w K mg base C D)
    (GT : DO P w K mg base 1 "_law_take" ["_law_bag_here", "_law_many"] spTake fT fdT) (GU : DO P w K mg base 7 "_law_unreached" ["_law_box", "_law_n"] (spUnreached C) fU fdU) :
    FnOk P w K mg base CX0 8 f fd pRound (spRound C) := by
  obtain ⟨fNs, fdNs, gNs, mNs, bNs⟩ := M.nso
  obtain ⟨fAd, fdAd, dsAd, gAd, mAd, bAd, dAd⟩ := M.add
  obtain ⟨fCp, fdCp, dsCp, gCp, mCp, bCp, dCp⟩ := M.cpy
  obtain ⟨fCl, fdCl, gCl, mCl, bCl⟩ := M.clo
  obtain ⟨fFk, fdFk, gFk, mFk, bFk⟩ := M.frk
  obtain ⟨fNu, fdNu, gNu, mNu, bNu⟩ := M.num
  obtain ⟨fLe, fdLe, gLe, mLe, bLe⟩ := M.len
  have T := M.T
  refine F.ok scRound (fun vs H Q E h => ?_) (fun cdv A outer s H vs Q E hr h => ?_)
  · obtain ⟨_, _, _, _, _, _, _, _, _, _, rfl, _⟩ := h
    rfl
  · obtain ⟨Hb, x, p, Dd, al, hd, S, ad, dx, turn, rfl, W0, X0, D0, f1, t0, t1, k⟩ := h
    have hu := hr.units
    have hu1 := hu_of hr
    have r1 : Room 1 _ := hr.mono (by decide)
    have r2 : Room 2 _ := hr.mono (by decide)
    have r4 : Room 4 _ := hr.mono (by decide)
    have r5 : Room 5 _ := hr.mono (by decide)
    have r6 : Room 6 _ := hr.mono (by decide)
    refine ⟨_, pss_cut (ps_if (PW.pt (pw_or (pt_cmpR op_ne (pe_meth (pv 1) T.cl mNs gNs r6 bNs .nil passN (pa_cons pe_int pa_nil)) pe_int (nomark _)) (pw_or1 (pt_not (pt_val (pe_call GU.g hr (by rfl) GU.m GU.k GU.b .nil pass0 (pa_cons (pv 1) (pa_cons pe_int pa_nil)))))))) (pss_one (ps_ret pe_bl)) pss_nil)
      (pss_cut (ps_expr (pe_meth (pv 1) T.cl mAd gAd r6 bAd dAd passN (pa_cons pe_int (pa_cons pe_int (pa_cons pe_int (pa_cons (pv 2) pa_nil))))))
      (pss_cut (ps_set (i := 4) scRound.nd rfl (Or.inl rfl) (pe_call GT.g r1 (by rfl) GT.m GT.k GT.b .nil pass0 (pa_cons (pv 0) (pa_cons pe_int pa_nil))))
      (pss_cut (ps_if (PW.pt (pw_and (pt_cmpR op_eq (pv 4) pe_int (nomark _)) (pw_and1 (pt_cmpR op_lt (pe_callB cLenQ (by rfl) X.len PySem.boot_len (pa_cons (pe_meth (pv 1) T.cl mNu gNu r4 bNu .nil passN (pa_cons pe_int pa_nil)) pa_nil)) pe_int (nomark _)))))
        (pss_one (ps_dput hu1 (pv 3) (pv 2) (pe_lst (pa_cons (pe_tup (pa_cons pe_int (pa_cons (pe_meth (pv 1) T.cl mCp gCp r5 bCp dCp passN (pa_cons pe_int (pa_cons pe_int pa_nil))) pa_nil))) pa_nil)) rfl))
        (pss_one (ps_if (PW.pt (pw_and (pt_cmpR op_eq (pv 4) pe_int (nomark _)) (pw_and1 (pt_cmpR op_lt (pe_callB (call_lenOwn gLe r2 mLe.at_ mLe.fn bLe pass0) (by rfl) X.len PySem.boot_len (pa_cons (pv 1) pa_nil)) pe_int (nomark _)))))
          (pss_cut (ps_set (i := 5) scRound.nd rfl (Or.inr rfl) (pe_meth (pv 1) T.cl mFk gFk r4 bFk .nil passN (pa_cons pe_int pa_nil)))
          (pss_cut (ps_for PassesOwn.never rfl (pi_list (pe_meth (pv 1) T.cl mNu gNu r4 bNu .nil passN (pa_cons (pv 5) pa_nil))) (pg_tup rfl (pgs_cons (pg_name (i := 6) scRound.nd rfl (Or.inl rfl)) (pgs_cons (pg_name (i := 7) scRound.nd rfl (Or.inl rfl)) pgs_nil)))
            (pss_one (ps_if (PW.pt (pw_and (pt_cmpR op_gt (pv 6) pe_int (nomark _)) (pw_and1 (pt_cmpR op_eq (pe_call GT.g r1 (by rfl) GT.m GT.k GT.b .nil pass0 (pa_cons (pv 0) (pa_cons pe_int pa_nil))) pe_int (nomark _))))) (pss_one (ps_expr (pe_meth (pv 1) T.cl mCl gCl r5 bCl .nil passN (pa_cons (pv 5) (pa_cons (pv 6) pa_nil))))) pss_nil)))
          (pss_cut (ps_for PassesOwn.never rfl (pi_list (pe_callTy (call_list_dK rfl) (by rfl) X.list (by decide +kernel) (pa_cons (pv 3) pa_nil))) (pg_name (i := 8) scRound.nd rfl (Or.inl rfl))
            (pss_cut (ps_setLc (i := 9) (own := [("_law_p", 10), ("_law_n", 6)]) (g := gTup K 2 (gCons (gName 10) (gCons (gName 6) gNil)))
                (tt := tAnd (tTest (tOp rEq (tVar 10) (tC (.int 0)))) (tTest (tOp (rIn K false) (tVar 6) (tLc (iList K (tMeth C.S "numbers" (spNumbersX C D) [] EF (tVar 1) (tCons (tVar 5) tNil))) (gTup K 2 (gCons (gName 11) (gCons (gName 7) gNil))) tYes (tVar 11) [11, 7])))) (te := tTup (tCons (tVar 5) (tCons (tVar 6) tNil))) rfl scRound.nd rfl rfl (sw_true rfl rfl rfl (by decide +kernel)) (pi_list (pe_dget hu1 (pv 3) (pv 8) (fun _ _ => rfl))) (blkOk_by (N := nRound) (sc := defScope sRound) (by decide +kernel))
                (fun _ _ _ _ _ => pg_tup rfl (pgs_cons (pg_name (i := 10) scRound.nd rfl (Or.inl rfl)) (pgs_cons (pg_name (i := 6) scRound.nd rfl (Or.inl rfl)) pgs_nil)))
                (fun _ _ _ _ _ => pts_one (PW.pt (pw_and (pt_cmpR op_eq (pv 10) pe_int (nomark _)) (pw_and1 (pt_cmpR op_in_seq (pv 6) (pe_lc (own := [("_law_m", 11), ("_law_kind", 7)]) (g := gTup K 2 (gCons (gName 11) (gCons (gName 7) gNil))) (tt := tYes) (te := tVar 11) rfl scRound.nd (pi_list (pe_meth (pv 1) T.cl mNu gNu r4 bNu .nil passN (pa_cons (pv 5) pa_nil))) (blkOk_by (N := nRound) (sc := scMore) (by decide +kernel)) (fun _ _ _ _ _ => pg_tup rfl (pgs_cons (pg_name (i := 11) scRound.nd rfl (Or.inl rfl)) (pgs_cons (pg_name (i := 7) scRound.nd rfl (Or.inl rfl)) pgs_nil))) (fun _ _ _ _ _ => pts_nil) (fun _ _ _ _ _ => pv 11)) (by rfl))))))
                (fun _ _ _ _ _ => pe_tup (pa_cons (pv 5) (pa_cons (pv 6) pa_nil))))
            (pss_one (ps_dput hu1 (pv 3) (pv 8) (pe_op op_cat (pe_dget hu1 (pv 3) (pv 8) (fun _ _ => rfl)) (pv 9)) rfl))))
          (pss_one (ps_dput hu1 (pv 3) (pv 2) (pe_lst (pa_cons (pe_tup (pa_cons (pv 5) (pa_cons pe_int pa_nil))) pa_nil)) rfl))))) pss_nil)))
      (pss_cut (ps_expr (pe_meth (pv 1) T.cl mCl gCl r5 bCl .nil passN (pa_cons pe_int (pa_cons pe_int pa_nil))))
      (pss_one (ps_ret pe_bl)))))), ?_⟩
    have X2 := X0.mk2 f1 t0 (by omega)
    have w1 := X0.w1 f1
    have fl : ∀ {H : Hp} {i : Int}, 0 ≤ i → i ≤ 1000 → Flat H (.int i) := fun h1 h2 => fl_int (by omega) (by omega)
    have nl : hd.length ≤ 384 := by
      have e := congrArg List.length D0.ks
      rw [List.length_map] at e
      have := X0.W.ents_len X0.m0
      omega
    have kl : ∀ al : Int → Addr, ∀ h : List Ent, h.map Prod.fst = hd.map Prod.fst → (entKV (h.map Prod.fst) al).length + 1 ≤ 1000 := fun al h e => by
      unfold entKV
      rw [List.length_map, e, List.length_map]
      omega
    refine ⟨fun σ' H' => ∃ ad dx, σ' = [some (.ref p), some (.ref x), some (.int turn), some (.ref Dd), none, none, none, none, none, none, none, none] ∧ Mid C Hb x p Dd al hd (newSource S 0 1) ad dx H', ?_, ?_⟩
    · walk_at "wn"
      refine ⟨_, rfl, x, dx .box, _, rfl, W0.hb, rfl, ?_⟩
      walk_at "wn"
      refine ⟨.int 0, S, ad, dx, by rw [W0.box]; rfl, W0.at_, X0.W, fl (by decide) (by decide), res_ok (freeOf_of X0.p0 (X0.ff f1)) fun H1 ad1 A1 st1 => ?_⟩
      have W1 := W0.step A1 st1
      walk_at "wn"
      refine ⟨newSource S 0 1, ad1, dx, .notreg (.int 1), by rw [W1.box]; rfl, W1.at_, w1, X0.sets, .inl rfl, X0.rem1 f1, X0.chg1 f1, fun H2 s2 => ?_⟩
      walk_at "wn"
      exact ⟨ad1, dx, rfl, W1.same s2⟩
    clear W0 ad dx
    rintro σ' H1 ⟨ad, dx, rfl, W1⟩
    refine ⟨fun σ' H' => ∃ ad dx, σ' = [some (.ref p), some (.ref x), some (.int turn), some (.ref Dd), none, none, none, none, none, none, none, none] ∧ Mid C Hb x p Dd al hd (mk2 S turn) ad dx H', ?_, ?_⟩
    · walk_at "wn"
      refine ⟨_, rfl, x, dx .box, _, rfl, W1.hb, rfl, ?_⟩
      walk_at "wn"
      refine ⟨.int 0, .int 0, .int 1, .int turn, .str "level", newSource S 0 1, ad, dx, by rw [W1.box]; rfl, W1.at_, w1, fl (by decide) (by decide), fl (by decide) (by decide), fl (by decide) (by decide), fl t0 (by omega), .str _ (by decide) (by decide +kernel), rfl, res_ok (X0.add1 f1 t0 (by omega)) fun H2 ad2 dx2 A2 st2 => ?_⟩
      walk_at "wn"
      exact ⟨ad2, dx2, rfl, W1.step A2 st2⟩
    clear W1 ad dx
    rintro σ' H2 ⟨ad, dx, rfl, W2⟩
    refine ⟨fun σ' H' => ∃ wy : Int, σ' = [some (.ref p), some (.ref x), some (.int turn), some (.ref Dd), some (.int wy), none, none, none, none, none, none, none] ∧ Mid C Hb x p Dd al hd (mk2 S turn) ad dx H', ?_, ?_⟩
    · walk_at "wn"
      refine ⟨p, 3, rfl, W2.bag, by decide, by decide, fun wy H3 w0 w3 e3 b3 => ?_⟩
      walk_at "wn"
      exact ⟨wy, rfl, W2.draw e3 b3⟩
    clear W2
    rintro σ' H3 ⟨wy, rfl, W3⟩
    have h2 : Hold (mk2 S turn) S.next 0 1 := (hold2 X0 f1).mpr (.inr ⟨rfl, rfl, rfl⟩)
    refine ⟨fun σ' H' => ∃ u5 u6 u7 u8 u9 u10 u11 al' hd' S4 ad dx, σ' = [some (.ref p), some (.ref x), some (.int turn), some (.ref Dd), some (.int wy), u5, u6, u7, u8, u9, u10, u11] ∧ Mid C Hb x p Dd al' hd' S4 ad dx H' ∧ Sx S4 (turn + 1) ∧ Hold S4 S.next 0 1 ∧ Rd (closed S4 0 1 S.next) (turn + 1) hd', ?_, ?_⟩
    · have none_ : ∀ {H'}, Mid C Hb x p Dd al hd (mk2 S turn) ad dx H' → ∃ (u5 u6 u7 u8 u9 u10 u11 : Option V) (al' : Int → Addr) (hd' : List Ent) (S4 : Sys) (ad dx : Cell → Addr), [some (V.ref p), some (.ref x), some (.int turn), some (.ref Dd), some (.int wy), none, none, none, none, none, none, none] = [some (.ref p), some (.ref x), some (.int turn), some (.ref Dd), some (.int wy), u5, u6, u7, u8, u9, u10, u11] ∧ Mid C Hb x p Dd al' hd' S4 ad dx H' ∧ Sx S4 (turn + 1) ∧ Hold S4 S.next 0 1 ∧ Rd (closed S4 0 1 S.next) (turn + 1) hd' :=
        fun W => ⟨_, _, _, _, _, _, _, al, hd, _, ad, dx, rfl, W, X2, h2, Rd.none_ X0 D0 f1 t0 (by omega)⟩
      walk_at "wn"
      by_cases hw : wy = 0
      · rw [decide_eq_true (show V.int wy = V.int 0 by rw [hw])]
        refine iteT ?_
        refine ⟨_, rfl, x, dx .box, _, rfl, W3.hb, rfl, ?_⟩
        walk_at "wn"
        refine ⟨.int 0, mk2 S turn, ad, dx, by rw [W3.box]; rfl, W3.at_, X2.W, fl (by decide) (by decide), res_ok (tabOf_of X2.p0) fun H4 r rs nr s4 hr4 pr4 => ?_⟩
        have W4 := W3.same s4
        walk_at "wn"
        have e8 : ((mk2 S turn).tab 0).length = 8 := by rw [X2.W.tl 0 X2.p0, X2.N]; rfl
        by_cases hl : rs.length < 8
        · rw [decide_eq_true (show ((rs.length : Nat) : Int) < 8 by omega)]
          refine iteT ?_
          rw [paired_len pr4] at hl
          obtain ⟨k1, hk1, hk2⟩ := first_of_nums (S := mk2 S turn) (l := (mk2 S turn).tab 0) (by omega)
          have hcop : Hold (copied (mk2 S turn) 0 k1 S.next) S.next 0 1 := (hold_put (S := mk2 S turn) (S' := copied (mk2 S turn) 0 k1 S.next) (t := S.next) rfl rfl X2.p0 hk2).mpr (.inl h2)
          have Xc := X2.copy h2 (by decide) hk2
          have Rc := Rd.copy X0 D0 f1 t0 (by omega) hk2
          walk_at "wn"
          refine ⟨_, rfl, x, dx .box, _, rfl, W4.hb, rfl, ?_⟩
          walk_at "wn"
          refine ⟨.int 0, .int 1, .non, mk2 S turn, ad, dx, by rw [W4.box]; rfl, W4.at_, X2.W, fl (by decide) (by decide), fl (by decide) (by decide), .non, res_ok (copyM_of (h2.means X2.W) hk1) fun H5 ad5 A5 st5 => ?_⟩
          have W5 := W4.step A5 st5
          rw [show pasted (mk2 S turn) (toI (.int 0)) (k1, S.next).1 (k1, S.next).2 = copied (mk2 S turn) 0 k1 S.next from pasted_free hk2] at W5
          walk_at "wn"
          refine ⟨by show 2 ≤ sizeLine; decide, fun T1 hT1 => ?_⟩
          walk_at "wn"
          refine ⟨by show 1 ≤ sizeLine; decide, fun L hL => ?_⟩
          have s6 := Same.new' (o := .tup [V.int 0, V.int ((k1 : Nat) : Int)]) hT1
          have s7 := Same.new' (o := .lst [V.ref T1]) hL
          have W6 := W5.same s6
          walk_at "wn"
          refine ⟨Dd, _, rfl, DPut.k (k := Sum.inl turn) (s7 _ _ W6.dict) (by have := kl al hd rfl; rw [sizeLine_eq]; omega), ?_⟩
          have Wp := W6.put (l := turn) (hs := [(0, ((k1 : Nat) : Int))]) (hd' := hd ++ [(turn, [(0, ((k1 : Nat) : Int))])]) hL upd_same s7 (.cons ⟨T1, rfl, s7 _ _ upd_same⟩ .nil) upd_same (fun q u n e => (upd_ne n).trans e) (by rw [List.map_append, if_neg (by rw [D0.ks]; exact X0.fresh)]; rfl) (fun e he => ?_)
          · walk_at "wn"
            exact ⟨_, _, _, _, _, _, _, _, _, _, _, _, rfl, Wp, Xc, hcop, Rc⟩
          · rcases List.mem_append.mp he with z | z
            · exact .inr ⟨X0.ne (D0.ent z), z⟩
            · rw [List.mem_singleton.mp z]
              exact .inl ⟨rfl, rfl⟩
        · rw [decide_eq_false (show ¬ ((rs.length : Nat) : Int) < 8 by omega)]
          refine iteF ?_
          walk_at "wn"
          rw [decide_eq_false (show ¬ V.int wy = V.int 1 by rw [hw]; decide)]
          refine iteF ?_
          refine iteF ?_
          walk_at "wn"
          exact none_ W4
      rw [decide_eq_false (show ¬ V.int wy = V.int 0 from fun z => hw (V.int.inj z))]
      refine iteF ?_
      refine iteF ?_
      walk_at "wn"
      by_cases hv : wy = 1
      · rw [decide_eq_true (show V.int wy = V.int 1 by rw [hv])]
        refine iteT ?_
        walk_at "wn"
        have pl := X2.W.pl
        refine ⟨x, dx .box, _, rfl, W3.hb, ?_⟩
        refine ⟨mk2 S turn, ad, dx, by rw [W3.box], W3.at_, (mk2 S turn).procs.length, rfl, by omega, ?_⟩
        walk_at "wn"
        by_cases hl : (mk2 S turn).procs.length < 6
        case neg =>
          rw [decide_eq_false (show ¬ (((mk2 S turn).procs.length : Nat) : Int) < 6 by omega)]
          refine iteF ?_
          walk_at "wn"
          exact none_ W3
        rw [decide_eq_true (show (((mk2 S turn).procs.length : Nat) : Int) < 6 by omega)]
        refine iteT ?_
        obtain ⟨c, hc1, hc2⟩ := X2.room hl
        have X3 := X2.fork hc2
        refine ⟨fun σ' H' => ∃ ad, σ' = [some (.ref p), some (.ref x), some (.int turn), some (.ref Dd), some (.int wy), some (.int (c : Int)), none, none, none, none, none, none] ∧ Mid C Hb x p Dd al hd (forked (mk2 S turn) 0 c) ad dx H', ?_, ?_⟩
        · walk_at "wn"
          refine ⟨_, rfl, x, dx .box, _, rfl, W3.hb, rfl, ?_⟩
          walk_at "wn"
          refine ⟨.int 0, mk2 S turn, ad, dx, by rw [W3.box]; rfl, W3.at_, X2.W, fl (by decide) (by decide), res_ok hc1 fun H4 ad4 A4 st4 => ?_⟩
          walk_at "wn"
          exact ⟨ad4, rfl, W3.step A4 st4⟩
        clear W3 none_ ad
        rintro σ' H4 ⟨ad, rfl, W4⟩
        have hcs : (c : Int) ∉ (mk2 S turn).procs := hc2.no
        have c0 : (c : Int) ≠ 0 := fun z => hcs (by rw [z]; exact X2.p0)
        have cp : (c : Int) ∈ (forked (mk2 S turn) 0 c).procs := List.mem_append_right _ (List.mem_singleton_self _)
        refine ⟨fun σ' H' => ∃ u6 u7 Ds S4 ad dx, σ' = [some (.ref p), some (.ref x), some (.int turn), some (.ref Dd), some (.int wy), some (.int (c : Int)), u6, u7, none, none, none, none] ∧ Mid C Hb x p Dd al hd S4 ad dx H' ∧ Cl (forked (mk2 S turn) 0 c) S4 (turn + 1) (c : Int) Ds ∧ (∀ n ∈ Ds, 1 < n), ?_, ?_⟩
        · walk_at "wn"
          refine ⟨_, rfl, x, dx .box, _, rfl, W4.hb, rfl, ?_⟩
          walk_at "wn"
          refine ⟨.int (c : Int), forked (mk2 S turn) 0 c, ad, dx, by rw [W4.box]; rfl, W4.at_, X3.W, fl (by omega) (by have := hc2.hi; rw [X2.P] at this; omega), res_ok (tabOf_of cp) fun H5 r rs nr s5 hr5 pr5 => ?_⟩
          have W5 := W4.same s5
          have rp : r ≠ p := fun z => by
            obtain ⟨xs, e⟩ := W4.bag.lst
            rw [← z, nr] at e
            cases e
          have hle := paired_len pr5
          generalize en : numsOf (forked (mk2 S turn) 0 c) 0 ((forked (mk2 S turn) 0 c).tab (c : Int)) = ns at pr5 hle
          refine ⟨r, rfl, ⟨_, SqL.of hr5⟩, ?_⟩
          refine for_list (K := K) (a := r) (xs := rs) (fun i σ' H' => ∃ u6 u7 Ds S4 ad dx, σ' = [some (.ref p), some (.ref x), some (.int turn), some (.ref Dd), some (.int wy), some (.int (c : Int)), u6, u7, none, none, none, none] ∧ Mid C Hb x p Dd al hd S4 ad dx H' ∧ Cl (forked (mk2 S turn) 0 c) S4 (turn + 1) (c : Int) Ds ∧ (∀ n ∈ Ds, 1 < n ∧ ∃ (j : Nat) (q : Nat × Bool), j < i ∧ ns[j]? = some q ∧ n = (q.1 : Int)) ∧
              H' r = some (.lst rs) ∧ ¬ own S4 ad r ∧ Paired (NumAt H') rs ns) ⟨_, _, [], _, ad, dx, rfl, W5, Cl.start X3, fun n h => absurd h List.not_mem_nil, hr5, W5.at_.not_own_same s5 nr W4.at_, pr5⟩ (fun i σ' H' _ h => by obtain ⟨_, _, _, _, _, _, _, _, _, _, h, _⟩ := h; exact SqL.of h) ?_ ?_
          · rintro i v σ' H' hv ⟨u6, u7, Ds, S4, ad4, dx4, rfl, W, L, hD, hr', no, pr⟩
            obtain ⟨q, hq, T1, rfl, hT⟩ := paired_at pr hv
            have hm : (q.1 : Int) ∈ openN (forked (mk2 S turn) 0 c) (c : Int) := by
              unfold openN
              rw [en]
              exact List.mem_map.mpr ⟨q, List.mem_of_getElem? hq, rfl⟩
            obtain ⟨u, hu3⟩ := (mem_open cp).mp hm
            have h0 : Hold (forked (mk2 S turn) 0 c) u 0 (q.1 : Int) := by
              rcases (hold_fork X2.p0 hcs).mp hu3 with z | z
              · exact absurd z.1 hcs
              · exact (hold_fork X2.p0 hcs).mpr (.inl z.2)
            have hn : (q.1 : Int) ∉ Ds := fun z => by
              obtain ⟨_, j, q2, hj, e1, e2⟩ := hD _ z
              have nd := nums_nodup (S := forked (mk2 S turn) 0 c) (l := (forked (mk2 S turn) 0 c).tab (c : Int)) (k := 0)
              rw [en] at nd
              have := nodup_idx nd (i := i) (j := j) (a := (q.1 : Int)) (by rw [List.getElem?_map, hq]; rfl) (by rw [List.getElem?_map, e1]; show some (q2.1 : Int) = some (q.1 : Int); rw [← e2])
              omega
            have more : ∀ n ∈ Ds, 1 < n ∧ ∃ (j : Nat) (q : Nat × Bool), j < i + 1 ∧ ns[j]? = some q ∧ n = (q.1 : Int) := fun n hn => by
              obtain ⟨a, j, q2, b, e⟩ := hD n hn
              exact ⟨a, j, q2, by omega, e⟩
            walk_at "wn"
            refine ⟨T1, _, rfl, SqT.of hT, rfl, _, _, rfl, ?_⟩
            walk_at "wn"
            refine ⟨_, _, rfl, ?_⟩
            walk_at "wn"
            refine ⟨rfl, ?_⟩
            walk_at "wn"
            by_cases h1 : (1 : Int) < (q.1 : Int)
            case neg =>
              rw [decide_eq_false h1]
              refine iteF ?_
              refine iteF ?_
              walk_at "wn"
              exact ⟨_, _, Ds, S4, ad4, dx4, rfl, W, L, more, hr', no, pr⟩
            rw [decide_eq_true h1]
            refine iteT ?_
            walk_at "wn"
            refine ⟨p, 2, rfl, W.bag, by decide, by decide, fun z H7 z0 z1 e7 b7 => ?_⟩
            have W7 := W.draw e7 b7
            have hr7 := (e7 r rp).trans hr'
            have pr7 : Paired (NumAt H7) rs ns := numAts_keep pr fun b x y e => (e7 b fun z => by
              obtain ⟨xs, e0⟩ := W.bag.lst
              rw [z, e0] at e
              cases e).trans e
            walk_at "wn"
            by_cases hz : z = 0
            case neg =>
              rw [decide_eq_false (show ¬ V.int z = V.int 0 from fun y => hz (V.int.inj y))]
              refine iteF ?_
              walk_at "wn"
              exact ⟨_, _, Ds, S4, ad4, dx4, rfl, W7, L, more, hr7, no, pr7⟩
            rw [decide_eq_true (show V.int z = V.int 0 by rw [hz])]
            refine iteT ?_
            obtain ⟨h4, L5⟩ := L.close c0 hu3 h0 h1 hn
            have qN := h4.idx L.X.W
            rw [L.X.N] at qN
            walk_at "wn"
            refine ⟨_, rfl, x, dx4 .box, _, rfl, W7.hb, rfl, ?_⟩
            walk_at "wn"
            refine ⟨.int (c : Int), .int (q.1 : Int), S4, ad4, dx4, by rw [W7.box]; rfl, W7.at_, L.X.W, fl (by omega) (by have := hc2.hi; rw [X2.P] at this; omega), fl (by omega) (by omega), res_ok (thing_of (h4.means L.X.W)) fun H8 ad8 A8 st8 => ?_⟩
            walk_at "wn"
            refine ⟨_, _, (q.1 : Int) :: Ds, _, ad8, dx4, rfl, W7.step A8 st8, L5, fun n hn => ?_, st8.keep _ _ no hr7, own_step st8 hr7 no, nums_step W7.at_ st8 pr7⟩
            rcases List.mem_cons.mp hn with y | y
            · rw [y]
              exact ⟨h1, i, q, by omega, hq, rfl⟩
            · exact more n y
          · rintro σ' H' ⟨u6, u7, Ds, S4, ad, dx, rfl, W, L, hD, _⟩
            exact ⟨u6, u7, Ds, S4, ad, dx, rfl, W, L, fun n hn => (hD n hn).1⟩
        clear W4 ad dx
        rintro σ' H5 ⟨u6, u7, Ds, S4, ad, dx, rfl, W5, L, hD⟩
        have cp4 : (c : Int) ∈ S4.procs := by rw [L.procs]; exact cp
        refine ⟨fun σ' H' => ∃ u6 u7 u8 u9 u10 u11 al', σ' = [some (.ref p), some (.ref x), some (.int turn), some (.ref Dd), some (.int wy), some (.int (c : Int)), u6, u7, u8, u9, u10, u11] ∧ Mid C Hb x p Dd al' (hd.map (widen c (openN S4 c))) S4 ad dx H', ?_, ?_⟩
        · walk_at "wn"
          refine ⟨_, rfl, Dd, _, rfl, W5.dict, fun Lk hLk => ?_⟩
          have ek : (entKV (hd.map Prod.fst) al).map (fun kv => kV kv.1) = (hd.map Prod.fst).map V.int := by
            unfold entKV
            rw [List.map_map]
            rfl
          rw [ek]
          have W6 := W5.same (Same.new' (o := .lst ((hd.map Prod.fst).map V.int)) hLk)
          have LD : Lk ≠ Dd := fun z => by
            have := W5.dict
            rw [← z, hLk] at this
            cases this
          have hk6 : upd H5 Lk (.lst ((hd.map Prod.fst).map V.int)) Lk = some (.lst ((hd.map Prod.fst).map V.int)) := upd_same
          generalize upd H5 Lk (.lst ((hd.map Prod.fst).map V.int)) = H6 at W6 hk6
          refine ⟨Lk, rfl, ⟨_, SqL.of hk6⟩, ?_⟩
          refine for_list (K := K) (a := Lk) (xs := (hd.map Prod.fst).map V.int) (fun i σ' H' => ∃ u6 u7 u8 u9 u10 u11 al', σ' = [some (.ref p), some (.ref x), some (.int turn), some (.ref Dd), some (.int wy), some (.int (c : Int)), u6, u7, u8, u9, u10, u11] ∧ Mid C Hb x p Dd al' (hdI c (openN S4 c) hd i) S4 ad dx H' ∧ H' Lk = some (.lst ((hd.map Prod.fst).map V.int))) ⟨_, _, _, _, _, _, al, rfl, W6, hk6⟩ (fun i σ' H' _ h => by obtain ⟨_, _, _, _, _, _, _, _, _, h⟩ := h; exact SqL.of h) ?_ ?_
          · rintro i v σ' H7 hv ⟨u6, u7, u8, u9, u10, u11, al7, rfl, W7, hk7⟩
            obtain ⟨e, he, rfl⟩ : ∃ e, hd[i]? = some e ∧ v = .int e.1 := by
              rw [List.getElem?_map, List.getElem?_map] at hv
              cases h : hd[i]? with
              | none => rw [h] at hv; cases hv
              | some e =>
                rw [h] at hv
                exact ⟨e, rfl, (Option.some.inj hv).symm⟩
            have hm := hdI_at (c := (c : Int)) (ns := openN S4 c) he
            have hm0 := List.mem_of_getElem? he
            have el := D0.len X0.W hm0
            have ml := more_len (c := (c : Int)) (ns := openN S4 c) (hs := e.2)
            obtain ⟨vs, hl7, pr7⟩ := W7.lst hm
            walk_at "wn"
            refine ⟨fun σ' H' => ∃ u6 u7 u10 u11 M ws, σ' = [some (.ref p), some (.ref x), some (.int turn), some (.ref Dd), some (.int wy), some (.int (c : Int)), u6, u7, some (.int e.1), some (.ref M), u10, u11] ∧ Same H7 H' ∧ H' M = some (.lst ws) ∧ Paired (PrAt H') ws (moreOf c (openN S4 c) e.2), ?_, ?_⟩
            · walk_at "wn"
              unfold tLc iList
              walk_at "wn"
              refine ⟨_, rfl, _, rfl, Dd, _, rfl, W7.get hm, ?_⟩
              refine ⟨al7 e.1, rfl, ⟨_, SqL.of hl7⟩, fun M hM => ?_⟩
              refine lc_list (K := K) (a := al7 e.1) (xs := vs) (fun j H' => ∃ ws, Same H7 H' ∧ H' M = some (.lst ws) ∧ Paired (PrAt H') ws (moreOf c (openN S4 c) (e.2.take j))) ⟨[], Same.new' hM, upd_same, .nil⟩ (fun j H' _ ⟨_, sm, _⟩ => SqL.of (sm _ _ hl7)) ?_ ?_
              · rintro j v H8 hv2 ⟨ws, sm, hM8, prw⟩
                obtain ⟨q, hq, T1, rfl, hT7⟩ := paired_at pr7 hv2
                have hT8 := sm _ _ hT7
                have wl := paired_len prw
                have ml2 := more_len (c := (c : Int)) (ns := openN S4 c) (hs := e.2.take j)
                have tk : (e.2.take j).length ≤ e.2.length := List.length_take_le' _ _
                have et : moreOf c (openN S4 c) (e.2.take (j + 1)) = moreOf c (openN S4 c) (e.2.take j) ++ if decide (q.1 = 0) && decide (q.2 ∈ openN S4 c) then [((c : Int), q.2)] else [] := by
                  rw [List.take_add_one, hq, Option.toList_some, more_app]
                  congr 1
                  unfold moreOf
                  rw [List.filter_cons, List.filter_nil]
                  split <;> rfl
                rw [et]
                walk_at "wn"
                refine ⟨T1, _, rfl, SqT.of hT8, rfl, _, _, rfl, ?_⟩
                walk_at "wn"
                refine ⟨_, _, rfl, ?_⟩
                walk_at "wn"
                refine ⟨rfl, rfl, ?_⟩
                walk_at "wn"
                by_cases q0 : q.1 = 0
                case neg =>
                  have e0 : (if decide (q.1 = 0) && decide (q.2 ∈ openN S4 c) then [((c : Int), q.2)] else []) = ([] : List Pr) := by
                    rw [decide_eq_false q0]
                    rfl
                  rw [decide_eq_false (show ¬ V.int q.1 = V.int 0 from fun z => q0 (V.int.inj z)), e0, List.append_nil]
                  refine iteF ?_
                  refine iteF ?_
                  exact ⟨ws, sm, hM8, prw⟩
                rw [decide_eq_true (show V.int q.1 = V.int 0 by rw [q0])]
                refine iteT ?_
                have W8 := W7.same sm
                refine ⟨_, rfl, ?_⟩
                refine ⟨_, rfl, x, dx .box, _, rfl, W8.hb, rfl, ?_⟩
                refine ⟨_, rfl, ?_⟩
                refine ⟨.int (c : Int), S4, ad, dx, by rw [W8.box]; rfl, W8.at_, L.X.W, fl (by omega) (by have := hc2.hi; rw [X2.P] at this; omega), res_ok (tabOf_of cp4) fun H9 r2 rs2 nr2 s9 hr9 pr9 => ?_⟩
                refine ⟨r2, rfl, ⟨_, SqL.of hr9⟩, fun M2 hM2 => ?_⟩
                have t8 := L.X.W.t8 cp4
                have nl8 := nums_len S4 (S4.tab (c : Int)) 0
                refine lc_list (K := K) (a := r2) (xs := rs2) (fun j2 H' => Same H9 H' ∧ H' M2 = some (.lst (((numsOf S4 0 (S4.tab (c : Int))).take j2).map fun r => V.int (r.1 : Int)))) ⟨Same.new' hM2, upd_same⟩ (fun j2 H' _ h => SqL.of (h.1 _ _ hr9)) ?_ ?_
                · rintro j2 v2 H10 hv3 ⟨sm2, hd2⟩
                  obtain ⟨q2, hq2, T2, rfl, hT2⟩ := paired_at pr9 hv3
                  have hT10 := sm2 _ _ hT2
                  walk_at "wn"
                  refine ⟨T2, _, rfl, SqT.of hT10, rfl, _, _, rfl, ?_⟩
                  walk_at "wn"
                  refine ⟨_, _, rfl, ?_⟩
                  walk_at "wn"
                  refine ⟨rfl, rfl, ?_⟩
                  walk_at "wn"
                  refine ⟨_, hd2, ?_, ?_, ?_⟩
                  · rw [List.length_map, sizeLine_eq]
                    have := List.length_take_le' j2 (numsOf S4 0 (S4.tab (c : Int)))
                    omega
                  · intro b o e
                    rw [upd_ne (ne_of_none e hM2)]
                    exact sm2 _ _ e
                  · rw [upd_same, List.take_add_one, hq2, Option.toList_some, List.map_append]
                    rfl
                · rintro H10 ⟨sm2, hd2⟩
                  rw [paired_len pr9, List.take_length] at hd2
                  have ei : (numsOf S4 0 (S4.tab (c : Int))).map (fun r => V.int (r.1 : Int)) = (openN S4 c).map V.int := by
                    unfold openN
                    rw [List.map_map]
                    rfl
                  rw [ei] at hd2
                  refine ⟨M2, _, rfl, .inl (SqL.of hd2), rfl, flat_ints _, ?_⟩
                  have s10 := s9.trans sm2
                  show ∃ b, _
                  rw [inV_int]
                  refine ⟨_, rfl, ?_⟩
                  by_cases qm : q.2 ∈ openN S4 c
                  case neg =>
                    have e0 : (if decide (q.1 = 0) && decide (q.2 ∈ openN S4 c) then [((c : Int), q.2)] else []) = ([] : List Pr) := by
                      rw [decide_eq_false qm, Bool.and_false]
                      rfl
                    rw [e0, List.append_nil, decide_eq_false qm]
                    exact ⟨ws, sm.trans s10, s10 _ _ hM8, prs_keep prw fun b xs z => s10 _ _ z⟩
                  have e0 : (if decide (q.1 = 0) && decide (q.2 ∈ openN S4 c) then [((c : Int), q.2)] else []) = [((c : Int), q.2)] := by
                    rw [decide_eq_true qm, decide_eq_true q0]
                    rfl
                  rw [e0, decide_eq_true qm]
                  dsimp only [Bool.false_eq_true, if_false]
                  refine iteT ?_
                  refine ⟨_, rfl, ?_⟩
                  refine ⟨_, rfl, ?_⟩
                  refine ⟨by show 2 ≤ sizeLine; decide, fun T3 hT3 => ?_⟩
                  have s11 := Same.new' (o := .tup [V.int (c : Int), V.int q.2]) hT3
                  have s12 := s10.trans s11
                  have hM12 := s12 _ _ hM8
                  have nT : T3 ≠ M := fun z => by
                    have e := s10 _ _ hM8
                    rw [← z, hT3] at e
                    cases e
                  refine ⟨ws, hM12, by rw [sizeLine_eq]; omega, ws ++ [.ref T3], fun b o e => ?_, upd_same, paired_cat (prs_keep prw fun b xs z => ?_) (.cons ⟨T3, rfl, (upd_ne nT).trans upd_same⟩ .nil)⟩
                  · rw [upd_ne (ne_of_none e hM)]
                    exact s12 _ _ (sm _ _ e)
                  · rw [upd_ne (fun y => by rw [y, hM8] at z; cases z)]
                    exact s12 _ _ z
              · rintro H8 ⟨ws, sm, hM8, prw⟩
                rw [paired_len pr7, List.take_length] at prw
                walk_at "wn"
                exact ⟨_, _, _, _, M, ws, rfl, sm, hM8, prw⟩
            rintro σ' H8 ⟨u6, u7, u10, u11, M, ws, rfl, s8, hM8, prw⟩
            have W8 := W7.same s8
            have wl := paired_len prw
            have vl := paired_len pr7
            walk_at "wn"
            refine ⟨_, rfl, _, rfl, Dd, _, rfl, W8.get hm, _, rfl, al7 e.1, M, vs, ws, rfl, rfl, s8 _ _ hl7, hM8, by rw [sizeLine_eq]; omega, fun L1 hL => ?_⟩
            have s9 := Same.new' (o := .lst (vs ++ ws)) hL
            walk_at "wn"
            refine ⟨Dd, _, rfl, DPut.k (k := Sum.inl e.1) (s9 _ _ W8.dict) (by have := kl al7 _ (hdI_fst (c := (c : Int)) (ns := openN S4 c) (hd := hd) (i := i)); rw [sizeLine_eq]; omega), ?_⟩
            have Wp := W8.put (l := e.1) (hs := e.2 ++ moreOf c (openN S4 c) e.2) (hd' := hdI c (openN S4 c) hd (i + 1)) hL upd_same s9 (paired_cat (prs_keep pr7 fun b xs z => s9 _ _ (s8 _ _ z)) (prs_keep prw fun b xs z => s9 _ _ z)) upd_same (fun q u n e => (upd_ne n).trans e) (by rw [hdI_fst, hdI_fst, if_pos (List.mem_map.mpr ⟨e, hm0, rfl⟩)]) (hdI_next (D0.knd X0) he)
            walk_at "wn"
            refine ⟨_, _, _, _, _, _, _, rfl, Wp, ?_⟩
            rw [upd_ne LD]
            exact s9 _ _ (s8 _ _ hk7)
          · rintro σ' H' ⟨u6, u7, u8, u9, u10, u11, al', rfl, W, _⟩
            refine ⟨_, _, _, _, _, _, al', rfl, ?_⟩
            rw [List.length_map, List.length_map] at W
            unfold hdI at W
            rw [List.take_length, List.drop_length, List.append_nil] at W
            exact W
        clear W5
        rintro σ' H6 ⟨u6, u7, u8, u9, u10, u11, al6, rfl, W6⟩
        walk_at "wn"
        refine ⟨_, rfl, ?_⟩
        walk_at "wn"
        refine ⟨by show 2 ≤ sizeLine; decide, fun T1 hT1 => ?_⟩
        walk_at "wn"
        refine ⟨by show 1 ≤ sizeLine; decide, fun L1 hL => ?_⟩
        have s6 := Same.new' (o := .tup [V.int (c : Int), V.int 1]) hT1
        have s7 := Same.new' (o := .lst [V.ref T1]) hL
        have W7 := W6.same s6
        have ew : (hd.map (widen c (openN S4 c))).map Prod.fst = hd.map Prod.fst := by
          rw [List.map_map]
          exact List.map_congr_left fun e _ => rfl
        walk_at "wn"
        refine ⟨Dd, _, rfl, DPut.k (k := Sum.inl turn) (s7 _ _ W7.dict) (by have := kl al6 _ ew; rw [sizeLine_eq]; omega), ?_⟩
        have hn4 : Hold S4 S.next 0 1 := (L.h _ _ _).mpr ⟨(hold_fork X2.p0 hcs).mpr (.inl h2), fun z => c0 z.1.symm⟩
        have Wp := W7.put (l := turn) (hs := [((c : Int), 1)]) (hd' := hd.map (widen c (openN S4 c)) ++ [(turn, [((c : Int), 1)])]) hL upd_same s7 (.cons ⟨T1, rfl, s7 _ _ upd_same⟩ .nil) upd_same (fun q u n e => (upd_ne n).trans e) (by rw [List.map_append, ew, if_neg (by rw [D0.ks]; exact X0.fresh)]; rfl) (fun e he => ?_)
        · walk_at "wn"
          exact ⟨_, _, _, _, _, _, _, _, _, _, _, _, rfl, Wp, L.X, hn4, Rd.fork X0 D0 f1 t0 (by omega) hc2 L hD⟩
        · rcases List.mem_append.mp he with z | z
          · refine .inr ⟨?_, z⟩
            obtain ⟨y, hy, rfl⟩ := List.mem_map.mp z
            exact X0.ne (show y.1 ∈ S.ents 0 from D0.ent hy)
          · rw [List.mem_singleton.mp z]
            exact .inl ⟨rfl, rfl⟩
      · rw [decide_eq_false (show ¬ V.int wy = V.int 1 from fun z => hv (V.int.inj z))]
        refine iteF ?_
        refine iteF ?_
        walk_at "wn"
        exact none_ W3
    clear W3 ad dx
    rintro σ' H4 ⟨u5, u6, u7, u8, u9, u10, u11, al', hd', S4, ad, dx, rfl, W4, X4, h4, R4⟩
    refine ⟨fun σ' H' => ∃ ad, σ' = [some (.ref p), some (.ref x), some (.int turn), some (.ref Dd), some (.int wy), u5, u6, u7, u8, u9, u10, u11] ∧ Mid C Hb x p Dd al' hd' (closed S4 0 1 S.next) ad dx H', ?_, ?_⟩
    · walk_at "wn"
      refine ⟨_, rfl, x, dx .box, _, rfl, W4.hb, rfl, ?_⟩
      walk_at "wn"
      refine ⟨.int 0, .int 1, S4, ad, dx, by rw [W4.box]; rfl, W4.at_, X4.W, fl (by decide) (by decide), fl (by decide) (by decide), res_ok (thing_of (h4.means X4.W)) fun H5 ad5 A5 st5 => ?_⟩
      walk_at "wn"
      exact ⟨ad5, rfl, W4.step A5 st5⟩
    rintro σ' H5 ⟨ad5, rfl, W5⟩
    walk_at "wn"
    exact k _ _ _ _ _ _ W5 R4
end

theorem Sx.ents48 {S : Sys} {turn : Int} (X : Sx S turn) : (S.ents 0).length ≤ 48 := by
  have nd : ((S.ents 0).map fun l => (S.reg 0 l).src).Nodup := by
    have a := List.nodup_iff_pairwise_ne.mp X.nodup
    refine List.nodup_iff_pairwise_ne.mpr ?_
    rw [List.pairwise_map]
    exact List.Pairwise.imp_of_mem (fun {a b} ha hb ne z => ne (X.uniq ha hb z)) a
  have h := nodup_len nd (m := S.srcs) fun x hx => by
    obtain ⟨l, hl, rfl⟩ := List.mem_map.mp hx
    exact X.src hl
  rw [List.length_map] at h
  exact Nat.le_trans h X.W.srcs_len
theorem Dk.len48 {S : Sys} {turn : Int} {hd : List Ent} (D : Dk S hd) (X : Sx S turn) : hd.length ≤ 48 := by
  have e := congrArg List.length D.ks
  rw [List.length_map] at e
  have := X.ents48
  omega
theorem waitM_of {S : Sys} {n s k : Int} (M : Means S 0 n s) (hs : s ∈ S.sets) (k1 : 1 ≤ k) (k2 : k ≤ 1000000) : waitM S (.int 0) (.int n) (.int k) = .ok s := by
  unfold waitM
  rw [setOf_of M hs]
  dsimp only
  rw [if_pos (inB_of k1 k2)]
theorem readM_of {S : Sys} {p n t : Int} (M : Means S p n t) (ht : t ∈ S.srcs) : readM S (.int p) (.int n) .non = .ok t := by
  unfold readM
  rw [source_of M ht]
  dsimp only
  rw [if_pos (.inl rfl)]
theorem dk_keys (hd : List Ent) (al : Int → Addr) : (entKV (hd.map Prod.fst) al).map (·.1) = (hd.map Prod.fst).map Sum.inl := by
  unfold entKV
  rw [List.map_map]
  rfl
section
variable {P : Program} {w : World} {K : PySem.W.Frag} {mg : Str → Option Value} {base : Heap} {C : Cs} {D : Es}
def spLawReports (C : Cs) : Sp := fun vs H Q _ => ∃ (Hb : Hp) (x p Dd : Addr) (al : Int → Addr) (hd : List Ent) (S : Sys) (ad dx : Cell → Addr) (turn : Int), vs = [.ref x, .ref Dd] ∧ Mid C Hb x p Dd al hd S ad dx H ∧ Sx S turn ∧ Dk S hd ∧ turn ≤ 1000 ∧
  ∀ H' ad' dx', Mid C Hb x p Dd al hd S ad' dx' H' → Q (.bl true) H'
abbrev nReports : List Str := ["_law_box", "_law_held", "_law_told", "_law_label", "_law_p", "_law_n"]
theorem scReports2 : FnScope nReports ["_law_box", "_law_held"] (defScope sLawReports) := ⟨rfl, rfl, rfl, by decide +kernel, rfl, by decide +kernel, by decide +kernel⟩
theorem okLawReports {f : Addr} {fd : FuncData} (F : Fun K "_law_reports" "_law_reports" sLawReports f fd) (X : LawTx mg) (M : Ms P w K mg base C D) : FnOk P w K mg base CX0 8 f fd ["_law_box", "_law_held"] (spLawReports C) := by
  obtain ⟨fAr, fdAr, dsAr, gAr, mAr, bAr, dAr⟩ := M.arr
  obtain ⟨fRd, fdRd, dsRd, gRd, mRd, bRd, dRd⟩ := M.red
  obtain ⟨fWa, fdWa, gWa, mWa, bWa⟩ := M.wai
  obtain ⟨fRg, fdRg, GG⟩ := M.reg
  have T := M.T
  refine F.ok scReports2 (fun vs H Q E h => ?_) (fun cdv A outer s H vs Q E hr h => ?_)
  · obtain ⟨_, _, _, _, _, _, _, _, _, _, rfl, _⟩ := h
    rfl
  · obtain ⟨Hb, x, p, Dd, al, hd, S, ad, dx, turn, rfl, W0, X0, D0, t1, k⟩ := h
    have hu := hr.units
    have hu1 := hu_of hr
    have r3 : Room 3 _ := hr.mono (by decide)
    have r6 : Room 6 _ := hr.mono (by decide)
    refine ⟨_, pss_cut (ps_if (pt_cmpR (op_neD hu) (pe_callB cr_sortedI (by rfl) X.sorted (by decide +kernel) (pa_cons (pe_lc (own := [("_law_told", 2)]) (g := gName 2) (tt := tYes) (te := tOp (rIxT K) (tVar 2) (tC (.int 1))) rfl scReports2.nd (pi_list (pe_meth0 (pv 0) T.cl GG.m GG.g r3 GG.b .nil pass0)) (blkOk_by (N := nReports) (sc := defScope sLawReports) (by decide +kernel)) (fun _ _ _ _ _ => pg_name (i := 2) scReports2.nd rfl (Or.inl rfl)) (fun _ _ _ _ _ => pts_nil) (fun _ _ _ _ _ => pe_ix ix_tup (pv 2) pe_int (fun _ _ => rfl))) pa_nil))
        (pe_callB (call_sortedDI rfl) (by rfl) X.sorted (by decide +kernel) (pa_cons (pv 1) pa_nil)) (nomark _)) (pss_one (ps_ret pe_bl)) pss_nil)
      (pss_cut (ps_for PassesOwn.never rfl (pi_list (pe_callB (call_sortedDI rfl) (by rfl) X.sorted (by decide +kernel) (pa_cons (pv 1) pa_nil))) (pg_name (i := 3) scReports2.nd rfl (Or.inl rfl))
        (pss_cut (ps_asg (pe_ix ix_list (pe_dget hu1 (pv 1) (pv 3) (fun _ _ => rfl)) pe_int (fun _ _ => rfl)) (pg_tup rfl (pgs_cons (pg_name (i := 4) scReports2.nd rfl (Or.inl rfl)) (pgs_cons (pg_name (i := 5) scReports2.nd rfl (Or.inl rfl)) pgs_nil))))
        (pss_cut (ps_expr (pe_meth (pv 0) T.cl mAr gAr r6 bAr dAr passN (pa_cons (pv 4) (pa_cons (pv 5) pa_nil))))
        (pss_cut (ps_if (pt_cmpR (op_neD hu) (pe_lc (own := [("_law_told", 2)]) (g := gName 2) (tt := tYes) (te := tOp (rIxT K) (tVar 2) (tC (.int 0))) rfl scReports2.nd (pi_list (pe_meth (pv 0) T.cl mWa gWa r6 bWa .nil passN (pa_cons pe_int (pa_cons pe_int (pa_cons pe_int pa_nil))))) (blkOk_by (N := nReports) (sc := defScope sLawReports) (by decide +kernel)) (fun _ _ _ _ _ => pg_name (i := 2) scReports2.nd rfl (Or.inl rfl)) (fun _ _ _ _ _ => pts_nil) (fun _ _ _ _ _ => pe_ix ix_tup (pv 2) pe_int (fun _ _ => rfl)))
            (pe_lst (pa_cons (pv 3) pa_nil)) (nomark _)) (pss_one (ps_ret pe_bl)) pss_nil)
        (pss_cut (ps_expr (pe_meth (pv 0) T.cl mRd gRd r6 bRd dRd passN (pa_cons (pv 4) (pa_cons (pv 5) pa_nil))))
        (pss_one (ps_if (pt_cmpR (op_neD hu) (pe_meth (pv 0) T.cl mWa gWa r6 bWa .nil passN (pa_cons pe_int (pa_cons pe_int (pa_cons pe_int pa_nil)))) (pe_lst pa_nil) (nomark _)) (pss_one (ps_ret pe_bl)) pss_nil)))))))
      (pss_one (ps_ret pe_bl))), ?_⟩
    have fl : ∀ {H : Hp} {i : Int}, 0 ≤ i → i ≤ 1000 → Flat H (.int i) := fun h1 h2 => fl_int (by omega) (by omega)
    have l48 := D0.len48 X0
    have kl : (hd.map Prod.fst).length < 64 := by rw [List.length_map]; omega
    obtain ⟨q1, q2, q3, q4, q5⟩ := regs_ask X0.W X0.sets
    refine ⟨fun σ' H' => σ' = [some (.ref x), some (.ref Dd), none, none, none, none] ∧ Mid C Hb x p Dd al hd S ad dx H', ?_, ?_⟩
    · walk_at "wn"
      unfold tLc iList
      walk_at "wn"
      refine ⟨_, rfl, x, dx .box, _, rfl, W0.hb, rfl, ?_⟩
      walk_at "wn"
      refine ⟨S, ad, dx, by rw [W0.box]; rfl, W0.at_, 0, X0.sets, q1, q2, q3, q4, q5, fun ys H1 r rs pm pw s1 nr hr1 pr1 => ?_⟩
      refine ⟨r, rfl, ⟨_, SqL.of hr1⟩, fun M1 hM1 => ?_⟩
      refine lc_list (K := K) (a := r) (xs := rs) (fun i H' => Same H1 H' ∧ H' M1 = some (.lst (((S.ents 0).take i).map V.int))) ⟨Same.new' hM1, upd_same⟩ (fun i H' _ h => SqL.of (h.1 _ _ hr1)) ?_ ?_
      · rintro i v H2 hv ⟨sm, hd2⟩
        obtain ⟨l, hl, T1, v1, v2, r1, r2, rfl, hT, _⟩ := paired_at pr1 hv
        have hT2 := sm _ _ hT
        refine ⟨rfl, ?_⟩
        walk_at "wn"
        refine ⟨T1, _, 1, .int l, rfl, rfl, SqT.of hT2, rfl, ?_⟩
        have := List.length_take_le' i (S.ents 0)
        refine ⟨_, hd2, by rw [List.length_map, sizeLine_eq]; omega, fun b o e => ?_, by rw [upd_same, List.take_add_one, hl, Option.toList_some, List.map_append]; rfl⟩
        rw [upd_ne (ne_of_none e hM1)]
        exact sm _ _ e
      · rintro H2 ⟨sm, hd2⟩
        rw [paired_len pr1, List.take_length] at hd2
        have W2 := W0.same (s1.trans sm)
        walk_at "wn"
        refine ⟨M1, S.ents 0, rfl, SqL.of hd2, fun ns' p1 pm1 pw1 np1 => ?_⟩
        have s3 := Same.new' (o := .lst (ns'.map V.int)) np1
        have W3 := W2.same s3
        walk_at "wn"
        refine ⟨Dd, _, hd.map Prod.fst, rfl, .inl W3.dict, dk_keys hd al, kl, fun zs p2 pm2 pw2 np2 => ?_⟩
        have s4 := Same.new' (o := .lst (zs.map V.int)) np2
        have ez : zs = ns' := sort_same pm2 pw2 (by rw [D0.ks]; exact pm1) pw1
        refine q_neInts (l := ns') (s4 _ _ upd_same) (by rw [ez]; exact upd_same) ?_
        walk_at "wn"
        exact ⟨rfl, W3.same s4⟩
    clear q1 q2 q3 q4 q5 W0
    rintro σ' H1 ⟨rfl, W1⟩
    refine ⟨fun σ' H' => ∃ u2 u3 u4 u5 ad dx, σ' = [some (.ref x), some (.ref Dd), u2, u3, u4, u5] ∧ Mid C Hb x p Dd al hd S ad dx H', ?_, ?_⟩
    · walk_at "wn"
      refine ⟨_, rfl, Dd, _, hd.map Prod.fst, rfl, .inl W1.dict, dk_keys hd al, kl, fun ys Lk pm pw hLk => ?_⟩
      have W2 := W1.same (Same.new' (o := .lst (ys.map V.int)) hLk)
      have no2 := W1.at_.not_own hLk
      have hk2 : upd H1 Lk (.lst (ys.map V.int)) Lk = some (.lst (ys.map V.int)) := upd_same
      generalize upd H1 Lk (.lst (ys.map V.int)) = H2 at W2 hk2
      refine ⟨Lk, rfl, ⟨_, SqL.of hk2⟩, ?_⟩
      refine for_list (K := K) (a := Lk) (xs := ys.map V.int) (fun i σ' H' => ∃ u2 u3 u4 u5 ad dx, σ' = [some (.ref x), some (.ref Dd), u2, u3, u4, u5] ∧ Mid C Hb x p Dd al hd S ad dx H' ∧ H' Lk = some (.lst (ys.map V.int)) ∧ ¬ own S ad Lk) ⟨_, _, _, _, ad, dx, rfl, W2, hk2, no2⟩ (fun i σ' H' _ h => by obtain ⟨_, _, _, _, _, _, _, _, h, _⟩ := h; exact SqL.of h) ?_ ?_
      · clear W1 W2 no2 hk2 ad dx
        rintro i v σ' H3 hv ⟨u2, u3, u4, u5, ad, dx, rfl, W3, hk3, no3⟩
        obtain ⟨l, hl, rfl⟩ : ∃ l, ys[i]? = some l ∧ v = .int l := by
          rw [List.getElem?_map] at hv
          cases h : ys[i]? with
          | none => rw [h] at hv; cases hv
          | some l =>
            rw [h] at hv
            exact ⟨l, rfl, (Option.some.inj hv).symm⟩
        have lm := pm.mem_iff.mp (List.mem_of_getElem? hl)
        obtain ⟨⟨l', hs⟩, he, rfl⟩ := List.mem_map.mp lm
        have le : l' ∈ S.ents 0 := D0.ent he
        obtain ⟨⟨pp, nn⟩, hq⟩ : ∃ r, hs[0]? = some r := by
          cases hh : hs with
          | nil => exact absurd hh (D0.ne X0 he)
          | cons a b => exact ⟨a, rfl⟩
        have hh := (D0.hold _ he pp nn).mp (List.mem_of_getElem? hq)
        have hts := X0.src le
        have Mn := hh.means X0.W
        have MS := X0.meansS
        have nN := hh.idx X0.W
        have pB := X0.W.pr pp hh.1
        rw [X0.P] at pB
        rw [X0.N] at nN
        have n0 := hh.2.1
        have WA : WF (arrS S l') := X0.W.arrived hts (by decide)
        have WW : WF (waitS S l') := WA.waited X0.m0
        have WR : WF (readL S l') := WW.read hts (fun _ z => by cases z)
        obtain ⟨vs, hl3, pr3⟩ := W3.lst he
        obtain ⟨v0, hv0, T0, rfl, hT0⟩ := paired_get pr3 hq
        walk_at "wn"
        refine ⟨fun σ' H' => σ' = [some (.ref x), some (.ref Dd), u2, some (.int l'), some (.int pp), some (.int nn)] ∧ H' = H3, ?_, ?_⟩
        · walk_at "wn"
          refine ⟨_, rfl, _, rfl, Dd, _, rfl, W3.get he, ?_⟩
          refine ⟨al l', _, 0, _, rfl, rfl, SqL.of hl3, atI_nat hv0, ?_⟩
          walk_at "wn"
          refine ⟨T0, _, rfl, SqT.of hT0, rfl, _, _, rfl, ?_⟩
          walk_at "wn"
          refine ⟨_, _, rfl, ?_⟩
          walk_at "wn"
          refine ⟨rfl, ?_⟩
          walk_at "wn"
          exact ⟨rfl, rfl⟩
        rintro σ' H3' ⟨rfl, rfl⟩
        refine ⟨fun σ' H' => ∃ ad, σ' = [some (.ref x), some (.ref Dd), u2, some (.int l'), some (.int pp), some (.int nn)] ∧ Mid C Hb x p Dd al hd (arrS S l') ad dx H' ∧ H' Lk = some (.lst (ys.map V.int)) ∧ ¬ own (arrS S l') ad Lk, ?_, ?_⟩
        · walk_at "wn"
          refine ⟨_, rfl, x, dx .box, _, rfl, W3.hb, rfl, ?_⟩
          walk_at "wn"
          refine ⟨.int pp, .int nn, .int 1, S, ad, dx, by rw [W3.box]; rfl, W3.at_, X0.W, fl (by omega) (by omega), fl (by omega) (by omega), fl (by decide) (by decide), res_ok (arriveM_of Mn hts (by rw [X0.un]) (by decide) (by decide)) fun H4 ad4 A4 st4 => ?_⟩
          walk_at "wn"
          exact ⟨ad4, rfl, W3.step A4 st4, st4.keep _ _ no3 hk3, own_step st4 hk3 no3⟩
        clear W3 hk3 no3 hl3 pr3 hT0 ad
        rintro σ' H4 ⟨ad, rfl, W4, hk4, no4⟩
        refine ⟨fun σ' H' => ∃ u2 ad dx, σ' = [some (.ref x), some (.ref Dd), u2, some (.int l'), some (.int pp), some (.int nn)] ∧ Mid C Hb x p Dd al hd (waitS S l') ad dx H' ∧ H' Lk = some (.lst (ys.map V.int)) ∧ ¬ own (waitS S l') ad Lk, ?_, ?_⟩
        · walk_at "wn"
          unfold tLc iList
          walk_at "wn"
          refine ⟨_, rfl, x, dx .box, _, rfl, W4.hb, rfl, ?_⟩
          walk_at "wn"
          refine ⟨M.nWR, .int 0, .int 0, .int 20, arrS S l', ad, dx, by rw [W4.box]; rfl, W4.at_, WA, fl (by decide) (by decide), fl (by decide) (by decide), fl (by decide) (by decide), res_ok (waitM_of (S := arrS S l') (n := 0) (s := 0) ⟨MS.pr, MS.lo, MS.hi, MS.at_⟩ X0.m0 (by decide) (by decide)) fun H5 ad5 dx5 r rs nr hr5 nor pr5 A5 st5 => ?_⟩
          have pr5 : Paired (RepAt H5) rs [(l', 1, false)] := by
            rw [show (took (arrS S l') 0 (toI (.int 20))).reps = [(l', 1, false)] from congrArg TSt.reps (X0.took1 le)] at pr5
            exact pr5
          have W5 := W4.step A5 st5
          have hk5 := st5.keep _ _ no4 hk4
          have no5 := own_step st5 hk4 no4
          refine ⟨r, rfl, ⟨_, SqL.of hr5⟩, fun M1 hM1 => ?_⟩
          refine lc_list (K := K) (a := r) (xs := rs) (fun i H' => Same H5 H' ∧ H' M1 = some (.lst (([l'].take i).map V.int))) ⟨Same.new' hM1, upd_same⟩ (fun i H' _ h => SqL.of (h.1 _ _ hr5)) ?_ ?_
          · rintro i v H6 hv6 ⟨sm, hd6⟩
            obtain ⟨q, hq6, T1, rfl, hT1⟩ := paired_at pr5 hv6
            have hT6 := sm _ _ hT1
            have ei : i = 0 ∧ q = (l', 1, false) := by
              cases i with
              | zero => exact ⟨rfl, (Option.some.inj hq6).symm⟩
              | succ i => cases hq6
            obtain ⟨rfl, rfl⟩ := ei
            refine ⟨rfl, ?_⟩
            walk_at "wn"
            refine ⟨T1, _, 0, .int l', rfl, rfl, SqT.of hT6, rfl, ?_⟩
            refine ⟨_, hd6, by show 0 < sizeLine; decide, fun b o e => ?_, by rw [upd_same]; rfl⟩
            rw [upd_ne (ne_of_none e hM1)]
            exact sm _ _ e
          · rintro H6 ⟨sm, hd6⟩
            rw [paired_len pr5] at hd6
            walk_at "wn"
            refine ⟨by show 1 ≤ sizeLine; decide, fun L1 hL1 => ?_⟩
            have s7 := sm.trans (Same.new' (o := .lst [V.int l']) hL1)
            refine q_neInts (l := [l']) ((Same.new' (o := .lst [V.int l']) hL1) _ _ hd6) upd_same ?_
            walk_at "wn"
            exact ⟨_, ad5, dx5, rfl, W5.same s7, s7 _ _ hk5, no5⟩
        clear W4 hk4 no4 ad dx
        rintro σ' H5 ⟨u2', ad, dx, rfl, W5, hk5, no5⟩
        refine ⟨fun σ' H' => ∃ ad, σ' = [some (.ref x), some (.ref Dd), u2', some (.int l'), some (.int pp), some (.int nn)] ∧ Mid C Hb x p Dd al hd (readL S l') ad dx H' ∧ H' Lk = some (.lst (ys.map V.int)) ∧ ¬ own (readL S l') ad Lk, ?_, ?_⟩
        · walk_at "wn"
          refine ⟨_, rfl, x, dx .box, _, rfl, W5.hb, rfl, ?_⟩
          walk_at "wn"
          refine ⟨.int pp, .int nn, .non, waitS S l', ad, dx, by rw [W5.box]; rfl, W5.at_, WW, fl (by omega) (by omega), fl (by omega) (by omega), .non, res_ok (readM_of (S := waitS S l') (p := pp) (n := nn) ⟨Mn.pr, Mn.lo, Mn.hi, Mn.at_⟩ hts) fun H6 ad6 A6 st6 => ?_⟩
          walk_at "wn"
          exact ⟨ad6, rfl, W5.step A6 st6, st6.keep _ _ no5 hk5, own_step st6 hk5 no5⟩
        clear W5 hk5 no5 ad
        rintro σ' H6 ⟨ad, rfl, W6, hk6, no6⟩
        walk_at "wn"
        refine ⟨_, rfl, x, dx .box, _, rfl, W6.hb, rfl, ?_⟩
        walk_at "wn"
        refine ⟨M.nWR, .int 0, .int 0, .int 20, readL S l', ad, dx, by rw [W6.box]; rfl, W6.at_, WR, fl (by decide) (by decide), fl (by decide) (by decide), fl (by decide) (by decide), res_ok (waitM_of (S := readL S l') (n := 0) (s := 0) ⟨MS.pr, MS.lo, MS.hi, MS.at_⟩ X0.m0 (by decide) (by decide)) fun H7 ad7 dx7 r rs nr hr7 nor pr7 A7 st7 => ?_⟩
        have W7 := W6.step A7 st7
        have hk7 := st7.keep _ _ no6 hk6
        have no7 := own_step st7 hk6 no6
        have ec : waited (readL S l') 0 (toI (.int 20)) = S := X0.cycle le
        rw [ec] at W7 no7
        have e0 : rs = [] := by
          rw [show (took (readL S l') 0 (toI (.int 20))).reps = [] from congrArg TSt.reps (X0.took2 le)] at pr7
          cases pr7
          rfl
        subst e0
        walk_at "wn"
        refine ⟨Nat.zero_le _, fun L1 hL1 => ?_⟩
        have s8 := Same.new' (o := .lst []) hL1
        refine q_neInts (l := []) (s8 _ _ hr7) upd_same ?_
        walk_at "wn"
        exact ⟨_, _, _, _, ad7, dx7, rfl, W7.same s8, s8 _ _ hk7, no7⟩
      · rintro σ' H' ⟨u2, u3, u4, u5, ad, dx, rfl, W, _⟩
        exact ⟨u2, u3, u4, u5, ad, dx, rfl, W⟩
    rintro σ' H' ⟨u2, u3, u4, u5, ad, dx, rfl, W⟩
    walk_at "wn"
    exact k _ _ _ W
end

theorem drop_set (l : Int) (hs : List Pr) : ∀ hd : List Ent, dropE l (setE l hs hd) = dropE l hd
  | [] => rfl
  | e :: hd => by
    have ih := drop_set l hs hd
    unfold dropE setE at ih ⊢
    rw [List.map_cons, List.filter_cons, List.filter_cons, ih]
    by_cases h : e.1 = l
    · rw [if_pos h, if_neg (by simp), if_neg (by simp [h])]
    · rw [if_neg h]
theorem mem_set {l : Int} {hs hs' : List Pr} {hd : List Ent} (h : (l, hs) ∈ hd) : (l, hs') ∈ setE l hs' hd := List.mem_map.mpr ⟨_, h, if_pos rfl⟩
section
variable {P : Program} {w : World} {K : PySem.W.Frag} {mg : Str → Option Value} {base : Heap} {C : Cs} {D : Es}
def spDropped (C : Cs) : Sp := fun vs H Q _ => ∃ (Hb : Hp) (x p Dd : Addr) (al : Int → Addr) (hd : List Ent) (S : Sys) (ad dx : Cell → Addr) (turn : Int), vs = [.ref p, .ref x, .ref Dd] ∧ Mid C Hb x p Dd al hd S ad dx H ∧ Sx S turn ∧ Dk S hd ∧ (S.tab 0)[1]? = some none ∧
  ∀ H' hd' S' ad' dx', Mid C Hb x p Dd al hd' S' ad' dx' H' → Rd S' turn hd' → Q .non H'
abbrev nDropped : List Str := ["_law_bag_here", "_law_box", "_law_held", "_law_label", "_law_p", "_law_n"]
theorem scDropped : FnScope nDropped ["_law_bag_here", "_law_box", "_law_held"] (defScope sDropped) := ⟨rfl, rfl, rfl, by decide +kernel, rfl, by decide +kernel, by decide +kernel⟩
theorem okDropped {f fT fO : Addr} {fd fdT fdO : FuncData} (F : Fun K "_law_dropped" "_law_dropped" sDropped f fd) (X : LawTx mg) (M : Ms P w K mg base C D)
    (GT : DO P w K mg base 1 "_law_take" ["_law_bag_here", "_law_many"] spTake fT fdT) (GO : DO P w K mg base 2 "_law_of" ["_law_bag_here", "_law_some"] (spOf K) fO fdO) : FnOk P w K mg base CX0 7 f fd ["_law_bag_here", "_law_box", "_law_held"] (spDropped C) := by
  obtain ⟨fCl, fdCl, gCl, mCl, bCl⟩ := M.clo
  have T := M.T
  refine F.ok scDropped (fun vs H Q E h => ?_) (fun cdv A outer s H vs Q E hr h => ?_)
  · obtain ⟨_, _, _, _, _, _, _, _, _, _, rfl, _⟩ := h
    rfl
  · obtain ⟨Hb, x, p, Dd, al, hd, S, ad, dx, turn, rfl, W0, X0, D0, f1, k⟩ := h
    have hu := hr.units
    have hu1 := hu_of hr
    have hu0 := Nat.lt_of_succ_lt hu1
    have r1 : Room 1 _ := hr.mono (by decide)
    have r2 : Room 2 _ := hr.mono (by decide)
    have r5 : Room 5 _ := hr.mono (by decide)
    refine ⟨_, pss_cut (ps_if (PW.pt (pw_or (pt_cmpR (op_eqE hu0) (pv 2) pe_dnewK (nomark _)) (pw_or1 (pt_cmpR op_eq (pe_call GT.g r1 (by rfl) GT.m GT.k GT.b .nil pass0 (pa_cons (pv 0) (pa_cons pe_int pa_nil))) pe_int (nomark _))))) (pss_one (ps_retN)) pss_nil)
      (pss_cut (ps_set (i := 3) scDropped.nd rfl (Or.inl rfl) (pe_call GO.g r2 (by rfl) GO.m GO.k GO.b .nil pass0 (pa_cons (pv 0) (pa_cons (pe_callB (call_sortedDI rfl) (by rfl) X.sorted (by decide +kernel) (pa_cons (pv 2) pa_nil)) pa_nil))))
      (pss_cut (ps_asg (pe_bm PySem.F.plainAttrs_list PySem.F.slot_list_pop PySem.F.type_list_pop mt_popAt (pe_dget hu1 (pv 2) (pv 3) (fun _ _ => rfl)) (pa_cons (pe_call GT.g r1 (by rfl) GT.m GT.k GT.b .nil pass0 (pa_cons (pv 0) (pa_cons (pe_callB cLenQ (by rfl) X.len PySem.boot_len (pa_cons (pe_dget hu1 (pv 2) (pv 3) (fun _ _ => rfl)) pa_nil)) pa_nil))) pa_nil)) (pg_tup rfl (pgs_cons (pg_name (i := 4) scDropped.nd rfl (Or.inl rfl)) (pgs_cons (pg_name (i := 5) scDropped.nd rfl (Or.inl rfl)) pgs_nil))))
      (pss_cut (ps_expr (pe_meth (pv 1) T.cl mCl gCl r5 bCl .nil passN (pa_cons (pv 4) (pa_cons (pv 5) pa_nil))))
      (pss_one (ps_if (pt_cmpR (op_eqD hu) (pe_dget hu1 (pv 2) (pv 3) (fun _ _ => rfl)) (pe_lst pa_nil) (nomark _)) (pss_one (ps_expr (pe_dpop1 (pv 2) (pv 3) ⟨rfl, rfl, rfl, rfl⟩))) pss_nil))))), ?_⟩
    have fl : ∀ {H : Hp} {i : Int}, 0 ≤ i → i ≤ 1000 → Flat H (.int i) := fun h1 h2 => fl_int (by omega) (by omega)
    have l48 := D0.len48 X0
    have kl : (hd.map Prod.fst).length < 64 := by rw [List.length_map]; omega
    refine ⟨fun σ' H' => σ' = [some (.ref p), some (.ref x), some (.ref Dd), none, none, none] ∧ hd ≠ [] ∧ Mid C Hb x p Dd al hd S ad dx H', ?_, ?_⟩
    · walk_at "wn"
      intro Z hZ
      have W1 := W0.same (Same.new' (o := .dK []) hZ)
      refine ⟨Dd, Z, _, rfl, rfl, W1.dict, upd_same, ?_⟩
      walk_at "wn"
      by_cases he : hd = []
      · subst he
        refine iteT ?_
        walk_at "wn"
        exact k _ _ _ _ _ W1 ⟨X0, D0, f1⟩
      have en : (entKV (hd.map Prod.fst) al).isEmpty = false := by
        cases hd with
        | nil => exact absurd rfl he
        | cons a b => rfl
      rw [en]
      refine iteF ?_
      walk_at "wn"
      refine ⟨p, 2, rfl, W1.bag, by decide, by decide, fun z H2 z0 z1 e2 b2 => ?_⟩
      have W2 := W1.draw e2 b2
      walk_at "wn"
      by_cases hz : z = 0
      · rw [decide_eq_true (show V.int z = V.int 0 by rw [hz])]
        refine iteT ?_
        walk_at "wn"
        exact k _ _ _ _ _ W2 ⟨X0, D0, f1⟩
      · rw [decide_eq_false (show ¬ V.int z = V.int 0 from fun y => hz (V.int.inj y))]
        refine iteF ?_
        walk_at "wn"
        exact ⟨rfl, he, W2⟩
    clear W0
    rintro σ' H1 ⟨rfl, hne, W1⟩
    refine ⟨fun σ' H' => ∃ l hs, σ' = [some (.ref p), some (.ref x), some (.ref Dd), some (.int l), none, none] ∧ (l, hs) ∈ hd ∧ Mid C Hb x p Dd al hd S ad dx H', ?_, ?_⟩
    · walk_at "wn"
      refine ⟨Dd, _, hd.map Prod.fst, rfl, .inl W1.dict, dk_keys hd al, kl, fun ys Lk pm pw hLk => ?_⟩
      have W2 := W1.same (Same.new' (o := .lst (ys.map V.int)) hLk)
      have Lp : Lk ≠ p := fun z => by
        obtain ⟨xs, e⟩ := W1.bag.lst
        rw [← z, hLk] at e
        cases e
      have yl : ys.length = hd.length := by rw [pm.length_eq, List.length_map]
      have hpos : 0 < hd.length := by
        cases hd with
        | nil => exact absurd rfl hne
        | cons a b => exact Nat.zero_lt_succ _
      walk_at "wn"
      refine ⟨p, Lk, ys.map V.int, rfl, W2.bag, SqL.of upd_same, Lp, by rw [List.length_map]; omega, by rw [List.length_map]; omega, fun j v H3 hv e3 b3 => ?_⟩
      rw [List.getElem?_map] at hv
      cases h : ys[j]? with
      | none => rw [h] at hv; cases hv
      | some l =>
        rw [h] at hv
        obtain rfl := (Option.some.inj hv).symm
        obtain ⟨⟨l', hs⟩, he, rfl⟩ := List.mem_map.mp (pm.mem_iff.mp (List.mem_of_getElem? h))
        walk_at "wn"
        exact ⟨l', hs, rfl, he, W2.draw e3 b3⟩
    clear W1
    rintro σ' H2 ⟨l, hs, rfl, he, W2⟩
    have hl48 : hs.length ≤ 48 := D0.len X0.W he
    have hs0 : 0 < hs.length := by
      have := D0.ne X0 he
      cases hs with
      | nil => exact absurd rfl this
      | cons a b => exact Nat.zero_lt_succ _
    refine ⟨fun σ' H' => ∃ i pp nn, σ' = [some (.ref p), some (.ref x), some (.ref Dd), some (.int l), some (.int pp), some (.int nn)] ∧ hs[i]? = some (pp, nn) ∧ Mid C Hb x p Dd al (setE l (hs.eraseIdx i) hd) S ad dx H', ?_, ?_⟩
    · obtain ⟨vs, hl2, pr2⟩ := W2.lst he
      have vl : vs.length = hs.length := paired_len pr2
      walk_at "wn"
      refine ⟨_, rfl, _, rfl, Dd, _, rfl, W2.get he, ?_⟩
      refine ⟨.inl ⟨rfl, _, SqL.of hl2⟩, ?_⟩
      walk_at "wn"
      refine ⟨_, rfl, _, rfl, Dd, _, rfl, W2.get he, ?_⟩
      walk_at "wn"
      refine ⟨p, (vs.length : Int), rfl, W2.bag, by omega, by omega, fun z H3 z0 z1 e3 b3 => ?_⟩
      obtain ⟨j, rfl⟩ := Int.eq_ofNat_of_zero_le z0
      have hj : j < vs.length := by omega
      have W3 := W2.draw e3 b3
      obtain ⟨vs3, hl3, pr3⟩ := W3.lst he
      have ap : al l ≠ p := fun z => by
        obtain ⟨xs, e⟩ := W2.bag.lst
        obtain ⟨a, b, eb, _⟩ := W2.bag
        cases W2 with
        | mk W P => exact P.pL _ he z
      have ev : vs3 = vs := by
        have e := (e3 (al l) ap).trans hl2
        rw [hl3] at e
        cases e
        rfl
      subst ev
      have vy : vs3[j]? = some vs3[j] := List.getElem?_eq_getElem hj
      obtain ⟨⟨pp, nn⟩, hq, T0, ev0, hT0⟩ := paired_at pr3 vy
      refine ⟨al l, vs3, (j : Int), j, vs3[j], rfl, rfl, hl3, by omega, by omega, seqIndex_of (by omega) (by omega), vy, ?_⟩
      have W4 := W3.pop (H' := upd H3 (al l) (.lst (vs3.eraseIdx j))) (i := j) he hl3 upd_same fun q u n e => (upd_ne n).trans e
      have hT4 : upd H3 (al l) (.lst (vs3.eraseIdx j)) T0 = some (.tup [.int pp, .int nn]) := (upd_ne fun z => by rw [z, hl3] at hT0; cases hT0).trans hT0
      rw [ev0]
      walk_at "wn"
      refine ⟨T0, _, rfl, SqT.of hT4, rfl, _, _, rfl, ?_⟩
      walk_at "wn"
      refine ⟨_, _, rfl, ?_⟩
      walk_at "wn"
      refine ⟨rfl, ?_⟩
      walk_at "wn"
      exact ⟨j, pp, nn, rfl, hq, W4⟩
    clear W2
    rintro σ' H3 ⟨i, pp, nn, rfl, hq, W3⟩
    obtain ⟨hh, n1, X1, D1⟩ := D0.close X0 he hq
    have nN := hh.idx X0.W
    have pB := X0.W.pr pp hh.1
    rw [X0.P] at pB
    rw [X0.N] at nN
    refine ⟨fun σ' H' => ∃ ad, σ' = [some (.ref p), some (.ref x), some (.ref Dd), some (.int l), some (.int pp), some (.int nn)] ∧ Mid C Hb x p Dd al (setE l (hs.eraseIdx i) hd) (closed S pp nn (S.reg 0 l).src) ad dx H', ?_, ?_⟩
    · walk_at "wn"
      refine ⟨_, rfl, x, dx .box, _, rfl, W3.hb, rfl, ?_⟩
      walk_at "wn"
      refine ⟨.int pp, .int nn, S, ad, dx, by rw [W3.box]; rfl, W3.at_, X0.W, fl (by omega) (by omega), fl (by omega) (by omega), res_ok (thing_of (hh.means X0.W)) fun H4 ad4 A4 st4 => ?_⟩
      walk_at "wn"
      exact ⟨ad4, rfl, W3.step A4 st4⟩
    clear W3 ad
    rintro σ' H4 ⟨ad, rfl, W4⟩
    have hm := mem_set (hs' := hs.eraseIdx i) he
    obtain ⟨vs, hl4, pr4⟩ := W4.lst hm
    have f2 : ((closed S pp nn (S.reg 0 l).src).tab 0)[1]? = some none := free1_close X0 f1
    walk_at "wn"
    refine ⟨_, rfl, _, rfl, Dd, _, rfl, W4.get hm, ?_⟩
    walk_at "wn"
    refine ⟨Nat.zero_le _, fun Z hZ => ?_⟩
    have sZ := Same.new' (o := .lst []) hZ
    have W5 := W4.same sZ
    refine q_eqNilP (sZ _ _ hl4) (prs_keep pr4 fun b xs e => sZ _ _ e) upd_same ?_
    walk_at "wn"
    by_cases hz : hs.eraseIdx i = []
    · rw [if_pos hz] at D1
      rw [show (hs.eraseIdx i).isEmpty = true by rw [hz]; rfl]
      refine iteT ?_
      walk_at "wn"
      refine ⟨_, rfl, Dd, rfl, .inl ⟨_, .inl W5.dict⟩, ?_⟩
      walk_at "wn"
      refine ⟨_, Sum.inl l, .ref (al l), W5.dict, rfl, ent_get _ _ (List.mem_map.mpr ⟨_, hm, rfl⟩), ?_⟩
      walk_at "wn"
      have W6 := W5.drop (H' := upd (upd H4 Z (.lst [])) Dd (.dK (dropK (entKV ((setE l (hs.eraseIdx i) hd).map Prod.fst) al) (Sum.inl l)))) l upd_same fun q u n e => (upd_ne n).trans e
      rw [drop_set] at W6
      exact k _ _ _ _ _ W6 ⟨X1, D1, f2⟩
    · rw [if_neg hz] at D1
      rw [show (hs.eraseIdx i).isEmpty = false by cases h : hs.eraseIdx i with | nil => exact absurd h hz | cons a b => rfl]
      refine iteF ?_
      walk_at "wn"
      exact k _ _ _ _ _ W5 ⟨X1, D1, f2⟩
end

abbrev S00 : Sys := newSet (newSys 6 8) 0 0
theorem ff0 : firstFree ((newSys 6 8).tab 0) 0 := ⟨rfl, fun i hi => absurd hi (Nat.not_lt_zero _)⟩
theorem noHold {u q m : Int} : ¬ Hold (newSys 6 8) u q m := fun h => by
  have h3 : (List.replicate 8 (none : Option Int))[m.toNat]? = some (some u) := h.2.2
  rw [List.getElem?_replicate] at h3
  split at h3 <;> cases h3
theorem hold00 {u q m : Int} : Hold S00 u q m ↔ (u = 0 ∧ q = 0 ∧ m = 0) := by
  have h : Hold S00 u q m ↔ Hold (newSys 6 8) u q m ∨ (u = 0 ∧ q = 0 ∧ m = ((0 : Nat) : Int)) := hold_put rfl rfl (List.mem_singleton_self _) rfl
  rw [h]
  exact ⟨fun z => z.resolve_left noHold, .inr⟩
theorem Rd.start : Rd S00 0 [] := by
  refine ⟨⟨(WF.start (by decide) (by decide) (by decide) (by decide)).newSet (List.mem_singleton_self _) ff0, rfl, rfl, rfl, List.mem_singleton_self _, fun p hp => ?_, fun p n h => (hold00.mp h).2.2, fun l hl => ?_, fun l hl => ?_, fun t ht => absurd ht List.not_mem_nil, fun t => rfl, rfl⟩, ⟨rfl, fun e he => absurd he List.not_mem_nil, fun e he => absurd he List.not_mem_nil⟩, rfl⟩
  · obtain rfl := List.mem_singleton.mp hp
    rfl
  · exact absurd hl List.not_mem_nil
  · exact absurd hl List.not_mem_nil
section
variable {P : Program} {w : World} {K : PySem.W.Frag} {mg : Str → Option Value} {base : Heap} {C : Cs} {D : Es}
def spLaw (K : PySem.W.Frag) : Sp := fun vs H Q _ => ∃ (a : Addr) (ns : List Int), vs = [.ref a] ∧ SqL K H a (ns.map V.int) ∧ ns.length ≤ 63 ∧ ∀ H', Q (.bl true) H'
abbrev nLaw : List Str := ["_law_script", "_law_at", "_law_bag_here", "_law_box", "_law_held", "_law_label"]
theorem scLaw : FnScope nLaw ["_law_script"] (defScope sLaw) := ⟨rfl, rfl, rfl, by decide +kernel, rfl, by decide +kernel, by decide +kernel⟩
theorem okLaw {f fB fT fRo fU fDr fRe fI : Addr} {fd fdB fdT fdRo fdU fdDr fdRe fdI : FuncData} {g : List Value → List Value → List Value} (F : Fun K "law" "law" sLaw f fd) (X : LawTx mg) (M : Ms P w K mg base C D)
    (gS : mg "System" = some (.ref C.S)) (MS : Mk K C.S fI) (GI : FnOk P w K mg base CX0 3 fI fdI ["self", "processes", "numbers"] (spSysInit C)) (kI : KBn K fdI ["self", "processes", "numbers"] 1 ["processes", "numbers"] g (fun vs zs => vs ++ zs))
    (GB : DO P w K mg base 1 "_law_bag" ["_law_script", "_law_at"] (spBag K) fB fdB) (GT : DO P w K mg base 1 "_law_take" ["_law_bag_here", "_law_many"] spTake fT fdT)
    (GR : DO P w K mg base 8 "_law_round" pRound (spRound C) fRo fdRo) (GU : DO P w K mg base 7 "_law_unreached" ["_law_box", "_law_n"] (spUnreached C) fU fdU)
    (GD : DO P w K mg base 7 "_law_dropped" ["_law_bag_here", "_law_box", "_law_held"] (spDropped C) fDr fdDr) (GE : DO P w K mg base 8 "_law_reports" ["_law_box", "_law_held"] (spLawReports C) fRe fdRe) :
    FnOk P w K mg base CX0 9 f fd ["_law_script"] (spLaw K) := by
  obtain ⟨fNe, fdNe, gNe, mNe, bNe⟩ := M.nse
  have T := M.T
  refine F.ok scLaw (fun vs H Q E h => ?_) (fun cdv A outer s H vs Q E hr h => ?_)
  · obtain ⟨_, _, rfl, _⟩ := h
    rfl
  · obtain ⟨a, ns, rfl, hS, hl, k⟩ := h
    have r1 : Room 1 _ := hr.mono (by decide)
    have r4 : Room 4 _ := hr.mono (by decide)
    have r6 : Room 6 _ := hr.mono (by decide)
    have r7 : Room 7 _ := hr.mono (by decide)
    refine ⟨_, pss_cut (ps_for PassesOwn.never rfl (pi_range1 (by rfl) X.range (pa_cons (pe_callB (cMax2 rfl) (by rfl) X.max (by decide +kernel) (pa_cons pe_int (pa_cons (pe_callB (cMin2 rfl) (by rfl) X.min (by decide +kernel) (pa_cons pe_int (pa_cons (pe_callB cLenQ (by rfl) X.len PySem.boot_len (pa_cons (pv 0) pa_nil)) pa_nil))) pa_nil))) pa_nil)) (pg_name (i := 1) scLaw.nd rfl (Or.inl rfl))
      (pss_cut (ps_set (i := 2) scLaw.nd rfl (Or.inl rfl) (pe_call GB.g r1 (by rfl) GB.m GB.k GB.b .nil pass0 (pa_cons (pv 0) (pa_cons (pv 1) pa_nil))))
      (pss_cut (ps_par (i := 3) (j := 4) (by rfl) scLaw.nd rfl rfl (by decide) rfl rfl (pa_cons (pe_makeK0 (ks := ["processes", "numbers"]) MS GI r4 (by rfl) gS kI pass0 (pk_cons pe_int (pk_cons pe_int pk_nil))) (pa_cons pe_dnewK pa_nil)) (by rfl))
      (pss_cut (ps_expr (pe_meth (pv 3) T.cl mNe gNe r6 bNe .nil passN (pa_cons pe_int pa_nil)))
      (pss_one (ps_for PassesOwn.never rfl (pi_range1 (by rfl) X.range (pa_cons (pe_op op_add pe_int (pe_call GT.g r1 (by rfl) GT.m GT.k GT.b .nil pass0 (pa_cons (pv 2) (pa_cons pe_int pa_nil)))) pa_nil)) (pg_name (i := 5) scLaw.nd rfl (Or.inl rfl))
        (pss_cut (ps_if (PW.pt (pw_or (pt_not (pt_val (pe_call GR.g hr (by rfl) GR.m GR.k GR.b .nil pass0 (pa_cons (pv 2) (pa_cons (pv 3) (pa_cons (pv 5) (pa_cons (pv 4) pa_nil))))))) (pw_or1 (pt_not (pt_val (pe_call GU.g r7 (by rfl) GU.m GU.k GU.b .nil pass0 (pa_cons (pv 3) (pa_cons pe_int pa_nil)))))))) (pss_one (ps_ret pe_bl)) pss_nil)
        (pss_cut (ps_expr (pe_call GD.g r7 (by rfl) GD.m GD.k GD.b .nil pass0 (pa_cons (pv 2) (pa_cons (pv 3) (pa_cons (pv 4) pa_nil)))))
        (pss_one (ps_if (pt_not (pt_val (pe_call GE.g hr (by rfl) GE.m GE.k GE.b .nil pass0 (pa_cons (pv 3) (pa_cons (pv 4) pa_nil))))) (pss_one (ps_ret pe_bl)) pss_nil))))))))))
      (pss_one (ps_ret pe_bl)), ?_⟩
    have fl : ∀ {H : Hp} {i : Int}, 0 ≤ i → i ≤ 1000 → Flat H (.int i) := fun h1 h2 => fl_int (by omega) (by omega)
    refine ⟨fun σ' H' => ∃ u1 u2 u3 u4 u5, σ' = [some (.ref a), u1, u2, u3, u4, u5], ?_, ?_⟩
    · walk_at "wn"
      show iRng1 _ _ _ _
      show tCons _ _ _ _ _
      walk_at "wn"
      refine ⟨a, _, rfl, .inl hS, ?_⟩
      walk_at "wn"
      refine ⟨_, rfl, ?_, ?_, ?_⟩
      · split <;> split <;> omega
      · split <;> split <;> omega
      refine for_range (lo := 0) (fun i σ' H' => ∃ u1 u2 u3 u4 u5 : Option V, σ' = [some (.ref a), u1, u2, u3, u4, u5] ∧ SqL K H' a (ns.map V.int)) ⟨_, _, _, _, _, rfl, hS⟩ ?_ (fun _ _ ⟨u1, u2, u3, u4, u5, e, _⟩ => ⟨u1, u2, u3, u4, u5, e⟩)
      rintro i σ' Hb hi ⟨u1, u2, u3, u4, u5, rfl, hSb⟩
      have hi100 : i ≤ 100 := by revert hi; split <;> split <;> omega
      refine ⟨fun σ' H1 => ∃ p : Addr, σ' = [some (.ref a), some (.int (0 + (i : Int))), some (.ref p), u3, u4, u5] ∧ Hb p = none ∧ Same Hb H1 ∧ BagAt H1 p, ?_, ?_⟩
      · walk_at "wn"
        refine ⟨a, ns, i, by simp, hSb, hl, hi100, fun H1 p n0 s1 b1 => ?_⟩
        walk_at "wn"
        exact ⟨p, rfl, n0, s1, b1⟩
      rintro σ' H1 ⟨p, rfl, n0, s1, b1⟩
      refine ⟨fun σ' H3 => ∃ (x Dd : Addr) (ad dx : Cell → Addr), σ' = [some (.ref a), some (.int (0 + (i : Int))), some (.ref p), some (.ref x), some (.ref Dd), u5] ∧ Mid C Hb x p Dd (fun _ => Dd) [] (newSys 6 8) ad dx H3, ?_, ?_⟩
      · show tPar 3 4 _ _ _ _
        refine ⟨rfl, rfl, fun x dx0 hx hd nd => ?_⟩
        refine ⟨x, dx0, 6, 8, rfl, upd_same, by decide, by decide, by decide, by decide, fun H3 ad dx hbx A3 k3 n3 => ⟨rfl, ?_⟩⟩
        obtain ⟨y, z, hp1, hpr⟩ := b1
        have on1 : ∀ b o, upd (fun _ => none) p (HO.lst [.int y, .int z]) b = some o → b = p ∧ o = .lst [.int y, .int z] := fun b o e => by
          by_cases z : b = p
          · rw [z, upd_same] at e
            exact ⟨z, (Option.some.inj e).symm⟩
          · rw [upd_ne z] at e
            cases e
        have W3 : LW C Hb x H3 (newSys 6 8) ad dx (upd (fun _ => none) p (.lst [.int y, .int z])) := LW.start (dx0 := dx0) s1 (fun b o e => by
            obtain ⟨rfl, rfl⟩ := on1 b o e
            exact hp1) (fun b o e => by
            obtain ⟨rfl, rfl⟩ := on1 b o e
            exact n0) hx hd (fun b e1 e2 => by rw [upd_ne e1, upd_ne e2]) A3 hbx k3 n3
        have hpO : upd (fun _ => none) p (HO.lst [.int y, .int z]) p = some (.lst [.int y, .int z]) := upd_same
        generalize upd (fun _ => none) p (HO.lst [.int y, .int z]) = O at W3 hpO
        intro Dd hDd
        have W4 := W3.new hDd (upd_same (a := Dd)) (Same.new' (o := .dK []) hDd)
        have f0 := W3.fresh hDd
        have nD : p ≠ Dd := fun e => by rw [← e, hpO] at f0; cases f0
        walk_at "wn"
        refine ⟨_, _, rfl, ?_⟩
        exact ⟨x, Dd, ad, dx, rfl, .mk W4 ⟨⟨y, z, (upd_ne nD).trans hpO, hpr⟩, upd_same, fun e he => absurd he List.not_mem_nil, fun e he => absurd he List.not_mem_nil, fun e he => absurd he List.not_mem_nil⟩⟩
      rintro σ' H3 ⟨x, Dd, ad, dx, rfl, W0⟩
      refine ⟨fun σ' H' => ∃ ad dx, σ' = [some (.ref a), some (.int (0 + (i : Int))), some (.ref p), some (.ref x), some (.ref Dd), u5] ∧ Mid C Hb x p Dd (fun _ => Dd) [] S00 ad dx H', ?_, ?_⟩
      · walk_at "wn"
        refine ⟨_, rfl, x, dx .box, _, rfl, W0.hb, rfl, ?_⟩
        walk_at "wn"
        refine ⟨.int 0, newSys 6 8, ad, dx, by rw [W0.box]; rfl, W0.at_, WF.start (by decide) (by decide) (by decide) (by decide), fl (by decide) (by decide), res_ok (freeOf_of (List.mem_singleton_self _) ff0) fun H4 ad4 dx4 A4 st4 => ?_⟩
        walk_at "wn"
        exact ⟨ad4, dx4, rfl, W0.step A4 st4⟩
      clear W0 ad dx b1 s1
      rintro σ' H4 ⟨ad, dx, rfl, W4⟩
      show iRng1 _ _ _ _
      show tCons _ _ _ _ _
      walk_at "wn"
      refine ⟨p, 9, rfl, W4.bag, by decide, by decide, fun kk H5 k0 k1 e5 b5 => ?_⟩
      have W5 := W4.draw e5 b5
      walk_at "wn"
      refine ⟨_, rfl, by omega, by omega, ?_⟩
      refine for_range (lo := 0) (fun j σ' H' => ∃ u5 al hd S ad dx, σ' = [some (.ref a), some (.int (0 + (i : Int))), some (.ref p), some (.ref x), some (.ref Dd), u5] ∧ Mid C Hb x p Dd al hd S ad dx H' ∧ Rd S (j : Int) hd) ⟨_, _, _, _, ad, dx, rfl, W5, Rd.start⟩ ?_ (fun σ' H' h => ?_)
      · clear W4 W5 ad dx
        rintro j σ' H6 hj ⟨u5, al, hd, S, ad, dx, rfl, W6, R6⟩
        have hj12 : (j : Int) ≤ 13 := by omega
        have ej : (0 : Int) + (j : Int) = (j : Int) := by omega
        rw [ej]
        have ej1 : ((j + 1 : Nat) : Int) = (j : Int) + 1 := by omega
        walk_at "wn"
        refine ⟨fun σ' H' => ∃ al hd S ad dx, σ' = [some (.ref a), some (.int (0 + (i : Int))), some (.ref p), some (.ref x), some (.ref Dd), some (.int (j : Int))] ∧ Mid C Hb x p Dd al hd S ad dx H' ∧ Rd S ((j : Int) + 1) hd, ?_, ?_⟩
        · walk_at "wn"
          refine ⟨Hb, x, p, Dd, al, hd, S, ad, dx, (j : Int), rfl, W6, R6.X, R6.D, R6.f1, by omega, by omega, fun H7 al7 hd7 S7 ad7 dx7 W7 R7 => ?_⟩
          walk_at "wn"
          refine ⟨S7, ad7, dx7, .open_ (.int 1), by rw [W7.box]; rfl, W7.at_, R7.X.W, R7.X.sets, .inr rfl, R7.X.rem0 R7.f1, R7.X.chg0 R7.f1, fun H8 s8 => ?_⟩
          walk_at "wn"
          exact ⟨al7, hd7, S7, ad7, dx7, rfl, W7.same s8, R7⟩
        clear W6 R6 al hd S ad dx
        rintro σ' H7 ⟨al, hd, S, ad, dx, rfl, W7, R7⟩
        refine ⟨fun σ' H' => ∃ al hd S ad dx, σ' = [some (.ref a), some (.int (0 + (i : Int))), some (.ref p), some (.ref x), some (.ref Dd), some (.int (j : Int))] ∧ Mid C Hb x p Dd al hd S ad dx H' ∧ Rd S ((j : Int) + 1) hd, ?_, ?_⟩
        · walk_at "wn"
          refine ⟨Hb, x, p, Dd, al, hd, S, ad, dx, (j : Int) + 1, rfl, W7, R7.X, R7.D, R7.f1, fun H8 hd8 S8 ad8 dx8 W8 R8 => ?_⟩
          walk_at "wn"
          exact ⟨al, hd8, S8, ad8, dx8, rfl, W8, R8⟩
        clear W7 R7 al hd S ad dx
        rintro σ' H8 ⟨al, hd, S, ad, dx, rfl, W8, R8⟩
        walk_at "wn"
        refine ⟨Hb, x, p, Dd, al, hd, S, ad, dx, (j : Int) + 1, rfl, W8, R8.X, R8.D, by omega, fun H9 ad9 dx9 W9 => ?_⟩
        walk_at "wn"
        rw [ej1]
        exact ⟨_, al, hd, S, ad9, dx9, rfl, W9, R8⟩
      · obtain ⟨u5, al, hd, S, ad, dx, rfl, W, _⟩ := h
        exact ⟨_, _, _, _, _, rfl, W.sq hSb⟩
    rintro σ' H' ⟨u1, u2, u3, u4, u5, rfl⟩
    walk_at "wn"
    exact k _
end

theorem Ln0 {α : Type} : ∀ {us : List α}, us.length = 0 → us = []
  | [], _ => rfl
theorem Ln1 {α : Type} : ∀ {us : List α}, us.length = 1 → ∃ a0, us = [a0]
  | [a0], _ => ⟨_, rfl⟩
theorem Ln2 {α : Type} : ∀ {us : List α}, us.length = 2 → ∃ a0 a1, us = [a0, a1]
  | [a0, a1], _ => ⟨_, _, rfl⟩
theorem Ln3 {α : Type} : ∀ {us : List α}, us.length = 3 → ∃ a0 a1 a2, us = [a0, a1, a2]
  | [a0, a1, a2], _ => ⟨_, _, _, rfl⟩
theorem Ln4 {α : Type} : ∀ {us : List α}, us.length = 4 → ∃ a0 a1 a2 a3, us = [a0, a1, a2, a3]
  | [a0, a1, a2, a3], _ => ⟨_, _, _, _, rfl⟩
theorem Ln5 {α : Type} : ∀ {us : List α}, us.length = 5 → ∃ a0 a1 a2 a3 a4, us = [a0, a1, a2, a3, a4]
  | [a0, a1, a2, a3, a4], _ => ⟨_, _, _, _, _, rfl⟩
theorem all_mk {P : Program} {w : World} {K : PySem.W.Frag} {h : Heap} {mg : Str → Option Value} {fa : Addr} (X : K.In h) (G : h.Ns mainGlobals mg) (hfa : mg "law" = some (.ref fa))
    {CS CW CR : Addr}
    {CPr NPr : Addr} {nmPr qPr : Str} {bsPr subPr : List Value} {snPr : List Str} {abPr : Bool} {colPr : Option Bool} {ddPr : Option Addr} {maPr mbPr mcPr mdPr mePr : Option Value}
    {COp NOp : Addr} {nmOp qOp : Str} {bsOp subOp : List Value} {snOp : List Str} {abOp : Bool} {colOp : Option Bool} {ddOp : Option Addr} {maOp mbOp mcOp mdOp meOp : Option Value}
    {CNu NNu : Addr} {nmNu qNu : Str} {bsNu subNu : List Value} {snNu : List Str} {abNu : Bool} {colNu : Option Bool} {ddNu : Option Addr} {maNu mbNu mcNu mdNu meNu : Option Value}
    {CNs NNs : Addr} {nmNs qNs : Str} {bsNs subNs : List Value} {snNs : List Str} {abNs : Bool} {colNs : Option Bool} {ddNs : Option Addr} {maNs mbNs mcNs mdNs meNs : Option Value}
    {CNt NNt : Addr} {nmNt qNt : Str} {bsNt subNt : List Value} {snNt : List Str} {abNt : Bool} {colNt : Option Bool} {ddNt : Option Addr} {maNt mbNt mcNt mdNt meNt : Option Value}
    {CFu NFu : Addr} {nmFu qFu : Str} {bsFu subFu : List Value} {snFu : List Str} {abFu : Bool} {colFu : Option Bool} {ddFu : Option Addr} {maFu mbFu mcFu mdFu meFu : Option Value}
    {CNo NNo : Addr} {nmNo qNo : Str} {bsNo subNo : List Value} {snNo : List Str} {abNo : Bool} {colNo : Option Bool} {ddNo : Option Addr} {maNo mbNo mcNo mdNo meNo : Option Value}
    {CCo NCo : Addr} {nmCo qCo : Str} {bsCo subCo : List Value} {snCo : List Str} {abCo : Bool} {colCo : Option Bool} {ddCo : Option Addr} {maCo mbCo mcCo mdCo meCo : Option Value}
    {CLa NLa : Addr} {nmLa qLa : Str} {bsLa subLa : List Value} {snLa : List Str} {abLa : Bool} {colLa : Option Bool} {ddLa : Option Addr} {maLa mbLa mcLa mdLa meLa : Option Value}
    {CWo NWo : Addr} {nmWo qWo : Str} {bsWo subWo : List Value} {snWo : List Str} {abWo : Bool} {colWo : Option Bool} {ddWo : Option Addr} {maWo mbWo mcWo mdWo meWo : Option Value}
    {CFi NFi : Addr} {nmFi qFi : Str} {bsFi subFi : List Value} {snFi : List Str} {abFi : Bool} {colFi : Option Bool} {ddFi : Option Addr} {maFi mbFi mcFi mdFi meFi : Option Value}
    {CRg NRg : Addr} {nmRg qRg : Str} {bsRg subRg : List Value} {snRg : List Str} {abRg : Bool} {colRg : Option Bool} {ddRg : Option Addr} {maRg mbRg mcRg mdRg meRg : Option Value}
    {CTa NTa : Addr} {nmTa qTa : Str} {bsTa subTa : List Value} {snTa : List Str} {abTa : Bool} {colTa : Option Bool} {ddTa : Option Addr} {maTa mbTa mcTa mdTa meTa : Option Value}
    {CNr NNr : Addr} {nmNr qNr : Str} {bsNr subNr : List Value} {snNr : List Str} {abNr : Bool} {colNr : Option Bool} {ddNr : Option Addr} {maNr mbNr mcNr mdNr meNr : Option Value}
    {f_int : Addr} {fd_int : FuncData}
    {f_bet : Addr} {fd_bet : FuncData}
    {f_cnt : Addr} {fd_cnt : FuncData}
    {f_lab : Addr} {fd_lab : FuncData}
    {f_wrd : Addr} {fd_wrd : FuncData}
    {f_bag : Addr} {fd_bag : FuncData}
    {f_take : Addr} {fd_take : FuncData}
    {f_of : Addr} {fd_of : FuncData}
    {f_unr : Addr} {fd_unr : FuncData}
    {f_rou : Addr} {fd_rou : FuncData}
    {f_lrp : Addr} {fd_lrp : FuncData}
    {f_ldr : Addr} {fd_ldr : FuncData}
    {f_law : Addr} {fd_law : FuncData}
    {f_xPr : Addr} {fd_xPr : FuncData}
    {f_xOp : Addr} {fd_xOp : FuncData}
    {f_xNu : Addr} {fd_xNu : FuncData}
    {f_xNs : Addr} {fd_xNs : FuncData}
    {f_xNt : Addr} {fd_xNt : FuncData}
    {f_xFu : Addr} {fd_xFu : FuncData}
    {f_xNo : Addr} {fd_xNo : FuncData}
    {f_xCo : Addr} {fd_xCo : FuncData}
    {f_xLa : Addr} {fd_xLa : FuncData}
    {f_xWo : Addr} {fd_xWo : FuncData}
    {f_xFi : Addr} {fd_xFi : FuncData}
    {f_xRg : Addr} {fd_xRg : FuncData}
    {f_xTa : Addr} {fd_xTa : FuncData}
    {f_xNr : Addr} {fd_xNr : FuncData}
    {f_ri : Addr} {fd_ri : FuncData}
    {f_wi : Addr} {fd_wi : FuncData}
    {f_lof : Addr} {fd_lof : FuncData}
    {f_put : Addr} {fd_put : FuncData}
    {f_app : Addr} {fd_app : FuncData}
    {f_drp : Addr} {fd_drp : FuncData}
    {f_dso : Addr} {fd_dso : FuncData}
    {f_ntc : Addr} {fd_ntc : FuncData}
    {f_rep : Addr} {fd_rep : FuncData}
    {f_stl : Addr} {fd_stl : FuncData}
    {f_si : Addr} {fd_si : FuncData}
    {f_con : Addr} {fd_con : FuncData}
    {f_len : Addr} {fd_len : FuncData}
    {f_tof : Addr} {fd_tof : FuncData}
    {f_itn : Addr} {fd_itn : FuncData}
    {f_tha : Addr} {fd_tha : FuncData}
    {f_sra : Addr} {fd_sra : FuncData}
    {f_sta : Addr} {fd_sta : FuncData}
    {f_frn : Addr} {fd_frn : FuncData}
    {f_nth : Addr} {fd_nth : FuncData}
    {f_nso : Addr} {fd_nso : FuncData}
    {f_nse : Addr} {fd_nse : FuncData}
    {f_rdy : Addr} {fd_rdy : FuncData}
    {f_unf : Addr} {fd_unf : FuncData}
    {f_nfy : Addr} {fd_nfy : FuncData}
    {f_etg : Addr} {fd_etg : FuncData}
    {f_arr : Addr} {fd_arr : FuncData}
    {f_red : Addr} {fd_red : FuncData}
    {f_wai : Addr} {fd_wai : FuncData}
    {f_add : Addr} {fd_add : FuncData}
    {f_chg : Addr} {fd_chg : FuncData}
    {f_rem : Addr} {fd_rem : FuncData}
    {f_fre : Addr} {fd_fre : FuncData}
    {f_clo : Addr} {fd_clo : FuncData}
    {f_cpy : Addr} {fd_cpy : FuncData}
    {f_frp : Addr} {fd_frp : FuncData}
    {f_frk : Addr} {fd_frk : FuncData}
    {f_num : Addr} {fd_num : FuncData}
    {f_tng : Addr} {fd_tng : FuncData}
    {f_nof : Addr} {fd_nof : FuncData}
    {f_nam : Addr} {fd_nam : FuncData}
    {f_reg : Addr} {fd_reg : FuncData}
    {wW : Addr} {dW : Option Addr} {nW : Nat} {sW : Array (Option Value)} {tW0 tW1 tW2 : Tok}
    {tMC : Tok}
    {tML : Tok}
    {tLP : Tok}
    {tLN : Tok}
    {tMP : Tok}
    {tMN : Tok}
    (gCS : PySem.W.nsIn K mainGlobals "System" = some (some (.ref CS)))
    (pgS : PySem.W.plainGet K CS Str.empty = true)
    (hdS : PySem.W.hasDictIn K CS = true)
    (poS : PySem.W.plainOver K CS = true)
    (saS : PySem.W.findIn K (.ref CS) "__setattr__" = some (some (.builtin "object.__setattr__")))
    (mkS : PySem.W.makesIn K CS = true)
    (kcS : PySem.W.keepIn K (.ref CS) = true)
    (noS0 : PySem.W.findIn K (.ref CS) "process_limit" = some none)
    (noS1 : PySem.W.findIn K (.ref CS) "number_limit" = some none)
    (noS2 : PySem.W.findIn K (.ref CS) "tables" = some none)
    (noS3 : PySem.W.findIn K (.ref CS) "sources" = some none)
    (noS4 : PySem.W.findIn K (.ref CS) "sets" = some none)
    (noS5 : PySem.W.findIn K (.ref CS) "next_thing" = some none)
    (gCW : PySem.W.nsIn K mainGlobals "WaitingSet" = some (some (.ref CW)))
    (pgW : PySem.W.plainGet K CW Str.empty = true)
    (hdW : PySem.W.hasDictIn K CW = true)
    (poW : PySem.W.plainOver K CW = true)
    (saW : PySem.W.findIn K (.ref CW) "__setattr__" = some (some (.builtin "object.__setattr__")))
    (mkW : PySem.W.makesIn K CW = true)
    (kcW : PySem.W.keepIn K (.ref CW) = true)
    (noW0 : PySem.W.findIn K (.ref CW) "entries" = some none)
    (noW1 : PySem.W.findIn K (.ref CW) "queue" = some none)
    (gCR : PySem.W.nsIn K mainGlobals "Registration" = some (some (.ref CR)))
    (pgR : PySem.W.plainGet K CR Str.empty = true)
    (hdR : PySem.W.hasDictIn K CR = true)
    (poR : PySem.W.plainOver K CR = true)
    (saR : PySem.W.findIn K (.ref CR) "__setattr__" = some (some (.builtin "object.__setattr__")))
    (mkR : PySem.W.makesIn K CR = true)
    (kcR : PySem.W.keepIn K (.ref CR) = true)
    (noR0 : PySem.W.findIn K (.ref CR) "number" = some none)
    (noR1 : PySem.W.findIn K (.ref CR) "source" = some none)
    (noR2 : PySem.W.findIn K (.ref CR) "word" = some none)
    (noR3 : PySem.W.findIn K (.ref CR) "armed" = some none)
    (nWR : CW ≠ CR)
    (gCPr : PySem.W.nsIn K mainGlobals "NoProcess" = some (some (.ref CPr)))
    (xLPr : K.lookup CPr = some (excClassObj nmPr qPr CPr NPr bsPr [.type "LookupError", .type "Exception", .type "BaseException", .type "object"] true snPr subPr abPr colPr ddPr maPr mbPr mcPr mdPr mePr "LookupError.__new__"))
    (xsaPr : PySem.W.findIn K (.ref CPr) "__setattr__" = some (some (.builtin "object.__setattr__")))
    (xgaPr : PySem.W.findIn K (.ref CPr) "__getattribute__" = some (some (.builtin "BaseException.__getattribute__")))
    (xggPr : PySem.W.findIn K (.ref CPr) "__getattr__" = some none)
    (xnbPr0 : PySem.W.findIn K (.ref CPr) "process" = some none)
    (xvVPr : PySem.W.findCls K (.type "LookupError") (.type "type") "__init__" = some (.val (.builtin "LookupError.__init__")))
    (xkCPr : PySem.W.keepIn K (.ref CPr) = true)
    (xeCPr : PySem.W.subIn K (.ref CPr) (.type "BaseException") = some true)
    (xtCPr : PySem.W.typeIn K (.ref CPr) = some (.type "type"))
    (xhCPr : PySem.W.hasDictIn K CPr = true)
    (xtePr : PySem.W.exmOne K (.ref CPr) (.ref CPr) = some true)
    (xC1Pr : PySem.W.findIn K (.ref CPr) "__class__" = some (some (.builtin "object.__class__")))
    (xC4Pr : PySem.W.mroIn K CPr (.type "object") = some true)
    (xC5Pr : (PySem.W.clsIn K CPr).isSome = true)
    (xkvPr : PySem.W.kitOne K (.ref CPr) (.type "LookupError") = some true)
    (xC2 : PySem.W.specialIn K (.builtin "object.__class__") "__get__" = some (some (.builtin "getset_descriptor.__get__")))
    (xC3 : PySem.W.takesIn K (.builtin "object.__class__") = some true)
    (gCOp : PySem.W.nsIn K mainGlobals "NotOpen" = some (some (.ref COp)))
    (xLOp : K.lookup COp = some (excClassObj nmOp qOp COp NOp bsOp [.type "LookupError", .type "Exception", .type "BaseException", .type "object"] true snOp subOp abOp colOp ddOp maOp mbOp mcOp mdOp meOp "LookupError.__new__"))
    (xsaOp : PySem.W.findIn K (.ref COp) "__setattr__" = some (some (.builtin "object.__setattr__")))
    (xgaOp : PySem.W.findIn K (.ref COp) "__getattribute__" = some (some (.builtin "BaseException.__getattribute__")))
    (xggOp : PySem.W.findIn K (.ref COp) "__getattr__" = some none)
    (xnbOp0 : PySem.W.findIn K (.ref COp) "number" = some none)
    (xvVOp : PySem.W.findCls K (.type "LookupError") (.type "type") "__init__" = some (.val (.builtin "LookupError.__init__")))
    (xkCOp : PySem.W.keepIn K (.ref COp) = true)
    (xeCOp : PySem.W.subIn K (.ref COp) (.type "BaseException") = some true)
    (xtCOp : PySem.W.typeIn K (.ref COp) = some (.type "type"))
    (xhCOp : PySem.W.hasDictIn K COp = true)
    (xteOp : PySem.W.exmOne K (.ref COp) (.ref COp) = some true)
    (xC1Op : PySem.W.findIn K (.ref COp) "__class__" = some (some (.builtin "object.__class__")))
    (xC4Op : PySem.W.mroIn K COp (.type "object") = some true)
    (xC5Op : (PySem.W.clsIn K COp).isSome = true)
    (xkvOp : PySem.W.kitOne K (.ref COp) (.type "LookupError") = some true)
    (gCNu : PySem.W.nsIn K mainGlobals "NoNumber" = some (some (.ref CNu)))
    (xLNu : K.lookup CNu = some (excClassObj nmNu qNu CNu NNu bsNu [.type "LookupError", .type "Exception", .type "BaseException", .type "object"] true snNu subNu abNu colNu ddNu maNu mbNu mcNu mdNu meNu "LookupError.__new__"))
    (xsaNu : PySem.W.findIn K (.ref CNu) "__setattr__" = some (some (.builtin "object.__setattr__")))
    (xgaNu : PySem.W.findIn K (.ref CNu) "__getattribute__" = some (some (.builtin "BaseException.__getattribute__")))
    (xggNu : PySem.W.findIn K (.ref CNu) "__getattr__" = some none)
    (xnbNu0 : PySem.W.findIn K (.ref CNu) "number" = some none)
    (xvVNu : PySem.W.findCls K (.type "LookupError") (.type "type") "__init__" = some (.val (.builtin "LookupError.__init__")))
    (xkCNu : PySem.W.keepIn K (.ref CNu) = true)
    (xeCNu : PySem.W.subIn K (.ref CNu) (.type "BaseException") = some true)
    (xtCNu : PySem.W.typeIn K (.ref CNu) = some (.type "type"))
    (xhCNu : PySem.W.hasDictIn K CNu = true)
    (xteNu : PySem.W.exmOne K (.ref CNu) (.ref CNu) = some true)
    (xC1Nu : PySem.W.findIn K (.ref CNu) "__class__" = some (some (.builtin "object.__class__")))
    (xC4Nu : PySem.W.mroIn K CNu (.type "object") = some true)
    (xC5Nu : (PySem.W.clsIn K CNu).isSome = true)
    (xkvNu : PySem.W.kitOne K (.ref CNu) (.type "LookupError") = some true)
    (gCNs : PySem.W.nsIn K mainGlobals "NotASource" = some (some (.ref CNs)))
    (xLNs : K.lookup CNs = some (excClassObj nmNs qNs CNs NNs bsNs [.type "TypeError", .type "Exception", .type "BaseException", .type "object"] true snNs subNs abNs colNs ddNs maNs mbNs mcNs mdNs meNs "TypeError.__new__"))
    (xsaNs : PySem.W.findIn K (.ref CNs) "__setattr__" = some (some (.builtin "object.__setattr__")))
    (xgaNs : PySem.W.findIn K (.ref CNs) "__getattribute__" = some (some (.builtin "BaseException.__getattribute__")))
    (xggNs : PySem.W.findIn K (.ref CNs) "__getattr__" = some none)
    (xnbNs0 : PySem.W.findIn K (.ref CNs) "number" = some none)
    (xvVNs : PySem.W.findCls K (.type "TypeError") (.type "type") "__init__" = some (.val (.builtin "TypeError.__init__")))
    (xkCNs : PySem.W.keepIn K (.ref CNs) = true)
    (xeCNs : PySem.W.subIn K (.ref CNs) (.type "BaseException") = some true)
    (xtCNs : PySem.W.typeIn K (.ref CNs) = some (.type "type"))
    (xhCNs : PySem.W.hasDictIn K CNs = true)
    (xteNs : PySem.W.exmOne K (.ref CNs) (.ref CNs) = some true)
    (xC1Ns : PySem.W.findIn K (.ref CNs) "__class__" = some (some (.builtin "object.__class__")))
    (xC4Ns : PySem.W.mroIn K CNs (.type "object") = some true)
    (xC5Ns : (PySem.W.clsIn K CNs).isSome = true)
    (xkvNs : PySem.W.kitOne K (.ref CNs) (.type "TypeError") = some true)
    (gCNt : PySem.W.nsIn K mainGlobals "NotASet" = some (some (.ref CNt)))
    (xLNt : K.lookup CNt = some (excClassObj nmNt qNt CNt NNt bsNt [.type "TypeError", .type "Exception", .type "BaseException", .type "object"] true snNt subNt abNt colNt ddNt maNt mbNt mcNt mdNt meNt "TypeError.__new__"))
    (xsaNt : PySem.W.findIn K (.ref CNt) "__setattr__" = some (some (.builtin "object.__setattr__")))
    (xgaNt : PySem.W.findIn K (.ref CNt) "__getattribute__" = some (some (.builtin "BaseException.__getattribute__")))
    (xggNt : PySem.W.findIn K (.ref CNt) "__getattr__" = some none)
    (xnbNt0 : PySem.W.findIn K (.ref CNt) "number" = some none)
    (xvVNt : PySem.W.findCls K (.type "TypeError") (.type "type") "__init__" = some (.val (.builtin "TypeError.__init__")))
    (xkCNt : PySem.W.keepIn K (.ref CNt) = true)
    (xeCNt : PySem.W.subIn K (.ref CNt) (.type "BaseException") = some true)
    (xtCNt : PySem.W.typeIn K (.ref CNt) = some (.type "type"))
    (xhCNt : PySem.W.hasDictIn K CNt = true)
    (xteNt : PySem.W.exmOne K (.ref CNt) (.ref CNt) = some true)
    (xC1Nt : PySem.W.findIn K (.ref CNt) "__class__" = some (some (.builtin "object.__class__")))
    (xC4Nt : PySem.W.mroIn K CNt (.type "object") = some true)
    (xC5Nt : (PySem.W.clsIn K CNt).isSome = true)
    (xkvNt : PySem.W.kitOne K (.ref CNt) (.type "TypeError") = some true)
    (gCFu : PySem.W.nsIn K mainGlobals "Full" = some (some (.ref CFu)))
    (xLFu : K.lookup CFu = some (excClassObj nmFu qFu CFu NFu bsFu [.type "OverflowError", .type "ArithmeticError", .type "Exception", .type "BaseException", .type "object"] true snFu subFu abFu colFu ddFu maFu mbFu mcFu mdFu meFu "OverflowError.__new__"))
    (xsaFu : PySem.W.findIn K (.ref CFu) "__setattr__" = some (some (.builtin "object.__setattr__")))
    (xgaFu : PySem.W.findIn K (.ref CFu) "__getattribute__" = some (some (.builtin "BaseException.__getattribute__")))
    (xggFu : PySem.W.findIn K (.ref CFu) "__getattr__" = some none)
    (xnbFu0 : PySem.W.findIn K (.ref CFu) "process" = some none)
    (xvVFu : PySem.W.findCls K (.type "OverflowError") (.type "type") "__init__" = some (.val (.builtin "OverflowError.__init__")))
    (xkCFu : PySem.W.keepIn K (.ref CFu) = true)
    (xeCFu : PySem.W.subIn K (.ref CFu) (.type "BaseException") = some true)
    (xtCFu : PySem.W.typeIn K (.ref CFu) = some (.type "type"))
    (xhCFu : PySem.W.hasDictIn K CFu = true)
    (xteFu : PySem.W.exmOne K (.ref CFu) (.ref CFu) = some true)
    (xC1Fu : PySem.W.findIn K (.ref CFu) "__class__" = some (some (.builtin "object.__class__")))
    (xC4Fu : PySem.W.mroIn K CFu (.type "object") = some true)
    (xC5Fu : (PySem.W.clsIn K CFu).isSome = true)
    (xkvFu : PySem.W.kitOne K (.ref CFu) (.type "OverflowError") = some true)
    (gCNo : PySem.W.nsIn K mainGlobals "NoRoom" = some (some (.ref CNo)))
    (xLNo : K.lookup CNo = some (excClassObj nmNo qNo CNo NNo bsNo [.type "OverflowError", .type "ArithmeticError", .type "Exception", .type "BaseException", .type "object"] true snNo subNo abNo colNo ddNo maNo mbNo mcNo mdNo meNo "OverflowError.__new__"))
    (xsaNo : PySem.W.findIn K (.ref CNo) "__setattr__" = some (some (.builtin "object.__setattr__")))
    (xgaNo : PySem.W.findIn K (.ref CNo) "__getattribute__" = some (some (.builtin "BaseException.__getattribute__")))
    (xggNo : PySem.W.findIn K (.ref CNo) "__getattr__" = some none)
    (xvVNo : PySem.W.findCls K (.type "OverflowError") (.type "type") "__init__" = some (.val (.builtin "OverflowError.__init__")))
    (xkCNo : PySem.W.keepIn K (.ref CNo) = true)
    (xeCNo : PySem.W.subIn K (.ref CNo) (.type "BaseException") = some true)
    (xtCNo : PySem.W.typeIn K (.ref CNo) = some (.type "type"))
    (xhCNo : PySem.W.hasDictIn K CNo = true)
    (xteNo : PySem.W.exmOne K (.ref CNo) (.ref CNo) = some true)
    (xC1No : PySem.W.findIn K (.ref CNo) "__class__" = some (some (.builtin "object.__class__")))
    (xC4No : PySem.W.mroIn K CNo (.type "object") = some true)
    (xC5No : (PySem.W.clsIn K CNo).isSome = true)
    (xkvNo : PySem.W.kitOne K (.ref CNo) (.type "OverflowError") = some true)
    (gCCo : PySem.W.nsIn K mainGlobals "BadCount" = some (some (.ref CCo)))
    (xLCo : K.lookup CCo = some (excClassObj nmCo qCo CCo NCo bsCo [.type "ValueError", .type "Exception", .type "BaseException", .type "object"] true snCo subCo abCo colCo ddCo maCo mbCo mcCo mdCo meCo "ValueError.__new__"))
    (xsaCo : PySem.W.findIn K (.ref CCo) "__setattr__" = some (some (.builtin "object.__setattr__")))
    (xgaCo : PySem.W.findIn K (.ref CCo) "__getattribute__" = some (some (.builtin "BaseException.__getattribute__")))
    (xggCo : PySem.W.findIn K (.ref CCo) "__getattr__" = some none)
    (xnbCo0 : PySem.W.findIn K (.ref CCo) "count" = some none)
    (xvVCo : PySem.W.findCls K (.type "ValueError") (.type "type") "__init__" = some (.val (.builtin "ValueError.__init__")))
    (xkCCo : PySem.W.keepIn K (.ref CCo) = true)
    (xeCCo : PySem.W.subIn K (.ref CCo) (.type "BaseException") = some true)
    (xtCCo : PySem.W.typeIn K (.ref CCo) = some (.type "type"))
    (xhCCo : PySem.W.hasDictIn K CCo = true)
    (xteCo : PySem.W.exmOne K (.ref CCo) (.ref CCo) = some true)
    (xC1Co : PySem.W.findIn K (.ref CCo) "__class__" = some (some (.builtin "object.__class__")))
    (xC4Co : PySem.W.mroIn K CCo (.type "object") = some true)
    (xC5Co : (PySem.W.clsIn K CCo).isSome = true)
    (xkvCo : PySem.W.kitOne K (.ref CCo) (.type "ValueError") = some true)
    (gCLa : PySem.W.nsIn K mainGlobals "BadLabel" = some (some (.ref CLa)))
    (xLLa : K.lookup CLa = some (excClassObj nmLa qLa CLa NLa bsLa [.type "ValueError", .type "Exception", .type "BaseException", .type "object"] true snLa subLa abLa colLa ddLa maLa mbLa mcLa mdLa meLa "ValueError.__new__"))
    (xsaLa : PySem.W.findIn K (.ref CLa) "__setattr__" = some (some (.builtin "object.__setattr__")))
    (xgaLa : PySem.W.findIn K (.ref CLa) "__getattribute__" = some (some (.builtin "BaseException.__getattribute__")))
    (xggLa : PySem.W.findIn K (.ref CLa) "__getattr__" = some none)
    (xnbLa0 : PySem.W.findIn K (.ref CLa) "label" = some none)
    (xvVLa : PySem.W.findCls K (.type "ValueError") (.type "type") "__init__" = some (.val (.builtin "ValueError.__init__")))
    (xkCLa : PySem.W.keepIn K (.ref CLa) = true)
    (xeCLa : PySem.W.subIn K (.ref CLa) (.type "BaseException") = some true)
    (xtCLa : PySem.W.typeIn K (.ref CLa) = some (.type "type"))
    (xhCLa : PySem.W.hasDictIn K CLa = true)
    (xteLa : PySem.W.exmOne K (.ref CLa) (.ref CLa) = some true)
    (xC1La : PySem.W.findIn K (.ref CLa) "__class__" = some (some (.builtin "object.__class__")))
    (xC4La : PySem.W.mroIn K CLa (.type "object") = some true)
    (xC5La : (PySem.W.clsIn K CLa).isSome = true)
    (xkvLa : PySem.W.kitOne K (.ref CLa) (.type "ValueError") = some true)
    (gCWo : PySem.W.nsIn K mainGlobals "BadWord" = some (some (.ref CWo)))
    (xLWo : K.lookup CWo = some (excClassObj nmWo qWo CWo NWo bsWo [.type "ValueError", .type "Exception", .type "BaseException", .type "object"] true snWo subWo abWo colWo ddWo maWo mbWo mcWo mdWo meWo "ValueError.__new__"))
    (xsaWo : PySem.W.findIn K (.ref CWo) "__setattr__" = some (some (.builtin "object.__setattr__")))
    (xgaWo : PySem.W.findIn K (.ref CWo) "__getattribute__" = some (some (.builtin "BaseException.__getattribute__")))
    (xggWo : PySem.W.findIn K (.ref CWo) "__getattr__" = some none)
    (xnbWo0 : PySem.W.findIn K (.ref CWo) "word" = some none)
    (xvVWo : PySem.W.findCls K (.type "ValueError") (.type "type") "__init__" = some (.val (.builtin "ValueError.__init__")))
    (xkCWo : PySem.W.keepIn K (.ref CWo) = true)
    (xeCWo : PySem.W.subIn K (.ref CWo) (.type "BaseException") = some true)
    (xtCWo : PySem.W.typeIn K (.ref CWo) = some (.type "type"))
    (xhCWo : PySem.W.hasDictIn K CWo = true)
    (xteWo : PySem.W.exmOne K (.ref CWo) (.ref CWo) = some true)
    (xC1Wo : PySem.W.findIn K (.ref CWo) "__class__" = some (some (.builtin "object.__class__")))
    (xC4Wo : PySem.W.mroIn K CWo (.type "object") = some true)
    (xC5Wo : (PySem.W.clsIn K CWo).isSome = true)
    (xkvWo : PySem.W.kitOne K (.ref CWo) (.type "ValueError") = some true)
    (gCFi : PySem.W.nsIn K mainGlobals "Finished" = some (some (.ref CFi)))
    (xLFi : K.lookup CFi = some (excClassObj nmFi qFi CFi NFi bsFi [.type "RuntimeError", .type "Exception", .type "BaseException", .type "object"] true snFi subFi abFi colFi ddFi maFi mbFi mcFi mdFi meFi "RuntimeError.__new__"))
    (xsaFi : PySem.W.findIn K (.ref CFi) "__setattr__" = some (some (.builtin "object.__setattr__")))
    (xgaFi : PySem.W.findIn K (.ref CFi) "__getattribute__" = some (some (.builtin "BaseException.__getattribute__")))
    (xggFi : PySem.W.findIn K (.ref CFi) "__getattr__" = some none)
    (xnbFi0 : PySem.W.findIn K (.ref CFi) "number" = some none)
    (xvVFi : PySem.W.findCls K (.type "RuntimeError") (.type "type") "__init__" = some (.val (.builtin "RuntimeError.__init__")))
    (xkCFi : PySem.W.keepIn K (.ref CFi) = true)
    (xeCFi : PySem.W.subIn K (.ref CFi) (.type "BaseException") = some true)
    (xtCFi : PySem.W.typeIn K (.ref CFi) = some (.type "type"))
    (xhCFi : PySem.W.hasDictIn K CFi = true)
    (xteFi : PySem.W.exmOne K (.ref CFi) (.ref CFi) = some true)
    (xC1Fi : PySem.W.findIn K (.ref CFi) "__class__" = some (some (.builtin "object.__class__")))
    (xC4Fi : PySem.W.mroIn K CFi (.type "object") = some true)
    (xC5Fi : (PySem.W.clsIn K CFi).isSome = true)
    (xkvFi : PySem.W.kitOne K (.ref CFi) (.type "RuntimeError") = some true)
    (gCRg : PySem.W.nsIn K mainGlobals "Registered" = some (some (.ref CRg)))
    (xLRg : K.lookup CRg = some (excClassObj nmRg qRg CRg NRg bsRg [.type "RuntimeError", .type "Exception", .type "BaseException", .type "object"] true snRg subRg abRg colRg ddRg maRg mbRg mcRg mdRg meRg "RuntimeError.__new__"))
    (xsaRg : PySem.W.findIn K (.ref CRg) "__setattr__" = some (some (.builtin "object.__setattr__")))
    (xgaRg : PySem.W.findIn K (.ref CRg) "__getattribute__" = some (some (.builtin "BaseException.__getattribute__")))
    (xggRg : PySem.W.findIn K (.ref CRg) "__getattr__" = some none)
    (xnbRg0 : PySem.W.findIn K (.ref CRg) "number" = some none)
    (xvVRg : PySem.W.findCls K (.type "RuntimeError") (.type "type") "__init__" = some (.val (.builtin "RuntimeError.__init__")))
    (xkCRg : PySem.W.keepIn K (.ref CRg) = true)
    (xeCRg : PySem.W.subIn K (.ref CRg) (.type "BaseException") = some true)
    (xtCRg : PySem.W.typeIn K (.ref CRg) = some (.type "type"))
    (xhCRg : PySem.W.hasDictIn K CRg = true)
    (xteRg : PySem.W.exmOne K (.ref CRg) (.ref CRg) = some true)
    (xC1Rg : PySem.W.findIn K (.ref CRg) "__class__" = some (some (.builtin "object.__class__")))
    (xC4Rg : PySem.W.mroIn K CRg (.type "object") = some true)
    (xC5Rg : (PySem.W.clsIn K CRg).isSome = true)
    (xkvRg : PySem.W.kitOne K (.ref CRg) (.type "RuntimeError") = some true)
    (gCTa : PySem.W.nsIn K mainGlobals "Taken" = some (some (.ref CTa)))
    (xLTa : K.lookup CTa = some (excClassObj nmTa qTa CTa NTa bsTa [.type "RuntimeError", .type "Exception", .type "BaseException", .type "object"] true snTa subTa abTa colTa ddTa maTa mbTa mcTa mdTa meTa "RuntimeError.__new__"))
    (xsaTa : PySem.W.findIn K (.ref CTa) "__setattr__" = some (some (.builtin "object.__setattr__")))
    (xgaTa : PySem.W.findIn K (.ref CTa) "__getattribute__" = some (some (.builtin "BaseException.__getattribute__")))
    (xggTa : PySem.W.findIn K (.ref CTa) "__getattr__" = some none)
    (xnbTa0 : PySem.W.findIn K (.ref CTa) "label" = some none)
    (xvVTa : PySem.W.findCls K (.type "RuntimeError") (.type "type") "__init__" = some (.val (.builtin "RuntimeError.__init__")))
    (xkCTa : PySem.W.keepIn K (.ref CTa) = true)
    (xeCTa : PySem.W.subIn K (.ref CTa) (.type "BaseException") = some true)
    (xtCTa : PySem.W.typeIn K (.ref CTa) = some (.type "type"))
    (xhCTa : PySem.W.hasDictIn K CTa = true)
    (xteTa : PySem.W.exmOne K (.ref CTa) (.ref CTa) = some true)
    (xC1Ta : PySem.W.findIn K (.ref CTa) "__class__" = some (some (.builtin "object.__class__")))
    (xC4Ta : PySem.W.mroIn K CTa (.type "object") = some true)
    (xC5Ta : (PySem.W.clsIn K CTa).isSome = true)
    (xkvTa : PySem.W.kitOne K (.ref CTa) (.type "RuntimeError") = some true)
    (gCNr : PySem.W.nsIn K mainGlobals "NotRegistered" = some (some (.ref CNr)))
    (xLNr : K.lookup CNr = some (excClassObj nmNr qNr CNr NNr bsNr [.type "LookupError", .type "Exception", .type "BaseException", .type "object"] true snNr subNr abNr colNr ddNr maNr mbNr mcNr mdNr meNr "LookupError.__new__"))
    (xsaNr : PySem.W.findIn K (.ref CNr) "__setattr__" = some (some (.builtin "object.__setattr__")))
    (xgaNr : PySem.W.findIn K (.ref CNr) "__getattribute__" = some (some (.builtin "BaseException.__getattribute__")))
    (xggNr : PySem.W.findIn K (.ref CNr) "__getattr__" = some none)
    (xnbNr0 : PySem.W.findIn K (.ref CNr) "number" = some none)
    (xvVNr : PySem.W.findCls K (.type "LookupError") (.type "type") "__init__" = some (.val (.builtin "LookupError.__init__")))
    (xkCNr : PySem.W.keepIn K (.ref CNr) = true)
    (xeCNr : PySem.W.subIn K (.ref CNr) (.type "BaseException") = some true)
    (xtCNr : PySem.W.typeIn K (.ref CNr) = some (.type "type"))
    (xhCNr : PySem.W.hasDictIn K CNr = true)
    (xteNr : PySem.W.exmOne K (.ref CNr) (.ref CNr) = some true)
    (xC1Nr : PySem.W.findIn K (.ref CNr) "__class__" = some (some (.builtin "object.__class__")))
    (xC4Nr : PySem.W.mroIn K CNr (.type "object") = some true)
    (xC5Nr : (PySem.W.clsIn K CNr).isSome = true)
    (xkvNr : PySem.W.kitOne K (.ref CNr) (.type "LookupError") = some true)
    (aint : PySem.W.nsIn K mainGlobals "is_integer" = some (some (.ref f_int)))
    (kint : PySem.W.keepIn K (.ref f_int) = true)
    (F0int : FunD K "is_integer" "is_integer" (defArgs sIsInteger) (defBody sIsInteger) (defScope sIsInteger) ([] : List V) ([] : List (Str × V)) f_int fd_int)
    (abet : PySem.W.nsIn K mainGlobals "is_between" = some (some (.ref f_bet)))
    (kbet : PySem.W.keepIn K (.ref f_bet) = true)
    (F0bet : FunD K "is_between" "is_between" (defArgs sIsBetween) (defBody sIsBetween) (defScope sIsBetween) ([] : List V) ([] : List (Str × V)) f_bet fd_bet)
    (acnt : PySem.W.nsIn K mainGlobals "is_count" = some (some (.ref f_cnt)))
    (kcnt : PySem.W.keepIn K (.ref f_cnt) = true)
    (F0cnt : FunD K "is_count" "is_count" (defArgs sIsCount) (defBody sIsCount) (defScope sIsCount) ([] : List V) ([] : List (Str × V)) f_cnt fd_cnt)
    (alab : PySem.W.nsIn K mainGlobals "is_label" = some (some (.ref f_lab)))
    (klab : PySem.W.keepIn K (.ref f_lab) = true)
    (F0lab : FunD K "is_label" "is_label" (defArgs sIsLabel) (defBody sIsLabel) (defScope sIsLabel) ([] : List V) ([] : List (Str × V)) f_lab fd_lab)
    (awrd : PySem.W.nsIn K mainGlobals "is_word" = some (some (.ref f_wrd)))
    (kwrd : PySem.W.keepIn K (.ref f_wrd) = true)
    (F0wrd : FunD K "is_word" "is_word" (defArgs sIsWord) (defBody sIsWord) (defScope sIsWord) ([] : List V) ([] : List (Str × V)) f_wrd fd_wrd)
    (abag : PySem.W.nsIn K mainGlobals "_law_bag" = some (some (.ref f_bag)))
    (kbag : PySem.W.keepIn K (.ref f_bag) = true)
    (F0bag : FunD K "_law_bag" "_law_bag" (defArgs sBag) (defBody sBag) (defScope sBag) ([] : List V) ([] : List (Str × V)) f_bag fd_bag)
    (atake : PySem.W.nsIn K mainGlobals "_law_take" = some (some (.ref f_take)))
    (ktake : PySem.W.keepIn K (.ref f_take) = true)
    (F0take : FunD K "_law_take" "_law_take" (defArgs sTake) (defBody sTake) (defScope sTake) ([] : List V) ([] : List (Str × V)) f_take fd_take)
    (aof : PySem.W.nsIn K mainGlobals "_law_of" = some (some (.ref f_of)))
    (kof : PySem.W.keepIn K (.ref f_of) = true)
    (F0of : FunD K "_law_of" "_law_of" (defArgs sOf) (defBody sOf) (defScope sOf) ([] : List V) ([] : List (Str × V)) f_of fd_of)
    (aunr : PySem.W.nsIn K mainGlobals "_law_unreached" = some (some (.ref f_unr)))
    (kunr : PySem.W.keepIn K (.ref f_unr) = true)
    (F0unr : FunD K "_law_unreached" "_law_unreached" (defArgs sUnreached) (defBody sUnreached) (defScope sUnreached) ([] : List V) ([] : List (Str × V)) f_unr fd_unr)
    (arou : PySem.W.nsIn K mainGlobals "_law_round" = some (some (.ref f_rou)))
    (krou : PySem.W.keepIn K (.ref f_rou) = true)
    (F0rou : FunD K "_law_round" "_law_round" (defArgs sRound) (defBody sRound) (defScope sRound) ([] : List V) ([] : List (Str × V)) f_rou fd_rou)
    (alrp : PySem.W.nsIn K mainGlobals "_law_reports" = some (some (.ref f_lrp)))
    (klrp : PySem.W.keepIn K (.ref f_lrp) = true)
    (F0lrp : FunD K "_law_reports" "_law_reports" (defArgs sLawReports) (defBody sLawReports) (defScope sLawReports) ([] : List V) ([] : List (Str × V)) f_lrp fd_lrp)
    (aldr : PySem.W.nsIn K mainGlobals "_law_dropped" = some (some (.ref f_ldr)))
    (kldr : PySem.W.keepIn K (.ref f_ldr) = true)
    (F0ldr : FunD K "_law_dropped" "_law_dropped" (defArgs sDropped) (defBody sDropped) (defScope sDropped) ([] : List V) ([] : List (Str × V)) f_ldr fd_ldr)
    (alaw : PySem.W.nsIn K mainGlobals "law" = some (some (.ref f_law)))
    (klaw : PySem.W.keepIn K (.ref f_law) = true)
    (F0law : FunD K "law" "law" (defArgs sLaw) (defBody sLaw) (defScope sLaw) ([] : List V) ([] : List (Str × V)) f_law fd_law)
    (axPr : PySem.W.findIn K (.ref CPr) "__init__" = some (some (.ref f_xPr)))
    (ixPr : PySem.W.isFn K (.ref f_xPr) = true)
    (kxPr : PySem.W.keepIn K (.ref f_xPr) = true)
    (F0xPr : FunD K "__init__" "NoProcess.__init__" (defArgs sNoProcessInit) (defBody sNoProcessInit) (defScope sNoProcessInit) ([] : List V) ([] : List (Str × V)) f_xPr fd_xPr)
    (axOp : PySem.W.findIn K (.ref COp) "__init__" = some (some (.ref f_xOp)))
    (ixOp : PySem.W.isFn K (.ref f_xOp) = true)
    (kxOp : PySem.W.keepIn K (.ref f_xOp) = true)
    (F0xOp : FunD K "__init__" "NotOpen.__init__" (defArgs sNotOpenInit) (defBody sNotOpenInit) (defScope sNotOpenInit) ([] : List V) ([] : List (Str × V)) f_xOp fd_xOp)
    (axNu : PySem.W.findIn K (.ref CNu) "__init__" = some (some (.ref f_xNu)))
    (ixNu : PySem.W.isFn K (.ref f_xNu) = true)
    (kxNu : PySem.W.keepIn K (.ref f_xNu) = true)
    (F0xNu : FunD K "__init__" "NoNumber.__init__" (defArgs sNoNumberInit) (defBody sNoNumberInit) (defScope sNoNumberInit) ([] : List V) ([] : List (Str × V)) f_xNu fd_xNu)
    (axNs : PySem.W.findIn K (.ref CNs) "__init__" = some (some (.ref f_xNs)))
    (ixNs : PySem.W.isFn K (.ref f_xNs) = true)
    (kxNs : PySem.W.keepIn K (.ref f_xNs) = true)
    (F0xNs : FunD K "__init__" "NotASource.__init__" (defArgs sNotASourceInit) (defBody sNotASourceInit) (defScope sNotASourceInit) ([] : List V) ([] : List (Str × V)) f_xNs fd_xNs)
    (axNt : PySem.W.findIn K (.ref CNt) "__init__" = some (some (.ref f_xNt)))
    (ixNt : PySem.W.isFn K (.ref f_xNt) = true)
    (kxNt : PySem.W.keepIn K (.ref f_xNt) = true)
    (F0xNt : FunD K "__init__" "NotASet.__init__" (defArgs sNotASetInit) (defBody sNotASetInit) (defScope sNotASetInit) ([] : List V) ([] : List (Str × V)) f_xNt fd_xNt)
    (axFu : PySem.W.findIn K (.ref CFu) "__init__" = some (some (.ref f_xFu)))
    (ixFu : PySem.W.isFn K (.ref f_xFu) = true)
    (kxFu : PySem.W.keepIn K (.ref f_xFu) = true)
    (F0xFu : FunD K "__init__" "Full.__init__" (defArgs sFullInit) (defBody sFullInit) (defScope sFullInit) ([] : List V) ([] : List (Str × V)) f_xFu fd_xFu)
    (axNo : PySem.W.findIn K (.ref CNo) "__init__" = some (some (.ref f_xNo)))
    (ixNo : PySem.W.isFn K (.ref f_xNo) = true)
    (kxNo : PySem.W.keepIn K (.ref f_xNo) = true)
    (F0xNo : FunD K "__init__" "NoRoom.__init__" (defArgs sNoRoomInit) (defBody sNoRoomInit) (defScope sNoRoomInit) ([] : List V) ([] : List (Str × V)) f_xNo fd_xNo)
    (axCo : PySem.W.findIn K (.ref CCo) "__init__" = some (some (.ref f_xCo)))
    (ixCo : PySem.W.isFn K (.ref f_xCo) = true)
    (kxCo : PySem.W.keepIn K (.ref f_xCo) = true)
    (F0xCo : FunD K "__init__" "BadCount.__init__" (defArgs sBadCountInit) (defBody sBadCountInit) (defScope sBadCountInit) ([] : List V) ([] : List (Str × V)) f_xCo fd_xCo)
    (axLa : PySem.W.findIn K (.ref CLa) "__init__" = some (some (.ref f_xLa)))
    (ixLa : PySem.W.isFn K (.ref f_xLa) = true)
    (kxLa : PySem.W.keepIn K (.ref f_xLa) = true)
    (F0xLa : FunD K "__init__" "BadLabel.__init__" (defArgs sBadLabelInit) (defBody sBadLabelInit) (defScope sBadLabelInit) ([] : List V) ([] : List (Str × V)) f_xLa fd_xLa)
    (axWo : PySem.W.findIn K (.ref CWo) "__init__" = some (some (.ref f_xWo)))
    (ixWo : PySem.W.isFn K (.ref f_xWo) = true)
    (kxWo : PySem.W.keepIn K (.ref f_xWo) = true)
    (F0xWo : FunD K "__init__" "BadWord.__init__" (defArgs sBadWordInit) (defBody sBadWordInit) (defScope sBadWordInit) ([] : List V) ([] : List (Str × V)) f_xWo fd_xWo)
    (axFi : PySem.W.findIn K (.ref CFi) "__init__" = some (some (.ref f_xFi)))
    (ixFi : PySem.W.isFn K (.ref f_xFi) = true)
    (kxFi : PySem.W.keepIn K (.ref f_xFi) = true)
    (F0xFi : FunD K "__init__" "Finished.__init__" (defArgs sFinishedInit) (defBody sFinishedInit) (defScope sFinishedInit) ([] : List V) ([] : List (Str × V)) f_xFi fd_xFi)
    (axRg : PySem.W.findIn K (.ref CRg) "__init__" = some (some (.ref f_xRg)))
    (ixRg : PySem.W.isFn K (.ref f_xRg) = true)
    (kxRg : PySem.W.keepIn K (.ref f_xRg) = true)
    (F0xRg : FunD K "__init__" "Registered.__init__" (defArgs sRegisteredInit) (defBody sRegisteredInit) (defScope sRegisteredInit) ([] : List V) ([] : List (Str × V)) f_xRg fd_xRg)
    (axTa : PySem.W.findIn K (.ref CTa) "__init__" = some (some (.ref f_xTa)))
    (ixTa : PySem.W.isFn K (.ref f_xTa) = true)
    (kxTa : PySem.W.keepIn K (.ref f_xTa) = true)
    (F0xTa : FunD K "__init__" "Taken.__init__" (defArgs sTakenInit) (defBody sTakenInit) (defScope sTakenInit) ([] : List V) ([] : List (Str × V)) f_xTa fd_xTa)
    (axNr : PySem.W.findIn K (.ref CNr) "__init__" = some (some (.ref f_xNr)))
    (ixNr : PySem.W.isFn K (.ref f_xNr) = true)
    (kxNr : PySem.W.keepIn K (.ref f_xNr) = true)
    (F0xNr : FunD K "__init__" "NotRegistered.__init__" (defArgs sNotRegisteredInit) (defBody sNotRegisteredInit) (defScope sNotRegisteredInit) ([] : List V) ([] : List (Str × V)) f_xNr fd_xNr)
    (ari : PySem.W.findIn K (.ref CR) "__init__" = some (some (.ref f_ri)))
    (iri : PySem.W.isFn K (.ref f_ri) = true)
    (kri : PySem.W.keepIn K (.ref f_ri) = true)
    (F0ri : FunD K "__init__" "Registration.__init__" (defArgs sRegInit) (defBody sRegInit) (defScope sRegInit) ([] : List V) ([] : List (Str × V)) f_ri fd_ri)
    (awi : PySem.W.findIn K (.ref CW) "__init__" = some (some (.ref f_wi)))
    (iwi : PySem.W.isFn K (.ref f_wi) = true)
    (kwi : PySem.W.keepIn K (.ref f_wi) = true)
    (F0wi : FunD K "__init__" "WaitingSet.__init__" (defArgs sWsInit) (defBody sWsInit) (defScope sWsInit) ([] : List V) ([] : List (Str × V)) f_wi fd_wi)
    (alof : PySem.W.findIn K (.ref CW) "label_of" = some (some (.ref f_lof)))
    (ilof : PySem.W.isFn K (.ref f_lof) = true)
    (klof : PySem.W.keepIn K (.ref f_lof) = true)
    (F0lof : FunD K "label_of" "WaitingSet.label_of" (defArgs sLabelOf) (defBody sLabelOf) (defScope sLabelOf) ([] : List V) ([] : List (Str × V)) f_lof fd_lof)
    (aput : PySem.W.findIn K (.ref CW) "put" = some (some (.ref f_put)))
    (iput : PySem.W.isFn K (.ref f_put) = true)
    (kput : PySem.W.keepIn K (.ref f_put) = true)
    (F0put : FunD K "put" "WaitingSet.put" (defArgs sPut) (defBody sPut) (defScope sPut) ([] : List V) ([] : List (Str × V)) f_put fd_put)
    (aapp : PySem.W.findIn K (.ref CW) "append_pending" = some (some (.ref f_app)))
    (iapp : PySem.W.isFn K (.ref f_app) = true)
    (kapp : PySem.W.keepIn K (.ref f_app) = true)
    (F0app : FunD K "append_pending" "WaitingSet.append_pending" (defArgs sAppend) (defBody sAppend) (defScope sAppend) ([] : List V) ([] : List (Str × V)) f_app fd_app)
    (adrp : PySem.W.findIn K (.ref CW) "drop" = some (some (.ref f_drp)))
    (idrp : PySem.W.isFn K (.ref f_drp) = true)
    (kdrp : PySem.W.keepIn K (.ref f_drp) = true)
    (F0drp : FunD K "drop" "WaitingSet.drop" (defArgs sDrop) (defBody sDrop) (defScope sDrop) ([] : List V) ([] : List (Str × V)) f_drp fd_drp)
    (adso : PySem.W.findIn K (.ref CW) "drop_source" = some (some (.ref f_dso)))
    (idso : PySem.W.isFn K (.ref f_dso) = true)
    (kdso : PySem.W.keepIn K (.ref f_dso) = true)
    (F0dso : FunD K "drop_source" "WaitingSet.drop_source" (defArgs sDropSource) (defBody sDropSource) (defScope sDropSource) ([] : List V) ([] : List (Str × V)) f_dso fd_dso)
    (antc : PySem.W.findIn K (.ref CW) "notice" = some (some (.ref f_ntc)))
    (intc : PySem.W.isFn K (.ref f_ntc) = true)
    (kntc : PySem.W.keepIn K (.ref f_ntc) = true)
    (F0ntc : FunD K "notice" "WaitingSet.notice" (defArgs sNotice) (defBody sNotice) (defScope sNotice) ([] : List V) ([] : List (Str × V)) f_ntc fd_ntc)
    (arep : PySem.W.findIn K (.ref CW) "take_reports" = some (some (.ref f_rep)))
    (irep : PySem.W.isFn K (.ref f_rep) = true)
    (krep : PySem.W.keepIn K (.ref f_rep) = true)
    (F0rep : FunD K "take_reports" "WaitingSet.take_reports" (defArgs sReports) (defBody sReports) (defScope sReports) ([] : List V) ([] : List (Str × V)) f_rep fd_rep)
    (astl : PySem.W.findIn K (.ref CW) "settle" = some (some (.ref f_stl)))
    (istl : PySem.W.isFn K (.ref f_stl) = true)
    (kstl : PySem.W.keepIn K (.ref f_stl) = true)
    (F0stl : FunD K "settle" "WaitingSet.settle" (defArgs sSettle) (defBody sSettle) (defScope sSettle) ([] : List V) ([] : List (Str × V)) f_stl fd_stl)
    (asi : PySem.W.findIn K (.ref CS) "__init__" = some (some (.ref f_si)))
    (isi : PySem.W.isFn K (.ref f_si) = true)
    (ksi : PySem.W.keepIn K (.ref f_si) = true)
    (F0si : FunD K "__init__" "System.__init__" (defArgs sSysInit) (defBody sSysInit) (defScope sSysInit) ([] : List V) ([("processes", V.int 4), ("numbers", V.int 8)] : List (Str × V)) f_si fd_si)
    (acon : PySem.W.findIn K (.ref CS) "__contains__" = some (some (.ref f_con)))
    (icon : PySem.W.isFn K (.ref f_con) = true)
    (kcon : PySem.W.keepIn K (.ref f_con) = true)
    (F0con : FunD K "__contains__" "System.__contains__" (defArgs sContains) (defBody sContains) (defScope sContains) ([] : List V) ([] : List (Str × V)) f_con fd_con)
    (alen : PySem.W.findIn K (.ref CS) "__len__" = some (some (.ref f_len)))
    (ilen : PySem.W.isFn K (.ref f_len) = true)
    (klen : PySem.W.keepIn K (.ref f_len) = true)
    (F0len : FunD K "__len__" "System.__len__" (defArgs sLen) (defBody sLen) (defScope sLen) ([] : List V) ([] : List (Str × V)) f_len fd_len)
    (atof : PySem.W.findIn K (.ref CS) "table_of" = some (some (.ref f_tof)))
    (itof : PySem.W.isFn K (.ref f_tof) = true)
    (ktof : PySem.W.keepIn K (.ref f_tof) = true)
    (F0tof : FunD K "table_of" "System.table_of" (defArgs sTableOf) (defBody sTableOf) (defScope sTableOf) ([] : List V) ([] : List (Str × V)) f_tof fd_tof)
    (aitn : PySem.W.findIn K (.ref CS) "is_table_number" = some (some (.ref f_itn)))
    (iitn : PySem.W.isFn K (.ref f_itn) = true)
    (kitn : PySem.W.keepIn K (.ref f_itn) = true)
    (F0itn : FunD K "is_table_number" "System.is_table_number" (defArgs sIsTabNum) (defBody sIsTabNum) (defScope sIsTabNum) ([] : List V) ([] : List (Str × V)) f_itn fd_itn)
    (atha : PySem.W.findIn K (.ref CS) "thing_at" = some (some (.ref f_tha)))
    (itha : PySem.W.isFn K (.ref f_tha) = true)
    (ktha : PySem.W.keepIn K (.ref f_tha) = true)
    (F0tha : FunD K "thing_at" "System.thing_at" (defArgs sThingAt) (defBody sThingAt) (defScope sThingAt) ([] : List V) ([] : List (Str × V)) f_tha fd_tha)
    (asra : PySem.W.findIn K (.ref CS) "source_at" = some (some (.ref f_sra)))
    (isra : PySem.W.isFn K (.ref f_sra) = true)
    (ksra : PySem.W.keepIn K (.ref f_sra) = true)
    (F0sra : FunD K "source_at" "System.source_at" (defArgs sSourceAt) (defBody sSourceAt) (defScope sSourceAt) ([] : List V) ([] : List (Str × V)) f_sra fd_sra)
    (asta : PySem.W.findIn K (.ref CS) "set_at" = some (some (.ref f_sta)))
    (ista : PySem.W.isFn K (.ref f_sta) = true)
    (ksta : PySem.W.keepIn K (.ref f_sta) = true)
    (F0sta : FunD K "set_at" "System.set_at" (defArgs sSetAt) (defBody sSetAt) (defScope sSetAt) ([] : List V) ([] : List (Str × V)) f_sta fd_sta)
    (afrn : PySem.W.findIn K (.ref CS) "free_number" = some (some (.ref f_frn)))
    (ifrn : PySem.W.isFn K (.ref f_frn) = true)
    (kfrn : PySem.W.keepIn K (.ref f_frn) = true)
    (F0frn : FunD K "free_number" "System.free_number" (defArgs sFreeNum) (defBody sFreeNum) (defScope sFreeNum) ([] : List V) ([] : List (Str × V)) f_frn fd_frn)
    (anth : PySem.W.findIn K (.ref CS) "new_thing" = some (some (.ref f_nth)))
    (inth : PySem.W.isFn K (.ref f_nth) = true)
    (knth : PySem.W.keepIn K (.ref f_nth) = true)
    (F0nth : FunD K "new_thing" "System.new_thing" (defArgs sNewThing) (defBody sNewThing) (defScope sNewThing) ([] : List V) ([] : List (Str × V)) f_nth fd_nth)
    (anso : PySem.W.findIn K (.ref CS) "new_source" = some (some (.ref f_nso)))
    (inso : PySem.W.isFn K (.ref f_nso) = true)
    (knso : PySem.W.keepIn K (.ref f_nso) = true)
    (F0nso : FunD K "new_source" "System.new_source" (defArgs sNewSource) (defBody sNewSource) (defScope sNewSource) ([] : List V) ([] : List (Str × V)) f_nso fd_nso)
    (anse : PySem.W.findIn K (.ref CS) "new_set" = some (some (.ref f_nse)))
    (inse : PySem.W.isFn K (.ref f_nse) = true)
    (knse : PySem.W.keepIn K (.ref f_nse) = true)
    (F0nse : FunD K "new_set" "System.new_set" (defArgs sNewSet) (defBody sNewSet) (defScope sNewSet) ([] : List V) ([] : List (Str × V)) f_nse fd_nse)
    (ardy : PySem.W.findIn K (.ref CS) "is_ready" = some (some (.ref f_rdy)))
    (irdy : PySem.W.isFn K (.ref f_rdy) = true)
    (krdy : PySem.W.keepIn K (.ref f_rdy) = true)
    (F0rdy : FunD K "is_ready" "System.is_ready" (defArgs sIsReady) (defBody sIsReady) (defScope sIsReady) ([] : List V) ([] : List (Str × V)) f_rdy fd_rdy)
    (aunf : PySem.W.findIn K (.ref CS) "unread_of_unfinished" = some (some (.ref f_unf)))
    (iunf : PySem.W.isFn K (.ref f_unf) = true)
    (kunf : PySem.W.keepIn K (.ref f_unf) = true)
    (F0unf : FunD K "unread_of_unfinished" "System.unread_of_unfinished" (defArgs sUnfinished) (defBody sUnfinished) (defScope sUnfinished) ([] : List V) ([] : List (Str × V)) f_unf fd_unf)
    (anfy : PySem.W.findIn K (.ref CS) "notify" = some (some (.ref f_nfy)))
    (infy : PySem.W.isFn K (.ref f_nfy) = true)
    (knfy : PySem.W.keepIn K (.ref f_nfy) = true)
    (F0nfy : FunD K "notify" "System.notify" (defArgs sNotify) (defBody sNotify) (defScope sNotify) ([] : List V) ([] : List (Str × V)) f_nfy fd_nfy)
    (aetg : PySem.W.findIn K (.ref CS) "end_thing" = some (some (.ref f_etg)))
    (ietg : PySem.W.isFn K (.ref f_etg) = true)
    (ketg : PySem.W.keepIn K (.ref f_etg) = true)
    (F0etg : FunD K "end_thing" "System.end_thing" (defArgs sEndThing) (defBody sEndThing) (defScope sEndThing) ([] : List V) ([] : List (Str × V)) f_etg fd_etg)
    (aarr : PySem.W.findIn K (.ref CS) "arrive" = some (some (.ref f_arr)))
    (iarr : PySem.W.isFn K (.ref f_arr) = true)
    (karr : PySem.W.keepIn K (.ref f_arr) = true)
    (F0arr : FunD K "arrive" "System.arrive" (defArgs sArrive) (defBody sArrive) (defScope sArrive) ([V.int 1] : List V) ([] : List (Str × V)) f_arr fd_arr)
    (ared : PySem.W.findIn K (.ref CS) "read" = some (some (.ref f_red)))
    (ired : PySem.W.isFn K (.ref f_red) = true)
    (kred : PySem.W.keepIn K (.ref f_red) = true)
    (F0red : FunD K "read" "System.read" (defArgs sRead) (defBody sRead) (defScope sRead) ([V.non] : List V) ([] : List (Str × V)) f_red fd_red)
    (awai : PySem.W.findIn K (.ref CS) "wait" = some (some (.ref f_wai)))
    (iwai : PySem.W.isFn K (.ref f_wai) = true)
    (kwai : PySem.W.keepIn K (.ref f_wai) = true)
    (F0wai : FunD K "wait" "System.wait" (defArgs sWait) (defBody sWait) (defScope sWait) ([V.int 1] : List V) ([] : List (Str × V)) f_wai fd_wai)
    (aadd : PySem.W.findIn K (.ref CS) "add" = some (some (.ref f_add)))
    (iadd : PySem.W.isFn K (.ref f_add) = true)
    (kadd : PySem.W.keepIn K (.ref f_add) = true)
    (F0add : FunD K "add" "System.add" (defArgs sAdd) (defBody sAdd) (defScope sAdd) ([] : List V) ([("word", V.str "level")] : List (Str × V)) f_add fd_add)
    (achg : PySem.W.findIn K (.ref CS) "change" = some (some (.ref f_chg)))
    (ichg : PySem.W.isFn K (.ref f_chg) = true)
    (kchg : PySem.W.keepIn K (.ref f_chg) = true)
    (F0chg : FunD K "change" "System.change" (defArgs sChange) (defBody sChange) (defScope sChange) ([] : List V) ([] : List (Str × V)) f_chg fd_chg)
    (arem : PySem.W.findIn K (.ref CS) "remove" = some (some (.ref f_rem)))
    (irem : PySem.W.isFn K (.ref f_rem) = true)
    (krem : PySem.W.keepIn K (.ref f_rem) = true)
    (F0rem : FunD K "remove" "System.remove" (defArgs sRemove) (defBody sRemove) (defScope sRemove) ([] : List V) ([] : List (Str × V)) f_rem fd_rem)
    (afre : PySem.W.findIn K (.ref CS) "free" = some (some (.ref f_fre)))
    (ifre : PySem.W.isFn K (.ref f_fre) = true)
    (kfre : PySem.W.keepIn K (.ref f_fre) = true)
    (F0fre : FunD K "free" "System.free" (defArgs sFree) (defBody sFree) (defScope sFree) ([] : List V) ([] : List (Str × V)) f_fre fd_fre)
    (aclo : PySem.W.findIn K (.ref CS) "close" = some (some (.ref f_clo)))
    (iclo : PySem.W.isFn K (.ref f_clo) = true)
    (kclo : PySem.W.keepIn K (.ref f_clo) = true)
    (F0clo : FunD K "close" "System.close" (defArgs sClose) (defBody sClose) (defScope sClose) ([] : List V) ([] : List (Str × V)) f_clo fd_clo)
    (acpy : PySem.W.findIn K (.ref CS) "copy" = some (some (.ref f_cpy)))
    (icpy : PySem.W.isFn K (.ref f_cpy) = true)
    (kcpy : PySem.W.keepIn K (.ref f_cpy) = true)
    (F0cpy : FunD K "copy" "System.copy" (defArgs sCopy) (defBody sCopy) (defScope sCopy) ([V.non] : List V) ([] : List (Str × V)) f_cpy fd_cpy)
    (afrp : PySem.W.findIn K (.ref CS) "free_process" = some (some (.ref f_frp)))
    (ifrp : PySem.W.isFn K (.ref f_frp) = true)
    (kfrp : PySem.W.keepIn K (.ref f_frp) = true)
    (F0frp : FunD K "free_process" "System.free_process" (defArgs sFreeProc) (defBody sFreeProc) (defScope sFreeProc) ([] : List V) ([] : List (Str × V)) f_frp fd_frp)
    (afrk : PySem.W.findIn K (.ref CS) "fork" = some (some (.ref f_frk)))
    (ifrk : PySem.W.isFn K (.ref f_frk) = true)
    (kfrk : PySem.W.keepIn K (.ref f_frk) = true)
    (F0frk : FunD K "fork" "System.fork" (defArgs sFork) (defBody sFork) (defScope sFork) ([] : List V) ([] : List (Str × V)) f_frk fd_frk)
    (anum : PySem.W.findIn K (.ref CS) "numbers" = some (some (.ref f_num)))
    (inum : PySem.W.isFn K (.ref f_num) = true)
    (knum : PySem.W.keepIn K (.ref f_num) = true)
    (F0num : FunD K "numbers" "System.numbers" (defArgs sNumbers) (defBody sNumbers) (defScope sNumbers) ([] : List V) ([] : List (Str × V)) f_num fd_num)
    (atng : PySem.W.findIn K (.ref CS) "things" = some (some (.ref f_tng)))
    (itng : PySem.W.isFn K (.ref f_tng) = true)
    (ktng : PySem.W.keepIn K (.ref f_tng) = true)
    (F0tng : FunD K "things" "System.things" (defArgs sThings) (defBody sThings) (defScope sThings) ([] : List V) ([] : List (Str × V)) f_tng fd_tng)
    (anof : PySem.W.findIn K (.ref CS) "numbers_of" = some (some (.ref f_nof)))
    (inof : PySem.W.isFn K (.ref f_nof) = true)
    (knof : PySem.W.keepIn K (.ref f_nof) = true)
    (F0nof : FunD K "numbers_of" "System.numbers_of" (defArgs sNumbersOf) (defBody sNumbersOf) (defScope sNumbersOf) ([] : List V) ([] : List (Str × V)) f_nof fd_nof)
    (anam : PySem.W.findIn K (.ref CS) "name_of" = some (some (.ref f_nam)))
    (inam : PySem.W.isFn K (.ref f_nam) = true)
    (knam : PySem.W.keepIn K (.ref f_nam) = true)
    (F0nam : FunD K "name_of" "System.name_of" (defArgs sNameOf) (defBody sNameOf) (defScope sNameOf) ([] : List V) ([] : List (Str × V)) f_nam fd_nam)
    (areg : PySem.W.findIn K (.ref CS) "registrations" = some (some (.ref f_reg)))
    (ireg : PySem.W.isFn K (.ref f_reg) = true)
    (kreg : PySem.W.keepIn K (.ref f_reg) = true)
    (F0reg : FunD K "registrations" "System.registrations" (defArgs sRegistrations) (defBody sRegistrations) (defScope sRegistrations) ([] : List V) ([] : List (Str × V)) f_reg fd_reg)
    (xtIPr : PySem.W.typeIn K (.ref f_xPr) = some (.type "function"))
    (xtIOp : PySem.W.typeIn K (.ref f_xOp) = some (.type "function"))
    (xtINu : PySem.W.typeIn K (.ref f_xNu) = some (.type "function"))
    (xtINs : PySem.W.typeIn K (.ref f_xNs) = some (.type "function"))
    (xtINt : PySem.W.typeIn K (.ref f_xNt) = some (.type "function"))
    (xtIFu : PySem.W.typeIn K (.ref f_xFu) = some (.type "function"))
    (xtINo : PySem.W.typeIn K (.ref f_xNo) = some (.type "function"))
    (xtICo : PySem.W.typeIn K (.ref f_xCo) = some (.type "function"))
    (xtILa : PySem.W.typeIn K (.ref f_xLa) = some (.type "function"))
    (xtIWo : PySem.W.typeIn K (.ref f_xWo) = some (.type "function"))
    (xtIFi : PySem.W.typeIn K (.ref f_xFi) = some (.type "function"))
    (xtIRg : PySem.W.typeIn K (.ref f_xRg) = some (.type "function"))
    (xtITa : PySem.W.typeIn K (.ref f_xTa) = some (.type "function"))
    (xtINr : PySem.W.typeIn K (.ref f_xNr) = some (.type "function"))
    (xOpNr : PySem.W.exmOne K (.ref COp) (.ref CNr) = some false)
    (z_len : PySem.W.nsIn K mainGlobals "len" = some none)
    (z_enumerate : PySem.W.nsIn K mainGlobals "enumerate" = some none)
    (z_int : PySem.W.nsIn K mainGlobals "int" = some none)
    (z_abs : PySem.W.nsIn K mainGlobals "abs" = some none)
    (z_isinstance : PySem.W.nsIn K mainGlobals "isinstance" = some none)
    (z_bool : PySem.W.nsIn K mainGlobals "bool" = some none)
    (z_list : PySem.W.nsIn K mainGlobals "list" = some none)
    (z_min : PySem.W.nsIn K mainGlobals "min" = some none)
    (z_max : PySem.W.nsIn K mainGlobals "max" = some none)
    (z_range : PySem.W.nsIn K mainGlobals "range" = some none)
    (z_sorted : PySem.W.nsIn K mainGlobals "sorted" = some none)
    (z_any : PySem.W.nsIn K mainGlobals "any" = some none)
    (z_LookupError : PySem.W.nsIn K mainGlobals "LookupError" = some none)
    (z_RuntimeError : PySem.W.nsIn K mainGlobals "RuntimeError" = some none)
    (z_TypeError : PySem.W.nsIn K mainGlobals "TypeError" = some none)
    (z_ValueError : PySem.W.nsIn K mainGlobals "ValueError" = some none)
    (z_OverflowError : PySem.W.nsIn K mainGlobals "OverflowError" = some none)
    (wA : PySem.W.nsIn K mainGlobals "WORDS" = some (some (.ref wW)))
    (LW0 : K.lookup wW = some ⟨.type "tuple", dW, .seq #[.str "level" tW0, .str "edge" tW1, .str "once" tW2] nW, sW⟩)
    (gMC : PySem.W.nsIn K mainGlobals "MOST_COUNT" = some (some (.int 1000000 tMC)))
    (gML : PySem.W.nsIn K mainGlobals "MOST_LABEL" = some (some (.int 999999 tML)))
    (gLP : PySem.W.nsIn K mainGlobals "LEAST_PROCESSES" = some (some (.int 2 tLP)))
    (gLN : PySem.W.nsIn K mainGlobals "LEAST_NUMBERS" = some (some (.int 3 tLN)))
    (gMP : PySem.W.findIn K (.ref CS) "MOST_PROCESSES" = some (some (.int 6 tMP)))
    (sMP : PySem.W.specialIn K (.int 6 tMP) "__get__" = some none)
    (gMN : PySem.W.findIn K (.ref CS) "MOST_NUMBERS" = some (some (.int 8 tMN)))
    (sMN : PySem.W.specialIn K (.int 8 tMN) "__get__" = some none) :
    ∃ fd : FuncData, (∀ (s : Shared) (u : Value), BindsTo s fd ⟨[u], []⟩ [("_law_script", u)]) ∧ ∀ base : Heap, K.In base → base.Ns mainGlobals mg → FnOk P w K mg base CX0 9 fa fd ["_law_script"] (spLaw K) := by
  have e := hfa.symm.trans (PySem.W.mg_of X G alaw)
  cases e
  obtain ⟨oc_int, od_int, kV_int, dc_int, pm_int, an_int, cd_int, ct_int, sl_int, ef_int, lk_int, hc_int⟩ := (fun_of F0int).ex
  subst ef_int
  have Fint := fun_of (st := sIsInteger) F0int
  have bint := Fint.binds (ps := ["x"]) fun _ _ _ _ _ _ us hl => by
    obtain ⟨_, rfl⟩ := Ln1 hl
    rfl
  have mint := PySem.W.mg_of X G aint
  obtain ⟨oc_bet, od_bet, kV_bet, dc_bet, pm_bet, an_bet, cd_bet, ct_bet, sl_bet, ef_bet, lk_bet, hc_bet⟩ := (fun_of F0bet).ex
  subst ef_bet
  have Fbet := fun_of (st := sIsBetween) F0bet
  have bbet := Fbet.binds (ps := ["x", "least", "most"]) fun _ _ _ _ _ _ us hl => by
    obtain ⟨_, _, _, rfl⟩ := Ln3 hl
    rfl
  have mbet := PySem.W.mg_of X G abet
  obtain ⟨oc_cnt, od_cnt, kV_cnt, dc_cnt, pm_cnt, an_cnt, cd_cnt, ct_cnt, sl_cnt, ef_cnt, lk_cnt, hc_cnt⟩ := (fun_of F0cnt).ex
  subst ef_cnt
  have Fcnt := fun_of (st := sIsCount) F0cnt
  have bcnt := Fcnt.binds (ps := ["x"]) fun _ _ _ _ _ _ us hl => by
    obtain ⟨_, rfl⟩ := Ln1 hl
    rfl
  have mcnt := PySem.W.mg_of X G acnt
  obtain ⟨oc_lab, od_lab, kV_lab, dc_lab, pm_lab, an_lab, cd_lab, ct_lab, sl_lab, ef_lab, lk_lab, hc_lab⟩ := (fun_of F0lab).ex
  subst ef_lab
  have Flab := fun_of (st := sIsLabel) F0lab
  have blab := Flab.binds (ps := ["x"]) fun _ _ _ _ _ _ us hl => by
    obtain ⟨_, rfl⟩ := Ln1 hl
    rfl
  have mlab := PySem.W.mg_of X G alab
  obtain ⟨oc_wrd, od_wrd, kV_wrd, dc_wrd, pm_wrd, an_wrd, cd_wrd, ct_wrd, sl_wrd, ef_wrd, lk_wrd, hc_wrd⟩ := (fun_of F0wrd).ex
  subst ef_wrd
  have Fwrd := fun_of (st := sIsWord) F0wrd
  have bwrd := Fwrd.binds (ps := ["x"]) fun _ _ _ _ _ _ us hl => by
    obtain ⟨_, rfl⟩ := Ln1 hl
    rfl
  have mwrd := PySem.W.mg_of X G awrd
  obtain ⟨oc_bag, od_bag, kV_bag, dc_bag, pm_bag, an_bag, cd_bag, ct_bag, sl_bag, ef_bag, lk_bag, hc_bag⟩ := (fun_of F0bag).ex
  subst ef_bag
  have Fbag := fun_of (st := sBag) F0bag
  have bbag := Fbag.binds (ps := ["_law_script", "_law_at"]) fun _ _ _ _ _ _ us hl => by
    obtain ⟨_, _, rfl⟩ := Ln2 hl
    rfl
  have mbag := PySem.W.mg_of X G abag
  obtain ⟨oc_take, od_take, kV_take, dc_take, pm_take, an_take, cd_take, ct_take, sl_take, ef_take, lk_take, hc_take⟩ := (fun_of F0take).ex
  subst ef_take
  have Ftake := fun_of (st := sTake) F0take
  have btake := Ftake.binds (ps := ["_law_bag_here", "_law_many"]) fun _ _ _ _ _ _ us hl => by
    obtain ⟨_, _, rfl⟩ := Ln2 hl
    rfl
  have mtake := PySem.W.mg_of X G atake
  obtain ⟨oc_of, od_of, kV_of, dc_of, pm_of, an_of, cd_of, ct_of, sl_of, ef_of, lk_of, hc_of⟩ := (fun_of F0of).ex
  subst ef_of
  have Fof := fun_of (st := sOf) F0of
  have bof := Fof.binds (ps := ["_law_bag_here", "_law_some"]) fun _ _ _ _ _ _ us hl => by
    obtain ⟨_, _, rfl⟩ := Ln2 hl
    rfl
  have mof := PySem.W.mg_of X G aof
  obtain ⟨oc_unr, od_unr, kV_unr, dc_unr, pm_unr, an_unr, cd_unr, ct_unr, sl_unr, ef_unr, lk_unr, hc_unr⟩ := (fun_of F0unr).ex
  subst ef_unr
  have Funr := fun_of (st := sUnreached) F0unr
  have bunr := Funr.binds (ps := ["_law_box", "_law_n"]) fun _ _ _ _ _ _ us hl => by
    obtain ⟨_, _, rfl⟩ := Ln2 hl
    rfl
  have munr := PySem.W.mg_of X G aunr
  obtain ⟨oc_rou, od_rou, kV_rou, dc_rou, pm_rou, an_rou, cd_rou, ct_rou, sl_rou, ef_rou, lk_rou, hc_rou⟩ := (fun_of F0rou).ex
  subst ef_rou
  have Frou := fun_of (st := sRound) F0rou
  have brou := Frou.binds (ps := ["_law_bag_here", "_law_box", "_law_label", "_law_held"]) fun _ _ _ _ _ _ us hl => by
    obtain ⟨_, _, _, _, rfl⟩ := Ln4 hl
    rfl
  have mrou := PySem.W.mg_of X G arou
  obtain ⟨oc_lrp, od_lrp, kV_lrp, dc_lrp, pm_lrp, an_lrp, cd_lrp, ct_lrp, sl_lrp, ef_lrp, lk_lrp, hc_lrp⟩ := (fun_of F0lrp).ex
  subst ef_lrp
  have Flrp := fun_of (st := sLawReports) F0lrp
  have blrp := Flrp.binds (ps := ["_law_box", "_law_held"]) fun _ _ _ _ _ _ us hl => by
    obtain ⟨_, _, rfl⟩ := Ln2 hl
    rfl
  have mlrp := PySem.W.mg_of X G alrp
  obtain ⟨oc_ldr, od_ldr, kV_ldr, dc_ldr, pm_ldr, an_ldr, cd_ldr, ct_ldr, sl_ldr, ef_ldr, lk_ldr, hc_ldr⟩ := (fun_of F0ldr).ex
  subst ef_ldr
  have Fldr := fun_of (st := sDropped) F0ldr
  have bldr := Fldr.binds (ps := ["_law_bag_here", "_law_box", "_law_held"]) fun _ _ _ _ _ _ us hl => by
    obtain ⟨_, _, _, rfl⟩ := Ln3 hl
    rfl
  have mldr := PySem.W.mg_of X G aldr
  obtain ⟨oc_law, od_law, kV_law, dc_law, pm_law, an_law, cd_law, ct_law, sl_law, ef_law, lk_law, hc_law⟩ := (fun_of F0law).ex
  subst ef_law
  have Flaw := fun_of (st := sLaw) F0law
  have blaw := Flaw.binds (ps := ["_law_script"]) fun _ _ _ _ _ _ us hl => by
    obtain ⟨_, rfl⟩ := Ln1 hl
    rfl
  have mlaw := PySem.W.mg_of X G alaw
  obtain ⟨oc_xPr, od_xPr, kV_xPr, dc_xPr, pm_xPr, an_xPr, cd_xPr, ct_xPr, sl_xPr, ef_xPr, lk_xPr, hc_xPr⟩ := (fun_of F0xPr).ex
  subst ef_xPr
  have FxPr := fun_of (st := sNoProcessInit) F0xPr
  have bxPr := FxPr.binds (ps := ["self", "process"]) fun _ _ _ _ _ _ us hl => by
    obtain ⟨_, _, rfl⟩ := Ln2 hl
    rfl
  obtain ⟨oc_xOp, od_xOp, kV_xOp, dc_xOp, pm_xOp, an_xOp, cd_xOp, ct_xOp, sl_xOp, ef_xOp, lk_xOp, hc_xOp⟩ := (fun_of F0xOp).ex
  subst ef_xOp
  have FxOp := fun_of (st := sNotOpenInit) F0xOp
  have bxOp := FxOp.binds (ps := ["self", "number"]) fun _ _ _ _ _ _ us hl => by
    obtain ⟨_, _, rfl⟩ := Ln2 hl
    rfl
  obtain ⟨oc_xNu, od_xNu, kV_xNu, dc_xNu, pm_xNu, an_xNu, cd_xNu, ct_xNu, sl_xNu, ef_xNu, lk_xNu, hc_xNu⟩ := (fun_of F0xNu).ex
  subst ef_xNu
  have FxNu := fun_of (st := sNoNumberInit) F0xNu
  have bxNu := FxNu.binds (ps := ["self", "number"]) fun _ _ _ _ _ _ us hl => by
    obtain ⟨_, _, rfl⟩ := Ln2 hl
    rfl
  obtain ⟨oc_xNs, od_xNs, kV_xNs, dc_xNs, pm_xNs, an_xNs, cd_xNs, ct_xNs, sl_xNs, ef_xNs, lk_xNs, hc_xNs⟩ := (fun_of F0xNs).ex
  subst ef_xNs
  have FxNs := fun_of (st := sNotASourceInit) F0xNs
  have bxNs := FxNs.binds (ps := ["self", "number"]) fun _ _ _ _ _ _ us hl => by
    obtain ⟨_, _, rfl⟩ := Ln2 hl
    rfl
  obtain ⟨oc_xNt, od_xNt, kV_xNt, dc_xNt, pm_xNt, an_xNt, cd_xNt, ct_xNt, sl_xNt, ef_xNt, lk_xNt, hc_xNt⟩ := (fun_of F0xNt).ex
  subst ef_xNt
  have FxNt := fun_of (st := sNotASetInit) F0xNt
  have bxNt := FxNt.binds (ps := ["self", "number"]) fun _ _ _ _ _ _ us hl => by
    obtain ⟨_, _, rfl⟩ := Ln2 hl
    rfl
  obtain ⟨oc_xFu, od_xFu, kV_xFu, dc_xFu, pm_xFu, an_xFu, cd_xFu, ct_xFu, sl_xFu, ef_xFu, lk_xFu, hc_xFu⟩ := (fun_of F0xFu).ex
  subst ef_xFu
  have FxFu := fun_of (st := sFullInit) F0xFu
  have bxFu := FxFu.binds (ps := ["self", "process"]) fun _ _ _ _ _ _ us hl => by
    obtain ⟨_, _, rfl⟩ := Ln2 hl
    rfl
  obtain ⟨oc_xNo, od_xNo, kV_xNo, dc_xNo, pm_xNo, an_xNo, cd_xNo, ct_xNo, sl_xNo, ef_xNo, lk_xNo, hc_xNo⟩ := (fun_of F0xNo).ex
  subst ef_xNo
  have FxNo := fun_of (st := sNoRoomInit) F0xNo
  have bxNo := FxNo.binds (ps := ["self"]) fun _ _ _ _ _ _ us hl => by
    obtain ⟨_, rfl⟩ := Ln1 hl
    rfl
  obtain ⟨oc_xCo, od_xCo, kV_xCo, dc_xCo, pm_xCo, an_xCo, cd_xCo, ct_xCo, sl_xCo, ef_xCo, lk_xCo, hc_xCo⟩ := (fun_of F0xCo).ex
  subst ef_xCo
  have FxCo := fun_of (st := sBadCountInit) F0xCo
  have bxCo := FxCo.binds (ps := ["self", "count"]) fun _ _ _ _ _ _ us hl => by
    obtain ⟨_, _, rfl⟩ := Ln2 hl
    rfl
  obtain ⟨oc_xLa, od_xLa, kV_xLa, dc_xLa, pm_xLa, an_xLa, cd_xLa, ct_xLa, sl_xLa, ef_xLa, lk_xLa, hc_xLa⟩ := (fun_of F0xLa).ex
  subst ef_xLa
  have FxLa := fun_of (st := sBadLabelInit) F0xLa
  have bxLa := FxLa.binds (ps := ["self", "label"]) fun _ _ _ _ _ _ us hl => by
    obtain ⟨_, _, rfl⟩ := Ln2 hl
    rfl
  obtain ⟨oc_xWo, od_xWo, kV_xWo, dc_xWo, pm_xWo, an_xWo, cd_xWo, ct_xWo, sl_xWo, ef_xWo, lk_xWo, hc_xWo⟩ := (fun_of F0xWo).ex
  subst ef_xWo
  have FxWo := fun_of (st := sBadWordInit) F0xWo
  have bxWo := FxWo.binds (ps := ["self", "word"]) fun _ _ _ _ _ _ us hl => by
    obtain ⟨_, _, rfl⟩ := Ln2 hl
    rfl
  obtain ⟨oc_xFi, od_xFi, kV_xFi, dc_xFi, pm_xFi, an_xFi, cd_xFi, ct_xFi, sl_xFi, ef_xFi, lk_xFi, hc_xFi⟩ := (fun_of F0xFi).ex
  subst ef_xFi
  have FxFi := fun_of (st := sFinishedInit) F0xFi
  have bxFi := FxFi.binds (ps := ["self", "number"]) fun _ _ _ _ _ _ us hl => by
    obtain ⟨_, _, rfl⟩ := Ln2 hl
    rfl
  obtain ⟨oc_xRg, od_xRg, kV_xRg, dc_xRg, pm_xRg, an_xRg, cd_xRg, ct_xRg, sl_xRg, ef_xRg, lk_xRg, hc_xRg⟩ := (fun_of F0xRg).ex
  subst ef_xRg
  have FxRg := fun_of (st := sRegisteredInit) F0xRg
  have bxRg := FxRg.binds (ps := ["self", "number"]) fun _ _ _ _ _ _ us hl => by
    obtain ⟨_, _, rfl⟩ := Ln2 hl
    rfl
  obtain ⟨oc_xTa, od_xTa, kV_xTa, dc_xTa, pm_xTa, an_xTa, cd_xTa, ct_xTa, sl_xTa, ef_xTa, lk_xTa, hc_xTa⟩ := (fun_of F0xTa).ex
  subst ef_xTa
  have FxTa := fun_of (st := sTakenInit) F0xTa
  have bxTa := FxTa.binds (ps := ["self", "label"]) fun _ _ _ _ _ _ us hl => by
    obtain ⟨_, _, rfl⟩ := Ln2 hl
    rfl
  obtain ⟨oc_xNr, od_xNr, kV_xNr, dc_xNr, pm_xNr, an_xNr, cd_xNr, ct_xNr, sl_xNr, ef_xNr, lk_xNr, hc_xNr⟩ := (fun_of F0xNr).ex
  subst ef_xNr
  have FxNr := fun_of (st := sNotRegisteredInit) F0xNr
  have bxNr := FxNr.binds (ps := ["self", "number"]) fun _ _ _ _ _ _ us hl => by
    obtain ⟨_, _, rfl⟩ := Ln2 hl
    rfl
  obtain ⟨oc_ri, od_ri, kV_ri, dc_ri, pm_ri, an_ri, cd_ri, ct_ri, sl_ri, ef_ri, lk_ri, hc_ri⟩ := (fun_of F0ri).ex
  subst ef_ri
  have Fri := fun_of (st := sRegInit) F0ri
  have bri := Fri.binds (ps := ["self", "number", "source", "word", "armed"]) fun _ _ _ _ _ _ us hl => by
    obtain ⟨_, _, _, _, _, rfl⟩ := Ln5 hl
    rfl
  obtain ⟨oc_wi, od_wi, kV_wi, dc_wi, pm_wi, an_wi, cd_wi, ct_wi, sl_wi, ef_wi, lk_wi, hc_wi⟩ := (fun_of F0wi).ex
  subst ef_wi
  have Fwi := fun_of (st := sWsInit) F0wi
  have bwi := Fwi.binds (ps := ["self"]) fun _ _ _ _ _ _ us hl => by
    obtain ⟨_, rfl⟩ := Ln1 hl
    rfl
  obtain ⟨oc_lof, od_lof, kV_lof, dc_lof, pm_lof, an_lof, cd_lof, ct_lof, sl_lof, ef_lof, lk_lof, hc_lof⟩ := (fun_of F0lof).ex
  subst ef_lof
  have Flof := fun_of (st := sLabelOf) F0lof
  have blof := Flof.binds (ps := ["self", "number", "source"]) fun _ _ _ _ _ _ us hl => by
    obtain ⟨_, _, _, rfl⟩ := Ln3 hl
    rfl
  obtain ⟨oc_put, od_put, kV_put, dc_put, pm_put, an_put, cd_put, ct_put, sl_put, ef_put, lk_put, hc_put⟩ := (fun_of F0put).ex
  subst ef_put
  have Fput := fun_of (st := sPut) F0put
  have bput := Fput.binds (ps := ["self", "label", "kept", "ready"]) fun _ _ _ _ _ _ us hl => by
    obtain ⟨_, _, _, _, rfl⟩ := Ln4 hl
    rfl
  obtain ⟨oc_app, od_app, kV_app, dc_app, pm_app, an_app, cd_app, ct_app, sl_app, ef_app, lk_app, hc_app⟩ := (fun_of F0app).ex
  subst ef_app
  have Fapp := fun_of (st := sAppend) F0app
  have bapp := Fapp.binds (ps := ["self", "label"]) fun _ _ _ _ _ _ us hl => by
    obtain ⟨_, _, rfl⟩ := Ln2 hl
    rfl
  obtain ⟨oc_drp, od_drp, kV_drp, dc_drp, pm_drp, an_drp, cd_drp, ct_drp, sl_drp, ef_drp, lk_drp, hc_drp⟩ := (fun_of F0drp).ex
  subst ef_drp
  have Fdrp := fun_of (st := sDrop) F0drp
  have bdrp := Fdrp.binds (ps := ["self", "label"]) fun _ _ _ _ _ _ us hl => by
    obtain ⟨_, _, rfl⟩ := Ln2 hl
    rfl
  obtain ⟨oc_dso, od_dso, kV_dso, dc_dso, pm_dso, an_dso, cd_dso, ct_dso, sl_dso, ef_dso, lk_dso, hc_dso⟩ := (fun_of F0dso).ex
  subst ef_dso
  have Fdso := fun_of (st := sDropSource) F0dso
  have bdso := Fdso.binds (ps := ["self", "source"]) fun _ _ _ _ _ _ us hl => by
    obtain ⟨_, _, rfl⟩ := Ln2 hl
    rfl
  obtain ⟨oc_ntc, od_ntc, kV_ntc, dc_ntc, pm_ntc, an_ntc, cd_ntc, ct_ntc, sl_ntc, ef_ntc, lk_ntc, hc_ntc⟩ := (fun_of F0ntc).ex
  subst ef_ntc
  have Fntc := fun_of (st := sNotice) F0ntc
  have bntc := Fntc.binds (ps := ["self", "source"]) fun _ _ _ _ _ _ us hl => by
    obtain ⟨_, _, rfl⟩ := Ln2 hl
    rfl
  obtain ⟨oc_rep, od_rep, kV_rep, dc_rep, pm_rep, an_rep, cd_rep, ct_rep, sl_rep, ef_rep, lk_rep, hc_rep⟩ := (fun_of F0rep).ex
  subst ef_rep
  have Frep := fun_of (st := sReports) F0rep
  have brep := Frep.binds (ps := ["self", "most", "sources"]) fun _ _ _ _ _ _ us hl => by
    obtain ⟨_, _, _, rfl⟩ := Ln3 hl
    rfl
  obtain ⟨oc_stl, od_stl, kV_stl, dc_stl, pm_stl, an_stl, cd_stl, ct_stl, sl_stl, ef_stl, lk_stl, hc_stl⟩ := (fun_of F0stl).ex
  subst ef_stl
  have Fstl := fun_of (st := sSettle) F0stl
  have bstl := Fstl.binds (ps := ["self", "label"]) fun _ _ _ _ _ _ us hl => by
    obtain ⟨_, _, rfl⟩ := Ln2 hl
    rfl
  have Fsi := F0si
  obtain ⟨oc_con, od_con, kV_con, dc_con, pm_con, an_con, cd_con, ct_con, sl_con, ef_con, lk_con, hc_con⟩ := (fun_of F0con).ex
  subst ef_con
  have Fcon := fun_of (st := sContains) F0con
  have bcon := Fcon.binds (ps := ["self", "x"]) fun _ _ _ _ _ _ us hl => by
    obtain ⟨_, _, rfl⟩ := Ln2 hl
    rfl
  obtain ⟨oc_len, od_len, kV_len, dc_len, pm_len, an_len, cd_len, ct_len, sl_len, ef_len, lk_len, hc_len⟩ := (fun_of F0len).ex
  subst ef_len
  have Flen := fun_of (st := sLen) F0len
  have blen := Flen.binds (ps := ["self"]) fun _ _ _ _ _ _ us hl => by
    obtain ⟨_, rfl⟩ := Ln1 hl
    rfl
  obtain ⟨oc_tof, od_tof, kV_tof, dc_tof, pm_tof, an_tof, cd_tof, ct_tof, sl_tof, ef_tof, lk_tof, hc_tof⟩ := (fun_of F0tof).ex
  subst ef_tof
  have Ftof := fun_of (st := sTableOf) F0tof
  have btof := Ftof.binds (ps := ["self", "process"]) fun _ _ _ _ _ _ us hl => by
    obtain ⟨_, _, rfl⟩ := Ln2 hl
    rfl
  obtain ⟨oc_itn, od_itn, kV_itn, dc_itn, pm_itn, an_itn, cd_itn, ct_itn, sl_itn, ef_itn, lk_itn, hc_itn⟩ := (fun_of F0itn).ex
  subst ef_itn
  have Fitn := fun_of (st := sIsTabNum) F0itn
  have bitn := Fitn.binds (ps := ["self", "number"]) fun _ _ _ _ _ _ us hl => by
    obtain ⟨_, _, rfl⟩ := Ln2 hl
    rfl
  obtain ⟨oc_tha, od_tha, kV_tha, dc_tha, pm_tha, an_tha, cd_tha, ct_tha, sl_tha, ef_tha, lk_tha, hc_tha⟩ := (fun_of F0tha).ex
  subst ef_tha
  have Ftha := fun_of (st := sThingAt) F0tha
  have btha := Ftha.binds (ps := ["self", "process", "number"]) fun _ _ _ _ _ _ us hl => by
    obtain ⟨_, _, _, rfl⟩ := Ln3 hl
    rfl
  obtain ⟨oc_sra, od_sra, kV_sra, dc_sra, pm_sra, an_sra, cd_sra, ct_sra, sl_sra, ef_sra, lk_sra, hc_sra⟩ := (fun_of F0sra).ex
  subst ef_sra
  have Fsra := fun_of (st := sSourceAt) F0sra
  have bsra := Fsra.binds (ps := ["self", "process", "number"]) fun _ _ _ _ _ _ us hl => by
    obtain ⟨_, _, _, rfl⟩ := Ln3 hl
    rfl
  obtain ⟨oc_sta, od_sta, kV_sta, dc_sta, pm_sta, an_sta, cd_sta, ct_sta, sl_sta, ef_sta, lk_sta, hc_sta⟩ := (fun_of F0sta).ex
  subst ef_sta
  have Fsta := fun_of (st := sSetAt) F0sta
  have bsta := Fsta.binds (ps := ["self", "process", "set_number"]) fun _ _ _ _ _ _ us hl => by
    obtain ⟨_, _, _, rfl⟩ := Ln3 hl
    rfl
  obtain ⟨oc_frn, od_frn, kV_frn, dc_frn, pm_frn, an_frn, cd_frn, ct_frn, sl_frn, ef_frn, lk_frn, hc_frn⟩ := (fun_of F0frn).ex
  subst ef_frn
  have Ffrn := fun_of (st := sFreeNum) F0frn
  have bfrn := Ffrn.binds (ps := ["self", "process"]) fun _ _ _ _ _ _ us hl => by
    obtain ⟨_, _, rfl⟩ := Ln2 hl
    rfl
  obtain ⟨oc_nth, od_nth, kV_nth, dc_nth, pm_nth, an_nth, cd_nth, ct_nth, sl_nth, ef_nth, lk_nth, hc_nth⟩ := (fun_of F0nth).ex
  subst ef_nth
  have Fnth := fun_of (st := sNewThing) F0nth
  have bnth := Fnth.binds (ps := ["self", "process"]) fun _ _ _ _ _ _ us hl => by
    obtain ⟨_, _, rfl⟩ := Ln2 hl
    rfl
  obtain ⟨oc_nso, od_nso, kV_nso, dc_nso, pm_nso, an_nso, cd_nso, ct_nso, sl_nso, ef_nso, lk_nso, hc_nso⟩ := (fun_of F0nso).ex
  subst ef_nso
  have Fnso := fun_of (st := sNewSource) F0nso
  have bnso := Fnso.binds (ps := ["self", "process"]) fun _ _ _ _ _ _ us hl => by
    obtain ⟨_, _, rfl⟩ := Ln2 hl
    rfl
  obtain ⟨oc_nse, od_nse, kV_nse, dc_nse, pm_nse, an_nse, cd_nse, ct_nse, sl_nse, ef_nse, lk_nse, hc_nse⟩ := (fun_of F0nse).ex
  subst ef_nse
  have Fnse := fun_of (st := sNewSet) F0nse
  have bnse := Fnse.binds (ps := ["self", "process"]) fun _ _ _ _ _ _ us hl => by
    obtain ⟨_, _, rfl⟩ := Ln2 hl
    rfl
  obtain ⟨oc_rdy, od_rdy, kV_rdy, dc_rdy, pm_rdy, an_rdy, cd_rdy, ct_rdy, sl_rdy, ef_rdy, lk_rdy, hc_rdy⟩ := (fun_of F0rdy).ex
  subst ef_rdy
  have Frdy := fun_of (st := sIsReady) F0rdy
  have brdy := Frdy.binds (ps := ["self", "source"]) fun _ _ _ _ _ _ us hl => by
    obtain ⟨_, _, rfl⟩ := Ln2 hl
    rfl
  obtain ⟨oc_unf, od_unf, kV_unf, dc_unf, pm_unf, an_unf, cd_unf, ct_unf, sl_unf, ef_unf, lk_unf, hc_unf⟩ := (fun_of F0unf).ex
  subst ef_unf
  have Funf := fun_of (st := sUnfinished) F0unf
  have bunf := Funf.binds (ps := ["self", "source", "number"]) fun _ _ _ _ _ _ us hl => by
    obtain ⟨_, _, _, rfl⟩ := Ln3 hl
    rfl
  obtain ⟨oc_nfy, od_nfy, kV_nfy, dc_nfy, pm_nfy, an_nfy, cd_nfy, ct_nfy, sl_nfy, ef_nfy, lk_nfy, hc_nfy⟩ := (fun_of F0nfy).ex
  subst ef_nfy
  have Fnfy := fun_of (st := sNotify) F0nfy
  have bnfy := Fnfy.binds (ps := ["self", "source"]) fun _ _ _ _ _ _ us hl => by
    obtain ⟨_, _, rfl⟩ := Ln2 hl
    rfl
  obtain ⟨oc_etg, od_etg, kV_etg, dc_etg, pm_etg, an_etg, cd_etg, ct_etg, sl_etg, ef_etg, lk_etg, hc_etg⟩ := (fun_of F0etg).ex
  subst ef_etg
  have Fetg := fun_of (st := sEndThing) F0etg
  have betg := Fetg.binds (ps := ["self", "thing"]) fun _ _ _ _ _ _ us hl => by
    obtain ⟨_, _, rfl⟩ := Ln2 hl
    rfl
  have Farr := F0arr
  obtain ⟨dsarr, varr, barr⟩ := Farr.binds1 (ps := ["self", "process", "number", "many"]) 3 0 (by intro z; cases z) rfl fun _ _ _ _ _ _ _ us its hu hi => by
    obtain ⟨_, _, _, rfl⟩ := Ln3 hu
    obtain ⟨_, rfl⟩ := Ln1 hi
    exact ⟨_, rfl, rfl⟩
  have Barr : Binds K fd_arr (["self", "process", "number", "many"] : List Str) [] := by
    obtain ⟨ds, v, b⟩ := Farr.binds1 (ps := ["self", "process", "number", "many"]) 4 1 (by intro z; cases z) rfl fun _ _ _ _ _ _ _ us its hu hi => by
      obtain ⟨_, _, _, _, rfl⟩ := Ln4 hu
      obtain ⟨_, rfl⟩ := Ln1 hi
      exact ⟨_, rfl, rfl⟩
    cases v
    exact b
  have Fred := F0red
  obtain ⟨dsred, vred, bred⟩ := Fred.binds1 (ps := ["self", "process", "number", "many"]) 3 0 (by intro z; cases z) rfl fun _ _ _ _ _ _ _ us its hu hi => by
    obtain ⟨_, _, _, rfl⟩ := Ln3 hu
    obtain ⟨_, rfl⟩ := Ln1 hi
    exact ⟨_, rfl, rfl⟩
  have Bred : Binds K fd_red (["self", "process", "number", "many"] : List Str) [] := by
    obtain ⟨ds, v, b⟩ := Fred.binds1 (ps := ["self", "process", "number", "many"]) 4 1 (by intro z; cases z) rfl fun _ _ _ _ _ _ _ us its hu hi => by
      obtain ⟨_, _, _, _, rfl⟩ := Ln4 hu
      obtain ⟨_, rfl⟩ := Ln1 hi
      exact ⟨_, rfl, rfl⟩
    cases v
    exact b
  have Fwai := F0wai
  obtain ⟨dswai, vwai, bwai⟩ := Fwai.binds1 (ps := ["self", "process", "set_number", "most"]) 3 0 (by intro z; cases z) rfl fun _ _ _ _ _ _ _ us its hu hi => by
    obtain ⟨_, _, _, rfl⟩ := Ln3 hu
    obtain ⟨_, rfl⟩ := Ln1 hi
    exact ⟨_, rfl, rfl⟩
  have Bwai : Binds K fd_wai (["self", "process", "set_number", "most"] : List Str) [] := by
    obtain ⟨ds, v, b⟩ := Fwai.binds1 (ps := ["self", "process", "set_number", "most"]) 4 1 (by intro z; cases z) rfl fun _ _ _ _ _ _ _ us its hu hi => by
      obtain ⟨_, _, _, _, rfl⟩ := Ln4 hu
      obtain ⟨_, rfl⟩ := Ln1 hi
      exact ⟨_, rfl, rfl⟩
    cases v
    exact b
  have Fadd := F0add
  obtain ⟨oc_chg, od_chg, kV_chg, dc_chg, pm_chg, an_chg, cd_chg, ct_chg, sl_chg, ef_chg, lk_chg, hc_chg⟩ := (fun_of F0chg).ex
  subst ef_chg
  have Fchg := fun_of (st := sChange) F0chg
  obtain ⟨oc_rem, od_rem, kV_rem, dc_rem, pm_rem, an_rem, cd_rem, ct_rem, sl_rem, ef_rem, lk_rem, hc_rem⟩ := (fun_of F0rem).ex
  subst ef_rem
  have Frem := fun_of (st := sRemove) F0rem
  have brem := Frem.binds (ps := ["self", "process", "set_number", "number"]) fun _ _ _ _ _ _ us hl => by
    obtain ⟨_, _, _, _, rfl⟩ := Ln4 hl
    rfl
  obtain ⟨oc_fre, od_fre, kV_fre, dc_fre, pm_fre, an_fre, cd_fre, ct_fre, sl_fre, ef_fre, lk_fre, hc_fre⟩ := (fun_of F0fre).ex
  subst ef_fre
  have Ffre := fun_of (st := sFree) F0fre
  have bfre := Ffre.binds (ps := ["self", "process", "number"]) fun _ _ _ _ _ _ us hl => by
    obtain ⟨_, _, _, rfl⟩ := Ln3 hl
    rfl
  obtain ⟨oc_clo, od_clo, kV_clo, dc_clo, pm_clo, an_clo, cd_clo, ct_clo, sl_clo, ef_clo, lk_clo, hc_clo⟩ := (fun_of F0clo).ex
  subst ef_clo
  have Fclo := fun_of (st := sClose) F0clo
  have bclo := Fclo.binds (ps := ["self", "process", "number"]) fun _ _ _ _ _ _ us hl => by
    obtain ⟨_, _, _, rfl⟩ := Ln3 hl
    rfl
  have Fcpy := F0cpy
  obtain ⟨dscpy, vcpy, bcpy⟩ := Fcpy.binds1 (ps := ["self", "process", "number", "to"]) 3 0 (by intro z; cases z) rfl fun _ _ _ _ _ _ _ us its hu hi => by
    obtain ⟨_, _, _, rfl⟩ := Ln3 hu
    obtain ⟨_, rfl⟩ := Ln1 hi
    exact ⟨_, rfl, rfl⟩
  have Bcpy : Binds K fd_cpy (["self", "process", "number", "to"] : List Str) [] := by
    obtain ⟨ds, v, b⟩ := Fcpy.binds1 (ps := ["self", "process", "number", "to"]) 4 1 (by intro z; cases z) rfl fun _ _ _ _ _ _ _ us its hu hi => by
      obtain ⟨_, _, _, _, rfl⟩ := Ln4 hu
      obtain ⟨_, rfl⟩ := Ln1 hi
      exact ⟨_, rfl, rfl⟩
    cases v
    exact b
  obtain ⟨oc_frp, od_frp, kV_frp, dc_frp, pm_frp, an_frp, cd_frp, ct_frp, sl_frp, ef_frp, lk_frp, hc_frp⟩ := (fun_of F0frp).ex
  subst ef_frp
  have Ffrp := fun_of (st := sFreeProc) F0frp
  have bfrp := Ffrp.binds (ps := ["self"]) fun _ _ _ _ _ _ us hl => by
    obtain ⟨_, rfl⟩ := Ln1 hl
    rfl
  obtain ⟨oc_frk, od_frk, kV_frk, dc_frk, pm_frk, an_frk, cd_frk, ct_frk, sl_frk, ef_frk, lk_frk, hc_frk⟩ := (fun_of F0frk).ex
  subst ef_frk
  have Ffrk := fun_of (st := sFork) F0frk
  have bfrk := Ffrk.binds (ps := ["self", "process"]) fun _ _ _ _ _ _ us hl => by
    obtain ⟨_, _, rfl⟩ := Ln2 hl
    rfl
  obtain ⟨oc_num, od_num, kV_num, dc_num, pm_num, an_num, cd_num, ct_num, sl_num, ef_num, lk_num, hc_num⟩ := (fun_of F0num).ex
  subst ef_num
  have Fnum := fun_of (st := sNumbers) F0num
  have bnum := Fnum.binds (ps := ["self", "process"]) fun _ _ _ _ _ _ us hl => by
    obtain ⟨_, _, rfl⟩ := Ln2 hl
    rfl
  obtain ⟨oc_tng, od_tng, kV_tng, dc_tng, pm_tng, an_tng, cd_tng, ct_tng, sl_tng, ef_tng, lk_tng, hc_tng⟩ := (fun_of F0tng).ex
  subst ef_tng
  have Ftng := fun_of (st := sThings) F0tng
  have btng := Ftng.binds (ps := ["self"]) fun _ _ _ _ _ _ us hl => by
    obtain ⟨_, rfl⟩ := Ln1 hl
    rfl
  obtain ⟨oc_nof, od_nof, kV_nof, dc_nof, pm_nof, an_nof, cd_nof, ct_nof, sl_nof, ef_nof, lk_nof, hc_nof⟩ := (fun_of F0nof).ex
  subst ef_nof
  have Fnof := fun_of (st := sNumbersOf) F0nof
  have bnof := Fnof.binds (ps := ["self", "thing"]) fun _ _ _ _ _ _ us hl => by
    obtain ⟨_, _, rfl⟩ := Ln2 hl
    rfl
  obtain ⟨oc_nam, od_nam, kV_nam, dc_nam, pm_nam, an_nam, cd_nam, ct_nam, sl_nam, ef_nam, lk_nam, hc_nam⟩ := (fun_of F0nam).ex
  subst ef_nam
  have Fnam := fun_of (st := sNameOf) F0nam
  have bnam := Fnam.binds (ps := ["self", "thing"]) fun _ _ _ _ _ _ us hl => by
    obtain ⟨_, _, rfl⟩ := Ln2 hl
    rfl
  obtain ⟨oc_reg, od_reg, kV_reg, dc_reg, pm_reg, an_reg, cd_reg, ct_reg, sl_reg, ef_reg, lk_reg, hc_reg⟩ := (fun_of F0reg).ex
  subst ef_reg
  have Freg := fun_of (st := sRegistrations) F0reg
  have breg := Freg.binds (ps := ["self"]) fun _ _ _ _ _ _ us hl => by
    obtain ⟨_, rfl⟩ := Ln1 hl
    rfl
  obtain ⟨mvkbsi, kbsi⟩ := Fsi.kbinds0 (ps := ["self", "processes", "numbers"]) 1 ["processes", "numbers"] [] (fun us mv ws => us ++ ws) (by intro z; cases z) (fun q hq => absurd hq List.not_mem_nil) (fun a b c => a.append c) fun _ _ _ _ _ _ us mv ws hu hm hw => by
    obtain ⟨_, rfl⟩ := Ln1 hu
    obtain ⟨rfl⟩ := Ln0 hm
    obtain ⟨_, _, rfl⟩ := Ln2 hw
    exact rfl
  obtain ⟨dsadd, vadd, badd⟩ := Fadd.binds0 (ps := ["self", "process", "set_number", "number", "label", "word"]) 5 (by intro z; cases z) rfl fun _ _ _ _ _ _ us ks hu hk => by
    obtain ⟨_, _, _, _, _, rfl⟩ := Ln5 hu
    obtain ⟨_, rfl⟩ := Ln1 hk
    exact ⟨_, _, _, _, _, _, rfl, rfl, rfl⟩
  have kbchg : KBn K (PySem.W.fnOf "change" "System.change" (defArgs sChange) (defBody sChange) (defScope sChange) .none kV_chg dc_chg pm_chg an_chg cd_chg ct_chg) ["self", "process", "set_number", "number", "word"] 4 ["word"] (fun us ws => us ++ ws) (fun vs zs => vs ++ zs) := ⟨fun s us ws _ hu hw => by
    obtain ⟨_, _, _, _, rfl⟩ := Ln4 hu
    obtain ⟨_, rfl⟩ := Ln1 hw
    exact .of_eq rfl, fun a b => a.append b⟩
  have DT : DrawTxt mg := ⟨(PySem.W.mg_none_of X G z_len), (PySem.W.mg_none_of X G z_enumerate), (PySem.W.mg_none_of X G z_int), (PySem.W.mg_none_of X G z_abs)⟩
  have tup : ∀ {q : Addr} {dd : Option Addr} {its : Array Value} {n : Nat} {sl : Array (Option Value)} {xs : List Str}, K.lookup q = some ⟨.type "tuple", dd, .seq its n, sl⟩ → its.size ≤ sizeLine → Vals (xs.map V.str) its.toList → ∀ H, SqT K H q (xs.map V.str) := fun e hz hv H => .inr ⟨_, _, _, e, rfl, rfl, hz, hv⟩
  have CT : ChkTxt K mg := ⟨(PySem.W.mg_none_of X G z_isinstance), (PySem.W.mg_none_of X G z_int), (PySem.W.mg_none_of X G z_bool), ⟨tMC, PySem.W.mg_of X G gMC⟩, ⟨tML, PySem.W.mg_of X G gML⟩, ⟨wW, PySem.W.mg_of X G wA, tup (xs := wordsL) LW0 (by show 3 ≤ sizeLine; decide) (.cons ⟨_, rfl⟩ (.cons ⟨_, rfl⟩ (.cons ⟨_, rfl⟩ .nil)))⟩⟩
  have YT : SysTxt mg := ⟨(PySem.W.mg_none_of X G z_enumerate), (PySem.W.mg_none_of X G z_list), (PySem.W.mg_none_of X G z_min)⟩
  have WT : WsTxt mg := ⟨(PySem.W.mg_none_of X G z_list), (PySem.W.mg_none_of X G z_len)⟩
  have RT : RegTxt mg := ⟨(PySem.W.mg_none_of X G z_sorted), (PySem.W.mg_none_of X G z_list), (PySem.W.mg_none_of X G z_enumerate)⟩
  have LX : LawTx mg := ⟨(PySem.W.mg_none_of X G z_range), (PySem.W.mg_none_of X G z_max), (PySem.W.mg_none_of X G z_min), (PySem.W.mg_none_of X G z_len), (PySem.W.mg_none_of X G z_sorted), (PySem.W.mg_none_of X G z_list)⟩
  have TS : ClsF K CS sysF := ⟨⟨pgS, hdS, poS, saS⟩, fun f hf => by
    simp only [sysF, List.mem_cons, List.not_mem_nil, or_false] at hf
    rcases hf with rfl | rfl | rfl | rfl | rfl | rfl
    · exact noS0
    · exact noS1
    · exact noS2
    · exact noS3
    · exact noS4
    · exact noS5⟩
  have TW : ClsF K CW wsF := ⟨⟨pgW, hdW, poW, saW⟩, fun f hf => by
    simp only [wsF, List.mem_cons, List.not_mem_nil, or_false] at hf
    rcases hf with rfl | rfl
    · exact noW0
    · exact noW1⟩
  have TR : ClsF K CR regF := ⟨⟨pgR, hdR, poR, saR⟩, fun f hf => by
    simp only [regF, List.mem_cons, List.not_mem_nil, or_false] at hf
    rcases hf with rfl | rfl | rfl | rfl
    · exact noR0
    · exact noR1
    · exact noR2
    · exact noR3⟩
  have LT : LimTxt K mg CS := ⟨⟨tLP, PySem.W.mg_of X G gLP⟩, ⟨tLN, PySem.W.mg_of X G gLN⟩, ⟨_, gMP, ⟨_, rfl⟩, sMP, by decide⟩, ⟨_, gMN, ⟨_, rfl⟩, sMN, by decide⟩⟩
  have KS : Mk K CS f_si := ⟨mkS, asi, isi, kcS⟩
  have gmS := PySem.W.mg_of X G gCS
  have KW : Mk K CW f_wi := ⟨mkW, awi, iwi, kcW⟩
  have gmW := PySem.W.mg_of X G gCW
  have KR : Mk K CR f_ri := ⟨mkR, ari, iri, kcR⟩
  have gmR := PySem.W.mg_of X G gCR
  have EPr : NoProcessE K mg CPr f_xPr _ := { gC := PySem.W.mg_of X G gCPr, ox := ⟨⟨nmPr, qPr, NPr, bsPr, snPr, subPr, abPr, colPr, ddPr, maPr, mbPr, mcPr, mdPr, mePr, xLPr⟩, xsaPr, xeCPr, xtCPr, xkCPr⟩, noN := xnbPr0, iC := axPr, tI := xtIPr, bI := bxPr, te := xtePr, xf := ⟨xgaPr, xggPr, xeCPr, xhCPr⟩ }
  have EOp : NotOpenE K mg COp f_xOp _ := { gC := PySem.W.mg_of X G gCOp, ox := ⟨⟨nmOp, qOp, NOp, bsOp, snOp, subOp, abOp, colOp, ddOp, maOp, mbOp, mcOp, mdOp, meOp, xLOp⟩, xsaOp, xeCOp, xtCOp, xkCOp⟩, noN := xnbOp0, iC := axOp, tI := xtIOp, bI := bxOp, te := xteOp, xf := ⟨xgaOp, xggOp, xeCOp, xhCOp⟩ }
  have ENu : NoNumberE K mg CNu f_xNu _ := { gC := PySem.W.mg_of X G gCNu, ox := ⟨⟨nmNu, qNu, NNu, bsNu, snNu, subNu, abNu, colNu, ddNu, maNu, mbNu, mcNu, mdNu, meNu, xLNu⟩, xsaNu, xeCNu, xtCNu, xkCNu⟩, noN := xnbNu0, iC := axNu, tI := xtINu, bI := bxNu, te := xteNu, xf := ⟨xgaNu, xggNu, xeCNu, xhCNu⟩ }
  have ENs : NotASourceE K mg CNs f_xNs _ := { gC := PySem.W.mg_of X G gCNs, ox := ⟨⟨nmNs, qNs, NNs, bsNs, snNs, subNs, abNs, colNs, ddNs, maNs, mbNs, mcNs, mdNs, meNs, xLNs⟩, xsaNs, xeCNs, xtCNs, xkCNs⟩, noN := xnbNs0, iC := axNs, tI := xtINs, bI := bxNs, te := xteNs, xf := ⟨xgaNs, xggNs, xeCNs, xhCNs⟩ }
  have ENt : NotASetE K mg CNt f_xNt _ := { gC := PySem.W.mg_of X G gCNt, ox := ⟨⟨nmNt, qNt, NNt, bsNt, snNt, subNt, abNt, colNt, ddNt, maNt, mbNt, mcNt, mdNt, meNt, xLNt⟩, xsaNt, xeCNt, xtCNt, xkCNt⟩, noN := xnbNt0, iC := axNt, tI := xtINt, bI := bxNt, te := xteNt, xf := ⟨xgaNt, xggNt, xeCNt, xhCNt⟩ }
  have EFu : FullE K mg CFu f_xFu _ := { gC := PySem.W.mg_of X G gCFu, ox := ⟨⟨nmFu, qFu, NFu, bsFu, snFu, subFu, abFu, colFu, ddFu, maFu, mbFu, mcFu, mdFu, meFu, xLFu⟩, xsaFu, xeCFu, xtCFu, xkCFu⟩, noN := xnbFu0, iC := axFu, tI := xtIFu, bI := bxFu, te := xteFu, xf := ⟨xgaFu, xggFu, xeCFu, xhCFu⟩ }
  have ENo : NoRoomE K mg CNo f_xNo _ := { gC := PySem.W.mg_of X G gCNo, ox := ⟨⟨nmNo, qNo, NNo, bsNo, snNo, subNo, abNo, colNo, ddNo, maNo, mbNo, mcNo, mdNo, meNo, xLNo⟩, xsaNo, xeCNo, xtCNo, xkCNo⟩, iC := axNo, tI := xtINo, bI := bxNo, te := xteNo, xf := ⟨xgaNo, xggNo, xeCNo, xhCNo⟩ }
  have ECo : BadCountE K mg CCo f_xCo _ := { gC := PySem.W.mg_of X G gCCo, ox := ⟨⟨nmCo, qCo, NCo, bsCo, snCo, subCo, abCo, colCo, ddCo, maCo, mbCo, mcCo, mdCo, meCo, xLCo⟩, xsaCo, xeCCo, xtCCo, xkCCo⟩, noN := xnbCo0, iC := axCo, tI := xtICo, bI := bxCo, te := xteCo, xf := ⟨xgaCo, xggCo, xeCCo, xhCCo⟩ }
  have ELa : BadLabelE K mg CLa f_xLa _ := { gC := PySem.W.mg_of X G gCLa, ox := ⟨⟨nmLa, qLa, NLa, bsLa, snLa, subLa, abLa, colLa, ddLa, maLa, mbLa, mcLa, mdLa, meLa, xLLa⟩, xsaLa, xeCLa, xtCLa, xkCLa⟩, noN := xnbLa0, iC := axLa, tI := xtILa, bI := bxLa, te := xteLa, xf := ⟨xgaLa, xggLa, xeCLa, xhCLa⟩ }
  have EWo : BadWordE K mg CWo f_xWo _ := { gC := PySem.W.mg_of X G gCWo, ox := ⟨⟨nmWo, qWo, NWo, bsWo, snWo, subWo, abWo, colWo, ddWo, maWo, mbWo, mcWo, mdWo, meWo, xLWo⟩, xsaWo, xeCWo, xtCWo, xkCWo⟩, noN := xnbWo0, iC := axWo, tI := xtIWo, bI := bxWo, te := xteWo, xf := ⟨xgaWo, xggWo, xeCWo, xhCWo⟩ }
  have EFi : FinishedE K mg CFi f_xFi _ := { gC := PySem.W.mg_of X G gCFi, ox := ⟨⟨nmFi, qFi, NFi, bsFi, snFi, subFi, abFi, colFi, ddFi, maFi, mbFi, mcFi, mdFi, meFi, xLFi⟩, xsaFi, xeCFi, xtCFi, xkCFi⟩, noN := xnbFi0, iC := axFi, tI := xtIFi, bI := bxFi, te := xteFi, xf := ⟨xgaFi, xggFi, xeCFi, xhCFi⟩ }
  have ERg : RegisteredE K mg CRg f_xRg _ := { gC := PySem.W.mg_of X G gCRg, ox := ⟨⟨nmRg, qRg, NRg, bsRg, snRg, subRg, abRg, colRg, ddRg, maRg, mbRg, mcRg, mdRg, meRg, xLRg⟩, xsaRg, xeCRg, xtCRg, xkCRg⟩, noN := xnbRg0, iC := axRg, tI := xtIRg, bI := bxRg, te := xteRg, xf := ⟨xgaRg, xggRg, xeCRg, xhCRg⟩ }
  have ETa : TakenE K mg CTa f_xTa _ := { gC := PySem.W.mg_of X G gCTa, ox := ⟨⟨nmTa, qTa, NTa, bsTa, snTa, subTa, abTa, colTa, ddTa, maTa, mbTa, mcTa, mdTa, meTa, xLTa⟩, xsaTa, xeCTa, xtCTa, xkCTa⟩, noN := xnbTa0, iC := axTa, tI := xtITa, bI := bxTa, te := xteTa, xf := ⟨xgaTa, xggTa, xeCTa, xhCTa⟩ }
  have ENr : NotRegisteredE K mg CNr f_xNr _ := { gC := PySem.W.mg_of X G gCNr, ox := ⟨⟨nmNr, qNr, NNr, bsNr, snNr, subNr, abNr, colNr, ddNr, maNr, mbNr, mcNr, mdNr, meNr, xLNr⟩, xsaNr, xeCNr, xtCNr, xkCNr⟩, noN := xnbNr0, iC := axNr, tI := xtINr, bI := bxNr, te := xteNr, xf := ⟨xgaNr, xggNr, xeCNr, xhCNr⟩ }
  refine ⟨PySem.W.fnOf "law" "law" (defArgs sLaw) (defBody sLaw) (defScope sLaw) .none kV_law dc_law pm_law an_law cd_law ct_law, fun s u => .of_eq rfl, fun base KB _ => ?_⟩
  have GxPr := okNoProcessInit (P := P) (w := w) (K := K) (mg := mg) (base := base) FxPr (PySem.W.mg_none_of X G z_LookupError) xvVPr EPr
  have GxOp := okNotOpenInit (P := P) (w := w) (K := K) (mg := mg) (base := base) FxOp (PySem.W.mg_none_of X G z_LookupError) xvVOp EOp
  have GxNu := okNoNumberInit (P := P) (w := w) (K := K) (mg := mg) (base := base) FxNu (PySem.W.mg_none_of X G z_LookupError) xvVNu ENu
  have GxNs := okNotASourceInit (P := P) (w := w) (K := K) (mg := mg) (base := base) FxNs (PySem.W.mg_none_of X G z_TypeError) xvVNs ENs
  have GxNt := okNotASetInit (P := P) (w := w) (K := K) (mg := mg) (base := base) FxNt (PySem.W.mg_none_of X G z_TypeError) xvVNt ENt
  have GxFu := okFullInit (P := P) (w := w) (K := K) (mg := mg) (base := base) FxFu (PySem.W.mg_none_of X G z_OverflowError) xvVFu EFu
  have GxNo := okNoRoomInit (P := P) (w := w) (K := K) (mg := mg) (base := base) FxNo (PySem.W.mg_none_of X G z_OverflowError) xvVNo ENo
  have GxCo := okBadCountInit (P := P) (w := w) (K := K) (mg := mg) (base := base) FxCo (PySem.W.mg_none_of X G z_ValueError) xvVCo ECo
  have GxLa := okBadLabelInit (P := P) (w := w) (K := K) (mg := mg) (base := base) FxLa (PySem.W.mg_none_of X G z_ValueError) xvVLa ELa
  have GxWo := okBadWordInit (P := P) (w := w) (K := K) (mg := mg) (base := base) FxWo (PySem.W.mg_none_of X G z_ValueError) xvVWo EWo
  have GxFi := okFinishedInit (P := P) (w := w) (K := K) (mg := mg) (base := base) FxFi (PySem.W.mg_none_of X G z_RuntimeError) xvVFi EFi
  have GxRg := okRegisteredInit (P := P) (w := w) (K := K) (mg := mg) (base := base) FxRg (PySem.W.mg_none_of X G z_RuntimeError) xvVRg ERg
  have GxTa := okTakenInit (P := P) (w := w) (K := K) (mg := mg) (base := base) FxTa (PySem.W.mg_none_of X G z_RuntimeError) xvVTa ETa
  have GxNr := okNotRegisteredInit (P := P) (w := w) (K := K) (mg := mg) (base := base) FxNr (PySem.W.mg_none_of X G z_LookupError) xvVNr ENr
  have RX : ErTx P w K mg base ⟨CPr, COp, CNu, CNs, CNt, CFu, CNo, CCo, CLa, CWo, CFi, CRg, CTa, CNr⟩ := ⟨⟨⟨_, _, EPr, GxPr⟩⟩, ⟨⟨_, _, EOp, GxOp⟩⟩, ⟨⟨_, _, ENu, GxNu⟩⟩, ⟨⟨_, _, ENs, GxNs⟩⟩, ⟨⟨_, _, ENt, GxNt⟩⟩, ⟨⟨_, _, EFu, GxFu⟩⟩, ⟨_, _, ENo, GxNo⟩, ⟨⟨_, _, ECo, GxCo⟩⟩, ⟨⟨_, _, ELa, GxLa⟩⟩, ⟨⟨_, _, EWo, GxWo⟩⟩, ⟨⟨_, _, EFi, GxFi⟩⟩, ⟨⟨_, _, ERg, GxRg⟩⟩, ⟨⟨_, _, ETa, GxTa⟩⟩, ⟨⟨_, _, ENr, GxNr⟩⟩⟩
  have Gint := okIsInteger (P := P) (w := w) (K := K) (mg := mg) (base := base) Fint CT
  have GintX := okIntX (P := P) (w := w) (K := K) (mg := mg) (base := base) Fint CT
  have Gbet := okIsBetween (P := P) (w := w) (K := K) (mg := mg) (base := base) Fbet Gint kint mint bint
  have GbetX := okBetX (P := P) (w := w) (K := K) (mg := mg) (base := base) Fbet ⟨GintX, kint, mint, bint⟩
  have Gcnt := okIsCount (P := P) (w := w) (K := K) (mg := mg) (base := base) Fcnt CT Gbet kbet mbet bbet
  have GcntX := okCountX (P := P) (w := w) (K := K) (mg := mg) (base := base) Fcnt CT ⟨GbetX, kbet, mbet, bbet⟩
  have Glab := okIsLabel (P := P) (w := w) (K := K) (mg := mg) (base := base) Flab CT Gbet kbet mbet bbet
  have GlabX := okLabelX (P := P) (w := w) (K := K) (mg := mg) (base := base) Flab CT ⟨GbetX, kbet, mbet, bbet⟩
  have Gwrd := okIsWord (P := P) (w := w) (K := K) (mg := mg) (base := base) Fwrd CT
  have GwrdX := okWordX (P := P) (w := w) (K := K) (mg := mg) (base := base) Fwrd CT
  have Gbag := okBag (P := P) (w := w) (K := K) (mg := mg) (base := base) Fbag DT
  have Gtake := okTake (P := P) (w := w) (K := K) (mg := mg) (base := base) Ftake DT
  have Gof := okOf (P := P) (w := w) (K := K) (mg := mg) (base := base) Fof DT Ftake mtake btake
  have Gri := okRegInit (P := P) (w := w) (K := K) (mg := mg) (base := base) Fri TR
  have Gwi := okWsInit (P := P) (w := w) (K := K) (mg := mg) (base := base) Fwi TW
  have Gapp := okAppend (P := P) (w := w) (K := K) (mg := mg) (base := base) Fapp TW
  have Gput := okPut (P := P) (w := w) (K := K) (mg := mg) (base := base) Fput TW Gapp ⟨aapp, iapp, kapp⟩ bapp
  have Glof := okLabelOf (P := P) (w := w) (K := K) (mg := mg) (base := base) Flof TW TR
  have Gdrp := okDrop (P := P) (w := w) (K := K) (mg := mg) (base := base) Fdrp TW
  have Gdso := okDropSource (P := P) (w := w) (K := K) (mg := mg) (base := base) Fdso TW TR ⟨Gdrp, ⟨adrp, idrp, kdrp⟩, bdrp⟩
  have Gstl := okSettle (P := P) (w := w) (K := K) (mg := mg) (base := base) Fstl TW TR gmR KR Gri bri
  have Gntc := okNotice (P := P) (w := w) (K := K) (mg := mg) (base := base) Fntc TW TR Gapp ⟨aapp, iapp, kapp⟩ bapp
  have Grep := okReports (P := P) (w := w) (K := K) (mg := mg) (base := base) Frep WT TW TR Gstl ⟨astl, istl, kstl⟩ bstl
  have Gsi := okSysInit (P := P) (w := w) (K := K) (mg := mg) (base := base) (C := ⟨CS, CW, CR⟩) Fsi TS LT ⟨Gbet, kbet, mbet, bbet⟩
  have Gcon := okContains (P := P) (w := w) (K := K) (mg := mg) (base := base) (C := ⟨CS, CW, CR⟩) Fcon TS ⟨Gint, kint, mint, bint⟩
  have GconX := okContX (P := P) (w := w) (K := K) (mg := mg) (base := base) (C := ⟨CS, CW, CR⟩) Fcon TS ⟨GintX, kint, mint, bint⟩
  have Gtof := okTableOf (P := P) (w := w) (K := K) (mg := mg) (base := base) (C := ⟨CS, CW, CR⟩) Ftof TS ⟨Gcon, ⟨acon, icon, kcon⟩, bcon⟩
  have GtofX := okTabX (P := P) (w := w) (K := K) (mg := mg) (base := base) (C := ⟨CS, CW, CR⟩) (D := ⟨CPr, COp, CNu, CNs, CNt, CFu, CNo, CCo, CLa, CWo, CFi, CRg, CTa, CNr⟩) Ftof TS RX ⟨GconX, ⟨acon, icon, kcon⟩, bcon⟩
  have Gitn := okIsTabNum (P := P) (w := w) (K := K) (mg := mg) (base := base) (C := ⟨CS, CW, CR⟩) Fitn TS ⟨Gbet, kbet, mbet, bbet⟩
  have GitnX := okNumX (P := P) (w := w) (K := K) (mg := mg) (base := base) (C := ⟨CS, CW, CR⟩) Fitn TS ⟨GbetX, kbet, mbet, bbet⟩
  have Gtha := okThingAt (P := P) (w := w) (K := K) (mg := mg) (base := base) (C := ⟨CS, CW, CR⟩) Ftha TS ⟨Gtof, ⟨atof, itof, ktof⟩, btof⟩ ⟨Gitn, ⟨aitn, iitn, kitn⟩, bitn⟩
  have GthaX := okThingX (P := P) (w := w) (K := K) (mg := mg) (base := base) (C := ⟨CS, CW, CR⟩) (D := ⟨CPr, COp, CNu, CNs, CNt, CFu, CNo, CCo, CLa, CWo, CFi, CRg, CTa, CNr⟩) Ftha TS RX ⟨GtofX, ⟨atof, itof, ktof⟩, btof⟩ ⟨GitnX, ⟨aitn, iitn, kitn⟩, bitn⟩
  have Gsra := okSourceAt (P := P) (w := w) (K := K) (mg := mg) (base := base) (C := ⟨CS, CW, CR⟩) Fsra TS ⟨Gtha, ⟨atha, itha, ktha⟩, btha⟩
  have GsraX := okSourceX (P := P) (w := w) (K := K) (mg := mg) (base := base) (C := ⟨CS, CW, CR⟩) (D := ⟨CPr, COp, CNu, CNs, CNt, CFu, CNo, CCo, CLa, CWo, CFi, CRg, CTa, CNr⟩) Fsra TS RX ⟨GthaX, ⟨atha, itha, ktha⟩, btha⟩
  have Gsta := okSetAt (P := P) (w := w) (K := K) (mg := mg) (base := base) (C := ⟨CS, CW, CR⟩) Fsta TS ⟨Gtha, ⟨atha, itha, ktha⟩, btha⟩
  have GstaX := okSetX (P := P) (w := w) (K := K) (mg := mg) (base := base) (C := ⟨CS, CW, CR⟩) (D := ⟨CPr, COp, CNu, CNs, CNt, CFu, CNo, CCo, CLa, CWo, CFi, CRg, CTa, CNr⟩) Fsta TS RX ⟨GthaX, ⟨atha, itha, ktha⟩, btha⟩
  have GfrnX := okFreeX (P := P) (w := w) (K := K) (mg := mg) (base := base) (C := ⟨CS, CW, CR⟩) (D := ⟨CPr, COp, CNu, CNs, CNt, CFu, CNo, CCo, CLa, CWo, CFi, CRg, CTa, CNr⟩) Ffrn YT TS RX ⟨GtofX, ⟨atof, itof, ktof⟩, btof⟩
  have GnthX := okNewThingX (P := P) (w := w) (K := K) (mg := mg) (base := base) (C := ⟨CS, CW, CR⟩) (D := ⟨CPr, COp, CNu, CNs, CNt, CFu, CNo, CCo, CLa, CWo, CFi, CRg, CTa, CNr⟩) Fnth TS ⟨GfrnX, ⟨afrn, ifrn, kfrn⟩, bfrn⟩
  have GnsoX := okNewSourceX (P := P) (w := w) (K := K) (mg := mg) (base := base) (C := ⟨CS, CW, CR⟩) (D := ⟨CPr, COp, CNu, CNs, CNt, CFu, CNo, CCo, CLa, CWo, CFi, CRg, CTa, CNr⟩) Fnso TS ⟨GnthX, ⟨anth, inth, knth⟩, bnth⟩
  have GnseX := okNewSetX (P := P) (w := w) (K := K) (mg := mg) (base := base) (C := ⟨CS, CW, CR⟩) (D := ⟨CPr, COp, CNu, CNs, CNt, CFu, CNo, CCo, CLa, CWo, CFi, CRg, CTa, CNr⟩) Fnse TS ⟨GnthX, ⟨anth, inth, knth⟩, bnth⟩ gmW KW Gwi bwi
  have Grdy := okIsReady (P := P) (w := w) (K := K) (mg := mg) (base := base) (C := ⟨CS, CW, CR⟩) Frdy TS
  have Gunf := okUnfinished (P := P) (w := w) (K := K) (mg := mg) (base := base) (C := ⟨CS, CW, CR⟩) Funf TS
  have GunfX := okUnfinX (P := P) (w := w) (K := K) (mg := mg) (base := base) (C := ⟨CS, CW, CR⟩) (D := ⟨CPr, COp, CNu, CNs, CNt, CFu, CNo, CCo, CLa, CWo, CFi, CRg, CTa, CNr⟩) Funf TS RX
  have Gnfy := okNotify (P := P) (w := w) (K := K) (mg := mg) (base := base) (C := ⟨CS, CW, CR⟩) Fnfy TS TW.cl ⟨Gntc, ⟨antc, intc, kntc⟩, bntc⟩
  have Getg := okEndThing (P := P) (w := w) (K := K) (mg := mg) (base := base) (C := ⟨CS, CW, CR⟩) Fetg TS TW.cl ⟨Gdso, ⟨adso, idso, kdso⟩, bdso⟩
  have Gfre := okFree (P := P) (w := w) (K := K) (mg := mg) (base := base) (C := ⟨CS, CW, CR⟩) Ffre (PySem.W.mg_none_of X G z_any) TS ⟨Getg, ⟨aetg, ietg, ketg⟩, betg⟩
  have GcloX := okCloseX (P := P) (w := w) (K := K) (mg := mg) (base := base) (C := ⟨CS, CW, CR⟩) (D := ⟨CPr, COp, CNu, CNs, CNt, CFu, CNo, CCo, CLa, CWo, CFi, CRg, CTa, CNr⟩) Fclo TS ⟨GthaX, ⟨atha, itha, ktha⟩, btha⟩ ⟨Gfre, ⟨afre, ifre, kfre⟩, bfre⟩
  have GcpyX := okCopyX (P := P) (w := w) (K := K) (mg := mg) (base := base) (C := ⟨CS, CW, CR⟩) (D := ⟨CPr, COp, CNu, CNs, CNt, CFu, CNo, CCo, CLa, CWo, CFi, CRg, CTa, CNr⟩) Fcpy TS RX ⟨GthaX, ⟨atha, itha, ktha⟩, btha⟩ ⟨GitnX, ⟨aitn, iitn, kitn⟩, bitn⟩ ⟨GfrnX, ⟨afrn, ifrn, kfrn⟩, bfrn⟩ ⟨Gfre, ⟨afre, ifre, kfre⟩, bfre⟩
  have Gfrp := okFreeProc (P := P) (w := w) (K := K) (mg := mg) (base := base) (C := ⟨CS, CW, CR⟩) Ffrp (PySem.W.mg_none_of X G z_range) TS
  have GfrkX := okForkX (P := P) (w := w) (K := K) (mg := mg) (base := base) (C := ⟨CS, CW, CR⟩) (D := ⟨CPr, COp, CNu, CNs, CNt, CFu, CNo, CCo, CLa, CWo, CFi, CRg, CTa, CNr⟩) Ffrk YT (PySem.W.mg_none_of X G z_list) TS RX ⟨GtofX, ⟨atof, itof, ktof⟩, btof⟩ ⟨Gfrp, ⟨afrp, ifrp, kfrp⟩, bfrp⟩
  have Garr0 := okArrive (P := P) (w := w) (K := K) (mg := mg) (base := base) (C := ⟨CS, CW, CR⟩) Farr TS ⟨Gsra, ⟨asra, isra, ksra⟩, bsra⟩ ⟨Gunf, ⟨aunf, iunf, kunf⟩, bunf⟩ ⟨Gnfy, ⟨anfy, infy, knfy⟩, bnfy⟩ ⟨Gcnt, kcnt, mcnt, bcnt⟩
  have GarrE := okArriveE (P := P) (w := w) (K := K) (mg := mg) (base := base) (C := ⟨CS, CW, CR⟩) (D := ⟨CPr, COp, CNu, CNs, CNt, CFu, CNo, CCo, CLa, CWo, CFi, CRg, CTa, CNr⟩) Farr TS RX ⟨GsraX, ⟨asra, isra, ksra⟩, bsra⟩ ⟨GunfX, ⟨aunf, iunf, kunf⟩, bunf⟩ ⟨GcntX, kcnt, mcnt, bcnt⟩
  have Gred0 := okRead (P := P) (w := w) (K := K) (mg := mg) (base := base) (C := ⟨CS, CW, CR⟩) Fred YT TS ⟨Gsra, ⟨asra, isra, ksra⟩, bsra⟩ ⟨Gcnt, kcnt, mcnt, bcnt⟩
  have GredE := okReadE (P := P) (w := w) (K := K) (mg := mg) (base := base) (C := ⟨CS, CW, CR⟩) (D := ⟨CPr, COp, CNu, CNs, CNt, CFu, CNo, CCo, CLa, CWo, CFi, CRg, CTa, CNr⟩) Fred TS RX ⟨GsraX, ⟨asra, isra, ksra⟩, bsra⟩ ⟨GcntX, kcnt, mcnt, bcnt⟩
  have Gwai0 := okWait (P := P) (w := w) (K := K) (mg := mg) (base := base) (C := ⟨CS, CW, CR⟩) Fwai TS TW ⟨Gsta, ⟨asta, ista, ksta⟩, bsta⟩ ⟨Gcnt, kcnt, mcnt, bcnt⟩ ⟨Grep, ⟨arep, irep, krep⟩, brep⟩
  have GwaiE := okWaitE (P := P) (w := w) (K := K) (mg := mg) (base := base) (C := ⟨CS, CW, CR⟩) (D := ⟨CPr, COp, CNu, CNs, CNt, CFu, CNo, CCo, CLa, CWo, CFi, CRg, CTa, CNr⟩) Fwai TS RX ⟨GstaX, ⟨asta, ista, ksta⟩, bsta⟩ ⟨GcntX, kcnt, mcnt, bcnt⟩
  have Gadd0 := okAdd (P := P) (w := w) (K := K) (mg := mg) (base := base) (C := ⟨CS, CW, CR⟩) Fadd TS TW ⟨Gsta, ⟨asta, ista, ksta⟩, bsta⟩ ⟨Gsra, ⟨asra, isra, ksra⟩, bsra⟩ ⟨Glab, klab, mlab, blab⟩ ⟨Gwrd, kwrd, mwrd, bwrd⟩ ⟨Glof, ⟨alof, ilof, klof⟩, blof⟩ gmR KR Gri bri ⟨Grdy, ⟨ardy, irdy, krdy⟩, brdy⟩ ⟨Gput, ⟨aput, iput, kput⟩, bput⟩
  have GaddE := okAddE (P := P) (w := w) (K := K) (mg := mg) (base := base) (C := ⟨CS, CW, CR⟩) (D := ⟨CPr, COp, CNu, CNs, CNt, CFu, CNo, CCo, CLa, CWo, CFi, CRg, CTa, CNr⟩) Fadd TS TW RX ⟨GstaX, ⟨asta, ista, ksta⟩, bsta⟩ ⟨GsraX, ⟨asra, isra, ksra⟩, bsra⟩ ⟨GlabX, klab, mlab, blab⟩ ⟨GwrdX, kwrd, mwrd, bwrd⟩ ⟨Glof, ⟨alof, ilof, klof⟩, blof⟩
  have Gchg0 := okChange (P := P) (w := w) (K := K) (mg := mg) (base := base) (C := ⟨CS, CW, CR⟩) Fchg TS TW ⟨Gsta, ⟨asta, ista, ksta⟩, bsta⟩ ⟨Gsra, ⟨asra, isra, ksra⟩, bsra⟩ ⟨Gwrd, kwrd, mwrd, bwrd⟩ ⟨Glof, ⟨alof, ilof, klof⟩, blof⟩ gmR KR Gri bri ⟨Grdy, ⟨ardy, irdy, krdy⟩, brdy⟩ ⟨Gput, ⟨aput, iput, kput⟩, bput⟩
  have GchgE := okChangeE (P := P) (w := w) (K := K) (mg := mg) (base := base) (C := ⟨CS, CW, CR⟩) (D := ⟨CPr, COp, CNu, CNs, CNt, CFu, CNo, CCo, CLa, CWo, CFi, CRg, CTa, CNr⟩) Fchg TS TW RX ⟨GstaX, ⟨asta, ista, ksta⟩, bsta⟩ ⟨GsraX, ⟨asra, isra, ksra⟩, bsra⟩ ⟨GwrdX, kwrd, mwrd, bwrd⟩ ⟨Glof, ⟨alof, ilof, klof⟩, blof⟩
  have Grem0 := okRemove (P := P) (w := w) (K := K) (mg := mg) (base := base) (C := ⟨CS, CW, CR⟩) Frem TS TW ⟨Gsta, ⟨asta, ista, ksta⟩, bsta⟩ ⟨Gsra, ⟨asra, isra, ksra⟩, bsra⟩ ⟨Glof, ⟨alof, ilof, klof⟩, blof⟩ ⟨Gdrp, ⟨adrp, idrp, kdrp⟩, bdrp⟩
  have GremE := okRemoveE (P := P) (w := w) (K := K) (mg := mg) (base := base) (C := ⟨CS, CW, CR⟩) (D := ⟨CPr, COp, CNu, CNs, CNt, CFu, CNo, CCo, CLa, CWo, CFi, CRg, CTa, CNr⟩) Frem TS TW RX ⟨GstaX, ⟨asta, ista, ksta⟩, bsta⟩ ⟨GsraX, ⟨asra, isra, ksra⟩, bsra⟩ ⟨Glof, ⟨alof, ilof, klof⟩, blof⟩
  have GarrX := Wn.okArriveX (C := ⟨CS, CW, CR⟩) (D := ⟨CPr, COp, CNu, CNs, CNt, CFu, CNo, CCo, CLa, CWo, CFi, CRg, CTa, CNr⟩) Garr0 GarrE
  have GredX := Wn.okReadX (C := ⟨CS, CW, CR⟩) (D := ⟨CPr, COp, CNu, CNs, CNt, CFu, CNo, CCo, CLa, CWo, CFi, CRg, CTa, CNr⟩) Gred0 GredE
  have GwaiX := Wn.okWaitX (C := ⟨CS, CW, CR⟩) (D := ⟨CPr, COp, CNu, CNs, CNt, CFu, CNo, CCo, CLa, CWo, CFi, CRg, CTa, CNr⟩) Gwai0 GwaiE
  have GaddX := Wn.okAddX (C := ⟨CS, CW, CR⟩) (D := ⟨CPr, COp, CNu, CNs, CNt, CFu, CNo, CCo, CLa, CWo, CFi, CRg, CTa, CNr⟩) Gadd0 GaddE
  have GchgX := Wn.okChangeX (C := ⟨CS, CW, CR⟩) (D := ⟨CPr, COp, CNu, CNs, CNt, CFu, CNo, CCo, CLa, CWo, CFi, CRg, CTa, CNr⟩) Gchg0 GchgE
  have GremX := Wn.okRemoveX (C := ⟨CS, CW, CR⟩) (D := ⟨CPr, COp, CNu, CNs, CNt, CFu, CNo, CCo, CLa, CWo, CFi, CRg, CTa, CNr⟩) Grem0 GremE
  have GnumX := okNumbersX (P := P) (w := w) (K := K) (mg := mg) (base := base) (C := ⟨CS, CW, CR⟩) (D := ⟨CPr, COp, CNu, CNs, CNt, CFu, CNo, CCo, CLa, CWo, CFi, CRg, CTa, CNr⟩) Fnum YT TS ⟨GtofX, ⟨atof, itof, ktof⟩, btof⟩
  have Gtng := okThings (P := P) (w := w) (K := K) (mg := mg) (base := base) (C := ⟨CS, CW, CR⟩) Ftng RT TS
  have Gnof := okNumbersOf (P := P) (w := w) (K := K) (mg := mg) (base := base) (C := ⟨CS, CW, CR⟩) Fnof RT TS
  have Gnam := okNameOf (P := P) (w := w) (K := K) (mg := mg) (base := base) (C := ⟨CS, CW, CR⟩) Fnam TS ⟨Gnof, ⟨anof, inof, knof⟩, bnof⟩
  have Greg := okRegistrations (P := P) (w := w) (K := K) (mg := mg) (base := base) (C := ⟨CS, CW, CR⟩) Freg TS TW TR ⟨Gtng, ⟨atng, itng, ktng⟩, btng⟩ ⟨Gnam, ⟨anam, inam, knam⟩, bnam⟩
  have Glen := okLen (P := P) (w := w) (K := K) (mg := mg) (base := base) (C := ⟨CS, CW, CR⟩) Flen (PySem.W.mg_none_of X G z_len) TS
  have MS : Ms P w K mg base ⟨CS, CW, CR⟩ ⟨CPr, COp, CNu, CNs, CNt, CFu, CNo, CCo, CLa, CWo, CFi, CRg, CTa, CNr⟩ := ⟨TS, nWR, ⟨_, _, GnsoX, ⟨anso, inso, knso⟩, bnso⟩, ⟨_, _, GnseX, ⟨anse, inse, knse⟩, bnse⟩, ⟨_, _, _, GaddX, ⟨aadd, iadd, kadd⟩, badd, vadd⟩, ⟨_, _, _, GcpyX, ⟨acpy, icpy, kcpy⟩, bcpy, vcpy⟩, ⟨_, _, GcloX, ⟨aclo, iclo, kclo⟩, bclo⟩, ⟨_, _, GfrkX, ⟨afrk, ifrk, kfrk⟩, bfrk⟩, ⟨_, _, GnumX, ⟨anum, inum, knum⟩, bnum⟩, ⟨_, _, _, GarrX, ⟨aarr, iarr, karr⟩, barr, varr⟩, ⟨_, _, _, GredX, ⟨ared, ired, kred⟩, bred, vred⟩, ⟨_, _, GwaiX, ⟨awai, iwai, kwai⟩, Bwai⟩, ⟨_, _, ⟨Greg, ⟨areg, ireg, kreg⟩, breg⟩⟩, ⟨_, _, Glen, ⟨alen, ilen, klen⟩, blen⟩⟩
  have Gunr := okUnreached (P := P) (w := w) (K := K) (mg := mg) (base := base) (C := ⟨CS, CW, CR⟩) (D := ⟨CPr, COp, CNu, CNs, CNt, CFu, CNo, CCo, CLa, CWo, CFi, CRg, CTa, CNr⟩) Funr LX TS RX xOpNr GremX ⟨arem, irem, krem⟩ brem GchgX ⟨achg, ichg, kchg⟩ kbchg ⟨Greg, ⟨areg, ireg, kreg⟩, breg⟩
  have Grou := okRound (P := P) (w := w) (K := K) (mg := mg) (base := base) (C := ⟨CS, CW, CR⟩) (D := ⟨CPr, COp, CNu, CNs, CNt, CFu, CNo, CCo, CLa, CWo, CFi, CRg, CTa, CNr⟩) Frou LX MS ⟨Gtake, ktake, mtake, btake⟩ ⟨Gunr, kunr, munr, bunr⟩
  have Glrp := okLawReports (P := P) (w := w) (K := K) (mg := mg) (base := base) (C := ⟨CS, CW, CR⟩) (D := ⟨CPr, COp, CNu, CNs, CNt, CFu, CNo, CCo, CLa, CWo, CFi, CRg, CTa, CNr⟩) Flrp LX MS
  have Gldr := okDropped (P := P) (w := w) (K := K) (mg := mg) (base := base) (C := ⟨CS, CW, CR⟩) (D := ⟨CPr, COp, CNu, CNs, CNt, CFu, CNo, CCo, CLa, CWo, CFi, CRg, CTa, CNr⟩) Fldr LX MS ⟨Gtake, ktake, mtake, btake⟩ ⟨Gof, kof, mof, bof⟩
  exact okLaw (C := ⟨CS, CW, CR⟩) (D := ⟨CPr, COp, CNu, CNs, CNt, CFu, CNo, CCo, CLa, CWo, CFi, CRg, CTa, CNr⟩) Flaw LX MS gmS KS Gsi kbsi ⟨Gbag, kbag, mbag, bbag⟩ ⟨Gtake, ktake, mtake, btake⟩ ⟨Grou, krou, mrou, brou⟩ ⟨Gunr, kunr, munr, bunr⟩ ⟨Gldr, kldr, mldr, bldr⟩ ⟨Glrp, klrp, mlrp, blrp⟩
theorem facts {P : Program} {w : World} {K : PySem.W.Frag} {h : Heap} {mg : Str → Option Value} {fa : Addr} (X : K.In h) (G : h.Ns mainGlobals mg) (hfa : mg "law" = some (.ref fa)) (c : SaysB ckL fnL fxL K) :
    ∃ fd : FuncData, (∀ (s : Shared) (u : Value), BindsTo s fd ⟨[u], []⟩ [("_law_script", u)]) ∧ ∀ base : Heap, K.In base → base.Ns mainGlobals mg → FnOk P w K mg base CX0 9 fa fd ["_law_script"] (spLaw K) := by
  have gCS : PySem.W.nsIn K mainGlobals "System" = some (some (.ref (He.ga K "System"))) := of_decide_eq_true (SaysB.ck c 0 (f := fun K => decide (PySem.W.nsIn K mainGlobals "System" = some (some (.ref (He.ga K "System"))))) rfl)
  have pgS : PySem.W.plainGet K (He.ga K "System") Str.empty = true := (SaysB.ck c 1 (f := fun K => PySem.W.plainGet K (He.ga K "System") Str.empty) rfl)
  have hdS : PySem.W.hasDictIn K (He.ga K "System") = true := (SaysB.ck c 2 (f := fun K => PySem.W.hasDictIn K (He.ga K "System")) rfl)
  have poS : PySem.W.plainOver K (He.ga K "System") = true := (SaysB.ck c 3 (f := fun K => PySem.W.plainOver K (He.ga K "System")) rfl)
  have saS : PySem.W.findIn K (.ref (He.ga K "System")) "__setattr__" = some (some (.builtin "object.__setattr__")) := of_decide_eq_true (SaysB.ck c 4 (f := fun K => decide (PySem.W.findIn K (.ref (He.ga K "System")) "__setattr__" = some (some (.builtin "object.__setattr__")))) rfl)
  have mkS : PySem.W.makesIn K (He.ga K "System") = true := (SaysB.ck c 5 (f := fun K => PySem.W.makesIn K (He.ga K "System")) rfl)
  have kcS : PySem.W.keepIn K (.ref (He.ga K "System")) = true := (SaysB.ck c 6 (f := fun K => PySem.W.keepIn K (.ref (He.ga K "System"))) rfl)
  have noS0 : PySem.W.findIn K (.ref (He.ga K "System")) "process_limit" = some none := of_decide_eq_true (SaysB.ck c 7 (f := fun K => decide (PySem.W.findIn K (.ref (He.ga K "System")) "process_limit" = some none)) rfl)
  have noS1 : PySem.W.findIn K (.ref (He.ga K "System")) "number_limit" = some none := of_decide_eq_true (SaysB.ck c 8 (f := fun K => decide (PySem.W.findIn K (.ref (He.ga K "System")) "number_limit" = some none)) rfl)
  have noS2 : PySem.W.findIn K (.ref (He.ga K "System")) "tables" = some none := of_decide_eq_true (SaysB.ck c 9 (f := fun K => decide (PySem.W.findIn K (.ref (He.ga K "System")) "tables" = some none)) rfl)
  have noS3 : PySem.W.findIn K (.ref (He.ga K "System")) "sources" = some none := of_decide_eq_true (SaysB.ck c 10 (f := fun K => decide (PySem.W.findIn K (.ref (He.ga K "System")) "sources" = some none)) rfl)
  have noS4 : PySem.W.findIn K (.ref (He.ga K "System")) "sets" = some none := of_decide_eq_true (SaysB.ck c 11 (f := fun K => decide (PySem.W.findIn K (.ref (He.ga K "System")) "sets" = some none)) rfl)
  have noS5 : PySem.W.findIn K (.ref (He.ga K "System")) "next_thing" = some none := of_decide_eq_true (SaysB.ck c 12 (f := fun K => decide (PySem.W.findIn K (.ref (He.ga K "System")) "next_thing" = some none)) rfl)
  have gCW : PySem.W.nsIn K mainGlobals "WaitingSet" = some (some (.ref (He.ga K "WaitingSet"))) := of_decide_eq_true (SaysB.ck c 13 (f := fun K => decide (PySem.W.nsIn K mainGlobals "WaitingSet" = some (some (.ref (He.ga K "WaitingSet"))))) rfl)
  have pgW : PySem.W.plainGet K (He.ga K "WaitingSet") Str.empty = true := (SaysB.ck c 14 (f := fun K => PySem.W.plainGet K (He.ga K "WaitingSet") Str.empty) rfl)
  have hdW : PySem.W.hasDictIn K (He.ga K "WaitingSet") = true := (SaysB.ck c 15 (f := fun K => PySem.W.hasDictIn K (He.ga K "WaitingSet")) rfl)
  have poW : PySem.W.plainOver K (He.ga K "WaitingSet") = true := (SaysB.ck c 16 (f := fun K => PySem.W.plainOver K (He.ga K "WaitingSet")) rfl)
  have saW : PySem.W.findIn K (.ref (He.ga K "WaitingSet")) "__setattr__" = some (some (.builtin "object.__setattr__")) := of_decide_eq_true (SaysB.ck c 17 (f := fun K => decide (PySem.W.findIn K (.ref (He.ga K "WaitingSet")) "__setattr__" = some (some (.builtin "object.__setattr__")))) rfl)
  have mkW : PySem.W.makesIn K (He.ga K "WaitingSet") = true := (SaysB.ck c 18 (f := fun K => PySem.W.makesIn K (He.ga K "WaitingSet")) rfl)
  have kcW : PySem.W.keepIn K (.ref (He.ga K "WaitingSet")) = true := (SaysB.ck c 19 (f := fun K => PySem.W.keepIn K (.ref (He.ga K "WaitingSet"))) rfl)
  have noW0 : PySem.W.findIn K (.ref (He.ga K "WaitingSet")) "entries" = some none := of_decide_eq_true (SaysB.ck c 20 (f := fun K => decide (PySem.W.findIn K (.ref (He.ga K "WaitingSet")) "entries" = some none)) rfl)
  have noW1 : PySem.W.findIn K (.ref (He.ga K "WaitingSet")) "queue" = some none := of_decide_eq_true (SaysB.ck c 21 (f := fun K => decide (PySem.W.findIn K (.ref (He.ga K "WaitingSet")) "queue" = some none)) rfl)
  have gCR : PySem.W.nsIn K mainGlobals "Registration" = some (some (.ref (He.ga K "Registration"))) := of_decide_eq_true (SaysB.ck c 22 (f := fun K => decide (PySem.W.nsIn K mainGlobals "Registration" = some (some (.ref (He.ga K "Registration"))))) rfl)
  have pgR : PySem.W.plainGet K (He.ga K "Registration") Str.empty = true := (SaysB.ck c 23 (f := fun K => PySem.W.plainGet K (He.ga K "Registration") Str.empty) rfl)
  have hdR : PySem.W.hasDictIn K (He.ga K "Registration") = true := (SaysB.ck c 24 (f := fun K => PySem.W.hasDictIn K (He.ga K "Registration")) rfl)
  have poR : PySem.W.plainOver K (He.ga K "Registration") = true := (SaysB.ck c 25 (f := fun K => PySem.W.plainOver K (He.ga K "Registration")) rfl)
  have saR : PySem.W.findIn K (.ref (He.ga K "Registration")) "__setattr__" = some (some (.builtin "object.__setattr__")) := of_decide_eq_true (SaysB.ck c 26 (f := fun K => decide (PySem.W.findIn K (.ref (He.ga K "Registration")) "__setattr__" = some (some (.builtin "object.__setattr__")))) rfl)
  have mkR : PySem.W.makesIn K (He.ga K "Registration") = true := (SaysB.ck c 27 (f := fun K => PySem.W.makesIn K (He.ga K "Registration")) rfl)
  have kcR : PySem.W.keepIn K (.ref (He.ga K "Registration")) = true := (SaysB.ck c 28 (f := fun K => PySem.W.keepIn K (.ref (He.ga K "Registration"))) rfl)
  have noR0 : PySem.W.findIn K (.ref (He.ga K "Registration")) "number" = some none := of_decide_eq_true (SaysB.ck c 29 (f := fun K => decide (PySem.W.findIn K (.ref (He.ga K "Registration")) "number" = some none)) rfl)
  have noR1 : PySem.W.findIn K (.ref (He.ga K "Registration")) "source" = some none := of_decide_eq_true (SaysB.ck c 30 (f := fun K => decide (PySem.W.findIn K (.ref (He.ga K "Registration")) "source" = some none)) rfl)
  have noR2 : PySem.W.findIn K (.ref (He.ga K "Registration")) "word" = some none := of_decide_eq_true (SaysB.ck c 31 (f := fun K => decide (PySem.W.findIn K (.ref (He.ga K "Registration")) "word" = some none)) rfl)
  have noR3 : PySem.W.findIn K (.ref (He.ga K "Registration")) "armed" = some none := of_decide_eq_true (SaysB.ck c 32 (f := fun K => decide (PySem.W.findIn K (.ref (He.ga K "Registration")) "armed" = some none)) rfl)
  have nWR : (He.ga K "WaitingSet") ≠ (He.ga K "Registration") := of_decide_eq_true (SaysB.ck c 33 (f := fun K => decide ((He.ga K "WaitingSet") ≠ (He.ga K "Registration"))) rfl)
  have gCPr : PySem.W.nsIn K mainGlobals "NoProcess" = some (some (.ref (He.ga K "NoProcess"))) := of_decide_eq_true (SaysB.ck c 34 (f := fun K => decide (PySem.W.nsIn K mainGlobals "NoProcess" = some (some (.ref (He.ga K "NoProcess"))))) rfl)
  obtain ⟨nmPr, qPr, NPr, bsPr, snPr, subPr, abPr, colPr, ddPr, maPr, mbPr, mcPr, mdPr, mePr, xLPr⟩ := excB_ok (SaysB.ck c 35 (f := fun K => excB K (He.ga K "NoProcess") [.type "LookupError", .type "Exception", .type "BaseException", .type "object"] "LookupError.__new__") rfl)
  have xsaPr : PySem.W.findIn K (.ref (He.ga K "NoProcess")) "__setattr__" = some (some (.builtin "object.__setattr__")) := of_decide_eq_true (SaysB.ck c 36 (f := fun K => decide (PySem.W.findIn K (.ref (He.ga K "NoProcess")) "__setattr__" = some (some (.builtin "object.__setattr__")))) rfl)
  have xgaPr : PySem.W.findIn K (.ref (He.ga K "NoProcess")) "__getattribute__" = some (some (.builtin "BaseException.__getattribute__")) := of_decide_eq_true (SaysB.ck c 37 (f := fun K => decide (PySem.W.findIn K (.ref (He.ga K "NoProcess")) "__getattribute__" = some (some (.builtin "BaseException.__getattribute__")))) rfl)
  have xggPr : PySem.W.findIn K (.ref (He.ga K "NoProcess")) "__getattr__" = some none := of_decide_eq_true (SaysB.ck c 38 (f := fun K => decide (PySem.W.findIn K (.ref (He.ga K "NoProcess")) "__getattr__" = some none)) rfl)
  have xnbPr0 : PySem.W.findIn K (.ref (He.ga K "NoProcess")) "process" = some none := of_decide_eq_true (SaysB.ck c 39 (f := fun K => decide (PySem.W.findIn K (.ref (He.ga K "NoProcess")) "process" = some none)) rfl)
  have xvVPr : PySem.W.findCls K (.type "LookupError") (.type "type") "__init__" = some (.val (.builtin "LookupError.__init__")) := clsB_ok (SaysB.ck c 40 (f := fun K => clsB (PySem.W.findCls K (.type "LookupError") (.type "type") "__init__") "LookupError.__init__") rfl)
  have xkCPr : PySem.W.keepIn K (.ref (He.ga K "NoProcess")) = true := (SaysB.ck c 41 (f := fun K => PySem.W.keepIn K (.ref (He.ga K "NoProcess"))) rfl)
  have xeCPr : PySem.W.subIn K (.ref (He.ga K "NoProcess")) (.type "BaseException") = some true := of_decide_eq_true (SaysB.ck c 42 (f := fun K => decide (PySem.W.subIn K (.ref (He.ga K "NoProcess")) (.type "BaseException") = some true)) rfl)
  have xtCPr : PySem.W.typeIn K (.ref (He.ga K "NoProcess")) = some (.type "type") := of_decide_eq_true (SaysB.ck c 43 (f := fun K => decide (PySem.W.typeIn K (.ref (He.ga K "NoProcess")) = some (.type "type"))) rfl)
  have xhCPr : PySem.W.hasDictIn K (He.ga K "NoProcess") = true := (SaysB.ck c 44 (f := fun K => PySem.W.hasDictIn K (He.ga K "NoProcess")) rfl)
  have xtePr : PySem.W.exmOne K (.ref (He.ga K "NoProcess")) (.ref (He.ga K "NoProcess")) = some true := of_decide_eq_true (SaysB.ck c 45 (f := fun K => decide (PySem.W.exmOne K (.ref (He.ga K "NoProcess")) (.ref (He.ga K "NoProcess")) = some true)) rfl)
  have xC1Pr : PySem.W.findIn K (.ref (He.ga K "NoProcess")) "__class__" = some (some (.builtin "object.__class__")) := of_decide_eq_true (SaysB.ck c 46 (f := fun K => decide (PySem.W.findIn K (.ref (He.ga K "NoProcess")) "__class__" = some (some (.builtin "object.__class__")))) rfl)
  have xC4Pr : PySem.W.mroIn K (He.ga K "NoProcess") (.type "object") = some true := of_decide_eq_true (SaysB.ck c 47 (f := fun K => decide (PySem.W.mroIn K (He.ga K "NoProcess") (.type "object") = some true)) rfl)
  have xC5Pr : (PySem.W.clsIn K (He.ga K "NoProcess")).isSome = true := (SaysB.ck c 48 (f := fun K => (PySem.W.clsIn K (He.ga K "NoProcess")).isSome) rfl)
  have xkvPr : PySem.W.kitOne K (.ref (He.ga K "NoProcess")) (.type "LookupError") = some true := of_decide_eq_true (SaysB.ck c 49 (f := fun K => decide (PySem.W.kitOne K (.ref (He.ga K "NoProcess")) (.type "LookupError") = some true)) rfl)
  have xC2 : PySem.W.specialIn K (.builtin "object.__class__") "__get__" = some (some (.builtin "getset_descriptor.__get__")) := of_decide_eq_true (SaysB.ck c 50 (f := fun K => decide (PySem.W.specialIn K (.builtin "object.__class__") "__get__" = some (some (.builtin "getset_descriptor.__get__")))) rfl)
  have xC3 : PySem.W.takesIn K (.builtin "object.__class__") = some true := of_decide_eq_true (SaysB.ck c 51 (f := fun K => decide (PySem.W.takesIn K (.builtin "object.__class__") = some true)) rfl)
  have gCOp : PySem.W.nsIn K mainGlobals "NotOpen" = some (some (.ref (He.ga K "NotOpen"))) := of_decide_eq_true (SaysB.ck c 52 (f := fun K => decide (PySem.W.nsIn K mainGlobals "NotOpen" = some (some (.ref (He.ga K "NotOpen"))))) rfl)
  obtain ⟨nmOp, qOp, NOp, bsOp, snOp, subOp, abOp, colOp, ddOp, maOp, mbOp, mcOp, mdOp, meOp, xLOp⟩ := excB_ok (SaysB.ck c 53 (f := fun K => excB K (He.ga K "NotOpen") [.type "LookupError", .type "Exception", .type "BaseException", .type "object"] "LookupError.__new__") rfl)
  have xsaOp : PySem.W.findIn K (.ref (He.ga K "NotOpen")) "__setattr__" = some (some (.builtin "object.__setattr__")) := of_decide_eq_true (SaysB.ck c 54 (f := fun K => decide (PySem.W.findIn K (.ref (He.ga K "NotOpen")) "__setattr__" = some (some (.builtin "object.__setattr__")))) rfl)
  have xgaOp : PySem.W.findIn K (.ref (He.ga K "NotOpen")) "__getattribute__" = some (some (.builtin "BaseException.__getattribute__")) := of_decide_eq_true (SaysB.ck c 55 (f := fun K => decide (PySem.W.findIn K (.ref (He.ga K "NotOpen")) "__getattribute__" = some (some (.builtin "BaseException.__getattribute__")))) rfl)
  have xggOp : PySem.W.findIn K (.ref (He.ga K "NotOpen")) "__getattr__" = some none := of_decide_eq_true (SaysB.ck c 56 (f := fun K => decide (PySem.W.findIn K (.ref (He.ga K "NotOpen")) "__getattr__" = some none)) rfl)
  have xnbOp0 : PySem.W.findIn K (.ref (He.ga K "NotOpen")) "number" = some none := of_decide_eq_true (SaysB.ck c 57 (f := fun K => decide (PySem.W.findIn K (.ref (He.ga K "NotOpen")) "number" = some none)) rfl)
  have xvVOp : PySem.W.findCls K (.type "LookupError") (.type "type") "__init__" = some (.val (.builtin "LookupError.__init__")) := clsB_ok (SaysB.ck c 58 (f := fun K => clsB (PySem.W.findCls K (.type "LookupError") (.type "type") "__init__") "LookupError.__init__") rfl)
  have xkCOp : PySem.W.keepIn K (.ref (He.ga K "NotOpen")) = true := (SaysB.ck c 59 (f := fun K => PySem.W.keepIn K (.ref (He.ga K "NotOpen"))) rfl)
  have xeCOp : PySem.W.subIn K (.ref (He.ga K "NotOpen")) (.type "BaseException") = some true := of_decide_eq_true (SaysB.ck c 60 (f := fun K => decide (PySem.W.subIn K (.ref (He.ga K "NotOpen")) (.type "BaseException") = some true)) rfl)
  have xtCOp : PySem.W.typeIn K (.ref (He.ga K "NotOpen")) = some (.type "type") := of_decide_eq_true (SaysB.ck c 61 (f := fun K => decide (PySem.W.typeIn K (.ref (He.ga K "NotOpen")) = some (.type "type"))) rfl)
  have xhCOp : PySem.W.hasDictIn K (He.ga K "NotOpen") = true := (SaysB.ck c 62 (f := fun K => PySem.W.hasDictIn K (He.ga K "NotOpen")) rfl)
  have xteOp : PySem.W.exmOne K (.ref (He.ga K "NotOpen")) (.ref (He.ga K "NotOpen")) = some true := of_decide_eq_true (SaysB.ck c 63 (f := fun K => decide (PySem.W.exmOne K (.ref (He.ga K "NotOpen")) (.ref (He.ga K "NotOpen")) = some true)) rfl)
  have xC1Op : PySem.W.findIn K (.ref (He.ga K "NotOpen")) "__class__" = some (some (.builtin "object.__class__")) := of_decide_eq_true (SaysB.ck c 64 (f := fun K => decide (PySem.W.findIn K (.ref (He.ga K "NotOpen")) "__class__" = some (some (.builtin "object.__class__")))) rfl)
  have xC4Op : PySem.W.mroIn K (He.ga K "NotOpen") (.type "object") = some true := of_decide_eq_true (SaysB.ck c 65 (f := fun K => decide (PySem.W.mroIn K (He.ga K "NotOpen") (.type "object") = some true)) rfl)
  have xC5Op : (PySem.W.clsIn K (He.ga K "NotOpen")).isSome = true := (SaysB.ck c 66 (f := fun K => (PySem.W.clsIn K (He.ga K "NotOpen")).isSome) rfl)
  have xkvOp : PySem.W.kitOne K (.ref (He.ga K "NotOpen")) (.type "LookupError") = some true := of_decide_eq_true (SaysB.ck c 67 (f := fun K => decide (PySem.W.kitOne K (.ref (He.ga K "NotOpen")) (.type "LookupError") = some true)) rfl)
  have gCNu : PySem.W.nsIn K mainGlobals "NoNumber" = some (some (.ref (He.ga K "NoNumber"))) := of_decide_eq_true (SaysB.ck c 68 (f := fun K => decide (PySem.W.nsIn K mainGlobals "NoNumber" = some (some (.ref (He.ga K "NoNumber"))))) rfl)
  obtain ⟨nmNu, qNu, NNu, bsNu, snNu, subNu, abNu, colNu, ddNu, maNu, mbNu, mcNu, mdNu, meNu, xLNu⟩ := excB_ok (SaysB.ck c 69 (f := fun K => excB K (He.ga K "NoNumber") [.type "LookupError", .type "Exception", .type "BaseException", .type "object"] "LookupError.__new__") rfl)
  have xsaNu : PySem.W.findIn K (.ref (He.ga K "NoNumber")) "__setattr__" = some (some (.builtin "object.__setattr__")) := of_decide_eq_true (SaysB.ck c 70 (f := fun K => decide (PySem.W.findIn K (.ref (He.ga K "NoNumber")) "__setattr__" = some (some (.builtin "object.__setattr__")))) rfl)
  have xgaNu : PySem.W.findIn K (.ref (He.ga K "NoNumber")) "__getattribute__" = some (some (.builtin "BaseException.__getattribute__")) := of_decide_eq_true (SaysB.ck c 71 (f := fun K => decide (PySem.W.findIn K (.ref (He.ga K "NoNumber")) "__getattribute__" = some (some (.builtin "BaseException.__getattribute__")))) rfl)
  have xggNu : PySem.W.findIn K (.ref (He.ga K "NoNumber")) "__getattr__" = some none := of_decide_eq_true (SaysB.ck c 72 (f := fun K => decide (PySem.W.findIn K (.ref (He.ga K "NoNumber")) "__getattr__" = some none)) rfl)
  have xnbNu0 : PySem.W.findIn K (.ref (He.ga K "NoNumber")) "number" = some none := of_decide_eq_true (SaysB.ck c 73 (f := fun K => decide (PySem.W.findIn K (.ref (He.ga K "NoNumber")) "number" = some none)) rfl)
  have xvVNu : PySem.W.findCls K (.type "LookupError") (.type "type") "__init__" = some (.val (.builtin "LookupError.__init__")) := clsB_ok (SaysB.ck c 74 (f := fun K => clsB (PySem.W.findCls K (.type "LookupError") (.type "type") "__init__") "LookupError.__init__") rfl)
  have xkCNu : PySem.W.keepIn K (.ref (He.ga K "NoNumber")) = true := (SaysB.ck c 75 (f := fun K => PySem.W.keepIn K (.ref (He.ga K "NoNumber"))) rfl)
  have xeCNu : PySem.W.subIn K (.ref (He.ga K "NoNumber")) (.type "BaseException") = some true := of_decide_eq_true (SaysB.ck c 76 (f := fun K => decide (PySem.W.subIn K (.ref (He.ga K "NoNumber")) (.type "BaseException") = some true)) rfl)
  have xtCNu : PySem.W.typeIn K (.ref (He.ga K "NoNumber")) = some (.type "type") := of_decide_eq_true (SaysB.ck c 77 (f := fun K => decide (PySem.W.typeIn K (.ref (He.ga K "NoNumber")) = some (.type "type"))) rfl)
  have xhCNu : PySem.W.hasDictIn K (He.ga K "NoNumber") = true := (SaysB.ck c 78 (f := fun K => PySem.W.hasDictIn K (He.ga K "NoNumber")) rfl)
  have xteNu : PySem.W.exmOne K (.ref (He.ga K "NoNumber")) (.ref (He.ga K "NoNumber")) = some true := of_decide_eq_true (SaysB.ck c 79 (f := fun K => decide (PySem.W.exmOne K (.ref (He.ga K "NoNumber")) (.ref (He.ga K "NoNumber")) = some true)) rfl)
  have xC1Nu : PySem.W.findIn K (.ref (He.ga K "NoNumber")) "__class__" = some (some (.builtin "object.__class__")) := of_decide_eq_true (SaysB.ck c 80 (f := fun K => decide (PySem.W.findIn K (.ref (He.ga K "NoNumber")) "__class__" = some (some (.builtin "object.__class__")))) rfl)
  have xC4Nu : PySem.W.mroIn K (He.ga K "NoNumber") (.type "object") = some true := of_decide_eq_true (SaysB.ck c 81 (f := fun K => decide (PySem.W.mroIn K (He.ga K "NoNumber") (.type "object") = some true)) rfl)
  have xC5Nu : (PySem.W.clsIn K (He.ga K "NoNumber")).isSome = true := (SaysB.ck c 82 (f := fun K => (PySem.W.clsIn K (He.ga K "NoNumber")).isSome) rfl)
  have xkvNu : PySem.W.kitOne K (.ref (He.ga K "NoNumber")) (.type "LookupError") = some true := of_decide_eq_true (SaysB.ck c 83 (f := fun K => decide (PySem.W.kitOne K (.ref (He.ga K "NoNumber")) (.type "LookupError") = some true)) rfl)
  have gCNs : PySem.W.nsIn K mainGlobals "NotASource" = some (some (.ref (He.ga K "NotASource"))) := of_decide_eq_true (SaysB.ck c 84 (f := fun K => decide (PySem.W.nsIn K mainGlobals "NotASource" = some (some (.ref (He.ga K "NotASource"))))) rfl)
  obtain ⟨nmNs, qNs, NNs, bsNs, snNs, subNs, abNs, colNs, ddNs, maNs, mbNs, mcNs, mdNs, meNs, xLNs⟩ := excB_ok (SaysB.ck c 85 (f := fun K => excB K (He.ga K "NotASource") [.type "TypeError", .type "Exception", .type "BaseException", .type "object"] "TypeError.__new__") rfl)
  have xsaNs : PySem.W.findIn K (.ref (He.ga K "NotASource")) "__setattr__" = some (some (.builtin "object.__setattr__")) := of_decide_eq_true (SaysB.ck c 86 (f := fun K => decide (PySem.W.findIn K (.ref (He.ga K "NotASource")) "__setattr__" = some (some (.builtin "object.__setattr__")))) rfl)
  have xgaNs : PySem.W.findIn K (.ref (He.ga K "NotASource")) "__getattribute__" = some (some (.builtin "BaseException.__getattribute__")) := of_decide_eq_true (SaysB.ck c 87 (f := fun K => decide (PySem.W.findIn K (.ref (He.ga K "NotASource")) "__getattribute__" = some (some (.builtin "BaseException.__getattribute__")))) rfl)
  have xggNs : PySem.W.findIn K (.ref (He.ga K "NotASource")) "__getattr__" = some none := of_decide_eq_true (SaysB.ck c 88 (f := fun K => decide (PySem.W.findIn K (.ref (He.ga K "NotASource")) "__getattr__" = some none)) rfl)
  have xnbNs0 : PySem.W.findIn K (.ref (He.ga K "NotASource")) "number" = some none := of_decide_eq_true (SaysB.ck c 89 (f := fun K => decide (PySem.W.findIn K (.ref (He.ga K "NotASource")) "number" = some none)) rfl)
  have xvVNs : PySem.W.findCls K (.type "TypeError") (.type "type") "__init__" = some (.val (.builtin "TypeError.__init__")) := clsB_ok (SaysB.ck c 90 (f := fun K => clsB (PySem.W.findCls K (.type "TypeError") (.type "type") "__init__") "TypeError.__init__") rfl)
  have xkCNs : PySem.W.keepIn K (.ref (He.ga K "NotASource")) = true := (SaysB.ck c 91 (f := fun K => PySem.W.keepIn K (.ref (He.ga K "NotASource"))) rfl)
  have xeCNs : PySem.W.subIn K (.ref (He.ga K "NotASource")) (.type "BaseException") = some true := of_decide_eq_true (SaysB.ck c 92 (f := fun K => decide (PySem.W.subIn K (.ref (He.ga K "NotASource")) (.type "BaseException") = some true)) rfl)
  have xtCNs : PySem.W.typeIn K (.ref (He.ga K "NotASource")) = some (.type "type") := of_decide_eq_true (SaysB.ck c 93 (f := fun K => decide (PySem.W.typeIn K (.ref (He.ga K "NotASource")) = some (.type "type"))) rfl)
  have xhCNs : PySem.W.hasDictIn K (He.ga K "NotASource") = true := (SaysB.ck c 94 (f := fun K => PySem.W.hasDictIn K (He.ga K "NotASource")) rfl)
  have xteNs : PySem.W.exmOne K (.ref (He.ga K "NotASource")) (.ref (He.ga K "NotASource")) = some true := of_decide_eq_true (SaysB.ck c 95 (f := fun K => decide (PySem.W.exmOne K (.ref (He.ga K "NotASource")) (.ref (He.ga K "NotASource")) = some true)) rfl)
  have xC1Ns : PySem.W.findIn K (.ref (He.ga K "NotASource")) "__class__" = some (some (.builtin "object.__class__")) := of_decide_eq_true (SaysB.ck c 96 (f := fun K => decide (PySem.W.findIn K (.ref (He.ga K "NotASource")) "__class__" = some (some (.builtin "object.__class__")))) rfl)
  have xC4Ns : PySem.W.mroIn K (He.ga K "NotASource") (.type "object") = some true := of_decide_eq_true (SaysB.ck c 97 (f := fun K => decide (PySem.W.mroIn K (He.ga K "NotASource") (.type "object") = some true)) rfl)
  have xC5Ns : (PySem.W.clsIn K (He.ga K "NotASource")).isSome = true := (SaysB.ck c 98 (f := fun K => (PySem.W.clsIn K (He.ga K "NotASource")).isSome) rfl)
  have xkvNs : PySem.W.kitOne K (.ref (He.ga K "NotASource")) (.type "TypeError") = some true := of_decide_eq_true (SaysB.ck c 99 (f := fun K => decide (PySem.W.kitOne K (.ref (He.ga K "NotASource")) (.type "TypeError") = some true)) rfl)
  have gCNt : PySem.W.nsIn K mainGlobals "NotASet" = some (some (.ref (He.ga K "NotASet"))) := of_decide_eq_true (SaysB.ck c 100 (f := fun K => decide (PySem.W.nsIn K mainGlobals "NotASet" = some (some (.ref (He.ga K "NotASet"))))) rfl)
  obtain ⟨nmNt, qNt, NNt, bsNt, snNt, subNt, abNt, colNt, ddNt, maNt, mbNt, mcNt, mdNt, meNt, xLNt⟩ := excB_ok (SaysB.ck c 101 (f := fun K => excB K (He.ga K "NotASet") [.type "TypeError", .type "Exception", .type "BaseException", .type "object"] "TypeError.__new__") rfl)
  have xsaNt : PySem.W.findIn K (.ref (He.ga K "NotASet")) "__setattr__" = some (some (.builtin "object.__setattr__")) := of_decide_eq_true (SaysB.ck c 102 (f := fun K => decide (PySem.W.findIn K (.ref (He.ga K "NotASet")) "__setattr__" = some (some (.builtin "object.__setattr__")))) rfl)
  have xgaNt : PySem.W.findIn K (.ref (He.ga K "NotASet")) "__getattribute__" = some (some (.builtin "BaseException.__getattribute__")) := of_decide_eq_true (SaysB.ck c 103 (f := fun K => decide (PySem.W.findIn K (.ref (He.ga K "NotASet")) "__getattribute__" = some (some (.builtin "BaseException.__getattribute__")))) rfl)
  have xggNt : PySem.W.findIn K (.ref (He.ga K "NotASet")) "__getattr__" = some none := of_decide_eq_true (SaysB.ck c 104 (f := fun K => decide (PySem.W.findIn K (.ref (He.ga K "NotASet")) "__getattr__" = some none)) rfl)
  have xnbNt0 : PySem.W.findIn K (.ref (He.ga K "NotASet")) "number" = some none := of_decide_eq_true (SaysB.ck c 105 (f := fun K => decide (PySem.W.findIn K (.ref (He.ga K "NotASet")) "number" = some none)) rfl)
  have xvVNt : PySem.W.findCls K (.type "TypeError") (.type "type") "__init__" = some (.val (.builtin "TypeError.__init__")) := clsB_ok (SaysB.ck c 106 (f := fun K => clsB (PySem.W.findCls K (.type "TypeError") (.type "type") "__init__") "TypeError.__init__") rfl)
  have xkCNt : PySem.W.keepIn K (.ref (He.ga K "NotASet")) = true := (SaysB.ck c 107 (f := fun K => PySem.W.keepIn K (.ref (He.ga K "NotASet"))) rfl)
  have xeCNt : PySem.W.subIn K (.ref (He.ga K "NotASet")) (.type "BaseException") = some true := of_decide_eq_true (SaysB.ck c 108 (f := fun K => decide (PySem.W.subIn K (.ref (He.ga K "NotASet")) (.type "BaseException") = some true)) rfl)
  have xtCNt : PySem.W.typeIn K (.ref (He.ga K "NotASet")) = some (.type "type") := of_decide_eq_true (SaysB.ck c 109 (f := fun K => decide (PySem.W.typeIn K (.ref (He.ga K "NotASet")) = some (.type "type"))) rfl)
  have xhCNt : PySem.W.hasDictIn K (He.ga K "NotASet") = true := (SaysB.ck c 110 (f := fun K => PySem.W.hasDictIn K (He.ga K "NotASet")) rfl)
  have xteNt : PySem.W.exmOne K (.ref (He.ga K "NotASet")) (.ref (He.ga K "NotASet")) = some true := of_decide_eq_true (SaysB.ck c 111 (f := fun K => decide (PySem.W.exmOne K (.ref (He.ga K "NotASet")) (.ref (He.ga K "NotASet")) = some true)) rfl)
  have xC1Nt : PySem.W.findIn K (.ref (He.ga K "NotASet")) "__class__" = some (some (.builtin "object.__class__")) := of_decide_eq_true (SaysB.ck c 112 (f := fun K => decide (PySem.W.findIn K (.ref (He.ga K "NotASet")) "__class__" = some (some (.builtin "object.__class__")))) rfl)
  have xC4Nt : PySem.W.mroIn K (He.ga K "NotASet") (.type "object") = some true := of_decide_eq_true (SaysB.ck c 113 (f := fun K => decide (PySem.W.mroIn K (He.ga K "NotASet") (.type "object") = some true)) rfl)
  have xC5Nt : (PySem.W.clsIn K (He.ga K "NotASet")).isSome = true := (SaysB.ck c 114 (f := fun K => (PySem.W.clsIn K (He.ga K "NotASet")).isSome) rfl)
  have xkvNt : PySem.W.kitOne K (.ref (He.ga K "NotASet")) (.type "TypeError") = some true := of_decide_eq_true (SaysB.ck c 115 (f := fun K => decide (PySem.W.kitOne K (.ref (He.ga K "NotASet")) (.type "TypeError") = some true)) rfl)
  have gCFu : PySem.W.nsIn K mainGlobals "Full" = some (some (.ref (He.ga K "Full"))) := of_decide_eq_true (SaysB.ck c 116 (f := fun K => decide (PySem.W.nsIn K mainGlobals "Full" = some (some (.ref (He.ga K "Full"))))) rfl)
  obtain ⟨nmFu, qFu, NFu, bsFu, snFu, subFu, abFu, colFu, ddFu, maFu, mbFu, mcFu, mdFu, meFu, xLFu⟩ := excB_ok (SaysB.ck c 117 (f := fun K => excB K (He.ga K "Full") [.type "OverflowError", .type "ArithmeticError", .type "Exception", .type "BaseException", .type "object"] "OverflowError.__new__") rfl)
  have xsaFu : PySem.W.findIn K (.ref (He.ga K "Full")) "__setattr__" = some (some (.builtin "object.__setattr__")) := of_decide_eq_true (SaysB.ck c 118 (f := fun K => decide (PySem.W.findIn K (.ref (He.ga K "Full")) "__setattr__" = some (some (.builtin "object.__setattr__")))) rfl)
  have xgaFu : PySem.W.findIn K (.ref (He.ga K "Full")) "__getattribute__" = some (some (.builtin "BaseException.__getattribute__")) := of_decide_eq_true (SaysB.ck c 119 (f := fun K => decide (PySem.W.findIn K (.ref (He.ga K "Full")) "__getattribute__" = some (some (.builtin "BaseException.__getattribute__")))) rfl)
  have xggFu : PySem.W.findIn K (.ref (He.ga K "Full")) "__getattr__" = some none := of_decide_eq_true (SaysB.ck c 120 (f := fun K => decide (PySem.W.findIn K (.ref (He.ga K "Full")) "__getattr__" = some none)) rfl)
  have xnbFu0 : PySem.W.findIn K (.ref (He.ga K "Full")) "process" = some none := of_decide_eq_true (SaysB.ck c 121 (f := fun K => decide (PySem.W.findIn K (.ref (He.ga K "Full")) "process" = some none)) rfl)
  have xvVFu : PySem.W.findCls K (.type "OverflowError") (.type "type") "__init__" = some (.val (.builtin "OverflowError.__init__")) := clsB_ok (SaysB.ck c 122 (f := fun K => clsB (PySem.W.findCls K (.type "OverflowError") (.type "type") "__init__") "OverflowError.__init__") rfl)
  have xkCFu : PySem.W.keepIn K (.ref (He.ga K "Full")) = true := (SaysB.ck c 123 (f := fun K => PySem.W.keepIn K (.ref (He.ga K "Full"))) rfl)
  have xeCFu : PySem.W.subIn K (.ref (He.ga K "Full")) (.type "BaseException") = some true := of_decide_eq_true (SaysB.ck c 124 (f := fun K => decide (PySem.W.subIn K (.ref (He.ga K "Full")) (.type "BaseException") = some true)) rfl)
  have xtCFu : PySem.W.typeIn K (.ref (He.ga K "Full")) = some (.type "type") := of_decide_eq_true (SaysB.ck c 125 (f := fun K => decide (PySem.W.typeIn K (.ref (He.ga K "Full")) = some (.type "type"))) rfl)
  have xhCFu : PySem.W.hasDictIn K (He.ga K "Full") = true := (SaysB.ck c 126 (f := fun K => PySem.W.hasDictIn K (He.ga K "Full")) rfl)
  have xteFu : PySem.W.exmOne K (.ref (He.ga K "Full")) (.ref (He.ga K "Full")) = some true := of_decide_eq_true (SaysB.ck c 127 (f := fun K => decide (PySem.W.exmOne K (.ref (He.ga K "Full")) (.ref (He.ga K "Full")) = some true)) rfl)
  have xC1Fu : PySem.W.findIn K (.ref (He.ga K "Full")) "__class__" = some (some (.builtin "object.__class__")) := of_decide_eq_true (SaysB.ck c 128 (f := fun K => decide (PySem.W.findIn K (.ref (He.ga K "Full")) "__class__" = some (some (.builtin "object.__class__")))) rfl)
  have xC4Fu : PySem.W.mroIn K (He.ga K "Full") (.type "object") = some true := of_decide_eq_true (SaysB.ck c 129 (f := fun K => decide (PySem.W.mroIn K (He.ga K "Full") (.type "object") = some true)) rfl)
  have xC5Fu : (PySem.W.clsIn K (He.ga K "Full")).isSome = true := (SaysB.ck c 130 (f := fun K => (PySem.W.clsIn K (He.ga K "Full")).isSome) rfl)
  have xkvFu : PySem.W.kitOne K (.ref (He.ga K "Full")) (.type "OverflowError") = some true := of_decide_eq_true (SaysB.ck c 131 (f := fun K => decide (PySem.W.kitOne K (.ref (He.ga K "Full")) (.type "OverflowError") = some true)) rfl)
  have gCNo : PySem.W.nsIn K mainGlobals "NoRoom" = some (some (.ref (He.ga K "NoRoom"))) := of_decide_eq_true (SaysB.ck c 132 (f := fun K => decide (PySem.W.nsIn K mainGlobals "NoRoom" = some (some (.ref (He.ga K "NoRoom"))))) rfl)
  obtain ⟨nmNo, qNo, NNo, bsNo, snNo, subNo, abNo, colNo, ddNo, maNo, mbNo, mcNo, mdNo, meNo, xLNo⟩ := excB_ok (SaysB.ck c 133 (f := fun K => excB K (He.ga K "NoRoom") [.type "OverflowError", .type "ArithmeticError", .type "Exception", .type "BaseException", .type "object"] "OverflowError.__new__") rfl)
  have xsaNo : PySem.W.findIn K (.ref (He.ga K "NoRoom")) "__setattr__" = some (some (.builtin "object.__setattr__")) := of_decide_eq_true (SaysB.ck c 134 (f := fun K => decide (PySem.W.findIn K (.ref (He.ga K "NoRoom")) "__setattr__" = some (some (.builtin "object.__setattr__")))) rfl)
  have xgaNo : PySem.W.findIn K (.ref (He.ga K "NoRoom")) "__getattribute__" = some (some (.builtin "BaseException.__getattribute__")) := of_decide_eq_true (SaysB.ck c 135 (f := fun K => decide (PySem.W.findIn K (.ref (He.ga K "NoRoom")) "__getattribute__" = some (some (.builtin "BaseException.__getattribute__")))) rfl)
  have xggNo : PySem.W.findIn K (.ref (He.ga K "NoRoom")) "__getattr__" = some none := of_decide_eq_true (SaysB.ck c 136 (f := fun K => decide (PySem.W.findIn K (.ref (He.ga K "NoRoom")) "__getattr__" = some none)) rfl)
  have xvVNo : PySem.W.findCls K (.type "OverflowError") (.type "type") "__init__" = some (.val (.builtin "OverflowError.__init__")) := clsB_ok (SaysB.ck c 137 (f := fun K => clsB (PySem.W.findCls K (.type "OverflowError") (.type "type") "__init__") "OverflowError.__init__") rfl)
  have xkCNo : PySem.W.keepIn K (.ref (He.ga K "NoRoom")) = true := (SaysB.ck c 138 (f := fun K => PySem.W.keepIn K (.ref (He.ga K "NoRoom"))) rfl)
  have xeCNo : PySem.W.subIn K (.ref (He.ga K "NoRoom")) (.type "BaseException") = some true := of_decide_eq_true (SaysB.ck c 139 (f := fun K => decide (PySem.W.subIn K (.ref (He.ga K "NoRoom")) (.type "BaseException") = some true)) rfl)
  have xtCNo : PySem.W.typeIn K (.ref (He.ga K "NoRoom")) = some (.type "type") := of_decide_eq_true (SaysB.ck c 140 (f := fun K => decide (PySem.W.typeIn K (.ref (He.ga K "NoRoom")) = some (.type "type"))) rfl)
  have xhCNo : PySem.W.hasDictIn K (He.ga K "NoRoom") = true := (SaysB.ck c 141 (f := fun K => PySem.W.hasDictIn K (He.ga K "NoRoom")) rfl)
  have xteNo : PySem.W.exmOne K (.ref (He.ga K "NoRoom")) (.ref (He.ga K "NoRoom")) = some true := of_decide_eq_true (SaysB.ck c 142 (f := fun K => decide (PySem.W.exmOne K (.ref (He.ga K "NoRoom")) (.ref (He.ga K "NoRoom")) = some true)) rfl)
  have xC1No : PySem.W.findIn K (.ref (He.ga K "NoRoom")) "__class__" = some (some (.builtin "object.__class__")) := of_decide_eq_true (SaysB.ck c 143 (f := fun K => decide (PySem.W.findIn K (.ref (He.ga K "NoRoom")) "__class__" = some (some (.builtin "object.__class__")))) rfl)
  have xC4No : PySem.W.mroIn K (He.ga K "NoRoom") (.type "object") = some true := of_decide_eq_true (SaysB.ck c 144 (f := fun K => decide (PySem.W.mroIn K (He.ga K "NoRoom") (.type "object") = some true)) rfl)
  have xC5No : (PySem.W.clsIn K (He.ga K "NoRoom")).isSome = true := (SaysB.ck c 145 (f := fun K => (PySem.W.clsIn K (He.ga K "NoRoom")).isSome) rfl)
  have xkvNo : PySem.W.kitOne K (.ref (He.ga K "NoRoom")) (.type "OverflowError") = some true := of_decide_eq_true (SaysB.ck c 146 (f := fun K => decide (PySem.W.kitOne K (.ref (He.ga K "NoRoom")) (.type "OverflowError") = some true)) rfl)
  have gCCo : PySem.W.nsIn K mainGlobals "BadCount" = some (some (.ref (He.ga K "BadCount"))) := of_decide_eq_true (SaysB.ck c 147 (f := fun K => decide (PySem.W.nsIn K mainGlobals "BadCount" = some (some (.ref (He.ga K "BadCount"))))) rfl)
  obtain ⟨nmCo, qCo, NCo, bsCo, snCo, subCo, abCo, colCo, ddCo, maCo, mbCo, mcCo, mdCo, meCo, xLCo⟩ := excB_ok (SaysB.ck c 148 (f := fun K => excB K (He.ga K "BadCount") [.type "ValueError", .type "Exception", .type "BaseException", .type "object"] "ValueError.__new__") rfl)
  have xsaCo : PySem.W.findIn K (.ref (He.ga K "BadCount")) "__setattr__" = some (some (.builtin "object.__setattr__")) := of_decide_eq_true (SaysB.ck c 149 (f := fun K => decide (PySem.W.findIn K (.ref (He.ga K "BadCount")) "__setattr__" = some (some (.builtin "object.__setattr__")))) rfl)
  have xgaCo : PySem.W.findIn K (.ref (He.ga K "BadCount")) "__getattribute__" = some (some (.builtin "BaseException.__getattribute__")) := of_decide_eq_true (SaysB.ck c 150 (f := fun K => decide (PySem.W.findIn K (.ref (He.ga K "BadCount")) "__getattribute__" = some (some (.builtin "BaseException.__getattribute__")))) rfl)
  have xggCo : PySem.W.findIn K (.ref (He.ga K "BadCount")) "__getattr__" = some none := of_decide_eq_true (SaysB.ck c 151 (f := fun K => decide (PySem.W.findIn K (.ref (He.ga K "BadCount")) "__getattr__" = some none)) rfl)
  have xnbCo0 : PySem.W.findIn K (.ref (He.ga K "BadCount")) "count" = some none := of_decide_eq_true (SaysB.ck c 152 (f := fun K => decide (PySem.W.findIn K (.ref (He.ga K "BadCount")) "count" = some none)) rfl)
  have xvVCo : PySem.W.findCls K (.type "ValueError") (.type "type") "__init__" = some (.val (.builtin "ValueError.__init__")) := clsB_ok (SaysB.ck c 153 (f := fun K => clsB (PySem.W.findCls K (.type "ValueError") (.type "type") "__init__") "ValueError.__init__") rfl)
  have xkCCo : PySem.W.keepIn K (.ref (He.ga K "BadCount")) = true := (SaysB.ck c 154 (f := fun K => PySem.W.keepIn K (.ref (He.ga K "BadCount"))) rfl)
  have xeCCo : PySem.W.subIn K (.ref (He.ga K "BadCount")) (.type "BaseException") = some true := of_decide_eq_true (SaysB.ck c 155 (f := fun K => decide (PySem.W.subIn K (.ref (He.ga K "BadCount")) (.type "BaseException") = some true)) rfl)
  have xtCCo : PySem.W.typeIn K (.ref (He.ga K "BadCount")) = some (.type "type") := of_decide_eq_true (SaysB.ck c 156 (f := fun K => decide (PySem.W.typeIn K (.ref (He.ga K "BadCount")) = some (.type "type"))) rfl)
  have xhCCo : PySem.W.hasDictIn K (He.ga K "BadCount") = true := (SaysB.ck c 157 (f := fun K => PySem.W.hasDictIn K (He.ga K "BadCount")) rfl)
  have xteCo : PySem.W.exmOne K (.ref (He.ga K "BadCount")) (.ref (He.ga K "BadCount")) = some true := of_decide_eq_true (SaysB.ck c 158 (f := fun K => decide (PySem.W.exmOne K (.ref (He.ga K "BadCount")) (.ref (He.ga K "BadCount")) = some true)) rfl)
  have xC1Co : PySem.W.findIn K (.ref (He.ga K "BadCount")) "__class__" = some (some (.builtin "object.__class__")) := of_decide_eq_true (SaysB.ck c 159 (f := fun K => decide (PySem.W.findIn K (.ref (He.ga K "BadCount")) "__class__" = some (some (.builtin "object.__class__")))) rfl)
  have xC4Co : PySem.W.mroIn K (He.ga K "BadCount") (.type "object") = some true := of_decide_eq_true (SaysB.ck c 160 (f := fun K => decide (PySem.W.mroIn K (He.ga K "BadCount") (.type "object") = some true)) rfl)
  have xC5Co : (PySem.W.clsIn K (He.ga K "BadCount")).isSome = true := (SaysB.ck c 161 (f := fun K => (PySem.W.clsIn K (He.ga K "BadCount")).isSome) rfl)
  have xkvCo : PySem.W.kitOne K (.ref (He.ga K "BadCount")) (.type "ValueError") = some true := of_decide_eq_true (SaysB.ck c 162 (f := fun K => decide (PySem.W.kitOne K (.ref (He.ga K "BadCount")) (.type "ValueError") = some true)) rfl)
  have gCLa : PySem.W.nsIn K mainGlobals "BadLabel" = some (some (.ref (He.ga K "BadLabel"))) := of_decide_eq_true (SaysB.ck c 163 (f := fun K => decide (PySem.W.nsIn K mainGlobals "BadLabel" = some (some (.ref (He.ga K "BadLabel"))))) rfl)
  obtain ⟨nmLa, qLa, NLa, bsLa, snLa, subLa, abLa, colLa, ddLa, maLa, mbLa, mcLa, mdLa, meLa, xLLa⟩ := excB_ok (SaysB.ck c 164 (f := fun K => excB K (He.ga K "BadLabel") [.type "ValueError", .type "Exception", .type "BaseException", .type "object"] "ValueError.__new__") rfl)
  have xsaLa : PySem.W.findIn K (.ref (He.ga K "BadLabel")) "__setattr__" = some (some (.builtin "object.__setattr__")) := of_decide_eq_true (SaysB.ck c 165 (f := fun K => decide (PySem.W.findIn K (.ref (He.ga K "BadLabel")) "__setattr__" = some (some (.builtin "object.__setattr__")))) rfl)
  have xgaLa : PySem.W.findIn K (.ref (He.ga K "BadLabel")) "__getattribute__" = some (some (.builtin "BaseException.__getattribute__")) := of_decide_eq_true (SaysB.ck c 166 (f := fun K => decide (PySem.W.findIn K (.ref (He.ga K "BadLabel")) "__getattribute__" = some (some (.builtin "BaseException.__getattribute__")))) rfl)
  have xggLa : PySem.W.findIn K (.ref (He.ga K "BadLabel")) "__getattr__" = some none := of_decide_eq_true (SaysB.ck c 167 (f := fun K => decide (PySem.W.findIn K (.ref (He.ga K "BadLabel")) "__getattr__" = some none)) rfl)
  have xnbLa0 : PySem.W.findIn K (.ref (He.ga K "BadLabel")) "label" = some none := of_decide_eq_true (SaysB.ck c 168 (f := fun K => decide (PySem.W.findIn K (.ref (He.ga K "BadLabel")) "label" = some none)) rfl)
  have xvVLa : PySem.W.findCls K (.type "ValueError") (.type "type") "__init__" = some (.val (.builtin "ValueError.__init__")) := clsB_ok (SaysB.ck c 169 (f := fun K => clsB (PySem.W.findCls K (.type "ValueError") (.type "type") "__init__") "ValueError.__init__") rfl)
  have xkCLa : PySem.W.keepIn K (.ref (He.ga K "BadLabel")) = true := (SaysB.ck c 170 (f := fun K => PySem.W.keepIn K (.ref (He.ga K "BadLabel"))) rfl)
  have xeCLa : PySem.W.subIn K (.ref (He.ga K "BadLabel")) (.type "BaseException") = some true := of_decide_eq_true (SaysB.ck c 171 (f := fun K => decide (PySem.W.subIn K (.ref (He.ga K "BadLabel")) (.type "BaseException") = some true)) rfl)
  have xtCLa : PySem.W.typeIn K (.ref (He.ga K "BadLabel")) = some (.type "type") := of_decide_eq_true (SaysB.ck c 172 (f := fun K => decide (PySem.W.typeIn K (.ref (He.ga K "BadLabel")) = some (.type "type"))) rfl)
  have xhCLa : PySem.W.hasDictIn K (He.ga K "BadLabel") = true := (SaysB.ck c 173 (f := fun K => PySem.W.hasDictIn K (He.ga K "BadLabel")) rfl)
  have xteLa : PySem.W.exmOne K (.ref (He.ga K "BadLabel")) (.ref (He.ga K "BadLabel")) = some true := of_decide_eq_true (SaysB.ck c 174 (f := fun K => decide (PySem.W.exmOne K (.ref (He.ga K "BadLabel")) (.ref (He.ga K "BadLabel")) = some true)) rfl)
  have xC1La : PySem.W.findIn K (.ref (He.ga K "BadLabel")) "__class__" = some (some (.builtin "object.__class__")) := of_decide_eq_true (SaysB.ck c 175 (f := fun K => decide (PySem.W.findIn K (.ref (He.ga K "BadLabel")) "__class__" = some (some (.builtin "object.__class__")))) rfl)
  have xC4La : PySem.W.mroIn K (He.ga K "BadLabel") (.type "object") = some true := of_decide_eq_true (SaysB.ck c 176 (f := fun K => decide (PySem.W.mroIn K (He.ga K "BadLabel") (.type "object") = some true)) rfl)
  have xC5La : (PySem.W.clsIn K (He.ga K "BadLabel")).isSome = true := (SaysB.ck c 177 (f := fun K => (PySem.W.clsIn K (He.ga K "BadLabel")).isSome) rfl)
  have xkvLa : PySem.W.kitOne K (.ref (He.ga K "BadLabel")) (.type "ValueError") = some true := of_decide_eq_true (SaysB.ck c 178 (f := fun K => decide (PySem.W.kitOne K (.ref (He.ga K "BadLabel")) (.type "ValueError") = some true)) rfl)
  have gCWo : PySem.W.nsIn K mainGlobals "BadWord" = some (some (.ref (He.ga K "BadWord"))) := of_decide_eq_true (SaysB.ck c 179 (f := fun K => decide (PySem.W.nsIn K mainGlobals "BadWord" = some (some (.ref (He.ga K "BadWord"))))) rfl)
  obtain ⟨nmWo, qWo, NWo, bsWo, snWo, subWo, abWo, colWo, ddWo, maWo, mbWo, mcWo, mdWo, meWo, xLWo⟩ := excB_ok (SaysB.ck c 180 (f := fun K => excB K (He.ga K "BadWord") [.type "ValueError", .type "Exception", .type "BaseException", .type "object"] "ValueError.__new__") rfl)
  have xsaWo : PySem.W.findIn K (.ref (He.ga K "BadWord")) "__setattr__" = some (some (.builtin "object.__setattr__")) := of_decide_eq_true (SaysB.ck c 181 (f := fun K => decide (PySem.W.findIn K (.ref (He.ga K "BadWord")) "__setattr__" = some (some (.builtin "object.__setattr__")))) rfl)
  have xgaWo : PySem.W.findIn K (.ref (He.ga K "BadWord")) "__getattribute__" = some (some (.builtin "BaseException.__getattribute__")) := of_decide_eq_true (SaysB.ck c 182 (f := fun K => decide (PySem.W.findIn K (.ref (He.ga K "BadWord")) "__getattribute__" = some (some (.builtin "BaseException.__getattribute__")))) rfl)
  have xggWo : PySem.W.findIn K (.ref (He.ga K "BadWord")) "__getattr__" = some none := of_decide_eq_true (SaysB.ck c 183 (f := fun K => decide (PySem.W.findIn K (.ref (He.ga K "BadWord")) "__getattr__" = some none)) rfl)
  have xnbWo0 : PySem.W.findIn K (.ref (He.ga K "BadWord")) "word" = some none := of_decide_eq_true (SaysB.ck c 184 (f := fun K => decide (PySem.W.findIn K (.ref (He.ga K "BadWord")) "word" = some none)) rfl)
  have xvVWo : PySem.W.findCls K (.type "ValueError") (.type "type") "__init__" = some (.val (.builtin "ValueError.__init__")) := clsB_ok (SaysB.ck c 185 (f := fun K => clsB (PySem.W.findCls K (.type "ValueError") (.type "type") "__init__") "ValueError.__init__") rfl)
  have xkCWo : PySem.W.keepIn K (.ref (He.ga K "BadWord")) = true := (SaysB.ck c 186 (f := fun K => PySem.W.keepIn K (.ref (He.ga K "BadWord"))) rfl)
  have xeCWo : PySem.W.subIn K (.ref (He.ga K "BadWord")) (.type "BaseException") = some true := of_decide_eq_true (SaysB.ck c 187 (f := fun K => decide (PySem.W.subIn K (.ref (He.ga K "BadWord")) (.type "BaseException") = some true)) rfl)
  have xtCWo : PySem.W.typeIn K (.ref (He.ga K "BadWord")) = some (.type "type") := of_decide_eq_true (SaysB.ck c 188 (f := fun K => decide (PySem.W.typeIn K (.ref (He.ga K "BadWord")) = some (.type "type"))) rfl)
  have xhCWo : PySem.W.hasDictIn K (He.ga K "BadWord") = true := (SaysB.ck c 189 (f := fun K => PySem.W.hasDictIn K (He.ga K "BadWord")) rfl)
  have xteWo : PySem.W.exmOne K (.ref (He.ga K "BadWord")) (.ref (He.ga K "BadWord")) = some true := of_decide_eq_true (SaysB.ck c 190 (f := fun K => decide (PySem.W.exmOne K (.ref (He.ga K "BadWord")) (.ref (He.ga K "BadWord")) = some true)) rfl)
  have xC1Wo : PySem.W.findIn K (.ref (He.ga K "BadWord")) "__class__" = some (some (.builtin "object.__class__")) := of_decide_eq_true (SaysB.ck c 191 (f := fun K => decide (PySem.W.findIn K (.ref (He.ga K "BadWord")) "__class__" = some (some (.builtin "object.__class__")))) rfl)
  have xC4Wo : PySem.W.mroIn K (He.ga K "BadWord") (.type "object") = some true := of_decide_eq_true (SaysB.ck c 192 (f := fun K => decide (PySem.W.mroIn K (He.ga K "BadWord") (.type "object") = some true)) rfl)
  have xC5Wo : (PySem.W.clsIn K (He.ga K "BadWord")).isSome = true := (SaysB.ck c 193 (f := fun K => (PySem.W.clsIn K (He.ga K "BadWord")).isSome) rfl)
  have xkvWo : PySem.W.kitOne K (.ref (He.ga K "BadWord")) (.type "ValueError") = some true := of_decide_eq_true (SaysB.ck c 194 (f := fun K => decide (PySem.W.kitOne K (.ref (He.ga K "BadWord")) (.type "ValueError") = some true)) rfl)
  have gCFi : PySem.W.nsIn K mainGlobals "Finished" = some (some (.ref (He.ga K "Finished"))) := of_decide_eq_true (SaysB.ck c 195 (f := fun K => decide (PySem.W.nsIn K mainGlobals "Finished" = some (some (.ref (He.ga K "Finished"))))) rfl)
  obtain ⟨nmFi, qFi, NFi, bsFi, snFi, subFi, abFi, colFi, ddFi, maFi, mbFi, mcFi, mdFi, meFi, xLFi⟩ := excB_ok (SaysB.ck c 196 (f := fun K => excB K (He.ga K "Finished") [.type "RuntimeError", .type "Exception", .type "BaseException", .type "object"] "RuntimeError.__new__") rfl)
  have xsaFi : PySem.W.findIn K (.ref (He.ga K "Finished")) "__setattr__" = some (some (.builtin "object.__setattr__")) := of_decide_eq_true (SaysB.ck c 197 (f := fun K => decide (PySem.W.findIn K (.ref (He.ga K "Finished")) "__setattr__" = some (some (.builtin "object.__setattr__")))) rfl)
  have xgaFi : PySem.W.findIn K (.ref (He.ga K "Finished")) "__getattribute__" = some (some (.builtin "BaseException.__getattribute__")) := of_decide_eq_true (SaysB.ck c 198 (f := fun K => decide (PySem.W.findIn K (.ref (He.ga K "Finished")) "__getattribute__" = some (some (.builtin "BaseException.__getattribute__")))) rfl)
  have xggFi : PySem.W.findIn K (.ref (He.ga K "Finished")) "__getattr__" = some none := of_decide_eq_true (SaysB.ck c 199 (f := fun K => decide (PySem.W.findIn K (.ref (He.ga K "Finished")) "__getattr__" = some none)) rfl)
  have xnbFi0 : PySem.W.findIn K (.ref (He.ga K "Finished")) "number" = some none := of_decide_eq_true (SaysB.ck c 200 (f := fun K => decide (PySem.W.findIn K (.ref (He.ga K "Finished")) "number" = some none)) rfl)
  have xvVFi : PySem.W.findCls K (.type "RuntimeError") (.type "type") "__init__" = some (.val (.builtin "RuntimeError.__init__")) := clsB_ok (SaysB.ck c 201 (f := fun K => clsB (PySem.W.findCls K (.type "RuntimeError") (.type "type") "__init__") "RuntimeError.__init__") rfl)
  have xkCFi : PySem.W.keepIn K (.ref (He.ga K "Finished")) = true := (SaysB.ck c 202 (f := fun K => PySem.W.keepIn K (.ref (He.ga K "Finished"))) rfl)
  have xeCFi : PySem.W.subIn K (.ref (He.ga K "Finished")) (.type "BaseException") = some true := of_decide_eq_true (SaysB.ck c 203 (f := fun K => decide (PySem.W.subIn K (.ref (He.ga K "Finished")) (.type "BaseException") = some true)) rfl)
  have xtCFi : PySem.W.typeIn K (.ref (He.ga K "Finished")) = some (.type "type") := of_decide_eq_true (SaysB.ck c 204 (f := fun K => decide (PySem.W.typeIn K (.ref (He.ga K "Finished")) = some (.type "type"))) rfl)
  have xhCFi : PySem.W.hasDictIn K (He.ga K "Finished") = true := (SaysB.ck c 205 (f := fun K => PySem.W.hasDictIn K (He.ga K "Finished")) rfl)
  have xteFi : PySem.W.exmOne K (.ref (He.ga K "Finished")) (.ref (He.ga K "Finished")) = some true := of_decide_eq_true (SaysB.ck c 206 (f := fun K => decide (PySem.W.exmOne K (.ref (He.ga K "Finished")) (.ref (He.ga K "Finished")) = some true)) rfl)
  have xC1Fi : PySem.W.findIn K (.ref (He.ga K "Finished")) "__class__" = some (some (.builtin "object.__class__")) := of_decide_eq_true (SaysB.ck c 207 (f := fun K => decide (PySem.W.findIn K (.ref (He.ga K "Finished")) "__class__" = some (some (.builtin "object.__class__")))) rfl)
  have xC4Fi : PySem.W.mroIn K (He.ga K "Finished") (.type "object") = some true := of_decide_eq_true (SaysB.ck c 208 (f := fun K => decide (PySem.W.mroIn K (He.ga K "Finished") (.type "object") = some true)) rfl)
  have xC5Fi : (PySem.W.clsIn K (He.ga K "Finished")).isSome = true := (SaysB.ck c 209 (f := fun K => (PySem.W.clsIn K (He.ga K "Finished")).isSome) rfl)
  have xkvFi : PySem.W.kitOne K (.ref (He.ga K "Finished")) (.type "RuntimeError") = some true := of_decide_eq_true (SaysB.ck c 210 (f := fun K => decide (PySem.W.kitOne K (.ref (He.ga K "Finished")) (.type "RuntimeError") = some true)) rfl)
  have gCRg : PySem.W.nsIn K mainGlobals "Registered" = some (some (.ref (He.ga K "Registered"))) := of_decide_eq_true (SaysB.ck c 211 (f := fun K => decide (PySem.W.nsIn K mainGlobals "Registered" = some (some (.ref (He.ga K "Registered"))))) rfl)
  obtain ⟨nmRg, qRg, NRg, bsRg, snRg, subRg, abRg, colRg, ddRg, maRg, mbRg, mcRg, mdRg, meRg, xLRg⟩ := excB_ok (SaysB.ck c 212 (f := fun K => excB K (He.ga K "Registered") [.type "RuntimeError", .type "Exception", .type "BaseException", .type "object"] "RuntimeError.__new__") rfl)
  have xsaRg : PySem.W.findIn K (.ref (He.ga K "Registered")) "__setattr__" = some (some (.builtin "object.__setattr__")) := of_decide_eq_true (SaysB.ck c 213 (f := fun K => decide (PySem.W.findIn K (.ref (He.ga K "Registered")) "__setattr__" = some (some (.builtin "object.__setattr__")))) rfl)
  have xgaRg : PySem.W.findIn K (.ref (He.ga K "Registered")) "__getattribute__" = some (some (.builtin "BaseException.__getattribute__")) := of_decide_eq_true (SaysB.ck c 214 (f := fun K => decide (PySem.W.findIn K (.ref (He.ga K "Registered")) "__getattribute__" = some (some (.builtin "BaseException.__getattribute__")))) rfl)
  have xggRg : PySem.W.findIn K (.ref (He.ga K "Registered")) "__getattr__" = some none := of_decide_eq_true (SaysB.ck c 215 (f := fun K => decide (PySem.W.findIn K (.ref (He.ga K "Registered")) "__getattr__" = some none)) rfl)
  have xnbRg0 : PySem.W.findIn K (.ref (He.ga K "Registered")) "number" = some none := of_decide_eq_true (SaysB.ck c 216 (f := fun K => decide (PySem.W.findIn K (.ref (He.ga K "Registered")) "number" = some none)) rfl)
  have xvVRg : PySem.W.findCls K (.type "RuntimeError") (.type "type") "__init__" = some (.val (.builtin "RuntimeError.__init__")) := clsB_ok (SaysB.ck c 217 (f := fun K => clsB (PySem.W.findCls K (.type "RuntimeError") (.type "type") "__init__") "RuntimeError.__init__") rfl)
  have xkCRg : PySem.W.keepIn K (.ref (He.ga K "Registered")) = true := (SaysB.ck c 218 (f := fun K => PySem.W.keepIn K (.ref (He.ga K "Registered"))) rfl)
  have xeCRg : PySem.W.subIn K (.ref (He.ga K "Registered")) (.type "BaseException") = some true := of_decide_eq_true (SaysB.ck c 219 (f := fun K => decide (PySem.W.subIn K (.ref (He.ga K "Registered")) (.type "BaseException") = some true)) rfl)
  have xtCRg : PySem.W.typeIn K (.ref (He.ga K "Registered")) = some (.type "type") := of_decide_eq_true (SaysB.ck c 220 (f := fun K => decide (PySem.W.typeIn K (.ref (He.ga K "Registered")) = some (.type "type"))) rfl)
  have xhCRg : PySem.W.hasDictIn K (He.ga K "Registered") = true := (SaysB.ck c 221 (f := fun K => PySem.W.hasDictIn K (He.ga K "Registered")) rfl)
  have xteRg : PySem.W.exmOne K (.ref (He.ga K "Registered")) (.ref (He.ga K "Registered")) = some true := of_decide_eq_true (SaysB.ck c 222 (f := fun K => decide (PySem.W.exmOne K (.ref (He.ga K "Registered")) (.ref (He.ga K "Registered")) = some true)) rfl)
  have xC1Rg : PySem.W.findIn K (.ref (He.ga K "Registered")) "__class__" = some (some (.builtin "object.__class__")) := of_decide_eq_true (SaysB.ck c 223 (f := fun K => decide (PySem.W.findIn K (.ref (He.ga K "Registered")) "__class__" = some (some (.builtin "object.__class__")))) rfl)
  have xC4Rg : PySem.W.mroIn K (He.ga K "Registered") (.type "object") = some true := of_decide_eq_true (SaysB.ck c 224 (f := fun K => decide (PySem.W.mroIn K (He.ga K "Registered") (.type "object") = some true)) rfl)
  have xC5Rg : (PySem.W.clsIn K (He.ga K "Registered")).isSome = true := (SaysB.ck c 225 (f := fun K => (PySem.W.clsIn K (He.ga K "Registered")).isSome) rfl)
  have xkvRg : PySem.W.kitOne K (.ref (He.ga K "Registered")) (.type "RuntimeError") = some true := of_decide_eq_true (SaysB.ck c 226 (f := fun K => decide (PySem.W.kitOne K (.ref (He.ga K "Registered")) (.type "RuntimeError") = some true)) rfl)
  have gCTa : PySem.W.nsIn K mainGlobals "Taken" = some (some (.ref (He.ga K "Taken"))) := of_decide_eq_true (SaysB.ck c 227 (f := fun K => decide (PySem.W.nsIn K mainGlobals "Taken" = some (some (.ref (He.ga K "Taken"))))) rfl)
  obtain ⟨nmTa, qTa, NTa, bsTa, snTa, subTa, abTa, colTa, ddTa, maTa, mbTa, mcTa, mdTa, meTa, xLTa⟩ := excB_ok (SaysB.ck c 228 (f := fun K => excB K (He.ga K "Taken") [.type "RuntimeError", .type "Exception", .type "BaseException", .type "object"] "RuntimeError.__new__") rfl)
  have xsaTa : PySem.W.findIn K (.ref (He.ga K "Taken")) "__setattr__" = some (some (.builtin "object.__setattr__")) := of_decide_eq_true (SaysB.ck c 229 (f := fun K => decide (PySem.W.findIn K (.ref (He.ga K "Taken")) "__setattr__" = some (some (.builtin "object.__setattr__")))) rfl)
  have xgaTa : PySem.W.findIn K (.ref (He.ga K "Taken")) "__getattribute__" = some (some (.builtin "BaseException.__getattribute__")) := of_decide_eq_true (SaysB.ck c 230 (f := fun K => decide (PySem.W.findIn K (.ref (He.ga K "Taken")) "__getattribute__" = some (some (.builtin "BaseException.__getattribute__")))) rfl)
  have xggTa : PySem.W.findIn K (.ref (He.ga K "Taken")) "__getattr__" = some none := of_decide_eq_true (SaysB.ck c 231 (f := fun K => decide (PySem.W.findIn K (.ref (He.ga K "Taken")) "__getattr__" = some none)) rfl)
  have xnbTa0 : PySem.W.findIn K (.ref (He.ga K "Taken")) "label" = some none := of_decide_eq_true (SaysB.ck c 232 (f := fun K => decide (PySem.W.findIn K (.ref (He.ga K "Taken")) "label" = some none)) rfl)
  have xvVTa : PySem.W.findCls K (.type "RuntimeError") (.type "type") "__init__" = some (.val (.builtin "RuntimeError.__init__")) := clsB_ok (SaysB.ck c 233 (f := fun K => clsB (PySem.W.findCls K (.type "RuntimeError") (.type "type") "__init__") "RuntimeError.__init__") rfl)
  have xkCTa : PySem.W.keepIn K (.ref (He.ga K "Taken")) = true := (SaysB.ck c 234 (f := fun K => PySem.W.keepIn K (.ref (He.ga K "Taken"))) rfl)
  have xeCTa : PySem.W.subIn K (.ref (He.ga K "Taken")) (.type "BaseException") = some true := of_decide_eq_true (SaysB.ck c 235 (f := fun K => decide (PySem.W.subIn K (.ref (He.ga K "Taken")) (.type "BaseException") = some true)) rfl)
  have xtCTa : PySem.W.typeIn K (.ref (He.ga K "Taken")) = some (.type "type") := of_decide_eq_true (SaysB.ck c 236 (f := fun K => decide (PySem.W.typeIn K (.ref (He.ga K "Taken")) = some (.type "type"))) rfl)
  have xhCTa : PySem.W.hasDictIn K (He.ga K "Taken") = true := (SaysB.ck c 237 (f := fun K => PySem.W.hasDictIn K (He.ga K "Taken")) rfl)
  have xteTa : PySem.W.exmOne K (.ref (He.ga K "Taken")) (.ref (He.ga K "Taken")) = some true := of_decide_eq_true (SaysB.ck c 238 (f := fun K => decide (PySem.W.exmOne K (.ref (He.ga K "Taken")) (.ref (He.ga K "Taken")) = some true)) rfl)
  have xC1Ta : PySem.W.findIn K (.ref (He.ga K "Taken")) "__class__" = some (some (.builtin "object.__class__")) := of_decide_eq_true (SaysB.ck c 239 (f := fun K => decide (PySem.W.findIn K (.ref (He.ga K "Taken")) "__class__" = some (some (.builtin "object.__class__")))) rfl)
  have xC4Ta : PySem.W.mroIn K (He.ga K "Taken") (.type "object") = some true := of_decide_eq_true (SaysB.ck c 240 (f := fun K => decide (PySem.W.mroIn K (He.ga K "Taken") (.type "object") = some true)) rfl)
  have xC5Ta : (PySem.W.clsIn K (He.ga K "Taken")).isSome = true := (SaysB.ck c 241 (f := fun K => (PySem.W.clsIn K (He.ga K "Taken")).isSome) rfl)
  have xkvTa : PySem.W.kitOne K (.ref (He.ga K "Taken")) (.type "RuntimeError") = some true := of_decide_eq_true (SaysB.ck c 242 (f := fun K => decide (PySem.W.kitOne K (.ref (He.ga K "Taken")) (.type "RuntimeError") = some true)) rfl)
  have gCNr : PySem.W.nsIn K mainGlobals "NotRegistered" = some (some (.ref (He.ga K "NotRegistered"))) := of_decide_eq_true (SaysB.ck c 243 (f := fun K => decide (PySem.W.nsIn K mainGlobals "NotRegistered" = some (some (.ref (He.ga K "NotRegistered"))))) rfl)
  obtain ⟨nmNr, qNr, NNr, bsNr, snNr, subNr, abNr, colNr, ddNr, maNr, mbNr, mcNr, mdNr, meNr, xLNr⟩ := excB_ok (SaysB.ck c 244 (f := fun K => excB K (He.ga K "NotRegistered") [.type "LookupError", .type "Exception", .type "BaseException", .type "object"] "LookupError.__new__") rfl)
  have xsaNr : PySem.W.findIn K (.ref (He.ga K "NotRegistered")) "__setattr__" = some (some (.builtin "object.__setattr__")) := of_decide_eq_true (SaysB.ck c 245 (f := fun K => decide (PySem.W.findIn K (.ref (He.ga K "NotRegistered")) "__setattr__" = some (some (.builtin "object.__setattr__")))) rfl)
  have xgaNr : PySem.W.findIn K (.ref (He.ga K "NotRegistered")) "__getattribute__" = some (some (.builtin "BaseException.__getattribute__")) := of_decide_eq_true (SaysB.ck c 246 (f := fun K => decide (PySem.W.findIn K (.ref (He.ga K "NotRegistered")) "__getattribute__" = some (some (.builtin "BaseException.__getattribute__")))) rfl)
  have xggNr : PySem.W.findIn K (.ref (He.ga K "NotRegistered")) "__getattr__" = some none := of_decide_eq_true (SaysB.ck c 247 (f := fun K => decide (PySem.W.findIn K (.ref (He.ga K "NotRegistered")) "__getattr__" = some none)) rfl)
  have xnbNr0 : PySem.W.findIn K (.ref (He.ga K "NotRegistered")) "number" = some none := of_decide_eq_true (SaysB.ck c 248 (f := fun K => decide (PySem.W.findIn K (.ref (He.ga K "NotRegistered")) "number" = some none)) rfl)
  have xvVNr : PySem.W.findCls K (.type "LookupError") (.type "type") "__init__" = some (.val (.builtin "LookupError.__init__")) := clsB_ok (SaysB.ck c 249 (f := fun K => clsB (PySem.W.findCls K (.type "LookupError") (.type "type") "__init__") "LookupError.__init__") rfl)
  have xkCNr : PySem.W.keepIn K (.ref (He.ga K "NotRegistered")) = true := (SaysB.ck c 250 (f := fun K => PySem.W.keepIn K (.ref (He.ga K "NotRegistered"))) rfl)
  have xeCNr : PySem.W.subIn K (.ref (He.ga K "NotRegistered")) (.type "BaseException") = some true := of_decide_eq_true (SaysB.ck c 251 (f := fun K => decide (PySem.W.subIn K (.ref (He.ga K "NotRegistered")) (.type "BaseException") = some true)) rfl)
  have xtCNr : PySem.W.typeIn K (.ref (He.ga K "NotRegistered")) = some (.type "type") := of_decide_eq_true (SaysB.ck c 252 (f := fun K => decide (PySem.W.typeIn K (.ref (He.ga K "NotRegistered")) = some (.type "type"))) rfl)
  have xhCNr : PySem.W.hasDictIn K (He.ga K "NotRegistered") = true := (SaysB.ck c 253 (f := fun K => PySem.W.hasDictIn K (He.ga K "NotRegistered")) rfl)
  have xteNr : PySem.W.exmOne K (.ref (He.ga K "NotRegistered")) (.ref (He.ga K "NotRegistered")) = some true := of_decide_eq_true (SaysB.ck c 254 (f := fun K => decide (PySem.W.exmOne K (.ref (He.ga K "NotRegistered")) (.ref (He.ga K "NotRegistered")) = some true)) rfl)
  have xC1Nr : PySem.W.findIn K (.ref (He.ga K "NotRegistered")) "__class__" = some (some (.builtin "object.__class__")) := of_decide_eq_true (SaysB.ck c 255 (f := fun K => decide (PySem.W.findIn K (.ref (He.ga K "NotRegistered")) "__class__" = some (some (.builtin "object.__class__")))) rfl)
  have xC4Nr : PySem.W.mroIn K (He.ga K "NotRegistered") (.type "object") = some true := of_decide_eq_true (SaysB.ck c 256 (f := fun K => decide (PySem.W.mroIn K (He.ga K "NotRegistered") (.type "object") = some true)) rfl)
  have xC5Nr : (PySem.W.clsIn K (He.ga K "NotRegistered")).isSome = true := (SaysB.ck c 257 (f := fun K => (PySem.W.clsIn K (He.ga K "NotRegistered")).isSome) rfl)
  have xkvNr : PySem.W.kitOne K (.ref (He.ga K "NotRegistered")) (.type "LookupError") = some true := of_decide_eq_true (SaysB.ck c 258 (f := fun K => decide (PySem.W.kitOne K (.ref (He.ga K "NotRegistered")) (.type "LookupError") = some true)) rfl)
  have aint : PySem.W.nsIn K mainGlobals "is_integer" = some (some (.ref (He.ga K "is_integer"))) := of_decide_eq_true (SaysB.ck c 259 (f := fun K => decide (PySem.W.nsIn K mainGlobals "is_integer" = some (some (.ref (He.ga K "is_integer"))))) rfl)
  have kint : PySem.W.keepIn K (.ref (He.ga K "is_integer")) = true := (SaysB.ck c 260 (f := fun K => PySem.W.keepIn K (.ref (He.ga K "is_integer"))) rfl)
  obtain ⟨fd_int, F0int⟩ := SaysB.def_ c 0 (d := (⟨("is_integer", none), "is_integer", "is_integer", defArgs sIsInteger, defBody sIsInteger, defScope sIsInteger, [], []⟩ : He.DefD)) rfl
  have abet : PySem.W.nsIn K mainGlobals "is_between" = some (some (.ref (He.ga K "is_between"))) := of_decide_eq_true (SaysB.ck c 261 (f := fun K => decide (PySem.W.nsIn K mainGlobals "is_between" = some (some (.ref (He.ga K "is_between"))))) rfl)
  have kbet : PySem.W.keepIn K (.ref (He.ga K "is_between")) = true := (SaysB.ck c 262 (f := fun K => PySem.W.keepIn K (.ref (He.ga K "is_between"))) rfl)
  obtain ⟨fd_bet, F0bet⟩ := SaysB.def_ c 1 (d := (⟨("is_between", none), "is_between", "is_between", defArgs sIsBetween, defBody sIsBetween, defScope sIsBetween, [], []⟩ : He.DefD)) rfl
  have acnt : PySem.W.nsIn K mainGlobals "is_count" = some (some (.ref (He.ga K "is_count"))) := of_decide_eq_true (SaysB.ck c 263 (f := fun K => decide (PySem.W.nsIn K mainGlobals "is_count" = some (some (.ref (He.ga K "is_count"))))) rfl)
  have kcnt : PySem.W.keepIn K (.ref (He.ga K "is_count")) = true := (SaysB.ck c 264 (f := fun K => PySem.W.keepIn K (.ref (He.ga K "is_count"))) rfl)
  obtain ⟨fd_cnt, F0cnt⟩ := SaysB.def_ c 2 (d := (⟨("is_count", none), "is_count", "is_count", defArgs sIsCount, defBody sIsCount, defScope sIsCount, [], []⟩ : He.DefD)) rfl
  have alab : PySem.W.nsIn K mainGlobals "is_label" = some (some (.ref (He.ga K "is_label"))) := of_decide_eq_true (SaysB.ck c 265 (f := fun K => decide (PySem.W.nsIn K mainGlobals "is_label" = some (some (.ref (He.ga K "is_label"))))) rfl)
  have klab : PySem.W.keepIn K (.ref (He.ga K "is_label")) = true := (SaysB.ck c 266 (f := fun K => PySem.W.keepIn K (.ref (He.ga K "is_label"))) rfl)
  obtain ⟨fd_lab, F0lab⟩ := SaysB.def_ c 3 (d := (⟨("is_label", none), "is_label", "is_label", defArgs sIsLabel, defBody sIsLabel, defScope sIsLabel, [], []⟩ : He.DefD)) rfl
  have awrd : PySem.W.nsIn K mainGlobals "is_word" = some (some (.ref (He.ga K "is_word"))) := of_decide_eq_true (SaysB.ck c 267 (f := fun K => decide (PySem.W.nsIn K mainGlobals "is_word" = some (some (.ref (He.ga K "is_word"))))) rfl)
  have kwrd : PySem.W.keepIn K (.ref (He.ga K "is_word")) = true := (SaysB.ck c 268 (f := fun K => PySem.W.keepIn K (.ref (He.ga K "is_word"))) rfl)
  obtain ⟨fd_wrd, F0wrd⟩ := SaysB.def_ c 4 (d := (⟨("is_word", none), "is_word", "is_word", defArgs sIsWord, defBody sIsWord, defScope sIsWord, [], []⟩ : He.DefD)) rfl
  have abag : PySem.W.nsIn K mainGlobals "_law_bag" = some (some (.ref (He.ga K "_law_bag"))) := of_decide_eq_true (SaysB.ck c 269 (f := fun K => decide (PySem.W.nsIn K mainGlobals "_law_bag" = some (some (.ref (He.ga K "_law_bag"))))) rfl)
  have kbag : PySem.W.keepIn K (.ref (He.ga K "_law_bag")) = true := (SaysB.ck c 270 (f := fun K => PySem.W.keepIn K (.ref (He.ga K "_law_bag"))) rfl)
  obtain ⟨fd_bag, F0bag⟩ := SaysB.def_ c 5 (d := (⟨("_law_bag", none), "_law_bag", "_law_bag", defArgs sBag, defBody sBag, defScope sBag, [], []⟩ : He.DefD)) rfl
  have atake : PySem.W.nsIn K mainGlobals "_law_take" = some (some (.ref (He.ga K "_law_take"))) := of_decide_eq_true (SaysB.ck c 271 (f := fun K => decide (PySem.W.nsIn K mainGlobals "_law_take" = some (some (.ref (He.ga K "_law_take"))))) rfl)
  have ktake : PySem.W.keepIn K (.ref (He.ga K "_law_take")) = true := (SaysB.ck c 272 (f := fun K => PySem.W.keepIn K (.ref (He.ga K "_law_take"))) rfl)
  obtain ⟨fd_take, F0take⟩ := SaysB.def_ c 6 (d := (⟨("_law_take", none), "_law_take", "_law_take", defArgs sTake, defBody sTake, defScope sTake, [], []⟩ : He.DefD)) rfl
  have aof : PySem.W.nsIn K mainGlobals "_law_of" = some (some (.ref (He.ga K "_law_of"))) := of_decide_eq_true (SaysB.ck c 273 (f := fun K => decide (PySem.W.nsIn K mainGlobals "_law_of" = some (some (.ref (He.ga K "_law_of"))))) rfl)
  have kof : PySem.W.keepIn K (.ref (He.ga K "_law_of")) = true := (SaysB.ck c 274 (f := fun K => PySem.W.keepIn K (.ref (He.ga K "_law_of"))) rfl)
  obtain ⟨fd_of, F0of⟩ := SaysB.def_ c 7 (d := (⟨("_law_of", none), "_law_of", "_law_of", defArgs sOf, defBody sOf, defScope sOf, [], []⟩ : He.DefD)) rfl
  have aunr : PySem.W.nsIn K mainGlobals "_law_unreached" = some (some (.ref (He.ga K "_law_unreached"))) := of_decide_eq_true (SaysB.ck c 275 (f := fun K => decide (PySem.W.nsIn K mainGlobals "_law_unreached" = some (some (.ref (He.ga K "_law_unreached"))))) rfl)
  have kunr : PySem.W.keepIn K (.ref (He.ga K "_law_unreached")) = true := (SaysB.ck c 276 (f := fun K => PySem.W.keepIn K (.ref (He.ga K "_law_unreached"))) rfl)
  obtain ⟨fd_unr, F0unr⟩ := SaysB.def_ c 8 (d := (⟨("_law_unreached", none), "_law_unreached", "_law_unreached", defArgs sUnreached, defBody sUnreached, defScope sUnreached, [], []⟩ : He.DefD)) rfl
  have arou : PySem.W.nsIn K mainGlobals "_law_round" = some (some (.ref (He.ga K "_law_round"))) := of_decide_eq_true (SaysB.ck c 277 (f := fun K => decide (PySem.W.nsIn K mainGlobals "_law_round" = some (some (.ref (He.ga K "_law_round"))))) rfl)
  have krou : PySem.W.keepIn K (.ref (He.ga K "_law_round")) = true := (SaysB.ck c 278 (f := fun K => PySem.W.keepIn K (.ref (He.ga K "_law_round"))) rfl)
  obtain ⟨fd_rou, F0rou⟩ := SaysB.def_ c 9 (d := (⟨("_law_round", none), "_law_round", "_law_round", defArgs sRound, defBody sRound, defScope sRound, [], []⟩ : He.DefD)) rfl
  have alrp : PySem.W.nsIn K mainGlobals "_law_reports" = some (some (.ref (He.ga K "_law_reports"))) := of_decide_eq_true (SaysB.ck c 279 (f := fun K => decide (PySem.W.nsIn K mainGlobals "_law_reports" = some (some (.ref (He.ga K "_law_reports"))))) rfl)
  have klrp : PySem.W.keepIn K (.ref (He.ga K "_law_reports")) = true := (SaysB.ck c 280 (f := fun K => PySem.W.keepIn K (.ref (He.ga K "_law_reports"))) rfl)
  obtain ⟨fd_lrp, F0lrp⟩ := SaysB.def_ c 10 (d := (⟨("_law_reports", none), "_law_reports", "_law_reports", defArgs sLawReports, defBody sLawReports, defScope sLawReports, [], []⟩ : He.DefD)) rfl
  have aldr : PySem.W.nsIn K mainGlobals "_law_dropped" = some (some (.ref (He.ga K "_law_dropped"))) := of_decide_eq_true (SaysB.ck c 281 (f := fun K => decide (PySem.W.nsIn K mainGlobals "_law_dropped" = some (some (.ref (He.ga K "_law_dropped"))))) rfl)
  have kldr : PySem.W.keepIn K (.ref (He.ga K "_law_dropped")) = true := (SaysB.ck c 282 (f := fun K => PySem.W.keepIn K (.ref (He.ga K "_law_dropped"))) rfl)
  obtain ⟨fd_ldr, F0ldr⟩ := SaysB.def_ c 11 (d := (⟨("_law_dropped", none), "_law_dropped", "_law_dropped", defArgs sDropped, defBody sDropped, defScope sDropped, [], []⟩ : He.DefD)) rfl
  have alaw : PySem.W.nsIn K mainGlobals "law" = some (some (.ref (He.ga K "law"))) := of_decide_eq_true (SaysB.ck c 283 (f := fun K => decide (PySem.W.nsIn K mainGlobals "law" = some (some (.ref (He.ga K "law"))))) rfl)
  have klaw : PySem.W.keepIn K (.ref (He.ga K "law")) = true := (SaysB.ck c 284 (f := fun K => PySem.W.keepIn K (.ref (He.ga K "law"))) rfl)
  obtain ⟨fd_law, F0law⟩ := SaysB.def_ c 12 (d := (⟨("law", none), "law", "law", defArgs sLaw, defBody sLaw, defScope sLaw, [], []⟩ : He.DefD)) rfl
  have axPr : PySem.W.findIn K (.ref (He.ga K "NoProcess")) "__init__" = some (some (.ref (He.ma K (He.ga K "NoProcess") "__init__"))) := of_decide_eq_true (SaysB.ck c 285 (f := fun K => decide (PySem.W.findIn K (.ref (He.ga K "NoProcess")) "__init__" = some (some (.ref (He.ma K (He.ga K "NoProcess") "__init__"))))) rfl)
  have ixPr : PySem.W.isFn K (.ref (He.ma K (He.ga K "NoProcess") "__init__")) = true := (SaysB.ck c 286 (f := fun K => PySem.W.isFn K (.ref (He.ma K (He.ga K "NoProcess") "__init__"))) rfl)
  have kxPr : PySem.W.keepIn K (.ref (He.ma K (He.ga K "NoProcess") "__init__")) = true := (SaysB.ck c 287 (f := fun K => PySem.W.keepIn K (.ref (He.ma K (He.ga K "NoProcess") "__init__"))) rfl)
  obtain ⟨fd_xPr, F0xPr⟩ := SaysB.def_ c 13 (d := (⟨("NoProcess", some "__init__"), "__init__", "NoProcess.__init__", defArgs sNoProcessInit, defBody sNoProcessInit, defScope sNoProcessInit, [], []⟩ : He.DefD)) rfl
  have axOp : PySem.W.findIn K (.ref (He.ga K "NotOpen")) "__init__" = some (some (.ref (He.ma K (He.ga K "NotOpen") "__init__"))) := of_decide_eq_true (SaysB.ck c 288 (f := fun K => decide (PySem.W.findIn K (.ref (He.ga K "NotOpen")) "__init__" = some (some (.ref (He.ma K (He.ga K "NotOpen") "__init__"))))) rfl)
  have ixOp : PySem.W.isFn K (.ref (He.ma K (He.ga K "NotOpen") "__init__")) = true := (SaysB.ck c 289 (f := fun K => PySem.W.isFn K (.ref (He.ma K (He.ga K "NotOpen") "__init__"))) rfl)
  have kxOp : PySem.W.keepIn K (.ref (He.ma K (He.ga K "NotOpen") "__init__")) = true := (SaysB.ck c 290 (f := fun K => PySem.W.keepIn K (.ref (He.ma K (He.ga K "NotOpen") "__init__"))) rfl)
  obtain ⟨fd_xOp, F0xOp⟩ := SaysB.def_ c 14 (d := (⟨("NotOpen", some "__init__"), "__init__", "NotOpen.__init__", defArgs sNotOpenInit, defBody sNotOpenInit, defScope sNotOpenInit, [], []⟩ : He.DefD)) rfl
  have axNu : PySem.W.findIn K (.ref (He.ga K "NoNumber")) "__init__" = some (some (.ref (He.ma K (He.ga K "NoNumber") "__init__"))) := of_decide_eq_true (SaysB.ck c 291 (f := fun K => decide (PySem.W.findIn K (.ref (He.ga K "NoNumber")) "__init__" = some (some (.ref (He.ma K (He.ga K "NoNumber") "__init__"))))) rfl)
  have ixNu : PySem.W.isFn K (.ref (He.ma K (He.ga K "NoNumber") "__init__")) = true := (SaysB.ck c 292 (f := fun K => PySem.W.isFn K (.ref (He.ma K (He.ga K "NoNumber") "__init__"))) rfl)
  have kxNu : PySem.W.keepIn K (.ref (He.ma K (He.ga K "NoNumber") "__init__")) = true := (SaysB.ck c 293 (f := fun K => PySem.W.keepIn K (.ref (He.ma K (He.ga K "NoNumber") "__init__"))) rfl)
  obtain ⟨fd_xNu, F0xNu⟩ := SaysB.def_ c 15 (d := (⟨("NoNumber", some "__init__"), "__init__", "NoNumber.__init__", defArgs sNoNumberInit, defBody sNoNumberInit, defScope sNoNumberInit, [], []⟩ : He.DefD)) rfl
  have axNs : PySem.W.findIn K (.ref (He.ga K "NotASource")) "__init__" = some (some (.ref (He.ma K (He.ga K "NotASource") "__init__"))) := of_decide_eq_true (SaysB.ck c 294 (f := fun K => decide (PySem.W.findIn K (.ref (He.ga K "NotASource")) "__init__" = some (some (.ref (He.ma K (He.ga K "NotASource") "__init__"))))) rfl)
  have ixNs : PySem.W.isFn K (.ref (He.ma K (He.ga K "NotASource") "__init__")) = true := (SaysB.ck c 295 (f := fun K => PySem.W.isFn K (.ref (He.ma K (He.ga K "NotASource") "__init__"))) rfl)
  have kxNs : PySem.W.keepIn K (.ref (He.ma K (He.ga K "NotASource") "__init__")) = true := (SaysB.ck c 296 (f := fun K => PySem.W.keepIn K (.ref (He.ma K (He.ga K "NotASource") "__init__"))) rfl)
  obtain ⟨fd_xNs, F0xNs⟩ := SaysB.def_ c 16 (d := (⟨("NotASource", some "__init__"), "__init__", "NotASource.__init__", defArgs sNotASourceInit, defBody sNotASourceInit, defScope sNotASourceInit, [], []⟩ : He.DefD)) rfl
  have axNt : PySem.W.findIn K (.ref (He.ga K "NotASet")) "__init__" = some (some (.ref (He.ma K (He.ga K "NotASet") "__init__"))) := of_decide_eq_true (SaysB.ck c 297 (f := fun K => decide (PySem.W.findIn K (.ref (He.ga K "NotASet")) "__init__" = some (some (.ref (He.ma K (He.ga K "NotASet") "__init__"))))) rfl)
  have ixNt : PySem.W.isFn K (.ref (He.ma K (He.ga K "NotASet") "__init__")) = true := (SaysB.ck c 298 (f := fun K => PySem.W.isFn K (.ref (He.ma K (He.ga K "NotASet") "__init__"))) rfl)
  have kxNt : PySem.W.keepIn K (.ref (He.ma K (He.ga K "NotASet") "__init__")) = true := (SaysB.ck c 299 (f := fun K => PySem.W.keepIn K (.ref (He.ma K (He.ga K "NotASet") "__init__"))) rfl)
  obtain ⟨fd_xNt, F0xNt⟩ := SaysB.def_ c 17 (d := (⟨("NotASet", some "__init__"), "__init__", "NotASet.__init__", defArgs sNotASetInit, defBody sNotASetInit, defScope sNotASetInit, [], []⟩ : He.DefD)) rfl
  have axFu : PySem.W.findIn K (.ref (He.ga K "Full")) "__init__" = some (some (.ref (He.ma K (He.ga K "Full") "__init__"))) := of_decide_eq_true (SaysB.ck c 300 (f := fun K => decide (PySem.W.findIn K (.ref (He.ga K "Full")) "__init__" = some (some (.ref (He.ma K (He.ga K "Full") "__init__"))))) rfl)
  have ixFu : PySem.W.isFn K (.ref (He.ma K (He.ga K "Full") "__init__")) = true := (SaysB.ck c 301 (f := fun K => PySem.W.isFn K (.ref (He.ma K (He.ga K "Full") "__init__"))) rfl)
  have kxFu : PySem.W.keepIn K (.ref (He.ma K (He.ga K "Full") "__init__")) = true := (SaysB.ck c 302 (f := fun K => PySem.W.keepIn K (.ref (He.ma K (He.ga K "Full") "__init__"))) rfl)
  obtain ⟨fd_xFu, F0xFu⟩ := SaysB.def_ c 18 (d := (⟨("Full", some "__init__"), "__init__", "Full.__init__", defArgs sFullInit, defBody sFullInit, defScope sFullInit, [], []⟩ : He.DefD)) rfl
  have axNo : PySem.W.findIn K (.ref (He.ga K "NoRoom")) "__init__" = some (some (.ref (He.ma K (He.ga K "NoRoom") "__init__"))) := of_decide_eq_true (SaysB.ck c 303 (f := fun K => decide (PySem.W.findIn K (.ref (He.ga K "NoRoom")) "__init__" = some (some (.ref (He.ma K (He.ga K "NoRoom") "__init__"))))) rfl)
  have ixNo : PySem.W.isFn K (.ref (He.ma K (He.ga K "NoRoom") "__init__")) = true := (SaysB.ck c 304 (f := fun K => PySem.W.isFn K (.ref (He.ma K (He.ga K "NoRoom") "__init__"))) rfl)
  have kxNo : PySem.W.keepIn K (.ref (He.ma K (He.ga K "NoRoom") "__init__")) = true := (SaysB.ck c 305 (f := fun K => PySem.W.keepIn K (.ref (He.ma K (He.ga K "NoRoom") "__init__"))) rfl)
  obtain ⟨fd_xNo, F0xNo⟩ := SaysB.def_ c 19 (d := (⟨("NoRoom", some "__init__"), "__init__", "NoRoom.__init__", defArgs sNoRoomInit, defBody sNoRoomInit, defScope sNoRoomInit, [], []⟩ : He.DefD)) rfl
  have axCo : PySem.W.findIn K (.ref (He.ga K "BadCount")) "__init__" = some (some (.ref (He.ma K (He.ga K "BadCount") "__init__"))) := of_decide_eq_true (SaysB.ck c 306 (f := fun K => decide (PySem.W.findIn K (.ref (He.ga K "BadCount")) "__init__" = some (some (.ref (He.ma K (He.ga K "BadCount") "__init__"))))) rfl)
  have ixCo : PySem.W.isFn K (.ref (He.ma K (He.ga K "BadCount") "__init__")) = true := (SaysB.ck c 307 (f := fun K => PySem.W.isFn K (.ref (He.ma K (He.ga K "BadCount") "__init__"))) rfl)
  have kxCo : PySem.W.keepIn K (.ref (He.ma K (He.ga K "BadCount") "__init__")) = true := (SaysB.ck c 308 (f := fun K => PySem.W.keepIn K (.ref (He.ma K (He.ga K "BadCount") "__init__"))) rfl)
  obtain ⟨fd_xCo, F0xCo⟩ := SaysB.def_ c 20 (d := (⟨("BadCount", some "__init__"), "__init__", "BadCount.__init__", defArgs sBadCountInit, defBody sBadCountInit, defScope sBadCountInit, [], []⟩ : He.DefD)) rfl
  have axLa : PySem.W.findIn K (.ref (He.ga K "BadLabel")) "__init__" = some (some (.ref (He.ma K (He.ga K "BadLabel") "__init__"))) := of_decide_eq_true (SaysB.ck c 309 (f := fun K => decide (PySem.W.findIn K (.ref (He.ga K "BadLabel")) "__init__" = some (some (.ref (He.ma K (He.ga K "BadLabel") "__init__"))))) rfl)
  have ixLa : PySem.W.isFn K (.ref (He.ma K (He.ga K "BadLabel") "__init__")) = true := (SaysB.ck c 310 (f := fun K => PySem.W.isFn K (.ref (He.ma K (He.ga K "BadLabel") "__init__"))) rfl)
  have kxLa : PySem.W.keepIn K (.ref (He.ma K (He.ga K "BadLabel") "__init__")) = true := (SaysB.ck c 311 (f := fun K => PySem.W.keepIn K (.ref (He.ma K (He.ga K "BadLabel") "__init__"))) rfl)
  obtain ⟨fd_xLa, F0xLa⟩ := SaysB.def_ c 21 (d := (⟨("BadLabel", some "__init__"), "__init__", "BadLabel.__init__", defArgs sBadLabelInit, defBody sBadLabelInit, defScope sBadLabelInit, [], []⟩ : He.DefD)) rfl
  have axWo : PySem.W.findIn K (.ref (He.ga K "BadWord")) "__init__" = some (some (.ref (He.ma K (He.ga K "BadWord") "__init__"))) := of_decide_eq_true (SaysB.ck c 312 (f := fun K => decide (PySem.W.findIn K (.ref (He.ga K "BadWord")) "__init__" = some (some (.ref (He.ma K (He.ga K "BadWord") "__init__"))))) rfl)
  have ixWo : PySem.W.isFn K (.ref (He.ma K (He.ga K "BadWord") "__init__")) = true := (SaysB.ck c 313 (f := fun K => PySem.W.isFn K (.ref (He.ma K (He.ga K "BadWord") "__init__"))) rfl)
  have kxWo : PySem.W.keepIn K (.ref (He.ma K (He.ga K "BadWord") "__init__")) = true := (SaysB.ck c 314 (f := fun K => PySem.W.keepIn K (.ref (He.ma K (He.ga K "BadWord") "__init__"))) rfl)
  obtain ⟨fd_xWo, F0xWo⟩ := SaysB.def_ c 22 (d := (⟨("BadWord", some "__init__"), "__init__", "BadWord.__init__", defArgs sBadWordInit, defBody sBadWordInit, defScope sBadWordInit, [], []⟩ : He.DefD)) rfl
  have axFi : PySem.W.findIn K (.ref (He.ga K "Finished")) "__init__" = some (some (.ref (He.ma K (He.ga K "Finished") "__init__"))) := of_decide_eq_true (SaysB.ck c 315 (f := fun K => decide (PySem.W.findIn K (.ref (He.ga K "Finished")) "__init__" = some (some (.ref (He.ma K (He.ga K "Finished") "__init__"))))) rfl)
  have ixFi : PySem.W.isFn K (.ref (He.ma K (He.ga K "Finished") "__init__")) = true := (SaysB.ck c 316 (f := fun K => PySem.W.isFn K (.ref (He.ma K (He.ga K "Finished") "__init__"))) rfl)
  have kxFi : PySem.W.keepIn K (.ref (He.ma K (He.ga K "Finished") "__init__")) = true := (SaysB.ck c 317 (f := fun K => PySem.W.keepIn K (.ref (He.ma K (He.ga K "Finished") "__init__"))) rfl)
  obtain ⟨fd_xFi, F0xFi⟩ := SaysB.def_ c 23 (d := (⟨("Finished", some "__init__"), "__init__", "Finished.__init__", defArgs sFinishedInit, defBody sFinishedInit, defScope sFinishedInit, [], []⟩ : He.DefD)) rfl
  have axRg : PySem.W.findIn K (.ref (He.ga K "Registered")) "__init__" = some (some (.ref (He.ma K (He.ga K "Registered") "__init__"))) := of_decide_eq_true (SaysB.ck c 318 (f := fun K => decide (PySem.W.findIn K (.ref (He.ga K "Registered")) "__init__" = some (some (.ref (He.ma K (He.ga K "Registered") "__init__"))))) rfl)
  have ixRg : PySem.W.isFn K (.ref (He.ma K (He.ga K "Registered") "__init__")) = true := (SaysB.ck c 319 (f := fun K => PySem.W.isFn K (.ref (He.ma K (He.ga K "Registered") "__init__"))) rfl)
  have kxRg : PySem.W.keepIn K (.ref (He.ma K (He.ga K "Registered") "__init__")) = true := (SaysB.ck c 320 (f := fun K => PySem.W.keepIn K (.ref (He.ma K (He.ga K "Registered") "__init__"))) rfl)
  obtain ⟨fd_xRg, F0xRg⟩ := SaysB.def_ c 24 (d := (⟨("Registered", some "__init__"), "__init__", "Registered.__init__", defArgs sRegisteredInit, defBody sRegisteredInit, defScope sRegisteredInit, [], []⟩ : He.DefD)) rfl
  have axTa : PySem.W.findIn K (.ref (He.ga K "Taken")) "__init__" = some (some (.ref (He.ma K (He.ga K "Taken") "__init__"))) := of_decide_eq_true (SaysB.ck c 321 (f := fun K => decide (PySem.W.findIn K (.ref (He.ga K "Taken")) "__init__" = some (some (.ref (He.ma K (He.ga K "Taken") "__init__"))))) rfl)
  have ixTa : PySem.W.isFn K (.ref (He.ma K (He.ga K "Taken") "__init__")) = true := (SaysB.ck c 322 (f := fun K => PySem.W.isFn K (.ref (He.ma K (He.ga K "Taken") "__init__"))) rfl)
  have kxTa : PySem.W.keepIn K (.ref (He.ma K (He.ga K "Taken") "__init__")) = true := (SaysB.ck c 323 (f := fun K => PySem.W.keepIn K (.ref (He.ma K (He.ga K "Taken") "__init__"))) rfl)
  obtain ⟨fd_xTa, F0xTa⟩ := SaysB.def_ c 25 (d := (⟨("Taken", some "__init__"), "__init__", "Taken.__init__", defArgs sTakenInit, defBody sTakenInit, defScope sTakenInit, [], []⟩ : He.DefD)) rfl
  have axNr : PySem.W.findIn K (.ref (He.ga K "NotRegistered")) "__init__" = some (some (.ref (He.ma K (He.ga K "NotRegistered") "__init__"))) := of_decide_eq_true (SaysB.ck c 324 (f := fun K => decide (PySem.W.findIn K (.ref (He.ga K "NotRegistered")) "__init__" = some (some (.ref (He.ma K (He.ga K "NotRegistered") "__init__"))))) rfl)
  have ixNr : PySem.W.isFn K (.ref (He.ma K (He.ga K "NotRegistered") "__init__")) = true := (SaysB.ck c 325 (f := fun K => PySem.W.isFn K (.ref (He.ma K (He.ga K "NotRegistered") "__init__"))) rfl)
  have kxNr : PySem.W.keepIn K (.ref (He.ma K (He.ga K "NotRegistered") "__init__")) = true := (SaysB.ck c 326 (f := fun K => PySem.W.keepIn K (.ref (He.ma K (He.ga K "NotRegistered") "__init__"))) rfl)
  obtain ⟨fd_xNr, F0xNr⟩ := SaysB.def_ c 26 (d := (⟨("NotRegistered", some "__init__"), "__init__", "NotRegistered.__init__", defArgs sNotRegisteredInit, defBody sNotRegisteredInit, defScope sNotRegisteredInit, [], []⟩ : He.DefD)) rfl
  have ari : PySem.W.findIn K (.ref (He.ga K "Registration")) "__init__" = some (some (.ref (He.ma K (He.ga K "Registration") "__init__"))) := of_decide_eq_true (SaysB.ck c 327 (f := fun K => decide (PySem.W.findIn K (.ref (He.ga K "Registration")) "__init__" = some (some (.ref (He.ma K (He.ga K "Registration") "__init__"))))) rfl)
  have iri : PySem.W.isFn K (.ref (He.ma K (He.ga K "Registration") "__init__")) = true := (SaysB.ck c 328 (f := fun K => PySem.W.isFn K (.ref (He.ma K (He.ga K "Registration") "__init__"))) rfl)
  have kri : PySem.W.keepIn K (.ref (He.ma K (He.ga K "Registration") "__init__")) = true := (SaysB.ck c 329 (f := fun K => PySem.W.keepIn K (.ref (He.ma K (He.ga K "Registration") "__init__"))) rfl)
  obtain ⟨fd_ri, F0ri⟩ := SaysB.def_ c 27 (d := (⟨("Registration", some "__init__"), "__init__", "Registration.__init__", defArgs sRegInit, defBody sRegInit, defScope sRegInit, [], []⟩ : He.DefD)) rfl
  have awi : PySem.W.findIn K (.ref (He.ga K "WaitingSet")) "__init__" = some (some (.ref (He.ma K (He.ga K "WaitingSet") "__init__"))) := of_decide_eq_true (SaysB.ck c 330 (f := fun K => decide (PySem.W.findIn K (.ref (He.ga K "WaitingSet")) "__init__" = some (some (.ref (He.ma K (He.ga K "WaitingSet") "__init__"))))) rfl)
  have iwi : PySem.W.isFn K (.ref (He.ma K (He.ga K "WaitingSet") "__init__")) = true := (SaysB.ck c 331 (f := fun K => PySem.W.isFn K (.ref (He.ma K (He.ga K "WaitingSet") "__init__"))) rfl)
  have kwi : PySem.W.keepIn K (.ref (He.ma K (He.ga K "WaitingSet") "__init__")) = true := (SaysB.ck c 332 (f := fun K => PySem.W.keepIn K (.ref (He.ma K (He.ga K "WaitingSet") "__init__"))) rfl)
  obtain ⟨fd_wi, F0wi⟩ := SaysB.def_ c 28 (d := (⟨("WaitingSet", some "__init__"), "__init__", "WaitingSet.__init__", defArgs sWsInit, defBody sWsInit, defScope sWsInit, [], []⟩ : He.DefD)) rfl
  have alof : PySem.W.findIn K (.ref (He.ga K "WaitingSet")) "label_of" = some (some (.ref (He.ma K (He.ga K "WaitingSet") "label_of"))) := of_decide_eq_true (SaysB.ck c 333 (f := fun K => decide (PySem.W.findIn K (.ref (He.ga K "WaitingSet")) "label_of" = some (some (.ref (He.ma K (He.ga K "WaitingSet") "label_of"))))) rfl)
  have ilof : PySem.W.isFn K (.ref (He.ma K (He.ga K "WaitingSet") "label_of")) = true := (SaysB.ck c 334 (f := fun K => PySem.W.isFn K (.ref (He.ma K (He.ga K "WaitingSet") "label_of"))) rfl)
  have klof : PySem.W.keepIn K (.ref (He.ma K (He.ga K "WaitingSet") "label_of")) = true := (SaysB.ck c 335 (f := fun K => PySem.W.keepIn K (.ref (He.ma K (He.ga K "WaitingSet") "label_of"))) rfl)
  obtain ⟨fd_lof, F0lof⟩ := SaysB.def_ c 29 (d := (⟨("WaitingSet", some "label_of"), "label_of", "WaitingSet.label_of", defArgs sLabelOf, defBody sLabelOf, defScope sLabelOf, [], []⟩ : He.DefD)) rfl
  have aput : PySem.W.findIn K (.ref (He.ga K "WaitingSet")) "put" = some (some (.ref (He.ma K (He.ga K "WaitingSet") "put"))) := of_decide_eq_true (SaysB.ck c 336 (f := fun K => decide (PySem.W.findIn K (.ref (He.ga K "WaitingSet")) "put" = some (some (.ref (He.ma K (He.ga K "WaitingSet") "put"))))) rfl)
  have iput : PySem.W.isFn K (.ref (He.ma K (He.ga K "WaitingSet") "put")) = true := (SaysB.ck c 337 (f := fun K => PySem.W.isFn K (.ref (He.ma K (He.ga K "WaitingSet") "put"))) rfl)
  have kput : PySem.W.keepIn K (.ref (He.ma K (He.ga K "WaitingSet") "put")) = true := (SaysB.ck c 338 (f := fun K => PySem.W.keepIn K (.ref (He.ma K (He.ga K "WaitingSet") "put"))) rfl)
  obtain ⟨fd_put, F0put⟩ := SaysB.def_ c 30 (d := (⟨("WaitingSet", some "put"), "put", "WaitingSet.put", defArgs sPut, defBody sPut, defScope sPut, [], []⟩ : He.DefD)) rfl
  have aapp : PySem.W.findIn K (.ref (He.ga K "WaitingSet")) "append_pending" = some (some (.ref (He.ma K (He.ga K "WaitingSet") "append_pending"))) := of_decide_eq_true (SaysB.ck c 339 (f := fun K => decide (PySem.W.findIn K (.ref (He.ga K "WaitingSet")) "append_pending" = some (some (.ref (He.ma K (He.ga K "WaitingSet") "append_pending"))))) rfl)
  have iapp : PySem.W.isFn K (.ref (He.ma K (He.ga K "WaitingSet") "append_pending")) = true := (SaysB.ck c 340 (f := fun K => PySem.W.isFn K (.ref (He.ma K (He.ga K "WaitingSet") "append_pending"))) rfl)
  have kapp : PySem.W.keepIn K (.ref (He.ma K (He.ga K "WaitingSet") "append_pending")) = true := (SaysB.ck c 341 (f := fun K => PySem.W.keepIn K (.ref (He.ma K (He.ga K "WaitingSet") "append_pending"))) rfl)
  obtain ⟨fd_app, F0app⟩ := SaysB.def_ c 31 (d := (⟨("WaitingSet", some "append_pending"), "append_pending", "WaitingSet.append_pending", defArgs sAppend, defBody sAppend, defScope sAppend, [], []⟩ : He.DefD)) rfl
  have adrp : PySem.W.findIn K (.ref (He.ga K "WaitingSet")) "drop" = some (some (.ref (He.ma K (He.ga K "WaitingSet") "drop"))) := of_decide_eq_true (SaysB.ck c 342 (f := fun K => decide (PySem.W.findIn K (.ref (He.ga K "WaitingSet")) "drop" = some (some (.ref (He.ma K (He.ga K "WaitingSet") "drop"))))) rfl)
  have idrp : PySem.W.isFn K (.ref (He.ma K (He.ga K "WaitingSet") "drop")) = true := (SaysB.ck c 343 (f := fun K => PySem.W.isFn K (.ref (He.ma K (He.ga K "WaitingSet") "drop"))) rfl)
  have kdrp : PySem.W.keepIn K (.ref (He.ma K (He.ga K "WaitingSet") "drop")) = true := (SaysB.ck c 344 (f := fun K => PySem.W.keepIn K (.ref (He.ma K (He.ga K "WaitingSet") "drop"))) rfl)
  obtain ⟨fd_drp, F0drp⟩ := SaysB.def_ c 32 (d := (⟨("WaitingSet", some "drop"), "drop", "WaitingSet.drop", defArgs sDrop, defBody sDrop, defScope sDrop, [], []⟩ : He.DefD)) rfl
  have adso : PySem.W.findIn K (.ref (He.ga K "WaitingSet")) "drop_source" = some (some (.ref (He.ma K (He.ga K "WaitingSet") "drop_source"))) := of_decide_eq_true (SaysB.ck c 345 (f := fun K => decide (PySem.W.findIn K (.ref (He.ga K "WaitingSet")) "drop_source" = some (some (.ref (He.ma K (He.ga K "WaitingSet") "drop_source"))))) rfl)
  have idso : PySem.W.isFn K (.ref (He.ma K (He.ga K "WaitingSet") "drop_source")) = true := (SaysB.ck c 346 (f := fun K => PySem.W.isFn K (.ref (He.ma K (He.ga K "WaitingSet") "drop_source"))) rfl)
  have kdso : PySem.W.keepIn K (.ref (He.ma K (He.ga K "WaitingSet") "drop_source")) = true := (SaysB.ck c 347 (f := fun K => PySem.W.keepIn K (.ref (He.ma K (He.ga K "WaitingSet") "drop_source"))) rfl)
  obtain ⟨fd_dso, F0dso⟩ := SaysB.def_ c 33 (d := (⟨("WaitingSet", some "drop_source"), "drop_source", "WaitingSet.drop_source", defArgs sDropSource, defBody sDropSource, defScope sDropSource, [], []⟩ : He.DefD)) rfl
  have antc : PySem.W.findIn K (.ref (He.ga K "WaitingSet")) "notice" = some (some (.ref (He.ma K (He.ga K "WaitingSet") "notice"))) := of_decide_eq_true (SaysB.ck c 348 (f := fun K => decide (PySem.W.findIn K (.ref (He.ga K "WaitingSet")) "notice" = some (some (.ref (He.ma K (He.ga K "WaitingSet") "notice"))))) rfl)
  have intc : PySem.W.isFn K (.ref (He.ma K (He.ga K "WaitingSet") "notice")) = true := (SaysB.ck c 349 (f := fun K => PySem.W.isFn K (.ref (He.ma K (He.ga K "WaitingSet") "notice"))) rfl)
  have kntc : PySem.W.keepIn K (.ref (He.ma K (He.ga K "WaitingSet") "notice")) = true := (SaysB.ck c 350 (f := fun K => PySem.W.keepIn K (.ref (He.ma K (He.ga K "WaitingSet") "notice"))) rfl)
  obtain ⟨fd_ntc, F0ntc⟩ := SaysB.def_ c 34 (d := (⟨("WaitingSet", some "notice"), "notice", "WaitingSet.notice", defArgs sNotice, defBody sNotice, defScope sNotice, [], []⟩ : He.DefD)) rfl
  have arep : PySem.W.findIn K (.ref (He.ga K "WaitingSet")) "take_reports" = some (some (.ref (He.ma K (He.ga K "WaitingSet") "take_reports"))) := of_decide_eq_true (SaysB.ck c 351 (f := fun K => decide (PySem.W.findIn K (.ref (He.ga K "WaitingSet")) "take_reports" = some (some (.ref (He.ma K (He.ga K "WaitingSet") "take_reports"))))) rfl)
  have irep : PySem.W.isFn K (.ref (He.ma K (He.ga K "WaitingSet") "take_reports")) = true := (SaysB.ck c 352 (f := fun K => PySem.W.isFn K (.ref (He.ma K (He.ga K "WaitingSet") "take_reports"))) rfl)
  have krep : PySem.W.keepIn K (.ref (He.ma K (He.ga K "WaitingSet") "take_reports")) = true := (SaysB.ck c 353 (f := fun K => PySem.W.keepIn K (.ref (He.ma K (He.ga K "WaitingSet") "take_reports"))) rfl)
  obtain ⟨fd_rep, F0rep⟩ := SaysB.def_ c 35 (d := (⟨("WaitingSet", some "take_reports"), "take_reports", "WaitingSet.take_reports", defArgs sReports, defBody sReports, defScope sReports, [], []⟩ : He.DefD)) rfl
  have astl : PySem.W.findIn K (.ref (He.ga K "WaitingSet")) "settle" = some (some (.ref (He.ma K (He.ga K "WaitingSet") "settle"))) := of_decide_eq_true (SaysB.ck c 354 (f := fun K => decide (PySem.W.findIn K (.ref (He.ga K "WaitingSet")) "settle" = some (some (.ref (He.ma K (He.ga K "WaitingSet") "settle"))))) rfl)
  have istl : PySem.W.isFn K (.ref (He.ma K (He.ga K "WaitingSet") "settle")) = true := (SaysB.ck c 355 (f := fun K => PySem.W.isFn K (.ref (He.ma K (He.ga K "WaitingSet") "settle"))) rfl)
  have kstl : PySem.W.keepIn K (.ref (He.ma K (He.ga K "WaitingSet") "settle")) = true := (SaysB.ck c 356 (f := fun K => PySem.W.keepIn K (.ref (He.ma K (He.ga K "WaitingSet") "settle"))) rfl)
  obtain ⟨fd_stl, F0stl⟩ := SaysB.def_ c 36 (d := (⟨("WaitingSet", some "settle"), "settle", "WaitingSet.settle", defArgs sSettle, defBody sSettle, defScope sSettle, [], []⟩ : He.DefD)) rfl
  have asi : PySem.W.findIn K (.ref (He.ga K "System")) "__init__" = some (some (.ref (He.ma K (He.ga K "System") "__init__"))) := of_decide_eq_true (SaysB.ck c 357 (f := fun K => decide (PySem.W.findIn K (.ref (He.ga K "System")) "__init__" = some (some (.ref (He.ma K (He.ga K "System") "__init__"))))) rfl)
  have isi : PySem.W.isFn K (.ref (He.ma K (He.ga K "System") "__init__")) = true := (SaysB.ck c 358 (f := fun K => PySem.W.isFn K (.ref (He.ma K (He.ga K "System") "__init__"))) rfl)
  have ksi : PySem.W.keepIn K (.ref (He.ma K (He.ga K "System") "__init__")) = true := (SaysB.ck c 359 (f := fun K => PySem.W.keepIn K (.ref (He.ma K (He.ga K "System") "__init__"))) rfl)
  obtain ⟨fd_si, F0si⟩ := SaysB.def_ c 37 (d := (⟨("System", some "__init__"), "__init__", "System.__init__", defArgs sSysInit, defBody sSysInit, defScope sSysInit, [], [("processes", .int 4), ("numbers", .int 8)]⟩ : He.DefD)) rfl
  have acon : PySem.W.findIn K (.ref (He.ga K "System")) "__contains__" = some (some (.ref (He.ma K (He.ga K "System") "__contains__"))) := of_decide_eq_true (SaysB.ck c 360 (f := fun K => decide (PySem.W.findIn K (.ref (He.ga K "System")) "__contains__" = some (some (.ref (He.ma K (He.ga K "System") "__contains__"))))) rfl)
  have icon : PySem.W.isFn K (.ref (He.ma K (He.ga K "System") "__contains__")) = true := (SaysB.ck c 361 (f := fun K => PySem.W.isFn K (.ref (He.ma K (He.ga K "System") "__contains__"))) rfl)
  have kcon : PySem.W.keepIn K (.ref (He.ma K (He.ga K "System") "__contains__")) = true := (SaysB.ck c 362 (f := fun K => PySem.W.keepIn K (.ref (He.ma K (He.ga K "System") "__contains__"))) rfl)
  obtain ⟨fd_con, F0con⟩ := SaysB.def_ c 38 (d := (⟨("System", some "__contains__"), "__contains__", "System.__contains__", defArgs sContains, defBody sContains, defScope sContains, [], []⟩ : He.DefD)) rfl
  have alen : PySem.W.findIn K (.ref (He.ga K "System")) "__len__" = some (some (.ref (He.ma K (He.ga K "System") "__len__"))) := of_decide_eq_true (SaysB.ck c 363 (f := fun K => decide (PySem.W.findIn K (.ref (He.ga K "System")) "__len__" = some (some (.ref (He.ma K (He.ga K "System") "__len__"))))) rfl)
  have ilen : PySem.W.isFn K (.ref (He.ma K (He.ga K "System") "__len__")) = true := (SaysB.ck c 364 (f := fun K => PySem.W.isFn K (.ref (He.ma K (He.ga K "System") "__len__"))) rfl)
  have klen : PySem.W.keepIn K (.ref (He.ma K (He.ga K "System") "__len__")) = true := (SaysB.ck c 365 (f := fun K => PySem.W.keepIn K (.ref (He.ma K (He.ga K "System") "__len__"))) rfl)
  obtain ⟨fd_len, F0len⟩ := SaysB.def_ c 39 (d := (⟨("System", some "__len__"), "__len__", "System.__len__", defArgs sLen, defBody sLen, defScope sLen, [], []⟩ : He.DefD)) rfl
  have atof : PySem.W.findIn K (.ref (He.ga K "System")) "table_of" = some (some (.ref (He.ma K (He.ga K "System") "table_of"))) := of_decide_eq_true (SaysB.ck c 366 (f := fun K => decide (PySem.W.findIn K (.ref (He.ga K "System")) "table_of" = some (some (.ref (He.ma K (He.ga K "System") "table_of"))))) rfl)
  have itof : PySem.W.isFn K (.ref (He.ma K (He.ga K "System") "table_of")) = true := (SaysB.ck c 367 (f := fun K => PySem.W.isFn K (.ref (He.ma K (He.ga K "System") "table_of"))) rfl)
  have ktof : PySem.W.keepIn K (.ref (He.ma K (He.ga K "System") "table_of")) = true := (SaysB.ck c 368 (f := fun K => PySem.W.keepIn K (.ref (He.ma K (He.ga K "System") "table_of"))) rfl)
  obtain ⟨fd_tof, F0tof⟩ := SaysB.def_ c 40 (d := (⟨("System", some "table_of"), "table_of", "System.table_of", defArgs sTableOf, defBody sTableOf, defScope sTableOf, [], []⟩ : He.DefD)) rfl
  have aitn : PySem.W.findIn K (.ref (He.ga K "System")) "is_table_number" = some (some (.ref (He.ma K (He.ga K "System") "is_table_number"))) := of_decide_eq_true (SaysB.ck c 369 (f := fun K => decide (PySem.W.findIn K (.ref (He.ga K "System")) "is_table_number" = some (some (.ref (He.ma K (He.ga K "System") "is_table_number"))))) rfl)
  have iitn : PySem.W.isFn K (.ref (He.ma K (He.ga K "System") "is_table_number")) = true := (SaysB.ck c 370 (f := fun K => PySem.W.isFn K (.ref (He.ma K (He.ga K "System") "is_table_number"))) rfl)
  have kitn : PySem.W.keepIn K (.ref (He.ma K (He.ga K "System") "is_table_number")) = true := (SaysB.ck c 371 (f := fun K => PySem.W.keepIn K (.ref (He.ma K (He.ga K "System") "is_table_number"))) rfl)
  obtain ⟨fd_itn, F0itn⟩ := SaysB.def_ c 41 (d := (⟨("System", some "is_table_number"), "is_table_number", "System.is_table_number", defArgs sIsTabNum, defBody sIsTabNum, defScope sIsTabNum, [], []⟩ : He.DefD)) rfl
  have atha : PySem.W.findIn K (.ref (He.ga K "System")) "thing_at" = some (some (.ref (He.ma K (He.ga K "System") "thing_at"))) := of_decide_eq_true (SaysB.ck c 372 (f := fun K => decide (PySem.W.findIn K (.ref (He.ga K "System")) "thing_at" = some (some (.ref (He.ma K (He.ga K "System") "thing_at"))))) rfl)
  have itha : PySem.W.isFn K (.ref (He.ma K (He.ga K "System") "thing_at")) = true := (SaysB.ck c 373 (f := fun K => PySem.W.isFn K (.ref (He.ma K (He.ga K "System") "thing_at"))) rfl)
  have ktha : PySem.W.keepIn K (.ref (He.ma K (He.ga K "System") "thing_at")) = true := (SaysB.ck c 374 (f := fun K => PySem.W.keepIn K (.ref (He.ma K (He.ga K "System") "thing_at"))) rfl)
  obtain ⟨fd_tha, F0tha⟩ := SaysB.def_ c 42 (d := (⟨("System", some "thing_at"), "thing_at", "System.thing_at", defArgs sThingAt, defBody sThingAt, defScope sThingAt, [], []⟩ : He.DefD)) rfl
  have asra : PySem.W.findIn K (.ref (He.ga K "System")) "source_at" = some (some (.ref (He.ma K (He.ga K "System") "source_at"))) := of_decide_eq_true (SaysB.ck c 375 (f := fun K => decide (PySem.W.findIn K (.ref (He.ga K "System")) "source_at" = some (some (.ref (He.ma K (He.ga K "System") "source_at"))))) rfl)
  have isra : PySem.W.isFn K (.ref (He.ma K (He.ga K "System") "source_at")) = true := (SaysB.ck c 376 (f := fun K => PySem.W.isFn K (.ref (He.ma K (He.ga K "System") "source_at"))) rfl)
  have ksra : PySem.W.keepIn K (.ref (He.ma K (He.ga K "System") "source_at")) = true := (SaysB.ck c 377 (f := fun K => PySem.W.keepIn K (.ref (He.ma K (He.ga K "System") "source_at"))) rfl)
  obtain ⟨fd_sra, F0sra⟩ := SaysB.def_ c 43 (d := (⟨("System", some "source_at"), "source_at", "System.source_at", defArgs sSourceAt, defBody sSourceAt, defScope sSourceAt, [], []⟩ : He.DefD)) rfl
  have asta : PySem.W.findIn K (.ref (He.ga K "System")) "set_at" = some (some (.ref (He.ma K (He.ga K "System") "set_at"))) := of_decide_eq_true (SaysB.ck c 378 (f := fun K => decide (PySem.W.findIn K (.ref (He.ga K "System")) "set_at" = some (some (.ref (He.ma K (He.ga K "System") "set_at"))))) rfl)
  have ista : PySem.W.isFn K (.ref (He.ma K (He.ga K "System") "set_at")) = true := (SaysB.ck c 379 (f := fun K => PySem.W.isFn K (.ref (He.ma K (He.ga K "System") "set_at"))) rfl)
  have ksta : PySem.W.keepIn K (.ref (He.ma K (He.ga K "System") "set_at")) = true := (SaysB.ck c 380 (f := fun K => PySem.W.keepIn K (.ref (He.ma K (He.ga K "System") "set_at"))) rfl)
  obtain ⟨fd_sta, F0sta⟩ := SaysB.def_ c 44 (d := (⟨("System", some "set_at"), "set_at", "System.set_at", defArgs sSetAt, defBody sSetAt, defScope sSetAt, [], []⟩ : He.DefD)) rfl
  have afrn : PySem.W.findIn K (.ref (He.ga K "System")) "free_number" = some (some (.ref (He.ma K (He.ga K "System") "free_number"))) := of_decide_eq_true (SaysB.ck c 381 (f := fun K => decide (PySem.W.findIn K (.ref (He.ga K "System")) "free_number" = some (some (.ref (He.ma K (He.ga K "System") "free_number"))))) rfl)
  have ifrn : PySem.W.isFn K (.ref (He.ma K (He.ga K "System") "free_number")) = true := (SaysB.ck c 382 (f := fun K => PySem.W.isFn K (.ref (He.ma K (He.ga K "System") "free_number"))) rfl)
  have kfrn : PySem.W.keepIn K (.ref (He.ma K (He.ga K "System") "free_number")) = true := (SaysB.ck c 383 (f := fun K => PySem.W.keepIn K (.ref (He.ma K (He.ga K "System") "free_number"))) rfl)
  obtain ⟨fd_frn, F0frn⟩ := SaysB.def_ c 45 (d := (⟨("System", some "free_number"), "free_number", "System.free_number", defArgs sFreeNum, defBody sFreeNum, defScope sFreeNum, [], []⟩ : He.DefD)) rfl
  have anth : PySem.W.findIn K (.ref (He.ga K "System")) "new_thing" = some (some (.ref (He.ma K (He.ga K "System") "new_thing"))) := of_decide_eq_true (SaysB.ck c 384 (f := fun K => decide (PySem.W.findIn K (.ref (He.ga K "System")) "new_thing" = some (some (.ref (He.ma K (He.ga K "System") "new_thing"))))) rfl)
  have inth : PySem.W.isFn K (.ref (He.ma K (He.ga K "System") "new_thing")) = true := (SaysB.ck c 385 (f := fun K => PySem.W.isFn K (.ref (He.ma K (He.ga K "System") "new_thing"))) rfl)
  have knth : PySem.W.keepIn K (.ref (He.ma K (He.ga K "System") "new_thing")) = true := (SaysB.ck c 386 (f := fun K => PySem.W.keepIn K (.ref (He.ma K (He.ga K "System") "new_thing"))) rfl)
  obtain ⟨fd_nth, F0nth⟩ := SaysB.def_ c 46 (d := (⟨("System", some "new_thing"), "new_thing", "System.new_thing", defArgs sNewThing, defBody sNewThing, defScope sNewThing, [], []⟩ : He.DefD)) rfl
  have anso : PySem.W.findIn K (.ref (He.ga K "System")) "new_source" = some (some (.ref (He.ma K (He.ga K "System") "new_source"))) := of_decide_eq_true (SaysB.ck c 387 (f := fun K => decide (PySem.W.findIn K (.ref (He.ga K "System")) "new_source" = some (some (.ref (He.ma K (He.ga K "System") "new_source"))))) rfl)
  have inso : PySem.W.isFn K (.ref (He.ma K (He.ga K "System") "new_source")) = true := (SaysB.ck c 388 (f := fun K => PySem.W.isFn K (.ref (He.ma K (He.ga K "System") "new_source"))) rfl)
  have knso : PySem.W.keepIn K (.ref (He.ma K (He.ga K "System") "new_source")) = true := (SaysB.ck c 389 (f := fun K => PySem.W.keepIn K (.ref (He.ma K (He.ga K "System") "new_source"))) rfl)
  obtain ⟨fd_nso, F0nso⟩ := SaysB.def_ c 47 (d := (⟨("System", some "new_source"), "new_source", "System.new_source", defArgs sNewSource, defBody sNewSource, defScope sNewSource, [], []⟩ : He.DefD)) rfl
  have anse : PySem.W.findIn K (.ref (He.ga K "System")) "new_set" = some (some (.ref (He.ma K (He.ga K "System") "new_set"))) := of_decide_eq_true (SaysB.ck c 390 (f := fun K => decide (PySem.W.findIn K (.ref (He.ga K "System")) "new_set" = some (some (.ref (He.ma K (He.ga K "System") "new_set"))))) rfl)
  have inse : PySem.W.isFn K (.ref (He.ma K (He.ga K "System") "new_set")) = true := (SaysB.ck c 391 (f := fun K => PySem.W.isFn K (.ref (He.ma K (He.ga K "System") "new_set"))) rfl)
  have knse : PySem.W.keepIn K (.ref (He.ma K (He.ga K "System") "new_set")) = true := (SaysB.ck c 392 (f := fun K => PySem.W.keepIn K (.ref (He.ma K (He.ga K "System") "new_set"))) rfl)
  obtain ⟨fd_nse, F0nse⟩ := SaysB.def_ c 48 (d := (⟨("System", some "new_set"), "new_set", "System.new_set", defArgs sNewSet, defBody sNewSet, defScope sNewSet, [], []⟩ : He.DefD)) rfl
  have ardy : PySem.W.findIn K (.ref (He.ga K "System")) "is_ready" = some (some (.ref (He.ma K (He.ga K "System") "is_ready"))) := of_decide_eq_true (SaysB.ck c 393 (f := fun K => decide (PySem.W.findIn K (.ref (He.ga K "System")) "is_ready" = some (some (.ref (He.ma K (He.ga K "System") "is_ready"))))) rfl)
  have irdy : PySem.W.isFn K (.ref (He.ma K (He.ga K "System") "is_ready")) = true := (SaysB.ck c 394 (f := fun K => PySem.W.isFn K (.ref (He.ma K (He.ga K "System") "is_ready"))) rfl)
  have krdy : PySem.W.keepIn K (.ref (He.ma K (He.ga K "System") "is_ready")) = true := (SaysB.ck c 395 (f := fun K => PySem.W.keepIn K (.ref (He.ma K (He.ga K "System") "is_ready"))) rfl)
  obtain ⟨fd_rdy, F0rdy⟩ := SaysB.def_ c 49 (d := (⟨("System", some "is_ready"), "is_ready", "System.is_ready", defArgs sIsReady, defBody sIsReady, defScope sIsReady, [], []⟩ : He.DefD)) rfl
  have aunf : PySem.W.findIn K (.ref (He.ga K "System")) "unread_of_unfinished" = some (some (.ref (He.ma K (He.ga K "System") "unread_of_unfinished"))) := of_decide_eq_true (SaysB.ck c 396 (f := fun K => decide (PySem.W.findIn K (.ref (He.ga K "System")) "unread_of_unfinished" = some (some (.ref (He.ma K (He.ga K "System") "unread_of_unfinished"))))) rfl)
  have iunf : PySem.W.isFn K (.ref (He.ma K (He.ga K "System") "unread_of_unfinished")) = true := (SaysB.ck c 397 (f := fun K => PySem.W.isFn K (.ref (He.ma K (He.ga K "System") "unread_of_unfinished"))) rfl)
  have kunf : PySem.W.keepIn K (.ref (He.ma K (He.ga K "System") "unread_of_unfinished")) = true := (SaysB.ck c 398 (f := fun K => PySem.W.keepIn K (.ref (He.ma K (He.ga K "System") "unread_of_unfinished"))) rfl)
  obtain ⟨fd_unf, F0unf⟩ := SaysB.def_ c 50 (d := (⟨("System", some "unread_of_unfinished"), "unread_of_unfinished", "System.unread_of_unfinished", defArgs sUnfinished, defBody sUnfinished, defScope sUnfinished, [], []⟩ : He.DefD)) rfl
  have anfy : PySem.W.findIn K (.ref (He.ga K "System")) "notify" = some (some (.ref (He.ma K (He.ga K "System") "notify"))) := of_decide_eq_true (SaysB.ck c 399 (f := fun K => decide (PySem.W.findIn K (.ref (He.ga K "System")) "notify" = some (some (.ref (He.ma K (He.ga K "System") "notify"))))) rfl)
  have infy : PySem.W.isFn K (.ref (He.ma K (He.ga K "System") "notify")) = true := (SaysB.ck c 400 (f := fun K => PySem.W.isFn K (.ref (He.ma K (He.ga K "System") "notify"))) rfl)
  have knfy : PySem.W.keepIn K (.ref (He.ma K (He.ga K "System") "notify")) = true := (SaysB.ck c 401 (f := fun K => PySem.W.keepIn K (.ref (He.ma K (He.ga K "System") "notify"))) rfl)
  obtain ⟨fd_nfy, F0nfy⟩ := SaysB.def_ c 51 (d := (⟨("System", some "notify"), "notify", "System.notify", defArgs sNotify, defBody sNotify, defScope sNotify, [], []⟩ : He.DefD)) rfl
  have aetg : PySem.W.findIn K (.ref (He.ga K "System")) "end_thing" = some (some (.ref (He.ma K (He.ga K "System") "end_thing"))) := of_decide_eq_true (SaysB.ck c 402 (f := fun K => decide (PySem.W.findIn K (.ref (He.ga K "System")) "end_thing" = some (some (.ref (He.ma K (He.ga K "System") "end_thing"))))) rfl)
  have ietg : PySem.W.isFn K (.ref (He.ma K (He.ga K "System") "end_thing")) = true := (SaysB.ck c 403 (f := fun K => PySem.W.isFn K (.ref (He.ma K (He.ga K "System") "end_thing"))) rfl)
  have ketg : PySem.W.keepIn K (.ref (He.ma K (He.ga K "System") "end_thing")) = true := (SaysB.ck c 404 (f := fun K => PySem.W.keepIn K (.ref (He.ma K (He.ga K "System") "end_thing"))) rfl)
  obtain ⟨fd_etg, F0etg⟩ := SaysB.def_ c 52 (d := (⟨("System", some "end_thing"), "end_thing", "System.end_thing", defArgs sEndThing, defBody sEndThing, defScope sEndThing, [], []⟩ : He.DefD)) rfl
  have aarr : PySem.W.findIn K (.ref (He.ga K "System")) "arrive" = some (some (.ref (He.ma K (He.ga K "System") "arrive"))) := of_decide_eq_true (SaysB.ck c 405 (f := fun K => decide (PySem.W.findIn K (.ref (He.ga K "System")) "arrive" = some (some (.ref (He.ma K (He.ga K "System") "arrive"))))) rfl)
  have iarr : PySem.W.isFn K (.ref (He.ma K (He.ga K "System") "arrive")) = true := (SaysB.ck c 406 (f := fun K => PySem.W.isFn K (.ref (He.ma K (He.ga K "System") "arrive"))) rfl)
  have karr : PySem.W.keepIn K (.ref (He.ma K (He.ga K "System") "arrive")) = true := (SaysB.ck c 407 (f := fun K => PySem.W.keepIn K (.ref (He.ma K (He.ga K "System") "arrive"))) rfl)
  obtain ⟨fd_arr, F0arr⟩ := SaysB.def_ c 53 (d := (⟨("System", some "arrive"), "arrive", "System.arrive", defArgs sArrive, defBody sArrive, defScope sArrive, [.int 1], []⟩ : He.DefD)) rfl
  have ared : PySem.W.findIn K (.ref (He.ga K "System")) "read" = some (some (.ref (He.ma K (He.ga K "System") "read"))) := of_decide_eq_true (SaysB.ck c 408 (f := fun K => decide (PySem.W.findIn K (.ref (He.ga K "System")) "read" = some (some (.ref (He.ma K (He.ga K "System") "read"))))) rfl)
  have ired : PySem.W.isFn K (.ref (He.ma K (He.ga K "System") "read")) = true := (SaysB.ck c 409 (f := fun K => PySem.W.isFn K (.ref (He.ma K (He.ga K "System") "read"))) rfl)
  have kred : PySem.W.keepIn K (.ref (He.ma K (He.ga K "System") "read")) = true := (SaysB.ck c 410 (f := fun K => PySem.W.keepIn K (.ref (He.ma K (He.ga K "System") "read"))) rfl)
  obtain ⟨fd_red, F0red⟩ := SaysB.def_ c 54 (d := (⟨("System", some "read"), "read", "System.read", defArgs sRead, defBody sRead, defScope sRead, [.non], []⟩ : He.DefD)) rfl
  have awai : PySem.W.findIn K (.ref (He.ga K "System")) "wait" = some (some (.ref (He.ma K (He.ga K "System") "wait"))) := of_decide_eq_true (SaysB.ck c 411 (f := fun K => decide (PySem.W.findIn K (.ref (He.ga K "System")) "wait" = some (some (.ref (He.ma K (He.ga K "System") "wait"))))) rfl)
  have iwai : PySem.W.isFn K (.ref (He.ma K (He.ga K "System") "wait")) = true := (SaysB.ck c 412 (f := fun K => PySem.W.isFn K (.ref (He.ma K (He.ga K "System") "wait"))) rfl)
  have kwai : PySem.W.keepIn K (.ref (He.ma K (He.ga K "System") "wait")) = true := (SaysB.ck c 413 (f := fun K => PySem.W.keepIn K (.ref (He.ma K (He.ga K "System") "wait"))) rfl)
  obtain ⟨fd_wai, F0wai⟩ := SaysB.def_ c 55 (d := (⟨("System", some "wait"), "wait", "System.wait", defArgs sWait, defBody sWait, defScope sWait, [.int 1], []⟩ : He.DefD)) rfl
  have aadd : PySem.W.findIn K (.ref (He.ga K "System")) "add" = some (some (.ref (He.ma K (He.ga K "System") "add"))) := of_decide_eq_true (SaysB.ck c 414 (f := fun K => decide (PySem.W.findIn K (.ref (He.ga K "System")) "add" = some (some (.ref (He.ma K (He.ga K "System") "add"))))) rfl)
  have iadd : PySem.W.isFn K (.ref (He.ma K (He.ga K "System") "add")) = true := (SaysB.ck c 415 (f := fun K => PySem.W.isFn K (.ref (He.ma K (He.ga K "System") "add"))) rfl)
  have kadd : PySem.W.keepIn K (.ref (He.ma K (He.ga K "System") "add")) = true := (SaysB.ck c 416 (f := fun K => PySem.W.keepIn K (.ref (He.ma K (He.ga K "System") "add"))) rfl)
  obtain ⟨fd_add, F0add⟩ := SaysB.def_ c 56 (d := (⟨("System", some "add"), "add", "System.add", defArgs sAdd, defBody sAdd, defScope sAdd, [], [("word", .str "level")]⟩ : He.DefD)) rfl
  have achg : PySem.W.findIn K (.ref (He.ga K "System")) "change" = some (some (.ref (He.ma K (He.ga K "System") "change"))) := of_decide_eq_true (SaysB.ck c 417 (f := fun K => decide (PySem.W.findIn K (.ref (He.ga K "System")) "change" = some (some (.ref (He.ma K (He.ga K "System") "change"))))) rfl)
  have ichg : PySem.W.isFn K (.ref (He.ma K (He.ga K "System") "change")) = true := (SaysB.ck c 418 (f := fun K => PySem.W.isFn K (.ref (He.ma K (He.ga K "System") "change"))) rfl)
  have kchg : PySem.W.keepIn K (.ref (He.ma K (He.ga K "System") "change")) = true := (SaysB.ck c 419 (f := fun K => PySem.W.keepIn K (.ref (He.ma K (He.ga K "System") "change"))) rfl)
  obtain ⟨fd_chg, F0chg⟩ := SaysB.def_ c 57 (d := (⟨("System", some "change"), "change", "System.change", defArgs sChange, defBody sChange, defScope sChange, [], []⟩ : He.DefD)) rfl
  have arem : PySem.W.findIn K (.ref (He.ga K "System")) "remove" = some (some (.ref (He.ma K (He.ga K "System") "remove"))) := of_decide_eq_true (SaysB.ck c 420 (f := fun K => decide (PySem.W.findIn K (.ref (He.ga K "System")) "remove" = some (some (.ref (He.ma K (He.ga K "System") "remove"))))) rfl)
  have irem : PySem.W.isFn K (.ref (He.ma K (He.ga K "System") "remove")) = true := (SaysB.ck c 421 (f := fun K => PySem.W.isFn K (.ref (He.ma K (He.ga K "System") "remove"))) rfl)
  have krem : PySem.W.keepIn K (.ref (He.ma K (He.ga K "System") "remove")) = true := (SaysB.ck c 422 (f := fun K => PySem.W.keepIn K (.ref (He.ma K (He.ga K "System") "remove"))) rfl)
  obtain ⟨fd_rem, F0rem⟩ := SaysB.def_ c 58 (d := (⟨("System", some "remove"), "remove", "System.remove", defArgs sRemove, defBody sRemove, defScope sRemove, [], []⟩ : He.DefD)) rfl
  have afre : PySem.W.findIn K (.ref (He.ga K "System")) "free" = some (some (.ref (He.ma K (He.ga K "System") "free"))) := of_decide_eq_true (SaysB.ck c 423 (f := fun K => decide (PySem.W.findIn K (.ref (He.ga K "System")) "free" = some (some (.ref (He.ma K (He.ga K "System") "free"))))) rfl)
  have ifre : PySem.W.isFn K (.ref (He.ma K (He.ga K "System") "free")) = true := (SaysB.ck c 424 (f := fun K => PySem.W.isFn K (.ref (He.ma K (He.ga K "System") "free"))) rfl)
  have kfre : PySem.W.keepIn K (.ref (He.ma K (He.ga K "System") "free")) = true := (SaysB.ck c 425 (f := fun K => PySem.W.keepIn K (.ref (He.ma K (He.ga K "System") "free"))) rfl)
  obtain ⟨fd_fre, F0fre⟩ := SaysB.def_ c 59 (d := (⟨("System", some "free"), "free", "System.free", defArgs sFree, defBody sFree, defScope sFree, [], []⟩ : He.DefD)) rfl
  have aclo : PySem.W.findIn K (.ref (He.ga K "System")) "close" = some (some (.ref (He.ma K (He.ga K "System") "close"))) := of_decide_eq_true (SaysB.ck c 426 (f := fun K => decide (PySem.W.findIn K (.ref (He.ga K "System")) "close" = some (some (.ref (He.ma K (He.ga K "System") "close"))))) rfl)
  have iclo : PySem.W.isFn K (.ref (He.ma K (He.ga K "System") "close")) = true := (SaysB.ck c 427 (f := fun K => PySem.W.isFn K (.ref (He.ma K (He.ga K "System") "close"))) rfl)
  have kclo : PySem.W.keepIn K (.ref (He.ma K (He.ga K "System") "close")) = true := (SaysB.ck c 428 (f := fun K => PySem.W.keepIn K (.ref (He.ma K (He.ga K "System") "close"))) rfl)
  obtain ⟨fd_clo, F0clo⟩ := SaysB.def_ c 60 (d := (⟨("System", some "close"), "close", "System.close", defArgs sClose, defBody sClose, defScope sClose, [], []⟩ : He.DefD)) rfl
  have acpy : PySem.W.findIn K (.ref (He.ga K "System")) "copy" = some (some (.ref (He.ma K (He.ga K "System") "copy"))) := of_decide_eq_true (SaysB.ck c 429 (f := fun K => decide (PySem.W.findIn K (.ref (He.ga K "System")) "copy" = some (some (.ref (He.ma K (He.ga K "System") "copy"))))) rfl)
  have icpy : PySem.W.isFn K (.ref (He.ma K (He.ga K "System") "copy")) = true := (SaysB.ck c 430 (f := fun K => PySem.W.isFn K (.ref (He.ma K (He.ga K "System") "copy"))) rfl)
  have kcpy : PySem.W.keepIn K (.ref (He.ma K (He.ga K "System") "copy")) = true := (SaysB.ck c 431 (f := fun K => PySem.W.keepIn K (.ref (He.ma K (He.ga K "System") "copy"))) rfl)
  obtain ⟨fd_cpy, F0cpy⟩ := SaysB.def_ c 61 (d := (⟨("System", some "copy"), "copy", "System.copy", defArgs sCopy, defBody sCopy, defScope sCopy, [.non], []⟩ : He.DefD)) rfl
  have afrp : PySem.W.findIn K (.ref (He.ga K "System")) "free_process" = some (some (.ref (He.ma K (He.ga K "System") "free_process"))) := of_decide_eq_true (SaysB.ck c 432 (f := fun K => decide (PySem.W.findIn K (.ref (He.ga K "System")) "free_process" = some (some (.ref (He.ma K (He.ga K "System") "free_process"))))) rfl)
  have ifrp : PySem.W.isFn K (.ref (He.ma K (He.ga K "System") "free_process")) = true := (SaysB.ck c 433 (f := fun K => PySem.W.isFn K (.ref (He.ma K (He.ga K "System") "free_process"))) rfl)
  have kfrp : PySem.W.keepIn K (.ref (He.ma K (He.ga K "System") "free_process")) = true := (SaysB.ck c 434 (f := fun K => PySem.W.keepIn K (.ref (He.ma K (He.ga K "System") "free_process"))) rfl)
  obtain ⟨fd_frp, F0frp⟩ := SaysB.def_ c 62 (d := (⟨("System", some "free_process"), "free_process", "System.free_process", defArgs sFreeProc, defBody sFreeProc, defScope sFreeProc, [], []⟩ : He.DefD)) rfl
  have afrk : PySem.W.findIn K (.ref (He.ga K "System")) "fork" = some (some (.ref (He.ma K (He.ga K "System") "fork"))) := of_decide_eq_true (SaysB.ck c 435 (f := fun K => decide (PySem.W.findIn K (.ref (He.ga K "System")) "fork" = some (some (.ref (He.ma K (He.ga K "System") "fork"))))) rfl)
  have ifrk : PySem.W.isFn K (.ref (He.ma K (He.ga K "System") "fork")) = true := (SaysB.ck c 436 (f := fun K => PySem.W.isFn K (.ref (He.ma K (He.ga K "System") "fork"))) rfl)
  have kfrk : PySem.W.keepIn K (.ref (He.ma K (He.ga K "System") "fork")) = true := (SaysB.ck c 437 (f := fun K => PySem.W.keepIn K (.ref (He.ma K (He.ga K "System") "fork"))) rfl)
  obtain ⟨fd_frk, F0frk⟩ := SaysB.def_ c 63 (d := (⟨("System", some "fork"), "fork", "System.fork", defArgs sFork, defBody sFork, defScope sFork, [], []⟩ : He.DefD)) rfl
  have anum : PySem.W.findIn K (.ref (He.ga K "System")) "numbers" = some (some (.ref (He.ma K (He.ga K "System") "numbers"))) := of_decide_eq_true (SaysB.ck c 438 (f := fun K => decide (PySem.W.findIn K (.ref (He.ga K "System")) "numbers" = some (some (.ref (He.ma K (He.ga K "System") "numbers"))))) rfl)
  have inum : PySem.W.isFn K (.ref (He.ma K (He.ga K "System") "numbers")) = true := (SaysB.ck c 439 (f := fun K => PySem.W.isFn K (.ref (He.ma K (He.ga K "System") "numbers"))) rfl)
  have knum : PySem.W.keepIn K (.ref (He.ma K (He.ga K "System") "numbers")) = true := (SaysB.ck c 440 (f := fun K => PySem.W.keepIn K (.ref (He.ma K (He.ga K "System") "numbers"))) rfl)
  obtain ⟨fd_num, F0num⟩ := SaysB.def_ c 64 (d := (⟨("System", some "numbers"), "numbers", "System.numbers", defArgs sNumbers, defBody sNumbers, defScope sNumbers, [], []⟩ : He.DefD)) rfl
  have atng : PySem.W.findIn K (.ref (He.ga K "System")) "things" = some (some (.ref (He.ma K (He.ga K "System") "things"))) := of_decide_eq_true (SaysB.ck c 441 (f := fun K => decide (PySem.W.findIn K (.ref (He.ga K "System")) "things" = some (some (.ref (He.ma K (He.ga K "System") "things"))))) rfl)
  have itng : PySem.W.isFn K (.ref (He.ma K (He.ga K "System") "things")) = true := (SaysB.ck c 442 (f := fun K => PySem.W.isFn K (.ref (He.ma K (He.ga K "System") "things"))) rfl)
  have ktng : PySem.W.keepIn K (.ref (He.ma K (He.ga K "System") "things")) = true := (SaysB.ck c 443 (f := fun K => PySem.W.keepIn K (.ref (He.ma K (He.ga K "System") "things"))) rfl)
  obtain ⟨fd_tng, F0tng⟩ := SaysB.def_ c 65 (d := (⟨("System", some "things"), "things", "System.things", defArgs sThings, defBody sThings, defScope sThings, [], []⟩ : He.DefD)) rfl
  have anof : PySem.W.findIn K (.ref (He.ga K "System")) "numbers_of" = some (some (.ref (He.ma K (He.ga K "System") "numbers_of"))) := of_decide_eq_true (SaysB.ck c 444 (f := fun K => decide (PySem.W.findIn K (.ref (He.ga K "System")) "numbers_of" = some (some (.ref (He.ma K (He.ga K "System") "numbers_of"))))) rfl)
  have inof : PySem.W.isFn K (.ref (He.ma K (He.ga K "System") "numbers_of")) = true := (SaysB.ck c 445 (f := fun K => PySem.W.isFn K (.ref (He.ma K (He.ga K "System") "numbers_of"))) rfl)
  have knof : PySem.W.keepIn K (.ref (He.ma K (He.ga K "System") "numbers_of")) = true := (SaysB.ck c 446 (f := fun K => PySem.W.keepIn K (.ref (He.ma K (He.ga K "System") "numbers_of"))) rfl)
  obtain ⟨fd_nof, F0nof⟩ := SaysB.def_ c 66 (d := (⟨("System", some "numbers_of"), "numbers_of", "System.numbers_of", defArgs sNumbersOf, defBody sNumbersOf, defScope sNumbersOf, [], []⟩ : He.DefD)) rfl
  have anam : PySem.W.findIn K (.ref (He.ga K "System")) "name_of" = some (some (.ref (He.ma K (He.ga K "System") "name_of"))) := of_decide_eq_true (SaysB.ck c 447 (f := fun K => decide (PySem.W.findIn K (.ref (He.ga K "System")) "name_of" = some (some (.ref (He.ma K (He.ga K "System") "name_of"))))) rfl)
  have inam : PySem.W.isFn K (.ref (He.ma K (He.ga K "System") "name_of")) = true := (SaysB.ck c 448 (f := fun K => PySem.W.isFn K (.ref (He.ma K (He.ga K "System") "name_of"))) rfl)
  have knam : PySem.W.keepIn K (.ref (He.ma K (He.ga K "System") "name_of")) = true := (SaysB.ck c 449 (f := fun K => PySem.W.keepIn K (.ref (He.ma K (He.ga K "System") "name_of"))) rfl)
  obtain ⟨fd_nam, F0nam⟩ := SaysB.def_ c 67 (d := (⟨("System", some "name_of"), "name_of", "System.name_of", defArgs sNameOf, defBody sNameOf, defScope sNameOf, [], []⟩ : He.DefD)) rfl
  have areg : PySem.W.findIn K (.ref (He.ga K "System")) "registrations" = some (some (.ref (He.ma K (He.ga K "System") "registrations"))) := of_decide_eq_true (SaysB.ck c 450 (f := fun K => decide (PySem.W.findIn K (.ref (He.ga K "System")) "registrations" = some (some (.ref (He.ma K (He.ga K "System") "registrations"))))) rfl)
  have ireg : PySem.W.isFn K (.ref (He.ma K (He.ga K "System") "registrations")) = true := (SaysB.ck c 451 (f := fun K => PySem.W.isFn K (.ref (He.ma K (He.ga K "System") "registrations"))) rfl)
  have kreg : PySem.W.keepIn K (.ref (He.ma K (He.ga K "System") "registrations")) = true := (SaysB.ck c 452 (f := fun K => PySem.W.keepIn K (.ref (He.ma K (He.ga K "System") "registrations"))) rfl)
  obtain ⟨fd_reg, F0reg⟩ := SaysB.def_ c 68 (d := (⟨("System", some "registrations"), "registrations", "System.registrations", defArgs sRegistrations, defBody sRegistrations, defScope sRegistrations, [], []⟩ : He.DefD)) rfl
  have xtIPr : PySem.W.typeIn K (.ref (He.ma K (He.ga K "NoProcess") "__init__")) = some (.type "function") := of_decide_eq_true (SaysB.ck c 453 (f := fun K => decide (PySem.W.typeIn K (.ref (He.ma K (He.ga K "NoProcess") "__init__")) = some (.type "function"))) rfl)
  have xtIOp : PySem.W.typeIn K (.ref (He.ma K (He.ga K "NotOpen") "__init__")) = some (.type "function") := of_decide_eq_true (SaysB.ck c 454 (f := fun K => decide (PySem.W.typeIn K (.ref (He.ma K (He.ga K "NotOpen") "__init__")) = some (.type "function"))) rfl)
  have xtINu : PySem.W.typeIn K (.ref (He.ma K (He.ga K "NoNumber") "__init__")) = some (.type "function") := of_decide_eq_true (SaysB.ck c 455 (f := fun K => decide (PySem.W.typeIn K (.ref (He.ma K (He.ga K "NoNumber") "__init__")) = some (.type "function"))) rfl)
  have xtINs : PySem.W.typeIn K (.ref (He.ma K (He.ga K "NotASource") "__init__")) = some (.type "function") := of_decide_eq_true (SaysB.ck c 456 (f := fun K => decide (PySem.W.typeIn K (.ref (He.ma K (He.ga K "NotASource") "__init__")) = some (.type "function"))) rfl)
  have xtINt : PySem.W.typeIn K (.ref (He.ma K (He.ga K "NotASet") "__init__")) = some (.type "function") := of_decide_eq_true (SaysB.ck c 457 (f := fun K => decide (PySem.W.typeIn K (.ref (He.ma K (He.ga K "NotASet") "__init__")) = some (.type "function"))) rfl)
  have xtIFu : PySem.W.typeIn K (.ref (He.ma K (He.ga K "Full") "__init__")) = some (.type "function") := of_decide_eq_true (SaysB.ck c 458 (f := fun K => decide (PySem.W.typeIn K (.ref (He.ma K (He.ga K "Full") "__init__")) = some (.type "function"))) rfl)
  have xtINo : PySem.W.typeIn K (.ref (He.ma K (He.ga K "NoRoom") "__init__")) = some (.type "function") := of_decide_eq_true (SaysB.ck c 459 (f := fun K => decide (PySem.W.typeIn K (.ref (He.ma K (He.ga K "NoRoom") "__init__")) = some (.type "function"))) rfl)
  have xtICo : PySem.W.typeIn K (.ref (He.ma K (He.ga K "BadCount") "__init__")) = some (.type "function") := of_decide_eq_true (SaysB.ck c 460 (f := fun K => decide (PySem.W.typeIn K (.ref (He.ma K (He.ga K "BadCount") "__init__")) = some (.type "function"))) rfl)
  have xtILa : PySem.W.typeIn K (.ref (He.ma K (He.ga K "BadLabel") "__init__")) = some (.type "function") := of_decide_eq_true (SaysB.ck c 461 (f := fun K => decide (PySem.W.typeIn K (.ref (He.ma K (He.ga K "BadLabel") "__init__")) = some (.type "function"))) rfl)
  have xtIWo : PySem.W.typeIn K (.ref (He.ma K (He.ga K "BadWord") "__init__")) = some (.type "function") := of_decide_eq_true (SaysB.ck c 462 (f := fun K => decide (PySem.W.typeIn K (.ref (He.ma K (He.ga K "BadWord") "__init__")) = some (.type "function"))) rfl)
  have xtIFi : PySem.W.typeIn K (.ref (He.ma K (He.ga K "Finished") "__init__")) = some (.type "function") := of_decide_eq_true (SaysB.ck c 463 (f := fun K => decide (PySem.W.typeIn K (.ref (He.ma K (He.ga K "Finished") "__init__")) = some (.type "function"))) rfl)
  have xtIRg : PySem.W.typeIn K (.ref (He.ma K (He.ga K "Registered") "__init__")) = some (.type "function") := of_decide_eq_true (SaysB.ck c 464 (f := fun K => decide (PySem.W.typeIn K (.ref (He.ma K (He.ga K "Registered") "__init__")) = some (.type "function"))) rfl)
  have xtITa : PySem.W.typeIn K (.ref (He.ma K (He.ga K "Taken") "__init__")) = some (.type "function") := of_decide_eq_true (SaysB.ck c 465 (f := fun K => decide (PySem.W.typeIn K (.ref (He.ma K (He.ga K "Taken") "__init__")) = some (.type "function"))) rfl)
  have xtINr : PySem.W.typeIn K (.ref (He.ma K (He.ga K "NotRegistered") "__init__")) = some (.type "function") := of_decide_eq_true (SaysB.ck c 466 (f := fun K => decide (PySem.W.typeIn K (.ref (He.ma K (He.ga K "NotRegistered") "__init__")) = some (.type "function"))) rfl)
  have xOpNr : PySem.W.exmOne K (.ref (He.ga K "NotOpen")) (.ref (He.ga K "NotRegistered")) = some false := of_decide_eq_true (SaysB.ck c 467 (f := fun K => decide (PySem.W.exmOne K (.ref (He.ga K "NotOpen")) (.ref (He.ga K "NotRegistered")) = some false)) rfl)
  have z_len : PySem.W.nsIn K mainGlobals "len" = some none := of_decide_eq_true (SaysB.ck c 468 (f := fun K => decide (PySem.W.nsIn K mainGlobals "len" = some none)) rfl)
  have z_enumerate : PySem.W.nsIn K mainGlobals "enumerate" = some none := of_decide_eq_true (SaysB.ck c 469 (f := fun K => decide (PySem.W.nsIn K mainGlobals "enumerate" = some none)) rfl)
  have z_int : PySem.W.nsIn K mainGlobals "int" = some none := of_decide_eq_true (SaysB.ck c 470 (f := fun K => decide (PySem.W.nsIn K mainGlobals "int" = some none)) rfl)
  have z_abs : PySem.W.nsIn K mainGlobals "abs" = some none := of_decide_eq_true (SaysB.ck c 471 (f := fun K => decide (PySem.W.nsIn K mainGlobals "abs" = some none)) rfl)
  have z_isinstance : PySem.W.nsIn K mainGlobals "isinstance" = some none := of_decide_eq_true (SaysB.ck c 472 (f := fun K => decide (PySem.W.nsIn K mainGlobals "isinstance" = some none)) rfl)
  have z_bool : PySem.W.nsIn K mainGlobals "bool" = some none := of_decide_eq_true (SaysB.ck c 473 (f := fun K => decide (PySem.W.nsIn K mainGlobals "bool" = some none)) rfl)
  have z_list : PySem.W.nsIn K mainGlobals "list" = some none := of_decide_eq_true (SaysB.ck c 474 (f := fun K => decide (PySem.W.nsIn K mainGlobals "list" = some none)) rfl)
  have z_min : PySem.W.nsIn K mainGlobals "min" = some none := of_decide_eq_true (SaysB.ck c 475 (f := fun K => decide (PySem.W.nsIn K mainGlobals "min" = some none)) rfl)
  have z_max : PySem.W.nsIn K mainGlobals "max" = some none := of_decide_eq_true (SaysB.ck c 476 (f := fun K => decide (PySem.W.nsIn K mainGlobals "max" = some none)) rfl)
  have z_range : PySem.W.nsIn K mainGlobals "range" = some none := of_decide_eq_true (SaysB.ck c 477 (f := fun K => decide (PySem.W.nsIn K mainGlobals "range" = some none)) rfl)
  have z_sorted : PySem.W.nsIn K mainGlobals "sorted" = some none := of_decide_eq_true (SaysB.ck c 478 (f := fun K => decide (PySem.W.nsIn K mainGlobals "sorted" = some none)) rfl)
  have z_any : PySem.W.nsIn K mainGlobals "any" = some none := of_decide_eq_true (SaysB.ck c 479 (f := fun K => decide (PySem.W.nsIn K mainGlobals "any" = some none)) rfl)
  have z_LookupError : PySem.W.nsIn K mainGlobals "LookupError" = some none := of_decide_eq_true (SaysB.ck c 480 (f := fun K => decide (PySem.W.nsIn K mainGlobals "LookupError" = some none)) rfl)
  have z_RuntimeError : PySem.W.nsIn K mainGlobals "RuntimeError" = some none := of_decide_eq_true (SaysB.ck c 481 (f := fun K => decide (PySem.W.nsIn K mainGlobals "RuntimeError" = some none)) rfl)
  have z_TypeError : PySem.W.nsIn K mainGlobals "TypeError" = some none := of_decide_eq_true (SaysB.ck c 482 (f := fun K => decide (PySem.W.nsIn K mainGlobals "TypeError" = some none)) rfl)
  have z_ValueError : PySem.W.nsIn K mainGlobals "ValueError" = some none := of_decide_eq_true (SaysB.ck c 483 (f := fun K => decide (PySem.W.nsIn K mainGlobals "ValueError" = some none)) rfl)
  have z_OverflowError : PySem.W.nsIn K mainGlobals "OverflowError" = some none := of_decide_eq_true (SaysB.ck c 484 (f := fun K => decide (PySem.W.nsIn K mainGlobals "OverflowError" = some none)) rfl)
  have wA : PySem.W.nsIn K mainGlobals "WORDS" = some (some (.ref (He.ga K "WORDS"))) := of_decide_eq_true (SaysB.ck c 485 (f := fun K => decide (PySem.W.nsIn K mainGlobals "WORDS" = some (some (.ref (He.ga K "WORDS"))))) rfl)
  obtain ⟨dW, tW0, tW1, tW2, nW, sW, LW0⟩ := txtB_ok (SaysB.ck c 486 (f := fun K => txtB K (He.ga K "WORDS") "level" "edge" "once") rfl)
  obtain ⟨tMC, gMC⟩ := intB_ok (SaysB.ck c 487 (f := fun K => intB (PySem.W.nsIn K mainGlobals "MOST_COUNT") 1000000) rfl)
  obtain ⟨tML, gML⟩ := intB_ok (SaysB.ck c 488 (f := fun K => intB (PySem.W.nsIn K mainGlobals "MOST_LABEL") 999999) rfl)
  obtain ⟨tLP, gLP⟩ := intB_ok (SaysB.ck c 489 (f := fun K => intB (PySem.W.nsIn K mainGlobals "LEAST_PROCESSES") 2) rfl)
  obtain ⟨tLN, gLN⟩ := intB_ok (SaysB.ck c 490 (f := fun K => intB (PySem.W.nsIn K mainGlobals "LEAST_NUMBERS") 3) rfl)
  obtain ⟨tMP, gMP, sMP⟩ := atB_ok (SaysB.ck c 491 (f := fun K => atB K (PySem.W.findIn K (.ref (He.ga K "System")) "MOST_PROCESSES") 6) rfl)
  obtain ⟨tMN, gMN, sMN⟩ := atB_ok (SaysB.ck c 492 (f := fun K => atB K (PySem.W.findIn K (.ref (He.ga K "System")) "MOST_NUMBERS") 8) rfl)
  exact all_mk (w := w) X G hfa gCS pgS hdS poS saS mkS kcS noS0 noS1 noS2 noS3 noS4 noS5 gCW pgW hdW poW saW mkW kcW noW0 noW1 gCR pgR hdR poR saR mkR kcR noR0 noR1 noR2 noR3 nWR gCPr xLPr xsaPr xgaPr xggPr xnbPr0 xvVPr xkCPr xeCPr xtCPr xhCPr xtePr xC1Pr xC4Pr xC5Pr xkvPr xC2 xC3 gCOp xLOp xsaOp xgaOp xggOp xnbOp0 xvVOp xkCOp xeCOp xtCOp xhCOp xteOp xC1Op xC4Op xC5Op xkvOp gCNu xLNu xsaNu xgaNu xggNu xnbNu0 xvVNu xkCNu xeCNu xtCNu xhCNu xteNu xC1Nu xC4Nu xC5Nu xkvNu gCNs xLNs xsaNs xgaNs xggNs xnbNs0 xvVNs xkCNs xeCNs xtCNs xhCNs xteNs xC1Ns xC4Ns xC5Ns xkvNs gCNt xLNt xsaNt xgaNt xggNt xnbNt0 xvVNt xkCNt xeCNt xtCNt xhCNt xteNt xC1Nt xC4Nt xC5Nt xkvNt gCFu xLFu xsaFu xgaFu xggFu xnbFu0 xvVFu xkCFu xeCFu xtCFu xhCFu xteFu xC1Fu xC4Fu xC5Fu xkvFu gCNo xLNo xsaNo xgaNo xggNo xvVNo xkCNo xeCNo xtCNo xhCNo xteNo xC1No xC4No xC5No xkvNo gCCo xLCo xsaCo xgaCo xggCo xnbCo0 xvVCo xkCCo xeCCo xtCCo xhCCo xteCo xC1Co xC4Co xC5Co xkvCo gCLa xLLa xsaLa xgaLa xggLa xnbLa0 xvVLa xkCLa xeCLa xtCLa xhCLa xteLa xC1La xC4La xC5La xkvLa gCWo xLWo xsaWo xgaWo xggWo xnbWo0 xvVWo xkCWo xeCWo xtCWo xhCWo xteWo xC1Wo xC4Wo xC5Wo xkvWo gCFi xLFi xsaFi xgaFi xggFi xnbFi0 xvVFi xkCFi xeCFi xtCFi xhCFi xteFi xC1Fi xC4Fi xC5Fi xkvFi gCRg xLRg xsaRg xgaRg xggRg xnbRg0 xvVRg xkCRg xeCRg xtCRg xhCRg xteRg xC1Rg xC4Rg xC5Rg xkvRg gCTa xLTa xsaTa xgaTa xggTa xnbTa0 xvVTa xkCTa xeCTa xtCTa xhCTa xteTa xC1Ta xC4Ta xC5Ta xkvTa gCNr xLNr xsaNr xgaNr xggNr xnbNr0 xvVNr xkCNr xeCNr xtCNr xhCNr xteNr xC1Nr xC4Nr xC5Nr xkvNr aint kint F0int abet kbet F0bet acnt kcnt F0cnt alab klab F0lab awrd kwrd F0wrd abag kbag F0bag atake ktake F0take aof kof F0of aunr kunr F0unr arou krou F0rou alrp klrp F0lrp aldr kldr F0ldr alaw klaw F0law axPr ixPr kxPr F0xPr axOp ixOp kxOp F0xOp axNu ixNu kxNu F0xNu axNs ixNs kxNs F0xNs axNt ixNt kxNt F0xNt axFu ixFu kxFu F0xFu axNo ixNo kxNo F0xNo axCo ixCo kxCo F0xCo axLa ixLa kxLa F0xLa axWo ixWo kxWo F0xWo axFi ixFi kxFi F0xFi axRg ixRg kxRg F0xRg axTa ixTa kxTa F0xTa axNr ixNr kxNr F0xNr ari iri kri F0ri awi iwi kwi F0wi alof ilof klof F0lof aput iput kput F0put aapp iapp kapp F0app adrp idrp kdrp F0drp adso idso kdso F0dso antc intc kntc F0ntc arep irep krep F0rep astl istl kstl F0stl asi isi ksi F0si acon icon kcon F0con alen ilen klen F0len atof itof ktof F0tof aitn iitn kitn F0itn atha itha ktha F0tha asra isra ksra F0sra asta ista ksta F0sta afrn ifrn kfrn F0frn anth inth knth F0nth anso inso knso F0nso anse inse knse F0nse ardy irdy krdy F0rdy aunf iunf kunf F0unf anfy infy knfy F0nfy aetg ietg ketg F0etg aarr iarr karr F0arr ared ired kred F0red awai iwai kwai F0wai aadd iadd kadd F0add achg ichg kchg F0chg arem irem krem F0rem afre ifre kfre F0fre aclo iclo kclo F0clo acpy icpy kcpy F0cpy afrp ifrp kfrp F0frp afrk ifrk kfrk F0frk anum inum knum F0num atng itng ktng F0tng anof inof knof F0nof anam inam knam F0nam areg ireg kreg F0reg xtIPr xtIOp xtINu xtINs xtINt xtIFu xtINo xtICo xtILa xtIWo xtIFi xtIRg xtITa xtINr xOpNr z_len z_enumerate z_int z_abs z_isinstance z_bool z_list z_min z_max z_range z_sorted z_any z_LookupError z_RuntimeError z_TypeError z_ValueError z_OverflowError wA LW0 gMC gML gLP gLN gMP sMP gMN sMN


end Wn
namespace Wn
open PySem PySem.Spec PyProof.Rows L2
end Wn
open PySem PySem.W PySem.Calls PyProof.Rows in
set_option maxRecDepth 100000 in
set_option maxHeartbeats 0 in
theorem PySem.Challenge.cw_waitnumbers_k08_numbers_used_again_holds : PySem.Challenge.rw_waitnumbers_k08_numbers_used_again.Holds := by
  w_on; o_law
  refine HandSHeadRun.head_any (r := OpenLaw.row PySem.Challenge.rw_waitnumbers_k08_numbers_used_again) (q := view (OpenLaw.row PySem.Challenge.rw_waitnumbers_k08_numbers_used_again).prog [41]) (H := Wn.hk) (ob := Wn.ob) (M := 9000) (loose := Wn.nmL) (d := HandSHeadRun.topDef (OpenLaw.row PySem.Challenge.rw_waitnumbers_k08_numbers_used_again).prog 41) (kwd := []) Wn.ob_eq
    (by kernel_rfl) (fun s => by kernel_rfl) Wn.run (by kernel_rfl) (by kernel_rfl) (by kernel_rfl) (by rfl) (by first | assumption | decide +kernel) (by decide +kernel) ⟨rfl, rfl, rfl, rfl, rfl, by decide +kernel⟩ ?hw ?hc
  case hw => w_witness2
  case hc =>
    refine L2.walk_ofE (l := PySem.Challenge.rw_waitnumbers_k08_numbers_used_again) (n := 63) (k := 9) (x := "_law_script") (CX := L2.CX0) rfl (by decide) (by kernel_rfl) ⟨rfl, by decide, by decide⟩ ?F (fun _ _ _ _ z => z)
    intro w mg fa h Y G hmg0
    obtain ⟨K, KX, c, _⟩ := Y
    have hmg : mg ("law" : PySem.Str) = some (.ref fa) := by
      have e : (HandSHeadRun.topDef Wn.Rw.prog 41).name = ("law" : PySem.Str) := by kernel_rfl
      rw [← e]
      exact hmg0
    obtain ⟨fd, hb, hF⟩ := Wn.facts (P := (PySem.Challenge.rw_waitnumbers_k08_numbers_used_again).prog) (w := w) KX G hmg c
    exact ⟨K, fd, Wn.spLaw K, KX, hb, fun H a ns hl _ hS => ⟨a, ns, rfl, hS, hl, fun _ => rfl⟩, hF⟩
